import PyProof.Rows.All
import Wide.All
import OpenK.AllK
import Wide.FinOn
import HandS.ForMost
import HandS.IsInst
import HandS.Codes
import HandS.Star
import HandS.Style
import HandS.FStr
import HandS.Rev
import HandS.DeepEq
import HandS.More
import HandS.Exc
import HandS.TryOnly
import HandS.ExcOwn
import HandS.WordsExc
import PyProof.StrOps2
import HandS.RaiseMore
import HandS.ReplaceLit
import HandS.ReplaceList
import KE.KUnpackStar
import HandS.TryMany
import HandS.CallLocal
import HandS.ExcInit
import HandS.ExcField
import HandS.Nested
import HandS.FStrTup
import HandS.ExcSuper
import KE.KExcSuper
import KE.RegKSuper
import HandS.TupAny
import HandS.Conv
import PyProof.EqAt
import HandS.List
import KE.KIsAll
import KE.KExcIs
import HandS.Deep
import HandS.Dict
import HandS.WrittenGet
import PyProof.MinMaxWalk
import PyProof.WalkInts
import HandS.SortKw
import HandS.Lambda
import HandS.EndTab
import KE.KNest
import KE.KNestM
import HandS.Iter
import HandS.Zip
import KE.GoesEnum
import HandS.SetBool
import HandS.Set
import HandS.Strs
import HandS.Walk
import HandS.SortInts
import HandS.DictTup
import HandS.TupLen
import HandS.Wide
import HandS.Text
import PyProof.DictMoreH
import HandS.RevRange
import HandS.DictComp
import HandS.Flow
import PyProof.ReprNest
import PyProof.ReprUnder
import PyProof.StrHeap
import PyProof.P3In
import PySem.Challenge.RW_onlybuilt_k36_which_step
set_option Elab.async false
set_option linter.all false
set_option maxRecDepth 100000
/-! ### heaps -/
namespace Ob
open PySem PySem.Spec PyProof.Rows L2

theorem seqT {K : PySem.W.Frag} {H H' : Hp} {a : Addr} {xs : List V} (e : Same H H') (h : SqT K H a xs) : SqT K H' a xs := by
  rcases h with (h | ⟨o, h⟩) | h
  · exact .inl (.inl (e _ _ h))
  · exact .inl (.inr ⟨o, e _ _ h⟩)
  · exact .inr h
theorem same_new {H : Hp} {p : Addr} {o : HO} (h : H p = none) : Same H (upd H p o) := fun b x e => by
  rw [upd_ne (ne_of_none e h)]
  exact e
theorem same_put {H H' : Hp} {p : Addr} {o : HO} (s : Same H H') (h : H p = none) : Same H (upd H' p o) := fun b x e => by
  rw [upd_ne (ne_of_none e h)]
  exact s b x e
/-- the tuples stay -/
def TK (K : PySem.W.Frag) (H H' : Hp) : Prop := ∀ a xs, SqT K H a xs → SqT K H' a xs
theorem Same.tk {K : PySem.W.Frag} {H H' : Hp} (e : Same H H') : TK K H H' := fun _ _ h => seqT e h
theorem TK.refl {K : PySem.W.Frag} {H : Hp} : TK K H H := fun _ _ h => h
theorem TK.trans {K : PySem.W.Frag} {H H1 H2 : Hp} (a : TK K H H1) (b : TK K H1 H2) : TK K H H2 := fun x y h => b x y (a x y h)
theorem TK.lst {K : PySem.W.Frag} {H : Hp} {p : Addr} {xs : List V} {o : HO} (h : H p = some (.lst xs)) : TK K H (upd H p o) := fun a ys q => by
  rcases q with (q | ⟨ob, q⟩) | q
  · exact .inl (.inl (by rw [upd_ne (ne_of q h (by intro z; cases z))]; exact q))
  · exact .inl (.inr ⟨ob, by rw [upd_ne (ne_of q h (by intro z; cases z))]; exact q⟩)
  · exact .inr q
theorem TK.new {K : PySem.W.Frag} {H : Hp} {p : Addr} {o : HO} (h : H p = none) : TK K H (upd H p o) := Same.tk (same_new h)
theorem tyL {K : PySem.W.Frag} {H : Hp} {p : Addr} {xs : List V} (h : H p = some (.lst xs)) : tyV K "list" (.ref p) H := .inl ⟨rfl, _, .inl (.inl h)⟩
theorem at0 {x : V} {xs : List V} : atI (x :: xs) 0 = some x := atI_nat (j := 0) rfl
theorem at1 {x y : V} {xs : List V} : atI (x :: y :: xs) 1 = some y := atI_nat (j := 1) rfl
theorem at2 {x y z : V} {xs : List V} : atI (x :: y :: z :: xs) 2 = some z := atI_nat (j := 2) rfl
theorem last_rev {x : V} {xs : List V} : (x :: xs).reverse[(x :: xs).reverse.length - 1]? = some x := by
  rw [List.reverse_cons, List.length_append, List.length_singleton, Nat.add_sub_cancel, List.getElem?_append_right (Nat.le_refl _), Nat.sub_self]
  rfl
theorem drop_rev {x : V} {xs : List V} : (x :: xs).reverse.dropLast = xs.reverse := by
  rw [List.reverse_cons, List.dropLast_concat]
theorem add_rev {x : V} {xs : List V} : xs.reverse ++ [x] = (x :: xs).reverse := (List.reverse_cons).symm
theorem emp_rev {x : V} {xs : List V} : (!(x :: xs).reverse.isEmpty) = true := by
  rw [List.reverse_cons]
  cases xs.reverse <;> rfl
theorem small {n : Nat} (h : n ≤ 100000) : n < sizeLine := Nat.lt_of_le_of_lt h (by decide)
theorem small' {n : Nat} (h : n ≤ 100000) : n ≤ sizeLine := Nat.le_of_lt (small h)
theorem sz0 : ([] : List V).length ≤ sizeLine := by show 0 ≤ sizeLine; decide
theorem sz1 {a : V} : [a].length ≤ sizeLine := by show 1 ≤ sizeLine; decide
theorem sz2 {a b : V} : [a, b].length ≤ sizeLine := by show 2 ≤ sizeLine; decide
theorem sz3 {a b c : V} : [a, b, c].length ≤ sizeLine := by show 3 ≤ sizeLine; decide
theorem sz4 {a b c d : V} : [a, b, c, d].length ≤ sizeLine := by show 4 ≤ sizeLine; decide
theorem pair_app {α β : Type} {R : α → β → Prop} : ∀ {xs ys : List α} {us ws : List β}, Paired R xs us → Paired R ys ws → Paired R (xs ++ ys) (us ++ ws)
  | _, _, _, _, .nil, s => s
  | _, _, _, _, .cons r t, s => .cons r (pair_app t s)
theorem pair_len {α β : Type} {R : α → β → Prop} : ∀ {xs : List α} {us : List β}, Paired R xs us → xs.length = us.length
  | _, _, .nil => rfl
  | _, _, .cons _ t => by rw [List.length_cons, List.length_cons, pair_len t]
theorem pair_map {α β : Type} {R S : α → β → Prop} (h : ∀ a b, R a b → S a b) : ∀ {xs : List α} {us : List β}, Paired R xs us → Paired S xs us
  | _, _, .nil => .nil
  | _, _, .cons r t => .cons (h _ _ r) (pair_map h t)
theorem pair_get {α β : Type} {R : α → β → Prop} : ∀ {xs : List α} {us : List β} {i : Nat} {x : α}, Paired R xs us → xs[i]? = some x → ∃ u, us[i]? = some u ∧ R x u
  | _, _, _, _, .nil, e => by simp at e
  | _, _, 0, x, .cons r _, e => by
    have e' := Option.some.inj e
    subst e'
    exact ⟨_, rfl, r⟩
  | _, _, i + 1, x, .cons _ t, e => by
    obtain ⟨u, h1, h2⟩ := pair_get (i := i) (x := x) t (by simpa using e)
    exact ⟨u, by simpa using h1, h2⟩

/-! ### statements -/
inductive J where
  | and | or | thn
  deriving DecidableEq
def J.s : J → Str
  | .and => "and" | .or => "or" | .thn => "then"
inductive Sm where
  | lt (n : List Nat) | nv | bin (w : J) (a b : Sm)
  deriving DecidableEq
def Sm.size : Sm → Nat
  | .lt _ => 1
  | .nv => 1
  | .bin _ a b => a.size + b.size + 1
def Sm.joints : Sm → Nat
  | .lt _ => 0
  | .nv => 0
  | .bin _ a b => a.joints + b.joints + 1
theorem Sm.size_joints : ∀ s : Sm, s.size = 2 * s.joints + 1
  | .lt _ => rfl
  | .nv => rfl
  | .bin _ a b => by
    have h1 := a.size_joints
    have h2 := b.size_joints
    show a.size + b.size + 1 = 2 * (a.joints + b.joints + 1) + 1
    omega
theorem Sm.size_pos (s : Sm) : 0 < s.size := by rw [s.size_joints]; omega
def Sm.isBin : Sm → Bool
  | .bin _ _ _ => true
  | _ => false
def Sm.standing : Sm → List Sm
  | .lt n => [.lt n]
  | .nv => [.nv]
  | .bin w a b => .bin w a b :: (a.standing ++ b.standing)
theorem Sm.len_standing : ∀ s : Sm, s.standing.length = s.size
  | .lt _ => rfl
  | .nv => rfl
  | .bin w a b => by
    show (Sm.bin w a b :: (a.standing ++ b.standing)).length = a.size + b.size + 1
    rw [List.length_cons, List.length_append, a.len_standing, b.len_standing]
theorem Sm.bin_standing : ∀ s : Sm, (s.standing.filter Sm.isBin).length = s.joints
  | .lt _ => rfl
  | .nv => rfl
  | .bin w a b => by
    show ((Sm.bin w a b :: (a.standing ++ b.standing)).filter Sm.isBin).length = a.joints + b.joints + 1
    rw [List.filter_cons_of_pos rfl, List.length_cons, List.filter_append, List.length_append, a.bin_standing, b.bin_standing]
/-- all letters are such -/
def Sm.In (p : List Nat → Prop) : Sm → Prop
  | .lt n => p n
  | .nv => True
  | .bin _ a b => a.In p ∧ b.In p
theorem Sm.In.imp {p q : List Nat → Prop} (h : ∀ l, p l → q l) : ∀ {s : Sm}, s.In p → s.In q
  | .lt _, g => h _ g
  | .nv, _ => True.intro
  | .bin _ a b, g => ⟨Sm.In.imp h (s := a) g.1, Sm.In.imp h (s := b) g.2⟩
/-- knots, c: within the left part of a then -/
def Sm.kn (c : Bool) : Sm → Nat
  | .lt _ => 0
  | .nv => 0
  | .bin w a b => (if w = .or ∨ (w = .thn ∧ c = true) then 1 else 0) + a.kn (c || decide (w = .thn)) + b.kn c
/-- the value v is the statement s -/
inductive IsSm (K : PySem.W.Frag) (H : Hp) : V → Sm → Prop where
  | lt {a : Addr} {n : List Nat} : SqT K H a [.str "letter", .str (SX.S n)] → IsSm K H (.ref a) (.lt n)
  | nv {a : Addr} : SqT K H a [.str "never"] → IsSm K H (.ref a) .nv
  | bin {a : Addr} {w : J} {l r : V} {s t : Sm} : SqT K H a [.str w.s, l, r] → IsSm K H l s → IsSm K H r t → IsSm K H (.ref a) (.bin w s t)
theorem IsSm.tk {K : PySem.W.Frag} {H H' : Hp} (k : TK K H H') {v : V} {s : Sm} (h : IsSm K H v s) : IsSm K H' v s := by
  induction h with
  | lt h => exact .lt (k _ _ h)
  | nv h => exact .nv (k _ _ h)
  | bin h _ _ i1 i2 => exact .bin (k _ _ h) i1 i2
theorem IsSm.same {K : PySem.W.Frag} {H H' : Hp} (e : Same H H') {v : V} {s : Sm} (h : IsSm K H v s) : IsSm K H' v s := h.tk (Same.tk e)
/-- what is read of a statement's tuple -/
def Sm.len : Sm → Nat
  | .lt _ => 2
  | .nv => 1
  | .bin _ _ _ => 3
theorem IsSm.tup {K : PySem.W.Frag} {H : Hp} {v : V} {s : Sm} (h : IsSm K H v s) : ∃ a xs, v = .ref a ∧ SqT K H a xs ∧ xs.length = s.len := by
  cases h with
  | lt h => exact ⟨_, _, rfl, h, rfl⟩
  | nv h => exact ⟨_, _, rfl, h, rfl⟩
  | bin h _ _ => exact ⟨_, _, rfl, h, rfl⟩

/-! ### defs -/
section
variable (P : Program) (w : World) (K : PySem.W.Frag) (mg : Str → Option Value) (base : Heap)
/-- a def of the text -/
structure Df (x : Str) (st : Stmt) (ps : List Str) : Prop where
  ex : ∃ (f : Addr) (fd : FuncData), Fun K x x st f fd ∧ mg x = some (.ref f) ∧ Binds K fd ps []
/-- a def's promise -/
structure Cl (k : Nat) (x : Str) (sp : Sp) : Prop where
  ex : ∃ (f : Addr) (fd : FuncData) (ps : List Str), FnOk P w K mg base CX0 k f fd ps sp ∧ mg x = some (.ref f) ∧ PySem.W.keepIn K (.ref f) = true ∧ Binds K fd ps []
end
section
variable {P : Program} {w : World} {K : PySem.W.Frag} {mg : Str → Option Value} {base : Heap}
theorem Df.ok {x : Str} {st : Stmt} {ps N : List Str} {k : Nat} {sp : Sp} (D : Df K mg x st ps) (S : FnScope N ps (defScope st)) (len : ∀ vs H Q E, sp vs H Q E → vs.length = ps.length)
    (hbody : ∀ (f : Addr) (cdv : Value) (A : Around) (outer : List Env) (s : Shared) (H : Hp) (vs : List V) (Q : VK) (E : XK), Room k (A.deeper (envOfC x (defScope st) s.heap.objs.size f cdv)) → sp vs H Q E →
      ∃ t, PSs (cxOf CX0 P w K mg base N x (defScope st) f cdv A outer s H E).nox (defBody st) t ∧ t { nx := fun _ H' => Q .non H', rt := Q } (start N vs) H) : Cl P w K mg base (k + 1) x sp := by
  obtain ⟨f, fd, F, m, b⟩ := D.ex
  exact ⟨f, fd, ps, F.ok S len (hbody f), m, F.kp, b⟩
theorem Df.none {x : Str} {st : Stmt} {ps : List Str} {sp : Sp} (D : Df K mg x st ps) (no : ∀ vs H Q E, ¬ sp vs H Q E) : Cl P w K mg base 0 x sp := by
  obtain ⟨f, fd, F, m, b⟩ := D.ex
  exact ⟨f, fd, ps, ⟨fun vs H Q E h => absurd h (no vs H Q E), fun A outer s H args us vs Q E _ _ _ _ h => absurd h (no vs H Q E)⟩, m, F.kp, b⟩
theorem Cl.mono {j k : Nat} {x : Str} {sp : Sp} (c : Cl P w K mg base j x sp) (h : j ≤ k) : Cl P w K mg base k x sp := by
  obtain ⟨f, fd, ps, F, m, kp, b⟩ := c.ex
  exact ⟨f, fd, ps, F.mono h, m, kp, b⟩
end
section
variable {X : Cx}
theorem pe_k {k j : Nat} {x : Str} {sp : Sp} {p pos : Pos} {e : Expr} {es : List Expr} {t : TA} (c : Cl X.prog X.w X.K X.mg X.base k x sp) (hr : Room j X.A) (hk : k ≤ j) (hg : Gl X x) (ha : PA X (e :: es) t)
    (hdb : (x == ("__debug__" : Str)) = false := by decide) (he : starEach (e :: es) X.env = (false, eval e X.env) :: starEach es X.env := by rfl) (hpl : (backTo pos (starEach es X.env)).any (·.1) = false := by rfl) : PE X (.Call (.Name x p) (e :: es) [] pos) (tCall sp [] E0 t) := by
  obtain ⟨f, fd, ps, F, m, kp, b⟩ := c.ex
  exact pe_call F (hr.mono hk) hg m kp b .nil pass0 ha hdb he hpl
end

def rLenK (K : PySem.W.Frag) : List V → Hp → VK → Prop := fun xs H Q => ∃ p ys, xs = [.ref p] ∧ (SqL K H p ys ∨ SqT K H p ys) ∧ Q (.int ys.length) H
def rListK (K : PySem.W.Frag) : List V → Hp → VK → Prop := fun xs H Q => ∃ p ys, xs = [.ref p] ∧ (SqL K H p ys ∨ SqT K H p ys) ∧ ∀ l, H l = none → Q (.ref l) (upd H l (.lst ys))
def tTru (K : PySem.W.Frag) (ta : TE) : TT := fun σ H Q => ta σ H fun x H' => ∃ k, TruV K x H' k ∧ Q k H'
theorem pt_truthK {X : Cx} {a : Expr} {ta : TE} {K : PySem.W.Frag} (ha : PE X a ta) (he : ∀ whole, isTrue a X.env whole = (do let v ← whole; standAt a.pos; holding [v] (truthy v))) (hK : X.K = K := by rfl) :
    PT X a (tTru K ta) := by
  subst hK
  exact pt_truth ha he
theorem pi_listK {X : Cx} {K : PySem.W.Frag} {tg e : Expr} {te : TE} (he : PE X e te) (hK : X.K = K := by rfl) : PI X tg e (iList K te) := by
  subst hK
  exact pi_list he
theorem pi_tupK {X : Cx} {K : PySem.W.Frag} {tg e : Expr} {te : TE} (he : PE X e te) (hK : X.K = K := by rfl) : PI X tg e (iTup K te) := by
  subst hK
  exact pi_tup he
/-! ### a cut behind a statement -/
def tCutO (t u : TS) : TS := fun D σ H => ∃ Mid : L2.St → Hp → Prop, t { D with nx := Mid } σ H ∧ ∀ σ' H', Mid σ' H' → u D σ' H'
theorem pss_cutO {X : Cx} {st : Stmt} {rest : List Stmt} {t u : TS} (h1 : PS X st t) (h2 : PSs X rest u) : PSs X (st :: rest) (tCutO t u) := by
  refine ⟨fun pins s σ H D I h => ?_⟩
  obtain ⟨Mid, q1, q2⟩ := h
  refine wpAny_execs_cons (thn (h1.run pins s σ H { D with nx := Mid } I q1) fun f s1 q => ?_)
  cases f with
  | next =>
    obtain ⟨σ', H', I', q⟩ := q
    exact h2.run pins s1 σ' H' D I' (q2 σ' H' q)
  | ret v => exact q
  | brk => exact q
  | cont => exact q

/-! ### texts, cuts, names -/
abbrev S (l : List Nat) : Str := SX.S l
theorem S_tl (x : Str) : S x.cps.toList = x := SX.S_tl x
theorem S_cps (l : List Nat) : (S l).cps.toList = l := rfl
theorem S_inj {a b : List Nat} (h : S a = S b) : a = b := SX.S_inj h
theorem S_len (a : List Nat) : (S a).length = a.length := SX.S_len a
theorem S_cat (a b : List Nat) : S a ++ S b = S (a ++ b) := SX.S_cat a b
theorem joinL_signs : ∀ cs : List Nat, TL.joinL [] (cs.map fun c => [c]) = cs
  | [] => rfl
  | [_] => rfl
  | c :: d :: r => by
    show [c] ++ ([] ++ TL.joinL [] ((d :: r).map fun c => [c])) = c :: d :: r
    rw [joinL_signs (d :: r)]
    rfl
theorem join_signs (cs : List Nat) : Txt.join ("" : Str) (cs.map fun c => S [c]) = S cs := by
  have h := SX.join_S [] (cs.map fun c => [c])
  rw [List.map_map, joinL_signs] at h
  exact h
theorem sum_ones (cs : List Nat) : ((cs.map fun c => S [c]).map (·.length)).sum = cs.length := by
  rw [List.map_map]
  induction cs with
  | nil => rfl
  | cons c r ih =>
    rw [List.map_cons, List.sum_cons, ih, List.length_cons, Nat.add_comm]
    rfl
theorem cut_nat (xs : List V) (a b : Nat) : cutV xs (some (a : Int)) (some (b : Int)) = (xs.drop a).take (b - a) := by
  unfold cutV
  rw [HT.sIx_nat, HT.sIx_nat]
  by_cases h : a ≤ xs.length
  · rw [Nat.min_eq_left h]
    by_cases g : b ≤ xs.length
    · rw [Nat.min_eq_left g]
    · rw [Nat.min_eq_right (by omega), List.take_of_length_le (by rw [List.length_drop]; omega), List.take_of_length_le (by rw [List.length_drop]; omega)]
  · rw [Nat.min_eq_right (show xs.length ≤ a by omega), List.drop_of_length_le (Nat.le_refl _), List.drop_of_length_le (show xs.length ≤ a by omega), List.take_nil, List.take_nil]
theorem cut_from (xs : List V) (a : Nat) : cutV xs (some (a : Int)) none = xs.drop a := by
  unfold cutV
  rw [HT.sIx_nat, HT.sIx_none]
  by_cases h : a ≤ xs.length
  · rw [Nat.min_eq_left h, List.take_of_length_le (by rw [List.length_drop]; exact Nat.le_refl _)]
  · rw [Nat.min_eq_right (show xs.length ≤ a by omega), List.drop_of_length_le (Nat.le_refl _), List.drop_of_length_le (show xs.length ≤ a by omega), List.take_nil]
theorem cut_to (xs : List V) (b : Nat) : cutV xs none (some (b : Int)) = xs.take b := by
  unfold cutV
  rw [HT.sIx_nat, HT.sIx_none, List.drop_zero, Nat.sub_zero]
  by_cases g : b ≤ xs.length
  · rw [Nat.min_eq_left g]
  · rw [Nat.min_eq_right (by omega), List.take_of_length_le (Nat.le_refl _), List.take_of_length_le (by omega)]
/-- a name of a letter, as its signs -/
structure Nm (l : List Nat) : Prop where
  lo : 1 ≤ l.length
  hi : l.length ≤ 8
  abc : ∀ c ∈ l, 97 ≤ c ∧ c ≤ 122
  free : S l ≠ "and" ∧ S l ≠ "or" ∧ S l ≠ "then" ∧ S l ≠ "never"
theorem abc_at : ∀ j : Nat, j < 26 → ((("abcdefghijklmnopqrstuvwxyz" : Str)).cps.toList)[j]? = some (97 + j) := by
  decide +kernel

theorem inV_str (x : Str) (ys : List Str) : inV (.str x) (ys.map V.str) = ys.any (· == x) := by
  unfold inV
  rw [List.any_map]
  rfl
theorem kept_cases {l : List Nat} (h : inV (.str (S l)) [.str "and", .str "or", .str "then", .str "never"] = true) : l = [97, 110, 100] ∨ l = [111, 114] ∨ l = [116, 104, 101, 110] ∨ l = [110, 101, 118, 101, 114] := by
  have h' : (["and", "or", "then", "never"] : List Str).any (· == S l) = true := by rw [← inV_str]; exact h
  rw [List.any_eq_true] at h'
  obtain ⟨x, hx, e⟩ := h'
  have e' : x = S l := eq_of_beq e
  have e2 : x.cps.toList = l := by rw [e']
  rw [← e2]
  rcases List.mem_cons.mp hx with rfl | hx
  · exact .inl (by decide +kernel)
  rcases List.mem_cons.mp hx with rfl | hx
  · exact .inr (.inl (by decide +kernel))
  rcases List.mem_cons.mp hx with rfl | hx
  · exact .inr (.inr (.inl (by decide +kernel)))
  rcases List.mem_cons.mp hx with rfl | hx
  · exact .inr (.inr (.inr (by decide +kernel)))
  · cases hx
theorem kept_not {l : List Nat} (h : ¬ inV (.str (S l)) [.str "and", .str "or", .str "then", .str "never"] = true) : S l ≠ "and" ∧ S l ≠ "or" ∧ S l ≠ "then" ∧ S l ≠ "never" := by
  have h' : ¬ (["and", "or", "then", "never"] : List Str).any (· == S l) = true := by rw [← inV_str]; exact h
  rw [List.any_eq_true] at h'
  have n : ∀ x ∈ (["and", "or", "then", "never"] : List Str), S l ≠ x := fun x hx e => h' ⟨x, hx, by rw [e]; exact beq_self_eq_true x⟩
  exact ⟨n _ (by simp), n _ (by simp), n _ (by simp), n _ (by simp)⟩
theorem nm_no {l : List Nat} (h1 : 1 ≤ l.length) (h2 : l.length ≤ 8) (h3 : ∀ c ∈ l, 97 ≤ c ∧ c ≤ 122) (h : ¬ inV (.str (S l)) [.str "and", .str "or", .str "then", .str "never"] = true) : Nm l := ⟨h1, h2, h3, kept_not h⟩
theorem nm_x {l : List Nat} (h : inV (.str (S l)) [.str "and", .str "or", .str "then", .str "never"] = true) : Nm (l ++ [120]) := by
  rcases kept_cases h with rfl | rfl | rfl | rfl <;> exact ⟨by decide, by decide, by decide, by decide +kernel⟩

/-! ### tests and values that change nothing -/
section
variable {σ : L2.St} {H : Hp} {ta tb : TE} {t u : TT} {x y z v : V} {a b : Bool} {K : PySem.W.Frag}
def An (t : TT) (σ : L2.St) (H : Hp) (b : Bool) : Prop := ∀ Q : Bool → Hp → Prop, Q b H → t σ H Q
def Vl (te : TE) (σ : L2.St) (H : Hp) (v : V) : Prop := ∀ Q : VK, Q v H → te σ H Q
theorem vl_var {i : Nat} (h : σ[i]? = some (some v)) : Vl (tVar i) σ H v := fun _ q => ⟨v, h, q⟩
theorem vl_c : Vl (tC v) σ H v := fun _ q => q
theorem an_or (h1 : An t σ H a) (h2 : An u σ H b) : An (tOr t u) σ H (a || b) := fun Q q => h1 _ (by
  cases a with
  | true => exact iteT q
  | false => exact iteF (h2 Q q))
theorem an_and (h1 : An t σ H a) (h2 : An u σ H b) : An (tAnd t u) σ H (a && b) := fun Q q => h1 _ (by
  cases a with
  | true => exact iteT (h2 Q q)
  | false => exact iteF q)
theorem an_not (h : An t σ H a) : An (tNot t) σ H (!a) := fun Q q => h _ q
theorem an_val (h : Vl ta σ H (.bl b)) : An (tB ta) σ H b := fun Q q => h _ ⟨b, rfl, q⟩
theorem an_test (h : Vl ta σ H (.bl b)) : An (tTest ta) σ H b := fun Q q => h _ ⟨b, rfl, q⟩
theorem vl_eq (h1 : Vl ta σ H x) (h2 : Vl tb σ H y) (hs : scal x y = true) : Vl (tOp rEq ta tb) σ H (.bl (decide (x = y))) := fun Q q => h1 _ (h2 _ ⟨hs, q⟩)
theorem vl_ne (h1 : Vl ta σ H x) (h2 : Vl tb σ H y) (hs : scal x y = true) : Vl (tOp rNe ta tb) σ H (.bl (!decide (x = y))) := fun Q q => h1 _ (h2 _ ⟨hs, q⟩)
theorem vl_I0 {g : Int → Int → V} {i j : Int} (h1 : Vl ta σ H (.int i)) (h2 : Vl tb σ H (.int j)) : Vl (tOp (rI0 g) ta tb) σ H (g i j) := fun Q q => h1 _ (h2 _ ⟨i, j, rfl, rfl, q⟩)
theorem vl_I {C : Int → Int → Prop} {g : Int → Int → V} {i j : Int} (h1 : Vl ta σ H (.int i)) (h2 : Vl tb σ H (.int j)) (hc : C i j) : Vl (tOp (rI C g) ta tb) σ H (g i j) := fun Q q => h1 _ (h2 _ ⟨i, j, rfl, rfl, hc, q⟩)
theorem vl_orV (h1 : Vl ta σ H (.bl a)) (h2 : Vl tb σ H (.bl b)) : Vl (tOrV ta tb) σ H (.bl (a || b)) := fun Q q => h1 _ ⟨a, rfl, (by
  cases a with
  | true => exact iteT q
  | false => exact iteF (h2 Q q))⟩
theorem vl_andV (h1 : Vl ta σ H (.bl a)) (h2 : Vl tb σ H (.bl b)) : Vl (tAndV ta tb) σ H (.bl (a && b)) := fun Q q => h1 _ ⟨a, rfl, (by
  cases a with
  | true => exact iteT (h2 Q q)
  | false => exact iteF q)⟩
theorem vl_notV (h1 : Vl ta σ H (.bl a)) : Vl (tNotV ta) σ H (.bl (!a)) := fun Q q => h1 _ ⟨a, rfl, q⟩
theorem vl_ixT {p : Addr} {xs : List V} {i : Int} (h1 : Vl ta σ H (.ref p)) (h2 : Vl tb σ H (.int i)) (hs : SqT K H p xs) (ha : atI xs i = some v) : Vl (tOp (rIxT K) ta tb) σ H v := fun Q q => h1 _ (h2 _ ⟨p, xs, i, v, rfl, rfl, hs, ha, q⟩)
theorem vl_ixL {p : Addr} {xs : List V} {i : Int} (h1 : Vl ta σ H (.ref p)) (h2 : Vl tb σ H (.int i)) (hs : SqL K H p xs) (ha : atI xs i = some v) : Vl (tOp (rIxL K) ta tb) σ H v := fun Q q => h1 _ (h2 _ ⟨p, xs, i, v, rfl, rfl, hs, ha, q⟩)
theorem vl_lenT {p : Addr} {xs : List V} (h1 : Vl ta σ H (.ref p)) (hs : SqT K H p xs) : Vl (tCB (rLenK K) (tCons ta tNil)) σ H (.int xs.length) := fun Q q => h1 _ ⟨p, xs, rfl, .inr hs, q⟩
theorem vl_lenL {p : Addr} {xs : List V} (h1 : Vl ta σ H (.ref p)) (hs : SqL K H p xs) : Vl (tCB (rLenK K) (tCons ta tNil)) σ H (.int xs.length) := fun Q q => h1 _ ⟨p, xs, rfl, .inl hs, q⟩
end
theorem j_eq (w u : J) : decide (V.str w.s = V.str u.s) = decide (w = u) := by
  cases w <;> cases u <;> decide

/-! ### statements as data -/
def rEqE (K : PySem.W.Frag) : R2 := fun x y H Q => ∃ d e, Dp K H x d ∧ Dp K H y e ∧ d.canLay0 = true ∧ e.canLay0 = true ∧ min d.depth e.depth ≤ 64 ∧ Q (.bl (PyData.eqv d e)) H
def rNeE (K : PySem.W.Frag) : R2 := fun x y H Q => ∃ d e, Dp K H x d ∧ Dp K H y e ∧ d.canLay0 = true ∧ e.canLay0 = true ∧ min d.depth e.depth ≤ 64 ∧ Q (.bl (!PyData.eqv d e)) H
theorem op_eqE {X : Cx} (hu : X.A.units + 64 < cLine) : OpR X (compareOp .Eq) (rEqE X.K) := by
  intro pins s σ H x y v u Q I rx ry h
  obtain ⟨d, e, hd, he, sd, se, hm, q⟩ := h
  obtain ⟨as, r1⟩ := Dp.reads I d x v hd rx
  obtain ⟨bs, r2⟩ := Dp.reads I e y u he ry
  exact SeqAt.compareEq_reads r1 r2 sd se (by omega) ⟨.bl _, H, I, rfl, q⟩
theorem op_neE {X : Cx} (hu : X.A.units + 64 < cLine) : OpR X (compareOp .NotEq) (rNeE X.K) := by
  intro pins s σ H x y v u Q I rx ry h
  obtain ⟨d, e, hd, he, sd, se, hm, q⟩ := h
  obtain ⟨as, r1⟩ := Dp.reads I d x v hd rx
  obtain ⟨bs, r2⟩ := Dp.reads I e y u he ry
  exact SeqAt.compareNe_reads r1 r2 sd se (by omega) ⟨.bl _, H, I, rfl, q⟩
def Ch (l : List Nat) : Prop := ∀ c ∈ l, c < 1114112
theorem Nm.ch {l : List Nat} (h : Nm l) : Ch l := fun c hc => by
  have := h.abc c hc
  omega
theorem Ch.ok {l : List Nat} (h : Ch l) : PyData.strOk (S l) = true := by
  unfold PyData.strOk
  rw [Array.all_eq_true']
  intro c hc
  have hc' : c ∈ l := by
    have : c ∈ (S l).cps.toList := Array.mem_toList_iff.mpr hc
    exact this
  exact decide_eq_true (h c hc')
def Sm.data : Sm → PyData
  | .lt n => .tuple [.str "letter", .str (S n)]
  | .nv => .tuple [.str "never"]
  | .bin w a b => .tuple [.str w.s, a.data, b.data]
theorem IsSm.dp {K : PySem.W.Frag} {H : Hp} {v : V} {s : Sm} (h : IsSm K H v s) : Dp K H v s.data := by
  induction h with
  | lt h => exact .tup h (.cons (.str _) (.cons (.str _) .nil))
  | nv h => exact .tup h (.cons (.str _) .nil)
  | bin h _ _ i1 i2 => exact .tup h (.cons (.str _) (.cons i1 (.cons i2 .nil)))
theorem J.ok (w : J) : PyData.strOk w.s = true := by cases w <;> decide +kernel
theorem Sm.lay : ∀ {s : Sm}, s.In Ch → s.data.canLay0 = true
  | .lt n, h => by
    have h' : Ch n := h
    show (PyData.tuple [.str "letter", .str (S n)]).canLay0 = true
    simp only [PyData.canLay0, PyData.canLayAll0, h'.ok, Bool.and_true]
    decide +kernel
  | .nv, _ => by decide +kernel
  | .bin w a b, h => by
    show (PyData.tuple [.str w.s, a.data, b.data]).canLay0 = true
    simp only [PyData.canLay0, PyData.canLayAll0, Sm.lay (s := a) h.1, Sm.lay (s := b) h.2, w.ok, Bool.and_true]
theorem Sm.depth_le : ∀ s : Sm, s.data.depth ≤ s.joints + 1
  | .lt n => by
    show (PyData.tuple [.str "letter", .str (S n)]).depth ≤ 0 + 1
    simp [PyData.depth, PyData.depthAll]
  | .nv => by decide +kernel
  | .bin w a b => by
    have h1 := a.depth_le
    have h2 := b.depth_le
    show (PyData.tuple [.str w.s, a.data, b.data]).depth ≤ a.joints + b.joints + 1 + 1
    simp only [PyData.depth, PyData.depthAll]
    omega
theorem str_beq (a b : List Nat) : (S a == S b) = decide (a = b) := SX.S_beq_eq
theorem eqv_s (a b : Str) : PyData.eqv (.str a) (.str b) = (a == b) := by rw [PyData.eqv]
theorem eqv_t1 (a b : PyData) : PyData.eqv (.tuple [a]) (.tuple [b]) = PyData.eqv a b := by
  rw [PyData.eqv, PyData.eqvAll, PyData.eqvAll, Bool.and_true]
theorem eqv_t2 (a b c d : PyData) : PyData.eqv (.tuple [a, b]) (.tuple [c, d]) = (PyData.eqv a c && PyData.eqv b d) := by
  rw [PyData.eqv, PyData.eqvAll, PyData.eqvAll, PyData.eqvAll, Bool.and_true]
theorem eqv_t3 (a b c d e f : PyData) : PyData.eqv (.tuple [a, b, c]) (.tuple [d, e, f]) = (PyData.eqv a d && (PyData.eqv b e && PyData.eqv c f)) := by
  rw [PyData.eqv, PyData.eqvAll, PyData.eqvAll, PyData.eqvAll, PyData.eqvAll, Bool.and_true]
theorem eqv_tn {xs ys : List PyData} (h : xs.length ≠ ys.length) : PyData.eqv (.tuple xs) (.tuple ys) = false := by
  rw [PyData.eqv]
  exact SeqAt.eqvAll_other_length h
theorem eqv_ln {xs ys : List PyData} (h : xs.length ≠ ys.length) : PyData.eqv (.list xs) (.list ys) = false := by
  rw [PyData.eqv]
  exact SeqAt.eqvAll_other_length h
theorem eqv_nil : PyData.eqv (.list []) (.list []) = true := by
  rw [PyData.eqv, PyData.eqvAll]
theorem Sm.eqv (s : Sm) : ∀ t : Sm, PyData.eqv s.data t.data = decide (s = t) := by
  induction s with
  | lt n =>
    intro t
    cases t with
    | lt m =>
      show PyData.eqv (.tuple [.str "letter", .str (S n)]) (.tuple [.str "letter", .str (S m)]) = _
      rw [eqv_t2, eqv_s, eqv_s, beq_self_eq_true, Bool.true_and, str_beq]
      rw [decide_eq_decide]
      exact ⟨fun h => by rw [h], fun h => by injection h⟩
    | nv =>
      show PyData.eqv (.tuple [.str "letter", .str (S n)]) (.tuple [.str "never"]) = _
      rw [decide_eq_false (fun h => nomatch h)]
      exact eqv_tn (by simp)
    | bin w a b =>
      show PyData.eqv (.tuple [.str "letter", .str (S n)]) (.tuple [.str w.s, a.data, b.data]) = _
      rw [decide_eq_false (fun h => nomatch h)]
      exact eqv_tn (by simp)
  | nv =>
    intro t
    cases t with
    | lt n =>
      show PyData.eqv (.tuple [.str "never"]) (.tuple [.str "letter", .str (S n)]) = _
      rw [decide_eq_false (fun h => nomatch h)]
      exact eqv_tn (by simp)
    | nv =>
      rw [decide_eq_true rfl]
      show PyData.eqv (.tuple [.str "never"]) (.tuple [.str "never"]) = _
      rw [eqv_t1, eqv_s, beq_self_eq_true]
    | bin w a b =>
      show PyData.eqv (.tuple [.str "never"]) (.tuple [.str w.s, a.data, b.data]) = _
      rw [decide_eq_false (fun h => nomatch h)]
      exact eqv_tn (by simp)
  | bin w a b iha ihb =>
    intro t
    cases t with
    | lt n =>
      show PyData.eqv (.tuple [.str w.s, a.data, b.data]) (.tuple [.str "letter", .str (S n)]) = _
      rw [decide_eq_false (fun h => nomatch h)]
      exact eqv_tn (by simp)
    | nv =>
      show PyData.eqv (.tuple [.str w.s, a.data, b.data]) (.tuple [.str "never"]) = _
      rw [decide_eq_false (fun h => nomatch h)]
      exact eqv_tn (by simp)
    | bin u c d =>
      show PyData.eqv (.tuple [.str w.s, a.data, b.data]) (.tuple [.str u.s, c.data, d.data]) = _
      rw [eqv_t3, eqv_s, iha c, ihb d]
      have hw : (w.s == u.s) = decide (w = u) := by cases w <;> cases u <;> decide +kernel
      rw [hw]
      by_cases e : w = u ∧ a = c ∧ b = d
      · obtain ⟨rfl, rfl, rfl⟩ := e
        simp
      · rw [decide_eq_false (show ¬ (Sm.bin w a b = Sm.bin u c d) from fun h => e (by injection h with h1 h2 h3; exact ⟨h1, h2, h3⟩))]
        by_cases h1 : w = u
        · by_cases h2 : a = c
          · by_cases h3 : b = d
            · exact absurd ⟨h1, h2, h3⟩ e
            · simp [h3]
          · simp [h2]
        · simp [h1]

mutual
theorem Dp.sm {K : PySem.W.Frag} {H H' : Hp} (e : Same H H') : ∀ {v : V} {d : PyData}, Dp K H v d → Dp K H' v d
  | _, _, .non => .non
  | _, _, .bl b => .bl b
  | _, _, .int i => .int i
  | _, _, .str x => .str x
  | _, _, .lst h a => .lst (e.seq h) (DpAll.sm e a)
  | _, _, .tup h a => .tup (seqT e h) (DpAll.sm e a)
theorem DpAll.sm {K : PySem.W.Frag} {H H' : Hp} (e : Same H H') : ∀ {vs : List V} {ds : List PyData}, DpAll K H vs ds → DpAll K H' vs ds
  | _, _, .nil => .nil
  | _, _, .cons h a => .cons (Dp.sm e h) (DpAll.sm e a)
end
theorem dpAll_of {α : Type} {K : PySem.W.Frag} {H : Hp} {R : V → α → Prop} {f : α → PyData} (h : ∀ v p, R v p → Dp K H v (f p)) : ∀ {ws : List V} {st : List α}, Paired R ws st → DpAll K H ws (st.map f)
  | _, _, .nil => .nil
  | _, _, .cons r t => .cons (h _ _ r) (dpAll_of h t)
theorem dpAll_app {K : PySem.W.Frag} {H : Hp} : ∀ {xs ys : List V} {ds es : List PyData}, DpAll K H xs ds → DpAll K H ys es → DpAll K H (xs ++ ys) (ds ++ es)
  | _, _, _, _, .nil, s => s
  | _, _, _, _, .cons r t, s => .cons r (dpAll_app t s)
theorem dpAll_rev {K : PySem.W.Frag} {H : Hp} : ∀ {xs : List V} {ds : List PyData}, DpAll K H xs ds → DpAll K H xs.reverse ds.reverse
  | _, _, .nil => .nil
  | _, _, .cons r t => by
    rw [List.reverse_cons, List.reverse_cons]
    exact dpAll_app (dpAll_rev t) (.cons r .nil)
theorem lay_all : ∀ {ds : List PyData}, (∀ d ∈ ds, d.canLay0 = true) → PyData.canLayAll0 ds = true
  | [], _ => by rw [PyData.canLayAll0]
  | d :: r, h => by
    rw [PyData.canLayAll0, h d (List.mem_cons_self ..), lay_all (ds := r) fun x hx => h x (List.mem_cons_of_mem _ hx)]
    rfl
theorem lay_lst {ds : List PyData} (h : ∀ d ∈ ds, d.canLay0 = true) : (PyData.list ds).canLay0 = true := by
  rw [PyData.canLay0]
  exact lay_all h
theorem lay_tup {ds : List PyData} (h : ∀ d ∈ ds, d.canLay0 = true) : (PyData.tuple ds).canLay0 = true := by
  rw [PyData.canLay0]
  exact lay_all h
theorem dpAll_nil {K : PySem.W.Frag} {H : Hp} {xs : List V} {ds : List PyData} (h : DpAll K H xs ds) : PyData.eqv (.list ds) (.list []) = xs.isEmpty := by
  cases h with
  | nil => exact eqv_nil
  | cons _ _ => exact eqv_ln (by simp)
theorem depth_nil (d : PyData) : min d.depth (PyData.list []).depth ≤ 64 := Nat.le_trans (Nat.min_le_right _ _) (by decide +kernel)
/-- xs != [] -/
theorem ne_nil {K : PySem.W.Frag} {σ : L2.St} {H : Hp} {ta : TE} {k : Addr} {xs : List V} {ds : List PyData} {Q : VK} (h1 : Vl ta σ H (.ref k)) (hs : SqL K H k xs) (hd : DpAll K H xs ds) (hl : ∀ d ∈ ds, d.canLay0 = true)
    (q : ∀ p, H p = none → Q (.bl (!xs.isEmpty)) (upd H p (.lst []))) : tOp (rNeE K) ta (tLst tNil) σ H Q := h1 _ ⟨sz0, fun p np => ⟨.list ds, .list [], .lst ((same_new np).seq hs) (DpAll.sm (same_new np) hd), .lst (.inl (.inl upd_same)) .nil, lay_lst hl, by decide +kernel, depth_nil _, by
  rw [dpAll_nil hd]
  exact q p np⟩⟩
/-- xs == [] -/
theorem eq_nil {K : PySem.W.Frag} {σ : L2.St} {H : Hp} {ta : TE} {k : Addr} {xs : List V} {ds : List PyData} {Q : VK} (h1 : Vl ta σ H (.ref k)) (hs : SqL K H k xs) (hd : DpAll K H xs ds) (hl : ∀ d ∈ ds, d.canLay0 = true)
    (q : ∀ p, H p = none → Q (.bl xs.isEmpty) (upd H p (.lst []))) : tOp (rEqE K) ta (tLst tNil) σ H Q := h1 _ ⟨sz0, fun p np => ⟨.list ds, .list [], .lst ((same_new np).seq hs) (DpAll.sm (same_new np) hd), .lst (.inl (.inl upd_same)) .nil, lay_lst hl, by decide +kernel, depth_nil _, by
  rw [dpAll_nil hd]
  exact q p np⟩⟩
theorem dpAll_ints {K : PySem.W.Frag} {H : Hp} : ∀ ns : List Int, DpAll K H (ns.map V.int) (ns.map PyData.int)
  | [] => .nil
  | n :: r => .cons (.int n) (dpAll_ints r)
theorem lay_ints (ns : List Int) : ∀ d ∈ ns.map PyData.int, d.canLay0 = true := fun d hd => by
  obtain ⟨n, _, rfl⟩ := List.mem_map.mp hd
  rfl
/-- a statement and a truth, as a tuple -/
def WP (K : PySem.W.Frag) (H H3 : Hp) (v : V) (p : Sm × Bool) : Prop := ∃ a x, v = .ref a ∧ SqT K H3 a [x, .bl p.2] ∧ IsSm K H x p.1
theorem WP.tk {K : PySem.W.Frag} {H H3 H4 : Hp} {v : V} {p : Sm × Bool} (k : TK K H3 H4) (h : WP K H H3 v p) : WP K H H4 v p := by
  obtain ⟨a, x, e, hT, hs⟩ := h
  exact ⟨a, x, e, k _ _ hT, hs⟩
def wpd (p : Sm × Bool) : PyData := .tuple [p.1.data, .bool p.2]
theorem WP.dp {K : PySem.W.Frag} {H H3 : Hp} (e : Same H H3) {v : V} {p : Sm × Bool} (h : WP K H H3 v p) : Dp K H3 v (wpd p) := by
  obtain ⟨a, x, rfl, hT, hs⟩ := h
  exact .tup hT (.cons (hs.same e).dp (.cons (.bl _) .nil))
theorem wpd_lay {p : Sm × Bool} (h : p.1.In Ch) : (wpd p).canLay0 = true := lay_tup fun d hd => by
  rcases List.mem_cons.mp hd with rfl | hd
  · exact Sm.lay h
  · rw [List.mem_singleton.mp hd]
    rfl
def szs (st : List (Sm × Bool)) : Nat := (st.map fun p => p.1.size).sum
def kns (st : List (Sm × Bool)) : Nat := (st.map fun p => p.1.kn p.2).sum
def jns (st : List (Sm × Bool)) : Nat := (st.map fun p => p.1.joints).sum
theorem szs_cons (p : Sm × Bool) (st : List (Sm × Bool)) : szs (p :: st) = p.1.size + szs st := rfl
theorem kns_cons (p : Sm × Bool) (st : List (Sm × Bool)) : kns (p :: st) = p.1.kn p.2 + kns st := rfl
theorem jns_cons (p : Sm × Bool) (st : List (Sm × Bool)) : jns (p :: st) = p.1.joints + jns st := rfl
theorem szs_len : ∀ st : List (Sm × Bool), st.length ≤ szs st
  | [] => Nat.le_refl _
  | p :: r => by
    have h1 := szs_len r
    have h2 := p.1.size_pos
    rw [szs_cons, List.length_cons]
    omega
end Ob

/-! ### the text of a statement -/
namespace Ob
open PySem PySem.Spec PyProof.Rows L2

/-- a tuple of the written part -/
def KT (K : PySem.W.Frag) (a : Addr) (xs : List V) : Prop := ∃ (o : Obj) (its : Array Value) (n : Nat), K.lookup a = some o ∧ o.cls = .type "tuple" ∧ o.data = .seq its n ∧ its.size ≤ sizeLine ∧ Vals xs its.toList
theorem KT.sq {K : PySem.W.Frag} {H : Hp} {a : Addr} {xs : List V} (h : KT K a xs) : SqT K H a xs := .inr h
theorem kt_of {K : PySem.W.Frag} {a : Addr} {xs : List V} {d : Option Addr} {its : Array Value} {n : Nat} {sl : Array (Option Value)} (l : K.lookup a = some ⟨.type "tuple", d, .seq its n, sl⟩) (v : Vals xs its.toList) (z : its.size ≤ sizeLine) : KT K a xs := ⟨_, its, n, l, rfl, rfl, z, v⟩
theorem tyx_tup {K : PySem.W.Frag} {H : Hp} {a : Addr} {xs : List V} (h : SqT K H a xs) : TyX K H (.ref a) (.type "tuple") := by
  rcases h with (h | ⟨o, h⟩) | ⟨o, _, _, h, c, _⟩
  · exact .base (.tup h)
  · exact .fTuple h
  · exact .kTuple h c

/-- the word at a statement's begin -/
def Sm.word : Sm → Str
  | .lt _ => "letter"
  | .nv => "never"
  | .bin w _ _ => w.s
/-- the joints that stand in brackets on the left, on the right -/
def lefts : J → List J
  | .and => [.or, .thn]
  | .or => [.thn]
  | .thn => [.thn]
def rights : J → List J
  | .and => [.and, .or, .thn]
  | .or => [.or, .thn]
  | .thn => []
def Sm.among (s : Sm) (ws : List J) : Bool := match s with
  | .bin w _ _ => ws.contains w
  | _ => false
def wrap (c : Bool) (t : List Nat) : List Nat := if c then 40 :: (t ++ [41]) else t
def J.sp : J → List Nat
  | .and => [32, 97, 110, 100, 32]
  | .or => [32, 111, 114, 32]
  | .thn => [32, 116, 104, 101, 110, 32]
theorem J.sp_len (w : J) : w.sp.length ≤ 6 := by cases w <;> decide
def Sm.txt : Sm → List Nat
  | .lt n => n
  | .nv => [110, 101, 118, 101, 114]
  | .bin w a b => wrap (a.among (lefts w)) a.txt ++ (w.sp ++ wrap (b.among (rights w)) b.txt)
theorem wrap_len (c : Bool) (t : List Nat) : (wrap c t).length ≤ t.length + 2 := by
  unfold wrap
  cases c with
  | true => simp
  | false => simp
theorem Sm.txt_len : ∀ {s : Sm}, s.In Nm → s.txt.length ≤ 20 * s.size
  | .lt n, h => by
    have h' : Nm n := h
    show n.length ≤ 20 * 1
    have := h'.hi
    omega
  | .nv, _ => by decide
  | .bin w a b, h => by
    have h1 := Sm.txt_len (s := a) h.1
    have h2 := Sm.txt_len (s := b) h.2
    have h3 := wrap_len (a.among (lefts w)) a.txt
    have h4 := wrap_len (b.among (rights w)) b.txt
    have h5 := w.sp_len
    show (wrap (a.among (lefts w)) a.txt ++ (w.sp ++ wrap (b.among (rights w)) b.txt)).length ≤ 20 * (a.size + b.size + 1)
    rw [List.length_append, List.length_append]
    omega
theorem in_word (s : Sm) (ws : List J) : inV (.str s.word) (ws.map fun w => V.str w.s) = s.among ws := by
  have e : (ws.map fun w => V.str w.s) = (ws.map J.s).map V.str := by rw [List.map_map]; rfl
  rw [e, inV_str, List.any_map]
  cases s with
  | lt n =>
    show ws.any _ = false
    rw [List.any_eq_false]
    intro w _
    show ¬ (w.s == ("letter" : Str)) = true
    cases w <;> decide +kernel
  | nv =>
    show ws.any _ = false
    rw [List.any_eq_false]
    intro w _
    show ¬ (w.s == ("never" : Str)) = true
    cases w <;> decide +kernel
  | bin u a b =>
    show ws.any _ = ws.contains u
    rw [List.contains_eq_any_beq]
    congr 1
    funext w
    show (w.s == u.s) = (u == w)
    cases w <;> cases u <;> decide +kernel
theorem IsSm.at0 {K : PySem.W.Frag} {H : Hp} {v : V} {s : Sm} (h : IsSm K H v s) : ∃ a xs, v = .ref a ∧ SqT K H a xs ∧ atI xs 0 = some (.str s.word) ∧ xs.length = s.len := by
  cases h with
  | lt h => exact ⟨_, _, rfl, h, Ob.at0, rfl⟩
  | nv h => exact ⟨_, _, rfl, h, Ob.at0, rfl⟩
  | bin h _ _ => exact ⟨_, _, rfl, h, Ob.at0, rfl⟩
theorem pa_starK {X : Cx} {K : PySem.W.Frag} {e : Expr} {es : List Expr} {p : Pos} {te : TE} {t : TA} (he : PE X e te) (hr : PA X es t) (hK : X.K = K := by rfl) (hs : starEach (.Starred e p :: es) X.env = (true, eval e X.env) :: starEach es X.env := by rfl) : PA X (.Starred e p :: es) (StX.tStar K te t) := by
  subst hK
  exact StX.pa_star he hr hs
/-- a joint's pieces -/
abbrev It := Sum (List Nat) Sm
def brk (c : Bool) (a : Sm) : List It := if c then [.inl [40], .inr a, .inl [41]] else [.inr a]
def pieces (w : J) (a b : Sm) : List It := brk (a.among (lefts w)) a ++ (.inl w.sp :: brk (b.among (rights w)) b)
def It.txt : It → List Nat
  | .inl t => t
  | .inr s => s.txt
def It.sz : It → Nat
  | .inl _ => 1
  | .inr s => 6 * s.size
def txts (l : List It) : List Nat := l.flatMap It.txt
def itsz (l : List It) : Nat := (l.map It.sz).sum
theorem txts_app (a b : List It) : txts (a ++ b) = txts a ++ txts b := List.flatMap_append
theorem itsz_app (a b : List It) : itsz (a ++ b) = itsz a + itsz b := by
  unfold itsz
  rw [List.map_append, List.sum_append]
theorem txts_cons (a : It) (b : List It) : txts (a :: b) = a.txt ++ txts b := rfl
theorem itsz_cons (a : It) (b : List It) : itsz (a :: b) = a.sz + itsz b := rfl
theorem It.sz_pos (a : It) : 0 < a.sz := by
  cases a with
  | inl t => exact Nat.one_pos
  | inr s =>
    have := s.size_pos
    show 0 < 6 * s.size
    omega
theorem itsz_len : ∀ l : List It, l.length ≤ itsz l
  | [] => Nat.le_refl _
  | a :: r => by
    have h1 := itsz_len r
    have h2 := a.sz_pos
    rw [itsz_cons, List.length_cons]
    omega
theorem txts_brk (c : Bool) (a : Sm) : txts (brk c a) = wrap c a.txt := by
  cases c with
  | true =>
    show [40] ++ (a.txt ++ ([41] ++ [])) = 40 :: (a.txt ++ [41])
    rfl
  | false =>
    show a.txt ++ [] = a.txt
    rw [List.append_nil]
theorem itsz_brk (c : Bool) (a : Sm) : itsz (brk c a) ≤ 6 * a.size + 2 := by
  cases c with
  | true =>
    show 1 + (6 * a.size + (1 + 0)) ≤ _
    omega
  | false =>
    show 6 * a.size + 0 ≤ _
    omega
theorem txts_pieces (w : J) (a b : Sm) : txts (pieces w a b) = (Sm.bin w a b).txt := by
  unfold pieces
  rw [txts_app, txts_cons, txts_brk, txts_brk]
  rfl
theorem itsz_pieces (w : J) (a b : Sm) : itsz (pieces w a b) < 6 * (Sm.bin w a b).size := by
  unfold pieces
  rw [itsz_app, itsz_cons]
  have h1 := itsz_brk (a.among (lefts w)) a
  have h2 := itsz_brk (b.among (rights w)) b
  show itsz (brk _ a) + (1 + itsz (brk _ b)) < 6 * (a.size + b.size + 1)
  omega
/-- an item's value -/
inductive IV (K : PySem.W.Frag) (H : Hp) : V → It → Prop where
  | txt (t : List Nat) : IV K H (.str (S t)) (.inl t)
  | st {v : V} {s : Sm} : IsSm K H v s → IV K H v (.inr s)
theorem J.sp_s (w : J) : ((Str.empty ++ (" " : Str)) ++ w.s) ++ (" " : Str) = S w.sp := by cases w <;> decide +kernel
theorem join_texts (ts : List (List Nat)) : Txt.join ("" : Str) (ts.map S) = S ts.flatten := by
  have h := SX.join_S [] ts
  have e : ∀ ts : List (List Nat), TL.joinL [] ts = ts.flatten := by
    intro ts
    induction ts with
    | nil => rfl
    | cons p r ih =>
      cases r with
      | nil =>
        show p = [p].flatten
        simp
      | cons q r =>
        show p ++ ([] ++ TL.joinL [] (q :: r)) = _
        rw [ih]
        rfl
  rw [e] at h
  exact h
theorem sum_len (ts : List (List Nat)) : ((ts.map S).map (·.length)).sum = ts.flatten.length := by
  rw [List.map_map, List.length_flatten]
  rfl
def brkV (c : Bool) (v : V) : List V := if c = true then [.str (S [40]), v, .str (S [41])] else [v]
def piecesV (j : J) (a b : Sm) (l r : V) : List V := brkV (a.among (lefts j)) l ++ (.str (S j.sp) :: brkV (b.among (rights j)) r)
theorem brkV_len (c : Bool) (v : V) : (brkV c v).length ≤ 3 := by cases c <;> simp [brkV]
theorem brkV_iv {K : PySem.W.Frag} {H : Hp} {v : V} {s : Sm} (c : Bool) (h : IsSm K H v s) : Paired (IV K H) (brkV c v) (brk c s) := by
  cases c with
  | true => exact .cons (.txt _) (.cons (.st h) (.cons (.txt _) .nil))
  | false => exact .cons (.st h) .nil
theorem piecesV_iv {K : PySem.W.Frag} {H : Hp} {l r : V} {a b : Sm} (j : J) (hl : IsSm K H l a) (hr : IsSm K H r b) : Paired (IV K H) (piecesV j a b l r) (pieces j a b) :=
  pair_app (brkV_iv _ hl) (.cons (.txt _) (brkV_iv _ hr))
end Ob

/-! ### a statement turned by a book -/
namespace Ob
open PySem PySem.Spec PyProof.Rows L2

def Sm.turn (B : List Nat → Option Sm) : Sm → Sm
  | .lt n => (B n).getD (.lt n)
  | .nv => .nv
  | .bin w a b => .bin w (a.turn B) (b.turn B)
def Sm.dp : Sm → Nat
  | .lt _ => 0
  | .nv => 0
  | .bin _ a b => max a.dp b.dp + 1
theorem Sm.dp_joints : ∀ s : Sm, s.dp ≤ s.joints
  | .lt _ => Nat.le_refl _
  | .nv => Nat.le_refl _
  | .bin _ a b => by
    have h1 := a.dp_joints
    have h2 := b.dp_joints
    show max a.dp b.dp + 1 ≤ a.joints + b.joints + 1
    omega
theorem Sm.depth_dp : ∀ s : Sm, s.data.depth ≤ s.dp + 1
  | .lt n => by
    show (PyData.tuple [.str "letter", .str (S n)]).depth ≤ 0 + 1
    simp [PyData.depth, PyData.depthAll]
  | .nv => by decide +kernel
  | .bin w a b => by
    have h1 := a.depth_dp
    have h2 := b.depth_dp
    show (PyData.tuple [.str w.s, a.data, b.data]).depth ≤ (max a.dp b.dp + 1) + 1
    simp only [PyData.depth, PyData.depthAll]
    omega
theorem Sm.dp_turn {B : List Nat → Option Sm} {k : Nat} (hB : ∀ n s, B n = some s → s.dp ≤ k) : ∀ s : Sm, (s.turn B).dp ≤ s.dp + k
  | .lt n => by
    show ((B n).getD (.lt n)).dp ≤ 0 + k
    cases h : B n with
    | none => exact Nat.zero_le _
    | some t =>
      have := hB n t h
      show t.dp ≤ 0 + k
      omega
  | .nv => Nat.zero_le _
  | .bin w a b => by
    have h1 := Sm.dp_turn hB a
    have h2 := Sm.dp_turn hB b
    show max (a.turn B).dp (b.turn B).dp + 1 ≤ max a.dp b.dp + 1 + k
    omega
theorem Sm.In_turn {p : List Nat → Prop} {B : List Nat → Option Sm} (hB : ∀ n s, B n = some s → s.In p) : ∀ {s : Sm}, s.In p → (s.turn B).In p
  | .lt n, h => by
    show ((B n).getD (.lt n)).In p
    cases e : B n with
    | none => exact h
    | some t => exact hB n t e
  | .nv, _ => True.intro
  | .bin _ a b, h => ⟨Sm.In_turn hB (s := a) h.1, Sm.In_turn hB (s := b) h.2⟩
theorem Sm.turn_none {B : List Nat → Option Sm} (hB : ∀ n, B n = none) : ∀ s : Sm, s.turn B = s
  | .lt n => by
    show (B n).getD (.lt n) = .lt n
    rw [hB n]
    rfl
  | .nv => rfl
  | .bin w a b => by
    show Sm.bin w (a.turn B) (b.turn B) = .bin w a b
    rw [Sm.turn_none hB a, Sm.turn_none hB b]
/-- a step of the pile that walks the row from its end -/
def tstep (B : List Nat → Option Sm) (b : Sm) (st : List Sm) : List Sm :=
  match b with
  | .lt n => (Sm.lt n).turn B :: st
  | .nv => .nv :: st
  | .bin w _ _ => match st with
    | x :: y :: r => .bin w x y :: r
    | r => r
def tbuild (B : List Nat → Option Sm) : List Sm → List Sm
  | [] => []
  | b :: r => tstep B b (tbuild B r)
theorem tbuild_standing (B : List Nat → Option Sm) : ∀ (s : Sm) (r : List Sm), tbuild B (s.standing ++ r) = s.turn B :: tbuild B r
  | .lt n, r => rfl
  | .nv, r => rfl
  | .bin w a b, r => by
    show tstep B (.bin w a b) (tbuild B ((a.standing ++ b.standing) ++ r)) = _
    rw [List.append_assoc, tbuild_standing B a, tbuild_standing B b]
    rfl
/-- behind a joint in the row stand its two parts -/
theorem standing_bin : ∀ (s : Sm) (r : List Sm) (k : Nat) (w : J) (a b : Sm) (r' : List Sm), k < s.size → (s.standing ++ r).drop k = .bin w a b :: r' → ∃ r2, r' = a.standing ++ (b.standing ++ r2)
  | .lt n, r, k, w, a, b, r', hk, h => by
    have hk' : k < 1 := hk
    have e : k = 0 := by omega
    subst e
    have h' : Sm.lt n :: r = .bin w a b :: r' := h
    injection h' with h1 _
    cases h1
  | .nv, r, k, w, a, b, r', hk, h => by
    have hk' : k < 1 := hk
    have e : k = 0 := by omega
    subst e
    have h' : Sm.nv :: r = .bin w a b :: r' := h
    injection h' with h1 _
    cases h1
  | .bin u c d, r, 0, w, a, b, r', hk, h => by
    have h' : Sm.bin u c d :: ((c.standing ++ d.standing) ++ r) = .bin w a b :: r' := h
    injection h' with h1 h2
    injection h1 with h3 h4 h5
    subst h4 h5
    exact ⟨r, by rw [← h2, List.append_assoc]⟩
  | .bin u c d, r, k + 1, w, a, b, r', hk, h => by
    have h' : ((c.standing ++ d.standing) ++ r).drop k = .bin w a b :: r' := h
    have hk' : k + 1 < c.size + d.size + 1 := hk
    rw [List.append_assoc] at h'
    by_cases hc : k < c.size
    · exact standing_bin c _ k w a b r' hc h'
    · have lc := c.len_standing
      rw [List.drop_append, List.drop_of_length_le (by omega), List.nil_append, lc] at h'
      exact standing_bin d r (k - c.size) w a b r' (by omega) h'
/-- what the dict's pairs say -/
def Bk (K : PySem.W.Frag) (H : Hp) (kvs : List (Key × V)) (B : List Nat → Option Sm) : Prop :=
  ∀ n, (valV kvs (.inr (S n)) = none ∧ B n = none) ∨ ∃ v s, valV kvs (.inr (S n)) = some v ∧ B n = some s ∧ IsSm K H v s
theorem Bk.same {K : PySem.W.Frag} {H H' : Hp} {kvs : List (Key × V)} {B : List Nat → Option Sm} (e : Same H H') (h : Bk K H kvs B) : Bk K H' kvs B := fun n => by
  rcases h n with h | ⟨v, s, h1, h2, h3⟩
  · exact .inl h
  · exact .inr ⟨v, s, h1, h2, h3.same e⟩
theorem Bk.tk {K : PySem.W.Frag} {H H' : Hp} {kvs : List (Key × V)} {B : List Nat → Option Sm} (e : TK K H H') (h : Bk K H kvs B) : Bk K H' kvs B := fun n => by
  rcases h n with h | ⟨v, s, h1, h2, h3⟩
  · exact .inl h
  · exact .inr ⟨v, s, h1, h2, h3.tk e⟩
theorem Bk.nil {K : PySem.W.Frag} {H : Hp} : Bk K H [] fun _ => none := fun _ => .inl ⟨rfl, rfl⟩
theorem Bk.put {K : PySem.W.Frag} {H : Hp} {kvs : List (Key × V)} {B : List Nat → Option Sm} (h : Bk K H kvs B) (l : List Nat) {v : V} {s : Sm} (hs : IsSm K H v s) : Bk K H (putK kvs (.inr (S l)) v) fun n => if n = l then some s else B n := fun n => by
  show (valV (putK kvs (.inr (S l)) v) (.inr (S n)) = none ∧ (if n = l then some s else B n) = none) ∨ ∃ v' s', valV (putK kvs (.inr (S l)) v) (.inr (S n)) = some v' ∧ (if n = l then some s else B n) = some s' ∧ IsSm K H v' s'
  rw [valV_put]
  by_cases e : n = l
  · subst e
    rw [if_pos rfl, if_pos rfl]
    exact .inr ⟨v, s, rfl, rfl, hs⟩
  · rw [if_neg e, if_neg (fun z => e (S_inj (Sum.inr.inj z)))]
    exact h n
theorem putK_keys {kvs : List (Key × V)} {k : Key} {v : V} (h : (kvs.map (·.1)).Nodup) : ((putK kvs k v).map (·.1)).Nodup := by
  cases e : valV kvs k with
  | none => exact nd_putK v h e
  | some u =>
    have e2 : (kvs.any fun kv => decide (kv.1 = k)) = true := by rw [valV_any, e]; rfl
    unfold putK
    rw [if_pos e2, List.map_map]
    have : (kvs.map ((fun x => x.1) ∘ fun kv => if kv.1 = k then (kv.1, v) else kv)) = kvs.map (·.1) := by
      refine List.map_congr_left fun p _ => ?_
      show (if p.1 = k then (p.1, v) else p).1 = p.1
      by_cases h : p.1 = k
      · rw [if_pos h]
      · rw [if_neg h]
    rw [this]
    exact h
theorem putK_vals {p : V → Prop} {kvs : List (Key × V)} {k : Key} {v : V} (h : ∀ x ∈ kvs, p x.2) (hv : p v) : ∀ x ∈ putK kvs k v, p x.2 := by
  intro x hx
  unfold putK at hx
  by_cases e : (kvs.any fun kv => decide (kv.1 = k)) = true
  · rw [if_pos e] at hx
    obtain ⟨y, hy, rfl⟩ := List.mem_map.mp hx
    show p (if y.1 = k then (y.1, v) else y).2
    by_cases h2 : y.1 = k
    · rw [if_pos h2]
      exact hv
    · rw [if_neg h2]
      exact h y hy
  · rw [if_neg e] at hx
    rcases List.mem_append.mp hx with hx | hx
    · exact h x hx
    · rw [List.mem_singleton.mp hx]
      exact hv
theorem Sm.eqv_self (s : Sm) : PyData.eqv s.data s.data = true := by rw [Sm.eqv, decide_eq_true rfl]
theorem pow_at {i : Nat} (h : i < 4) : ∃ d : Int, atI [V.int 1, V.int 2, V.int 4, V.int 8] (0 + (i : Int)) = some (.int d) ∧ 0 < d ∧ d < 1073741824 := by
  rw [Int.zero_add]
  match i, h with
  | 0, _ => exact ⟨1, atI_nat rfl, by decide, by decide⟩
  | 1, _ => exact ⟨2, atI_nat rfl, by decide, by decide⟩
  | 2, _ => exact ⟨4, atI_nat rfl, by decide, by decide⟩
  | 3, _ => exact ⟨8, atI_nat rfl, by decide, by decide⟩
end Ob

/-! ### an exception out of a comprehension -/
namespace Ob
open PySem PySem.Spec PyProof.Rows L2

theorem funs_but {B h h' : Heap} {C : Addr} (sb : Heap.SameBut C h h') : ∀ {l : List Env}, h.FunFrames B l → (∀ L ∈ frs l, L ≠ C) → h'.FunFrames B l
  | [], _, _ => trivial
  | env :: l, hl, hn => by
    obtain ⟨hk, ⟨L, o, hf, h1, ho, hd⟩, hr⟩ := hl
    have hL : L ∈ frs (env :: l) := List.mem_filterMap.mpr ⟨env, List.mem_cons_self, hf⟩
    exact ⟨hk, ⟨L, o, hf, h1, by rw [sb.2 L (hn L hL)]; exact ho, hd⟩, funs_but sb hr fun b hb => hn b (by
      obtain ⟨e, he, q⟩ := List.mem_filterMap.mp hb
      exact List.mem_filterMap.mpr ⟨e, List.mem_cons_of_mem _ he, q⟩)⟩
theorem funs_less {B B' h : Heap} (k : ∀ b, B.get? b = none → B'.get? b = none) : ∀ {l : List Env}, h.FunFrames B l → h.FunFrames B' l
  | [], _ => trivial
  | env :: l, hl => by
    obtain ⟨hk, ⟨L, o, hf, h1, ho, hd⟩, hr⟩ := hl
    exact ⟨hk, ⟨L, o, hf, k L h1, ho, hd⟩, funs_less k hr⟩
/-- a callee's exception within a comprehension's block goes on to the def's own air -/
theorem block_out {X : Cx} {pins pins' : List (Addr × Obj)} {σ σ' : L2.St} {H3 H9 : Hp} {s3 s9 s' : Shared} {scope : Scope} {fp : List Addr} {E : XK} {W : WX} {u : Value} {E' : Value → Shared → Prop} (hs : X.stack = X.env :: X.outer) (hf : X.env.frame = some X.env.locals)
    (tk : Takes X W) (hW : ∀ cls d σ H, E cls d H → W cls d σ H) (I3 : Inv X pins σ H3 s3) (ce : Env) (cL : ce.locals = s3.heap.objs.size) (cF : ce.frame = X.env.frame) (f3 : ∀ b ∈ fp, FpOk X pins H3 b ∧ b < s3.heap.objs.size)
    (I9 : Inv (X.blk s3 H3 scope ce fp) pins' σ' H9 s9) (c : CX X.prog X.w X.stack H9 s9 E u s') :
    wpAny (model X.prog X.w) X.A (noteFrame u ce) (fun _ s2 => ∃ m, s2.heap.Ns ce.locals m ∧ ∀ h', Heap.SameBut ce.locals s2.heap h' → wpAny (model X.prog X.w) X.A (PySem.passOn "comprehension.variables-let-go" u ce : Sem Value) (fun _ _ => False) X.xe { s2 with heap := h' }) E' s' := by
  obtain ⟨a, B, H', cls, d, rfl, fl, hok, ub, na, os, ag, hE⟩ := c
  obtain ⟨C, hC⟩ : ∃ C, ce.locals = C := ⟨_, rfl⟩
  have eC : C = s3.heap.objs.size := hC.symm.trans cL
  have fsE : (X.blk s3 H3 scope ce fp).fs = frs X.stack := rfl
  have bas : Un (frs X.stack) fp H3 H9 s3.heap s9.heap := I9.base
  -- the frames stand below the block
  have lowF : ∀ L ∈ frs X.stack, L ≠ C := fun L hL z => by
    obtain ⟨_, o, ho, _⟩ := I3.stack.mem hL
    have h1 := Heap.lt_size ho
    rw [z, eC] at h1
    exact absurd h1 (Nat.lt_irrefl _)
  obtain ⟨m9, hn9, _⟩ := I9.loc
  have hn9 : s9.heap.Ns C m9 := by
    rw [← hC]
    exact hn9
  have free9 : H9 C = none := by
    rw [← hC]
    exact I9.free
  obtain ⟨oC, esC, epC, hoC, hdC, hrC⟩ := id hn9
  have freeC : H' C = none := ub.free C oC hoC free9
  have gC : B.get? C = some oC := ub.keep C oC hoC free9 fun z => lowF C z rfl
  -- the ground without the block's own names
  obtain ⟨B', hB'⟩ : ∃ B', B' = PySem.W.hideAll B [C] := ⟨_, rfl⟩
  have b1 : ∀ b o, B'.get? b = some o → B.get? b = some o := fun b o e => PySem.W.of_hideAll [C] (by rw [← hB']; exact e)
  have b2 : ∀ b o, b ≠ C → B.get? b = some o → B'.get? b = some o := fun b o n e => by
    rw [hB']
    exact PySem.W.hideAll_get [C] e (by simpa using n)
  have b3 : ∀ b, B.get? b = none → B'.get? b = none := fun b e => by
    cases q : B'.get? b with
    | none => rfl
    | some o =>
      rw [b1 b o q] at e
      cases e
  have b4 : B'.get? C = none := by
    rw [hB']
    exact PySem.W.hideAll_none [C] (by simp)
  have fl' : HandSPX.FlyingZ B' (X.env :: X.outer) a (Zc cls d) s'.heap := by
    obtain ⟨k1, k2, k3, oe, vs, T, oT, ts, he, hz, hd, h1, hnT, hTe, hT, hdT, h3⟩ := fl
    rw [hs] at k3
    exact ⟨fun b o e => k1 b o (b1 b o e), b3 a k2, funs_less b3 k3, oe, vs, T, oT, ts, he, hz, hd, h1, b3 T hnT, hTe, hT, hdT, h3⟩
  have stB : B.StaysIn s'.heap := fl.1
  have hfr : X.A.frames = some (X.env :: X.outer) := by rw [I3.ok.frames, hs]
  have cF' : ce.frame = some X.env.locals := cF.trans hf
  have same : noteFrame (.ref a) ce = noteFrame (.ref a) X.env := by
    unfold PySem.noteFrame PySem.frameOf
    rw [cF]
  rw [same]
  -- the state on the ground
  obtain ⟨G, g1, g2⟩ := restrict s'.heap fun b => (B'.get? b).isSome || decide (b ∈ frs X.stack)
  have gB : ∀ b o, B'.get? b = some o → G.get? b = some o := fun b o e => by
    rw [g1 b (by simp [e])]
    exact stB b o (b1 b o e)
  have gF : ∀ b, b ∈ frs X.stack → G.get? b = s'.heap.get? b := fun b hb => g1 b (by simp [hb])
  have og : ∀ b o, G.get? b = some o → s'.heap.get? b = some o ∧ ((B'.get? b).isSome = true ∨ b ∈ frs X.stack) := fun b o e => by
    cases q : ((B'.get? b).isSome || decide (b ∈ frs X.stack)) with
    | false =>
      rw [g2 b q] at e
      cases e
    | true =>
      rw [g1 b q] at e
      exact ⟨e, by simpa [Bool.or_eq_true] using q⟩
  have oldC : ∀ b o, s3.heap.get? b = some o → b ≠ C := fun b o e z => by
    have h1 := Heap.lt_size e
    rw [z, eC] at h1
    exact absurd h1 (Nat.lt_irrefl _)
  have hokG : HOk X.prog X.w H' G := fun b o q => (hok b o q).stay (fun c v hc r => by
    refine gB c v (b2 c v (fun z => ?_) r)
    rcases hc with z2 | z2
    · rw [← z2, z, freeC] at q
      cases q
    · rw [z, freeC] at z2
      cases z2) (fun _ r => r) fun _ _ r => r
  have IG : Inv X pins σ H' { s9 with heap := G, gens := s'.gens, drawn := s'.drawn, toks := s'.toks } := by
    refine I3.call' (ch := fp) I9.os ⟨fun b o e n hb hx => ?_, fun b o e n hb hx => ?_, fun b o e n hx => ?_, fun b o e hx => ?_, fun b xs e => ub.tups b xs (bas.tups b xs e), fun b o xs e => ub.frzs b o xs (bas.frzs b o xs e), fun b ps e => ?_⟩ hokG ag fun b hb => ⟨(f3 b hb).1.2.2.2.1, (f3 b hb).1.2.1, (f3 b hb).1.2.2.2.2.1, (f3 b hb).1.2.2.2.2.2⟩
    · exact gB b o (b2 b o (oldC b o e) (ub.keep b o (bas.keep b o e n hb hx) (bas.free b o e n hx) hb))
    · obtain ⟨sl, e1⟩ := bas.slot b o e n hb hx
      obtain ⟨sl2, e2⟩ := ub.slot b _ e1 hb
      exact ⟨sl2, by rw [gF b hb]; exact e2⟩
    · obtain ⟨o', e1⟩ := bas.there b o e hx
      exact ub.free b o' e1 (bas.free b o e n hx)
    · obtain ⟨o', e1⟩ := bas.there b o e hx
      by_cases hb : b ∈ frs X.stack
      · obtain ⟨sl2, e2⟩ := ub.slot b _ e1 hb
        exact ⟨_, by rw [gF b hb]; exact e2⟩
      · obtain ⟨o2, e2⟩ := ub.there b o' e1 hb
        exact ⟨o2, gB b o2 (b2 b o2 (oldC b o e) e2)⟩
    · obtain ⟨m1, e1⟩ := bas.tbls b ps e
      obtain ⟨m2, e2⟩ := ub.tbls b _ e1
      exact ⟨m1 ++ m2, by rw [e2, Array.append_assoc]⟩
  refine HandSPX.looks_onZ Zc.steady hfr hf fl' fun h1 hh up => ?_
  have hC1 : h1.get? C = s'.heap.get? C ∨ ∃ sl, h1.get? C = some { oC with slots := sl } := by
    refine .inr (up C oC (stB C oC gC) fun vs z => ?_)
    rw [hdC] at z
    cases z
  refine ⟨m9, ?_, fun h2 sb => ?_⟩
  · rw [hC]
    rcases hC1 with q | ⟨sl, q⟩
    · exact ⟨oC, esC, epC, by rw [q]; exact stB C oC gC, hdC, hrC⟩
    · exact ⟨_, esC, epC, q, hdC, hrC⟩
  · rw [hC] at sb
    have hh2 : HandSPX.HeldZ B' (X.env :: X.outer) a (Zc cls d) X.env.locals h2 := by
      obtain ⟨k1, k2, k3, oe, vs, T, oT, ts, he, hz, hd, q1, hnT, hTe, hT, hdT, q3⟩ := hh
      have dict_no : ∀ b o vs, h1.get? b = some o → o.data = .fields vs → b ≠ C := fun b o vs e e2 z => by
        rcases hC1 with q | ⟨sl, q⟩
        · rw [z, q, stB C oC gC] at e
          cases e
          rw [hdC] at e2
          cases e2
        · rw [z, q] at e
          cases e
          have e3 : oC.data = .fields vs := e2
          rw [hdC] at e3
          cases e3
      refine ⟨fun b o e => ?_, k2, funs_but sb k3 (fun L hL => lowF L (by rw [hs]; exact hL)), oe, vs, T, oT, ts, ?_, hz, hd, q1, hnT, hTe, ?_, hdT, q3⟩
      · rw [sb.2 b (fun z => by rw [z, b4] at e; cases e)]
        exact k1 b o e
      · rw [sb.2 a (dict_no a oe vs he hd)]
        exact he
      · rw [sb.2 T (dict_no T oT ts hT hdT)]
        exact hT
    have up2 : G.UpToSlots h2 := fun b o e hn => by
      obtain ⟨e1, e2⟩ := og b o e
      have nC : b ≠ C := fun z => by
        rcases e2 with e2 | e2
        · rw [z, b4] at e2
          cases e2
        · exact lowF b e2 z
      obtain ⟨sl, q⟩ := up b o e1 hn
      exact ⟨sl, by rw [sb.2 b nC]; exact q⟩
    obtain ⟨_, _, _, oe, vs, T, _, _, he, _, hd, q1, _⟩ := id hh2
    unfold PySem.passOn
    refine wpAny_bind (wpAny_field he hd q1 ?_)
    rw [if_neg (by simp)]
    refine wpAny_bind ?_
    rw [cF']
    refine HandSPX.setFlight_onZ hh2 fun h3 hh3 up3 => wpAny_throw (tk _ _ ⟨a, B', _, pins, σ, H', cls, d, rfl, IG, fun b o e hb => ?_, up2.trans up3, ?_, na, ?_, ag, hW _ _ _ _ hE⟩)
    · obtain ⟨e1, e2⟩ := og b o e
      rcases e2 with e2 | e2
      · obtain ⟨o', q⟩ := Option.isSome_iff_exists.mp e2
        have z := stB b o' (b1 b o' q)
        rw [e1] at z
        cases z
        exact q
      · exact absurd e2 hb
    · rw [hs]
      exact .inr (.inr hh3)
    · exact os

/-- what a comprehension's run is to reach, the block's own names at hand -/
def postX (M : Model) (A : Around) (E : Value → Shared → Prop) (Q : Value → Shared → Prop) (acc : Value) (ce : Env) (r : Result) (s' : Shared) : Prop :=
  match r with
  | .ok _ => ∃ m, s'.heap.Ns ce.locals m ∧ ∀ h', Heap.SameBut ce.locals s'.heap h' → Q acc { s' with heap := h' }
  | .error x => ∃ m, s'.heap.Ns ce.locals m ∧ ∀ h', Heap.SameBut ce.locals s'.heap h' → wpAny M A (PySem.passOn "comprehension.variables-let-go" x ce : Sem Value) (fun _ _ => False) E { s' with heap := h' }
theorem comp_raise {M : Model} {A : Around} {E : Value → Shared → Prop} {s : Shared} {env : Env} {e : Expr} {scope : Scope} {pos : Pos} {newAcc first : Sem Value} {g : Comprehension} {gs : List Comprehension} {cl : List (Str × Addr)} {Q : Value → Shared → Prop}
    (hcl : clausesOf e = g :: gs) (hs : ∀ x, foldedSetIterable g.iter env x = pure x) (hclos : closureFor scope env = pure cl) (hkind : scope.kind = .function)
    (hnames : ∀ x ∈ scope.names, x.2 = .local → scope.names.lookup x.1 = some .local)
    (h : wpAny M A first (fun x s1 => wpAny M A (pyIter x) (fun it s2 => wpAny M A newAcc (fun acc s3 => wpAny M A (newFunctionEnv scope env.globals cl [] env.qual none .none (some env))
      (fun cenv s4 => codeAny M A (.compStart e 0 it acc { cenv with scope := relabel scope env }) (postX M A E Q acc { cenv with scope := relabel scope env }) s4) E s3) E s2) E s1) E s) :
    wpAny M A (comprehension e scope env pos newAcc false first none) Q E s := by
  have id2 : ∀ (x : Value) (s : Shared), E x s → E x s := fun _ _ z => z
  unfold comprehension
  rw [hclos, hcl]
  refine wpAny_bind (wpAny_mono h (fun x s1 h1 => wpAny_bind (wpAny_standAt (wpAny_bind (wpAny_of_eq (hs x) ?_)))) id2)
  refine wpAny_bind (wpAny_holding (wpAny_mono h1 (fun it s2 h2 => wpAny_standIf (wpAny_bind (wpAny_mono h2 (fun acc s3 h3 => wpAny_bind (wpAny_pure (wpAny_bind (wpAny_mono h3 (fun cenv s4 h4 => ?_) id2)))) id2))) id2))
  dsimp only
  have hv : ∀ x ∈ (scope.names.filter fun x => (x.2 == .local || x.2 == .cell) && x.1 != (".0" : Str)).reverse, x.2 = .local → Env.kindOf { cenv with scope := relabel scope env } x.1 = some .local := fun x hx hl =>
    lookup_relabel_local (hnames x (List.mem_filter.mp (List.mem_reverse.mp hx)).1 hl)
  refine wpAny_holding (wpAny_bind (wpAny_attempt (wpAny_holding (wpAny_run (codeAny_mono h4 fun r s' hr => ?_)))))
  cases r with
  | ok f =>
    obtain ⟨m, hn, hr⟩ := hr
    exact wpAny_bind (wpAny_holding (wpAny_comp_letGo (cenv := { cenv with scope := relabel scope env }) hkind _ s' m hv hn fun h' _ _ sb => wpAny_pure (hr h' sb)))
  | error x =>
    obtain ⟨m, hn, hr⟩ := hr
    exact wpAny_bind (wpAny_holding (wpAny_comp_letGo (cenv := { cenv with scope := relabel scope env }) hkind _ s' m hv hn fun h' _ _ sb => wpAny_mono (hr h' sb) (fun _ _ z => z.elim) id2))
/-- what comes out of a callee within the block -/
def XC (X : Cx) (E : XK) (s3 : Shared) (H3 : Hp) (scope : Scope) (ce : Env) (fp : List Addr) : Value → Shared → Prop := fun e s' =>
  ∃ (pins : List (Addr × Obj)) (σ : L2.St) (H : Hp) (s : Shared), Inv (X.blk s3 H3 scope ce fp) pins σ H s ∧ CX X.prog X.w X.stack H s E e s'
theorem xc_passes {X : Cx} {E : XK} {s3 : Shared} {H3 : Hp} {scope : Scope} {ce : Env} {fp : List Addr} : Passes (CX X.prog X.w) ((X.blk s3 H3 scope ce fp).wish (XC X E s3 H3 scope ce fp)) E := fun pins σ H s _ _ I c => ⟨pins, σ, H, s, I.unwish, c⟩
theorem pe_lcX {X : Cx} {E : XK} {W : WX} {elt tg iter : Expr} {ifs : List Expr} {scope : Scope} {own : List (Str × Nat)} {pos : Pos} {wi : TI} {g : TG} {tt : TT} {te : TE} (hstk : X.stack = X.env :: X.outer) (hfrm : X.env.frame = some X.env.locals) (tk : Takes X W) (hW : ∀ cls d σ H, E cls d H → W cls d σ H)
    (hc : X.calm = true) (hN : X.N.Nodup) (hi : PI X tg iter wi) (ok : BlkOk X.N X.env.scope scope own)
    (hg : ∀ (s : Shared) (H : Hp) (C : Addr) (cl : List (Str × Addr)) (fp : List Addr), PG (X.blk s H scope (compEnvC scope cl C X.env) fp) tg g) (ht : ∀ (s : Shared) (H : Hp) (C : Addr) (cl : List (Str × Addr)) (fp : List Addr), PTs (X.blk s H scope (compEnvC scope cl C X.env) fp) ifs tt)
    (he : ∀ (s : Shared) (H : Hp) (C : Addr) (cl : List (Str × Addr)) (fp : List Addr), PE ((X.blk s H scope (compEnvC scope cl C X.env) fp).wish (XC X E s H scope (compEnvC scope cl C X.env) fp)) elt te)
    (hs : ∀ x, foldedSetIterable iter X.env x = pure x := by intro _; rfl) : PE X (.ListComp elt [⟨tg, iter, ifs, 0⟩] scope pos) (tLc wi g tt te (own.map (·.2))) := by
  refine ⟨fun pins s σ H Q I h => ?_⟩
  rw [eval_ListComp]
  have hfree : ∀ y ∈ scope.names, y.2 = .free → ∃ c, X.env.cells.lookup y.1 = some c := fun y hy e => (ok.free y hy e).elim (fun k => I.ok.has _ (.inl k)) fun k => I.ok.has _ (.inr k)
  refine comp_raise rfl hs (closure_ok hfree) ok.kind (fun y hy e => by rw [ok.uniq y hy, e]) (thn (hi.run pins s σ H _ I h) fun xv s1 hx => thn hx fun itv s2 h2 => ?_)
  obtain ⟨it, fp, tn, J, H2, e, I2, T, st2, f2, q⟩ := h2
  subst e
  refine wpAny_newObj_type (newEnv_comp ?_) (by show 0 ≤ sizeLine; decide)
  obtain ⟨D, hD⟩ : ∃ D, s2.heap.objs.size = D := ⟨_, rfl⟩
  rw [hD]
  have hDn : H2 D = none := I2.hok.fresh (Nat.le_of_eq hD)
  obtain ⟨W0, ⟨m0, w0⟩, turn⟩ := q D hDn
  obtain ⟨s3, hs3⟩ : ∃ s3 : Shared, ({ s2 with heap := s2.heap.push { cls := .type "list", data := .seq ([] : List Value).toArray } } : Shared) = s3 := ⟨_, rfl⟩
  rw [hs3]
  have h3 : s3.heap = s2.heap.push { cls := .type "list", data := .seq ([] : List Value).toArray } := by rw [← hs3]
  obtain ⟨H3, hH3⟩ : ∃ H3, upd H2 D (.lst []) = H3 := ⟨_, rfl⟩
  rw [hH3] at w0
  have I3 : Inv X pins σ H3 s3 := by
    rw [← hs3, ← hH3]
    exact I2.laid (t' := s2.toks) (fun b o e => Heap.get?_push_of_some _ e) (Nat.le_of_eq hD) ⟨Nat.zero_le _, [], 0, .nil, by rw [← hD]; exact Heap.get?_push_size _ rfl⟩
  have f3 : ∀ b ∈ fp, FpOk X pins H3 b ∧ b < s3.heap.objs.size := fun b hb => by
    obtain ⟨o, e, _⟩ := T.obj _ _ st2 b hb
    have hlt := Heap.lt_size e
    refine ⟨⟨?_, (f2 b hb).2⟩, by rw [h3, Heap.size_push]; exact Nat.lt_succ_of_lt hlt⟩
    rw [← hH3, upd_ne (by rw [← hD]; exact Nat.ne_of_lt hlt)]
    exact (f2 b hb).1
  have st3 : tn 0 s3.heap := T.keep _ _ _ st2 fun b _ o e => by rw [h3]; exact Heap.get?_push_of_some _ e
  have I4 := block_start I3 ok hN f3
  obtain ⟨cl, hcl⟩ : ∃ cl, cellsFrom (s3.heap.objs.size + 1) scope.names (cloFrom X.env.cells scope.names []) = cl := ⟨_, rfl⟩
  rw [hcl] at I4
  have pg := hg s3 H3 s3.heap.objs.size cl fp
  have pt := ht s3 H3 s3.heap.objs.size cl fp
  have pe := he s3 H3 s3.heap.objs.size cl fp
  obtain ⟨s4, hs4⟩ : ∃ s4 : Shared, ({ s3 with heap := pushCells (s3.heap.push { cls := .type "dict", data := .dict #[] }) scope.names } : Shared) = s4 := ⟨_, rfl⟩
  have goal : codeAny (model X.prog X.w) X.A (.compStart (.ListComp elt [⟨tg, iter, ifs, 0⟩] scope pos) 0 (.ref it) (.ref D) (compEnvC scope cl s3.heap.objs.size X.env)) (postX (model X.prog X.w) X.A X.xe (EP X pins σ Q) (.ref D) (compEnvC scope cl s3.heap.objs.size X.env)) s4 := by
    rw [hs4] at I4
    have cL : (compEnvC scope cl s3.heap.objs.size X.env).locals = s3.heap.objs.size := rfl
    have cF : (compEnvC scope cl s3.heap.objs.size X.env).frame = X.env.frame := rfl
    generalize compEnvC scope cl s3.heap.objs.size X.env = ce at I4 pg pt pe cL cF ⊢
    have st4 : tn 0 s4.heap := T.keep _ _ _ st3 fun b _ o e => by rw [← hs4]; exact pushCells_keeps _ _ _ _ (Heap.get?_push_of_some _ e)
    have stat : ∀ {σ' : L2.St} {H' : Hp} {s' : Shared}, Inv (X.blk s3 H3 scope ce fp) [] σ' H' s' → (∀ b ∈ fp, H' b = none) → ∀ b ∈ fp, FpOk (X.blk s3 H3 scope ce fp) [] H' b := fun I' hn b hb =>
      ⟨hn b hb, (I'.ok.exf b hb).1, I'.ok.exfs b hb, .inl hb, fun x c e => (I'.ok.exf b hb).2 x c e, fun p hp => absurd (show p ∈ ([] : List (Addr × Obj)) ++ [] from hp) (by simp)⟩
    have loop : codeAny (model X.prog X.w) X.A (.compLoop (.ListComp elt [⟨tg, iter, ifs, 0⟩] scope pos) 0 (.ref it) (.ref D) ce) (postX (model X.prog X.w) X.A X.xe (EP X pins σ Q) (.ref D) ce) s4 := by
      refine compLoop_any (fun n s' => ∃ i H', Inv (X.blk s3 H3 scope ce fp) [] (wipe σ (own.map (·.2))) H' s' ∧ tn i s'.heap ∧ (∀ b ∈ fp, H' b = none) ∧ W0 i n H') ?_ m0 ⟨0, H3, I4, st4, fun b hb => (f3 b hb).1.1, w0⟩
      rintro n s5 ⟨i, H5, I5, st5, n5, w5⟩
      rcases turn i n H5 w5 with ⟨stop, qq⟩ | ⟨go, Nx, hNx, step⟩
      · refine thnF (T.done (X.blk s3 H3 scope ce fp) rfl rfl rfl hc i [] s5 _ H5 (fun _ _ => False) I5 (stat I5 n5) st5 stop) fun r s6 ⟨hr, I6⟩ => ?_
        subst hr
        have I7 : Inv X pins σ H5 s6 := I3.call' (ch := fp) I6.os I6.base I6.hok I6.bare fun b hb => ⟨(f3 b hb).1.2.2.2.1, (f3 b hb).1.2.1, (f3 b hb).1.2.2.2.2.1, (f3 b hb).1.2.2.2.2.2⟩
        obtain ⟨m, hn, _⟩ := I6.loc
        have nC : H5 s3.heap.objs.size = none := by
          rw [← cL]
          exact I6.free
        refine ⟨m, hn, fun h'' sb => ?_⟩
        rw [cL] at sb
        obtain ⟨k0, k1, k2, k3, k4, k5⟩ := I3.fpOk (Nat.le_refl _) nC
        exact ⟨.ref D, H5, I7.turned (t' := s6.toks) (fun b o hb e => (sb.2 b hb).trans e) k0 k1 k3 k4 k5, rfl, qq⟩
      · refine thnF (T.item (X.blk s3 H3 scope ce fp) rfl rfl rfl hc i [] s5 _ H5 (fun _ _ => False) I5 (stat I5 n5) st5 go) fun r s6 ⟨u, hr, h6⟩ => ?_
        subst hr
        refine thnF h6 fun _ s7 ⟨x, H7, I7, r7, y7, st7, n7⟩ => ?_
        refine thnF (pg.run _ s7 _ H7 x u _ (I7.pinned (stat I7 n7) (T.obj _ _ st7)) r7 (step x H7 y7)) fun _ s8 ⟨σ8, H8, I8, hw8, q8⟩ => ?_
        refine thnF (pt.run _ s8 σ8 H8 _ I8 q8) fun b s9 ⟨H9, I9, q9⟩ => ?_
        have fin : ∀ {s' : Shared} {H' : Hp}, Inv (X.blk s3 H3 scope ce fp) ([] ++ pinsAt fp s7.heap) σ8 H' s' → Nx H' → ∃ m, m < n ∧ ∃ i H', Inv (X.blk s3 H3 scope ce fp) [] (wipe σ (own.map (·.2))) H' s' ∧ tn i s'.heap ∧ (∀ b ∈ fp, H' b = none) ∧ W0 i m H' := fun {s' H'} I' nx => by
          obtain ⟨m', hm, w'⟩ := hNx H' nx
          have pin' : ∀ b ∈ fp, ∀ o, s7.heap.get? b = some o → s'.heap.get? b = some o ∧ H' b = none := fun b hb o e =>
            ⟨(I'.pin (b, o) (List.mem_append_right _ (List.mem_append_right _ (mem_pinsAt hb e)))).1, (I'.pin (b, o) (List.mem_append_right _ (List.mem_append_right _ (mem_pinsAt hb e)))).2.1⟩
          refine ⟨m', hm, i + 1, H', (I'.unpinned (pins := [])).weak (by rw [← hw8, wipe_length]) (fun j v e => ?_), T.keep _ _ _ st7 fun b hb o e => (pin' b hb o e).1, fun b hb => ?_, w'⟩
          · rw [← hw8] at e
            exact (wipe_some e).1
          · obtain ⟨o, e, _⟩ := T.obj _ _ st7 b hb
            exact (pin' b hb o e).2
        cases b with
        | false =>
          simp only [Bool.false_eq_true, if_false] at q9 ⊢
          exact fin I9 q9
        | true =>
          simp only [if_true] at q9 ⊢
          refine wpAny_mono (pe.run _ s9 σ8 H9 _ (I9.wish _) q9) (fun z s10 ⟨yv, H10, I10, r10, acc, hD10, hz10, nx⟩ => app_ok (X := X.blk s3 H3 scope ce fp) I10.unwish hD10 hz10 r10 fun s11 I11 => fin I11 nx) fun x s10 hx => ?_
          obtain ⟨pins', σ', H', sB, IB, c⟩ := hx
          exact block_out (E' := fun e s'' => postX (model X.prog X.w) X.A X.xe (EP X pins σ Q) (.ref D) ce (.error e) s'') hstk hfrm tk hW I3 ce cL cF f3 IB c
    exact codeAny_compStart_list loop (T.self X.A 0 _ _ _ st4 loop)
  rw [← hs4, ← hcl] at goal
  exact goal
end Ob

/-! ### a sign, so many times -/
namespace Ob
open PySem PySem.Spec PyProof.Rows L2
theorem rep_cps (c : Nat) : ∀ (k : Nat) (acc : Array Nat), ((List.replicate k (S [c]).cps).foldl (· ++ ·) acc).toList = acc.toList ++ List.replicate k c
  | 0, acc => by
    show acc.toList = acc.toList ++ []
    rw [List.append_nil]
  | k + 1, acc => by
    rw [List.replicate_succ, List.foldl_cons, rep_cps c k, List.replicate_succ, Array.toList_append, List.append_assoc]
    rfl
theorem rep_S (c k : Nat) : (⟨(List.replicate k (S [c]).cps).foldl (· ++ ·) #[]⟩ : Str) = S (List.replicate k c) := by
  have h := rep_cps c k #[]
  show (⟨_⟩ : Str) = ⟨_⟩
  congr 1
  rw [← Array.toArray_toList (xs := (List.replicate k (S [c]).cps).foldl (· ++ ·) #[]), h]
  rfl
def rRepS : R2 := fun x y H Q => ∃ (c k : Nat), x = .str (S [c]) ∧ y = .int (k : Int) ∧ k ≤ 1000 ∧ Q (.str (S (List.replicate k c))) H
theorem op_repS {X : Cx} : OpR X (binaryOp .Mult) rRepS := by
  intro pins s σ H x y v u Q I rx ry h
  obtain ⟨c, k, rfl, rfl, hk, q⟩ := h
  obtain ⟨t, rfl⟩ := rx
  obtain ⟨t2, rfl⟩ := ry
  have l1 : (S [c]).length = 1 := rfl
  refine P.mul_str ?_ (fun h1 h2 => ?_) (fun h1 h2 => ?_) ?_
  · rw [decide_eq_false (show ¬ (k : Int) < -(2 ^ 63 : Int) by omega), decide_eq_false (show ¬ (k : Int) ≥ 2 ^ 63 by omega)]
    rfl
  · rw [l1]
    have : (1000 : Int) ≤ (2 ^ 63 - 1) / (k : Int) := by
      rw [Int.le_ediv_iff_mul_le (by omega)]
      omega
    omega
  · rw [l1, Nat.one_mul, Int.toNat_natCast]
    show Builtin.Str.tooLong _ = false
    unfold Builtin.Str.tooLong
    exact decide_eq_false (by have := small' (n := k) (by omega); omega)
  · by_cases h0 : (k : Int) < 1
    · rw [if_pos h0]
      have e : k = 0 := by omega
      subst e
      exact ⟨by decide, .str _, H, I.tok _, ⟨_, rfl⟩, q⟩
    · rw [if_neg h0]
      by_cases h1 : ((k : Int) == 1 || (S [c]).length == 0) = true
      · rw [if_pos h1]
        have e : k = 1 := by
          rw [l1] at h1
          have : (k : Int) = 1 := by simpa using h1
          omega
        subst e
        exact ⟨.str _, H, I, ⟨t, rfl⟩, q⟩
      · rw [if_neg h1, Int.toNat_natCast, rep_S]
        refine ⟨?_, .str _, H, I.tok _, ⟨_, rfl⟩, q⟩
        show (S (List.replicate k c)).length ≤ sizeLine
        rw [S_len, List.length_replicate]
        exact small' (by omega)
end Ob

/-! ### a star in a target, defs that raise, a text without what is to be replaced -/
namespace Ob
open PySem PySem.Spec PyProof.Rows L2

theorem star_items {prog : Program} {w : World} {A : Around} {E : Value → Shared → Prop} {s : Shared} {l : Addr} {items : Array Value} {n i : Nat} {Q : List Value → Shared → Prop} (hl : s.heap.IsList l items) (hh : A.handled = none) (hi : i < n) (hn : n ≤ items.size + 1) (hz : items.size ≤ sizeLine)
    (h : ∀ h' tk, Heap.ExtBut s.heap.objs.size s.heap h' → (∀ b o, b ≠ s.heap.objs.size → s.heap.get? b = some o → h'.get? b = some o) →
      wpAny (model prog w) A (newList ((items.toList.drop i).take (items.size + 1 - n))) (fun d s2 => Q (items.toList.take i ++ [d] ++ (items.toList.drop i).drop (items.size + 1 - n)) s2) E { s with heap := h', toks := tk }) :
    wpAny (model prog w) A (unpackItems (.ref l) n (some i)) Q E s := by
  have hlt : l ≠ s.heap.objs.size := by obtain ⟨o, ho, _⟩ := hl; exact Nat.ne_of_lt (Heap.lt_size ho)
  unfold unpackItems
  refine wpAny_bind ?_
  unfold notIterableAtAll
  refine wpAny_bind (wpAny_specialOf hl.typeIs slot_list_iter.lookup ?_)
  refine wpAny_pure ?_
  simp only [Bool.false_eq_true, if_false]
  refine wpAny_bind (wpAny_holding (wpAny_pyIter_list hl ?_))
  refine wpAny_bind (wpAny_holding (PySem.W.kun_draw hlt i 0 _ _ ⟨_, Heap.get?_push_size _ rfl, rfl, rfl⟩ (hl.push _) (by omega) fun h₁ hit₁ hs₁ => ?_))
  have hl₁ : h₁.IsList l items := (hl.push _).extBut hs₁.extBut hlt
  rw [Nat.zero_add] at hit₁
  obtain ⟨oi, hoi, _⟩ := id hit₁
  obtain ⟨ol, hol, _⟩ := id hl₁
  rw [List.drop_zero]
  have hfl : (items.toList.take i).length = i := by rw [List.length_take, Array.length_toList]; omega
  rw [if_neg (show ¬ ((items.toList.take i).length < i) by rw [hfl]; omega)]
  refine wpAny_bind (wpAny_holding (PySem.W.kun_collect (s := { s with heap := h₁ }) (T := "list_iterator") (.inr (.inr (.inl rfl))) (Walks.list (A := A.in1) hh s.heap.objs.size l hlt items) (fun j u st => st.1.typeIs) (k := i) (by omega) ⟨hit₁, hl₁⟩ (Heap.lt_size hoi) (Heap.lt_size hol) (fun h₂ tk hk => ?_) hz))
  have hrl : (items.toList.drop i).length = items.size - i := by rw [List.length_drop, Array.length_toList]
  have hmid : (items.toList.drop i).length - (n - 1 - i) = items.size + 1 - n := by rw [hrl]; omega
  show wpAny _ _ (if (items.toList.drop i).length < n - 1 - i then _ else _) _ _ _
  rw [if_neg (by rw [hrl]; omega)]
  show wpAny _ _ (newList ((items.toList.drop i).take ((items.toList.drop i).length - (n - 1 - i))) >>= fun d => pure (items.toList.take i ++ [d] ++ (items.toList.drop i).drop ((items.toList.drop i).length - (n - 1 - i)))) _ _ _
  rw [hmid]
  have he : ∀ b o, b ≠ s.heap.objs.size → s.heap.get? b = some o → h₂.get? b = some o := fun b o hb e => hk b o hb (hs₁.extBut b o hb (Heap.get?_push_of_some _ e))
  exact wpAny_bind (wpAny_mono (h h₂ tk he he) (fun d s2 q => wpAny_pure q) fun _ _ z => z)
/-- a, *b, c = a list -/
def gStar (K : PySem.W.Frag) (i j : Nat) (t : TGs) : TG := fun v σ H Q => ∃ a f m z, v = .ref a ∧ SqL K H a (f ++ (m ++ z)) ∧ f.length = i ∧ z.length = j ∧ ∀ D, H D = none → t (f ++ [.ref D] ++ z) σ (upd H D (.lst m)) Q
theorem vals_take {vs : List V} {us : List Value} (r : Vals vs us) : ∀ n, Vals (vs.take n) (us.take n) := by
  induction r with
  | nil => intro n; rw [List.take_nil, List.take_nil]; exact .nil
  | cons h t ih =>
    intro n
    cases n with
    | zero => exact .nil
    | succ n => exact .cons h (ih n)
theorem vals_drop {vs : List V} {us : List Value} (r : Vals vs us) : ∀ n, Vals (vs.drop n) (us.drop n) := by
  induction r with
  | nil => intro n; rw [List.drop_nil, List.drop_nil]; exact .nil
  | cons h t ih =>
    intro n
    cases n with
    | zero => exact .cons h t
    | succ n => exact ih n
theorem pg_star {X : Cx} {pos : Pos} {es : List Expr} {k : Nat} {t : TGs} {i j : Nat} (hc : X.calm = true) (h : PGs X es t)
    (hn : (assignEach es X.env).length = i + j + 1 := by rfl) (hst : (assignEach es X.env).findIdx? (·.1) = some i := by rfl) : PG X (.Tuple es k pos) (gStar X.K i j t) := by
  refine ⟨fun pins s σ H v u Q I r hw => ?_⟩
  obtain ⟨a, f, m, z, e1, hq, lf, lz, hw⟩ := hw
  subst e1
  cases r
  obtain ⟨its, rv, pl, hz⟩ := I.list hq
  have hl' : s.heap.IsList a its.toArray := by
    obtain ⟨o, m, e, c, d, q⟩ := pl
    exact ⟨o, e, c, m, q⟩
  have ln : its.length = i + (m.length + j) := by rw [← rv.length, List.length_append, List.length_append, lf, lz]
  rw [rv.length, ln] at hz
  have hsz : its.toArray.size = i + (m.length + j) := by rw [List.size_toArray, ln]
  have cnt : its.toArray.size + 1 - (i + j + 1) = m.length := by rw [hsz]; omega
  rw [PyProof.Rows.assign_Tuple]
  refine wpAny_bind (wpAny_standAt ?_)
  unfold unpack
  rw [hn, hst]
  refine wpAny_bind (wpAny_holding (star_items hl' (I.ok.hd hc) (by omega) (by omega) (by rw [hsz]; exact hz) fun h' tk _ hx => ?_))
  rw [cnt]
  have I1 : Inv X pins σ H { s with heap := h', toks := tk } := I.kept fun b o e => hx b o (Nat.ne_of_lt (Heap.lt_size e)) e
  have r1 : Vals f (its.take i) := by
    have q := vals_take rv i
    rw [← lf, List.take_left] at q
    rw [← lf]
    exact q
  have r2 : Vals (m ++ z) (its.drop i) := by
    have q := vals_drop rv i
    rw [← lf, List.drop_left] at q
    rw [← lf]
    exact q
  have r3 : Vals m ((its.drop i).take m.length) := by
    have q := vals_take r2 m.length
    rw [List.take_left] at q
    exact q
  have r4 : Vals z ((its.drop i).drop m.length) := by
    have q := vals_drop r2 m.length
    rw [List.drop_left] at q
    exact q
  have fit : ((its.drop i).take m.length).length ≤ sizeLine := by
    rw [← r3.length]
    omega
  refine wpAny_newList ?_ fit
  obtain ⟨D, hD⟩ : ∃ D, h'.objs.size = D := ⟨_, rfl⟩
  have hDn : H D = none := I1.hok.fresh (Nat.le_of_eq hD)
  have I2 : Inv X pins σ (upd H D (.lst m)) { s with heap := h'.push { cls := .type "list", data := .seq ((its.drop i).take m.length).toArray }, toks := tk } := by
    refine I1.laid (t' := tk) (fun b o e => Heap.get?_push_of_some _ e) (Nat.le_of_eq hD) ⟨by rw [r3.length]; exact fit, (its.drop i).take m.length, 0, r3, by rw [← hD]; exact Heap.get?_push_size _ rfl⟩
  have fin := h.run pins _ σ (upd H D (.lst m)) (f ++ [.ref D] ++ z) (its.take i ++ [.ref D] ++ (its.drop i).drop m.length) Q I2 ((r1.append (Paired.cons (show RelV (.ref D) (.ref D) from rfl) .nil)).append r4) (hw D hDn)
  rw [← hD] at fin
  exact fin
theorem pgs_star {X : Cx} {e : Expr} {p : Pos} {es : List Expr} {t : TG} {u : TGs} (h1 : PG X e t) (h2 : PGs X es u)
    (hs : (assignEach (.Starred e p :: es) X.env).map (·.2) = assign e X.env :: (assignEach es X.env).map (·.2) := by rfl) : PGs X (.Starred e p :: es) (gCons t u) := by
  refine ⟨fun pins s σ H vs us Q I r h => ?_⟩
  obtain ⟨v, vr, e1, h⟩ := h
  subst e1
  cases r with
  | cons r rr =>
    rw [hs]
    refine assignInOrder_cons (thn (h1.run pins s σ H _ _ _ I r h) fun _ s1 ⟨σ1, H1, I1, q1⟩ => ?_)
    exact h2.run pins s1 σ1 H1 _ _ Q I1 rr q1

/-! ### a text without what is to be replaced -/
theorem no_occ {x y : Str} (h : ∀ i, ¬ StrLaws.At x y x.length i) : Builtin.Str.occurrences x y 0 x.length (x.length + 1) = [] := by
  rcases StrLaws.occ_head x y (x.length + 1) (by omega) with ⟨e, _⟩ | ⟨i, r, _, ha, _⟩
  · exact e
  · exact absurd ha (h i)
theorem no_at {l : List Nat} {c : Nat} (h : c ∉ l) : ∀ i, ¬ StrLaws.At (S l) (S [c]) (S l).length i := fun i ha => by
  have q := StrLaws.at_take (k := i) ha
  have q' : (l.drop i).take 1 = [c] := q
  have hm : c ∈ (l.drop i).take 1 := by rw [q']; exact List.mem_singleton.mpr rfl
  exact h (List.mem_of_mem_drop (List.mem_of_mem_take hm))

theorem replace_none {prog : Program} {w : World} {A : Around} {E : Value → Shared → Prop} {s : Shared} {x y z : Str} {t u v : Tok} {Q : Value → Shared → Prop} (ho : Builtin.Str.occurrences x y 0 x.length (x.length + 1) = []) (hq : Q (.str x t) s) :
    wpAny (model prog w) A (call (.builtin "str.replace") [.str x t, .str y u, .str z v]) Q E s := by
  have hc : ((Builtin.Str.occurrences x y 0 x.length (x.length + 1)).isEmpty || (y.length == 0 && z.length == 0)) = true := by rw [ho]; rfl
  refine call_gives F.slot_str_replace (typeIs_str _ _ _) F.entry_str_replace (F.args_str_replace_3 _ _ _) (gives_str_replace x y z t u v fun q => by rw [hc] at q; cases q) ?_
  rw [if_pos hc]
  exact hq
/-- o.replace("c", "..") of a text without c -/
theorem pe_repl0 {X : Cx} {o : Expr} {to : TE} {y z : Str} {j k : Nat} {c0 c1 apos pos : Pos} (ho : PE X o to)
    (hst : starEach [.Constant (.str y) j c0, .Constant (.str z) k c1] X.env = [(false, eval (.Constant (.str y) j c0) X.env), (false, eval (.Constant (.str z) k c1) X.env)] := by rfl)
    (hbase : attributeBase o "replace" X.env (eval o X.env) = eval o X.env := by rfl) (hline : (apos.endLine == pos.line) = true := by rfl) :
    PE X (.Call (.Attribute o "replace" apos) [.Constant (.str y) j c0, .Constant (.str z) k c1] [] pos) (fun σ H Q => to σ H fun v H1 => ∃ x, v = .str x ∧ Builtin.Str.occurrences x y 0 x.length (x.length + 1) = [] ∧ Q (.str x) H1) := by
  refine ⟨fun pins s σ H Q I h => ?_⟩
  refine PySem.Call_method2 hbase hst hline (thn (ho.run pins s σ H _ I h) fun v s1 q => ?_)
  obtain ⟨v', H1, I1, r1, x, e1, hb, q⟩ := q
  subst e1
  obtain ⟨tx, e2⟩ := r1
  subst e2
  refine ⟨"str", _, PySem.F.plainAttrs_str, PySem.F.slot_str_replace, PySem.F.type_str_replace, typeIs_str _ _ _, (fun _ e => nomatch e), Calls.callWith_builtin rfl (Calls.evalArgs_plain (Calls.spliced_cons ?_))⟩
  refine Calls.Constant_str (Calls.spliced_cons (Calls.Constant_str (Calls.spliced_nil ?_)))
  exact replace_none hb ⟨.str x, H1, (I1.tok _).tok _, ⟨tx, rfl⟩, q⟩
theorem spl_no {l : List Nat} (h : (32 : Nat) ∉ l) : ∀ acc, TL.spl [32] 0 acc l = [acc ++ l] := by
  induction l with
  | nil => intro acc; rw [TL.spl_nil, List.append_nil]
  | cons c r ih =>
    intro acc
    have hc : c ≠ 32 := fun e => h (by rw [e]; exact List.mem_cons_self ..)
    rw [TL.spl_miss (by
      show ((c :: r).take 1 == [32]) = false
      simp [hc]), ih (fun z => h (List.mem_cons_of_mem _ z)), List.append_assoc]
    rfl
/-! ### the class of what is raised -/
structure NT (K : PySem.W.Frag) (mg : Str → Option Value) (C : Addr) : Prop where
  gC : mg "NoText" = some (.ref C)
  xC : PySem.W.excIn K C [.type "ValueError", .type "Exception", .type "BaseException", .type "object"] "ValueError.__new__" = true
  kC : PySem.W.keepIn K (.ref C) = true
  bC : PySem.W.subIn K (.ref C) (.type "BaseException") = some true
  tC : PySem.W.typeIn K (.ref C) = some (.type "type")
  iC : PySem.W.isClsIn K C = true
  sC : PySem.W.subIn K (.ref C) (.ref C) = some true
theorem NT.uniq {K : PySem.W.Frag} {mg : Str → Option Value} {C D : Addr} (a : NT K mg C) (b : NT K mg D) : C = D := by
  have q := a.gC.symm.trans b.gC
  injection q with q
  injection q
theorem NT.eC {K : PySem.W.Frag} {mg : Str → Option Value} {C : Addr} (a : NT K mg C) : PySem.W.exmOne K (.ref C) (.ref C) = some true := by
  have hi := a.iC
  unfold PySem.W.isClsIn at hi
  unfold PySem.W.exmOne PySem.W.kitCls
  rw [a.bC, if_pos (by rfl)]
  show (if ((PySem.W.clsIn K C).isSome && PySem.W.typeIn K (Value.ref C) == some (Value.type "type")) = true then PySem.W.subIn K (Value.ref C) (Value.ref C) else none) = some true
  rw [if_pos (by rw [hi, a.tC]; rfl), a.sC]
/-- a def's promise, where it may raise -/
structure ClX (P : Program) (w : World) (K : PySem.W.Frag) (mg : Str → Option Value) (base : Heap) (k : Nat) (x : Str) (sp : Sp) : Prop where
  ex : ∃ (f : Addr) (fd : FuncData) (ps : List Str), FnOk P w K mg base (L2.CX P w) k f fd ps sp ∧ mg x = some (.ref f) ∧ PySem.W.keepIn K (.ref f) = true ∧ Binds K fd ps []
section
variable {P : Program} {w : World} {K : PySem.W.Frag} {mg : Str → Option Value} {base : Heap}
theorem Df.okX {x : Str} {st : Stmt} {ps N : List Str} {k : Nat} {sp : Sp} (D : Df K mg x st ps) (S : FnScope N ps (defScope st)) (len : ∀ vs H Q E, sp vs H Q E → vs.length = ps.length)
    (hbody : ∀ (f : Addr) (cdv : Value) (A : Around) (outer : List Env) (s : Shared) (H : Hp) (vs : List V) (Q : VK) (E : XK), Room k (A.deeper (envOfC x (defScope st) s.heap.objs.size f cdv)) → sp vs H Q E →
      ∃ t, PSs (cxOf (L2.CX P w) P w K mg base N x (defScope st) f cdv A outer s H E) (defBody st) t ∧ t { nx := fun _ H' => Q .non H', rt := Q } (start N vs) H) : ClX P w K mg base (k + 1) x sp := by
  obtain ⟨f, fd, F, m, b⟩ := D.ex
  exact ⟨f, fd, ps, F.okX S len (hbody f), m, F.kp, b⟩
theorem ClX.mono {j k : Nat} {x : Str} {sp : Sp} (c : ClX P w K mg base j x sp) (h : j ≤ k) : ClX P w K mg base k x sp := by
  obtain ⟨f, fd, ps, F, m, kp, b⟩ := c.ex
  exact ⟨f, fd, ps, F.mono h, m, kp, b⟩
end
section
variable {X : Cx}
theorem pe_kX {k j : Nat} {x : Str} {sp : Sp} {E : XK} {p pos : Pos} {e : Expr} {es : List Expr} {t : TA} (c : ClX X.prog X.w X.K X.mg X.base k x sp) (hr : Room j X.A) (hk : k ≤ j) (hx : Passes (L2.CX X.prog X.w) X E) (hg : Gl X x) (ha : PA X (e :: es) t)
    (hdb : (x == ("__debug__" : Str)) = false := by decide) (he : starEach (e :: es) X.env = (false, eval e X.env) :: starEach es X.env := by rfl) (hpl : (backTo pos (starEach es X.env)).any (·.1) = false := by rfl) : PE X (.Call (.Name x p) (e :: es) [] pos) (tCall sp [] E t) := by
  obtain ⟨f, fd, ps, F, m, kp, b⟩ := c.ex
  exact pe_call F (hr.mono hk) hg m kp b .nil hx ha hdb he hpl
theorem pe_kS {k j : Nat} {x : Str} {sp : Sp} {E : L2.St → XK} {p pos : Pos} {e : Expr} {es : List Expr} {t : TA} (c : ClX X.prog X.w X.K X.mg X.base k x sp) (hr : Room j X.A) (hk : k ≤ j) (hx : ∀ σ, PassesAt (L2.CX X.prog X.w) X σ (E σ)) (hg : Gl X x) (ha : PA X (e :: es) t)
    (hdb : (x == ("__debug__" : Str)) = false := by decide) (he : starEach (e :: es) X.env = (false, eval e X.env) :: starEach es X.env := by rfl) (hpl : (backTo pos (starEach es X.env)).any (·.1) = false := by rfl) : PE X (.Call (.Name x p) (e :: es) [] pos) (tCallS sp E t) := by
  obtain ⟨f, fd, ps, F, m, kp, b⟩ := c.ex
  exact pe_callS F (hr.mono hk) hg m kp b hx ha hdb he hpl
end

/-! ### a text walked -/
theorem lc_str {l : List Nat} {g : TG} {tt : TT} {te : TE} {vs : List Nat} {σ : L2.St} {H1 : Hp} {D : Addr} {Qd : Hp → Prop} (Pv : Nat → Hp → Prop) (h0 : Pv 0 (upd H1 D (.lst [])))
    (hs : ∀ i c H, l[i]? = some c → Pv i H → g (.str (S [c])) (wipe σ vs) H fun σ2 H2 => wipe σ2 vs = wipe σ vs ∧ tt σ2 H2 fun b H3 =>
      if b = true then te σ2 H3 fun y H4 => ∃ acc, H4 D = some (.lst acc) ∧ acc.length < sizeLine ∧ Pv (i + 1) (upd H4 D (.lst (acc ++ [y]))) else Pv (i + 1) H3) (hd : ∀ H, Pv l.length H → Qd H) :
    ∃ W : Nat → Nat → Hp → Prop, (∃ m, W 0 m (upd H1 D (.lst []))) ∧ ∀ i m H, W i m H →
      ((Its (S l)).stop i H ∧ Qd H) ∨ ((Its (S l)).go i H ∧ ∃ Nx : Hp → Prop, (∀ H', Nx H' → ∃ m', m' < m ∧ W (i + 1) m' H') ∧ ∀ x H', (Its (S l)).yld i H x H' → g x (wipe σ vs) H' fun σ2 H2 => wipe σ2 vs = wipe σ vs ∧ tt σ2 H2 fun b H3 =>
        if b = true then te σ2 H3 fun y H4 => ∃ acc, H4 D = some (.lst acc) ∧ acc.length < sizeLine ∧ Nx (upd H4 D (.lst (acc ++ [y]))) else Nx H3) := by
  refine ⟨fun i m H => m = l.length - i ∧ i ≤ l.length ∧ Pv i H, ⟨l.length, by simp, Nat.zero_le _, h0⟩, ?_⟩
  rintro i m H ⟨rfl, hi, p⟩
  by_cases hlt : i < l.length
  · refine .inr ⟨show i < (S l).cps.size by show i < l.toArray.size; rw [List.size_toArray]; exact hlt, Pv (i + 1), fun H' p' => ⟨l.length - (i + 1), by omega, rfl, hlt, p'⟩, fun x H' y => ?_⟩
    obtain ⟨e, c, hc, ex⟩ := y
    subst e ex
    have hc' : l[i]? = some c := by
      have q : l.toArray[i]? = some c := hc
      rw [List.getElem?_toArray] at q
      exact q
    exact hs i c _ hc' p
  · have e : i = l.length := by omega
    subst e
    exact .inl ⟨show (S l).cps.size ≤ l.length by show l.toArray.size ≤ _; rw [List.size_toArray]; exact Nat.le_refl _, hd H p⟩
theorem for_str {l : List Nat} {g : TG} {tb : TS} {D : Ends} {σ : L2.St} {H : Hp} (Pv : Nat → L2.St → Hp → Prop) (h0 : Pv 0 σ H)
    (hs : ∀ i c σ H, l[i]? = some c → Pv i σ H → g (.str (S [c])) σ H fun σ2 H2 => tb { D with nx := Pv (i + 1), ct := Pv (i + 1), bk := D.nx } σ2 H2) (hd : ∀ σ H, Pv l.length σ H → D.nx σ H) :
    ∃ W : Nat → Nat → L2.St → Hp → Prop, (∃ m, W 0 m σ H) ∧ ∀ i m σ H, W i m σ H →
      ((Its (S l)).stop i H ∧ D.nx σ H) ∨ ((Its (S l)).go i H ∧ ∃ N : L2.St → Hp → Prop, (∀ σ' H', N σ' H' → ∃ m', m' < m ∧ W (i + 1) m' σ' H') ∧ ∀ x H', (Its (S l)).yld i H x H' → g x σ H' fun σ2 H2 => tb { D with nx := N, ct := N, bk := D.nx } σ2 H2) := by
  refine ⟨fun i m σ H => m = l.length - i ∧ i ≤ l.length ∧ Pv i σ H, ⟨l.length, by simp, Nat.zero_le _, h0⟩, ?_⟩
  rintro i m σ H ⟨rfl, hi, p⟩
  by_cases hlt : i < l.length
  · refine .inr ⟨show i < (S l).cps.size by show i < l.toArray.size; rw [List.size_toArray]; exact hlt, Pv (i + 1), fun σ' H' p' => ⟨l.length - (i + 1), by omega, rfl, hlt, p'⟩, fun x H' y => ?_⟩
    obtain ⟨e, c, hc, ex⟩ := y
    subst e ex
    have hc' : l[i]? = some c := by
      have q : l.toArray[i]? = some c := hc
      rw [List.getElem?_toArray] at q
      exact q
    exact hs i c _ _ hc' p
  · have e : i = l.length := by omega
    subst e
    exact .inl ⟨show (S l).cps.size ≤ l.length by show l.toArray.size ≤ _; rw [List.size_toArray]; exact Nat.le_refl _, hd σ H p⟩
/-! ### what is a name -/
def kept : List V := [.str "and", .str "or", .str "then", .str "never"]
def joints : List V := [.str "and", .str "or", .str "then"]
def nmB (l : List Nat) : Bool := decide (1 ≤ l.length) && (decide (l.length ≤ 8) && (!inV (.str (S l)) kept && l.all fun c => decide (97 ≤ c) && decide (c ≤ 122)))
theorem nmB_iff {l : List Nat} : nmB l = true ↔ Nm l := by
  unfold nmB
  rw [Bool.and_eq_true, Bool.and_eq_true, Bool.and_eq_true, decide_eq_true_eq, decide_eq_true_eq, Bool.not_eq_true', List.all_eq_true]
  constructor
  · rintro ⟨h1, h2, h3, h4⟩
    exact nm_no h1 h2 (fun c hc => by
      have q := h4 c hc
      rw [Bool.and_eq_true, decide_eq_true_eq, decide_eq_true_eq] at q
      exact q) (by rw [show inV (.str (S l)) [.str "and", .str "or", .str "then", .str "never"] = false from h3]; exact Bool.false_ne_true)
  · intro h
    refine ⟨h.lo, h.hi, ?_, fun c hc => ?_⟩
    · cases e : inV (.str (S l)) kept with
      | false => rfl
      | true =>
        rcases kept_cases e with rfl | rfl | rfl | rfl
        · exact absurd (by decide +kernel) h.free.1
        · exact absurd (by decide +kernel) h.free.2.1
        · exact absurd (by decide +kernel) h.free.2.2.1
        · exact absurd (by decide +kernel) h.free.2.2.2
    · rw [Bool.and_eq_true, decide_eq_true_eq, decide_eq_true_eq]
      exact h.abc c hc
theorem le_sign (a b : Nat) : (!decide ((S [b]).cps.toList < (S [a]).cps.toList)) = decide (a ≤ b) := by
  show (!decide (([b] : List Nat) < [a])) = decide (a ≤ b)
  by_cases h : a ≤ b
  · rw [decide_eq_true h, decide_eq_false (fun z => by
      rcases List.cons_lt_cons_iff.mp z with q | ⟨_, q⟩
      · omega
      · cases q)]
    rfl
  · rw [decide_eq_false h, decide_eq_true (show ([b] : List Nat) < [a] from List.cons_lt_cons_iff.mpr (.inl (by omega)))]
    rfl
end Ob

/-! ### own exceptions whose __init__ says super().__init__(a text) and keeps a field -/
namespace Ob
open PySem PySem.Spec PyProof.Rows L2 NdefX

theorem mw_call {prog : Program} {w : World} {A : Around} {E : Value → Shared → Prop} {s : Shared} {C x u t0 : Addr} {rest : List Value} {nm q : Str} {N : Addr} {bs bm : List Value} {hdct : Bool} {sn : List Str} {sub : List Value} {ab : Bool} {col : Option Bool} {dd : Option Addr} {k0 k1 k2 k3 k5 : Option Value} {Q : Value → Shared → Prop}
    (hC : s.heap.get? C = some (excClassObj nm q C N bs bm hdct sn sub ab col dd k0 k1 k2 k3 k5 "ValueError.__new__")) (he : s.heap.get? x = some (PySem.W.excObj C t0 none .none)) (hu : s.heap.get? u = some (PySem.W.kxs_mw "ValueError.__init__" x)) (hz : rest.length ≤ sizeLine)
    (hq : ∀ h' t1, (∀ b o, b ≠ x → s.heap.get? b = some o → h'.get? b = some o) → h'.get? x = some (PySem.W.excObj C t1 none .none) → Q .none { s with heap := h' }) : wpAny (model prog w) A (call (.ref u) rest) Q E s := by
  obtain ⟨hh, g, d, tk, os⟩ := s
  refine wpAny_call (codeAny_of_tree ?_)
  show wpAny _ A.in1 (callAny (.ref u) ⟨rest, []⟩) _ _ _
  simp only [callAny]
  refine wpAny_bind (wpAny_load hu ?_)
  simp only [PySem.W.kxs_mw, show (Value.type "method-wrapper" == Value.type "method" || Value.type "method-wrapper" == Value.type "builtin_function_or_method" || Value.type "method-wrapper" == Value.type "method-wrapper") = true by decide, if_true]
  refine PySem.W.KFB.if_so (by decide) ?_
  refine wpAny_bind (PySem.W.check_bound_init F.excBase_ValueError.toExcCallFacts hC he rfl ?_)
  refine wpAny_bind (wpAny_pure (wpAny_pure ?_))
  refine ⟨plainId_quiet F.excBase_ValueError.init.plain _, codeAny_builtin F.excBase_ValueError.initEntry ?_⟩
  exact PySem.W.exc_init_tree (cls := .ref C) (t0 := t0) (dv := none) (c2 := .none) (c3 := .none) (b4 := .bool false) he hz fun h' k e' _ => hq h' _ k e'

/-- what is asked of the frame in which super() stands, and of what is written -/
structure SupAt (X : Cx) (C f cda cc : Addr) : Prop where
  ks : X.env.kindOf "super" = some .globalImplicit
  kc : X.env.kindOf "__class__" = some .free
  cl : X.env.cells.lookup ("__class__" : Str) = some cc
  fu : X.env.func = some f
  co : X.env.code = .ref cda
  slf : X.env.kindOf "self" = some .local
  fn : ∃ (oc : Value) (od : Option Addr) (fd : FuncData) (ar : Arg) (osl : Array (Option Value)), X.K.lookup f = some ⟨oc, od, .func fd, osl⟩ ∧ (fd.params.posonlyargs ++ fd.params.args).head? = some ar ∧ ar.arg = "self"
  cod : ∃ (ccl : Value) (cdd : Option Addr) (vs : Array Value) (ccs : Array (Option Value)) (file : Str) (tf : Tok), X.K.lookup cda = some ⟨ccl, cdd, .fields vs, ccs⟩ ∧ vs[2]? = some (.str file tf) ∧ ((X.prog.main.file : Str) == file) = true
  cel : ∃ (c : Value) (dd : Option Addr) (sl : Array (Option Value)), X.K.lookup cc = some ⟨c, dd, .cell (some (.ref C)), sl⟩
  mgs : X.mg "super" = none
  top : (X.prog.main.scope.names.lookup ("super" : Str)).isSome = false
  sub : PySem.W.mroIn X.K C (.ref C) = some true
  ve : PySem.W.subIn X.K (.ref C) (.type "ValueError") = some true
  op : PySem.W.nsIn X.K cStatics "thirdparty.any" = some none
  ini : PySem.W.ks_superIn X.K C C "__init__" = some (some (.builtin "ValueError.__init__"))

theorem sup_run {X : Cx} {C f cda cc a : Addr} {pins : List (Addr × Obj)} {σ : L2.St} {H : Hp} {s : Shared} {body : List Stmt} {ex : Expr} {ta : TA} {p0 p1 p2 p3 p4 : Pos} {pl : Sem Bool} {Qn : Hp → Prop} {Q : Flow → Shared → Prop} (S : SupAt X C f cda cc) (T : OexC X.K C) (I : Inv X pins σ H s) (hN : X.N[0]? = some ("self" : Str))
    (hσ : σ[0]? = some (some (.ref a))) (ea : H a = some (exo a C none)) (ha : PA X [ex] ta) (ht : ta σ H fun vs H1 => vs.length ≤ 1000 ∧ H1 a = some (exo a C none) ∧ Qn H1) (q : ∀ s' H1, Inv X pins σ H1 s' → Qn H1 → Q .next s')
    (he : eval (.Call (.Attribute (.Call (.Name "super" p0) [] [] p1) "__init__" p2) [ex] [] p3) X.env = (do
      let ov ← attributeBase (.Call (.Name "super" p0) [] [] p1) "__init__" X.env (eval (.Call (.Name "super" p0) [] [] p1) X.env)
      standAt p2.atName
      let (f, first) ← holding [ov] (getMethod ov "__init__" pl)
      callWith p3 f first (backTo p3 (starEach [ex] X.env)) []))
    (hi : interactive X.env = false) (hs : swapsWith (.Call (.Attribute (.Call (.Name "super" p0) [] [] p1) "__init__" p2) [ex] [] p3) none p4.line X.env = pure false)
    (he2 : starEach [ex] X.env = (false, eval ex X.env) :: starEach [] X.env) (hpl : (backTo p3 (starEach [] X.env)).any (·.1) = false) :
    _root_.PySem.wpAt (model X.prog X.w) X.A (.func body X.env) (exec (.Expr (.Call (.Attribute (.Call (.Name "super" p0) [] [] p1) "__init__" p2) [ex] [] p3) p4) X.env) Q X.xe s := by
  obtain ⟨nm, qn, N, bs, bm, sn, sub, ab, col, dd, k0, k1, k2, k3, k5, hC, hbm⟩ := T.cls
  have hcl : PySem.W.clsIn X.K C = some { name := nm, bases := bs, mro := .ref C :: bm, ns := N, qualname := qn, hasDict := true, slotNames := sn, subclasses := sub, abstract := ab, collection := col, hasDel := false } := by unfold PySem.W.clsIn; rw [hC] <;> rfl
  obtain ⟨t1, ho⟩ := exo_at I.hok ea
  obtain ⟨oc, od, fd, ar, osl, hf, hp, har⟩ := S.fn
  obtain ⟨ccl, cdd, vs, ccs, file, tf, hcode, hvs, hfile⟩ := S.cod
  obtain ⟨c0, dd0, sl0, hcell⟩ := S.cel
  obtain ⟨hh, g, d, t, os⟩ := s
  have X0 : X.K.In hh := I.kIn
  refine ks_wpAt_Expr_any (ks_wpAt_MethodCall (pl := pl) ?_ he) hi hs
  refine ks_wpAt_super_base (env := X.env) S.ks S.kc (by decide) S.fu (X0 _ _ hf) rfl hp S.co (X0 _ _ hcode) rfl hvs hfile S.top ?_
  obtain ⟨mb, h1, h2⟩ := I.mod.blt
  refine PySem.W.ks_loadName_global I.ok.kind S.ks (Calls.loadGlobal_builtin (by rw [I.ok.glob]; exact I.mod.glob.keeps I.bk) S.mgs (by rw [I.ok.blt]; exact h1.keeps I.bk) ((h2 "super" (by decide)).trans PyProof.Rows.Boot.«super») ⟨rfl, ?_⟩)
  refine wpAny_loadName_free I.ok.kind S.kc S.cl ⟨_, X0 _ _ hcell, rfl⟩ ?_
  obtain ⟨m, hns, hl⟩ := I.loc
  obtain ⟨u, ru, lk⟩ := hl 0 "self" (.ref a) hN hσ (.inl S.slf)
  obtain rfl : u = Value.ref a := ru
  have hm : m "self" = some (.ref a) := by
    rcases lk with ⟨_, e⟩ | ⟨k, _⟩
    · exact e
    · rcases k with k | k <;> · rw [S.slf] at k; cases k
  rw [har]
  refine wpAny_loadName_local I.ok.kind S.slf hns hm ?_
  have hD1 := X0 _ _ hC
  refine ks_wpAny_isType_cls hD1 rfl ⟨rfl, ?_⟩
  refine ks_wpAny_call_super (oD := excClassObj nm qn C N bs bm true sn sub ab col dd k0 k1 k2 k3 k5 "ValueError.__new__") hD1 rfl ho rfl (fun _ z => nomatch z) (PySem.W.looks_mroIn X0 S.sub) (fun h' hso kp => ?_)
  have I1 : Inv X pins σ H ⟨h', g, d, t, os⟩ := I.kept (t' := t) kp
  have X1 : X.K.In h' := X0.keeps kp
  have hin : PySem.W.ks_superIn X.K C C "__init__" = some (some (.builtin "ValueError.__init__")) := S.ini
  unfold PySem.W.ks_superIn at hin
  rw [hcl] at hin
  have IA : PySem.W.InstAt h' a ({ cls := .ref C, dict := none, data := .fields #[.ref t1, .none, .none, .none, .bool false, .none] } : Obj) C none := ⟨kp _ _ ho, rfl, rfl, trivial⟩
  have hI : PySem.W.Looks (model X.prog X.w) h' (isInstance (.ref a) (.type "ValueError")) true := IA.type.andThen (PySem.W.looks_subIn X1 S.ve)
  have hCm : PySem.W.Looks (model X.prog X.w) h' (mroOf (.ref C)) (.ref C :: bm) := fun A Q E s k q => wpAny_bind ((PySem.W.looks_clsIn X1 hcl) A _ E s k (wpAny_pure q))
  refine PySem.W.kxs_getMethod PySem.W.kxs_ValueError hso (PySem.W.looks_opaque X1 S.op) hCm rfl X1 hin hI (PySem.W.ks_ne X1 IA hcl) (by decide) ?_
  have kp2 : ∀ b o, h'.get? b = some o → (h'.push (PySem.W.kxs_mw "ValueError.__init__" a)).get? b = some o := fun b o e => Heap.get?_push_of_some _ e
  have I2 : Inv X pins σ H ⟨h'.push (PySem.W.kxs_mw "ValueError.__init__" a), g, d, t + 1, os⟩ := I1.kept (t' := t + 1) kp2
  have hu : (h'.push (PySem.W.kxs_mw "ValueError.__init__" a)).get? h'.objs.size = some (PySem.W.kxs_mw "ValueError.__init__" a) := Heap.get?_push_at rfl rfl
  have I3 : Inv X ((h'.objs.size, PySem.W.kxs_mw "ValueError.__init__" a) :: pins) σ H ⟨h'.push (PySem.W.kxs_mw "ValueError.__init__" a), g, d, t + 1, os⟩ := I2.pins_of fun p hp => by
    rcases List.mem_cons.mp hp with rfl | hp
    · exact ⟨hu, I1.hok.fresh (Nat.le_refl _), Nat.ne_of_gt I1.lt, I1.nofs (Nat.le_refl _), fun v z => nomatch z⟩
    · exact I2.pin p (List.mem_append_right _ hp)
  show wpAny _ _ (callWith p3 (.ref h'.objs.size) [] (backTo p3 (starEach [ex] X.env)) []) _ _ _
  rw [he2]
  refine PySem.W.kxs_callWith (i := "ValueError.__init__") (x := a) (by show (false || (backTo p3 (starEach [] X.env)).any (·.1)) = false; rw [hpl]; rfl) ?_
  have hrun := ha.run p3 _ _ σ H _ I3 ht
  rw [he2] at hrun
  refine Calls.evalArgs_plain (thn hrun fun us s2 hus => ?_)
  obtain ⟨vs2, H2, J, r2, hz, ea2, qn2⟩ := hus
  obtain ⟨h2', g2, d2, t2, os2⟩ := s2
  have hu2 := (J.pin (h'.objs.size, PySem.W.kxs_mw "ValueError.__init__" a) (List.mem_append_right _ List.mem_cons_self)).1
  refine ⟨hu2, ?_⟩
  obtain ⟨t5, ho2⟩ := exo_at J.hok ea2
  refine mw_call (J.kIn _ _ hC) ho2 hu2 (by
    show ([] ++ us).length ≤ sizeLine
    rw [List.nil_append, ← Paired.length r2, sizeLine_eq]
    omega) fun h3 t6 k3 hx => ?_
  have J3 := J.write (t' := t2) (x := a) (e := a) (o := exo a C none) (by rw [ea2]; exact True.intro) (.inl rfl) k3 ⟨_, hx⟩ (exo_ok hx)
  have eu : upd H2 a (exo a C none) = H2 := by
    funext b
    by_cases hb : b = a
    · rw [hb, upd_same, ea2]
    · rw [upd_ne hb]
  rw [eu] at J3
  exact q _ H2 (J3.pins_of fun p hp => J3.pin p (by
    rcases List.mem_append.mp (List.mem_append_right (X.pn) hp) with z | z
    · exact List.mem_append_left _ z
    · exact List.mem_append_right _ (List.mem_cons_of_mem _ z))) qn2

/-- the text of such an __init__ -/
structure SupSt (st : Stmt) (qual fld : Str) (ex : Expr) : Prop where
  ns : nscB ["self", fld, "__class__"] ["self", fld] ["__class__"] (defScope st) = true
  gl : (defScope st).names.lookup ("super" : Str) = some .globalImplicit
  hd : ((defArgs st).posonlyargs ++ (defArgs st).args).head?.map (·.arg) = some "self"
  b : ∃ p0 p1 p2 p3 p4 q1 q2 q3 q4 : Pos, defBody st = [.Expr (.Call (.Attribute (.Call (.Name "super" p0) [] [] p1) "__init__" p2) [ex] [] p3) p4, .Assign [.Attribute (.Name "self" q1) fld q2] (.Name fld q3) q4] ∧
    (backTo p3 (starEach [] (PySem.W.envX qual (defScope st) 0 0 .none []))).any (·.1) = false ∧ (fld == ("__debug__" : Str)) = false ∧ (fld == ("__classdict__" : Str)) = false ∧
    ∀ (L fo cda cc : Addr), ∃ pl : Sem Bool, eval (.Call (.Attribute (.Call (.Name "super" p0) [] [] p1) "__init__" p2) [ex] [] p3) (PySem.W.envX qual (defScope st) L fo (.ref cda) [("__class__", cc)]) = (do
        let ov ← attributeBase (.Call (.Name "super" p0) [] [] p1) "__init__" (PySem.W.envX qual (defScope st) L fo (.ref cda) [("__class__", cc)]) (eval (.Call (.Name "super" p0) [] [] p1) (PySem.W.envX qual (defScope st) L fo (.ref cda) [("__class__", cc)]))
        standAt p2.atName
        let (f, first) ← holding [ov] (getMethod ov "__init__" pl)
        callWith p3 f first (backTo p3 (starEach [ex] (PySem.W.envX qual (defScope st) L fo (.ref cda) [("__class__", cc)]))) []) ∧
      interactive (PySem.W.envX qual (defScope st) L fo (.ref cda) [("__class__", cc)]) = false ∧
      swapsWith (.Call (.Attribute (.Call (.Name "super" p0) [] [] p1) "__init__" p2) [ex] [] p3) none p4.line (PySem.W.envX qual (defScope st) L fo (.ref cda) [("__class__", cc)]) = pure false ∧
      starEach [ex] (PySem.W.envX qual (defScope st) L fo (.ref cda) [("__class__", cc)]) = (false, eval ex (PySem.W.envX qual (defScope st) L fo (.ref cda) [("__class__", cc)])) :: starEach [] (PySem.W.envX qual (defScope st) L fo (.ref cda) [("__class__", cc)]) ∧
      swapsWith (.Name fld q3) (some (.Attribute (.Name "self" q1) fld q2)) q4.line (PySem.W.envX qual (defScope st) L fo (.ref cda) [("__class__", cc)]) = pure false
/-- what is written of the class at C, whose __init__ stands at f -/
structure SupK (P : Program) (K : PySem.W.Frag) (mg : Str → Option Value) (x qual fld : Str) (st : Stmt) (C f : Addr) (fd : FuncData) : Prop where
  gC : mg x = some (.ref C)
  ox : OexC K C
  xf : XfC K C
  noF : PySem.W.findIn K (.ref C) fld = some none
  te : PySem.W.exmOne K (.ref C) (.ref C) = some true
  iC : PySem.W.findIn K (.ref C) "__init__" = some (some (.ref f))
  tI : PySem.W.typeIn K (.ref f) = some (.type "function")
  bd : Binds K fd ["self", fld] []
  mgs : mg "super" = none
  top : (P.main.scope.names.lookup ("super" : Str)).isSome = false
  sub : PySem.W.mroIn K C (.ref C) = some true
  ve : PySem.W.subIn K (.ref C) (.type "ValueError") = some true
  op : PySem.W.nsIn K cStatics "thirdparty.any" = some none
  ini : PySem.W.ks_superIn K C C "__init__" = some (some (.builtin "ValueError.__init__"))
  fn : ∃ (cc cda : Addr) (oc : Value) (od : Option Addr) (doc pm ct : Value) (osl : Array (Option Value)), fd = PySem.W.fnX "__init__" qual (defArgs st) (defBody st) (defScope st) [("__class__", cc)] .none .none doc pm none (.ref cda) ct ∧ K.lookup f = some ⟨oc, od, .func fd, osl⟩ ∧ PySem.W.codeIn K (.ref cda) qual = true ∧
    (∃ (c : Value) (dd : Option Addr) (sl : Array (Option Value)), K.lookup cc = some ⟨c, dd, .cell (some (.ref C)), sl⟩) ∧
    ∃ (ccl : Value) (cdd : Option Addr) (vs : Array Value) (ccs : Array (Option Value)) (file : Str) (tf : Tok), K.lookup cda = some ⟨ccl, cdd, .fields vs, ccs⟩ ∧ vs[2]? = some (.str file tf) ∧ ((P.main.file : Str) == file) = true
/-- what it does: the field is kept -/
def sp_sup (C : Addr) (fld : Str) (R : V → Hp → Prop) : Sp := fun vs H Q _ => ∃ (a : Addr) (v : V), vs = [.ref a, v] ∧ R v H ∧ H a = some (exo a C none) ∧ ∀ dx, H dx = none → dx ≠ a → Q .non (upd (upd H dx (exd dx [(fld, v)])) a (exo a C (some dx)))
theorem sup_ok {CX : CXT} {P : Program} {w : World} {K : PySem.W.Frag} {mg : Str → Option Value} {base : Heap} {x qual fld : Str} {st : Stmt} {C f : Addr} {fd : FuncData} {k : Nat} {ex : Expr} {R : V → Hp → Prop} (T : SupK P K mg x qual fld st C f fd) (S : SupSt st qual fld ex)
    (hx : ∀ (X : Cx), X.K = K → X.prog = P → X.N = [("self" : Str), fld, "__class__"] → Vis X.env.scope fld → Room k X.A → ∃ ta, PA X [ex] ta ∧ ∀ (a : Addr) (v : V) (H' : Hp), R v H' → ta [some (.ref a), some v, none] H' fun vs H1 => vs.length ≤ 1000 ∧ H1 = H') (hne : fld ≠ "__class__") :
    FnOk P w K mg base CX (k + 1) f fd ["self", fld] (sp_sup C fld R) := by
  obtain ⟨cc, cda, oc, od, doc, pm, ct, osl, rfl, lk, hcd, hcel, hcod⟩ := T.fn
  have NS := nscope_by S.ns
  obtain ⟨p0, p1, p2, p3, p4, q1, q2, q3, q4, hB, hpl, hd1, hd2, hall⟩ := S.b
  refine ⟨fun vs H Q E h => ?_, fun A outer s H args us vs Q E hr e0 hb r hsp => ?_⟩
  · obtain ⟨a, v, rfl, _⟩ := h
    rfl
  obtain ⟨a, v, rfl, hR, ea, q⟩ := hsp
  have KX : K.In s.heap := e0.mod.kin.keeps fun b o e => (e0.bs b o e).1
  have lim : s.heap.NoLimit := e0.mod.nolimit.keeps fun b o e => (e0.bs b o e).1
  let F : NF := ⟨"__init__", qual, defArgs st, defBody st, defScope st, [("__class__", cc)], cda⟩
  obtain ⟨c0, dd0, sl0, hcell⟩ := hcel
  have CA : CellsAt F.cl ["__class__"] [none] s.heap H := by
    refine ⟨rfl, fun y c e => ?_, fun x y c e1 e2 => ?_, fun i y e => ?_⟩
    · have e' : List.lookup y [(("__class__" : Str), cc)] = some c := e
      have : c = cc := by
        simp only [List.lookup] at e'
        split at e' <;> simp_all
      subst this
      exact ⟨(e0.bs _ _ (e0.mod.kin _ _ hcell)).2, _, ⟨_, KX _ _ hcell, rfl⟩⟩
    · have g : ∀ z : Str, List.lookup z [(("__class__" : Str), cc)] = some c → z = "__class__" := fun z ez => by
        simp only [List.lookup] at ez
        split at ez
        · rename_i hz
          exact eq_of_beq hz
        · cases ez
      rw [g x e1, g y e2]
    · match i, e with
      | 0, e =>
        have : y = "__class__" := (Option.some.inj e).symm
        subst this
        exact ⟨cc, by simp [F, List.lookup], fun v hv => nomatch hv⟩
  refine ks_codeAny_call_defAt (fd := F.fd doc pm ct) (body := defBody st) (binds := [("self" : Str), fld].zip us) hr.depth (KX _ _ lk) rfl lim (PySem.W.codeRec_of KX hcd) rfl hb NS.nocell (fun ⟨n, _⟩ hy => NS.par n (List.of_mem_zip hy).1) (fun h₁ hns kp => ?_) NS.co NS.gen NS.kind
  have I : Inv (ncx CX P w K mg base ["self", fld, "__class__"] F f A outer s H E) [] (startF ["self", fld, "__class__"] [.ref a, v] [none]) H { s with heap := h₁, toks := s.toks + ([("self" : Str), fld].zip us).length } := inv_startN NS hr.hd e0 rfl r CA hns kp
  have hst : startF ["self", fld, "__class__"] [.ref a, v] [none] = [some (.ref a), some v, none] := rfl
  rw [hst] at I
  obtain ⟨pl, he, hi, hs1, he2, hs2⟩ := hall s.heap.objs.size f cda cc
  have hcl : ∀ y : Str, y ≠ "__class__" → List.lookup y [(("__class__" : Str), cc)] = none := fun y hy => by
    simp only [List.lookup]
    split
    · rename_i hz
      exact absurd (eq_of_beq hz) hy
    · rfl
  obtain ⟨ta, ha, hta⟩ := hx (ncx CX P w K mg base ["self", fld, "__class__"] F f A outer s H E) rfl rfl rfl (.inl (NS.par _ (by simp))) (hr.deeper _)
  have SA : SupAt (ncx CX P w K mg base ["self", fld, "__class__"] F f A outer s H E) C f cda cc := by
    refine ⟨S.gl, NS.frk _ (by simp), ?_, rfl, rfl, NS.par _ (by simp), ?_, hcod, ⟨_, _, _, hcell⟩, T.mgs, T.top, T.sub, T.ve, T.op, T.ini⟩
    · show List.lookup ("__class__" : Str) [(("__class__" : Str), cc)] = some cc
      simp [List.lookup]
    · have hh := S.hd
      cases hq : ((defArgs st).posonlyargs ++ (defArgs st).args).head? with
      | none => rw [hq] at hh; cases hh
      | some ar =>
        rw [hq] at hh
        exact ⟨_, _, _, ar, _, lk, hq, Option.some.inj hh⟩
  show _root_.PySem.wpAt _ _ (.func (defBody st) (envF F f s.heap.objs.size)) (execs (defBody st) (envF F f s.heap.objs.size)) _ _ _
  rw [hB]
  refine ks_wpAt_execs_cons (PySem.ks_wpAt_mono (sup_run (X := ncx CX P w K mg base ["self", fld, "__class__"] F f A outer s H E) (a := a) (Qn := fun H1 => H1 = H) (Q := fun fl s' => fl = .next ∧ Inv (ncx CX P w K mg base ["self", fld, "__class__"] F f A outer s H E) [] [some (.ref a), some v, none] H s') SA T.ox I rfl rfl ea ha ?_ (fun s' H1 J e => ⟨rfl, by subst e; exact J⟩) he hi hs1 he2 hpl) (fun fl s' h => ?_) fun e s' h => h)
  · have z := hta a v H hR
    refine (?_ : ta [some (.ref a), some v, none] H fun vs H1 => vs.length ≤ 1000 ∧ H1 a = some (exo a C none) ∧ H1 = H)
    have eq : (fun (vs : List V) (H1 : Hp) => vs.length ≤ 1000 ∧ H1 a = some (exo a C none) ∧ H1 = H) = fun vs H1 => vs.length ≤ 1000 ∧ H1 = H := by
      funext vs H1
      apply propext
      constructor
      · rintro ⟨h1, _, h2⟩
        exact ⟨h1, h2⟩
      · rintro ⟨h1, rfl⟩
        exact ⟨h1, ea, rfl⟩
    rw [eq]
    exact z
  · obtain ⟨rfl, J⟩ := h
    show _root_.PySem.wpAt _ _ _ (execs [.Assign [.Attribute (.Name "self" q1) fld q2] (.Name fld q3) q4] _) _ _ _
    have P2 : PSs (ncx CX P w K mg base ["self", fld, "__class__"] F f A outer s H E) [.Assign [.Attribute (.Name "self" q1) fld q2] (.Name fld q3) q4] _ := pss_one (ps_ost (pe_var (i := 0) rfl (.inl (NS.par _ (by simp)))) (pe_var (i := 1) rfl (.inl (NS.par _ (by simp))) hd1 hd2) hs2)
    refine wpAt_of_wpAny (wpAny_mono (P2.run [] s' _ H { nx := fun _ H' => Q .non H', rt := Q } J ?_) (fun fl s'' hs => ?_) fun e s'' h => h)
    · refine ⟨_, rfl, _, rfl, a, C, rfl, T.ox, T.noF, .inl ⟨ea, fun dx n ne => q dx n ne⟩⟩
    · have fin : ∀ {σ' : L2.St} {H' : Hp} {v : V} {u : Value}, Inv (ncx CX P w K mg base ["self", fld, "__class__"] F f A outer s H E) [] σ' H' s'' → L2.RelV v u → Q v H' → CE outer P w H s Q u s'' :=
        fun {σ' H' v u} J rv q => ⟨v, H', J.os, J.bare, J.base, J.hok, rv, q⟩
      cases fl with
      | ret u =>
        obtain ⟨v, σ', H', J, rv, q⟩ := hs
        exact fin J rv q
      | next =>
        obtain ⟨σ', H', J, q⟩ := hs
        exact fin (v := V.non) (u := Value.none) J rfl q
      | brk =>
        obtain ⟨_, _, _, q⟩ := hs
        exact False.elim q
      | cont =>
        obtain ⟨_, _, _, q⟩ := hs
        exact False.elim q

/-! ### {a tuple of small ints} in an f-string -/
def Dig (ns : List Int) : Prop := ∀ n ∈ ns, 0 ≤ n ∧ n ≤ 9
theorem dig_text {n : Int} (h0 : 0 ≤ n) (h9 : n ≤ 9) : (toString n : Str).length = 1 ∧ n.natAbs.log2 < 1920 := by
  have : n = 0 ∨ n = 1 ∨ n = 2 ∨ n = 3 ∨ n = 4 ∨ n = 5 ∨ n = 6 ∨ n = 7 ∨ n = 8 ∨ n = 9 := by omega
  rcases this with rfl | rfl | rfl | rfl | rfl | rfl | rfl | rfl | rfl | rfl <;> exact ⟨by decide +kernel, by decide +kernel⟩
theorem repr_ints {prog : Program} {w : World} : ∀ {ns : List Int} {its : List Value}, Vals (ns.map V.int) its → Dig ns → ReprAll prog w its (ns.map fun n => (toString n : Str))
  | [], _, r, _ => by
    cases r
    exact .nil
  | n :: l, _, r, h => by
    cases r with
    | cons r1 r2 =>
      obtain ⟨t, rfl⟩ := r1
      have hn := h n List.mem_cons_self
      exact .cons (ReprIs.int t (dig_text hn.1 hn.2).2) (repr_ints r2 fun z hz => h z (List.mem_cons_of_mem _ hz))
theorem piled_ints : ∀ {ns : List Int}, Dig ns → piled (ns.map fun n => (toString n : Str)) = 3 * ns.length
  | [], _ => rfl
  | n :: l, h => by
    have hn := h n List.mem_cons_self
    rw [List.map_cons, piled_cons, (dig_text hn.1 hn.2).1, piled_ints (ns := l) fun z hz => h z (List.mem_cons_of_mem _ hz), List.length_cons]
    omega
def tFmtTI (K : PySem.W.Frag) (te : TE) : TE := fun σ H Q => te σ H fun x H1 => ∃ (a : Addr) (ns : List Int), x = .ref a ∧ SqT K H1 a (ns.map V.int) ∧ Dig ns ∧ ns.length ≤ 100000 ∧ ∀ m : Str, m.length ≤ 400000 → Q (.str m) H1
theorem pe_fmtTI {X : Cx} {e : Expr} {te : TE} {pos : Pos} {k : Nat} (hr : Room k X.A) (he : PE X e te) : PE X (.FormattedValue e (-1) none pos) (tFmtTI X.K te) := by
  refine ⟨fun pins s σ H Q I h => ?_⟩
  refine wpAny_FormattedValue_plain (thn (he.run pins s σ H _ I h) fun v s1 hv => ?_)
  obtain ⟨x, H1, I1, r1, a, l, rfl, ht, hc, hz, q⟩ := hv
  cases r1
  obtain ⟨its, rv, ⟨o, ho, hcl, n, hd⟩, _⟩ := I1.tuple ht
  have hp := piled_ints hc
  have htx := fmt_text (l.map fun n => (toString n : Str))
  have hu := hr.units
  have hs : sizeLine = 16777216 := sizeLine_eq
  refine fmt_tuple (ts := l.map fun n => (toString n : Str)) (by omega) ho hcl hd (repr_ints rv hc) (by omega) fun m u tk hm => ⟨.str m, H1, I1.tok _, ⟨u, rfl⟩, q m (by omega)⟩
/-- a road -/
def RoadV (K : PySem.W.Frag) (rd : List Int) (v : V) (H : Hp) : Prop := ∃ p : Addr, v = .ref p ∧ SqT K H p (rd.map V.int)
def RoadOk (K : PySem.W.Frag) (v : V) (H : Hp) : Prop := ∃ rd : List Int, RoadV K rd v H ∧ Dig rd ∧ rd.length ≤ 100000
theorem road_end {K : PySem.W.Frag} {k : Nat} {pre : Str} {j : Nat} {p1 p2 p3 p4 : Pos} (hp : pre.length ≤ 1000) : ∀ (X : Cx), X.K = K → X.prog = X.prog → X.N = [("self" : Str), "road", "__class__"] → Vis X.env.scope "road" → Room k X.A → ∃ ta, PA X [.JoinedStr [.Constant (.str pre) j p1, .FormattedValue (.Name "road" p2) (-1) none p3] p4] ta ∧ ∀ (a : Addr) (v : V) (H' : Hp), RoadOk K v H' → ta [some (.ref a), some v, none] H' fun vs H1 => vs.length ≤ 1000 ∧ H1 = H' := by
  rintro X rfl _ hN hv hr
  refine ⟨_, pa_cons (pe_joined (.cons pe_str (.cons (pe_fmtTI hr (pe_var (i := 1) (by rw [hN]; rfl) hv)) .nil))) pa_nil, ?_⟩
  rintro a v H' ⟨rd, ⟨p, rfl, ht⟩, hd, hl⟩
  have hs : sizeLine = 16777216 := sizeLine_eq
  refine ⟨pre, rfl, ?_, _, rfl, p, rd, rfl, ht, hd, hl, fun m hm => ⟨m, rfl, ?_, ?_⟩⟩
  · rw [strLen_append]
    have : (Str.empty : Str).length = 0 := rfl
    omega
  · rw [strLen_append, strLen_append]
    have : (Str.empty : Str).length = 0 := rfl
    omega
  · exact ⟨by show 1 ≤ 1000; decide, rfl⟩
theorem road_mid {K : PySem.W.Frag} {k : Nat} {pre post : Str} {j i : Nat} {p1 p2 p3 p4 p5 : Pos} (hp : pre.length ≤ 1000) (hq : post.length ≤ 1000) : ∀ (X : Cx), X.K = K → X.prog = X.prog → X.N = [("self" : Str), "road", "__class__"] → Vis X.env.scope "road" → Room k X.A → ∃ ta, PA X [.JoinedStr [.Constant (.str pre) j p1, .FormattedValue (.Name "road" p2) (-1) none p3, .Constant (.str post) i p5] p4] ta ∧ ∀ (a : Addr) (v : V) (H' : Hp), RoadOk K v H' → ta [some (.ref a), some v, none] H' fun vs H1 => vs.length ≤ 1000 ∧ H1 = H' := by
  rintro X rfl _ hN hv hr
  refine ⟨_, pa_cons (pe_joined (.cons pe_str (.cons (pe_fmtTI hr (pe_var (i := 1) (by rw [hN]; rfl) hv)) (.cons pe_str .nil)))) pa_nil, ?_⟩
  rintro a v H' ⟨rd, ⟨p, rfl, ht⟩, hd, hl⟩
  have hs : sizeLine = 16777216 := sizeLine_eq
  have h0 : (Str.empty : Str).length = 0 := rfl
  refine ⟨pre, rfl, ?_, _, rfl, p, rd, rfl, ht, hd, hl, fun m hm => ⟨m, rfl, ?_, post, rfl, ?_, ?_⟩⟩
  · rw [strLen_append]
    omega
  · rw [strLen_append, strLen_append]
    omega
  · rw [strLen_append, strLen_append, strLen_append]
    omega
  · exact ⟨by show 1 ≤ 1000; decide, rfl⟩
/-- raise X(road) -/
theorem pmk_sup {X : Cx} {CX : CXT} {x qual fld : Str} {st : Stmt} {C f : Addr} {fd : FuncData} {k : Nat} {R : V → Hp → Prop} {p pos : Pos} {e : Expr} {ta : TA} (T : SupK X.prog X.K X.mg x qual fld st C f fd) (F : FnOk X.prog X.w X.K X.mg X.base CX k f fd ["self", fld] (sp_sup C fld R)) (hr : Room (k + 1) X.A)
    (hx : Passes CX X (fun _ _ _ => False)) (hg : Gl X x) (ha : PA X [e] ta) (hdb : (x == ("__debug__" : Str)) = false := by decide) (he : starEach (e :: []) X.env = (false, eval e X.env) :: starEach [] X.env := by rfl) (hpl : (backTo pos (starEach [] X.env)).any (·.1) = false := by rfl) :
    PMk X (.Call (.Name x p) [e] [] pos) (tMkO C (sp_sup C fld R) [] ta) := pmk_oex T.ox T.iC T.tI F hr T.bd .nil hx hg T.gC ha hdb he hpl
/-- what is made of it -/
theorem mk_sup {C : Addr} {fld : Str} {R : V → Hp → Prop} {ta : TA} {σ : L2.St} {H : Hp} {W : XK} (h : ta σ H fun vs H1 => ∃ v, vs = [v] ∧ (∀ a, H1 a = none → R v (upd H1 a (exo a C none))) ∧ ∀ d, H1 d = none → W (.ref C) (some d) (upd H1 d (.xd [(fld, v)]))) (mono : ∀ {P1 P2 : List V → Hp → Prop}, (∀ vs H1, P1 vs H1 → P2 vs H1) → ta σ H P1 → ta σ H P2) : tMkO C (sp_sup C fld R) [] ta σ H W := by
  refine mono ?_ h
  rintro vs H1 ⟨v, rfl, hR, q⟩
  refine ⟨by show 1 ≤ 1000; decide, fun a na => ⟨a, v, rfl, hR a na, upd_same, fun dx nd ne => ⟨rfl, dx, [(fld, v)], upd_same, ?_, ?_, ?_⟩⟩⟩
  · rw [upd_ne ne, upd_same]
  · rw [upd_ne ne] at nd
    exact nd
  · have nd' : H1 dx = none := by rw [upd_ne ne] at nd; exact nd
    have e : upd (del (upd (upd (upd H1 a (exo a C none)) dx (exd dx [(fld, v)])) a (exo a C (some dx))) a) dx (.xd [(fld, v)]) = upd H1 dx (.xd [(fld, v)]) := by
      funext b
      by_cases hb : b = dx
      · rw [hb, upd_same, upd_same]
      · rw [upd_ne hb, upd_ne hb]
        by_cases ha : b = a
        · rw [ha, del_same, na]
        · rw [del_ne ha, upd_ne ha, upd_ne hb, upd_ne ha]
    rw [e]
    exact q dx nd'

def initOf (s : Stmt) : Stmt := match s with
  | .ClassDef _ _ _ (b :: _) _ _ _ _ _ _ _ => b
  | s => s
theorem te_of {K : PySem.W.Frag} {C : Addr} (b : PySem.W.subIn K (.ref C) (.type "BaseException") = some true) (t : PySem.W.typeIn K (.ref C) = some (.type "type")) (i : PySem.W.isClsIn K C = true) (s : PySem.W.subIn K (.ref C) (.ref C) = some true) : PySem.W.exmOne K (.ref C) (.ref C) = some true := by
  have hi := i
  unfold PySem.W.isClsIn at hi
  unfold PySem.W.exmOne PySem.W.kitCls
  rw [b, if_pos (by rfl)]
  show (if ((PySem.W.clsIn K C).isSome && PySem.W.typeIn K (Value.ref C) == some (Value.type "type")) = true then PySem.W.subIn K (Value.ref C) (Value.ref C) else none) = some true
  rw [if_pos (by rw [hi, t]; rfl), s]
theorem ex_of {K : PySem.W.Frag} {C D : Addr} {r : Bool} (b : PySem.W.subIn K (.ref D) (.type "BaseException") = some true) (t : PySem.W.typeIn K (.ref D) = some (.type "type")) (i : PySem.W.isClsIn K D = true) (s : PySem.W.subIn K (.ref C) (.ref D) = some r) : PySem.W.exmOne K (.ref C) (.ref D) = some r := by
  have hi := i
  unfold PySem.W.isClsIn at hi
  unfold PySem.W.exmOne PySem.W.kitCls
  rw [b, if_pos (by rfl)]
  show (if ((PySem.W.clsIn K D).isSome && PySem.W.typeIn K (Value.ref D) == some (Value.type "type")) = true then PySem.W.subIn K (Value.ref C) (Value.ref D) else none) = some r
  rw [if_pos (by rw [hi, t]; rfl), s]
theorem sup_of {P : Program} {K : PySem.W.Frag} {mg : Str → Option Value} {h : Heap} {x qual fld : Str} {st : Stmt} {C f cc cda N : Addr} {oc c0 ccl doc pm ct : Value} {od cdd d0 dd : Option Addr} {osl sl0 ccs : Array (Option Value)} {nm q : Str} {bs bm sub : List Value} {sn : List Str} {ab : Bool} {col : Option Bool} {k0 k1 k2 k3 k5 : Option Value} {vs : Array Value} {file : Str} {tf : Tok} (X : K.In h) (G : h.Ns mainGlobals mg)
    (h0 : PySem.W.nsIn K mainGlobals x = some (some (.ref C))) (h1 : K.lookup C = some (excClassObj nm q C N bs bm true sn sub ab col dd k0 k1 k2 k3 k5 "ValueError.__new__")) (h2 : PySem.HandSPX.refsVE bm = true) (h3 : PySem.W.findIn K (.ref C) "__setattr__" = some (some (.builtin "object.__setattr__"))) (h4 : PySem.W.subIn K (.ref C) (.type "BaseException") = some true)
    (h5 : PySem.W.typeIn K (.ref C) = some (.type "type")) (h6 : PySem.W.keepIn K (.ref C) = true) (h7 : PySem.W.findIn K (.ref C) "__getattribute__" = some (some (.builtin "BaseException.__getattribute__"))) (h8 : PySem.W.findIn K (.ref C) "__getattr__" = some none) (h9 : PySem.W.hasDictIn K C = true) (h10 : PySem.W.findIn K (.ref C) fld = some none)
    (h11 : PySem.W.isClsIn K C = true) (h12 : PySem.W.subIn K (.ref C) (.ref C) = some true) (h13 : PySem.W.findIn K (.ref C) "__init__" = some (some (.ref f))) (h14 : PySem.W.typeIn K (.ref f) = some (.type "function")) (h15 : PySem.W.nsIn K mainGlobals "super" = some none) (h16 : (P.main.scope.names.lookup ("super" : Str)).isSome = false) (h17 : PySem.W.mroIn K C (.ref C) = some true)
    (h18 : PySem.W.subIn K (.ref C) (.type "ValueError") = some true) (h19 : PySem.W.nsIn K cStatics "thirdparty.any" = some none) (h20 : PySem.W.ks_superIn K C C "__init__" = some (some (.builtin "ValueError.__init__")))
    (h21 : K.lookup f = some ⟨oc, od, .func (PySem.W.fnX "__init__" qual (defArgs st) (defBody st) (defScope st) [("__class__", cc)] .none .none doc pm none (.ref cda) ct), osl⟩) (h22 : PySem.W.codeIn K (.ref cda) qual = true) (h23 : K.lookup cc = some ⟨c0, d0, .cell (some (.ref C)), sl0⟩) (h24 : K.lookup cda = some ⟨ccl, cdd, .fields vs, ccs⟩) (h25 : vs[2]? = some (.str file tf))
    (h26 : ((P.main.file : Str) == file) = true) (hb : ∀ (us : List Value), us.length = [("self" : Str), fld].length → bindArgs (PySem.W.fnX "__init__" qual (defArgs st) (defBody st) (defScope st) [("__class__", cc)] .none .none doc pm none (.ref cda) ct) ⟨us, []⟩ = pure ([("self" : Str), fld].zip us)) :
    ∃ C f fd, SupK P K mg x qual fld st C f fd :=
  ⟨C, f, _, PySem.W.mg_of X G h0, ⟨⟨_, _, _, _, _, _, _, _, _, _, _, _, _, _, _, h1, h2⟩, h3, h4, h5, h6⟩, ⟨h7, h8, h4, h9⟩, h10, te_of h4 h5 h11 h12, h13, h14, .all hb, PySem.W.mg_none_of X G h15, h16, h17, h18, h19, h20,
    ⟨cc, cda, oc, od, doc, pm, ct, osl, rfl, h21, h22, ⟨_, _, _, h23⟩, ⟨_, _, _, _, _, _, h24, h25, h26⟩⟩⟩
/-- what a raise of such a class asks, its argument evaluated -/
theorem mk1 {C : Addr} {fld : Str} {R : V → Hp → Prop} {v : V} {H : Hp} {W : XK} (hR : ∀ a, H a = none → R v (upd H a (exo a C none))) (q : ∀ d, H d = none → W (.ref C) (some d) (upd H d (.xd [(fld, v)]))) : [v].length ≤ 1000 ∧ ∀ a, H a = none → sp_sup C fld R (.ref a :: ([v] ++ [])) (upd H a (exo a C none))
    (fun v H2 => v = .non ∧ ∃ (d : Addr) (fs : List (Str × V)), H2 a = some (exo a C (some d)) ∧ H2 d = some (exd d fs) ∧ H d = none ∧ W (.ref C) (some d) (upd (del H2 a) d (.xd fs))) (fun _ _ _ => False) := by
  refine ⟨by show 1 ≤ 1000; decide, fun a na => ⟨a, v, rfl, hR a na, upd_same, fun dx nd ne => ⟨rfl, dx, [(fld, v)], upd_same, ?_, ?_, ?_⟩⟩⟩
  · rw [upd_ne ne, upd_same]
  · rw [upd_ne ne] at nd
    exact nd
  · have nd' : H dx = none := by rw [upd_ne ne] at nd; exact nd
    have e : upd (del (upd (upd (upd H a (exo a C none)) dx (exd dx [(fld, v)])) a (exo a C (some dx))) a) dx (.xd [(fld, v)]) = upd H dx (.xd [(fld, v)]) := by
      funext b
      by_cases hb : b = dx
      · rw [hb, upd_same, upd_same]
      · rw [upd_ne hb, upd_ne hb]
        by_cases ha : b = a
        · rw [ha, del_same, na]
        · rw [del_ne ha, upd_ne ha, upd_ne hb, upd_ne ha]
    rw [e]
    exact q dx nd'
/-- a call of a local name that holds one of several defs -/
def tCallH (P : Program) (w : World) (K : PySem.W.Frag) (mg : Str → Option Value) (base : Heap) (k i : Nat) (t : TA) : TE := fun σ H Q => ∃ f sp, σ[i]? = some (some (.ref f)) ∧ Held P w K mg base k f sp ∧ t σ H fun vs H1 => sp vs H1 Q (fun _ _ _ => False)
theorem pe_callH {X : Cx} {k i : Nat} {x : Str} {p pos : Pos} {e : Expr} {es : List Expr} {t : TA} (hr : Room k X.A) (hN : X.N[i]? = some x) (hv : Vis X.env.scope x) (ha : PA X (e :: es) t)
    (hdb : (x == ("__debug__" : Str)) = false := by decide) (hcd : (x == ("__classdict__" : Str)) = false := by decide)
    (he : starEach (e :: es) X.env = (false, eval e X.env) :: starEach es X.env := by rfl) (hpl : (backTo pos (starEach es X.env)).any (·.1) = false := by rfl) : PE X (.Call (.Name x p) (e :: es) [] pos) (tCallH X.prog X.w X.K X.mg X.base k i t) := by
  refine ⟨fun pins s σ H Q I h => ?_⟩
  obtain ⟨f, sp, hs, hS, ht⟩ := h
  exact (pe_callA (S := fun g => if g = f then some sp else none) (i := i) (fun g sp' e => by
    by_cases hg : g = f
    · have e' : (if g = f then some sp else none) = some sp' := e
      rw [if_pos hg] at e'
      injection e' with e'
      rw [hg, ← e']
      exact hS
    · have e' : (if g = f then some sp else none) = some sp' := e
      rw [if_neg hg] at e'
      cases e') hr hN hv ha hdb hcd he hpl).run pins s σ H Q I ⟨f, sp, hs, if_pos rfl, ht⟩
end Ob

/-! ### papers, and what they show -/
namespace Ob
open PySem PySem.Spec PyProof.Rows L2

inductive Pp where
  | use (k : Int) | name (n : List Nat)
  | pair (p q : Pp) | first (p : Pp) | second (p : Pp) | left (p : Pp) (b : Sm) | right (a : Sm) (p : Pp)
  | case (p q r : Pp) (c : Sm) | make (a : Sm) (p : Pp) | apply (p q : Pp) | escape (p : Pp) (c : Sm)
inductive IsPp (K : PySem.W.Frag) (H : Hp) : V → Pp → Prop where
  | use {a : Addr} {k : Int} : SqT K H a [.str "use", .int k] → IsPp K H (.ref a) (.use k)
  | name {a : Addr} {n : List Nat} : SqT K H a [.str "name", .str (S n)] → IsPp K H (.ref a) (.name n)
  | pair {a : Addr} {x y : V} {p q : Pp} : SqT K H a [.str "pair", x, y] → IsPp K H x p → IsPp K H y q → IsPp K H (.ref a) (.pair p q)
  | first {a : Addr} {x : V} {p : Pp} : SqT K H a [.str "first", x] → IsPp K H x p → IsPp K H (.ref a) (.first p)
  | second {a : Addr} {x : V} {p : Pp} : SqT K H a [.str "second", x] → IsPp K H x p → IsPp K H (.ref a) (.second p)
  | left {a : Addr} {x y : V} {p : Pp} {b : Sm} : SqT K H a [.str "left", x, y] → IsPp K H x p → IsSm K H y b → IsPp K H (.ref a) (.left p b)
  | right {a : Addr} {x y : V} {p : Pp} {b : Sm} : SqT K H a [.str "right", y, x] → IsPp K H x p → IsSm K H y b → IsPp K H (.ref a) (.right b p)
  | case {a : Addr} {x y z u : V} {p q r : Pp} {c : Sm} : SqT K H a [.str "case", x, y, z, u] → IsPp K H x p → IsPp K H y q → IsPp K H z r → IsSm K H u c → IsPp K H (.ref a) (.case p q r c)
  | make {a : Addr} {x y : V} {p : Pp} {b : Sm} : SqT K H a [.str "make", y, x] → IsPp K H x p → IsSm K H y b → IsPp K H (.ref a) (.make b p)
  | apply {a : Addr} {x y : V} {p q : Pp} : SqT K H a [.str "apply", x, y] → IsPp K H x p → IsPp K H y q → IsPp K H (.ref a) (.apply p q)
  | escape {a : Addr} {x y : V} {p : Pp} {b : Sm} : SqT K H a [.str "escape", x, y] → IsPp K H x p → IsSm K H y b → IsPp K H (.ref a) (.escape p b)
theorem IsPp.tk {K : PySem.W.Frag} {H H' : Hp} (k : TK K H H') {v : V} {p : Pp} (h : IsPp K H v p) : IsPp K H' v p := by
  induction h with
  | use h => exact .use (k _ _ h)
  | name h => exact .name (k _ _ h)
  | pair h _ _ i1 i2 => exact .pair (k _ _ h) i1 i2
  | first h _ i1 => exact .first (k _ _ h) i1
  | second h _ i1 => exact .second (k _ _ h) i1
  | left h _ s i1 => exact .left (k _ _ h) i1 (s.tk k)
  | right h _ s i1 => exact .right (k _ _ h) i1 (s.tk k)
  | case h _ _ _ s i1 i2 i3 => exact .case (k _ _ h) i1 i2 i3 (s.tk k)
  | make h _ s i1 => exact .make (k _ _ h) i1 (s.tk k)
  | apply h _ _ i1 i2 => exact .apply (k _ _ h) i1 i2
  | escape h _ s i1 => exact .escape (k _ _ h) i1 (s.tk k)
theorem IsPp.same {K : PySem.W.Frag} {H H' : Hp} (e : Same H H') {v : V} {p : Pp} (h : IsPp K H v p) : IsPp K H' v p := h.tk (Same.tk e)
def Pp.wt : Pp → Nat
  | .use _ => 1
  | .name _ => 1
  | .pair p q => p.wt + q.wt + 2
  | .first p => p.wt + 2
  | .second p => p.wt + 2
  | .left p _ => p.wt + 2
  | .right _ p => p.wt + 2
  | .case p q r _ => p.wt + q.wt + r.wt + 7
  | .make _ p => p.wt + 4
  | .apply p q => p.wt + q.wt + 2
  | .escape p _ => p.wt + 2
theorem Pp.wt_pos (p : Pp) : 0 < p.wt := by cases p <;> simp only [Pp.wt] <;> omega
/-! ### statements that may be compared -/
/-- the left parts of its thens, but those within left parts, are no deeper than 60 -/
def Sm.tl : Sm → Prop
  | .lt _ => True
  | .nv => True
  | .bin .thn a b => a.dp ≤ 60 ∧ a.In Ch ∧ b.tl
  | .bin _ a b => a.tl ∧ b.tl
def Sm.Bn (s : Sm) : Prop := s.dp ≤ 60 ∧ s.In Ch
theorem Sm.Bn.tl : ∀ {s : Sm}, s.Bn → s.tl
  | .lt _, _ => True.intro
  | .nv, _ => True.intro
  | .bin w a b, h => by
    have hd : max a.dp b.dp + 1 ≤ 60 := h.1
    have hi : a.In Ch ∧ b.In Ch := h.2
    have ha : a.Bn := ⟨by omega, hi.1⟩
    have hb : b.Bn := ⟨by omega, hi.2⟩
    cases w with
    | thn => exact ⟨ha.1, hi.1, hb.tl⟩
    | and => exact ⟨ha.tl, hb.tl⟩
    | or => exact ⟨ha.tl, hb.tl⟩
structure Sm.Cm (s : Sm) : Prop where
  ch : s.In Ch
  tl : s.tl
theorem Sm.Bn.cm {s : Sm} (h : s.Bn) : s.Cm := ⟨h.2, h.tl⟩
theorem eq_bn {s t : Sm} (h : t.Bn) (hs : s.In Ch) : PyData.eqv s.data t.data = decide (s = t) ∧ s.data.canLay0 = true ∧ t.data.canLay0 = true ∧ min s.data.depth t.data.depth ≤ 64 := by
  refine ⟨Sm.eqv _ _, Sm.lay hs, Sm.lay h.2, ?_⟩
  have := t.depth_dp
  have := h.1
  omega
/-- the statements that a paper bears -/
def Pp.Bn : Pp → Prop
  | .use _ => True
  | .name _ => True
  | .pair p q => p.Bn ∧ q.Bn
  | .first p => p.Bn
  | .second p => p.Bn
  | .left p b => p.Bn ∧ b.Bn
  | .right b p => p.Bn ∧ b.Bn
  | .case p q r c => p.Bn ∧ q.Bn ∧ r.Bn ∧ c.Bn
  | .make b p => p.Bn ∧ b.Bn
  | .apply p q => p.Bn ∧ q.Bn
  | .escape p b => p.Bn ∧ b.Bn
/-! ### what is shown -/
inductive Er where
  | given | named | that
  deriving DecidableEq
abbrev Out (α : Type) := Except (Er × List Int) α
def fin (o : Option Sm) (rd : List Int) : Out Sm := match o with
  | some s => .ok s
  | none => .error (.that, rd)
def Pp.rule : Pp → List Sm → Option Sm
  | .pair _ _, [a, b] => some (.bin .and a b)
  | .first _, [.bin .and a _] => some a
  | .second _, [.bin .and _ b] => some b
  | .left _ b, [a] => some (.bin .or a b)
  | .right a _, [b] => some (.bin .or a b)
  | .case _ _ _ c, [x, y] => if x = c ∧ y = c then some c else none
  | .make a _, [b] => some (.bin .thn a b)
  | .apply _ _, [.bin .thn a b, x] => if a = x then some b else none
  | .escape _ c, [.nv] => some c
  | _, _ => none
def had (B : List Nat → Option Sm) (g : List Sm) : Pp → List Int → Out Sm
  | .use k, rd => match (if 0 ≤ k then g[k.toNat]? else none) with
    | some s => .ok s
    | none => .error (.given, rd)
  | .name n, rd => match B n with
    | some s => .ok s
    | none => .error (.named, rd)
  | _, rd => .error (.that, rd)
def bindO {α β : Type} (x : Out α) (f : α → Out β) : Out β := match x with
  | .ok a => f a
  | .error e => .error e
def Pp.look (B : List Nat → Option Sm) : Pp → List Sm → List Int → Out Sm
  | .use k, g, rd => had B g (.use k) rd
  | .name n, g, rd => had B g (.name n) rd
  | .pair p q, g, rd => bindO (p.look B g (rd ++ [1])) fun a => bindO (q.look B g (rd ++ [2])) fun b => fin ((Pp.pair p q).rule [a, b]) rd
  | .first p, g, rd => bindO (p.look B g (rd ++ [1])) fun a => fin ((Pp.first p).rule [a]) rd
  | .second p, g, rd => bindO (p.look B g (rd ++ [1])) fun a => fin ((Pp.second p).rule [a]) rd
  | .left p b, g, rd => bindO (p.look B g (rd ++ [1])) fun a => fin ((Pp.left p b).rule [a]) rd
  | .right b p, g, rd => bindO (p.look B g (rd ++ [2])) fun a => fin ((Pp.right b p).rule [a]) rd
  | .case p q r c, g, rd => bindO (p.look B g (rd ++ [1])) fun o => match o with
    | .bin .or a b => bindO (q.look B (g ++ [a]) (rd ++ [2])) fun x => bindO (r.look B (g ++ [b]) (rd ++ [3])) fun y => fin ((Pp.case p q r c).rule [x, y]) rd
    | _ => .error (.that, rd)
  | .make a p, g, rd => bindO (p.look B (g ++ [a]) (rd ++ [2])) fun b => fin ((Pp.make a p).rule [b]) rd
  | .apply p q, g, rd => bindO (p.look B g (rd ++ [1])) fun a => bindO (q.look B g (rd ++ [2])) fun b => fin ((Pp.apply p q).rule [a, b]) rd
  | .escape p c, g, rd => bindO (p.look B g (rd ++ [1])) fun a => fin ((Pp.escape p c).rule [a]) rd
/-! ### the tasks -/
inductive Tk where
  | look (p : Pp) (rd : List Int) | assume (a : Sm) (rd : List Int) | forget (a : Sm) (rd : List Int) | part (p : Pp) (rd : List Int) | show (p : Pp) (rd : List Int)
def Tk.rd : Tk → List Int
  | .look _ rd => rd
  | .assume _ rd => rd
  | .forget _ rd => rd
  | .part _ rd => rd
  | .show _ rd => rd
def Tk.wt : Tk → Nat
  | .look p _ => p.wt
  | .assume _ _ => 1
  | .forget _ _ => 1
  | .part (.case _ q r _) _ => q.wt + r.wt + 6
  | .part _ _ => 1
  | .show _ _ => 1
theorem Tk.wt_pos (t : Tk) : 0 < t.wt := by
  cases t with
  | look p _ => exact p.wt_pos
  | part p _ => cases p <;> simp only [Tk.wt] <;> omega
  | _ => exact Nat.one_pos
def wts (l : List Tk) : Nat := (l.map Tk.wt).sum
theorem wts_cons (t : Tk) (l : List Tk) : wts (t :: l) = t.wt + wts l := rfl
theorem wts_app (l m : List Tk) : wts (l ++ m) = wts l + wts m := by unfold wts; rw [List.map_append, List.sum_append]
theorem wts_len : ∀ l : List Tk, l.length ≤ wts l
  | [] => Nat.le_refl _
  | t :: l => by
    have := wts_len l
    have := t.wt_pos
    rw [wts_cons, List.length_cons]
    omega
def Pp.two : Pp → Bool
  | .pair _ _ => true
  | .case _ _ _ _ => true
  | .apply _ _ => true
  | _ => false
def Pp.leaf : Pp → Bool
  | .use _ => true
  | .name _ => true
  | _ => false
def Pp.tasks : Pp → List Int → List Tk
  | .use _, _ => []
  | .name _, _ => []
  | .case p q r c, rd => [.look p (rd ++ [1]), .part (.case p q r c) rd]
  | .make a p, rd => [.assume a rd, .look p (rd ++ [2]), .forget a rd, .show (.make a p) rd]
  | .pair p q, rd => [.look p (rd ++ [1]), .look q (rd ++ [2]), .show (.pair p q) rd]
  | .apply p q, rd => [.look p (rd ++ [1]), .look q (rd ++ [2]), .show (.apply p q) rd]
  | .first p, rd => [.look p (rd ++ [1]), .show (.first p) rd]
  | .second p, rd => [.look p (rd ++ [1]), .show (.second p) rd]
  | .left p b, rd => [.look p (rd ++ [1]), .show (.left p b) rd]
  | .right b p, rd => [.look p (rd ++ [2]), .show (.right b p) rd]
  | .escape p c, rd => [.look p (rd ++ [1]), .show (.escape p c) rd]
def behindOr (p : Pp) (a b : Sm) (rd : List Int) : List Tk := match p with
  | .case _ q r _ => [.assume a rd, .look q (rd ++ [2]), .forget a rd, .assume b rd, .look r (rd ++ [3]), .forget b rd, .show p rd]
  | _ => []
theorem tasks_wt {p : Pp} {rd : List Int} (h : p.leaf = false) : wts (p.tasks rd) + 1 = p.wt := by
  cases p <;> first | exact absurd h Bool.noConfusion | (simp only [Pp.tasks, wts, List.map_cons, List.map_nil, List.sum_cons, List.sum_nil, Tk.wt, Pp.wt]; omega)
/-- the givens, what is shown (the uppermost first) -/
abbrev Mc := List Sm × List Sm
abbrev Res := Option (Out Mc)
def bindR (x : Res) (f : Mc → Res) : Res := match x with
  | some (.ok s) => f s
  | some (.error e) => some (.error e)
  | none => none
def Tk.run (B : List Nat → Option Sm) : Tk → Mc → Res
  | .look p rd, (g, sh) => some (bindO (p.look B g rd) fun s => .ok (g, s :: sh))
  | .assume a _, (g, sh) => some (.ok (g ++ [a], sh))
  | .forget _ _, (g, sh) => if g = [] then none else some (.ok (g.dropLast, sh))
  | .part p rd, (g, sh) => match p, sh with
    | .case p q r c, o :: sh' => match o with
      | .bin .or a b => some (bindO (q.look B (g ++ [a]) (rd ++ [2])) fun x => bindO (r.look B (g ++ [b]) (rd ++ [3])) fun y => bindO (fin ((Pp.case p q r c).rule [x, y]) rd) fun s => .ok (g, s :: sh'))
      | _ => some (.error (.that, rd))
    | _, _ => none
  | .show p rd, (g, sh) => if p.leaf = true then none else if p.two = true then match sh with
      | y :: x :: sh' => some (bindO (fin (p.rule [x, y]) rd) fun s => .ok (g, s :: sh'))
      | _ => none
    else match sh with
      | x :: sh' => some (bindO (fin (p.rule [x]) rd) fun s => .ok (g, s :: sh'))
      | _ => none
def runs (B : List Nat → Option Sm) : List Tk → Mc → Res
  | [], st => some (.ok st)
  | t :: ts, st => bindR (t.run B st) (runs B ts)
theorem bindO_look {α : Type} {x : Out Sm} {f : Sm → Out α} {g : α → Res} {h : Sm → Res} (e : ∀ s, (match f s with
    | .ok a => g a
    | .error e => some (.error e)) = h s) : (match bindO x f with
    | .ok a => g a
    | .error e => some (.error e)) = match x with
    | .ok s => h s
    | .error e => some (.error e) := by
  cases x with
  | ok s => exact e s
  | error e => rfl
theorem run_look (B : List Nat → Option Sm) (p : Pp) (rd : List Int) (ts : List Tk) (g sh : List Sm) : runs B (.look p rd :: ts) (g, sh) = match p.look B g rd with
    | .ok s => runs B ts (g, s :: sh)
    | .error e => some (.error e) := by
  show bindR (some (bindO (p.look B g rd) fun s => .ok (g, s :: sh))) (runs B ts) = _
  cases p.look B g rd <;> rfl
theorem run_assume (B : List Nat → Option Sm) (a : Sm) (rd : List Int) (ts : List Tk) (g sh : List Sm) : runs B (.assume a rd :: ts) (g, sh) = runs B ts (g ++ [a], sh) := rfl
theorem run_forget (B : List Nat → Option Sm) (a b : Sm) (rd : List Int) (ts : List Tk) (g sh : List Sm) : runs B (.forget a rd :: ts) (g ++ [b], sh) = runs B ts (g, sh) := by
  show bindR (if g ++ [b] = [] then none else some (.ok ((g ++ [b]).dropLast, sh))) (runs B ts) = _
  rw [if_neg (by simp), List.dropLast_concat]
  rfl
theorem run_show1 (B : List Nat → Option Sm) {p : Pp} (rd : List Int) (ts : List Tk) (g sh : List Sm) (x : Sm) (h1 : p.leaf = false) (h2 : p.two = false) : runs B (.show p rd :: ts) (g, x :: sh) = match fin (p.rule [x]) rd with
    | .ok s => runs B ts (g, s :: sh)
    | .error e => some (.error e) := by
  show bindR (if p.leaf = true then none else if p.two = true then _ else _) (runs B ts) = _
  rw [h1, h2]
  show bindR (some (bindO (fin (p.rule [x]) rd) fun s => .ok (g, s :: sh))) (runs B ts) = _
  cases fin (p.rule [x]) rd <;> rfl
theorem run_show2 (B : List Nat → Option Sm) {p : Pp} (rd : List Int) (ts : List Tk) (g sh : List Sm) (x y : Sm) (h1 : p.leaf = false) (h2 : p.two = true) : runs B (.show p rd :: ts) (g, y :: x :: sh) = match fin (p.rule [x, y]) rd with
    | .ok s => runs B ts (g, s :: sh)
    | .error e => some (.error e) := by
  show bindR (if p.leaf = true then none else if p.two = true then _ else _) (runs B ts) = _
  rw [h1, h2]
  show bindR (some (bindO (fin (p.rule [x, y]) rd) fun s => .ok (g, s :: sh))) (runs B ts) = _
  cases fin (p.rule [x, y]) rd <;> rfl
theorem two_step {B : List Nat → Option Sm} {p q w : Pp} {rd : List Int} (ts : List Tk) (g sh : List Sm) (h1 : w.leaf = false) (h2 : w.two = true) (e : w.look B g rd = bindO (p.look B g (rd ++ [1])) fun a => bindO (q.look B g (rd ++ [2])) fun b => fin (w.rule [a, b]) rd) :
    runs B (.look w rd :: ts) (g, sh) = runs B (.look p (rd ++ [1]) :: .look q (rd ++ [2]) :: .show w rd :: ts) (g, sh) := by
  rw [run_look, run_look, e]
  cases p.look B g (rd ++ [1]) with
  | error e => rfl
  | ok a =>
    show _ = runs B (.look q (rd ++ [2]) :: .show w rd :: ts) (g, a :: sh)
    rw [run_look]
    show (match bindO (q.look B g (rd ++ [2])) fun b => fin (w.rule [a, b]) rd with
      | .ok s => runs B ts (g, s :: sh)
      | .error e => some (.error e)) = _
    cases q.look B g (rd ++ [2]) with
    | error e => rfl
    | ok b =>
      show _ = runs B (.show w rd :: ts) (g, b :: a :: sh)
      rw [run_show2 B rd ts g sh a b h1 h2]
      rfl
theorem one_step {B : List Nat → Option Sm} {p w : Pp} {rd : List Int} {i : Int} (ts : List Tk) (g sh : List Sm) (h1 : w.leaf = false) (h2 : w.two = false) (e : w.look B g rd = bindO (p.look B g (rd ++ [i])) fun a => fin (w.rule [a]) rd) :
    runs B (.look w rd :: ts) (g, sh) = runs B (.look p (rd ++ [i]) :: .show w rd :: ts) (g, sh) := by
  rw [run_look, run_look, e]
  cases p.look B g (rd ++ [i]) with
  | error e => rfl
  | ok a =>
    show _ = runs B (.show w rd :: ts) (g, a :: sh)
    rw [run_show1 B rd ts g sh a h1 h2]
    rfl
/-- a paper that has others within it, by its tasks -/
theorem look_tasks (B : List Nat → Option Sm) {p : Pp} (h : p.leaf = false) (rd : List Int) (ts : List Tk) (g sh : List Sm) : runs B (.look p rd :: ts) (g, sh) = runs B (p.tasks rd ++ ts) (g, sh) := by
  cases p with
  | use k => cases h
  | name n => cases h
  | pair p q => exact two_step ts g sh rfl rfl rfl
  | apply p q => exact two_step ts g sh rfl rfl rfl
  | first p => exact one_step ts g sh rfl rfl rfl
  | second p => exact one_step ts g sh rfl rfl rfl
  | left p b => exact one_step ts g sh rfl rfl rfl
  | right b p => exact one_step ts g sh rfl rfl rfl
  | escape p c => exact one_step ts g sh rfl rfl rfl
  | make a p =>
    show _ = runs B (.assume a rd :: .look p (rd ++ [2]) :: .forget a rd :: .show (.make a p) rd :: ts) (g, sh)
    rw [run_look, run_assume, run_look]
    show (match bindO (p.look B (g ++ [a]) (rd ++ [2])) fun b => fin ((Pp.make a p).rule [b]) rd with
      | .ok s => runs B ts (g, s :: sh)
      | .error e => some (.error e)) = _
    cases p.look B (g ++ [a]) (rd ++ [2]) with
    | error e => rfl
    | ok b =>
      show _ = runs B (.forget a rd :: .show (.make a p) rd :: ts) (g ++ [a], b :: sh)
      rw [run_forget, run_show1 B rd ts g sh b rfl rfl]
      rfl
  | case p q r c =>
    show _ = runs B (.look p (rd ++ [1]) :: .part (.case p q r c) rd :: ts) (g, sh)
    rw [run_look, run_look]
    show (match bindO (p.look B g (rd ++ [1])) _ with
      | .ok s => runs B ts (g, s :: sh)
      | .error e => some (.error e)) = _
    cases p.look B g (rd ++ [1]) with
    | error e => rfl
    | ok o =>
      show _ = bindR (Tk.run B (.part (.case p q r c) rd) (g, o :: sh)) (runs B ts)
      cases o with
      | lt n => rfl
      | nv => rfl
      | bin w a b =>
        cases w with
        | and => rfl
        | thn => rfl
        | or =>
          show (match bindO (q.look B (g ++ [a]) (rd ++ [2])) _ with
            | .ok s => runs B ts (g, s :: sh)
            | .error e => some (.error e)) = bindR (some (bindO (q.look B (g ++ [a]) (rd ++ [2])) _)) (runs B ts)
          cases q.look B (g ++ [a]) (rd ++ [2]) with
          | error e => rfl
          | ok x =>
            show (match bindO (r.look B (g ++ [b]) (rd ++ [3])) _ with
              | .ok s => runs B ts (g, s :: sh)
              | .error e => some (.error e)) = bindR (some (bindO (r.look B (g ++ [b]) (rd ++ [3])) _)) (runs B ts)
            cases r.look B (g ++ [b]) (rd ++ [3]) with
            | error e => rfl
            | ok y =>
              show (match fin ((Pp.case p q r c).rule [x, y]) rd with
                | .ok s => runs B ts (g, s :: sh)
                | .error e => some (.error e)) = bindR (some (bindO (fin ((Pp.case p q r c).rule [x, y]) rd) _)) (runs B ts)
              cases fin ((Pp.case p q r c).rule [x, y]) rd <;> rfl
theorem part_or (B : List Nat → Option Sm) (p q r : Pp) (c a b : Sm) (rd : List Int) (ts : List Tk) (g sh : List Sm) : runs B (.part (.case p q r c) rd :: ts) (g, .bin .or a b :: sh) = runs B (behindOr (.case p q r c) a b rd ++ ts) (g, sh) := by
  show bindR (some (bindO (q.look B (g ++ [a]) (rd ++ [2])) fun x => bindO (r.look B (g ++ [b]) (rd ++ [3])) fun y => bindO (fin ((Pp.case p q r c).rule [x, y]) rd) fun s => .ok (g, s :: sh))) (runs B ts) = runs B (.assume a rd :: .look q (rd ++ [2]) :: .forget a rd :: .assume b rd :: .look r (rd ++ [3]) :: .forget b rd :: .show (.case p q r c) rd :: ts) (g, sh)
  rw [run_assume, run_look]
  cases q.look B (g ++ [a]) (rd ++ [2]) with
  | error e => rfl
  | ok x =>
    show _ = runs B (.forget a rd :: .assume b rd :: .look r (rd ++ [3]) :: .forget b rd :: .show (.case p q r c) rd :: ts) (g ++ [a], x :: sh)
    rw [run_forget, run_assume, run_look]
    show bindR (some (bindO (r.look B (g ++ [b]) (rd ++ [3])) fun y => bindO (fin ((Pp.case p q r c).rule [x, y]) rd) fun s => .ok (g, s :: sh))) (runs B ts) = _
    cases r.look B (g ++ [b]) (rd ++ [3]) with
    | error e => rfl
    | ok y =>
      show _ = runs B (.forget b rd :: .show (.case p q r c) rd :: ts) (g ++ [b], y :: x :: sh)
      rw [run_forget, run_show2 B rd ts g sh x y rfl rfl]
      show bindR (some (bindO (fin ((Pp.case p q r c).rule [x, y]) rd) fun s => .ok (g, s :: sh))) (runs B ts) = _
      cases fin ((Pp.case p q r c).rule [x, y]) rd <;> rfl
theorem part_not (B : List Nat → Option Sm) (p q r : Pp) (c o : Sm) (rd : List Int) (ts : List Tk) (g sh : List Sm) (h : ∀ a b, o ≠ .bin .or a b) : runs B (.part (.case p q r c) rd :: ts) (g, o :: sh) = some (.error (.that, rd)) := by
  cases o with
  | lt n => rfl
  | nv => rfl
  | bin w a b =>
    cases w with
    | and => rfl
    | thn => rfl
    | or => exact absurd rfl (h a b)

/-! ### words -/
inductive PW where
  | use | name | pair | first | second | left | right | case | make | apply | escape
  deriving DecidableEq
def PW.s : PW → Str
  | .use => "use" | .name => "name" | .pair => "pair" | .first => "first" | .second => "second" | .left => "left" | .right => "right" | .case => "case" | .make => "make" | .apply => "apply" | .escape => "escape"
def PW.fn : PW → Str
  | .use => "" | .name => "" | .pair => "_pair" | .first => "_first" | .second => "_second" | .left => "_left" | .right => "_right" | .case => "_case" | .make => "_make" | .apply => "_apply" | .escape => "_escape"
def PW.pl : PW → List Int
  | .use => [] | .name => [] | .pair => [1, 2] | .first => [1] | .second => [1] | .left => [1] | .right => [2] | .case => [1, 2, 3] | .make => [2] | .apply => [1, 2] | .escape => [1]
def Pp.wd : Pp → PW
  | .use _ => .use | .name _ => .name | .pair _ _ => .pair | .first _ => .first | .second _ => .second | .left _ _ => .left | .right _ _ => .right | .case _ _ _ _ => .case | .make _ _ => .make | .apply _ _ => .apply | .escape _ _ => .escape
def Pp.kids : Pp → List (Int × Pp)
  | .use _ => []
  | .name _ => []
  | .pair p q => [(1, p), (2, q)]
  | .first p => [(1, p)]
  | .second p => [(1, p)]
  | .left p _ => [(1, p)]
  | .right _ p => [(2, p)]
  | .case p q r _ => [(1, p), (2, q), (3, r)]
  | .make _ p => [(2, p)]
  | .apply p q => [(1, p), (2, q)]
  | .escape p _ => [(1, p)]
theorem Pp.kids_pl (p : Pp) : p.wd.pl = p.kids.map (·.1) := by cases p <;> rfl
theorem PW.s_inj {a b : PW} (h : a.s = b.s) : a = b := by
  cases a <;> cases b <;> first | rfl | exact absurd h (by decide +kernel)
theorem PW.s_eq (a b : PW) : decide (V.str a.s = V.str b.s) = decide (a = b) := by
  by_cases h : a = b
  · rw [h, decide_eq_true rfl, decide_eq_true rfl]
  · rw [decide_eq_false h, decide_eq_false]
    intro e
    injection e with e
    exact h (PW.s_inj e)
theorem tasks_kids {p : Pp} (h : p.leaf = false) (hc : p.wd ≠ .case) (hm : p.wd ≠ .make) (rd : List Int) : p.tasks rd = p.kids.map (fun k => Tk.look k.2 (rd ++ [k.1])) ++ [Tk.show p rd] := by
  cases p <;> first | rfl | exact absurd h Bool.noConfusion | exact absurd rfl hc | exact absurd rfl hm
theorem IsPp.kid {K : PySem.W.Frag} {H : Hp} {v : V} {p : Pp} (h : IsPp K H v p) : ∃ a xs, v = .ref a ∧ SqT K H a (.str p.wd.s :: xs) ∧ ∀ k ∈ p.kids, ∃ x, atI (.str p.wd.s :: xs) k.1 = some x ∧ IsPp K H x k.2 := by
  cases h with
  | use h => exact ⟨_, _, rfl, h, fun k hk => absurd hk List.not_mem_nil⟩
  | name h => exact ⟨_, _, rfl, h, fun k hk => absurd hk List.not_mem_nil⟩
  | pair h p q => exact ⟨_, _, rfl, h, fun k hk => by
      rcases List.mem_cons.mp hk with rfl | hk
      · exact ⟨_, at1, p⟩
      · rw [List.mem_singleton.mp hk]
        exact ⟨_, at2, q⟩⟩
  | first h p => exact ⟨_, _, rfl, h, fun k hk => by
      rw [List.mem_singleton.mp hk]
      exact ⟨_, at1, p⟩⟩
  | second h p => exact ⟨_, _, rfl, h, fun k hk => by
      rw [List.mem_singleton.mp hk]
      exact ⟨_, at1, p⟩⟩
  | left h p _ => exact ⟨_, _, rfl, h, fun k hk => by
      rw [List.mem_singleton.mp hk]
      exact ⟨_, at1, p⟩⟩
  | right h p _ => exact ⟨_, _, rfl, h, fun k hk => by
      rw [List.mem_singleton.mp hk]
      exact ⟨_, at2, p⟩⟩
  | case h p q r _ => exact ⟨_, _, rfl, h, fun k hk => by
      rcases List.mem_cons.mp hk with rfl | hk
      · exact ⟨_, at1, p⟩
      · rcases List.mem_cons.mp hk with rfl | hk
        · exact ⟨_, at2, q⟩
        · rw [List.mem_singleton.mp hk]
          exact ⟨_, atI_nat (j := 3) rfl, r⟩⟩
  | make h p _ => exact ⟨_, _, rfl, h, fun k hk => by
      rw [List.mem_singleton.mp hk]
      exact ⟨_, at2, p⟩⟩
  | apply h p q => exact ⟨_, _, rfl, h, fun k hk => by
      rcases List.mem_cons.mp hk with rfl | hk
      · exact ⟨_, at1, p⟩
      · rw [List.mem_singleton.mp hk]
        exact ⟨_, at2, q⟩⟩
  | escape h p _ => exact ⟨_, _, rfl, h, fun k hk => by
      rw [List.mem_singleton.mp hk]
      exact ⟨_, at1, p⟩⟩
/-- the tables of the module forms, papers -/
def PapK (K : PySem.W.Frag) (w : World) (a : Addr) : Prop := ∀ wd : PW, ∃ q, KDct K w a wd.s (.ref q) ∧ KT K q (wd.pl.map V.int)
def ShK (K : PySem.W.Frag) (w : World) (mg : Str → Option Value) (a : Addr) : Prop := ∀ wd : PW, wd ≠ .use → wd ≠ .name → ∃ f, KDct K w a wd.s (.ref f) ∧ mg wd.fn = some (.ref f)
theorem Pp.wd_leaf {p : Pp} (h : p.leaf = false) : p.wd ≠ .use ∧ p.wd ≠ .name := by
  cases p <;> first | exact absurd h Bool.noConfusion | exact ⟨fun z => PW.noConfusion z, fun z => PW.noConfusion z⟩
theorem Pp.two_pl (p : Pp) (h : p.wd ≠ .case) : p.wd.pl.length = 1 ↔ p.leaf = false ∧ p.two = false := by
  cases p <;> first | exact absurd rfl h | (simp [Pp.wd, PW.pl, Pp.leaf, Pp.two])
/-- what is refused -/
def clsOf : Er → Str
  | .given => "NoGiven" | .named => "Unnamed" | .that => "NotThat"
def Rf (K : PySem.W.Frag) (mg : Str → Option Value) (H : Hp) (E : XK) (e : Er × List Int) : Prop := ∀ (C d : Addr) (H' : Hp) (vr : V), mg (clsOf e.1) = some (.ref C) → Same H H' → H' d = none → RoadV K e.2 vr H' → E (.ref C) (some d) (upd H' d (.xd [("road", vr)]))
theorem Dig.add {rd : List Int} (h : Dig rd) {i : Int} (h0 : 0 ≤ i) (h9 : i ≤ 9) : Dig (rd ++ [i]) := fun n hn => by
  rcases List.mem_append.mp hn with z | z
  · exact h n z
  · rw [List.mem_singleton.mp z]
    exact ⟨h0, h9⟩

theorem Pp.kids_le (p : Pp) : p.kids.length ≤ 3 := by cases p <;> simp [Pp.kids]
theorem held_of {P : Program} {w : World} {K : PySem.W.Frag} {mg : Str → Option Value} {base : Heap} {k : Nat} {x : Str} {f : Addr} {sp : Sp} (c : Cl P w K mg base k x sp) (h : mg x = some (.ref f)) : Held P w K mg base k f sp := by
  obtain ⟨g, fd, ps, F, m, kp, b⟩ := c.ex
  have e := h.symm.trans m
  injection e with e
  injection e with e
  subst e
  exact ⟨fd, ps, F, kp, b⟩
theorem RoadV.tk {K : PySem.W.Frag} {rd : List Int} {v : V} {H H' : Hp} (k : TK K H H') (h : RoadV K rd v H) : RoadV K rd v H' := by
  obtain ⟨p, e, t⟩ := h
  exact ⟨p, e, k _ _ t⟩
theorem RoadV.ok {K : PySem.W.Frag} {rd : List Int} {v : V} {H H' : Hp} (k : Same H H') (h : RoadV K rd v H) (d : Dig rd) (l : rd.length ≤ 90000) : RoadOk K v H' := ⟨rd, h.tk (Same.tk k), d, by omega⟩
inductive IsTk (K : PySem.W.Frag) (H : Hp) : V → Tk → Prop where
  | look {a : Addr} {x y : V} {p : Pp} {rd : List Int} : SqT K H a [.str "look", x, y] → IsPp K H x p → RoadV K rd y H → IsTk K H (.ref a) (.look p rd)
  | assume {a : Addr} {x y : V} {s : Sm} {rd : List Int} : SqT K H a [.str "assume", x, y] → IsSm K H x s → RoadV K rd y H → IsTk K H (.ref a) (.assume s rd)
  | forget {a : Addr} {x y : V} {s : Sm} {rd : List Int} : SqT K H a [.str "forget", x, y] → IsSm K H x s → RoadV K rd y H → IsTk K H (.ref a) (.forget s rd)
  | part {a : Addr} {x y : V} {p : Pp} {rd : List Int} : SqT K H a [.str "part", x, y] → IsPp K H x p → RoadV K rd y H → IsTk K H (.ref a) (.part p rd)
  | «show» {a : Addr} {x y : V} {p : Pp} {rd : List Int} : SqT K H a [.str "show", x, y] → IsPp K H x p → RoadV K rd y H → IsTk K H (.ref a) (.show p rd)
theorem IsTk.tk {K : PySem.W.Frag} {v : V} {t : Tk} {H H' : Hp} (k : TK K H H') (h : IsTk K H v t) : IsTk K H' v t := by
  cases h with
  | look h p r => exact .look (k _ _ h) (p.tk k) (r.tk k)
  | assume h p r => exact .assume (k _ _ h) (p.tk k) (r.tk k)
  | forget h p r => exact .forget (k _ _ h) (p.tk k) (r.tk k)
  | part h p r => exact .part (k _ _ h) (p.tk k) (r.tk k)
  | «show» h p r => exact .show (k _ _ h) (p.tk k) (r.tk k)
theorem IsTk.same {K : PySem.W.Frag} {v : V} {t : Tk} {H H' : Hp} (e : Same H H') (h : IsTk K H v t) : IsTk K H' v t := h.tk (Same.tk e)

theorem Rf.same {K : PySem.W.Frag} {mg : Str → Option Value} {H H' : Hp} {E : XK} {e : Er × List Int} (h : Rf K mg H E e) (s : Same H H') : Rf K mg H' E e := fun C d H2 vr m s2 n r => h C d H2 vr m (s.trans s2) n r
theorem rule_cm {p : Pp} (hb : p.Bn) {ss : List Sm} (h : ∀ s ∈ ss, s.Cm) {t : Sm} (e : p.rule ss = some t) : t.Cm := by
  cases p with
  | use k => cases e
  | name n => cases e
  | pair x y =>
    match ss, e with
    | [a, b], e =>
      injection e with e
      subst e
      have ha := h a (by simp)
      have hb := h b (by simp)
      exact ⟨⟨ha.ch, hb.ch⟩, ⟨ha.tl, hb.tl⟩⟩
  | first x =>
    match ss, e with
    | [.bin .and a b], e =>
      injection e with e
      subst e
      have ha := h _ List.mem_cons_self
      exact ⟨ha.ch.1, ha.tl.1⟩
  | second x =>
    match ss, e with
    | [.bin .and a b], e =>
      injection e with e
      subst e
      have ha := h _ List.mem_cons_self
      exact ⟨ha.ch.2, ha.tl.2⟩
  | left x b =>
    match ss, e with
    | [a], e =>
      injection e with e
      subst e
      have ha := h a List.mem_cons_self
      exact ⟨⟨ha.ch, hb.2.2⟩, ⟨ha.tl, hb.2.tl⟩⟩
  | right b x =>
    match ss, e with
    | [a], e =>
      injection e with e
      subst e
      have ha := h a List.mem_cons_self
      exact ⟨⟨hb.2.2, ha.ch⟩, ⟨hb.2.tl, ha.tl⟩⟩
  | case x y z c =>
    match ss, e with
    | [a, b], e =>
      have e' : (if a = c ∧ b = c then some c else none) = some t := e
      by_cases g : a = c ∧ b = c
      · rw [if_pos g] at e'
        injection e' with e'
        subst e'
        exact hb.2.2.2.cm
      · rw [if_neg g] at e'
        cases e'
  | make b x =>
    match ss, e with
    | [a], e =>
      injection e with e
      subst e
      have ha := h a List.mem_cons_self
      exact ⟨⟨hb.2.2, ha.ch⟩, ⟨hb.2.1, hb.2.2, ha.tl⟩⟩
  | apply x y =>
    match ss, e with
    | [.bin .thn a b, c], e =>
      have e' : (if a = c then some b else none) = some t := e
      by_cases g : a = c
      · rw [if_pos g] at e'
        injection e' with e'
        subst e'
        have ha := h _ List.mem_cons_self
        exact ⟨ha.ch.2, ha.tl.2.2⟩
      · rw [if_neg g] at e'
        cases e'
  | escape x c =>
    match ss, e with
    | [.nv], e =>
      injection e with e
      subst e
      exact hb.2.cm
def Tk.Ok (W : Nat) (t : Tk) : Prop := Dig t.rd ∧ t.rd.length + t.wt ≤ W ∧ match t with
  | .look p _ => p.Bn
  | .assume a _ => a.Cm
  | .forget _ _ => True
  | .part p _ => p.Bn ∧ p.wd = .case
  | .show p _ => p.Bn ∧ p.leaf = false
theorem tasks_ok {W : Nat} {p : Pp} {rd : List Int} (hl : p.leaf = false) (h : (Tk.look p rd).Ok W) : ∀ t ∈ p.tasks rd, t.Ok W := by
  obtain ⟨hd, hw, hb⟩ := h
  have hw : rd.length + p.wt ≤ W := hw
  have hb : p.Bn := hb
  have d1 : Dig (rd ++ [1]) := Dig.add hd (by omega) (by omega)
  have d2 : Dig (rd ++ [2]) := Dig.add hd (by omega) (by omega)
  have l1 : ∀ i : Int, (rd ++ [i]).length = rd.length + 1 := fun i => by rw [List.length_append]; rfl
  have hs : ∀ q : Pp, q.Bn → q.leaf = false → rd.length + 1 ≤ W → (Tk.show q rd).Ok W := fun q h1 h2 h3 => ⟨hd, h3, h1, h2⟩
  intro t ht
  cases p with
  | use k => cases hl
  | name n => cases hl
  | pair p q =>
    simp only [Pp.wt] at hw
    simp only [Pp.tasks, List.mem_cons, List.not_mem_nil, or_false] at ht
    rcases ht with rfl | rfl | rfl
    · exact ⟨d1, by show (rd ++ [1]).length + p.wt ≤ W; rw [l1]; omega, hb.1⟩
    · exact ⟨d2, by show (rd ++ [2]).length + q.wt ≤ W; rw [l1]; omega, hb.2⟩
    · exact hs _ hb rfl (by omega)
  | apply p q =>
    simp only [Pp.wt] at hw
    simp only [Pp.tasks, List.mem_cons, List.not_mem_nil, or_false] at ht
    rcases ht with rfl | rfl | rfl
    · exact ⟨d1, by show (rd ++ [1]).length + p.wt ≤ W; rw [l1]; omega, hb.1⟩
    · exact ⟨d2, by show (rd ++ [2]).length + q.wt ≤ W; rw [l1]; omega, hb.2⟩
    · exact hs _ hb rfl (by omega)
  | first p =>
    simp only [Pp.wt] at hw
    simp only [Pp.tasks, List.mem_cons, List.not_mem_nil, or_false] at ht
    rcases ht with rfl | rfl
    · exact ⟨d1, by show (rd ++ [1]).length + p.wt ≤ W; rw [l1]; omega, hb⟩
    · exact hs _ hb rfl (by omega)
  | second p =>
    simp only [Pp.wt] at hw
    simp only [Pp.tasks, List.mem_cons, List.not_mem_nil, or_false] at ht
    rcases ht with rfl | rfl
    · exact ⟨d1, by show (rd ++ [1]).length + p.wt ≤ W; rw [l1]; omega, hb⟩
    · exact hs _ hb rfl (by omega)
  | left p b =>
    simp only [Pp.wt] at hw
    simp only [Pp.tasks, List.mem_cons, List.not_mem_nil, or_false] at ht
    rcases ht with rfl | rfl
    · exact ⟨d1, by show (rd ++ [1]).length + p.wt ≤ W; rw [l1]; omega, hb.1⟩
    · exact hs _ hb rfl (by omega)
  | right b p =>
    simp only [Pp.wt] at hw
    simp only [Pp.tasks, List.mem_cons, List.not_mem_nil, or_false] at ht
    rcases ht with rfl | rfl
    · exact ⟨d2, by show (rd ++ [2]).length + p.wt ≤ W; rw [l1]; omega, hb.1⟩
    · exact hs _ hb rfl (by omega)
  | escape p c =>
    simp only [Pp.wt] at hw
    simp only [Pp.tasks, List.mem_cons, List.not_mem_nil, or_false] at ht
    rcases ht with rfl | rfl
    · exact ⟨d1, by show (rd ++ [1]).length + p.wt ≤ W; rw [l1]; omega, hb.1⟩
    · exact hs _ hb rfl (by omega)
  | make a p =>
    simp only [Pp.wt] at hw
    simp only [Pp.tasks, List.mem_cons, List.not_mem_nil, or_false] at ht
    rcases ht with rfl | rfl | rfl | rfl
    · exact ⟨hd, by show rd.length + 1 ≤ W; omega, hb.2.cm⟩
    · exact ⟨d2, by show (rd ++ [2]).length + p.wt ≤ W; rw [l1]; omega, hb.1⟩
    · exact ⟨hd, by show rd.length + 1 ≤ W; omega, True.intro⟩
    · exact hs _ hb rfl (by omega)
  | case p q r c =>
    simp only [Pp.wt] at hw
    simp only [Pp.tasks, List.mem_cons, List.not_mem_nil, or_false] at ht
    rcases ht with rfl | rfl
    · exact ⟨d1, by show (rd ++ [1]).length + p.wt ≤ W; rw [l1]; omega, hb.1⟩
    · exact ⟨hd, by show rd.length + (q.wt + r.wt + 6) ≤ W; omega, hb, rfl⟩
theorem behind_ok {W : Nat} {p : Pp} {a b : Sm} {rd : List Int} (h : (Tk.part p rd).Ok W) (hab : (Sm.bin .or a b).Cm) : (∀ t ∈ behindOr p a b rd, t.Ok W) ∧ wts (behindOr p a b rd) + 1 ≤ (Tk.part p rd).wt := by
  obtain ⟨hd, hw, hb, hc⟩ := h
  have d2 : Dig (rd ++ [2]) := Dig.add hd (by omega) (by omega)
  have d3 : Dig (rd ++ [3]) := Dig.add hd (by omega) (by omega)
  have l1 : ∀ i : Int, (rd ++ [i]).length = rd.length + 1 := fun i => by rw [List.length_append]; rfl
  cases p with
  | case p q r c =>
    have hw : rd.length + (q.wt + r.wt + 6) ≤ W := hw
    refine ⟨fun t ht => ?_, ?_⟩
    · simp only [behindOr, List.mem_cons, List.not_mem_nil, or_false] at ht
      have ca : a.Cm := ⟨hab.ch.1, hab.tl.1⟩
      have cb : b.Cm := ⟨hab.ch.2, hab.tl.2⟩
      rcases ht with rfl | rfl | rfl | rfl | rfl | rfl | rfl
      · exact ⟨hd, by show rd.length + 1 ≤ W; omega, ca⟩
      · exact ⟨d2, by show (rd ++ [2]).length + q.wt ≤ W; rw [l1]; omega, hb.2.1⟩
      · exact ⟨hd, by show rd.length + 1 ≤ W; omega, True.intro⟩
      · exact ⟨hd, by show rd.length + 1 ≤ W; omega, cb⟩
      · exact ⟨d3, by show (rd ++ [3]).length + r.wt ≤ W; rw [l1]; omega, hb.2.2.1⟩
      · exact ⟨hd, by show rd.length + 1 ≤ W; omega, True.intro⟩
      · exact ⟨hd, by show rd.length + 1 ≤ W; omega, hb, rfl⟩
    · show wts [.assume a rd, .look q (rd ++ [2]), .forget a rd, .assume b rd, .look r (rd ++ [3]), .forget b rd, .show (.case p q r c) rd] + 1 ≤ q.wt + r.wt + 6
      simp only [wts, List.map_cons, List.map_nil, List.sum_cons, List.sum_nil, Tk.wt]
      omega
  | _ => cases hc
theorem had_cm {B : List Nat → Option Sm} {g : List Sm} {p : Pp} {rd : List Int} {s : Sm} (hB : ∀ n s, B n = some s → s.Cm) (hg : ∀ s ∈ g, s.Cm) (h : had B g p rd = .ok s) : s.Cm := by
  cases p with
  | use k =>
    have h' : (match (if 0 ≤ k then g[k.toNat]? else none) with
      | some s => Except.ok s
      | none => Except.error (Er.given, rd)) = Except.ok s := h
    cases e : (if 0 ≤ k then g[k.toNat]? else none) with
    | none => rw [e] at h'; cases h'
    | some t =>
      rw [e] at h'
      injection h' with h'
      subst h'
      by_cases h0 : 0 ≤ k
      · rw [if_pos h0] at e
        exact hg _ (List.mem_of_getElem? e)
      · rw [if_neg h0] at e
        cases e
  | name n =>
    have h' : (match B n with
      | some s => Except.ok s
      | none => Except.error (Er.named, rd)) = Except.ok s := h
    cases e : B n with
    | none => rw [e] at h'; cases h'
    | some t =>
      rw [e] at h'
      injection h' with h'
      subst h'
      exact hB _ _ e
  | _ => cases h

theorem vals_takeP {α β : Type} {R : α → β → Prop} : ∀ {xs : List α} {us : List β} {n : Nat}, Paired R xs us → Paired R (xs.take n) (us.take n)
  | _, _, n, .nil => by rw [List.take_nil, List.take_nil]; exact .nil
  | _, _, 0, .cons _ _ => .nil
  | _, _, n + 1, .cons r t => .cons r (vals_takeP (n := n) t)
theorem tk_run_part (B : List Nat → Option Sm) (p q r : Pp) (c o : Sm) (rd : List Int) (g sh : List Sm) (h : ∀ a b, o ≠ .bin .or a b) : Tk.run B (.part (.case p q r c) rd) (g, o :: sh) = some (.error (.that, rd)) := by
  cases o with
  | lt n => rfl
  | nv => rfl
  | bin w a b =>
    cases w with
    | and => rfl
    | thn => rfl
    | or => exact absurd rfl (h a b)

theorem Pp.pl_one {p : Pp} (h : p.leaf = false) : decide (((p.wd.pl.map V.int).length : Int) = 1) = !p.two := by
  cases p <;> first | exact absurd h Bool.noConfusion | rfl
theorem Pp.pl_tru (p : Pp) : (!(p.wd.pl.map V.int).isEmpty) = !p.leaf := by cases p <;> rfl
theorem scal_int (i j : Int) : decide (V.int i = V.int j) = decide (i = j) := by
  by_cases h : i = j
  · rw [h, decide_eq_true rfl, decide_eq_true rfl]
  · rw [decide_eq_false h, decide_eq_false]
    intro e
    injection e with e
    exact h e

theorem look_leaf (B : List Nat → Option Sm) (g : List Sm) (rd : List Int) {p : Pp} (h : p.leaf = true) : p.look B g rd = had B g p rd := by
  cases p <;> first | rfl | exact absurd h Bool.noConfusion
/-- what a show does, what lies below parted off -/
def tk_show (B : List Nat → Option Sm) (p : Pp) (rd : List Int) (g ss sh : List Sm) : Res := some (bindO (fin (p.rule ss) rd) fun s => .ok (g, s :: sh))
theorem run_show_two (B : List Nat → Option Sm) (p : Pp) (rd : List Int) (g : List Sm) (x y : Sm) (sh : List Sm) (h1 : p.leaf = false) (h2 : p.two = true) : tk_show B p rd g [x, y] sh = Tk.run B (.show p rd) (g, y :: x :: sh) := by
  show _ = if p.leaf = true then none else if p.two = true then _ else _
  rw [h1, h2]
  rfl
theorem run_show_one (B : List Nat → Option Sm) (p : Pp) (rd : List Int) (g : List Sm) (x : Sm) (sh : List Sm) (h1 : p.leaf = false) (h2 : p.two = false) : tk_show B p rd g [x] sh = Tk.run B (.show p rd) (g, x :: sh) := by
  show _ = if p.leaf = true then none else if p.two = true then _ else _
  rw [h1, h2]
  rfl
theorem run_show_none (B : List Nat → Option Sm) (p : Pp) (rd : List Int) (ts : List Tk) (g : List Sm) (h1 : p.leaf = false) : runs B (.show p rd :: ts) (g, []) = none := by
  show bindR (if p.leaf = true then none else if p.two = true then _ else _) _ = _
  rw [h1]
  cases p.two <;> rfl
theorem run_show_none1 (B : List Nat → Option Sm) (p : Pp) (rd : List Int) (ts : List Tk) (g : List Sm) (x : Sm) (h1 : p.leaf = false) (h2 : p.two = true) : runs B (.show p rd :: ts) (g, [x]) = none := by
  show bindR (if p.leaf = true then none else if p.two = true then _ else _) _ = _
  rw [h1, h2]
  rfl
end Ob

/-! ### two statements, part by part -/
namespace Ob
open PySem PySem.Spec PyProof.Rows L2
/-- the head of a statement's tuple -/
def Sm.hd : Sm → Str
  | .lt _ => "letter"
  | .nv => "never"
  | .bin w _ _ => w.s
theorem IsSm.head {K : PySem.W.Frag} {H : Hp} {v : V} {s : Sm} (h : IsSm K H v s) : ∃ a xs, v = .ref a ∧ SqT K H a (.str s.hd :: xs) := by
  cases h with
  | lt h => exact ⟨_, _, rfl, h⟩
  | nv h => exact ⟨_, _, rfl, h⟩
  | bin h _ _ => exact ⟨_, _, rfl, h⟩
theorem hd_is {s : Sm} {w : J} : (V.str s.hd = V.str w.s) ↔ ∃ a b, s = .bin w a b := by
  constructor
  · intro h
    cases s with
    | lt n =>
      have h' : V.str "letter" = V.str w.s := h
      cases w <;> exact absurd h' (by decide)
    | nv =>
      have h' : V.str "never" = V.str w.s := h
      cases w <;> exact absurd h' (by decide)
    | bin u a b =>
      have : u = w := by
        have e : V.str u.s = V.str w.s := h
        have := j_eq u w
        rw [decide_eq_true e] at this
        exact of_decide_eq_true this.symm
      exact ⟨a, b, by rw [this]⟩
  · rintro ⟨a, b, rfl⟩
    rfl
theorem hd_lt {s : Sm} : (V.str s.hd = V.str "letter") ↔ ∃ n, s = .lt n := by
  constructor
  · intro h
    cases s with
    | lt n => exact ⟨n, rfl⟩
    | nv => exact absurd (show V.str "never" = V.str "letter" from h) (by decide)
    | bin u a b =>
      have h' : V.str u.s = V.str "letter" := h
      cases u <;> exact absurd h' (by decide)
  · rintro ⟨n, rfl⟩
    rfl
theorem hd_nv {s : Sm} : (V.str s.hd = V.str "never") ↔ s = .nv := by
  constructor
  · intro h
    cases s with
    | lt n => exact absurd (show V.str "letter" = V.str "never" from h) (by decide)
    | nv => rfl
    | bin u a b =>
      have h' : V.str u.s = V.str "never" := h
      cases u <;> exact absurd h' (by decide)
  · rintro rfl
    rfl
/-- a tuple of two statements -/
def P2 (K : PySem.W.Frag) (H0 H : Hp) (v : V) (p : Sm × Sm) : Prop := ∃ a x y, v = .ref a ∧ SqT K H a [x, y] ∧ IsSm K H0 x p.1 ∧ IsSm K H0 y p.2
theorem P2.tk {K : PySem.W.Frag} {H0 H H' : Hp} (k : TK K H H') {v : V} {p : Sm × Sm} (h : P2 K H0 H v p) : P2 K H0 H' v p := by
  obtain ⟨a, x, y, e, hT, h1, h2⟩ := h
  exact ⟨a, x, y, e, k _ _ hT, h1, h2⟩
/-- how long a row of pairs may become -/
def Lv (D : Nat) : List (Sm × Sm) → Prop
  | [] => True
  | p :: r => r.length + min p.1.dp p.2.dp ≤ D ∧ Lv D r
theorem Lv.len {D : Nat} : ∀ {l : List (Sm × Sm)}, Lv D l → l.length ≤ D + 1
  | [], _ => Nat.zero_le _
  | p :: r, h => by
    have := h.1
    rw [List.length_cons]
    omega
def szp (st : List (Sm × Sm)) : Nat := (st.map fun p => p.1.size).sum
theorem szp_cons (p : Sm × Sm) (st : List (Sm × Sm)) : szp (p :: st) = p.1.size + szp st := rfl
/-- what stands between the turns -/
def SameI (K : PySem.W.Frag) (H : Hp) (k : Addr) (v u : V) (a b : Sm) (m : Nat) (σ : L2.St) (H3 : Hp) : Prop :=
  ∃ (ws : List V) (st : List (Sm × Sm)) (y3 y4 : Option V), σ = [some v, some u, some (.ref k), y3, y4] ∧ H3 k = some (.lst ws.reverse) ∧ Paired (P2 K H H3) ws st ∧ ((∀ p ∈ st, p.1 = p.2) ↔ a = b) ∧ Lv 5000 st ∧ (∀ p ∈ st, p.1.In Ch ∧ p.2.In Ch) ∧ Same H H3 ∧ szp st = m
/-! ### alike but for one list -/
def But (l : Addr) (H H' : Hp) : Prop := ∀ a o, a ≠ l → H a = some o → H' a = some o
theorem But.refl (l : Addr) (H : Hp) : But l H H := fun _ _ _ h => h
theorem Same.but {H H' : Hp} (s : Same H H') (l : Addr) : But l H H' := fun a o _ h => s a o h
theorem But.trans {l : Addr} {H H' H'' : Hp} (a : But l H H') (b : But l H' H'') : But l H H'' := fun x o n h => b x o n (a x o n h)
theorem But.put {l : Addr} {H : Hp} {o : HO} : But l H (upd H l o) := fun a x n h => by
  rw [upd_ne n]
  exact h
theorem But.tk {K : PySem.W.Frag} {l : Addr} {H H' : Hp} (e : But l H H') {xs : List V} (hl : H l = some (.lst xs)) : TK K H H' := fun a ys hq => by
  rcases hq with (hq | ⟨ob, hq⟩) | hq
  · refine .inl (.inl (e a _ (fun z => ?_) hq))
    rw [z, hl] at hq
    cases hq
  · refine .inl (.inr ⟨ob, e a _ (fun z => ?_) hq⟩)
    rw [z, hl] at hq
    cases hq
  · exact .inr hq
theorem But.free {l : Addr} {H H' : Hp} (e : But l H H') {a : Addr} (n : a ≠ l) (h : H' a = none) : H a = none := by
  cases hh : H a with
  | none => rfl
  | some o =>
    rw [e a o n hh] at h
    cases h
theorem But.newput {l : Addr} {H H' : Hp} (e : But l H H') {a : Addr} {o : HO} (n : H a = none) : But l H (upd H' a o) := fun b x nb hb => by
  rw [upd_ne (ne_of_none hb n)]
  exact e b x nb hb
theorem But.same0 {l : Addr} {H0 H H' : Hp} (s : Same H0 H) (n : H0 l = none) (b : But l H H') : Same H0 H' := fun a o h => b a o (fun z => by
  rw [z, n] at h
  cases h) (s a o h)
/-- a new tuple, then put at the end of a list -/
theorem tup_put {K : PySem.W.Frag} {H : Hp} {l z : Addr} {mv xs : List V} (hM : H l = some (.lst mv)) (nz : H z = none) :
    But l H (upd (upd H z (.tup xs)) l (.lst (mv ++ [.ref z]))) ∧ TK K H (upd (upd H z (.tup xs)) l (.lst (mv ++ [.ref z]))) ∧ SqT K (upd (upd H z (.tup xs)) l (.lst (mv ++ [.ref z]))) z xs := by
  have hM' : (upd H z (.tup xs)) l = some (.lst mv) := by
    rw [upd_ne (ne_of_none hM nz)]
    exact hM
  refine ⟨(Same.but (same_new nz) l).trans But.put, (TK.new nz).trans (TK.lst hM'), .inl (.inl ?_)⟩
  rw [upd_ne (ne_of_none hM nz).symm]
  exact upd_same
/-! ### small ones -/
theorem at3 {a b c d : V} {xs : List V} : atI (a :: b :: c :: d :: xs) 3 = some d := atI_nat (j := 3) rfl
theorem at4 {a b c d e : V} {xs : List V} : atI (a :: b :: c :: d :: e :: xs) 4 = some e := atI_nat (j := 4) rfl
theorem iteT' {c : Bool} {A B : Prop} (h : c = true) (a : A) : if c = true then A else B := by
  rw [if_pos h]
  exact a
theorem iteF' {c : Bool} {A B : Prop} (h : c = false) (b : B) : if c = true then A else B := by
  rw [h, if_neg Bool.false_ne_true]
  exact b
end Ob

/-! ### a try with several clauses, each with a name -/
namespace Ob
open PySem PySem.Spec PyProof.Rows L2

/-- behind a suite the name is gone -/
def bare (i : Nat) (ED : Ends) : Ends := { nx := fun τ G => ED.nx (τ.set i none) G, rt := ED.rt, bk := fun τ G => ED.bk (τ.set i none) G, ct := fun τ G => ED.ct (τ.set i none) G }
abbrev Clause := Value × Nat × (Addr → Value → Option Addr → TS)
def wClauses (K : PySem.W.Frag) (Wo : WX) (ED : Ends) : List Clause → WX
  | [] => Wo
  | (c, i, ts) :: r => fun kl d τ G => ∃ yes, PySem.W.exmOne K kl c = some yes ∧ (yes = true → ∀ a, G a = none → ts a kl d (bare i ED) (τ.set i (some (.ref a))) G) ∧ (yes = false → wClauses K Wo ED r kl d τ G)
inductive ClausesOk (X : Cx) : List ExceptHandler → List Clause → Prop
  | nil : ClausesOk X [] []
  | cons {x n : Str} {c : Value} {i : Nat} {ts : Addr → Value → Option Addr → TS} {b₀ : Stmt} {suite : List Stmt} {np pos2 : Pos} {hds : List ExceptHandler} {l : List Clause} (cls : Names X x c) (at_ : X.N[i]? = some n) (loc : X.env.kindOf n = some .local)
      (run : ∀ (a : Addr) (oe : Obj) (kl : Value) (d : Option Addr) (pn : List (Addr × Obj)), Zc kl d oe → (∃ vs, oe.data = .fields vs) → PSs (X.suite a ((a, oe) :: pn)) (b₀ :: suite) (ts a kl d)) (r : ClausesOk X hds l) : ClausesOk X (.ExceptHandler (some (.Name x np)) (some n) (b₀ :: suite) pos2 :: hds) ((c, i, ts) :: l)
theorem out_of_frames {B h : Heap} {l : List Env} {a : Addr} {o : Obj} {vs : Array Value} (ff : h.FunFrames B l) (e : h.get? a = some o) (dd : o.data = .fields vs) : a ∉ frs l := fun hm => by
  obtain ⟨_, u, eu, hu⟩ := ff.mem hm
  rw [e] at eu
  cases eu
  exact hu _ dd
theorem ps_try_clauses {X : Cx} {body : List Stmt} {h₀ : ExceptHandler} {hds : List ExceptHandler} {l : List Clause} {pos : Pos} {tb : WX → TS} {Wo : WX} (hst : X.stack = X.env :: X.outer) (hfm : X.env.frame = some X.env.locals) (nd : X.N.Nodup) (tk : Takes X Wo)
    (run : ∀ (W : WX) (pn : List (Addr × Obj)) (xe : Value → Shared → Prop), Takes (X.tr pn xe) W → PassesOwn (model X.prog X.w) X.A X.env xe → PSs (X.tr pn xe) body (tb W)) (cl : ClausesOk X (h₀ :: hds) l) :
    PS X (.Try body (h₀ :: hds) [] [] pos) (fun ED τ G => tb (wClauses X.K Wo ED l) ED τ G) := by
  refine ⟨fun pn s τ G ED Jv h => ?_⟩
  have okX := Jv.ok
  have frA : X.A.frames = some (X.env :: X.outer) := by rw [okX.frames, hst]
  have caught : Takes (X.tr (X.pn ++ pn) (fun e s₁ => wpAny (model X.prog X.w) X.A (noteFrame e X.env) (fun _ s₂ => wpAny (model X.prog X.w) X.A (setFlight e none) (fun _ s₃ => wpAny (model X.prog X.w) X.A (handleBy e X.env (h₀ :: hds)) (SP X pn ED) X.xe s₃) X.xe s₂) X.xe s₁)) (wClauses X.K Wo ED l) := by
    rintro u t ⟨a, B, sq, pq, τ1, G1, kl, d, rfl, Jt, keepB, upB, air, fresh, osE, bareE, goal⟩
    have J1 : Inv X pn τ1 G1 sq := Jt.ofTry okX
    rw [show (X.tr (X.pn ++ pn) _).stack = X.env :: X.outer from hst] at air
    refine Sky.land Zc.steady frA hfm air fun k fy us => ?_
    obtain ⟨ob, vs, hob, hzc, hfields⟩ := fy.there
    have J2 : Inv X pn τ1 G1 { t with heap := k } := J1.landed keepB fy.1 (upB.trans us) osE bareE
    have out := out_of_frames fy.2.2.1 hob hfields
    have nl : a ≠ X.env.locals := fun z => out (List.mem_filterMap.mpr ⟨X.env, List.mem_cons_self, by rw [hfm, z]⟩)
    have nf : a ∉ X.fs := fun z => by
      obtain ⟨env, henv, q⟩ := List.mem_filterMap.mp z
      exact out (List.mem_filterMap.mpr ⟨env, List.mem_cons_of_mem _ henv, q⟩)
    have S2 := J2.suite hob hfields fresh nl nf
    have each : ∀ {hl : List ExceptHandler} {m : List Clause}, ClausesOk X hl m → wClauses X.K Wo ED m kl d τ1 G1 → wpAny (model X.prog X.w) X.A (handleBy (.ref a) X.env hl) (SP X pn ED) X.xe { t with heap := k } := by
      intro hl m ok
      induction ok with
      | nil =>
        intro w
        refine wpAny_handleBy_nil ?_
        obtain ⟨_, _, _, o1, v1, T1, _, _, g1, _, f1, t1, _⟩ := id fy
        unfold PySem.passOn
        refine wpAny_bind (wpAny_field g1 f1 t1 ?_)
        rw [if_neg (by simp : ¬ ((Value.ref T1 == Value.none) = true))]
        have up : wpAny (model X.prog X.w) X.A (setFlight (.ref a) X.env.frame) (fun _ z => wpAny (model X.prog X.w) X.A (throw (.ref a) : Sem Flow) (SP X pn ED) X.xe z) X.xe { t with heap := k } := by
          rw [hfm]
          exact HandSPX.setFlight_upZ fy fun k2 air2 us2 => wpAny_throw (tk _ _ ⟨a, B, sq, pn, τ1, G1, kl, d, rfl, J1, keepB, (upB.trans us).trans us2, .inr (.inr (by rw [hst]; exact air2)), fresh, osE, bareE, w⟩)
        first
          | exact wpAny_bind (wpAny_pure (wpAny_bind up))
          | exact wpAny_bind up
      | @cons x n c i ts b₀ suite np pos2 hs2 m2 cls at_ loc run2 r ih =>
        intro w
        obtain ⟨yes, e1, w1, w2⟩ := w
        refine wpAny_handleBy_cons (codeAny_handlers_test ?_) (fun z => nomatch z)
        have is := PySem.W.exm_one (M := model X.prog X.w) (J2.kIn) (fun A P E t' g z => wpAny_typeOf_ref (g _ _ hob) (by rw [hzc.1]; exact z)) e1
        have named : ∀ {R : Value → Shared → Prop} {F : Value → Shared → Prop}, R c { t with heap := k } → wpAny (model X.prog X.w) (X.A.mark (some (.ref a))) (eval (.Name x np) X.env) R F { t with heap := k } := fun {R F} z => by
          obtain ⟨g, dbg, q | ⟨q, b, n⟩⟩ := cls
          · exact ld_glob (X := X.suite a ((a, ob) :: (X.pn ++ pn))) S2 g q z dbg
          · exact ld_blt (X := X.suite a ((a, ob) :: (X.pn ++ pn))) S2 g q b z n dbg
        refine named (is.here ?_)
        cases yes with
        | false =>
          show wpAny _ X.A (handleBy (.ref a) X.env hs2) _ _ _
          exact ih (w2 rfl)
        | true =>
          refine codeAny_handlers_suite_as (HandSPX.lands_againZ fy fun k2 fy2 us2 => ?_)
          obtain ⟨ob2, vs2, hob2, hzc2, hfields2⟩ := fy2.there
          have J3 : Inv X pn τ1 G1 { t with heap := k2 } := J1.landed keepB fy2.1 ((upB.trans us).trans us2) osE bareE
          have S3 := J3.suite hob2 hfields2 fresh nl nf
          refine store_ok (X := X.suite a ((a, ob2) :: (X.pn ++ pn))) (v := .ref a) S3 nd at_ (.inl loc) rfl (fun t5 S5 => ?_) (.inr loc)
          refine wpAny_mono ((run2 a ob2 kl d (X.pn ++ pn) hzc2 ⟨_, hfields2⟩).run [] t5 _ G1 _ S5 (w1 rfl a fresh)) (fun fl t6 z => ?_) (fun _ _ z => z.elim)
          have gone : ∀ {τ6 : L2.St} {G6 : Hp} {R : Shared → Prop}, Inv (X.suite a ((a, ob2) :: (X.pn ++ pn))) [] τ6 G6 t6 → (∀ t7, Inv X pn (τ6.set i none) G6 t7 → R t7) → wpAny (model X.prog X.w) X.A (do bindName X.env n .none; unbindBehindTheSuite X.env n pos2) (fun _ t7 => R t7) X.xe t6 := fun S6 hq => gone_ok (S6.unsuite okX) nd at_ loc hq
          cases fl with
          | ret r =>
            obtain ⟨v, τ6, G6, S6, rel, z⟩ := z
            exact gone S6 fun t7 J7 => ⟨_, _, _, J7, rel, z⟩
          | next =>
            obtain ⟨τ6, G6, S6, z⟩ := z
            exact gone S6 fun t7 J7 => ⟨_, _, J7, z⟩
          | brk =>
            obtain ⟨τ6, G6, S6, z⟩ := z
            exact gone S6 fun t7 J7 => ⟨_, _, J7, z⟩
          | cont =>
            obtain ⟨τ6, G6, S6, z⟩ := z
            exact gone S6 fun t7 J7 => ⟨_, _, J7, z⟩
    exact each cl goal
  refine wpAny_Try_except (wpAny_mono ((run _ _ _ caught PassesOwn.looking).run [] s τ G ED (Jv.toTry _) h) (fun fl t z => ?_) fun _ _ z => z)
  cases fl with
  | ret r =>
    obtain ⟨v, τ2, G2, Jt, rel, q⟩ := z
    exact ⟨v, τ2, G2, Jt.ofTry okX, rel, q⟩
  | next =>
    obtain ⟨τ2, G2, Jt, q⟩ := z
    exact wpAny_execs_nil ⟨τ2, G2, Jt.ofTry okX, q⟩
  | brk =>
    obtain ⟨τ2, G2, Jt, q⟩ := z
    exact ⟨τ2, G2, Jt.ofTry okX, q⟩
  | cont =>
    obtain ⟨τ2, G2, Jt, q⟩ := z
    exact ⟨τ2, G2, Jt.ofTry okX, q⟩

/-! ### looking at papers without names -/
def Pp.Nn : Pp → Prop
  | .use _ => True
  | .name _ => False
  | .pair p q => p.Nn ∧ q.Nn
  | .first p => p.Nn
  | .second p => p.Nn
  | .left p _ => p.Nn
  | .right _ p => p.Nn
  | .case p q r _ => p.Nn ∧ q.Nn ∧ r.Nn
  | .make _ p => p.Nn
  | .apply p q => p.Nn ∧ q.Nn
  | .escape p _ => p.Nn
theorem bindO_err {α β : Type} {x : Out α} {f : α → Out β} {e : Er × List Int} (h : bindO x f = .error e) : x = .error e ∨ ∃ a, x = .ok a ∧ f a = .error e := by
  cases x with
  | error e' =>
    have h' : (Except.error e' : Out β) = .error e := h
    injection h' with h'
    exact .inl (by rw [h'])
  | ok a => exact .inr ⟨a, rfl, h⟩
theorem bindO_ok {α β : Type} {x : Out α} {f : α → Out β} {b : β} (h : bindO x f = .ok b) : ∃ a, x = .ok a ∧ f a = .ok b := by
  cases x with
  | error e' => cases h
  | ok a => exact ⟨a, rfl, h⟩
theorem fin_err {o : Option Sm} {rd : List Int} {e : Er × List Int} (h : fin o rd = .error e) : o = none ∧ e = (.that, rd) := by
  cases o with
  | some s => cases h
  | none =>
    injection h with h
    exact ⟨rfl, h.symm⟩
theorem fin_ok {o : Option Sm} {rd : List Int} {s : Sm} (h : fin o rd = .ok s) : o = some s := by
  cases o with
  | some t =>
    injection h with h
    rw [h]
  | none => cases h
theorem had_use (B : List Nat → Option Sm) (g : List Sm) (k : Int) (rd : List Int) : (∃ s ∈ g, had B g (.use k) rd = .ok s) ∨ had B g (.use k) rd = .error (.given, rd) := by
  show (∃ s ∈ g, (match (if 0 ≤ k then g[k.toNat]? else none) with
    | some s => Except.ok s
    | none => Except.error (Er.given, rd)) = _) ∨ (match (if 0 ≤ k then g[k.toNat]? else none) with
    | some s => Except.ok s
    | none => Except.error (Er.given, rd)) = _
  by_cases h0 : 0 ≤ k
  · rw [if_pos h0]
    cases e : g[k.toNat]? with
    | none => exact .inr rfl
    | some s => exact .inl ⟨s, List.mem_of_getElem? e, rfl⟩
  · rw [if_neg h0]
    exact .inr rfl
theorem look_nn (B : List Nat → Option Sm) : ∀ {p : Pp} {g : List Sm} {rd : List Int} {e : Er × List Int}, p.Nn → p.look B g rd = .error e → e.1 ≠ .named
  | .use k, g, rd, e, _, h => by
    rcases had_use B g k rd with ⟨s, _, h'⟩ | h'
    · have h2 : had B g (.use k) rd = .error e := h
      rw [h'] at h2
      cases h2
    · have h2 : had B g (.use k) rd = .error e := h
      rw [h'] at h2
      injection h2 with h2
      rw [← h2]
      exact fun z => Er.noConfusion z
  | .name n, _, _, _, hn, _ => hn.elim
  | .pair p q, g, rd, e, hn, h => by
    rcases bindO_err h with h | ⟨a, _, h⟩
    · exact look_nn B hn.1 h
    · rcases bindO_err h with h | ⟨b, _, h⟩
      · exact look_nn B hn.2 h
      · rw [(fin_err h).2]
        exact fun z => Er.noConfusion z
  | .apply p q, g, rd, e, hn, h => by
    rcases bindO_err h with h | ⟨a, _, h⟩
    · exact look_nn B hn.1 h
    · rcases bindO_err h with h | ⟨b, _, h⟩
      · exact look_nn B hn.2 h
      · rw [(fin_err h).2]
        exact fun z => Er.noConfusion z
  | .first p, g, rd, e, hn, h => by
    rcases bindO_err h with h | ⟨a, _, h⟩
    · exact look_nn B (p := p) hn h
    · rw [(fin_err h).2]
      exact fun z => Er.noConfusion z
  | .second p, g, rd, e, hn, h => by
    rcases bindO_err h with h | ⟨a, _, h⟩
    · exact look_nn B (p := p) hn h
    · rw [(fin_err h).2]
      exact fun z => Er.noConfusion z
  | .left p b, g, rd, e, hn, h => by
    rcases bindO_err h with h | ⟨a, _, h⟩
    · exact look_nn B (p := p) hn h
    · rw [(fin_err h).2]
      exact fun z => Er.noConfusion z
  | .right b p, g, rd, e, hn, h => by
    rcases bindO_err h with h | ⟨a, _, h⟩
    · exact look_nn B (p := p) hn h
    · rw [(fin_err h).2]
      exact fun z => Er.noConfusion z
  | .make b p, g, rd, e, hn, h => by
    rcases bindO_err h with h | ⟨a, _, h⟩
    · exact look_nn B (p := p) hn h
    · rw [(fin_err h).2]
      exact fun z => Er.noConfusion z
  | .escape p c, g, rd, e, hn, h => by
    rcases bindO_err h with h | ⟨a, _, h⟩
    · exact look_nn B (p := p) hn h
    · rw [(fin_err h).2]
      exact fun z => Er.noConfusion z
  | .case p q r c, g, rd, e, hn, h => by
    rcases bindO_err h with h | ⟨o, _, h⟩
    · exact look_nn B hn.1 h
    · cases o with
      | lt n =>
        injection h with h
        rw [← h]
        exact fun z => Er.noConfusion z
      | nv =>
        injection h with h
        rw [← h]
        exact fun z => Er.noConfusion z
      | bin w a b =>
        cases w with
        | and =>
          injection h with h
          rw [← h]
          exact fun z => Er.noConfusion z
        | thn =>
          injection h with h
          rw [← h]
          exact fun z => Er.noConfusion z
        | or =>
          rcases bindO_err h with h | ⟨x, _, h⟩
          · exact look_nn B hn.2.1 h
          · rcases bindO_err h with h | ⟨y, _, h⟩
            · exact look_nn B hn.2.2 h
            · rw [(fin_err h).2]
              exact fun z => Er.noConfusion z
/-- what is shown may be compared -/
theorem look_cm (B : List Nat → Option Sm) (hB : ∀ n s, B n = some s → s.Cm) : ∀ {p : Pp} {g : List Sm} {rd : List Int} {s : Sm}, p.Bn → (∀ s ∈ g, s.Cm) → p.look B g rd = .ok s → s.Cm
  | .use k, g, rd, s, _, hg, h => had_cm hB hg h
  | .name n, g, rd, s, _, hg, h => had_cm hB hg h
  | .pair p q, g, rd, s, hb, hg, h => by
    obtain ⟨a, ha, h⟩ := bindO_ok h
    obtain ⟨b, hb', h⟩ := bindO_ok h
    have c1 := look_cm B hB hb.1 hg ha
    have c2 := look_cm B hB hb.2 hg hb'
    refine rule_cm (p := .pair p q) hb (ss := [a, b]) (fun s hs => ?_) (fin_ok h)
    rcases List.mem_cons.mp hs with rfl | hs
    · exact c1
    · rw [List.mem_singleton.mp hs]
      exact c2
  | .apply p q, g, rd, s, hb, hg, h => by
    obtain ⟨a, ha, h⟩ := bindO_ok h
    obtain ⟨b, hb', h⟩ := bindO_ok h
    have c1 := look_cm B hB hb.1 hg ha
    have c2 := look_cm B hB hb.2 hg hb'
    refine rule_cm (p := .apply p q) hb (ss := [a, b]) (fun s hs => ?_) (fin_ok h)
    rcases List.mem_cons.mp hs with rfl | hs
    · exact c1
    · rw [List.mem_singleton.mp hs]
      exact c2
  | .first p, g, rd, s, hb, hg, h => by
    obtain ⟨a, ha, h⟩ := bindO_ok h
    have c1 := look_cm B hB (p := p) hb hg ha
    exact rule_cm (p := .first p) hb (ss := [a]) (fun s hs => by rw [List.mem_singleton.mp hs]; exact c1) (fin_ok h)
  | .second p, g, rd, s, hb, hg, h => by
    obtain ⟨a, ha, h⟩ := bindO_ok h
    have c1 := look_cm B hB (p := p) hb hg ha
    exact rule_cm (p := .second p) hb (ss := [a]) (fun s hs => by rw [List.mem_singleton.mp hs]; exact c1) (fin_ok h)
  | .left p b, g, rd, s, hb, hg, h => by
    obtain ⟨a, ha, h⟩ := bindO_ok h
    have c1 := look_cm B hB (p := p) hb.1 hg ha
    exact rule_cm (p := .left p b) hb (ss := [a]) (fun s hs => by rw [List.mem_singleton.mp hs]; exact c1) (fin_ok h)
  | .right b p, g, rd, s, hb, hg, h => by
    obtain ⟨a, ha, h⟩ := bindO_ok h
    have c1 := look_cm B hB (p := p) hb.1 hg ha
    exact rule_cm (p := .right b p) hb (ss := [a]) (fun s hs => by rw [List.mem_singleton.mp hs]; exact c1) (fin_ok h)
  | .escape p c, g, rd, s, hb, hg, h => by
    obtain ⟨a, ha, h⟩ := bindO_ok h
    have c1 := look_cm B hB (p := p) hb.1 hg ha
    exact rule_cm (p := .escape p c) hb (ss := [a]) (fun s hs => by rw [List.mem_singleton.mp hs]; exact c1) (fin_ok h)
  | .make b p, g, rd, s, hb, hg, h => by
    obtain ⟨a, ha, h⟩ := bindO_ok h
    have c1 := look_cm B hB (p := p) hb.1 (fun s hs => by
      rcases List.mem_append.mp hs with z | z
      · exact hg s z
      · rw [List.mem_singleton.mp z]
        exact hb.2.cm) ha
    exact rule_cm (p := .make b p) hb (ss := [a]) (fun s hs => by rw [List.mem_singleton.mp hs]; exact c1) (fin_ok h)
  | .case p q r c, g, rd, s, hb, hg, h => by
    obtain ⟨o, ho, h⟩ := bindO_ok h
    cases o with
    | lt n => cases h
    | nv => cases h
    | bin w a b =>
      cases w with
      | and => cases h
      | thn => cases h
      | or =>
        obtain ⟨x, hx, h⟩ := bindO_ok h
        obtain ⟨y, hy, h⟩ := bindO_ok h
        have e := fin_ok h
        have e' : (if x = c ∧ y = c then some c else none) = some s := e
        by_cases g2 : x = c ∧ y = c
        · rw [if_pos g2] at e'
          injection e' with e'
          rw [← e']
          exact hb.2.2.2.cm
        · rw [if_neg g2] at e'
          cases e'
end Ob

namespace Ob
open PySem PySem.Spec PyProof.Rows L2
/-! ObC: a range as a list, and a list of statements. -/
theorem rg_ints {a b : Int} {x : V} (h : x ∈ rgV a b) : ∃ z : Int, x = .int z := by
  unfold rgV at h
  obtain ⟨i, _, rfl⟩ := List.mem_map.mp h
  exact ⟨_, rfl⟩
def smsD (g : List Sm) : PyData := .list (g.map Sm.data)
theorem dp_sms {K : PySem.W.Frag} {H : Hp} {a : Addr} {gs : List V} {g : List Sm} (h : SqL K H a gs) (p : Paired (IsSm K H) gs g) : Dp K H (.ref a) (smsD g) := .lst h (dpAll_of (fun _ _ h => h.dp) p)
theorem lay_sms {g : List Sm} (h : ∀ s ∈ g, s.In Ch) : (smsD g).canLay0 = true := lay_lst fun d hd => by
  obtain ⟨s, hs, rfl⟩ := List.mem_map.mp hd
  exact Sm.lay (h s hs)
theorem eqv_smsA : ∀ g : List Sm, PyData.eqvAll (g.map Sm.data) (g.map Sm.data) = true
  | [] => by rw [List.map_nil, PyData.eqvAll]
  | s :: r => by
    rw [List.map_cons, PyData.eqvAll, eqv_smsA r, Sm.eqv_self]
    decide +kernel
theorem eqv_sms (g : List Sm) : PyData.eqv (smsD g) (smsD g) = true := by
  unfold smsD
  rw [PyData.eqv]
  exact eqv_smsA g
theorem dep_smsA {n : Nat} : ∀ {g : List Sm}, (∀ s ∈ g, s.dp ≤ n) → PyData.depthAll (g.map Sm.data) ≤ n + 2
  | [], _ => by simp [PyData.depthAll]
  | s :: r, h => by
    have h1 := s.depth_dp
    have h2 := h s (List.mem_cons_self ..)
    have h3 := dep_smsA (g := r) fun t ht => h t (List.mem_cons_of_mem _ ht)
    rw [List.map_cons, PyData.depthAll]
    omega
theorem dep_sms {n : Nat} {g : List Sm} (h : ∀ s ∈ g, s.dp ≤ n) : (smsD g).depth ≤ n + 3 := by
  have := dep_smsA h
  unfold smsD
  rw [PyData.depth]
  omega
end Ob

namespace Ob
open PySem PySem.Spec PyProof.Rows L2
/-! ObG: isinstance of a caught error that has a field; how often True is in a list of truths. -/
/-- what is asked of the class -/
structure IsC (K : PySem.W.Frag) (D : Addr) : Prop where
  cl : PySem.W.isClsIn K D = true
  ga : PySem.W.findIn K (.ref D) "__getattribute__" = some (some (.builtin "BaseException.__getattribute__"))
  gg : PySem.W.findIn K (.ref D) "__getattr__" = some none
  be : PySem.W.subIn K (.ref D) (.type "BaseException") = some true
  ca : PySem.W.findIn K (.ref D) "__class__" = some (some (.builtin "object.__class__"))
  gt : PySem.W.specialIn K (.builtin "object.__class__") "__get__" = some (some (.builtin "getset_descriptor.__get__"))
  tk : PySem.W.takesIn K (.builtin "object.__class__") = some true
  mr : PySem.W.mroIn K D (.type "object") = some true
/-- one global name and the class that it has -/
structure GC (mg : Str → Option Value) (x : Str) (C : Addr) : Prop where
  gC : mg x = some (.ref C)
def rIsF (K : PySem.W.Frag) (a : Addr) (kl : Value) (d : Option Addr) : List V → Hp → VK → Prop := fun xs H Q => ∃ (D dx : Addr) (fs : List (Str × V)) (c : V) (cv : Value) (b : Bool), xs = [.ref a, c] ∧ kl = .ref D ∧ d = some dx ∧ H dx = some (.xd fs) ∧ IsC K D ∧ (∀ u, RelV c u → u = cv) ∧ PySem.W.kitOne K (.ref D) cv = some b ∧ Q (.bl b) H
theorem call_isF {X : Cx} {a : Addr} {kl : Value} {d : Option Addr} {oe : Obj} {pn : List (Addr × Obj)} (hz : Zc kl d oe) (hf : ∃ vs, oe.data = .fields vs) : CallR (X.suite a ((a, oe) :: pn)) (.builtin "isinstance") (rIsF X.K a kl d) := by
  intro pins s σ H xs us Q I r h
  obtain ⟨D, dx, fs, c, cv, b, rfl, rfl, rfl, hd, C, hcv, e, q⟩ := h
  obtain ⟨u, u', rfl, rx, rt⟩ := vals2 r
  obtain rfl : u = Value.ref a := rx
  have ec := hcv _ rt
  subst ec
  obtain ⟨hget, _⟩ := I.pin (a, oe) (List.mem_append_left _ List.mem_cons_self)
  obtain ⟨vs, hv⟩ := hf
  have hx : ObjOk X.prog X.w H s.heap dx (.xd fs) := I.hok dx _ hd
  obtain ⟨mA, hns, hr⟩ := hx
  obtain ⟨od, ho, hl⟩ := lookIn_ns hns
  have J : PySem.W.InstAt s.heap a oe D (some od) := ⟨hget, hz.1, by unfold PySem.W.notCls; rw [hv] <;> rfl, by rw [hz.2]; exact ho⟩
  have hi := C.cl
  unfold PySem.W.isClsIn at hi
  exact PySem.W.kia_one (PySem.W.kitx_exc (gt := none) hi C.ga C.gg C.be C.ca C.gt C.tk C.mr) I.kIn J e (fun z => nomatch z) fun tk => ⟨.bl b, H, I.tok tk, rfl, q⟩
theorem kit_self {K : PySem.W.Frag} {C : Addr} : PySem.W.kitOne K (.ref C) (.ref C) = some true := by
  unfold PySem.W.kitOne
  rw [if_pos (by rw [beq_self_eq_true])]
theorem kit_cls {K : PySem.W.Frag} {C D : Addr} {r : Bool} (t : PySem.W.typeIn K (.ref D) = some (.type "type")) (i : PySem.W.isClsIn K D = true) (s : PySem.W.subIn K (.ref C) (.ref D) = some r) (ss : PySem.W.subIn K (.ref D) (.ref D) = some true) : PySem.W.kitOne K (.ref C) (.ref D) = some r := by
  have hi := i
  unfold PySem.W.isClsIn at hi
  unfold PySem.W.kitOne
  by_cases e : C = D
  · subst e
    rw [ss] at s
    rw [if_pos (by rw [beq_self_eq_true])]
    exact s
  · rw [if_neg (fun z => e (Value.ref.inj (beq_iff_eq.mp z)))]
    show (if ((PySem.W.clsIn K D).isSome && PySem.W.typeIn K (Value.ref D) == some (Value.type "type")) = true then PySem.W.subIn K (Value.ref C) (Value.ref D) else none) = some r
    rw [if_pos (by rw [hi, t]; rfl), s]
theorem kit_ve {K : PySem.W.Frag} {C : Addr} (s : PySem.W.subIn K (.ref C) (.type "ValueError") = some true) : PySem.W.kitOne K (.ref C) (.type "ValueError") = some true := by
  unfold PySem.W.kitOne
  rw [if_neg (by intro z; cases beq_iff_eq.mp z)]
  show (if PySem.W.kitMeta "ValueError" = true then PySem.W.subIn K (Value.ref C) (.type "ValueError") else none) = some true
  rw [if_pos (by decide +kernel), s]
/-! list.count of a truth -/
def isT (v : Value) : Bool := match v with
  | .bool b => b
  | _ => false
def rCntT (K : PySem.W.Frag) : V → List V → Hp → VK → Prop := fun x xs H Q => ∃ (p : Addr) (bs : List Bool), x = .ref p ∧ xs = [.bl true] ∧ SqL K H p (bs.map V.bl) ∧ Q (.int ((bs.countP id : Nat) : Int)) H
theorem cnt_T : ∀ {bs : List Bool} {us : List Value}, Vals (bs.map V.bl) us → us.countP isT = bs.countP id ∧ ∀ u ∈ us, ∃ b, u = Value.bool b
  | [], _, r => by
    cases r
    exact ⟨rfl, fun _ h => (nomatch h)⟩
  | b :: bs, _, r => by
    cases r with
    | cons r1 rr =>
      have r1 : _ = Value.bool b := r1
      subst r1
      obtain ⟨h1, h2⟩ := cnt_T rr
      refine ⟨?_, fun u hu => ?_⟩
      · rw [List.countP_cons, List.countP_cons, h1]
        rfl
      · rcases List.mem_cons.mp hu with z | z
        · exact ⟨b, z⟩
        · exact h2 u z
theorem mt_cntT {X : Cx} : MtR X "list.count" (rCntT X.K) := by
  intro pins s σ H x xs v us Q I rx rxs h
  obtain ⟨p, bs, rfl, rfl, hs, q⟩ := h
  cases rx
  obtain ⟨u, rfl, ru⟩ := rxs.one
  obtain rfl : u = Value.bool true := ru
  obtain ⟨its, rv, ⟨⟨cls, dd, data, sl⟩, n, ho, hc, hdn, hd⟩, hlen⟩ := I.list hs
  simp only at hc hd
  subst hc hd
  obtain ⟨h1, h2⟩ := cnt_T rv
  refine call_meets PySem.F.slot_list_count ⟨_, ho, rfl⟩ PySem.F.entry_list_count (PySem.F.args_list_count_2 _ _)
    (SeqAt.list_countAt p its.toArray n dd sl (.bool true) isT) ⟨ho, fun y hy => ?_, ?_⟩
  · obtain ⟨b, rfl⟩ := h2 y (by simpa using hy)
    have e := eqAt_V (A := X.A.in1) (s := s) (y := .bl b) (x := .bl true) (u := .bool b) (v := .bool true) rfl rfl rfl rfl
    have e2 : eqV (.bl b) (.bl true) = isT (.bool b) := by cases b <;> rfl
    rw [e2] at e
    exact e
  have ec : its.toArray.toList.countP isT = bs.countP id := h1
  refine ⟨.int (bs.countP id : Nat), H, I.tok _, ⟨s.toks, ?_⟩, q⟩
  show Value.int ((its.toArray.toList.countP isT : Nat) : Int) s.toks = Value.int ((bs.countP id : Nat) : Int) s.toks
  rw [ec]
/-- a method whose rule hangs on the written part, in any context that has this part -/
theorem pe_bmK {X : Cx} {K : PySem.W.Frag} {o e : Expr} {es : List Expr} {to : TE} {t : TA} {name : Str} {apos cpos : Pos} {T id : String} {r : PySem.W.Frag → V → List V → Hp → VK → Prop} (hK : X.K = K) (pa : PlainAttrs T) (slot : Slot T name id) (hty : typeOf (.builtin id) = pure (.type "method_descriptor")) (hm : MtR X id (r X.K)) (ho : PE X o to) (ha : PA X (e :: es) t)
    (hbase : attributeBase o name X.env (eval o X.env) = eval o X.env := by rfl)
    (hfew : ((backTo cpos (starEach (e :: es) X.env)).all (fun x => !x.1) && (backToKw cpos (keywordEach [] X.env)).all (fun x => x.1.isSome)
      && decide ((e :: es).length + ([] : List Keyword).length + (if ([] : List Keyword).isEmpty then 0 else 1) < 30)) = true := by rfl)
    (hline : (apos.endLine == cpos.line) = true := by rfl) (hs : starEach (e :: es) X.env = (false, eval e X.env) :: starEach es X.env := by rfl) (hplain : (backTo cpos (starEach es X.env)).any (·.1) = false := by rfl) :
    PE X (.Call (.Attribute o name apos) (e :: es) [] cpos) (tBM K T (r K) to t) := by
  subst hK
  exact pe_bm pa slot hty hm ho ha hbase hfew hline hs hplain
end Ob

namespace Ob
open PySem PySem.Spec PyProof.Rows L2
/-! ObM: heaps alike but for one list that is drawn from; papers moved. -/
/-- the list that is drawn from -/
structure StOk (H : Hp) (st pr : Addr) (row : List Int) : Prop where
  at_ : ∃ n : Int, H st = some (.lst [.ref pr, .int n])
  row_ : H pr = some (.lst (row.map V.int))
  ne : pr ≠ st
  no : row ≠ []
  all : ∀ x ∈ row, 0 ≤ x ∧ x < 1009
theorem StOk.same {H H' : Hp} {st pr : Addr} {row : List Int} (s : Same H H') (h : StOk H st pr row) : StOk H' st pr row := by
  obtain ⟨⟨n, h1⟩, h2, h3, h4, h5⟩ := h
  exact ⟨⟨n, s _ _ h1⟩, s _ _ h2, h3, h4, h5⟩
theorem StOk.lst {H : Hp} {st pr : Addr} {row : List Int} (h : StOk H st pr row) : ∃ xs, H st = some (.lst xs) := by
  obtain ⟨⟨n, h1⟩, _⟩ := h
  exact ⟨_, h1⟩
theorem StOk.put {H : Hp} {st pr : Addr} {row : List Int} (h : StOk H st pr row) (n : Int) : StOk (upd H st (.lst [.ref pr, .int n])) st pr row := by
  obtain ⟨_, h2, h3, h4, h5⟩ := h
  exact ⟨⟨n, upd_same⟩, by rw [upd_ne h3]; exact h2, h3, h4, h5⟩
theorem But.tk' {K : PySem.W.Frag} {H H' : Hp} {st pr : Addr} {row : List Int} (e : But st H H') (h : StOk H st pr row) : TK K H H' := by
  obtain ⟨xs, h1⟩ := h.lst
  exact e.tk h1
theorem StOk.upd {H : Hp} {st pr : Addr} {row : List Int} (h : StOk H st pr row) {a : Addr} {o : HO} (n1 : a ≠ st) (n2 : a ≠ pr) : StOk (upd H a o) st pr row := by
  obtain ⟨⟨n, h1⟩, h2, h3, h4, h5⟩ := h
  exact ⟨⟨n, by rw [upd_ne n1.symm]; exact h1⟩, by rw [upd_ne n2.symm]; exact h2, h3, h4, h5⟩
/-- a paper with each use of a number from at on made greater -/
def Pp.mv (at_ by_ : Int) : Pp → Pp
  | .use k => .use (k + by_ * (if at_ ≤ k then 1 else 0))
  | .name n => .name n
  | .pair p q => .pair (p.mv at_ by_) (q.mv at_ by_)
  | .first p => .first (p.mv at_ by_)
  | .second p => .second (p.mv at_ by_)
  | .left p b => .left (p.mv at_ by_) b
  | .right b p => .right b (p.mv at_ by_)
  | .case p q r c => .case (p.mv at_ by_) (q.mv at_ by_) (r.mv at_ by_) c
  | .make b p => .make b (p.mv at_ by_)
  | .apply p q => .apply (p.mv at_ by_) (q.mv at_ by_)
  | .escape p c => .escape (p.mv at_ by_) c
theorem had_mv (B : List Nat → Option Sm) (g m h : List Sm) (k : Int) (rd : List Int) : had B (g ++ m ++ h) (.use (k + (m.length : Int) * (if (g.length : Int) ≤ k then 1 else 0))) rd = had B (g ++ h) (.use k) rd := by
  show (match (if 0 ≤ k + (m.length : Int) * (if (g.length : Int) ≤ k then 1 else 0) then (g ++ m ++ h)[(k + (m.length : Int) * (if (g.length : Int) ≤ k then 1 else 0)).toNat]? else none) with
    | some s => Except.ok s
    | none => Except.error (Er.given, rd)) = (match (if 0 ≤ k then (g ++ h)[k.toNat]? else none) with
    | some s => Except.ok s
    | none => Except.error (Er.given, rd))
  by_cases h1 : (g.length : Int) ≤ k
  · have e : k + (m.length : Int) * (if (g.length : Int) ≤ k then 1 else 0) = k + (m.length : Int) := by rw [if_pos h1, Int.mul_one]
    rw [e, if_pos (by omega), if_pos (by omega)]
    have e1 : (g ++ m ++ h)[(k + (m.length : Int)).toNat]? = h[k.toNat - g.length]? := by
      rw [List.getElem?_append_right (by rw [List.length_append]; omega), List.length_append]
      congr 1
      omega
    have e2 : (g ++ h)[k.toNat]? = h[k.toNat - g.length]? := List.getElem?_append_right (by omega)
    rw [e1, e2]
  · have e : k + (m.length : Int) * (if (g.length : Int) ≤ k then 1 else 0) = k := by rw [if_neg h1, Int.mul_zero, Int.add_zero]
    rw [e]
    by_cases h0 : 0 ≤ k
    · rw [if_pos h0, if_pos h0]
      have e1 : (g ++ m ++ h)[k.toNat]? = g[k.toNat]? := by
        rw [List.append_assoc]
        exact List.getElem?_append_left (by omega)
      have e2 : (g ++ h)[k.toNat]? = g[k.toNat]? := List.getElem?_append_left (by omega)
      rw [e1, e2]
    · rw [if_neg h0, if_neg h0]
/-- the words of a paper are those of the moved one: what it shows is the same -/
theorem rule_mv (a b : Int) : ∀ (p : Pp) (ss : List Sm), (p.mv a b).rule ss = p.rule ss := by
  intro p ss
  have key : ∀ x : Sm, x = .nv ∨ (∃ n, x = .lt n) ∨ (∃ a b, x = .bin .and a b) ∨ (∃ a b, x = .bin .or a b) ∨ ∃ a b, x = .bin .thn a b := fun x => by
    cases x with
    | lt n => exact .inr (.inl ⟨n, rfl⟩)
    | nv => exact .inl rfl
    | bin w a b =>
      cases w with
      | and => exact .inr (.inr (.inl ⟨a, b, rfl⟩))
      | or => exact .inr (.inr (.inr (.inl ⟨a, b, rfl⟩)))
      | thn => exact .inr (.inr (.inr (.inr ⟨a, b, rfl⟩)))
  cases p <;> first
    | rfl
    | (rcases ss with _ | ⟨x, _ | ⟨y, _ | ⟨z, r⟩⟩⟩ <;> first
        | rfl
        | (rcases key x with rfl | ⟨n, rfl⟩ | ⟨a, b, rfl⟩ | ⟨a, b, rfl⟩ | ⟨a, b, rfl⟩ <;> rfl))
theorem look_mv (B : List Nat → Option Sm) (g m : List Sm) : ∀ (p : Pp) (h : List Sm) (rd : List Int), (p.mv (g.length : Int) (m.length : Int)).look B (g ++ m ++ h) rd = p.look B (g ++ h) rd
  | .use k, h, rd => had_mv B g m h k rd
  | .name n, h, rd => rfl
  | .pair p q, h, rd => by
    show bindO ((p.mv _ _).look B (g ++ m ++ h) (rd ++ [1])) (fun a => bindO ((q.mv _ _).look B (g ++ m ++ h) (rd ++ [2])) fun b => fin _ rd) = bindO (p.look B (g ++ h) (rd ++ [1])) _
    rw [look_mv B g m p h, look_mv B g m q h]
    rfl
  | .first p, h, rd => by
    show bindO ((p.mv _ _).look B (g ++ m ++ h) (rd ++ [1])) _ = bindO (p.look B (g ++ h) (rd ++ [1])) _
    rw [look_mv B g m p h]
    congr 1
    funext a
    exact congrArg (fun z => fin z rd) (rule_mv _ _ (.first p) [a])
  | .second p, h, rd => by
    show bindO ((p.mv _ _).look B (g ++ m ++ h) (rd ++ [1])) _ = bindO (p.look B (g ++ h) (rd ++ [1])) _
    rw [look_mv B g m p h]
    congr 1
    funext a
    exact congrArg (fun z => fin z rd) (rule_mv _ _ (.second p) [a])
  | .left p b, h, rd => by
    show bindO ((p.mv _ _).look B (g ++ m ++ h) (rd ++ [1])) _ = bindO (p.look B (g ++ h) (rd ++ [1])) _
    rw [look_mv B g m p h]
    rfl
  | .right b p, h, rd => by
    show bindO ((p.mv _ _).look B (g ++ m ++ h) (rd ++ [2])) _ = bindO (p.look B (g ++ h) (rd ++ [2])) _
    rw [look_mv B g m p h]
    rfl
  | .case p q r c, h, rd => by
    show bindO ((p.mv _ _).look B (g ++ m ++ h) (rd ++ [1])) _ = bindO (p.look B (g ++ h) (rd ++ [1])) _
    rw [look_mv B g m p h]
    congr 1
    funext o
    cases o with
    | lt n => rfl
    | nv => rfl
    | bin w a b =>
      cases w with
      | and => rfl
      | thn => rfl
      | or =>
        show bindO ((q.mv _ _).look B (g ++ m ++ h ++ [a]) (rd ++ [2])) (fun x => bindO ((r.mv _ _).look B (g ++ m ++ h ++ [b]) (rd ++ [3])) fun y => fin _ rd) = bindO (q.look B (g ++ h ++ [a]) (rd ++ [2])) (fun x => bindO (r.look B (g ++ h ++ [b]) (rd ++ [3])) fun y => fin _ rd)
        rw [List.append_assoc (g ++ m) h [a], List.append_assoc (g ++ m) h [b], List.append_assoc g h [a], List.append_assoc g h [b], look_mv B g m q (h ++ [a]), look_mv B g m r (h ++ [b])]
        rfl
  | .make b p, h, rd => by
    show bindO ((p.mv _ _).look B (g ++ m ++ h ++ [b]) (rd ++ [2])) _ = bindO (p.look B (g ++ h ++ [b]) (rd ++ [2])) _
    rw [List.append_assoc (g ++ m) h [b], List.append_assoc g h [b], look_mv B g m p (h ++ [b])]
    rfl
  | .apply p q, h, rd => by
    show bindO ((p.mv _ _).look B (g ++ m ++ h) (rd ++ [1])) (fun a => bindO ((q.mv _ _).look B (g ++ m ++ h) (rd ++ [2])) fun b => fin _ rd) = bindO (p.look B (g ++ h) (rd ++ [1])) (fun a => bindO (q.look B (g ++ h) (rd ++ [2])) fun b => fin _ rd)
    rw [look_mv B g m p h, look_mv B g m q h]
    congr 1
    funext a
    congr 1
    funext b
    exact congrArg (fun z => fin z rd) (rule_mv _ _ (.apply p q) [a, b])
  | .escape p c, h, rd => by
    show bindO ((p.mv _ _).look B (g ++ m ++ h) (rd ++ [1])) _ = bindO (p.look B (g ++ h) (rd ++ [1])) _
    rw [look_mv B g m p h]
    congr 1
    funext a
    exact congrArg (fun z => fin z rd) (rule_mv _ _ (.escape p c) [a])
theorem mv_wt (a b : Int) : ∀ p : Pp, (p.mv a b).wt = p.wt
  | .use _ => rfl
  | .name _ => rfl
  | .pair p q => by show (p.mv a b).wt + (q.mv a b).wt + 2 = _; rw [mv_wt a b p, mv_wt a b q]; rfl
  | .first p => by show (p.mv a b).wt + 2 = _; rw [mv_wt a b p]; rfl
  | .second p => by show (p.mv a b).wt + 2 = _; rw [mv_wt a b p]; rfl
  | .left p _ => by show (p.mv a b).wt + 2 = _; rw [mv_wt a b p]; rfl
  | .right _ p => by show (p.mv a b).wt + 2 = _; rw [mv_wt a b p]; rfl
  | .case p q r _ => by show (p.mv a b).wt + (q.mv a b).wt + (r.mv a b).wt + 7 = _; rw [mv_wt a b p, mv_wt a b q, mv_wt a b r]; rfl
  | .make _ p => by show (p.mv a b).wt + 4 = _; rw [mv_wt a b p]; rfl
  | .apply p q => by show (p.mv a b).wt + (q.mv a b).wt + 2 = _; rw [mv_wt a b p, mv_wt a b q]; rfl
  | .escape p _ => by show (p.mv a b).wt + 2 = _; rw [mv_wt a b p]; rfl
theorem mv_bn (a b : Int) : ∀ p : Pp, p.Bn → (p.mv a b).Bn
  | .use _, _ => True.intro
  | .name _, _ => True.intro
  | .pair p q, h => ⟨mv_bn a b p h.1, mv_bn a b q h.2⟩
  | .first p, h => mv_bn a b p h
  | .second p, h => mv_bn a b p h
  | .left p _, h => ⟨mv_bn a b p h.1, h.2⟩
  | .right _ p, h => ⟨mv_bn a b p h.1, h.2⟩
  | .case p q r _, h => ⟨mv_bn a b p h.1, mv_bn a b q h.2.1, mv_bn a b r h.2.2.1, h.2.2.2⟩
  | .make _ p, h => ⟨mv_bn a b p h.1, h.2⟩
  | .apply p q, h => ⟨mv_bn a b p h.1, mv_bn a b q h.2⟩
  | .escape p _, h => ⟨mv_bn a b p h.1, h.2⟩
/-- how deep papers stand within one another -/
def Pp.ht : Pp → Nat
  | .use _ => 0
  | .name _ => 0
  | .pair p q => max p.ht q.ht + 1
  | .first p => p.ht + 1
  | .second p => p.ht + 1
  | .left p _ => p.ht + 1
  | .right _ p => p.ht + 1
  | .case p q r _ => max p.ht (max q.ht r.ht) + 1
  | .make _ p => p.ht + 1
  | .apply p q => max p.ht q.ht + 1
  | .escape p _ => p.ht + 1
theorem kid_ht {p : Pp} {k : Int × Pp} (h : k ∈ p.kids) : k.2.ht + 1 ≤ p.ht := by
  cases p <;> simp only [Pp.kids, List.mem_cons, List.not_mem_nil, or_false] at h
  case pair p q =>
    rcases h with rfl | rfl <;> simp only [Pp.ht] <;> omega
  case first p => subst h; exact Nat.le_refl _
  case second p => subst h; exact Nat.le_refl _
  case left p b => subst h; exact Nat.le_refl _
  case right b p => subst h; exact Nat.le_refl _
  case case p q r c =>
    rcases h with rfl | rfl | rfl <;> simp only [Pp.ht] <;> omega
  case make b p => subst h; exact Nat.le_refl _
  case apply p q =>
    rcases h with rfl | rfl <;> simp only [Pp.ht] <;> omega
  case escape p b => subst h; exact Nat.le_refl _
theorem mv_ht (a b : Int) : ∀ p : Pp, (p.mv a b).ht = p.ht
  | .use _ => rfl
  | .name _ => rfl
  | .pair p q => by show max (p.mv a b).ht (q.mv a b).ht + 1 = _; rw [mv_ht a b p, mv_ht a b q]; rfl
  | .first p => by show (p.mv a b).ht + 1 = _; rw [mv_ht a b p]; rfl
  | .second p => by show (p.mv a b).ht + 1 = _; rw [mv_ht a b p]; rfl
  | .left p _ => by show (p.mv a b).ht + 1 = _; rw [mv_ht a b p]; rfl
  | .right _ p => by show (p.mv a b).ht + 1 = _; rw [mv_ht a b p]; rfl
  | .case p q r _ => by show max (p.mv a b).ht (max (q.mv a b).ht (r.mv a b).ht) + 1 = _; rw [mv_ht a b p, mv_ht a b q, mv_ht a b r]; rfl
  | .make _ p => by show (p.mv a b).ht + 1 = _; rw [mv_ht a b p]; rfl
  | .apply p q => by show max (p.mv a b).ht (q.mv a b).ht + 1 = _; rw [mv_ht a b p, mv_ht a b q]; rfl
  | .escape p _ => by show (p.mv a b).ht + 1 = _; rw [mv_ht a b p]; rfl
def setAll : List V → List Int → List V → List V
  | ys, p :: ps, z :: zs => setAll (ys.set p.toNat z) ps zs
  | ys, _, _ => ys
theorem setAll_len : ∀ (ps : List Int) (ys zs : List V), (setAll ys ps zs).length = ys.length
  | [], _, _ => by simp [setAll]
  | _ :: _, _, [] => by simp [setAll]
  | p :: ps, ys, z :: zs => by
    show (setAll (ys.set p.toNat z) ps zs).length = _
    rw [setAll_len ps, List.length_set]
theorem setAll_app : ∀ (ps : List Int) (ys zs : List V) (p : Int) (z : V), ps.length = zs.length → setAll ys (ps ++ [p]) (zs ++ [z]) = (setAll ys ps zs).set p.toNat z
  | [], ys, [], p, z, _ => rfl
  | [], _, _ :: _, _, _, h => by cases h
  | _ :: _, _, [], _, _, h => by cases h
  | q :: ps, ys, y :: zs, p, z, h => setAll_app ps (ys.set q.toNat y) zs p z (by simpa using h)
theorem at_ix {xs : List V} {i : Int} {x : V} (h : atI xs i = some x) (h0 : 0 ≤ i) : ixN xs.length i = some i.toNat := by
  unfold atI at h
  unfold ixN at h ⊢
  rw [if_pos h0] at h ⊢
  by_cases h1 : i < xs.length
  · rw [if_pos h1]
  · rw [if_neg h1] at h
    cases h
theorem kid_pl (p : Pp) : p.wd.pl = p.kids.map (·.1) := by cases p <;> rfl
theorem kid_pos {p : Pp} {k : Int × Pp} (h : k ∈ p.kids) : 0 ≤ k.1 := by
  have h1 : k.1 ∈ p.wd.pl := by
    rw [kid_pl]
    exact List.mem_map_of_mem h
  have : ∀ wd : PW, ∀ i ∈ wd.pl, 0 ≤ i := by
    intro wd i hi
    cases wd <;> simp only [PW.pl, List.mem_cons, List.not_mem_nil, or_false] at hi <;> first | (rcases hi with rfl | rfl | rfl <;> decide) | (rcases hi with rfl | rfl <;> decide) | (subst hi; decide)
  exact this _ _ h1
theorem sh_sm {s : Sm} {n : Nat} (h : s.dp ≤ n) (hn : n ≤ 60) (c : s.In Ch) : SeqAt.shaped s.data = true := by
  unfold SeqAt.shaped
  have := s.depth_dp
  rw [Sm.lay c, decide_eq_true (by omega)]
  rfl
theorem sh_sms {g : List Sm} {n : Nat} (h : ∀ s ∈ g, s.dp ≤ n ∧ s.In Ch) (hn : n ≤ 60) : SeqAt.shaped (.list (g.map Sm.data)) = true := by
  unfold SeqAt.shaped
  have h1 := lay_sms fun s hs => (h s hs).2
  have h2 := dep_sms fun s hs => (h s hs).1
  unfold smsD at h1 h2
  rw [h1, decide_eq_true (by omega)]
  rfl
theorem any_sms (s : Sm) : ∀ g : List Sm, (g.map Sm.data).any (fun z => PyData.eqv z s.data) = decide (s ∈ g)
  | [] => rfl
  | t :: r => by
    rw [List.map_cons, List.any_cons, any_sms s r, Sm.eqv]
    by_cases e : t = s
    · subst e
      rw [decide_eq_true rfl, decide_eq_true (List.mem_cons_self ..)]
      rfl
    · rw [decide_eq_false e, Bool.false_or]
      by_cases m : s ∈ r
      · rw [decide_eq_true m, decide_eq_true (List.mem_cons_of_mem _ m)]
      · rw [decide_eq_false m, decide_eq_false (by
          intro y
          rcases List.mem_cons.mp y with y | y
          · exact e y.symm
          · exact m y)]
theorem in_sms {K : PySem.W.Frag} {H : Hp} {x : V} {s : Sm} {pg : Addr} {gs : List V} {g : List Sm} {n : Nat} {Q : VK} (ix : IsSm K H x s) (hG : SqL K H pg gs) (pgs : Paired (IsSm K H) gs g) (hs : s.dp ≤ n ∧ s.In Ch) (hg : ∀ s ∈ g, s.dp ≤ n ∧ s.In Ch) (hn : n ≤ 60) (q : Q (.bl (decide (s ∈ g))) H) : rInD K x (.ref pg) H Q := by
  refine ⟨s.data, g.map Sm.data, ix.dp, dp_sms hG pgs, sh_sm hs.1 hn hs.2, sh_sms hg hn, ?_⟩
  rw [any_sms]
  exact q
theorem first_at {s : Sm} : ∀ {g : List Sm}, s ∈ g → ∃ j : Nat, g[j]? = some s ∧ ∀ m, m < j → g[m]? ≠ some s
  | [], h => absurd h List.not_mem_nil
  | t :: r, h => by
    by_cases e : t = s
    · exact ⟨0, by rw [e]; rfl, fun m hm => absurd hm (Nat.not_lt_zero m)⟩
    · have h2 : s ∈ r := by
        rcases List.mem_cons.mp h with y | y
        · exact absurd y.symm e
        · exact y
      obtain ⟨j, h3, h4⟩ := first_at h2
      refine ⟨j + 1, h3, fun m hm => ?_⟩
      cases m with
      | zero =>
        intro y
        injection y with y
        exact e y
      | succ m => exact h4 m (by omega)
theorem index_sms {K : PySem.W.Frag} {H : Hp} {x : V} {s : Sm} {pg : Addr} {gs : List V} {g : List Sm} {n : Nat} {Q : VK} (ix : IsSm K H x s) (hG : SqL K H pg gs) (pgs : Paired (IsSm K H) gs g) (hs : s.dp ≤ n ∧ s.In Ch) (hg : ∀ s ∈ g, s.dp ≤ n ∧ s.In Ch) (hn : n ≤ 60) (m : s ∈ g) (q : ∀ j : Nat, g[j]? = some s → Q (.int (j : Int)) H) : rIndexD K (.ref pg) [x] H Q := by
  obtain ⟨j, h1, h2⟩ := first_at m
  refine ⟨pg, x, s.data, g.map Sm.data, j, s.data, rfl, rfl, dp_sms hG pgs, ix.dp, sh_sms hg hn, sh_sm hs.1 hn hs.2, by rw [List.getElem?_map, h1]; rfl, Sm.eqv_self s, fun i z hi hz => ?_, q j h1⟩
  rw [List.getElem?_map] at hz
  obtain ⟨t, ht, rfl⟩ := Option.map_eq_some_iff.mp hz
  rw [Sm.eqv]
  exact decide_eq_false fun e => h2 i hi (by rw [ht, e])
theorem units65 {k : Nat} {A : Around} (r : Room k A) : A.units + 65 < cLine := by
  have := r.un
  omega
theorem at_nil {σ : L2.St} {H : Hp} {F : List V → Hp → Prop} (h : F [] H) : tNil σ H F := h
end Ob

/-! ObAc: what is shown, as a tuple of a word and a statement or a road; how deep what is shown may be; papers looked at part by part. -/
namespace Ob
open PySem PySem.Spec PyProof.Rows L2
section
variable {K : PySem.W.Frag}
/-- an outcome as a tuple -/
def OutV (K : PySem.W.Frag) (H : Hp) (v : V) (o : Out Sm) : Prop := match o with
  | .ok s => ∃ a x, v = .ref a ∧ SqT K H a [.str "shown", x] ∧ IsSm K H x s
  | .error (.given, rd) => ∃ a x, v = .ref a ∧ SqT K H a [.str "nogiven", x] ∧ RoadV K rd x H
  | .error (.named, rd) => ∃ a x, v = .ref a ∧ SqT K H a [.str "unnamed", x] ∧ RoadV K rd x H
  | .error (.that, rd) => ∃ a x, v = .ref a ∧ SqT K H a [.str "notthat", x] ∧ RoadV K rd x H
theorem OutV.same {H H' : Hp} (e : Same H H') {v : V} {o : Out Sm} (h : OutV K H v o) : OutV K H' v o := by
  match o, h with
  | .ok s, ⟨a, x, e1, t, i⟩ => exact ⟨a, x, e1, seqT e t, i.same e⟩
  | .error (.given, rd), ⟨a, x, e1, t, i⟩ => exact ⟨a, x, e1, seqT e t, i.tk (Same.tk e)⟩
  | .error (.named, rd), ⟨a, x, e1, t, i⟩ => exact ⟨a, x, e1, seqT e t, i.tk (Same.tk e)⟩
  | .error (.that, rd), ⟨a, x, e1, t, i⟩ => exact ⟨a, x, e1, seqT e t, i.tk (Same.tk e)⟩
def roadD (rd : List Int) : PyData := .tuple (rd.map PyData.int)
def outD : Out Sm → PyData
  | .ok s => .tuple [.str "shown", s.data]
  | .error (.given, rd) => .tuple [.str "nogiven", roadD rd]
  | .error (.named, rd) => .tuple [.str "unnamed", roadD rd]
  | .error (.that, rd) => .tuple [.str "notthat", roadD rd]
theorem RoadV.dp {H : Hp} {rd : List Int} {v : V} (h : RoadV K rd v H) : Dp K H v (roadD rd) := by
  obtain ⟨p, rfl, t⟩ := h
  exact .tup t (dpAll_ints rd)
theorem OutV.dp {H : Hp} {v : V} {o : Out Sm} (h : OutV K H v o) : Dp K H v (outD o) := by
  match o, h with
  | .ok s, ⟨a, x, e1, t, i⟩ =>
    rw [e1]
    exact .tup t (.cons (.str _) (.cons i.dp .nil))
  | .error (.given, rd), ⟨a, x, e1, t, i⟩ =>
    rw [e1]
    exact .tup t (.cons (.str _) (.cons (RoadV.dp i) .nil))
  | .error (.named, rd), ⟨a, x, e1, t, i⟩ =>
    rw [e1]
    exact .tup t (.cons (.str _) (.cons (RoadV.dp i) .nil))
  | .error (.that, rd), ⟨a, x, e1, t, i⟩ =>
    rw [e1]
    exact .tup t (.cons (.str _) (.cons (RoadV.dp i) .nil))
theorem eqv_ints : ∀ ns : List Int, PyData.eqvAll (ns.map PyData.int) (ns.map PyData.int) = true
  | [] => by rw [List.map_nil, PyData.eqvAll]
  | n :: r => by
    rw [List.map_cons, PyData.eqvAll, eqv_ints r, PyData.eqv]
    simp
theorem eqv_road (rd : List Int) : PyData.eqv (roadD rd) (roadD rd) = true := by
  unfold roadD
  rw [PyData.eqv]
  exact eqv_ints rd
theorem eqv_out (o : Out Sm) : PyData.eqv (outD o) (outD o) = true := by
  match o with
  | .ok s =>
    show PyData.eqv (.tuple [.str "shown", s.data]) (.tuple [.str "shown", s.data]) = true
    rw [eqv_t2, eqv_s, Sm.eqv_self]
    decide +kernel
  | .error (.given, rd) =>
    show PyData.eqv (.tuple [.str "nogiven", roadD rd]) (.tuple [.str "nogiven", roadD rd]) = true
    rw [eqv_t2, eqv_s, eqv_road]
    decide +kernel
  | .error (.named, rd) =>
    show PyData.eqv (.tuple [.str "unnamed", roadD rd]) (.tuple [.str "unnamed", roadD rd]) = true
    rw [eqv_t2, eqv_s, eqv_road]
    decide +kernel
  | .error (.that, rd) =>
    show PyData.eqv (.tuple [.str "notthat", roadD rd]) (.tuple [.str "notthat", roadD rd]) = true
    rw [eqv_t2, eqv_s, eqv_road]
    decide +kernel
theorem lay_road (rd : List Int) : (roadD rd).canLay0 = true := lay_tup (lay_ints rd)
theorem lay_out {o : Out Sm} (h : ∀ s, o = .ok s → s.In Ch) : (outD o).canLay0 = true := by
  have two : ∀ (x : Str) (d : PyData), PyData.strOk x = true → d.canLay0 = true → (PyData.tuple [.str x, d]).canLay0 = true := fun x d h1 h2 => lay_tup fun e he => by
    rcases List.mem_cons.mp he with rfl | he
    · rw [PyData.canLay0]
      exact h1
    · rw [List.mem_singleton.mp he]
      exact h2
  match o, h with
  | .ok s, h => exact two _ _ (by decide +kernel) (Sm.lay (h s rfl))
  | .error (.given, rd), _ => exact two _ _ (by decide +kernel) (lay_road rd)
  | .error (.named, rd), _ => exact two _ _ (by decide +kernel) (lay_road rd)
  | .error (.that, rd), _ => exact two _ _ (by decide +kernel) (lay_road rd)
theorem dep_ints : ∀ ns : List Int, PyData.depthAll (ns.map PyData.int) = 0
  | [] => by simp [PyData.depthAll]
  | n :: r => by
    rw [List.map_cons, PyData.depthAll, dep_ints r]
    simp [PyData.depth]
theorem dep_out {o : Out Sm} (h : ∀ s, o = .ok s → s.dp ≤ 60) : (outD o).depth ≤ 64 := by
  have two : ∀ (x : Str) (d : PyData), d.depth ≤ 62 → (PyData.tuple [.str x, d]).depth ≤ 64 := fun x d h1 => by
    simp only [PyData.depth, PyData.depthAll]
    omega
  have rdd : ∀ rd : List Int, (roadD rd).depth ≤ 62 := fun rd => by
    unfold roadD
    rw [PyData.depth, dep_ints]
    decide
  match o, h with
  | .ok s, h =>
    have := s.depth_dp
    have := h s rfl
    exact two _ _ (by omega)
  | .error (.given, rd), _ => exact two _ _ (rdd rd)
  | .error (.named, rd), _ => exact two _ _ (rdd rd)
  | .error (.that, rd), _ => exact two _ _ (rdd rd)
/-- small statements of the drawn letters -/
structure Sml (s : Sm) (n : Nat) : Prop where
  dp : s.dp ≤ n
  ch : s.In Ch
theorem Sml.bn {s : Sm} {n : Nat} (h : Sml s n) (hn : n ≤ 60) : s.Bn := ⟨Nat.le_trans h.dp hn, h.ch⟩
def outW : Out Sm → Str
  | .ok _ => "shown"
  | .error (.given, _) => "nogiven"
  | .error (.named, _) => "unnamed"
  | .error (.that, _) => "notthat"
theorem OutV.head {H : Hp} {v : V} {o : Out Sm} (h : OutV K H v o) : ∃ a x, v = .ref a ∧ SqT K H a [.str (outW o), x] := by
  match o, h with
  | .ok s, ⟨a, x, e1, t, i⟩ => exact ⟨a, x, e1, t⟩
  | .error (.given, rd), ⟨a, x, e1, t, i⟩ => exact ⟨a, x, e1, t⟩
  | .error (.named, rd), ⟨a, x, e1, t, i⟩ => exact ⟨a, x, e1, t⟩
  | .error (.that, rd), ⟨a, x, e1, t, i⟩ => exact ⟨a, x, e1, t⟩
theorem Sml.mono {s : Sm} {n m : Nat} (h : Sml s n) (k : n ≤ m) : Sml s m := ⟨Nat.le_trans h.dp k, h.ch⟩
theorem had_sml {g : List Sm} {n : Nat} (hg : ∀ s ∈ g, Sml s n) (k : Int) (rd : List Int) : ∀ s, had (fun _ => none) g (.use k) rd = .ok s → Sml s n := fun s h => by
  rcases had_use (fun _ => none) g k rd with ⟨t, mt, et⟩ | et
  · rw [et] at h
    injection h with h
    rw [← h]
    exact hg t mt
  · rw [et] at h
    cases h
/-- both sides of a comparison of outcomes -/
theorem cmp_out {H : Hp} {x y : V} {o : Out Sm} {n : Nat} (hx : OutV K H x o) (hy : OutV K H y o) (hs : ∀ s, o = .ok s → Sml s n) (hn : n ≤ 60) : ∃ d e, Dp K H x d ∧ Dp K H y e ∧ d.canLay0 = true ∧ e.canLay0 = true ∧ min d.depth e.depth ≤ 64 ∧ PyData.eqv d e = true :=
  ⟨_, _, OutV.dp hx, OutV.dp hy, lay_out fun s h => (hs s h).ch, lay_out fun s h => (hs s h).ch, Nat.le_trans (Nat.min_le_left _ _) (dep_out fun s h => Nat.le_trans (hs s h).dp hn), eqv_out o⟩
theorem ne_out {H : Hp} {x y : V} {o : Out Sm} {n : Nat} {Q : VK} (hx : OutV K H x o) (hy : OutV K H y o) (hs : ∀ s, o = .ok s → Sml s n) (hn : n ≤ 60) (q : Q (.bl false) H) : rNeE K x y H Q := by
  obtain ⟨d, e, h1, h2, h3, h4, h5, h6⟩ := cmp_out hx hy hs hn
  refine ⟨d, e, h1, h2, h3, h4, h5, ?_⟩
  rw [h6]
  exact q
theorem out_cases (o : Out Sm) : (∃ s, o = .ok s) ∨ ∃ e, o = .error e ∧ outW o ≠ "shown" := by
  match o with
  | .ok s => exact .inl ⟨s, rfl⟩
  | .error (.given, rd) => exact .inr ⟨_, rfl, by show ("nogiven" : Str) ≠ "shown"; decide⟩
  | .error (.named, rd) => exact .inr ⟨_, rfl, by show ("unnamed" : Str) ≠ "shown"; decide⟩
  | .error (.that, rd) => exact .inr ⟨_, rfl, by show ("notthat" : Str) ≠ "shown"; decide⟩
theorem str_ne {x y : Str} (h : x ≠ y) : decide (V.str x = V.str y) = false := decide_eq_false fun e => by
  injection e with e
  exact h e
theorem str_self (x : Str) : decide (V.str x = V.str x) = true := decide_eq_true rfl
end
/-! ### equal, deeper down -/
def rEqN (K : PySem.W.Frag) (n : Nat) : R2 := fun x y H Q => ∃ d e, Dp K H x d ∧ Dp K H y e ∧ d.canLay0 = true ∧ e.canLay0 = true ∧ min d.depth e.depth ≤ n ∧ Q (.bl (PyData.eqv d e)) H
def rNeN (K : PySem.W.Frag) (n : Nat) : R2 := fun x y H Q => ∃ d e, Dp K H x d ∧ Dp K H y e ∧ d.canLay0 = true ∧ e.canLay0 = true ∧ min d.depth e.depth ≤ n ∧ Q (.bl (!PyData.eqv d e)) H
theorem op_eqN {X : Cx} {n : Nat} (hu : X.A.units + n < cLine) : OpR X (compareOp .Eq) (rEqN X.K n) := by
  intro pins s σ H x y v u Q I rx ry h
  obtain ⟨d, e, hd, he, sd, se, hm, q⟩ := h
  obtain ⟨as, r1⟩ := Dp.reads I d x v hd rx
  obtain ⟨bs, r2⟩ := Dp.reads I e y u he ry
  exact SeqAt.compareEq_reads r1 r2 sd se (by omega) ⟨.bl _, H, I, rfl, q⟩
theorem op_neN {X : Cx} {n : Nat} (hu : X.A.units + n < cLine) : OpR X (compareOp .NotEq) (rNeN X.K n) := by
  intro pins s σ H x y v u Q I rx ry h
  obtain ⟨d, e, hd, he, sd, se, hm, q⟩ := h
  obtain ⟨as, r1⟩ := Dp.reads I d x v hd rx
  obtain ⟨bs, r2⟩ := Dp.reads I e y u he ry
  exact SeqAt.compareNe_reads r1 r2 sd se (by omega) ⟨.bl _, H, I, rfl, q⟩
theorem roomN {k n : Nat} {A : Around} (r : Room k A) (h : n ≤ 16 * k + 200) : A.units + n < cLine := by
  have := r.un
  omega
/-- outcomes of the same, deeper down, compared -/
theorem ne_outN {K : PySem.W.Frag} {H : Hp} {x y : V} {o : Out Sm} {Q : VK} (hx : OutV K H x o) (hy : OutV K H y o) (hs : ∀ s, o = .ok s → s.dp ≤ 80 ∧ s.In Ch) (q : Q (.bl false) H) : rNeN K 90 x y H Q := by
  refine ⟨_, _, OutV.dp hx, OutV.dp hy, lay_out fun s h => (hs s h).2, lay_out fun s h => (hs s h).2, ?_, ?_⟩
  · have two : ∀ (x : Str) (d : PyData), d.depth ≤ 85 → (PyData.tuple [.str x, d]).depth ≤ 90 := fun x d h1 => by
      simp only [PyData.depth, PyData.depthAll]
      omega
    have rdd : ∀ rd : List Int, (roadD rd).depth ≤ 85 := fun rd => by
      unfold roadD
      rw [PyData.depth, dep_ints]
      decide
    refine Nat.le_trans (Nat.min_le_left _ _) ?_
    match o, hs with
    | .ok s, h =>
      have := s.depth_dp
      have := (h s rfl).1
      exact two _ _ (by omega)
    | .error (.given, rd), _ => exact two _ _ (rdd rd)
    | .error (.named, rd), _ => exact two _ _ (rdd rd)
    | .error (.that, rd), _ => exact two _ _ (rdd rd)
  · rw [eqv_out]
    exact q
/-! ### how deep what is shown may be -/
theorem look_dp (B : List Nat → Option Sm) {M : Nat} (hM : 60 ≤ M) (hB : ∀ n s, B n = some s → s.dp ≤ M ∧ s.In Ch) : ∀ (p : Pp) (g : List Sm) (rd : List Int) (s : Sm), p.Bn → (∀ s ∈ g, s.dp ≤ M ∧ s.In Ch) → p.look B g rd = .ok s → s.dp ≤ M + p.ht ∧ s.In Ch
  | .use k, g, rd, s, _, hg, h => by
    rcases had_use B g k rd with ⟨t, mt, et⟩ | et
    · have h' : had B g (.use k) rd = .ok s := h
      rw [et] at h'
      injection h' with h'
      rw [← h']
      exact hg t mt
    · have h' : had B g (.use k) rd = .ok s := h
      rw [et] at h'
      cases h'
  | .name n, g, rd, s, _, _, h => by
    have h' : (match B n with
      | some s => Except.ok s
      | none => Except.error (Er.named, rd)) = .ok s := h
    cases e : B n with
    | none =>
      rw [e] at h'
      cases h'
    | some t =>
      rw [e] at h'
      injection h' with h'
      rw [← h']
      exact hB n t e
  | .pair p q, g, rd, s, hb, hg, h => by
    obtain ⟨a, ha, h⟩ := bindO_ok h
    obtain ⟨b, hb', h⟩ := bindO_ok h
    have e := fin_ok h
    injection e with e
    subst e
    have h1 := look_dp B hM hB p g _ a hb.1 hg ha
    have h2 := look_dp B hM hB q g _ b hb.2 hg hb'
    exact ⟨by show max a.dp b.dp + 1 ≤ M + (max p.ht q.ht + 1); omega, h1.2, h2.2⟩
  | .first p, g, rd, s, hb, hg, h => by
    obtain ⟨a, ha, h⟩ := bindO_ok h
    have e := fin_ok h
    have h1 := look_dp B hM hB p g _ a hb hg ha
    match a, e, h1 with
    | .bin .and x y, e, h1 =>
      injection e with e
      subst e
      have hd : max x.dp y.dp + 1 ≤ M + p.ht := h1.1
      exact ⟨by show x.dp ≤ M + (p.ht + 1); omega, h1.2.1⟩
  | .second p, g, rd, s, hb, hg, h => by
    obtain ⟨a, ha, h⟩ := bindO_ok h
    have e := fin_ok h
    have h1 := look_dp B hM hB p g _ a hb hg ha
    match a, e, h1 with
    | .bin .and x y, e, h1 =>
      injection e with e
      subst e
      have hd : max x.dp y.dp + 1 ≤ M + p.ht := h1.1
      exact ⟨by show y.dp ≤ M + (p.ht + 1); omega, h1.2.2⟩
  | .left p b, g, rd, s, hb, hg, h => by
    obtain ⟨a, ha, h⟩ := bindO_ok h
    have e := fin_ok h
    injection e with e
    subst e
    have h1 := look_dp B hM hB p g _ a hb.1 hg ha
    have h2 := hb.2.1
    exact ⟨by show max a.dp b.dp + 1 ≤ M + (p.ht + 1); omega, h1.2, hb.2.2⟩
  | .right b p, g, rd, s, hb, hg, h => by
    obtain ⟨a, ha, h⟩ := bindO_ok h
    have e := fin_ok h
    injection e with e
    subst e
    have h1 := look_dp B hM hB p g _ a hb.1 hg ha
    have h2 := hb.2.1
    exact ⟨by show max b.dp a.dp + 1 ≤ M + (p.ht + 1); omega, hb.2.2, h1.2⟩
  | .case p q r c, g, rd, s, hb, hg, h => by
    have hc : s = c := by
      obtain ⟨o, _, h⟩ := bindO_ok h
      match o, h with
      | .bin .or a b, h =>
        obtain ⟨x, _, h⟩ := bindO_ok h
        obtain ⟨y, _, h⟩ := bindO_ok h
        have e : (if x = c ∧ y = c then some c else none) = some s := fin_ok h
        by_cases hh : x = c ∧ y = c
        · rw [if_pos hh] at e
          injection e with e
          exact e.symm
        · rw [if_neg hh] at e
          cases e
    subst hc
    have h2 := hb.2.2.2
    exact ⟨by have := h2.1; omega, h2.2⟩
  | .make b p, g, rd, s, hb, hg, h => by
    obtain ⟨a, ha, h⟩ := bindO_ok h
    have e := fin_ok h
    injection e with e
    subst e
    have h2 := hb.2
    have h1 := look_dp B hM hB p (g ++ [b]) _ a hb.1 (fun t ht => by
      rcases List.mem_append.mp ht with z | z
      · exact hg t z
      · rw [List.mem_singleton.mp z]
        exact ⟨by have := h2.1; omega, h2.2⟩) ha
    exact ⟨by have := h2.1; show max b.dp a.dp + 1 ≤ M + (p.ht + 1); omega, h2.2, h1.2⟩
  | .apply p q, g, rd, s, hb, hg, h => by
    obtain ⟨a, ha, h⟩ := bindO_ok h
    obtain ⟨b, _, h⟩ := bindO_ok h
    have e := fin_ok h
    have h1 := look_dp B hM hB p g _ a hb.1 hg ha
    match a, e, h1 with
    | .bin .thn x y, e, h1 =>
      have e' : (if x = b then some y else none) = some s := e
      by_cases hh : x = b
      · rw [if_pos hh] at e'
        injection e' with e'
        subst e'
        have hd : max x.dp y.dp + 1 ≤ M + p.ht := h1.1
        exact ⟨by show y.dp ≤ M + (max p.ht q.ht + 1); omega, h1.2.2⟩
      · rw [if_neg hh] at e'
        cases e'
  | .escape p c, g, rd, s, hb, hg, h => by
    obtain ⟨a, ha, h⟩ := bindO_ok h
    have e := fin_ok h
    match a, e with
    | .nv, e =>
      injection e with e
      subst e
      exact ⟨by have := hb.2.1; show c.dp ≤ M + (p.ht + 1); omega, hb.2.2⟩
/-! ### part by part -/
/-- what is assumed for the part at that place, its fellows ahead shown -/
def moreK (p : Pp) (k : Int) (fs : List Sm) : Option (List Sm) := match p with
  | .make a _ => some [a]
  | .case _ _ _ _ => if k > 1 then match fs with
      | .bin .or x y :: _ => some [if k = 2 then x else y]
      | _ => none
    else some []
  | _ => some []
def joinO (p : Pp) (fs : List Sm) : Option Sm := match p, fs with
  | .case _ _ _ c, [_, x, y] => if x = c ∧ y = c then some c else none
  | .case _ _ _ _, _ => none
  | p, fs => p.rule fs
def lookK (B : List Nat → Option Sm) (g : List Sm) (p : Pp) (rd : List Int) : List (Int × Pp) → List Sm → Out Sm
  | [], fs => fin (joinO p fs) rd
  | kq :: r, fs => match moreK p kq.1 fs with
    | none => .error (.that, rd)
    | some m => bindO (kq.2.look B (g ++ m) (rd ++ [kq.1])) fun s => lookK B g p rd r (fs ++ [s])
theorem look_kids (B : List Nat → Option Sm) (g : List Sm) {p : Pp} (h : p.leaf = false) (rd : List Int) : p.look B g rd = lookK B g p rd p.kids [] := by
  cases p with
  | use k => cases h
  | name n => cases h
  | pair p q =>
    show _ = bindO (p.look B (g ++ []) (rd ++ [1])) fun a => bindO (q.look B (g ++ []) (rd ++ [2])) fun b => fin ((Pp.pair p q).rule [a, b]) rd
    rw [List.append_nil]
    rfl
  | apply p q =>
    show _ = bindO (p.look B (g ++ []) (rd ++ [1])) fun a => bindO (q.look B (g ++ []) (rd ++ [2])) fun b => fin ((Pp.apply p q).rule [a, b]) rd
    rw [List.append_nil]
    rfl
  | first p =>
    show _ = bindO (p.look B (g ++ []) (rd ++ [1])) fun a => fin ((Pp.first p).rule [a]) rd
    rw [List.append_nil]
    rfl
  | second p =>
    show _ = bindO (p.look B (g ++ []) (rd ++ [1])) fun a => fin ((Pp.second p).rule [a]) rd
    rw [List.append_nil]
    rfl
  | left p b =>
    show _ = bindO (p.look B (g ++ []) (rd ++ [1])) fun a => fin ((Pp.left p b).rule [a]) rd
    rw [List.append_nil]
    rfl
  | right b p =>
    show _ = bindO (p.look B (g ++ []) (rd ++ [2])) fun a => fin ((Pp.right b p).rule [a]) rd
    rw [List.append_nil]
    rfl
  | escape p b =>
    show _ = bindO (p.look B (g ++ []) (rd ++ [1])) fun a => fin ((Pp.escape p b).rule [a]) rd
    rw [List.append_nil]
    rfl
  | make b p => rfl
  | case p q r c =>
    show bindO (p.look B g (rd ++ [1])) _ = bindO (p.look B (g ++ []) (rd ++ [1])) _
    rw [List.append_nil]
    congr 1
    funext o
    match o with
    | .lt _ => rfl
    | .nv => rfl
    | .bin .and _ _ => rfl
    | .bin .thn _ _ => rfl
    | .bin .or a b => rfl
/-! ### parts changed -/
theorem kids_lt {p : Pp} {i : Nat} {kq : Int × Pp} (h : p.kids[i]? = some kq) : p.kids.drop i = kq :: p.kids.drop (i + 1) := by
  have hi := (List.getElem?_eq_some_iff.mp h).1
  rw [List.getElem?_eq_getElem hi] at h
  injection h with h
  rw [List.drop_eq_getElem_cons hi, h]
theorem kid_bn {p : Pp} (hb : p.Bn) {k : Int × Pp} (h : k ∈ p.kids) : k.2.Bn := by
  cases p with
  | use _ => cases h
  | name _ => cases h
  | pair p q =>
    simp only [Pp.kids, List.mem_cons, List.not_mem_nil, or_false] at h
    rcases h with rfl | rfl
    · exact hb.1
    · exact hb.2
  | apply p q =>
    simp only [Pp.kids, List.mem_cons, List.not_mem_nil, or_false] at h
    rcases h with rfl | rfl
    · exact hb.1
    · exact hb.2
  | first p => rw [List.mem_singleton.mp h]; exact hb
  | second p => rw [List.mem_singleton.mp h]; exact hb
  | left p b => rw [List.mem_singleton.mp h]; exact hb.1
  | right b p => rw [List.mem_singleton.mp h]; exact hb.1
  | make b p => rw [List.mem_singleton.mp h]; exact hb.1
  | escape p b => rw [List.mem_singleton.mp h]; exact hb.1
  | case p q r c =>
    simp only [Pp.kids, List.mem_cons, List.not_mem_nil, or_false] at h
    rcases h with rfl | rfl | rfl
    · exact hb.1
    · exact hb.2.1
    · exact hb.2.2.1
theorem ne_gC {K : PySem.W.Frag} {mg : Str → Option Value} {x y : Str} {C D : Addr} (h : ∃ C D, mg x = some (.ref C) ∧ mg y = some (.ref D) ∧ PySem.W.exmOne K (.ref C) (.ref D) = some false) (hx : mg x = some (.ref C)) (hy : mg y = some (.ref D)) : PySem.W.exmOne K (.ref C) (.ref D) = some false := by
  obtain ⟨C', D', h1, h2, h3⟩ := h
  rw [hx] at h1
  rw [hy] at h2
  injection h1 with h1
  injection h1 with h1
  injection h2 with h2
  injection h2 with h2
  subst h1
  subst h2
  exact h3
theorem dpAll_txs {K : PySem.W.Frag} {H : Hp} : ∀ ls : List (List Nat), DpAll K H (ls.map fun l => V.str (S l)) (ls.map fun l => PyData.str (S l))
  | [] => .nil
  | l :: r => .cons (.str _) (dpAll_txs r)
theorem lay_txs {ls : List (List Nat)} (h : ∀ l ∈ ls, Ch l) : ∀ d ∈ ls.map (fun l => PyData.str (S l)), d.canLay0 = true := fun d hd => by
  obtain ⟨l, hl, rfl⟩ := List.mem_map.mp hd
  show PyData.canLay0 (.str (S l)) = true
  rw [PyData.canLay0]
  exact (h l hl).ok
def Pp.put : Pp → List Pp → Pp
  | .pair _ _, [p, q] => .pair p q
  | .first _, [p] => .first p
  | .second _, [p] => .second p
  | .left _ b, [p] => .left p b
  | .right b _, [p] => .right b p
  | .case _ _ _ c, [p, q, r] => .case p q r c
  | .make b _, [p] => .make b p
  | .apply _ _, [p, q] => .apply p q
  | .escape _ b, [p] => .escape p b
  | p, _ => p
theorem kid_put {K : PySem.W.Frag} {H : Hp} {v : V} {p : Pp} (hp : IsPp K H v p) : ∃ a xs, v = .ref a ∧ SqT K H a (.str p.wd.s :: xs) ∧ (∀ k ∈ p.kids, ∃ x, atI (.str p.wd.s :: xs) k.1 = some x ∧ IsPp K H x k.2) ∧
    ∀ (H' : Hp) (t : Addr) (zs : List V) (qs : List Pp), TK K H H' → H' t = some (.tup (setAll (.str p.wd.s :: xs) p.wd.pl zs)) → Paired (IsPp K H') zs qs → qs.length = p.kids.length → IsPp K H' (.ref t) (p.put qs) := by
  cases hp with
  | use h => exact ⟨_, _, rfl, h, (fun k hk => absurd hk List.not_mem_nil), fun H' t zs qs s ht pz hl => by
      cases qs with
      | nil =>
        cases pz
        exact .use (.inl (.inl ht))
      | cons _ _ => cases hl⟩
  | name h => exact ⟨_, _, rfl, h, (fun k hk => absurd hk List.not_mem_nil), fun H' t zs qs s ht pz hl => by
      cases qs with
      | nil =>
        cases pz
        exact .name (.inl (.inl ht))
      | cons _ _ => cases hl⟩
  | pair h x y => exact ⟨_, _, rfl, h, (fun k hk => by
      rcases List.mem_cons.mp hk with rfl | hk
      · exact ⟨_, at1, x⟩
      rw [List.mem_singleton.mp hk]
      exact ⟨_, at2, y⟩), fun H' t zs qs s ht pz hl => by
      match qs, zs, pz, hl with
      | [_, _], _, .cons r1 (.cons r2 .nil), _ => exact .pair (.inl (.inl ht)) r1 r2⟩
  | apply h x y => exact ⟨_, _, rfl, h, (fun k hk => by
      rcases List.mem_cons.mp hk with rfl | hk
      · exact ⟨_, at1, x⟩
      rw [List.mem_singleton.mp hk]
      exact ⟨_, at2, y⟩), fun H' t zs qs s ht pz hl => by
      match qs, zs, pz, hl with
      | [_, _], _, .cons r1 (.cons r2 .nil), _ => exact .apply (.inl (.inl ht)) r1 r2⟩
  | first h x => exact ⟨_, _, rfl, h, (fun k hk => by rw [List.mem_singleton.mp hk]; exact ⟨_, at1, x⟩), fun H' t zs qs s ht pz hl => by
      match qs, zs, pz, hl with
      | [_], _, .cons r1 .nil, _ => exact .first (.inl (.inl ht)) r1⟩
  | second h x => exact ⟨_, _, rfl, h, (fun k hk => by rw [List.mem_singleton.mp hk]; exact ⟨_, at1, x⟩), fun H' t zs qs s ht pz hl => by
      match qs, zs, pz, hl with
      | [_], _, .cons r1 .nil, _ => exact .second (.inl (.inl ht)) r1⟩
  | left h x y => exact ⟨_, _, rfl, h, (fun k hk => by rw [List.mem_singleton.mp hk]; exact ⟨_, at1, x⟩), fun H' t zs qs s ht pz hl => by
      match qs, zs, pz, hl with
      | [_], _, .cons r1 .nil, _ => exact .left (.inl (.inl ht)) r1 (y.tk s)⟩
  | right h x y => exact ⟨_, _, rfl, h, (fun k hk => by rw [List.mem_singleton.mp hk]; exact ⟨_, at2, x⟩), fun H' t zs qs s ht pz hl => by
      match qs, zs, pz, hl with
      | [_], _, .cons r1 .nil, _ => exact .right (.inl (.inl ht)) r1 (y.tk s)⟩
  | make h x y => exact ⟨_, _, rfl, h, (fun k hk => by rw [List.mem_singleton.mp hk]; exact ⟨_, at2, x⟩), fun H' t zs qs s ht pz hl => by
      match qs, zs, pz, hl with
      | [_], _, .cons r1 .nil, _ => exact .make (.inl (.inl ht)) r1 (y.tk s)⟩
  | escape h x y => exact ⟨_, _, rfl, h, (fun k hk => by rw [List.mem_singleton.mp hk]; exact ⟨_, at1, x⟩), fun H' t zs qs s ht pz hl => by
      match qs, zs, pz, hl with
      | [_], _, .cons r1 .nil, _ => exact .escape (.inl (.inl ht)) r1 (y.tk s)⟩
  | case h x y z c => exact ⟨_, _, rfl, h, (fun k hk => by
      rcases List.mem_cons.mp hk with rfl | hk
      · exact ⟨_, at1, x⟩
      rcases List.mem_cons.mp hk with rfl | hk
      · exact ⟨_, at2, y⟩
      rw [List.mem_singleton.mp hk]
      exact ⟨_, at3, z⟩), fun H' t zs qs s ht pz hl => by
      match qs, zs, pz, hl with
      | [_, _, _], _, .cons r1 (.cons r2 (.cons r3 .nil)), _ => exact .case (.inl (.inl ht)) r1 r2 r3 (c.tk s)⟩
def PLe (q : Pp) (k : Int × Pp) : Prop := q.ht ≤ k.2.ht ∧ q.wt ≤ k.2.wt ∧ (k.2.Bn → q.Bn)
theorem put_le (p : Pp) (qs : List Pp) (h : Paired PLe qs p.kids) : (p.put qs).ht ≤ p.ht ∧ (p.put qs).wt ≤ p.wt ∧ (p.Bn → (p.put qs).Bn) := by
  cases p with
  | use k => exact ⟨Nat.le_refl _, Nat.le_refl _, id⟩
  | name k => exact ⟨Nat.le_refl _, Nat.le_refl _, id⟩
  | pair p q =>
    match qs, h with
    | [_, _], .cons r1 (.cons r2 .nil) =>
      obtain ⟨a1, a2, a3⟩ := r1
      obtain ⟨b1, b2, b3⟩ := r2
      simp only at a1 a2 a3 b1 b2 b3
      exact ⟨by simp only [Pp.put, Pp.ht]; omega, by simp only [Pp.put, Pp.wt]; omega, fun z => ⟨a3 z.1, b3 z.2⟩⟩
  | apply p q =>
    match qs, h with
    | [_, _], .cons r1 (.cons r2 .nil) =>
      obtain ⟨a1, a2, a3⟩ := r1
      obtain ⟨b1, b2, b3⟩ := r2
      simp only at a1 a2 a3 b1 b2 b3
      exact ⟨by simp only [Pp.put, Pp.ht]; omega, by simp only [Pp.put, Pp.wt]; omega, fun z => ⟨a3 z.1, b3 z.2⟩⟩
  | first p =>
    match qs, h with
    | [_], .cons r1 .nil =>
      obtain ⟨a1, a2, a3⟩ := r1
      simp only at a1 a2 a3
      exact ⟨by simp only [Pp.put, Pp.ht]; omega, by simp only [Pp.put, Pp.wt]; omega, a3⟩
  | second p =>
    match qs, h with
    | [_], .cons r1 .nil =>
      obtain ⟨a1, a2, a3⟩ := r1
      simp only at a1 a2 a3
      exact ⟨by simp only [Pp.put, Pp.ht]; omega, by simp only [Pp.put, Pp.wt]; omega, a3⟩
  | left p b =>
    match qs, h with
    | [_], .cons r1 .nil =>
      obtain ⟨a1, a2, a3⟩ := r1
      simp only at a1 a2 a3
      exact ⟨by simp only [Pp.put, Pp.ht]; omega, by simp only [Pp.put, Pp.wt]; omega, fun z => ⟨a3 z.1, z.2⟩⟩
  | right b p =>
    match qs, h with
    | [_], .cons r1 .nil =>
      obtain ⟨a1, a2, a3⟩ := r1
      simp only at a1 a2 a3
      exact ⟨by simp only [Pp.put, Pp.ht]; omega, by simp only [Pp.put, Pp.wt]; omega, fun z => ⟨a3 z.1, z.2⟩⟩
  | make b p =>
    match qs, h with
    | [_], .cons r1 .nil =>
      obtain ⟨a1, a2, a3⟩ := r1
      simp only at a1 a2 a3
      exact ⟨by simp only [Pp.put, Pp.ht]; omega, by simp only [Pp.put, Pp.wt]; omega, fun z => ⟨a3 z.1, z.2⟩⟩
  | escape p b =>
    match qs, h with
    | [_], .cons r1 .nil =>
      obtain ⟨a1, a2, a3⟩ := r1
      simp only at a1 a2 a3
      exact ⟨by simp only [Pp.put, Pp.ht]; omega, by simp only [Pp.put, Pp.wt]; omega, fun z => ⟨a3 z.1, z.2⟩⟩
  | case p q r c =>
    match qs, h with
    | [_, _, _], .cons r1 (.cons r2 (.cons r3 .nil)) =>
      obtain ⟨a1, a2, a3⟩ := r1
      obtain ⟨b1, b2, b3⟩ := r2
      obtain ⟨c1, c2, c3⟩ := r3
      simp only at a1 a2 a3 b1 b2 b3 c1 c2 c3
      exact ⟨by simp only [Pp.put, Pp.ht]; omega, by simp only [Pp.put, Pp.wt]; omega, fun z => ⟨a3 z.1, b3 z.2.1, c3 z.2.2.1, z.2.2.2⟩⟩
/-! ### one part changed; roads -/
theorem kid_one {K : PySem.W.Frag} {H : Hp} {v : V} {p : Pp} {k : Int × Pp} (hp : IsPp K H v p) (hk : k ∈ p.kids) : ∃ a ys, v = .ref a ∧ SqT K H a ys ∧ ∃ x, atI ys k.1 = some x ∧ IsPp K H x k.2 ∧
    ∀ (H' : Hp) (t : Addr) (z : V) (q' : Pp), TK K H H' → H' t = some (.tup (ys.set k.1.toNat z)) → IsPp K H' z q' → q'.ht ≤ k.2.ht + 1 → q'.wt ≤ k.2.wt + 2 → q'.Bn → p.Bn → ∃ p', IsPp K H' (.ref t) p' ∧ p'.ht ≤ p.ht + 1 ∧ p'.wt ≤ p.wt + 2 ∧ p'.Bn := by
  cases hp with
  | use h => cases hk
  | name h => cases hk
  | @first a x p h i =>
    rw [List.mem_singleton.mp hk]
    exact ⟨_, _, rfl, h, _, at1, i, fun H' t z q' s ht i1 h1 h2 h3 hb => ⟨.first q', .first (.inl (.inl ht)) i1, by simp only [Pp.ht]; simp only at h1; omega, by simp only [Pp.wt]; simp only at h2; omega, h3⟩⟩
  | @second a x p h i =>
    rw [List.mem_singleton.mp hk]
    exact ⟨_, _, rfl, h, _, at1, i, fun H' t z q' s ht i1 h1 h2 h3 hb => ⟨.second q', .second (.inl (.inl ht)) i1, by simp only [Pp.ht]; simp only at h1; omega, by simp only [Pp.wt]; simp only at h2; omega, h3⟩⟩
  | @left a x y p b h i j =>
    rw [List.mem_singleton.mp hk]
    exact ⟨_, _, rfl, h, _, at1, i, fun H' t z q' s ht i1 h1 h2 h3 hb => ⟨.left q' b, .left (.inl (.inl ht)) i1 (j.tk s), by simp only [Pp.ht]; simp only at h1; omega, by simp only [Pp.wt]; simp only at h2; omega, ⟨h3, hb.2⟩⟩⟩
  | @right a x y p b h i j =>
    rw [List.mem_singleton.mp hk]
    exact ⟨_, _, rfl, h, _, at2, i, fun H' t z q' s ht i1 h1 h2 h3 hb => ⟨.right b q', .right (.inl (.inl ht)) i1 (j.tk s), by simp only [Pp.ht]; simp only at h1; omega, by simp only [Pp.wt]; simp only at h2; omega, ⟨h3, hb.2⟩⟩⟩
  | @make a x y p b h i j =>
    rw [List.mem_singleton.mp hk]
    exact ⟨_, _, rfl, h, _, at2, i, fun H' t z q' s ht i1 h1 h2 h3 hb => ⟨.make b q', .make (.inl (.inl ht)) i1 (j.tk s), by simp only [Pp.ht]; simp only at h1; omega, by simp only [Pp.wt]; simp only at h2; omega, ⟨h3, hb.2⟩⟩⟩
  | @escape a x y p b h i j =>
    rw [List.mem_singleton.mp hk]
    exact ⟨_, _, rfl, h, _, at1, i, fun H' t z q' s ht i1 h1 h2 h3 hb => ⟨.escape q' b, .escape (.inl (.inl ht)) i1 (j.tk s), by simp only [Pp.ht]; simp only at h1; omega, by simp only [Pp.wt]; simp only at h2; omega, ⟨h3, hb.2⟩⟩⟩
  | @pair a x y p q h i j =>
    rcases List.mem_cons.mp hk with rfl | hk
    · exact ⟨_, _, rfl, h, _, at1, i, fun H' t z q' s ht i1 h1 h2 h3 hb => ⟨.pair q' q, .pair (.inl (.inl ht)) i1 (j.tk s), by simp only [Pp.ht]; simp only at h1; omega, by simp only [Pp.wt]; simp only at h2; omega, ⟨h3, hb.2⟩⟩⟩
    rw [List.mem_singleton.mp hk]
    exact ⟨_, _, rfl, h, _, at2, j, fun H' t z q' s ht i1 h1 h2 h3 hb => ⟨.pair p q', .pair (.inl (.inl ht)) (i.tk s) i1, by simp only [Pp.ht]; simp only at h1; omega, by simp only [Pp.wt]; simp only at h2; omega, ⟨hb.1, h3⟩⟩⟩
  | @apply a x y p q h i j =>
    rcases List.mem_cons.mp hk with rfl | hk
    · exact ⟨_, _, rfl, h, _, at1, i, fun H' t z q' s ht i1 h1 h2 h3 hb => ⟨.apply q' q, .apply (.inl (.inl ht)) i1 (j.tk s), by simp only [Pp.ht]; simp only at h1; omega, by simp only [Pp.wt]; simp only at h2; omega, ⟨h3, hb.2⟩⟩⟩
    rw [List.mem_singleton.mp hk]
    exact ⟨_, _, rfl, h, _, at2, j, fun H' t z q' s ht i1 h1 h2 h3 hb => ⟨.apply p q', .apply (.inl (.inl ht)) (i.tk s) i1, by simp only [Pp.ht]; simp only at h1; omega, by simp only [Pp.wt]; simp only at h2; omega, ⟨hb.1, h3⟩⟩⟩
  | @case a x y z u p q r c h i j l m =>
    rcases List.mem_cons.mp hk with rfl | hk
    · exact ⟨_, _, rfl, h, _, at1, i, fun H' t z q' s ht i1 h1 h2 h3 hb => ⟨.case q' q r c, .case (.inl (.inl ht)) i1 (j.tk s) (l.tk s) (m.tk s), by simp only [Pp.ht]; simp only at h1; omega, by simp only [Pp.wt]; simp only at h2; omega, ⟨h3, hb.2.1, hb.2.2.1, hb.2.2.2⟩⟩⟩
    rcases List.mem_cons.mp hk with rfl | hk
    · exact ⟨_, _, rfl, h, _, at2, j, fun H' t z q' s ht i1 h1 h2 h3 hb => ⟨.case p q' r c, .case (.inl (.inl ht)) (i.tk s) i1 (l.tk s) (m.tk s), by simp only [Pp.ht]; simp only at h1; omega, by simp only [Pp.wt]; simp only at h2; omega, ⟨hb.1, h3, hb.2.2.1, hb.2.2.2⟩⟩⟩
    rw [List.mem_singleton.mp hk]
    exact ⟨_, _, rfl, h, _, at3, l, fun H' t z q' s ht i1 h1 h2 h3 hb => ⟨.case p q q' c, .case (.inl (.inl ht)) (i.tk s) (j.tk s) i1 (m.tk s), by simp only [Pp.ht]; simp only at h1; omega, by simp only [Pp.wt]; simp only at h2; omega, ⟨hb.1, hb.2.1, h3, hb.2.2.2⟩⟩⟩
/-- a road within the paper -/
inductive Wk : Pp → List Int → Prop where
  | nil (p : Pp) : Wk p []
  | cons {p : Pp} {k : Int × Pp} {r : List Int} : k ∈ p.kids → Wk k.2 r → Wk p (k.1 :: r)
theorem Wk.len {p : Pp} {r : List Int} (h : Wk p r) : r.length ≤ p.ht := by
  induction h with
  | nil p => exact Nat.zero_le _
  | cons hk _ ih =>
    have := kid_ht hk
    rw [List.length_cons]
    omega
theorem Wk.inv {p : Pp} {i : Int} {r : List Int} (h : Wk p (i :: r)) : ∃ k : Int × Pp, k ∈ p.kids ∧ k.1 = i ∧ Wk k.2 r := by
  cases h with
  | cons hk h => exact ⟨_, hk, rfl, h⟩
def kw (l : List (Int × Pp)) : Nat := (l.map fun k => k.2.wt).sum
theorem kids_kw (p : Pp) : 1 + kw p.kids ≤ p.wt := by
  cases p <;> simp [Pp.kids, kw, Pp.wt] <;> omega
end Ob

/-! ObN: defs called by keywords alone. -/
namespace Ob
open PySem PySem.Spec PyProof.Rows L2
section
variable {X : Cx} {CX : CXT} {k : Nat} {f : Addr} {fd : FuncData} {ps ks : List Str} {sp : Sp} {E : XK} {x : Str} {p pos : Pos} {kws : List Keyword} {tk : TA} {g : List Value → List Value → List Value} {gV : List V → List V → List V}
/-- f(k = v, ..) -/
theorem pe_callK0 (F : FnOk X.prog X.w X.K X.mg X.base CX k f fd ps sp) (hr : Room k X.A) (hg : Gl X x) (hm : X.mg x = some (.ref f)) (hk : PySem.W.keepIn X.K (.ref f) = true) (hb : KBinds X.K fd ps ks g gV) (hx : Passes CX X E)
    (hkw : PK X kws tk) (hall : (backToKw pos (keywordEach kws X.env)).all (·.1.isSome) = true) (hks : (backToKw pos (keywordEach kws X.env)).filterMap (·.1) = ks)
    (hdb : (x == ("__debug__" : Str)) = false) (hpl : ((backTo pos (starEach [] X.env)).any (·.1) || (backToKw pos (keywordEach kws X.env)).any (·.1.isNone)) = false) :
    PE X (.Call (.Name x p) [] kws pos) (tCallK sp gV E tNil tk) := by
  refine ⟨fun pins s σ H Q I h => ?_⟩
  refine wpAny_Call_Name_kw (ld_glob I hg hm ?_ hdb)
  refine PySem.W.callWith_KW0 (h₀ := X.base) I.ok.mod.kin hk hall ?_ hpl
  refine thn (hkw.run pos pins s σ H _ I h) fun ws s2 ⟨zs, H2, I2, rz, q2⟩ => ⟨I2.kIn, ?_⟩
  rw [hks]
  exact run_fnk (us := []) (vs := []) F hr hb hx I2 .nil rz q2
end
section
variable (P : Program) (w : World) (K : PySem.W.Frag) (mg : Str → Option Value) (base : Heap)
/-- a def of the text, that is called by keywords too -/
structure DfK (x : Str) (st : Stmt) (ps ks : List Str) (gV : List V → List V → List V) : Prop where
  ex : ∃ (f : Addr) (fd : FuncData) (g : List Value → List Value → List Value), Fun K x x st f fd ∧ mg x = some (.ref f) ∧ Binds K fd ps [] ∧ KBinds K fd ps ks g gV
structure ClK (k : Nat) (x : Str) (sp : Sp) (ks : List Str) (gV : List V → List V → List V) : Prop where
  ex : ∃ (f : Addr) (fd : FuncData) (ps : List Str) (g : List Value → List Value → List Value), FnOk P w K mg base CX0 k f fd ps sp ∧ mg x = some (.ref f) ∧ PySem.W.keepIn K (.ref f) = true ∧ Binds K fd ps [] ∧ KBinds K fd ps ks g gV
end
section
variable {P : Program} {w : World} {K : PySem.W.Frag} {mg : Str → Option Value} {base : Heap}
theorem DfK.ok {x : Str} {st : Stmt} {ps N ks : List Str} {gV : List V → List V → List V} {k : Nat} {sp : Sp} (D : DfK K mg x st ps ks gV) (S : FnScope N ps (defScope st)) (len : ∀ vs H Q E, sp vs H Q E → vs.length = ps.length)
    (hbody : ∀ (f : Addr) (cdv : Value) (A : Around) (outer : List Env) (s : Shared) (H : Hp) (vs : List V) (Q : VK) (E : XK), Room k (A.deeper (envOfC x (defScope st) s.heap.objs.size f cdv)) → sp vs H Q E →
      ∃ t, PSs (cxOf CX0 P w K mg base N x (defScope st) f cdv A outer s H E).nox (defBody st) t ∧ t { nx := fun _ H' => Q .non H', rt := Q } (start N vs) H) : ClK P w K mg base (k + 1) x sp ks gV := by
  obtain ⟨f, fd, g, F, m, b, kb⟩ := D.ex
  exact ⟨f, fd, ps, g, F.ok S len (hbody f), m, F.kp, b, kb⟩
theorem ClK.cl {k : Nat} {x : Str} {sp : Sp} {ks : List Str} {gV : List V → List V → List V} (c : ClK P w K mg base k x sp ks gV) : Cl P w K mg base k x sp := by
  obtain ⟨f, fd, ps, g, F, m, kp, b, _⟩ := c.ex
  exact ⟨f, fd, ps, F, m, kp, b⟩
end
section
variable {X : Cx}
theorem pe_kK0 {k j : Nat} {x : Str} {sp : Sp} {ks : List Str} {gV : List V → List V → List V} {p pos : Pos} {kws : List Keyword} {tk : TA} (c : ClK X.prog X.w X.K X.mg X.base k x sp ks gV) (hr : Room j X.A) (hk : k ≤ j) (hg : Gl X x) (hkw : PK X kws tk)
    (hall : (backToKw pos (keywordEach kws X.env)).all (·.1.isSome) = true := by rfl) (hks : (backToKw pos (keywordEach kws X.env)).filterMap (·.1) = ks := by rfl)
    (hdb : (x == ("__debug__" : Str)) = false := by decide) (hpl : ((backTo pos (starEach [] X.env)).any (·.1) || (backToKw pos (keywordEach kws X.env)).any (·.1.isNone)) = false := by rfl) : PE X (.Call (.Name x p) [] kws pos) (tCallK sp gV E0 tNil tk) := by
  obtain ⟨f, fd, ps, g, F, m, kp, b, kb⟩ := c.ex
  exact pe_callK0 F (hr.mono hk) hg m kp kb pass0 hkw hall hks hdb hpl
end
/-! ### keywords in the parameters' order -/
def kwId {α : Type} (us ws : List α) : List α := match us with
  | [] => ws
  | _ :: _ => []
def kwSwap {α : Type} (us ws : List α) : List α := match us, ws with
  | [], [a, b] => [b, a]
  | _, _ => []
theorem kwId_rel {vs : List V} {us : List Value} {zs : List V} {ws : List Value} (h : Vals vs us) (g : Vals zs ws) : Vals (kwId vs zs) (kwId us ws) := by
  cases h with
  | nil => exact g
  | cons _ _ => exact .nil
end Ob

/-! ObAe: d.get(k, x), d a dict of the module with texts as keys. -/
namespace Ob
open PySem PySem.Spec PyProof.Rows L2
/-- what the module's dict has for this key, or nothing -/
def KGet (K : PySem.W.Frag) (w : World) (p : Addr) (k : Str) (o : Option V) : Prop :=
  ∃ es n u, K.lookup p = some ⟨.type "dict", none, .dict es n, #[]⟩ ∧ PySem.W.KeysLit w.params es.toList ∧ (p == sysModules) = false ∧ PySem.W.nsIn K p k = some u ∧ (match u, o with
    | some u, some v => RelV v u
    | none, none => True
    | _, _ => False)
def KIsD (K : PySem.W.Frag) (w : World) (p : Addr) : Prop := ∃ es n, K.lookup p = some ⟨.type "dict", none, .dict es n, #[]⟩ ∧ PySem.W.KeysLit w.params es.toList
def tKGet2 (K : PySem.W.Frag) (w : World) (td ty tx : TE) : TE := fun σ H Q => td σ H fun x H1 => ∃ p, x = .ref p ∧ KIsD K w p ∧ ty σ H1 fun y H2 => tx σ H2 fun z H3 => ∃ k o, y = .str k ∧ KGet K w p k o ∧ Q (o.getD z) H3
theorem pe_kget2 {X : Cx} {o e f : Expr} {apos cpos : Pos} {td ty tx : TE} (ho : PE X o td) (he : PE X e ty) (hf : PE X f tx) (m : M2 X o "get" apos e f cpos) : PE X (.Call (.Attribute o "get" apos) [e, f] [] cpos) (tKGet2 X.K X.w td ty tx) := by
  refine ⟨fun pins s τ G Q I h => ?_⟩
  refine wpAny_Call_method m.base m.few m.line PySem.F.plainAttrs_dict PySem.F.slot_dict_get PySem.F.type_dict_get (thn (ho.run pins s τ G _ I h) fun u s1 ⟨x, G1, I1, rx, p, ex, ⟨es0, n0, hl0, hk0⟩, q1⟩ => ?_)
  subst ex
  obtain rfl : u = Value.ref p := rx
  have hm0 := PySem.W.mapOf_K (prog := X.prog) (w := X.w) I1.kIn hl0 hk0
  refine ⟨hm0.typeIs, fun b q => ?_, ?_⟩
  · cases q
    exact ⟨_, I1.kIn _ _ hl0, rfl⟩
  rw [m.trees]
  refine Calls.callWith_builtin rfl (Calls.evalArgs_plain (Calls.spliced_cons (thn (he.run pins s1 τ G1 _ I1 q1) fun kv s2 ⟨y, G2, I2, ry, q2⟩ =>
    Calls.spliced_cons (thn (hf.run pins s2 τ G2 _ I2 q2) fun fv s3 ⟨z, G3, I3, rz, k, ov, ey, ⟨es, n, u, hl, hk, low, hn, hu⟩, q3⟩ => Calls.spliced_nil ?_))))
  subst ey
  obtain ⟨t, rfl⟩ := (show ∃ t, kv = Value.str k t from ry)
  have hm := PySem.W.mapOf_K (prog := X.prog) (w := X.w) I3.kIn hl hk
  refine call_meetsIn PySem.F.slot_dict_get hm.typeIs PySem.F.entry_dict_get (PySem.F.args_dict_get_3 _ _ _) (meets_dict_get_default (strKind X.prog X.w) p (strKind_is X.prog X.w k t) low fv) ⟨_, hm, _, G3, I3.tok _, ?_, q3⟩
  rw [PySem.W.find_K hl hn]
  match u, ov, hu with
  | some u, some v, h => exact h
  | none, none, _ => exact rz
/-! ### t[::-1], t a tuple -/
theorem fm_congr {α β : Type} {f g : α → Option β} : ∀ {l : List α}, (∀ x ∈ l, f x = g x) → l.filterMap f = l.filterMap g
  | [], _ => rfl
  | x :: r, h => by
    rw [List.filterMap_cons, List.filterMap_cons, h x List.mem_cons_self, fm_congr fun y hy => h y (List.mem_cons_of_mem _ hy)]
theorem adj_rev (n : Nat) : Builtin.Slice.sliceAdjust none none (-1) (n : Int) = ((n : Int) - 1, -1) := by
  unfold Builtin.Slice.sliceAdjust
  simp
theorem places_rev (n : Nat) : Builtin.Slice.slicePlaces ((n : Int) - 1) (-1) (-1) = n := by
  unfold Builtin.Slice.slicePlaces
  simp
  try omega
theorem pick_rev (xs : Array Value) : ((List.range xs.size).filterMap fun (m : Nat) => xs[(((xs.size : Nat) : Int) - 1 + (m : Int) * (-1)).toNat]?).toArray = xs.toList.reverse.toArray := by
  have h := PySem.W.krv_pick xs
  rw [← h]
  unfold slicePick
  rw [PySem.W.krv_bounds]
  show _ = ((sliceRange ((xs.size : Int) - 1) (-1) (-1)).filterMap (xs[·]?)).toArray
  rw [PySem.W.krv_sliceRange, List.filterMap_map]
  congr 1
  refine fm_congr ?_
  intro m hm
  have := List.mem_range.mp hm
  show xs[_]? = xs[xs.size - 1 - m]?
  congr 1
  omega
section
variable {prog : Program} {w : World} {A : Around} {E : Value → Shared → Prop} {s : Shared}
theorem applied_rev {sl : Addr} {vl vu vs : Value} {n : Nat} {Q : Int × Int × Nat → Shared → Prop} (hs : s.heap.IsSliceOf sl vl vu vs) (pl : IsPart vl none) (pu : IsPart vu none) (ps : IsPart vs (some (-1)))
    (h : Q ((n : Int) - 1, -1, n) s) : wpAny (model prog w) A (Builtin.Slice.sliceApplied (.ref sl) (pure (n : Int))) Q E s := by
  obtain ⟨os, hos, hcs, hds⟩ := id hs
  unfold Builtin.Slice.sliceApplied Builtin.Slice.sliceFields
  refine wpAny_bind (wpAny_bind (wpAny_field hos hds (x := vl) rfl (wpAny_bind (wpAny_field hos hds (x := vu) rfl (wpAny_bind (wpAny_field hos hds (x := vs) rfl (wpAny_pure ?_)))))))
  refine wpAny_bind (HT.slicePart_ ps ?_)
  show wpAny (model prog w) _ (if ((-1 : Int) == 0) = true then _ else _) _ _ s
  rw [if_neg (by decide)]
  refine wpAny_bind (HT.slicePart_ pl (wpAny_bind (HT.slicePart_ pu (wpAny_bind (wpAny_pure ?_)))))
  show wpAny (model prog w) _ (match Builtin.Slice.sliceAdjust none none (-1) (n : Int) with | (lo, hi) => pure (lo, (-1 : Int), Builtin.Slice.slicePlaces lo hi (-1))) _ _ s
  rw [adj_rev n]
  show wpAny (model prog w) _ (pure ((n : Int) - 1, (-1 : Int), Builtin.Slice.slicePlaces ((n : Int) - 1) (-1) (-1))) _ _ s
  rw [places_rev]
  exact wpAny_pure h
theorem get_rev {t sl : Addr} {items : Array Value} {vl vu vs : Value} {Q : Value → Shared → Prop} (ht : IsTup s.heap t items) (hs : s.heap.IsSliceOf sl vl vu vs) (pl : IsPart vl none) (pu : IsPart vu none) (ps : IsPart vs (some (-1)))
    (h : Q (.ref s.heap.objs.size) { s with heap := s.heap.push { cls := .type "tuple", data := .seq items.toList.reverse.toArray } }) (hz : items.size ≤ sizeLine) : wpAny (model prog w) A (getItem (.ref t) (.ref sl)) Q E s := by
  have few : sizeOk (.seq items.toList.reverse.toArray) := by
    show items.toList.reverse.toArray.size ≤ sizeLine
    rw [List.size_toArray, List.length_reverse, Array.length_toList]
    exact hz
  obtain ⟨os, hos, hcs, hds⟩ := id hs
  have hTs : s.TypeIs (.ref sl) "slice" := ⟨os, hos, hcs⟩
  unfold getItem
  try with_reducible refine wpAny_holding ?_
  first | refine wpAny_bind (wpAny_pure ?_) | skip
  refine wpAny_bind (wpAny_sequenceKey ht.typeIs (by decide) ?_)
  refine wpAny_bind (wpAny_callSpecial?_slot (name := Str.ofString "__getitem__") ht.typeIs PyProof.Rows.slot_tuple_getitem (wpAny_call_entry PyProof.Rows.slot_tuple_getitem ht.typeIs entry_tuple_getitem ?_ (args_tuple_getitem _ _)))
  show wpAny (model prog w) _ (Builtin.Tuple.tupleItemsOf (.ref t) >>= _) _ _ s
  refine wpAny_bind (tupleItemsOf_ ht ?_)
  refine wpAny_bind (wpAny_typeOf hTs ?_)
  rw [if_pos (by decide)]
  refine wpAny_bind (applied_rev (n := items.size) hs pl pu ps ?_)
  show wpAny (model prog w) _ (if ((((items.size : Nat) : Int) - 1) == 0 && (-1 : Int) == 1 && items.size == items.size) = true then _ else _) _ _ s
  rw [if_neg (by simp), pick_rev]
  first
    | exact wpAny_bind (m := Builtin.Tuple.tupleExact _) (wpAny_newObj_type (wpAny_pure ⟨_, rfl, wpAny_pure h⟩) few)
    | exact wpAny_bind (m := Builtin.Tuple.tupleExact _) (wpAny_newObj_type (wpAny_bind (wpAny_pure (wpAny_pure ⟨_, rfl, wpAny_pure h⟩))) few)
    | exact wpAny_bind (wpAny_bind (m := Builtin.Tuple.tupleExact _) (wpAny_newObj_type (wpAny_pure (wpAny_pure ⟨_, rfl, wpAny_pure h⟩)) few))
    | exact wpAny_bind (wpAny_bind (m := Builtin.Tuple.tupleExact _) (wpAny_newObj_type (wpAny_pure ⟨_, rfl, wpAny_pure h⟩) few))
end
/-- t[::-1], t a tuple -/
def tRevT (K : PySem.W.Frag) (te : TE) : TE := fun σ H Q => te σ H fun x H1 => ∃ a xs, x = .ref a ∧ SqT K H1 a xs ∧ ∀ p, H1 p = none → Q (.ref p) (upd H1 p (.tup xs.reverse))
theorem pe_revT {X : Cx} {e : Expr} {te : TE} {k : Nat} {p1 p2 p3 pos : Pos} (he : PE X e te) : PE X (.Subscript e (.Slice none none (some (.UnaryOp .USub (.Constant (.int 1) k p1) p2)) p3) pos) (tRevT X.K te) := by
  refine ⟨fun pins s τ G Q I h => ?_⟩
  refine Subscript_ (thn (he.run pins s τ G _ I h) fun v s1 ⟨x, G1, I1, r1, q1⟩ => ?_)
  obtain ⟨a, xs, ex, hx, q⟩ := q1
  subst ex
  obtain rfl : v = Value.ref a := r1
  have hst : PO X (some (.UnaryOp .USub (.Constant (.int 1) k p1) p2)) (tPart (tUn (rU fun i => .int (-i)) (tC (.int 1)))) := po_some (pe_un un_neg pe_int)
  refine wpAny_Slice (thn (po_none.run pins s1 τ G1 (fun o G2 => o = none ∧ G2 = G1) I1 ⟨rfl, rfl⟩) fun vl s2 ⟨l, G2, I2, pl, el, e2⟩ => ?_)
  subst el e2
  refine thn (po_none.run pins s2 τ G2 (fun o G3 => o = none ∧ G3 = G2) I2 ⟨rfl, rfl⟩) fun vu s3 ⟨u, G3, I3, pu, eu, e3⟩ => ?_
  subst eu e3
  refine thn (hst.run pins s3 τ G3 (fun o G4 => o = some (-1) ∧ G4 = G3) I3 ⟨1, rfl, -1, rfl, rfl, rfl⟩) fun vs s4 ⟨o, G4, I4, ps, eo, e4⟩ => ?_
  subst eo e4
  have I5 : Inv X pins τ G4 { s4 with heap := s4.heap.push { cls := .type "slice", data := .fields #[vl, vu, vs] } } := I4.kept (t' := s4.toks) fun b ob q => Heap.get?_push_of_some _ q
  obtain ⟨its, r, ht, hz⟩ := I5.tuple hx
  show wpAny (model X.prog X.w) X.A (subscriptTail e (.Slice none none (some (.UnaryOp .USub (.Constant (.int 1) k p1) p2)) p3) (.ref a) (.ref s4.heap.objs.size)) (EP X pins τ Q) X.xe { s4 with heap := s4.heap.push { cls := .type "slice", data := .fields #[vl, vu, vs] } }
  refine tail_any (ops := [.ref a, .ref s4.heap.objs.size]) ht.typeIs (PyProof.Rows.slot_tuple_getitem.lookup) ?_ (by with_unfolding_all rfl)
  refine get_rev ht (Heap.IsSliceOf.new _ vl vu vs) pl pu ps ?_ (by rw [List.size_toArray, ← r.length]; exact hz)
  refine ⟨.ref _, _, I5.laid (t' := s4.toks) (o := .tup xs.reverse) (fun b ob q => Heap.get?_push_of_some _ q) (Nat.le_refl _) ?_, rfl, q _ (I5.hok.fresh (Nat.le_refl _))⟩
  rw [List.toList_toArray]
  exact ⟨by rw [List.length_reverse]; exact hz, _, r.reverse, IsTup.new _ _⟩
end Ob

/-! ObAf: a paper and all within it, each with how many are assumed round it. -/
namespace Ob
open PySem PySem.Spec PyProof.Rows L2
/-- what ASSUMES has -/
def AsmK (K : PySem.W.Frag) (w : World) (a : Addr) : Prop := KIsD K w a ∧ (∃ q, KGet K w a PW.case.s (some (.ref q)) ∧ KT K q [.int 2, .int 3]) ∧ (∃ q, KGet K w a PW.make.s (some (.ref q)) ∧ KT K q [.int 2]) ∧ ∀ wd : PW, wd ≠ .case → wd ≠ .make → KGet K w a wd.s none
def asmL : PW → List Int
  | .case => [2, 3]
  | .make => [2]
  | _ => []
/-- what is read where one asks it -/
theorem AsmK.get {K : PySem.W.Frag} {w : World} {a : Addr} (h : AsmK K w a) (wd : PW) : ∃ o, KGet K w a wd.s o ∧ ∀ (H : Hp) (u : Addr), H u = some (.tup []) → ∃ q, o.getD (.ref u) = .ref q ∧ SqT K H q ((asmL wd).map V.int) := by
  obtain ⟨_, ⟨qc, c1, c2⟩, ⟨qm, m1, m2⟩, no⟩ := h
  by_cases hc : wd = .case
  · subst hc
    exact ⟨_, c1, fun H u _ => ⟨qc, rfl, c2.sq⟩⟩
  by_cases hm : wd = .make
  · subst hm
    exact ⟨_, m1, fun H u _ => ⟨qm, rfl, m2.sq⟩⟩
  refine ⟨none, no wd hc hm, fun H u hu => ⟨u, rfl, .inl (.inl ?_)⟩⟩
  have e : asmL wd = [] := by cases wd <;> first | rfl | exact absurd rfl hc | exact absurd rfl hm
  rw [e]
  exact hu
theorem inV_z (x : Int) (ks : List Int) : inV (.int x) (ks.map V.int) = decide (x ∈ ks) := by
  unfold inV
  rw [List.any_map]
  induction ks with
  | nil => rfl
  | cons k r ih =>
    rw [List.any_cons, ih]
    have e : ((fun y => eqV y (V.int x)) ∘ V.int) k = decide (k = x) := by
      show (k == x) = _
      by_cases e : k = x
      · subst e
        simp
      · rw [decide_eq_false e]
        simp
        omega
    rw [e]
    by_cases h : k = x
    · subst h
      simp
    · have h' : ¬ x = k := fun z => h z.symm
      simp [h, h']
theorem flat_z : ∀ ks : List Int, (ks.map V.int).all flatV = true
  | [] => rfl
  | k :: r => by
    rw [List.map_cons, List.all_cons, flat_z r]
    rfl
/-- how many are assumed more at that place -/
def Pp.inc (p : Pp) (i : Int) : Nat := if i ∈ asmL p.wd then 1 else 0
/-- the paper and all within it, each with how many are assumed round it -/
def Pp.lvl : Pp → Nat → List (Pp × Nat)
  | .use k, m => [(.use k, m)]
  | .name n, m => [(.name n, m)]
  | .pair p q, m => (.pair p q, m) :: (p.lvl m ++ q.lvl m)
  | .first p, m => (.first p, m) :: p.lvl m
  | .second p, m => (.second p, m) :: p.lvl m
  | .left p b, m => (.left p b, m) :: p.lvl m
  | .right b p, m => (.right b p, m) :: p.lvl m
  | .case p q r c, m => (.case p q r c, m) :: (p.lvl m ++ (q.lvl (m + 1) ++ r.lvl (m + 1)))
  | .make b p, m => (.make b p, m) :: p.lvl (m + 1)
  | .apply p q, m => (.apply p q, m) :: (p.lvl m ++ q.lvl m)
  | .escape p b, m => (.escape p b, m) :: p.lvl m
theorem lvl_kids (p : Pp) (m : Nat) : p.lvl m = (p, m) :: (p.kids.map fun k => (k.2, m + p.inc k.1)).flatMap fun x => x.1.lvl x.2 := by
  cases p <;> simp [Pp.lvl, Pp.kids, Pp.inc, Pp.wd, asmL]
theorem lvl_len : ∀ (p : Pp) (m : Nat), 1 ≤ (p.lvl m).length ∧ (p.lvl m).length ≤ p.wt
  | .use k, m => by simp [Pp.lvl, Pp.wt]
  | .name k, m => by simp [Pp.lvl, Pp.wt]
  | .pair p q, m => by have h := lvl_len p m; have h2 := lvl_len q m; simp [Pp.lvl, Pp.wt]; omega
  | .first p, m => by have h := lvl_len p m; simp [Pp.lvl, Pp.wt]; omega
  | .second p, m => by have h := lvl_len p m; simp [Pp.lvl, Pp.wt]; omega
  | .left p _, m => by have h := lvl_len p m; simp [Pp.lvl, Pp.wt]; omega
  | .right _ p, m => by have h := lvl_len p m; simp [Pp.lvl, Pp.wt]; omega
  | .case p q r _, m => by have h := lvl_len p m; have h2 := lvl_len q (m + 1); have h3 := lvl_len r (m + 1); simp [Pp.lvl, Pp.wt]; omega
  | .make _ p, m => by have h := lvl_len p (m + 1); simp [Pp.lvl, Pp.wt]; omega
  | .apply p q, m => by have h := lvl_len p m; have h2 := lvl_len q m; simp [Pp.lvl, Pp.wt]; omega
  | .escape p _, m => by have h := lvl_len p m; simp [Pp.lvl, Pp.wt]; omega
/-- a paper and a number, as a tuple -/
def LvV (K : PySem.W.Frag) (H H3 : Hp) (x : V) (q : Pp × Nat) : Prop := ∃ a y, x = .ref a ∧ SqT K H3 a [y, .int (q.2 : Nat)] ∧ IsPp K H y q.1
theorem LvV.tk {K : PySem.W.Frag} {H H3 H4 : Hp} {x : V} {q : Pp × Nat} (k : TK K H3 H4) (h : LvV K H H3 x q) : LvV K H H4 x q := by
  obtain ⟨a, y, e, t, i⟩ := h
  exact ⟨a, y, e, k _ _ t, i⟩
def lws (st : List (Pp × Nat)) : Nat := (st.map fun x => x.1.wt).sum
theorem lws_app (a b : List (Pp × Nat)) : lws (a ++ b) = lws a + lws b := by
  unfold lws
  rw [List.map_append, List.sum_append]
theorem lws_kids (p : Pp) (m : Nat) : lws (p.kids.map fun k => (k.2, m + p.inc k.1)) + 1 ≤ p.wt := by
  have h := kids_kw p
  unfold kw at h
  unfold lws
  rw [List.map_map]
  show (p.kids.map fun k => k.2.wt).sum + 1 ≤ p.wt
  omega
theorem lws_len : ∀ st : List (Pp × Nat), st.length ≤ (st.flatMap fun x => x.1.lvl x.2).length
  | [] => Nat.le_refl _
  | x :: r => by
    have := (lvl_len x.1 x.2).1
    have := lws_len r
    rw [List.flatMap_cons, List.length_append, List.length_cons]
    omega
/-! ### from the end of the row of papers -/
def pre (p : Pp) : List Pp := (p.lvl 0).map (·.1)
theorem lvl_fst : ∀ (p : Pp) (m : Nat), (p.lvl m).map (·.1) = pre p
  | .use _, m => rfl
  | .name _, m => rfl
  | .pair p q, m => by unfold pre; simp only [Pp.lvl, List.map_cons, List.map_append]; rw [lvl_fst p m, lvl_fst q m, lvl_fst p 0, lvl_fst q 0]
  | .first p, m => by unfold pre; simp only [Pp.lvl, List.map_cons]; rw [lvl_fst p m, lvl_fst p 0]
  | .second p, m => by unfold pre; simp only [Pp.lvl, List.map_cons]; rw [lvl_fst p m, lvl_fst p 0]
  | .left p _, m => by unfold pre; simp only [Pp.lvl, List.map_cons]; rw [lvl_fst p m, lvl_fst p 0]
  | .right _ p, m => by unfold pre; simp only [Pp.lvl, List.map_cons]; rw [lvl_fst p m, lvl_fst p 0]
  | .case p q r _, m => by unfold pre; simp only [Pp.lvl, List.map_cons, List.map_append]; rw [lvl_fst p m, lvl_fst q (m + 1), lvl_fst r (m + 1), lvl_fst p 0, lvl_fst q (0 + 1), lvl_fst r (0 + 1)]
  | .make _ p, m => by unfold pre; simp only [Pp.lvl, List.map_cons]; rw [lvl_fst p (m + 1), lvl_fst p (0 + 1)]
  | .apply p q, m => by unfold pre; simp only [Pp.lvl, List.map_cons, List.map_append]; rw [lvl_fst p m, lvl_fst q m, lvl_fst p 0, lvl_fst q 0]
  | .escape p _, m => by unfold pre; simp only [Pp.lvl, List.map_cons]; rw [lvl_fst p m, lvl_fst p 0]
theorem pre_kids (p : Pp) : pre p = p :: (p.kids.map (·.2)).flatMap pre := by
  unfold pre
  rw [lvl_kids, List.map_cons, List.map_flatMap, List.flatMap_map, List.flatMap_map]
  congr 1
  congr 1
  funext k
  exact lvl_fst k.2 _
/-- the trees that are whole behind a place of the row, and behind the next one -/
def stp : List Pp → List Pp
  | [] => []
  | p :: F => p.kids.map (·.2) ++ F
def fo (p : Pp) : Nat → List Pp
  | 0 => [p]
  | j + 1 => stp (fo p j)
theorem flat_drop : ∀ F : List Pp, (F.flatMap pre).drop 1 = (stp F).flatMap pre
  | [] => rfl
  | p :: F => by
    rw [List.flatMap_cons, pre_kids, List.cons_append, List.drop_succ_cons, List.drop_zero]
    show _ = (p.kids.map (·.2) ++ F).flatMap pre
    rw [List.flatMap_append]
theorem fo_drop (p : Pp) : ∀ j : Nat, (pre p).drop j = (fo p j).flatMap pre
  | 0 => by
    show pre p = pre p ++ []
    rw [List.append_nil]
  | j + 1 => by
    show _ = (stp (fo p j)).flatMap pre
    rw [← flat_drop, ← fo_drop p j, List.drop_drop]
theorem fo_at {p x : Pp} {j : Nat} (h : (pre p)[j]? = some x) : ∃ F, fo p j = x :: F ∧ fo p (j + 1) = x.kids.map (·.2) ++ F := by
  have h1 : ((pre p).drop j)[0]? = some x := by
    rw [List.getElem?_drop]
    exact h
  rw [fo_drop] at h1
  cases e : fo p j with
  | nil =>
    rw [e] at h1
    cases h1
  | cons q F =>
    rw [e, List.flatMap_cons, pre_kids] at h1
    have : q = x := by simpa using h1
    subst this
    refine ⟨F, rfl, ?_⟩
    show stp (fo p j) = _
    rw [e]
    rfl
theorem fo_end {p : Pp} {j : Nat} (h : (pre p).length ≤ j) : fo p j = [] := by
  have h1 := fo_drop p j
  rw [List.drop_of_length_le h] at h1
  cases e : fo p j with
  | nil => rfl
  | cons q F =>
    rw [e, List.flatMap_cons, pre_kids] at h1
    cases h1
theorem flat_len : ∀ F : List Pp, F.length ≤ (F.flatMap pre).length
  | [] => Nat.le_refl _
  | p :: F => by
    have := flat_len F
    rw [List.flatMap_cons, List.length_append, pre_kids, List.length_cons, List.length_cons]
    omega
theorem fo_len (p : Pp) (j : Nat) : (fo p j).length ≤ p.wt := by
  have h := flat_len (fo p j)
  rw [← fo_drop, List.length_drop] at h
  have h2 := (lvl_len p 0).2
  have h3 : (pre p).length = (p.lvl 0).length := by unfold pre; rw [List.length_map]
  omega
theorem ht_kids (p : Pp) : (p.kids = [] → p.ht = 0) ∧ (p.kids ≠ [] → ∃ k ∈ p.kids, k.2.ht + 1 = p.ht) := by
  cases p with
  | use k => exact ⟨fun _ => rfl, fun h => absurd rfl h⟩
  | name k => exact ⟨fun _ => rfl, fun h => absurd rfl h⟩
  | pair p q =>
    refine ⟨(fun h => nomatch h), fun _ => ?_⟩
    by_cases h : q.ht ≤ p.ht
    · exact ⟨(1, p), List.mem_cons_self, by show p.ht + 1 = max p.ht q.ht + 1; omega⟩
    · exact ⟨(2, q), List.mem_cons_of_mem _ List.mem_cons_self, by show q.ht + 1 = max p.ht q.ht + 1; omega⟩
  | apply p q =>
    refine ⟨(fun h => nomatch h), fun _ => ?_⟩
    by_cases h : q.ht ≤ p.ht
    · exact ⟨(1, p), List.mem_cons_self, by show p.ht + 1 = max p.ht q.ht + 1; omega⟩
    · exact ⟨(2, q), List.mem_cons_of_mem _ List.mem_cons_self, by show q.ht + 1 = max p.ht q.ht + 1; omega⟩
  | first p => exact ⟨(fun h => nomatch h), fun _ => ⟨(1, p), List.mem_cons_self, rfl⟩⟩
  | second p => exact ⟨(fun h => nomatch h), fun _ => ⟨(1, p), List.mem_cons_self, rfl⟩⟩
  | left p _ => exact ⟨(fun h => nomatch h), fun _ => ⟨(1, p), List.mem_cons_self, rfl⟩⟩
  | right _ p => exact ⟨(fun h => nomatch h), fun _ => ⟨(2, p), List.mem_cons_self, rfl⟩⟩
  | make _ p => exact ⟨(fun h => nomatch h), fun _ => ⟨(2, p), List.mem_cons_self, rfl⟩⟩
  | escape p _ => exact ⟨(fun h => nomatch h), fun _ => ⟨(1, p), List.mem_cons_self, rfl⟩⟩
  | case p q r _ =>
    refine ⟨(fun h => nomatch h), fun _ => ?_⟩
    by_cases h : q.ht ≤ p.ht ∧ r.ht ≤ p.ht
    · exact ⟨(1, p), List.mem_cons_self, by show p.ht + 1 = max p.ht (max q.ht r.ht) + 1; omega⟩
    · by_cases h2 : r.ht ≤ q.ht
      · exact ⟨(2, q), List.mem_cons_of_mem _ List.mem_cons_self, by show q.ht + 1 = max p.ht (max q.ht r.ht) + 1; omega⟩
      · exact ⟨(3, r), List.mem_cons_of_mem _ (List.mem_cons_of_mem _ List.mem_cons_self), by show r.ht + 1 = max p.ht (max q.ht r.ht) + 1; omega⟩
end Ob

/-! ObAg: max(xs, default=d), xs a list of ints. -/
namespace Ob
open PySem PySem.Spec PyProof.Rows L2
section
variable {prog : Program} {w : World} {A : Around} {R : Result → Shared → Prop} {it : Addr} {fp wr : List Addr} {n : Nat} {P : Nat → Value → Prop} {St : Nat → Heap → Prop}
abbrev dfl (d : Value) : List (Str × Value) := [(Str.ofString "default", d)]
theorem max_name : (toString "max" ++ toString ".loop" : String) = "max.loop" := by decide
theorem maxD_loop (W : Walks prog w A.in1 it fp wr n P St) (bt : Nat → Nat → Bool) (cmp : CmpOf prog w A.in1 .Gt P bt) (B : Addr) (nB : B ∉ fp) (d : Value) :
    ∀ (k j : Nat) (s : Shared) (best : Value) (c : Nat), n - (j + 1) = k → j + 1 ≤ n → St (j + 1) s.heap → P (argBest bt j) best → s.heap.get? B = some { cls := .type "list", dict := none, data := .seq #[best, best] c, slots := #[] } →
    (∀ v h' tk, P (argBest bt (n - 1)) v → (∀ b o, b ∉ wr → b ≠ B → s.heap.get? b = some o → h'.get? b = some o) → R (.ok (.ret v)) { s with heap := h', toks := tk }) → codeAny (model prog w) A (.builtin "max.loop" ⟨[.ref it, .none, .ref B], dfl d⟩) R s := by
  have nw : B ∉ wr := fun h => nB (W.sub _ h)
  intro k
  induction k with
  | zero =>
    intro j s best c hk hj st hP hB fin
    have last : j + 1 = n := by omega
    refine codeAny_builtin F.entry_max_loop ?_
    rw [Around.under_plainId F.plain_max_loop _]
    show wpAny (model prog w) A.in1 (seqItems? (.ref B) >>= _) _ _ s
    refine wpAny_bind (wpAny_seqItems hB rfl ?_)
    show wpAny (model prog w) A.in1 (tryCatch (pyNext (.ref it)) _ >>= _) _ _ s
    refine wpAny_bind (wpAny_tryCatch (W.done s _ _ (last ▸ st) fun k2 tk keep => ?_))
    have hB2 := keep B _ nw hB
    show wpAny (model prog w) A.in1 (updateSeq B (fun _ => #[]) >>= _) _ _ _
    refine wpAny_bind (wpAny_updateSeq hB2 rfl (wpAny_bind (wpAny_letGo (wpAny_pure ?_))))
    exact fin best _ tk (by rw [← last]; exact hP) fun b o h1 h2 e => (Heap.get?_update_other _ _ h2.symm).trans (keep b o h1 e)
  | succ k ih =>
    intro j s best c hk hj st hP hB fin
    have more : j + 1 < n := by omega
    refine codeAny_builtin F.entry_max_loop ?_
    rw [Around.under_plainId F.plain_max_loop _]
    show wpAny (model prog w) A.in1 (seqItems? (.ref B) >>= _) _ _ s
    refine wpAny_bind (wpAny_seqItems hB rfl ?_)
    show wpAny (model prog w) A.in1 (tryCatch (pyNext (.ref it)) _ >>= _) _ _ s
    refine wpAny_bind (wpAny_tryCatch (W.item (j + 1) s _ _ more st fun v k2 tk hv st2 keep => ?_))
    have hB2 := keep B _ nw hB
    show wpAny (model prog w) A.in1 (tryCatch (holding [v, v] (richCompare .Gt v best >>= _)) _ >>= _) _ _ _
    refine wpAny_bind (wpAny_tryCatch (wpAny_holding (wpAny_bind (cmp (j + 1) (argBest bt j) v best _ _ _ hv hP ?_))))
    refine wpAny_bind (wpAny_holding (wpAny_truthy_bool (wpAny_bind (wpAny_letGo (wpAny_pure ?_)))))
    cases hb : bt (j + 1) (argBest bt j) with
    | true =>
      simp only [if_true]
      refine wpAny_bind (wpAny_updateSeq hB2 rfl (wpAny_bind (wpAny_letGo ?_)))
      rw [max_name]
      refine wpAny_pure ⟨plainId_quiet F.plain_max_loop _, ih (j + 1) _ v _ (by omega) more (W.frame _ _ _ st2 fun b h1 o e => ?_) (by simp only [argBest, hb, if_true]; exact hv) (Heap.get?_update_self _ hB2 rfl) fun v2 k3 tk3 h2 keep3 => ?_⟩
      · exact (Heap.get?_update_other _ _ (fun z : B = b => nB (by rw [z]; exact h1))).trans e
      · exact fin v2 k3 tk3 h2 fun b o h3 h4 e => keep3 b o h3 h4 ((Heap.get?_update_other _ _ h4.symm).trans (keep b o h3 e))
    | false =>
      simp only [Bool.false_eq_true, if_false]
      refine wpAny_bind (wpAny_letGo ?_)
      rw [max_name]
      refine wpAny_pure ⟨plainId_quiet F.plain_max_loop _, ih (j + 1) _ best c (by omega) more st2 (by simp only [argBest, hb, Bool.false_eq_true, if_false]; exact hP) hB2 fun v2 k3 tk3 h2 keep3 => ?_⟩
      exact fin v2 k3 tk3 h2 fun b o h3 h4 e => keep3 b o h3 h4 (keep b o h3 e)
theorem maxD_first (W : Walks prog w A.in1 it fp wr n P St) (bt : Nat → Nat → Bool) (cmp : CmpOf prog w A.in1 .Gt P bt) (B : Addr) (nB : B ∉ fp) (d : Value) {s : Shared} {c : Nat} (st : St 0 s.heap) (hB : s.heap.get? B = some { cls := .type "list", dict := none, data := .seq #[] c, slots := #[] })
    (none_ : n = 0 → ∀ h' tk, (∀ b o, b ∉ wr → b ≠ B → s.heap.get? b = some o → h'.get? b = some o) → R (.ok (.ret d)) { s with heap := h', toks := tk })
    (fin : 0 < n → ∀ v h' tk, P (argBest bt (n - 1)) v → (∀ b o, b ∉ wr → b ≠ B → s.heap.get? b = some o → h'.get? b = some o) → R (.ok (.ret v)) { s with heap := h', toks := tk }) : codeAny (model prog w) A (.builtin "max.loop" ⟨[.ref it, .none, .ref B], dfl d⟩) R s := by
  have nw : B ∉ wr := fun h => nB (W.sub _ h)
  refine codeAny_builtin F.entry_max_loop ?_
  rw [Around.under_plainId F.plain_max_loop _]
  show wpAny (model prog w) A.in1 (seqItems? (.ref B) >>= _) _ _ s
  refine wpAny_bind (wpAny_seqItems hB rfl ?_)
  show wpAny (model prog w) A.in1 (tryCatch (pyNext (.ref it)) _ >>= _) _ _ s
  by_cases h0 : n = 0
  · refine wpAny_bind (wpAny_tryCatch (W.done s _ _ (h0 ▸ st) fun k2 tk keep => ?_))
    show wpAny (model prog w) A.in1 (rule _ >>= _) _ _ _
    exact wpAny_bind (wpAny_rule (wpAny_pure (none_ h0 _ tk fun b o h1 _ e => keep b o h1 e)))
  · have hn : 0 < n := by omega
    refine wpAny_bind (wpAny_tryCatch (W.item 0 s _ _ hn st fun v k2 tk hv st2 keep => ?_))
    have hB2 := keep B _ nw hB
    show wpAny (model prog w) A.in1 (updateSeq B (fun _ => #[v, v]) >>= _) _ _ _
    refine wpAny_bind (wpAny_updateSeq hB2 rfl ?_)
    rw [max_name]
    refine wpAny_pure ⟨plainId_quiet F.plain_max_loop _, maxD_loop W bt cmp B nB d _ 0 _ v _ rfl hn (W.frame _ _ _ st2 fun b h1 o e => ?_) hv (Heap.get?_update_self _ hB2 rfl) fun v2 k3 tk3 h2 keep3 => ?_⟩
    · exact (Heap.get?_update_other _ _ (fun z : B = b => nB (by rw [z]; exact h1))).trans e
    · exact fin hn v2 k3 tk3 h2 fun b o h3 h4 e => keep3 b o h3 h4 ((Heap.get?_update_other _ _ h4.symm).trans (keep b o h3 e))
end
section
variable {prog : Program} {w : World} {A : Around} {E : Value → Shared → Prop} {s : Shared}
theorem args_maxD (a d : Value) : argsOk "max" ⟨[a], dfl d⟩ := by unfold argsOk; kernel_rfl
theorem call_maxD {l : Addr} {xs : Array (Int × Tok)} {d : Value} {Q : Value → Shared → Prop} (hh : A.handled = none) (hl : s.heap.IsList l (intItems xs))
    (none_ : xs.size = 0 → ∀ h' tk, (∀ b o, s.heap.get? b = some o → h'.get? b = some o) → Q d { s with heap := h', toks := tk })
    (fin : 0 < xs.size → ∀ v h' tk, (intItems xs)[argBest (fun i j => decide (numAt xs i > numAt xs j)) (xs.size - 1)]? = some v → (∀ b o, s.heap.get? b = some o → h'.get? b = some o) → Q v { s with heap := h', toks := tk }) :
    wpAny (model prog w) A (call (.builtin "max") [.ref l] (dfl d)) Q E s := by
  refine wpAny_call (codeAny_call_builtin F.plain_max F.entry_max ?_)
  have go : wpAny (model prog w) A.in1 (Builtin.«max» ⟨[.ref l], dfl d⟩) (fun fin s' => match fin with
      | .done f => (match (Except.ok f : Result) with | .ok (.ret v) => Q v s' | .ok _ => False | .error e => E e s')
      | .again c' => c'.quiet = true ∧ codeAny (model prog w) A c' (fun r s' => match r with | .ok (.ret v) => Q v s' | .ok _ => False | .error e => E e s') s') E s := by
    show wpAny (model prog w) A.in1 (Builtin.Builtins.bindParams "max" ["key", "default"] 0 ⟨[], dfl d⟩ >>= _) _ _ s
    refine wpAny_bind (wpAny_of_eq (show Builtin.Builtins.bindParams "max" ["key", "default"] 0 ⟨[], dfl d⟩ = pure [none, some d] from rfl) ?_)
    refine wpAny_bind (wpAny_pure (wpAny_bind (iter_intList hl fun s2 e st fps nl => ?_)))
    subst e
    refine wpAny_bind (wpAny_newObj_type ?_)
    rw [max_name]
    have W := Walks.list (prog := prog) (w := w) (A := A.in1) hh s.heap.objs.size l nl (intItems xs)
    have old : ∀ {b : Addr} {o : Obj}, s.heap.get? b = some o → b ≠ s.heap.objs.size ∧ b ≠ (s.heap.push { cls := .type "list_iterator", data := .fields #[.ref l, .int 0 0] }).objs.size := fun {b o} e => by
      have h1 := Heap.lt_size e
      have h2 : (s.heap.push { cls := .type "list_iterator", data := .fields #[.ref l, .int 0 0] }).objs.size = s.heap.objs.size + 1 := Heap.size_push ..
      exact ⟨Nat.ne_of_lt h1, Nat.ne_of_lt (by rw [h2]; exact Nat.lt_succ_of_lt h1)⟩
    refine wpAny_pure ⟨plainId_quiet F.plain_max_loop _, maxD_first W (fun i j => decide (numAt xs i > numAt xs j)) (CmpOf.ints_gt (numAt xs) (fun _ _ => intItems_at)) _ (fun hm => Nat.lt_irrefl _ (fps _ hm)) d (W.frame _ _ _ st fun b _ o e => Heap.get?_push_of_some _ e) (Heap.get?_push_size _ rfl) (fun h0 h' tk keep => none_ (by simpa [intItems] using h0) h' tk fun b o e => ?_) (fun h0 v h' tk hv keep => fin (by simpa [intItems] using h0) v h' tk (by simpa [intItems] using hv) fun b o e => ?_)⟩
    · exact keep b o (by simpa using (old e).1) (old e).2 (Heap.get?_push_of_some _ (Heap.get?_push_of_some _ e))
    · exact keep b o (by simpa using (old e).1) (old e).2 (Heap.get?_push_of_some _ (Heap.get?_push_of_some _ e))
  simp only [checkBuiltinCall, F.kind_max]
  have ok := args_maxD (.ref l) d
  cases hsig : Manifest.signature? "max" with
  | none => exact wpAny_pure go
  | some sig =>
    have ok' : Bind.checkArgs "max" sig ⟨[.ref l], dfl d⟩ = pure () := by simpa only [argsOk, hsig] using ok
    simp only [ok']
    exact wpAny_pure go
end
/-- max(xs, default=d) -/
def rMaxDef (K : PySem.W.Frag) : List V → List V → Hp → VK → Prop := fun vs zs H Q => ∃ (a : Addr) (ns : List Int) (d : Int), vs = [V.ref a] ∧ zs = [V.int d] ∧ SqL K H a (ns.map V.int) ∧ (ns = [] → Q (.int d) H) ∧ ∀ m, m ∈ ns → (∀ y, y ∈ ns → y ≤ m) → Q (.int m) H
theorem cr_maxDef {X : Cx} (hc : X.calm = true) : CallRK X (.builtin "max") [Str.ofString "default"] (rMaxDef X.K) := by
  intro pins s τ G vs zs us ws Q I r r2 h
  obtain ⟨a, ns, d, rfl, rfl, hs, q0, q1⟩ := h
  obtain ⟨its, rv, hl, _⟩ := I.list hs
  rw [Vals.ref1 r]
  obtain ⟨dv, rfl, hd⟩ : ∃ dv, ws = [dv] ∧ RelV (V.int d) dv := by
    cases r2 with
    | cons p t =>
      cases t
      exact ⟨_, rfl, p⟩
  have hi := rv.ints
  obtain ⟨xs, e⟩ := hi.allInts.items
  have hn : numsOf (intItems xs).toList = ns := by rw [← e]; exact hi.numsOf
  rw [nums_intItems] at hn
  have hl2 := hl.isList
  rw [e] at hl2
  show wpAny (model X.prog X.w) X.A (call (.builtin "max") [.ref a] (dfl dv)) _ _ s
  refine call_maxD (I.ok.hd hc) hl2 (fun h0 h' tk keep => ?_) (fun h0 v h' tk hv keep => ?_)
  · refine ⟨.int d, G, I.kept keep, hd, q0 ?_⟩
    rw [← hn]
    have : xs.toList = [] := List.length_eq_zero_iff.mp (by rw [Array.length_toList]; exact h0)
    rw [this]
    rfl
  · obtain ⟨t, rfl⟩ := intItems_at hv
    obtain ⟨h1, h2⟩ := argBest_gt (numAt xs) (xs.size - 1)
    refine ⟨.int _, G, I.kept keep, ⟨_, rfl⟩, q1 _ ?_ fun y hy => ?_⟩
    · rw [← hn, numAt_eq]
      exact PySem.getD_mem (by rw [List.length_map, Array.length_toList]; omega)
    · rw [← hn] at hy
      obtain ⟨j, hj, rfl⟩ := mem_getD hy
      rw [List.length_map, Array.length_toList] at hj
      rw [← numAt_eq]
      exact h2 j (by omega)
/-- a method without arguments, within a comprehension -/
theorem pe_bm0K {X : Cx} {K : PySem.W.Frag} {o : Expr} {to : TE} {name : Str} {apos cpos : Pos} {T id : String} {r : V → List V → Hp → VK → Prop} (hK : X.K = K) (pa : PlainAttrs T) (slot : Slot T name id) (hty : typeOf (.builtin id) = pure (.type "method_descriptor"))
    (hm : MtR X id r) (ho : PE X o to) (hbase : attributeBase o name X.env (eval o X.env) = eval o X.env := by rfl) (hline : (apos.endLine == cpos.line) = true := by rfl) : PE X (.Call (.Attribute o name apos) [] [] cpos) (tBM0 K T r to) := by
  subst hK
  exact pe_bm0 pa slot hty hm ho hbase hline
theorem nat_lt {x : Int} {n : Nat} (h0 : 0 ≤ x) (h1 : x < (n : Int)) : ∃ k : Nat, x = (k : Int) ∧ k < n := ⟨x.toNat, by omega, by omega⟩
end Ob

/-! A function that a def makes (a lambda, a def within) handed to another def beside other arguments, and called there. -/
namespace Ob
open PySem PySem.Spec PyProof.Rows L2 LamX NdefX
set_option maxHeartbeats 2000000
/-- what the captured cells hold they hold where all that was unknown is kept -/
theorem cells_un {cl : List (Str × Addr)} {fr : List Str} {ws : List (Option V)} {fs : List Addr} {H H1 : Hp} {h h1 : Heap} (C : CellsAt cl fr ws h H) (u : Un fs [] H H1 h h1) : CellsAt cl fr ws h1 H1 := by
  have kp : ∀ {y c}, cl.lookup y = some c → ∀ {v : Option Value}, h.IsCell c v → h1.IsCell c v := fun {y c} e {v} ⟨o, ho, hd⟩ => by
    obtain ⟨sl, q⟩ := u.any ho (C.all y c e).1 (by simp)
    exact ⟨_, q, hd⟩
  refine ⟨C.len, fun y c e => ?_, C.inj, fun i y e => ?_⟩
  · obtain ⟨n, v, z⟩ := C.all y c e
    obtain ⟨o, ho, _⟩ := id z
    exact ⟨u.free c o ho n (by simp), v, kp e z⟩
  · obtain ⟨c, hc, hv⟩ := C.has i y e
    exact ⟨c, hc, fun v ev => (hv v ev).elim fun w z => ⟨w, z.1, kp hc z.2⟩⟩
/-- the function at f may be called wherever all that is unknown at H0, h0 is kept: it keeps the promise sp -/
structure Act (P : Program) (w : World) (K : PySem.W.Frag) (mg : Str → Option Value) (base : Heap) (j : Nat) (fs : List Addr) (H0 : Hp) (h0 : Heap) (f : Addr) (sp : Sp) : Prop where
  fn : ∀ H h, Un fs [] H0 H h0 h → HOk P w H h → (∀ o, H0 f = some o → H f = some o) → PySem.W.FnAt f h
  run : ∀ (A : Around) (outer : List Env) (s : Shared) (H : Hp) (us : List Value) (vs : List V) (Q : VK), Room j A → Env0 P w K mg base A outer s H → Un fs [] H0 H h0 s.heap → Vals vs us → sp vs H Q E0 →
    codeAny (model P w) A (.call (.ref f) ⟨us, []⟩) (CR CX0 outer P w H s Q E0) s
/-- a def that is handed such a function: its promise hangs on that function's own -/
structure ClL (P : Program) (w : World) (K : PySem.W.Frag) (mg : Str → Option Value) (base : Heap) (k j : Nat) (x : Str) (sp : Addr → Sp → Sp) : Prop where
  ex : ∃ (g : Addr) (gd : FuncData) (ps : List Str), mg x = some (.ref g) ∧ PySem.W.keepIn K (.ref g) = true ∧ Binds K gd ps [] ∧ (∀ f spf vs H Q, sp f spf vs H Q E0 → vs.length = ps.length) ∧
    ∀ (A : Around) (outer : List Env) (s : Shared) (H : Hp) (args : Args) (us : List Value) (vs : List V) (f : Addr) (spf : Sp) (Q : VK), Room k A → Env0 P w K mg base A outer s H → BindsTo s gd args (ps.zip us) → Vals vs us → Act P w K mg base j (frs outer) H s.heap f spf → sp f spf vs H Q E0 →
      codeAny (model P w) A (.call (.ref g) args) (CR CX0 outer P w H s Q E0) s
section
variable {P : Program} {w : World} {K : PySem.W.Frag} {mg : Str → Option Value} {base : Heap}
theorem Df.okL {x : Str} {st : Stmt} {ps N : List Str} {k j : Nat} {sp : Addr → Sp → Sp} (D : Df K mg x st ps) (S : FnScope N ps (defScope st)) (len : ∀ f spf vs H Q, sp f spf vs H Q E0 → vs.length = ps.length)
    (hbody : ∀ (g : Addr) (cdv : Value) (A : Around) (outer : List Env) (s : Shared) (H : Hp) (vs : List V) (f : Addr) (spf : Sp) (Q : VK), Room k (A.deeper (envOfC x (defScope st) s.heap.objs.size g cdv)) → Act P w K mg base j (frs outer) H s.heap f spf → sp f spf vs H Q E0 →
      ∃ t, PSs (cxOf CX0 P w K mg base N x (defScope st) g cdv A outer s H E0).nox (defBody st) t ∧ t { nx := fun _ H' => Q .non H', rt := Q } (start N vs) H) : ClL P w K mg base (k + 1) j x sp := by
  obtain ⟨g, gd, F, m, b⟩ := D.ex
  refine ⟨g, gd, ps, m, F.kp, b, len, fun A outer s H args us vs f spf Q hr e0 hb r act h => ?_⟩
  obtain ⟨oc, od, kV, doc, pm, an, cdv, ct, osl, rfl, lk, hcd⟩ := F.ex
  refine run_ofS lk hcd S hr e0 hb r (len f spf vs H Q h) fun hr' => ?_
  obtain ⟨t, h1, h2⟩ := hbody g cdv A outer s H vs f spf Q hr' act h
  exact ⟨t, h1.nox, h2⟩
end
/-- the reading of the call within: the i-th slot holds that function -/
def tAct (H0 : Hp) (i : Nat) (f : Addr) (sp : Sp) (t : TA) : TE := fun σ H Q => σ[i]? = some (some (.ref f)) ∧ (∀ o, H0 f = some o → H f = some o) ∧ t σ H fun vs H1 => (∀ o, H0 f = some o → H1 f = some o) ∧ sp vs H1 Q E0
theorem pe_act1 {P : Program} {w : World} {K : PySem.W.Frag} {mg : Str → Option Value} {base : Heap} {N : List Str} {q : Str} {sc : Scope} {g : Addr} {cdv : Value} {A : Around} {outer : List Env} {s0 : Shared} {H0 : Hp} {f : Addr} {spf : Sp} {j k i : Nat} {x : Str} {e : Expr} {es : List Expr} {p pos : Pos} {t : TA}
    (a : Act P w K mg base j (frs outer) H0 s0.heap f spf) (hr : Room k (cxOf CX0 P w K mg base N q sc g cdv A outer s0 H0 E0).nox.A) (hk : j ≤ k) (hN : N[i]? = some x) (hv : Vis sc x) (ha : PA (cxOf CX0 P w K mg base N q sc g cdv A outer s0 H0 E0).nox (e :: es) t)
    (hd : (x == ("__debug__" : Str)) = false := by decide) (hcd : (x == ("__classdict__" : Str)) = false := by decide)
    (he : starEach (e :: es) (envOfC q sc s0.heap.objs.size g cdv) = (false, eval e (envOfC q sc s0.heap.objs.size g cdv)) :: starEach es (envOfC q sc s0.heap.objs.size g cdv) := by rfl) (hpl : (backTo pos (starEach es (envOfC q sc s0.heap.objs.size g cdv))).any (·.1) = false := by rfl) :
    PE (cxOf CX0 P w K mg base N q sc g cdv A outer s0 H0 E0).nox (.Call (.Name x p) (e :: es) [] pos) (tAct H0 i f spf t) := by
  refine ⟨fun pins s σ H Q I h => ?_⟩
  obtain ⟨hs, hk0, ht⟩ := h
  refine wpAny_Call_Name_kw (thn ((pe_var (pos := p) hN hv hd hcd).run pins s σ H (fun v H1 => v = .ref f ∧ H1 = H) I ⟨.ref f, hs, rfl, rfl⟩) fun u s1 ⟨v, H1, I1, r1, q1⟩ => ?_)
  obtain ⟨ev, eH⟩ := q1
  subst ev
  rw [eH] at I1
  obtain rfl : u = Value.ref f := r1
  refine PySem.W.callWith_F (first := []) (a.fn _ _ I1.base I1.hok hk0) (thn (ha.run pos pins s1 σ H _ I1 ht) fun us s2 ⟨vs, H2, I2, r, hk2, q2⟩ => ⟨a.fn _ _ I2.base I2.hok hk2, ?_⟩) he hpl
  refine wpAny_call (codeAny_mono (a.run _ _ s2 H2 us vs Q (hr.mono hk) I2.env0 I2.base r q2) fun r s' hq => ?_)
  cases r with
  | error e => exact (show False from hq).elim
  | ok fl =>
    cases fl with
    | ret u => exact I2.after hq
    | next => exact False.elim hq
    | brk => exact False.elim hq
    | cont => exact False.elim hq
/-! ### a lambda with parameters -/
/-- the words of a lambda as those of a nested def, its body left out -/
abbrev lamNF (q : Str) (scope : Scope) (cl : List (Str × Addr)) (c : Addr) : NF := ⟨"<lambda>", q, { posonlyargs := [], args := [], vararg := none, kwonlyargs := [], kw_defaults := [], kwarg := none, defaults := [] }, [], scope, cl, c⟩
/-- what a lambda promises: its body's reading, the captured names holding ws -/
def spLam (c : Addr) (q : Str) (n : Nat) (N : List Str) (ws : List (Option V)) (t : TE) : Sp := fun vs H Q _ => vs.length = n ∧ H c = some (CodeO c q) ∧ t (startF N vs ws) H Q
section
variable {P : Program} {w : World} {K : PySem.W.Frag} {mg : Str → Option Value} {base : Heap} {N ps fr : List Str} {q : Str} {params : Arguments} {body : Expr} {scope : Scope} {cl : List (Str × Addr)} {c f : Addr} {pm ctv : Value} {ws : List (Option V)} {fs : List Addr} {H0 : Hp} {h0 : Heap} {k : Nat} {t : TE}
theorem lam_act (S : NScope N ps fr scope) (hf : h0.get? f = some (PySem.W.kla_obj "<lambda>" q params body scope cl pm c ctv)) (nf : H0 f = none) (nfs : f ∉ fs) (C : CellsAt cl fr ws h0 H0)
    (hbind : ∀ us : List Value, us.length = ps.length → bindArgs (PySem.W.kla_fn "<lambda>" q params body scope cl pm (.ref c) ctv) ⟨us, []⟩ = pure (ps.zip us))
    (hbody : ∀ (A : Around) (outer : List Env) (s : Shared) (H : Hp), Room k (A.deeper (envF (lamNF q scope cl c) f s.heap.objs.size)) → PE (ncx CX0 P w K mg base N (lamNF q scope cl c) f A outer s H E0) body t) :
    Act P w K mg base (k + 1) fs H0 h0 f (spLam c q ps.length N ws t) := by
  have of : ∀ H h, Un fs [] H0 H h0 h → h.get? f = some (PySem.W.kla_obj "<lambda>" q params body scope cl pm c ctv) := fun H h u => u.keep f _ hf nf nfs (fun z => nomatch z)
  refine ⟨fun H h u _ _ => ⟨_, _, _, _, of H h u⟩, fun A outer s H us vs Q hr e0 u r hsp => ?_⟩
  obtain ⟨hl, hc, ht⟩ := hsp
  have lim : s.heap.NoLimit := e0.mod.nolimit.keeps fun b o e => (e0.bs b o e).1
  refine PySem.W.kla_callFunE hr.depth (of H s.heap u) rfl S.co S.gen rfl (codeO_at e0.hok hc) ?_
  rw [hbind us (by rw [← r.length]; exact hl)]
  refine wpAny_pure (wpAny_newFunctionEnv S.nocell (fun ⟨n, _⟩ hy => S.par n (List.of_mem_zip hy).1) (fun h₁ hns hsb => ⟨lim.fresh _ hsb, ?_⟩) S.kind)
  show codeAny _ _ (.expr body (envF (lamNF q scope cl c) f s.heap.objs.size)) _ _
  have kp : ∀ b o, s.heap.get? b = some o → h₁.get? b = some o := fun b o e => hsb.extBut b o (Nat.ne_of_lt (Heap.lt_size e)) (Heap.get?_push_of_some _ e)
  have J : Inv (ncx CX0 P w K mg base N (lamNF q scope cl c) f A outer s H E0) [] (startF N vs ws) H { s with heap := h₁, toks := s.toks + (ps.zip us).length } := inv_startN (F := lamNF q scope cl c) S hr.hd e0 hl r (cells_un C u) hns kp
  refine PySem.W.kla_codeExpr (wpAny_mono ((hbody A outer s H (hr.deeper _)).run [] _ _ H Q J ht) (fun v s' hq => ?_) fun e s' hq => hq)
  obtain ⟨w', H', J', rv, z⟩ := hq
  exact ⟨w', H', J'.os, J'.bare, J'.base, J'.hok, rv, z⟩
end
/-- x(e, lambda ..): the def x is handed the new lambda as its second argument -/
def tLamArg (T : List (Addr × Str)) (q : Str) (n : Nat) (N : List Str) (js : List Nat) (sp : Addr → Sp → Sp) (t1 t : TE) : TE := fun σ H Q => t1 σ H fun v H1 => Tabs T H1 ∧ ∀ (f c : Addr) (H2 : Hp), ExtN H1 H2 → Tabs T H2 → H2 f = none → H2 c = some (CodeO c q) → sp f (spLam c q n N (js.map (slotAt σ)) t) [v, .ref f] H2 Q E0
theorem pe_lamarg {X : Cx} {T : List (Addr × Str)} {ps fr N : List Str} {js : List Nat} {x : Str} {sp : Addr → Sp → Sp} {c P : Addr} {k j m : Nat} {params : Arguments} {body e1 : Expr} {scope : Scope} {p lpos pos : Pos} {t1 t : TE} (cl : ClL X.prog X.w X.K X.mg X.base k (j + 1) x sp) (hr : Room m X.A) (hk : k ≤ m) (hg : Gl X x) (he1 : PE X e1 t1)
    (TB : TabB X.base X.mg c P) (hcode : X.env.code = .ref c) (hmT : (P, X.env.qual ++ "<lambda>") ∈ T) (huT : ∀ p ∈ T, p.1 = P → p.2 = X.env.qual ++ "<lambda>") (S : NScope N ps fr scope) (hdef : defaultsOf params X.env = ([], [])) (hjs : js.map (fun j => X.N[j]?) = fr.map some)
    (hfree : ∀ y ∈ scope.names, y.2 = .free → X.env.scope.names.lookup y.1 = some .cell ∨ X.env.scope.names.lookup y.1 = some .free) (hfr : ∀ y ∈ fr, (y, NameKind.free) ∈ scope.names)
    (hbind : ∀ (q : Str) (cl : List (Str × Addr)) (pm cv ctv : Value) (us : List Value), us.length = ps.length → bindArgs (PySem.W.kla_fn "<lambda>" q params body scope cl pm cv ctv) ⟨us, []⟩ = pure (ps.zip us))
    (hbody : ∀ (cl : List (Str × Addr)) (c f : Addr) (A : Around) (outer : List Env) (s : Shared) (H : Hp), Room j (A.deeper (envF (lamNF (X.env.qual ++ "<lambda>") scope cl c) f s.heap.objs.size)) → PE (ncx CX0 X.prog X.w X.K X.mg X.base N (lamNF (X.env.qual ++ "<lambda>") scope cl c) f A outer s H E0) body t)
    (hdb : (x == ("__debug__" : Str)) = false := by decide) (he : starEach [e1, .Lambda params body scope lpos] X.env = (false, eval e1 X.env) :: (false, eval (.Lambda params body scope lpos) X.env) :: starEach [] X.env := by rfl) (hpl : (backTo pos (starEach [.Lambda params body scope lpos] X.env)).any (·.1) = false := by rfl) :
    PE X (.Call (.Name x p) [e1, .Lambda params body scope lpos] [] pos) (tLamArg T (X.env.qual ++ "<lambda>") ps.length N js sp t1 t) := by
  refine ⟨fun pins s σ H Q I h => ?_⟩
  obtain ⟨g, gd, gps, hm, kp, b, len, run⟩ := cl.ex
  have hfree' : ∀ y ∈ scope.names, y.2 = .free → ∃ c, X.env.cells.lookup y.1 = some c := fun y hy e => (hfree y hy e).elim (fun z => I.ok.has _ (.inl z)) fun z => I.ok.has _ (.inr z)
  refine wpAny_Call_Name_kw (ld_glob I hg hm ?_ hdb)
  refine PySem.W.callWith_K (h₀ := X.base) I.ok.mod.kin kp ?_ (by rw [he]; rfl) hpl
  rw [he]
  show wpAny _ _ (spliced ((false, eval e1 X.env) :: (false, eval (.Lambda params body scope lpos) X.env) :: backTo pos (starEach [] X.env))) _ _ s
  refine Calls.spliced_cons (thn (he1.run pins s σ H _ I h) fun u s1 ⟨v, H1, I1, r1, hT, q1⟩ => ?_)
  refine Calls.spliced_cons (lam_make2 (T := T) I1 TB hcode hmT huT hT hdef hfree' fun f c' pm ctv H2 s2 I2 eN T2 hf nf nfs hc => ?_)
  refine Calls.spliced_nil ⟨I2.kIn, ?_⟩
  have z := q1 f c' H2 eN T2 nf hc
  have caps : Caps X (cloFrom X.env.cells scope.names []) fr js := Caps.made I2.ok hfree hfr hjs
  have act : Act X.prog X.w X.K X.mg X.base (j + 1) (frs X.stack) H2 s2.heap f (spLam c' (X.env.qual ++ "<lambda>") ps.length N (js.map (slotAt σ)) t) :=
    lam_act S hf nf nfs (cells_of I2 caps) (hbind _ _ _ _ _) fun A outer s H hr' => hbody _ _ _ A outer s H hr'
  have bt := b s2 [u, .ref f] I2.kIn (by rw [List.append_nil, ← len f _ _ _ _ z]; rfl)
  rw [List.append_nil] at bt
  refine wpAny_call (codeAny_mono (run X.A X.stack s2 H2 ⟨[u, .ref f], []⟩ [u, .ref f] [v, .ref f] f _ Q (hr.mono hk) I2.env0 bt (.cons r1 (.cons rfl .nil)) act z) fun r s3 hq => ?_)
  cases r with
  | error e => exact (show False from hq).elim
  | ok fl =>
    cases fl with
    | ret u => exact I2.after hq
    | next => exact False.elim hq
    | brk => exact False.elim hq
    | cont => exact False.elim hq
end Ob

/-! zip of a tuple and a list. -/
namespace Ob
open PySem PySem.Spec PyProof.Rows L2
set_option maxHeartbeats 2000000
/-- the tuple at a and the list at b walked side by side, each two in a new pair -/
def ItzM (K : PySem.W.Frag) (a b : Addr) : L2.It where
  go i H := ∃ (xs ys : List V) (x y : V), SqT K H a xs ∧ SqL K H b ys ∧ xs[i]? = some x ∧ ys[i]? = some y
  yld i H v H' := ∃ T x y, v = .ref T ∧ H T = none ∧ H' = upd H T (.tup [x, y]) ∧ (∀ xs, SqT K H a xs → xs[i]? = some x) ∧ ∀ ys, SqL K H b ys → ys[i]? = some y
  stop i H := ∃ xs ys : List V, SqT K H a xs ∧ SqL K H b ys ∧ i ≤ xs.length ∧ i ≤ ys.length ∧ (i = xs.length ∨ i = ys.length)
/-- how the five cells of such a walk stand at turn i -/
def ZmAt (a b z ti to j1 j2 : Addr) (i : Nat) (h : Heap) : Prop :=
  IsZip h z ti to .none ∧ IsTupOf2 h ti (.ref j1) (.ref j2) ∧ (∃ x y, IsTupOf2 h to x y) ∧ h.IsTupleIter j1 a i ∧ h.IsListIter j2 b i
theorem ZmAt.obj {a b z ti to j1 j2 : Addr} {i : Nat} {h : Heap} (st : ZmAt a b z ti to j1 j2 i h) : ∀ c ∈ [z, ti, to, j1, j2], ∃ o, h.get? c = some o ∧ ∀ v, o.data ≠ .cell v := by
  obtain ⟨s1, s2, ⟨x, y, s3⟩, ⟨o4, s4, _, d4⟩, ⟨o5, s5, _, d5⟩⟩ := st
  intro c hc
  simp only [List.mem_cons, List.not_mem_nil, or_false] at hc
  rcases hc with rfl | rfl | rfl | rfl | rfl
  · exact ⟨_, s1, fun _ w => nomatch w⟩
  · exact ⟨_, s2, fun _ w => nomatch w⟩
  · exact ⟨_, s3, fun _ w => nomatch w⟩
  · exact ⟨o4, s4, fun _ w => by rw [d4] at w; cases w⟩
  · exact ⟨o5, s5, fun _ w => by rw [d5] at w; cases w⟩
theorem turn_zipM {P : Program} {w : World} {K : PySem.W.Frag} {es : List Expr} {n : Nat} {tp : Pos} {a b z ti to j1 j2 : Addr} (S : ZipSep2 z ti to j1 j2 [j1, a] [j2, b]) :
    Turn P w K (.Tuple es n tp) (ItzM K a b) [z, ti, to, j1, j2] z (ZmAt a b z ti to j1 j2) where
  mem := List.mem_cons_self ..
  obj i h st := st.obj
  keep i h h' st k := by
    obtain ⟨s1, s2, ⟨x, y, s3⟩, s4, s5⟩ := st
    have kk : ∀ c, c ∈ [z, ti, to, j1, j2] → ∀ o, h.get? c = some o → h'.get? c = some o := k
    exact ⟨kk z (by simp) _ s1, kk ti (by simp) _ s2, ⟨x, y, kk to (by simp) _ s3⟩, s4.at (kk j1 (by simp)), s5.at (kk j2 (by simp))⟩
  item := by
    rintro X rfl rfl rfl cl i pins s σ H E I hf st ⟨xs, ys, x, y, qa, qb, ea, eb⟩
    have st0 := st
    obtain ⟨s1, s2, ⟨x0, y0, s3⟩, s4, s5⟩ := st
    obtain ⟨ua, va, pa, _⟩ := I.tuple qa
    obtain ⟨ub, vb, pb, _⟩ := I.list qb
    obtain ⟨u1, g1, r1⟩ := va.get ea
    obtain ⟨u2, g2, r2⟩ := vb.get eb
    have nja : a ≠ j1 := fun e => by
      obtain ⟨o, eo, _, d⟩ := s4
      obtain ⟨o', eo', _, _, d'⟩ := pa
      rw [e, eo] at eo'; cases eo'; rw [d] at d'; cases d'
    have njb : b ≠ j2 := fun e => by
      obtain ⟨o, eo, _, d⟩ := s5
      obtain ⟨o', eo', _, _, d'⟩ := pb.isList
      rw [e, eo] at eo'; cases eo'; rw [d] at d'; cases d'
    have hd : X.A.in1.handled = none := I.ok.hd cl
    have l1 : i < ua.toArray.size := by simpa using (List.getElem?_eq_some_iff.mp g1).1
    have l2 : i < ub.toArray.size := by simpa using (List.getElem?_eq_some_iff.mp g2).1
    have zl : z < s.heap.objs.size := Heap.lt_size s1
    have d1 : Draws X.prog X.w X.A.in1 j1 [j1, a] _ _ _ := Draws.tuple hd j1 a nja ua.toArray
    have d2 : Draws X.prog X.w X.A.in1 j2 [j2, b] _ _ _ := Draws.list hd j2 b njb ub.toArray
    refine wpAny_pyNext_zipD2_item S d1 d2 s1 s2 s3 ⟨s4, pa⟩ ⟨s5, pb.isList⟩ l1 l2 fun w1 w2 h' tk e1 e2 t1 t2 t3 t4 t5 _ kp => ?_
    have w1' : w1 = u1 := by
      have : ua[i]? = some w1 := by simpa using e1
      rw [this] at g1; cases g1; rfl
    have w2' : w2 = u2 := by
      have : ub[i]? = some w2 := by simpa using e2
      rw [this] at g2; cases g2; rfl
    subst w1' w2'
    refine ⟨_, rfl, wpAny_letOwnedTupleGo_zip (s := { s with heap := h', toks := tk }) t1 fun h2 z2 sb => ?_⟩
    have t6 : h2.get? s.heap.objs.size = some { cls := .type "tuple", data := .seq #[w1, w2] } := (sb.2 _ (Nat.ne_of_gt zl)).trans t5
    have ok : ObjOk X.prog X.w (upd H s.heap.objs.size (.tup [x, y])) h2 s.heap.objs.size (.tup [x, y]) :=
      ⟨Nat.le_trans (by decide : 2 ≤ 2) (by decide : 2 ≤ sizeLine), [w1, w2], .cons r1 (.cons r2 .nil), ⟨_, t6, rfl, _, rfl⟩⟩
    have I1 : Inv X pins σ (upd H s.heap.objs.size (.tup [x, y])) { s with heap := h2, toks := tk } :=
      I.turnedNew (ch := [z, ti, to, j1, j2]) (fun c o nc eo => (sb.2 c fun e => nc (by simp [e])).trans (kp c o (fun e => nc (by simp [e])) (fun e => nc (by simp [e])) (fun e => nc (by simp [e])) (fun e => nc (by simp [e])) eo)) hf (Nat.le_refl _) ok
    have sj1 : ti ≠ z := S.TIz
    refine ⟨.ref s.heap.objs.size, _, I1, rfl, ⟨_, x, y, rfl, I.hok.fresh (Nat.le_refl _), rfl, fun l hl => I.tuple_inj hl qa ▸ ea, fun l hl => I.list_inj hl qb ▸ eb⟩, ⟨z2, ?_, ⟨w1, w2, (sb.2 _ S.TOz).trans t2⟩, t3.1.at fun o e => (sb.2 _ (Ne.symm S.zi1)).trans e, t4.1.at fun o e => (sb.2 _ (Ne.symm S.zi2)).trans e⟩, fun c hc => ?_⟩
    · exact (sb.2 _ sj1).trans (kp _ _ sj1 S.TITO S.TIi1 S.TIi2 s2)
    · obtain ⟨o, eo, _⟩ := st0.obj c hc
      rw [upd_ne (Nat.ne_of_lt (Heap.lt_size eo))]
      exact (hf c hc).1
  done := by
    rintro X rfl rfl rfl cl i pins s σ H E I hf st ⟨xs, ys, qa, qb, ia, ib, ie⟩
    obtain ⟨s1, s2, ⟨x0, y0, s3⟩, s4, s5⟩ := st
    obtain ⟨ua, va, pa, _⟩ := I.tuple qa
    obtain ⟨ub, vb, pb, _⟩ := I.list qb
    have nja : a ≠ j1 := fun e => by
      obtain ⟨o, eo, _, d⟩ := s4
      obtain ⟨o', eo', _, _, d'⟩ := pa
      rw [e, eo] at eo'; cases eo'; rw [d] at d'; cases d'
    have njb : b ≠ j2 := fun e => by
      obtain ⟨o, eo, _, d⟩ := s5
      obtain ⟨o', eo', _, _, d'⟩ := pb.isList
      rw [e, eo] at eo'; cases eo'; rw [d] at d'; cases d'
    have hd : X.A.in1.handled = none := I.ok.hd cl
    have la : ua.toArray.size = xs.length := by simpa using va.length.symm
    have lb : ub.toArray.size = ys.length := by simpa using vb.length.symm
    have d1 : Draws X.prog X.w X.A.in1 j1 [j1, a] _ _ _ := Draws.tuple hd j1 a nja ua.toArray
    have d2 : Draws X.prog X.w X.A.in1 j2 [j2, b] _ _ _ := Draws.list hd j2 b njb ub.toArray
    refine wpAny_pyNext_zipD2_end S d1 d2 s1 s2 s3 ⟨s4, pa⟩ ⟨s5, pb.isList⟩ (by omega) (by omega) (by omega) fun h' tk kp => ⟨rfl, ?_⟩
    exact I.turnedL (ch := [z, ti, to, j1, j2]) (fun c o nc eo => kp c o (fun e => nc (by simp [e])) (fun e => nc (by simp [e])) (fun e => nc (by simp [e])) (fun e => nc (by simp [e])) eo) hf
  self _ _ _ _ _ st q := wpAny_pyIter_zip st.1 q
def iZipM (K : PySem.W.Frag) (ta : TA) : TI := fun σ H R => ta σ H fun vs H1 => ∃ a b xs ys, vs = [.ref a, .ref b] ∧ SqT K H1 a xs ∧ SqL K H1 b ys ∧ R (ItzM K a b) H1
theorem pi_zipM {X : Cx} {e e2 : Expr} {ta : TA} {p pos tp : Pos} {es : List Expr} {n : Nat} (hg : Gl X "zip") (hm : X.mg "zip" = none) (ha : PA X [e, e2] ta)
    (na : starEach [e, e2] X.env = (false, eval e X.env) :: starEach [e2] X.env := by rfl) (nb : (backTo pos (starEach [e2] X.env)).any (·.1) = false := by rfl) :
    PI X (.Tuple es n tp) (.Call (.Name "zip" p) [e, e2] [] pos) (iZipM X.K ta) := by
  refine ⟨fun pins s σ H R I h => Call_ (ld_blt I hg hm PyProof.Rows.boot_zip (PyProof.Rows.callWith_type1 (thn (ha.run pos pins s σ H _ I h) ?_) na nb))⟩
  rintro us s1 ⟨vs, H1, I1, r1, a, b, xs, ys, rfl, qa, qb, q⟩
  cases r1 with
  | cons ra rb =>
    cases rb with
    | cons rb rr =>
      cases rr
      cases ra
      cases rb
      obtain ⟨ua, va, pa, _⟩ := I1.tuple qa
      obtain ⟨ub, vb, pb, _⟩ := I1.list qb
      have lta : a < s1.heap.objs.size := by
        obtain ⟨o, eo, _⟩ := id pa
        exact Heap.lt_size eo
      refine zip_begins2 (begins_tuple a ua.toArray) (begins_list b ub.toArray) pa pb.isList fun h' t1 t2 t3 t4 t5 _ kp => wpAny_pyIter_zip t1 ?_
      have I2 : Inv X pins σ H1 { s1 with heap := h' } := I1.kept (t' := s1.toks) kp
      have S := zip_sep2 (N := s1.heap.objs.size) (fp1 := [a]) (fp2 := [b]) (fun c hc => by simp at hc; rw [hc]; exact lta) (fun c hc => by simp at hc; rw [hc]; exact pb.lt)
      refine ⟨s1.heap.objs.size + 4, [s1.heap.objs.size + 4, s1.heap.objs.size + 2, s1.heap.objs.size + 3, s1.heap.objs.size, s1.heap.objs.size + 1], _, _, H1, rfl, I2, turn_zipM S, ⟨t1, t2, ⟨_, _, t3⟩, ⟨_, t4, rfl, rfl⟩, ⟨_, t5, rfl, rfl⟩⟩, fun c hc => ?_, q⟩
      have le : s1.heap.objs.size ≤ c := by
        simp only [List.mem_cons, List.not_mem_nil, or_false] at hc
        rcases hc with rfl | rfl | rfl | rfl | rfl <;> first | exact Nat.le_add_right _ _ | exact Nat.le_refl _
      exact I1.fpOk le (I1.hok.fresh le)
/-- a loop over zip of a tuple and a list of one length -/
theorem for_zipM {K : PySem.W.Frag} {a b : Addr} {xs ys : List V} {g : TG} {tb : TS} {D : Ends} {σ : L2.St} {H : Hp} (hl : xs.length = ys.length) (Pv : Nat → L2.St → Hp → Prop) (h0 : Pv 0 σ H) (hq : ∀ i σ H, Pv i σ H → SqT K H a xs ∧ SqL K H b ys)
    (hs : ∀ (i : Nat) (x y : V) (T : Addr) (σ : L2.St) (H : Hp), xs[i]? = some x → ys[i]? = some y → Pv i σ H → H T = none → g (.ref T) σ (upd H T (.tup [x, y])) fun σ2 H2 => tb { D with nx := Pv (i + 1), ct := Pv (i + 1), bk := D.nx } σ2 H2)
    (hd : ∀ σ H, Pv xs.length σ H → D.nx σ H) :
    ∃ W : Nat → Nat → L2.St → Hp → Prop, (∃ m, W 0 m σ H) ∧ ∀ i m σ H, W i m σ H →
      ((ItzM K a b).stop i H ∧ D.nx σ H) ∨ ((ItzM K a b).go i H ∧ ∃ N : L2.St → Hp → Prop, (∀ σ' H', N σ' H' → ∃ m', m' < m ∧ W (i + 1) m' σ' H') ∧
        ∀ v H', (ItzM K a b).yld i H v H' → g v σ H' fun σ2 H2 => tb { D with nx := N, ct := N, bk := D.nx } σ2 H2) := by
  refine ⟨fun i m σ H => i + m = xs.length ∧ Pv i σ H, ⟨xs.length, Nat.zero_add _, h0⟩, fun i m σ H hw => ?_⟩
  obtain ⟨em, pv⟩ := hw
  have ⟨qa, qb⟩ := hq i σ H pv
  cases m with
  | zero =>
    have e : i = xs.length := em
    subst e
    exact .inl ⟨⟨xs, ys, qa, qb, Nat.le_refl _, Nat.le_of_eq hl, .inl rfl⟩, hd σ H pv⟩
  | succ m =>
    have i1 : i < xs.length := by omega
    have i2 : i < ys.length := hl ▸ i1
    have ea := List.getElem?_eq_getElem i1
    have eb := List.getElem?_eq_getElem i2
    refine .inr ⟨⟨xs, ys, _, _, qa, qb, ea, eb⟩, Pv (i + 1), fun σ' H' p => ⟨m, Nat.lt_succ_self m, by omega, p⟩, fun v H' yv => ?_⟩
    obtain ⟨T, x, y, rfl, hT, rfl, f1, f2⟩ := yv
    exact hs i x y T σ H (f1 xs qa) (f2 ys qb) pv hT
end Ob

/-! ObAp: papers made anew from within; the row of papers from its end, each with how many are assumed round it. -/
namespace Ob
open PySem PySem.Spec PyProof.Rows L2
/-- a paper with other papers in the places of its own -/
def Pp.re : Pp → List Pp → Pp
  | .pair _ _, [x, y] => .pair x y
  | .first _, [x] => .first x
  | .second _, [x] => .second x
  | .left _ b, [x] => .left x b
  | .right b _, [x] => .right b x
  | .case _ _ _ c, [x, y, z] => .case x y z c
  | .make b _, [x] => .make b x
  | .apply _ _, [x, y] => .apply x y
  | .escape _ c, [x] => .escape x c
  | p, _ => p
/-- a paper changed from within -/
def Pp.rem (G : Pp → Nat → Pp) : Pp → Nat → Pp
  | .use k, m => G (.use k) m
  | .name n, m => G (.name n) m
  | .pair p q, m => G (.pair (p.rem G m) (q.rem G m)) m
  | .first p, m => G (.first (p.rem G m)) m
  | .second p, m => G (.second (p.rem G m)) m
  | .left p b, m => G (.left (p.rem G m) b) m
  | .right b p, m => G (.right b (p.rem G m)) m
  | .case p q r c, m => G (.case (p.rem G m) (q.rem G (m + 1)) (r.rem G (m + 1)) c) m
  | .make b p, m => G (.make b (p.rem G (m + 1))) m
  | .apply p q, m => G (.apply (p.rem G m) (q.rem G m)) m
  | .escape p c, m => G (.escape (p.rem G m) c) m
theorem rem_kids (G : Pp → Nat → Pp) (p : Pp) (m : Nat) : p.rem G m = G (p.re (p.kids.map fun k => k.2.rem G (m + p.inc k.1))) m := by
  cases p <;> simp [Pp.rem, Pp.kids, Pp.inc, Pp.wd, asmL, Pp.re]
/-- a list with so many items set -/
def setL (its : List V) (ks : List (Int × V)) : List V := ks.foldl (fun r k => r.set k.1.toNat k.2) its
theorem setL_len (ks : List (Int × V)) : ∀ its : List V, (setL its ks).length = its.length := by
  induction ks with
  | nil => intro its; rfl
  | cons k r ih =>
    intro its
    show (setL (its.set k.1.toNat k.2) r).length = _
    rw [ih, List.length_set]
theorem setL_app (its : List V) (ks : List (Int × V)) (k : Int × V) : setL its (ks ++ [k]) = (setL its ks).set k.1.toNat k.2 := by
  unfold setL
  rw [List.foldl_append]
  rfl
theorem zip_take {α β : Type} : ∀ {xs : List α} {ys : List β} {i : Nat} {x : α} {y : β}, xs[i]? = some x → ys[i]? = some y → (xs.zip ys).take (i + 1) = (xs.zip ys).take i ++ [(x, y)]
  | a :: xs, b :: ys, 0, x, y, h1, h2 => by
    injection h1 with h1
    injection h2 with h2
    subst h1 h2
    rfl
  | a :: xs, b :: ys, i + 1, x, y, h1, h2 => by
    have h := zip_take (xs := xs) (ys := ys) (i := i) (x := x) (y := y) h1 h2
    show (a, b) :: (xs.zip ys).take (i + 1) = (a, b) :: (xs.zip ys).take i ++ [(x, y)]
    rw [h]
    rfl
/-- the paper's tuple, and what comes of it with other papers in its places -/
theorem IsPp.rb {K : PySem.W.Frag} {H : Hp} {v : V} {p : Pp} (h : IsPp K H v p) : ∃ a its, v = .ref a ∧ SqT K H a its ∧ atI its 0 = some (.str p.wd.s) ∧ its.length ≤ 5 ∧ (∀ i ∈ p.wd.pl, 0 ≤ i ∧ i.toNat < its.length) ∧
    ∀ (H' : Hp) (a' : Addr) (ys : List V) (ks : List Pp), TK K H H' → Paired (IsPp K H') ys ks → ks.length = p.kids.length → SqT K H' a' (setL its (p.wd.pl.zip ys)) → IsPp K H' (.ref a') (p.re ks) := by
  cases h with
  | use h => exact ⟨_, _, rfl, h, at0, by simp, by simp [Pp.wd, PW.pl], fun H' a' ys ks tk py e t => by cases py with | nil => exact .use t | cons _ _ => cases e⟩
  | name h => exact ⟨_, _, rfl, h, at0, by simp, by simp [Pp.wd, PW.pl], fun H' a' ys ks tk py e t => by cases py with | nil => exact .name t | cons _ _ => cases e⟩
  | pair h p q => exact ⟨_, _, rfl, h, at0, by simp, by simp [Pp.wd, PW.pl], fun H' a' ys ks tk py e t => by
      cases py with
      | nil => cases e
      | cons h1 py =>
        cases py with
        | nil => cases e
        | cons h2 py => cases py with
          | nil => exact .pair t h1 h2
          | cons _ _ => cases e⟩
  | apply h p q => exact ⟨_, _, rfl, h, at0, by simp, by simp [Pp.wd, PW.pl], fun H' a' ys ks tk py e t => by
      cases py with
      | nil => cases e
      | cons h1 py =>
        cases py with
        | nil => cases e
        | cons h2 py => cases py with
          | nil => exact .apply t h1 h2
          | cons _ _ => cases e⟩
  | first h p => exact ⟨_, _, rfl, h, at0, by simp, by simp [Pp.wd, PW.pl], fun H' a' ys ks tk py e t => by
      cases py with
      | nil => cases e
      | cons h1 py => cases py with
        | nil => exact .first t h1
        | cons _ _ => cases e⟩
  | second h p => exact ⟨_, _, rfl, h, at0, by simp, by simp [Pp.wd, PW.pl], fun H' a' ys ks tk py e t => by
      cases py with
      | nil => cases e
      | cons h1 py => cases py with
        | nil => exact .second t h1
        | cons _ _ => cases e⟩
  | left h p s => exact ⟨_, _, rfl, h, at0, by simp, by simp [Pp.wd, PW.pl], fun H' a' ys ks tk py e t => by
      cases py with
      | nil => cases e
      | cons h1 py => cases py with
        | nil => exact .left t h1 (s.tk tk)
        | cons _ _ => cases e⟩
  | right h p s => exact ⟨_, _, rfl, h, at0, by simp, by simp [Pp.wd, PW.pl], fun H' a' ys ks tk py e t => by
      cases py with
      | nil => cases e
      | cons h1 py => cases py with
        | nil => exact .right t h1 (s.tk tk)
        | cons _ _ => cases e⟩
  | make h p s => exact ⟨_, _, rfl, h, at0, by simp, by simp [Pp.wd, PW.pl], fun H' a' ys ks tk py e t => by
      cases py with
      | nil => cases e
      | cons h1 py => cases py with
        | nil => exact .make t h1 (s.tk tk)
        | cons _ _ => cases e⟩
  | escape h p s => exact ⟨_, _, rfl, h, at0, by simp, by simp [Pp.wd, PW.pl], fun H' a' ys ks tk py e t => by
      cases py with
      | nil => cases e
      | cons h1 py => cases py with
        | nil => exact .escape t h1 (s.tk tk)
        | cons _ _ => cases e⟩
  | case h p q r s => exact ⟨_, _, rfl, h, at0, by simp, by simp [Pp.wd, PW.pl], fun H' a' ys ks tk py e t => by
      cases py with
      | nil => cases e
      | cons h1 py =>
        cases py with
        | nil => cases e
        | cons h2 py =>
          cases py with
          | nil => cases e
          | cons h3 py => cases py with
            | nil => exact .case t h1 h2 h3 (s.tk tk)
            | cons _ _ => cases e⟩
/-! ### from the end of the row, with how many are assumed -/
def lvs (F : List (Pp × Nat)) : List (Pp × Nat) := F.flatMap fun x => x.1.lvl x.2
def kidm (x : Pp × Nat) : List (Pp × Nat) := x.1.kids.map fun k => (k.2, x.2 + x.1.inc k.1)
def stpm : List (Pp × Nat) → List (Pp × Nat)
  | [] => []
  | x :: F => kidm x ++ F
def fom (p : Pp) : Nat → List (Pp × Nat)
  | 0 => [(p, 0)]
  | j + 1 => stpm (fom p j)
theorem lvs_cons (x : Pp × Nat) (F : List (Pp × Nat)) : lvs (x :: F) = x :: (lvs (kidm x) ++ lvs F) := by
  unfold lvs
  rw [List.flatMap_cons, lvl_kids]
  rfl
theorem lvs_drop : ∀ F : List (Pp × Nat), (lvs F).drop 1 = lvs (stpm F)
  | [] => rfl
  | x :: F => by
    rw [lvs_cons, List.drop_succ_cons, List.drop_zero]
    show _ = lvs (kidm x ++ F)
    unfold lvs
    rw [List.flatMap_append]
theorem fom_drop (p : Pp) : ∀ j : Nat, (p.lvl 0).drop j = lvs (fom p j)
  | 0 => by
    show p.lvl 0 = p.lvl 0 ++ []
    rw [List.append_nil]
  | j + 1 => by
    show _ = lvs (stpm (fom p j))
    rw [← lvs_drop, ← fom_drop p j, List.drop_drop]
theorem fom_at {p : Pp} {j : Nat} {x : Pp × Nat} (h : (p.lvl 0)[j]? = some x) : ∃ F, fom p j = x :: F ∧ fom p (j + 1) = kidm x ++ F := by
  have h1 : ((p.lvl 0).drop j)[0]? = some x := by
    rw [List.getElem?_drop]
    exact h
  rw [fom_drop] at h1
  cases e : fom p j with
  | nil =>
    rw [e] at h1
    cases h1
  | cons q F =>
    rw [e, lvs_cons] at h1
    have : q = x := by simpa using h1
    subst this
    refine ⟨F, rfl, ?_⟩
    show stpm (fom p j) = _
    rw [e]
    rfl
theorem fom_end {p : Pp} {j : Nat} (h : (p.lvl 0).length ≤ j) : fom p j = [] := by
  have h1 := fom_drop p j
  rw [List.drop_of_length_le h] at h1
  cases e : fom p j with
  | nil => rfl
  | cons q F =>
    rw [e, lvs_cons] at h1
    cases h1
theorem lvs_len : ∀ F : List (Pp × Nat), F.length ≤ (lvs F).length
  | [] => Nat.le_refl _
  | x :: F => by
    have := lvs_len F
    rw [lvs_cons, List.length_cons, List.length_cons, List.length_append]
    omega
theorem fom_len (p : Pp) (j : Nat) : (fom p j).length ≤ p.wt := by
  have h := lvs_len (fom p j)
  rw [← fom_drop, List.length_drop] at h
  have h2 := (lvl_len p 0).2
  omega
theorem kidm_rem (G : Pp → Nat → Pp) (x : Pp × Nat) : x.1.rem G x.2 = G (x.1.re ((kidm x).map fun y => y.1.rem G y.2)) x.2 := by
  unfold kidm
  rw [rem_kids, List.map_map]
  rfl
theorem kidm_len (x : Pp × Nat) : (kidm x).length = x.1.kids.length := by
  unfold kidm
  rw [List.length_map]
/-- the uses of a number from at on made greater -/
def mvG (at_ by_ : Int) : Pp → Nat → Pp
  | .use k, _ => .use (k + by_ * (if at_ ≤ k then 1 else 0))
  | p, _ => p
theorem rem_mv (at_ by_ : Int) : ∀ (p : Pp) (m : Nat), p.rem (mvG at_ by_) m = p.mv at_ by_
  | .use k, m => rfl
  | .name n, m => rfl
  | .pair p q, m => by simp only [Pp.rem, rem_mv at_ by_ p, rem_mv at_ by_ q]; rfl
  | .first p, m => by simp only [Pp.rem, rem_mv at_ by_ p]; rfl
  | .second p, m => by simp only [Pp.rem, rem_mv at_ by_ p]; rfl
  | .left p b, m => by simp only [Pp.rem, rem_mv at_ by_ p]; rfl
  | .right b p, m => by simp only [Pp.rem, rem_mv at_ by_ p]; rfl
  | .case p q r c, m => by simp only [Pp.rem, rem_mv at_ by_ p, rem_mv at_ by_ q, rem_mv at_ by_ r]; rfl
  | .make b p, m => by simp only [Pp.rem, rem_mv at_ by_ p]; rfl
  | .apply p q, m => by simp only [Pp.rem, rem_mv at_ by_ p, rem_mv at_ by_ q]; rfl
  | .escape p c, m => by simp only [Pp.rem, rem_mv at_ by_ p]; rfl
end Ob

/-! ObAq: the code of a def, and its table from call to call. -/
namespace Ob
open PySem PySem.Spec PyProof.Rows L2 LamX
/-- the code object of the def x is at c -/
def Cd (K : PySem.W.Frag) (mg : Str → Option Value) (x : Str) (c : Addr) : Prop := ∀ (f : Addr) (oc : Value) (od : Option Addr) (fd : FuncData) (osl : Array (Option Value)), mg x = some (.ref f) → K.lookup f = some ⟨oc, od, .func fd, osl⟩ → fd.code = .ref c
theorem cd_of {K : PySem.W.Frag} {h : Heap} {mg : Str → Option Value} {x : Str} {c P : Addr} (X : K.In h) (G : h.Ns mainGlobals mg) (ht : PySem.W.tabIn K x = some (c, P)) : Cd K mg x c :=
  fun _ _ _ _ _ m lk => PySem.W.law_code X G ht m (X _ _ lk) rfl
section
variable {P : Program} {w : World} {K : PySem.W.Frag} {mg : Str → Option Value} {base : Heap}
/-- a def's promise, where its code object is asked for -/
theorem Df.okC {x : Str} {st : Stmt} {ps N : List Str} {k : Nat} {sp : Sp} {c : Addr} (D : Df K mg x st ps) (S : FnScope N ps (defScope st)) (len : ∀ vs H Q E, sp vs H Q E → vs.length = ps.length) (hc : Cd K mg x c)
    (hbody : ∀ (f : Addr) (A : Around) (outer : List Env) (s : Shared) (H : Hp) (vs : List V) (Q : VK) (E : XK), Room k (A.deeper (envOfC x (defScope st) s.heap.objs.size f (.ref c))) → sp vs H Q E →
      ∃ t, PSs (cxOf CX0 P w K mg base N x (defScope st) f (.ref c) A outer s H E).nox (defBody st) t ∧ t { nx := fun _ H' => Q .non H', rt := Q } (start N vs) H) : Cl P w K mg base (k + 1) x sp := by
  obtain ⟨f, fd, F, m, b⟩ := D.ex
  have F0 := F
  obtain ⟨oc, od, kV, doc, pm, an, cdv, ct, osl, rfl, lk, hcd⟩ := F.ex
  have ec : cdv = .ref c := hc f _ _ _ _ m lk
  subst ec
  refine ⟨f, _, ps, ⟨len, fun A outer s H args us vs Q E hr e0 hb r h => ?_⟩, m, F0.kp, b⟩
  refine run_ofS lk hcd S hr e0 hb r (len vs H Q E h) fun hr' => ?_
  obtain ⟨t, h1, h2⟩ := hbody f A outer s H vs Q E hr' h
  exact ⟨t, h1.nox, h2⟩
end
theorem ExtN.tk {K : PySem.W.Frag} {H H' : Hp} (e : ExtN H H') : TK K H H' := by
  rintro a xs ((h | ⟨o, h⟩) | h)
  · exact .inl (.inl (e _ _ h fun _ z => nomatch z))
  · exact .inl (.inr ⟨o, e _ _ h fun _ z => nomatch z⟩)
  · exact .inr h
theorem ExtN.same {H H1 H2 : Hp} (e : ExtN H H1) (s : Same H1 H2) : ExtN H H2 := e.trans (ExtN.of s)
theorem ExtN.free {H H' : Hp} (e : ExtN H H') {p : Addr} (n : H' p = none) : H p = none ∨ ∃ ps, H p = some (.tbl ps) := by
  cases h : H p with
  | none => exact .inl rfl
  | some o =>
    cases o with
    | tbl ps => exact .inr ⟨ps, rfl⟩
    | _ => rw [e _ _ h fun _ z => nomatch z] at n; cases n
theorem TabS.same {H H' : Hp} {P : Addr} {q : Str} (t : TabS H P q) (s : Same H H') : TabS H' P q := t.ext s
theorem TabS.but {H H' : Hp} {P st : Addr} {q : Str} {xs : List V} (t : TabS H P q) (b : But st H H') (hs : H st = some (.lst xs)) : TabS H' P q := by
  obtain ⟨ps, h1, h2, h3⟩ := t
  refine ⟨ps, b _ _ (fun z => by rw [z, hs] at h1; cases h1) h1, h2, fun pos cv hc => ?_⟩
  obtain ⟨c, e1, e2⟩ := h3 pos cv hc
  exact ⟨c, e1, b _ _ (fun z => by rw [z, hs] at e2; cases e2) e2⟩
theorem Tabs.same {T : List (Addr × Str)} {H H' : Hp} (t : Tabs T H) (s : Same H H') : Tabs T H' := t.ext s
theorem Tabs.but {T : List (Addr × Str)} {H H' : Hp} {st : Addr} {xs : List V} (t : Tabs T H) (b : But st H H') (hs : H st = some (.lst xs)) : Tabs T H' := fun p hp => TabS.but (t p hp) b hs
theorem TabS.putK {H : Hp} {P M : Addr} {q : Str} {kvs : List (Key × V)} {o : HO} (t : TabS H P q) (h : H M = some (.dK kvs)) : TabS (upd H M o) P q := by
  obtain ⟨ps, h1, h2, h3⟩ := t
  refine ⟨ps, ?_, h2, fun pos cv hc => ?_⟩
  · rw [upd_ne (fun z => by rw [z, h] at h1; cases h1)]
    exact h1
  · obtain ⟨c, e1, e2⟩ := h3 pos cv hc
    refine ⟨c, e1, ?_⟩
    rw [upd_ne (fun z => by rw [z, h] at e2; cases e2)]
    exact e2
theorem Tabs.putK {T : List (Addr × Str)} {H : Hp} {M : Addr} {kvs : List (Key × V)} {o : HO} (t : Tabs T H) (h : H M = some (.dK kvs)) : Tabs T (upd H M o) := fun p hp => TabS.putK (t p hp) h
theorem tk_dK {K : PySem.W.Frag} {H : Hp} {M : Addr} {kvs : List (Key × V)} {o : HO} (h : H M = some (.dK kvs)) : TK K H (upd H M o) := by
  rintro b xs ((e | ⟨u, e⟩) | e)
  · exact .inl (.inl (by rw [upd_ne (fun z => by rw [z, h] at e; cases e)]; exact e))
  · exact .inl (.inr ⟨u, by rw [upd_ne (fun z => by rw [z, h] at e; cases e)]; exact e⟩)
  · exact .inr e
theorem ExtN.put {H H' : Hp} {M : Addr} {o : HO} (e : ExtN H H') (n : H M = none) : ExtN H (upd H' M o) := fun b u h k => by
  rw [upd_ne (fun z => by rw [z, n] at h; cases h)]
  exact e b u h k
/-- all but the tables and the object at st stay -/
def ExtB (st : Addr) (H H' : Hp) : Prop := ∀ b o, b ≠ st → H b = some o → (∀ ps, o ≠ .tbl ps) → H' b = some o
theorem ExtB.refl (st : Addr) (H : Hp) : ExtB st H H := fun _ _ _ h _ => h
theorem ExtB.of {st : Addr} {H H' : Hp} (e : ExtN H H') : ExtB st H H' := fun b o _ h n => e b o h n
theorem ExtB.ofB {st : Addr} {H H' : Hp} (e : But st H H') : ExtB st H H' := fun b o n h _ => e b o n h
theorem ExtB.trans {st : Addr} {H H1 H2 : Hp} (a : ExtB st H H1) (b : ExtB st H1 H2) : ExtB st H H2 := fun c o h n k => b c o h (a c o h n k) k
theorem ExtB.out {st : Addr} {H0 H H' : Hp} (s : ExtN H0 H) (n : H0 st = none) (b : ExtB st H H') : ExtN H0 H' := fun c o h k => b c o (fun z => by rw [z, n] at h; cases h) (s c o h k) k
end Ob

/-! Sets of numbers made by a comprehension. -/
namespace PpI
open PySem PySem.Spec PyProof.Rows L2 Ob SX
set_option maxHeartbeats 2000000
section
variable {X : Cx} {pins : List (Addr × Obj)} {σ : L2.St} {H : Hp} {s : Shared}
theorem setO_add {D : Addr} {S : Int → Bool} {n : Nat} {k : Int} {v : Value} {E : Value → Shared → Prop} {Q : Value → Shared → Prop} (I : Inv X pins σ H s) (hv : RelV (.int k) v) (hD : H D = some (SetO X.w D S n)) (room : n + 1 < scanBound)
    (h : ∀ s', Inv X pins σ (upd H D (SetO X.w D (fun j => S j || decide (j = k)) (if S k = true then n else n + 1))) s' → Q .none s') : wpAny (model X.prog X.w) X.A (call (.builtin "set.add") [.ref D, v]) Q E s := by
  obtain ⟨u, rfl⟩ := hv
  refine setR_add (setO_get I hD) room fun h' sb R => ?_
  have there : ∃ o, h'.get? D = some o := by
    obtain ⟨o, _, _, _, e, _⟩ := id R
    exact ⟨o, e⟩
  exact h _ (I.write (e := D) (t' := s.toks + 1) (by rw [hD]; trivial) (.inl rfl) (fun b o hb e => (sb.2 b hb).trans e) there (setO_new R))
/-- {elt for target in iter if ..}, elt a number: D the new set -/
def tSi (w : World) (wi : TI) (g : TG) (tt : TT) (te : TE) (vs : List Nat) : TE := fun σ H Q => wi σ H fun J H1 => ∀ D, H1 D = none → ∃ W : Nat → Nat → Hp → Prop, (∃ m, W 0 m (upd H1 D (SetO w D (fun _ => false) 0))) ∧ ∀ i m H, W i m H →
  (J.stop i H ∧ Q (.ref D) H) ∨ (J.go i H ∧ ∃ Nx : Hp → Prop, (∀ H', Nx H' → ∃ m', m' < m ∧ W (i + 1) m' H') ∧ ∀ x H', J.yld i H x H' → g x (wipe σ vs) H' fun σ2 H2 => wipe σ2 vs = wipe σ vs ∧ tt σ2 H2 fun b H3 =>
    if b = true then te σ2 H3 fun y H4 => ∃ (x : Int) (S : Int → Bool) (k : Nat), y = .int x ∧ H4 D = some (SetO w D S k) ∧ k + 1 < scanBound ∧ Nx (upd H4 D (SetO w D (fun j => S j || decide (j = x)) (if S x = true then k else k + 1))) else Nx H3)
theorem pe_si {elt tg iter : Expr} {ifs : List Expr} {scope : Scope} {own : List (Str × Nat)} {pos : Pos} {wi : TI} {g : TG} {tt : TT} {te : TE} (hc : X.calm = true) (hN : X.N.Nodup) (hi : PI X tg iter wi) (ok : BlkOk X.N X.env.scope scope own)
    (hg : ∀ (s : Shared) (H : Hp) (C : Addr) (cl : List (Str × Addr)) (fp : List Addr), PG (X.blk s H scope (compEnvC scope cl C X.env) fp) tg g) (ht : ∀ (s : Shared) (H : Hp) (C : Addr) (cl : List (Str × Addr)) (fp : List Addr), PTs (X.blk s H scope (compEnvC scope cl C X.env) fp) ifs tt)
    (he : ∀ (s : Shared) (H : Hp) (C : Addr) (cl : List (Str × Addr)) (fp : List Addr), PE (X.blk s H scope (compEnvC scope cl C X.env) fp) elt te)
    (hs : ∀ x, foldedSetIterable iter X.env x = pure x := by intro _; rfl) : PE X (.SetComp elt [⟨tg, iter, ifs, 0⟩] scope pos) (tSi X.w wi g tt te (own.map (·.2))) := by
  refine ⟨fun pins s σ H Q I h => ?_⟩
  rw [PpSet.eval_SetComp]
  have hfree : ∀ y ∈ scope.names, y.2 = .free → ∃ c, X.env.cells.lookup y.1 = some c := fun y hy e => (ok.free y hy e).elim (fun k => I.ok.has _ (.inl k)) fun k => I.ok.has _ (.inr k)
  refine comp_raise rfl hs (closure_ok hfree) ok.kind (fun y hy e => by rw [ok.uniq y hy, e]) (thn (hi.run pins s σ H _ I h) fun xv s1 hx => thn hx fun itv s2 h2 => ?_)
  obtain ⟨it, fp, tn, J, H2, e, I2, T, st2, f2, q⟩ := h2
  subst e
  refine PpSet.newSet_ok (newEnv_comp ?_)
  obtain ⟨D, hD⟩ : ∃ D, s2.heap.objs.size = D := ⟨_, rfl⟩
  rw [hD]
  have hDn : H2 D = none := I2.hok.fresh (Nat.le_of_eq hD)
  obtain ⟨W0, ⟨m0, w0⟩, turn⟩ := q D hDn
  obtain ⟨s3, hs3⟩ : ∃ s3 : Shared, ({ s2 with heap := s2.heap.push { cls := .type "set", dict := none, data := .set #[] 0 (.fresh 0 0 (!X.w.params.followText "set-order")) } } : Shared) = s3 := ⟨_, rfl⟩
  rw [hs3]
  have h3 : ∃ o, s3.heap = s2.heap.push o := ⟨_, by rw [← hs3]⟩
  obtain ⟨H3, hH3⟩ : ∃ H3, upd H2 D (SetO X.w D (fun _ => false) 0) = H3 := ⟨_, rfl⟩
  rw [hH3] at w0
  have I3 : Inv X pins σ H3 s3 := by
    rw [← hs3, ← hH3]
    refine I2.laid (t' := s2.toks) (fun b o e => Heap.get?_push_of_some _ e) (Nat.le_of_eq hD) (setO_new ?_)
    rw [← hD]
    exact setR_fresh X.w
  obtain ⟨o3, h3⟩ := h3
  have f3 : ∀ b ∈ fp, FpOk X pins H3 b ∧ b < s3.heap.objs.size := fun b hb => by
    obtain ⟨o, e, _⟩ := T.obj _ _ st2 b hb
    have hlt := Heap.lt_size e
    refine ⟨⟨?_, (f2 b hb).2⟩, by rw [h3, Heap.size_push]; exact Nat.lt_succ_of_lt hlt⟩
    rw [← hH3, upd_ne (by rw [← hD]; exact Nat.ne_of_lt hlt)]
    exact (f2 b hb).1
  have st3 : tn 0 s3.heap := T.keep _ _ _ st2 fun b _ o e => by rw [h3]; exact Heap.get?_push_of_some _ e
  have I4 := block_start I3 ok hN f3
  obtain ⟨cl, hcl⟩ : ∃ cl, cellsFrom (s3.heap.objs.size + 1) scope.names (cloFrom X.env.cells scope.names []) = cl := ⟨_, rfl⟩
  rw [hcl] at I4
  have pg := hg s3 H3 s3.heap.objs.size cl fp
  have pt := ht s3 H3 s3.heap.objs.size cl fp
  have pe := he s3 H3 s3.heap.objs.size cl fp
  obtain ⟨s4, hs4⟩ : ∃ s4 : Shared, ({ s3 with heap := pushCells (s3.heap.push { cls := .type "dict", data := .dict #[] }) scope.names } : Shared) = s4 := ⟨_, rfl⟩
  have goal : codeAny (model X.prog X.w) X.A (.compStart (.SetComp elt [⟨tg, iter, ifs, 0⟩] scope pos) 0 (.ref it) (.ref D) (compEnvC scope cl s3.heap.objs.size X.env)) (postX (model X.prog X.w) X.A X.xe (EP X pins σ Q) (.ref D) (compEnvC scope cl s3.heap.objs.size X.env)) s4 := by
    rw [hs4] at I4
    have cL : (compEnvC scope cl s3.heap.objs.size X.env).locals = s3.heap.objs.size := rfl
    generalize compEnvC scope cl s3.heap.objs.size X.env = ce at I4 pg pt pe cL ⊢
    have st4 : tn 0 s4.heap := T.keep _ _ _ st3 fun b _ o e => by rw [← hs4]; exact pushCells_keeps _ _ _ _ (Heap.get?_push_of_some _ e)
    have stat : ∀ {σ' : L2.St} {H' : Hp} {s' : Shared}, Inv (X.blk s3 H3 scope ce fp) [] σ' H' s' → (∀ b ∈ fp, H' b = none) → ∀ b ∈ fp, FpOk (X.blk s3 H3 scope ce fp) [] H' b := fun I' hn b hb =>
      ⟨hn b hb, (I'.ok.exf b hb).1, I'.ok.exfs b hb, .inl hb, fun x c e => (I'.ok.exf b hb).2 x c e, fun p hp => absurd (show p ∈ ([] : List (Addr × Obj)) ++ [] from hp) (by simp)⟩
    have loop : codeAny (model X.prog X.w) X.A (.compLoop (.SetComp elt [⟨tg, iter, ifs, 0⟩] scope pos) 0 (.ref it) (.ref D) ce) (postX (model X.prog X.w) X.A X.xe (EP X pins σ Q) (.ref D) ce) s4 := by
      refine PpSet.compLoopS_any (fun n s' => ∃ i H', Inv (X.blk s3 H3 scope ce fp) [] (wipe σ (own.map (·.2))) H' s' ∧ tn i s'.heap ∧ (∀ b ∈ fp, H' b = none) ∧ W0 i n H') ?_ m0 ⟨0, H3, I4, st4, fun b hb => (f3 b hb).1.1, w0⟩
      rintro n s5 ⟨i, H5, I5, st5, n5, w5⟩
      rcases turn i n H5 w5 with ⟨stop, qq⟩ | ⟨go, Nx, hNx, step⟩
      · refine thnF (T.done (X.blk s3 H3 scope ce fp) rfl rfl rfl hc i [] s5 _ H5 (fun _ _ => False) I5 (stat I5 n5) st5 stop) fun r s6 ⟨hr, I6⟩ => ?_
        subst hr
        have I7 : Inv X pins σ H5 s6 := I3.call' (ch := fp) I6.os I6.base I6.hok I6.bare fun b hb => ⟨(f3 b hb).1.2.2.2.1, (f3 b hb).1.2.1, (f3 b hb).1.2.2.2.2.1, (f3 b hb).1.2.2.2.2.2⟩
        obtain ⟨m, hn, _⟩ := I6.loc
        have nC : H5 s3.heap.objs.size = none := by
          rw [← cL]
          exact I6.free
        refine ⟨m, hn, fun h'' sb => ?_⟩
        rw [cL] at sb
        obtain ⟨k0, k1, k2, k3, k4, k5⟩ := I3.fpOk (Nat.le_refl _) nC
        exact ⟨.ref D, H5, I7.turned (t' := s6.toks) (fun b o hb e => (sb.2 b hb).trans e) k0 k1 k3 k4 k5, rfl, qq⟩
      · refine thnF (T.item (X.blk s3 H3 scope ce fp) rfl rfl rfl hc i [] s5 _ H5 (fun _ _ => False) I5 (stat I5 n5) st5 go) fun r s6 ⟨u, hr, h6⟩ => ?_
        subst hr
        refine thnF h6 fun _ s7 ⟨x, H7, I7, r7, y7, st7, n7⟩ => ?_
        refine thnF (pg.run _ s7 _ H7 x u _ (I7.pinned (stat I7 n7) (T.obj _ _ st7)) r7 (step x H7 y7)) fun _ s8 ⟨σ8, H8, I8, hw8, q8⟩ => ?_
        refine thnF (pt.run _ s8 σ8 H8 _ I8 q8) fun b s9 ⟨H9, I9, q9⟩ => ?_
        have fin : ∀ {s' : Shared} {H' : Hp}, Inv (X.blk s3 H3 scope ce fp) ([] ++ pinsAt fp s7.heap) σ8 H' s' → Nx H' → ∃ m, m < n ∧ ∃ i H', Inv (X.blk s3 H3 scope ce fp) [] (wipe σ (own.map (·.2))) H' s' ∧ tn i s'.heap ∧ (∀ b ∈ fp, H' b = none) ∧ W0 i m H' := fun {s' H'} I' nx => by
          obtain ⟨m', hm, w'⟩ := hNx H' nx
          have pin' : ∀ b ∈ fp, ∀ o, s7.heap.get? b = some o → s'.heap.get? b = some o ∧ H' b = none := fun b hb o e =>
            ⟨(I'.pin (b, o) (List.mem_append_right _ (List.mem_append_right _ (mem_pinsAt hb e)))).1, (I'.pin (b, o) (List.mem_append_right _ (List.mem_append_right _ (mem_pinsAt hb e)))).2.1⟩
          refine ⟨m', hm, i + 1, H', (I'.unpinned (pins := [])).weak (by rw [← hw8, wipe_length]) (fun j v e => ?_), T.keep _ _ _ st7 fun b hb o e => (pin' b hb o e).1, fun b hb => ?_, w'⟩
          · rw [← hw8] at e
            exact (wipe_some e).1
          · obtain ⟨o, e, _⟩ := T.obj _ _ st7 b hb
            exact (pin' b hb o e).2
        cases b with
        | false =>
          simp only [Bool.false_eq_true, if_false] at q9 ⊢
          exact fin I9 q9
        | true =>
          simp only [if_true] at q9 ⊢
          refine thnF (pe.run _ s9 σ8 H9 _ I9 q9) fun z s10 ⟨yv, H10, I10, r10, tx, S0, k0, ey, hD10, hz10, nx⟩ => ?_
          subst ey
          exact setO_add (X := X.blk s3 H3 scope ce fp) I10 r10 hD10 hz10 fun s11 I11 => fin I11 nx
    exact PpSet.codeAny_compStart_set loop (T.self X.A 0 _ _ _ st4 loop)
  rw [← hs4, ← hcl] at goal
  exact goal
end
/-- over a list that the block leaves as it is: the texts so far as a list -/
theorem si_list {w : World} {K : PySem.W.Frag} {a : Addr} {xs : List V} {g : TG} {tt : TT} {te : TE} {vs : List Nat} {σ : L2.St} {H1 : Hp} {D : Addr} {Qd : Hp → Prop} (Pv : Nat → Hp → Prop) (h0 : Pv 0 (upd H1 D (SetO w D (fun _ => false) 0))) (hl : ∀ i H, Pv i H → SqL K H a xs)
    (hs : ∀ i x H, xs[i]? = some x → Pv i H → g x (wipe σ vs) H fun σ2 H2 => wipe σ2 vs = wipe σ vs ∧ tt σ2 H2 fun b H3 =>
      if b = true then te σ2 H3 fun y H4 => ∃ (x : Int) (S : Int → Bool) (k : Nat), y = .int x ∧ H4 D = some (SetO w D S k) ∧ k + 1 < scanBound ∧ Pv (i + 1) (upd H4 D (SetO w D (fun j => S j || decide (j = x)) (if S x = true then k else k + 1))) else Pv (i + 1) H3) (hd : ∀ H, Pv xs.length H → Qd H) :
    ∃ W : Nat → Nat → Hp → Prop, (∃ m, W 0 m (upd H1 D (SetO w D (fun _ => false) 0))) ∧ ∀ i m H, W i m H →
      ((Itl K a).stop i H ∧ Qd H) ∨ ((Itl K a).go i H ∧ ∃ Nx : Hp → Prop, (∀ H', Nx H' → ∃ m', m' < m ∧ W (i + 1) m' H') ∧ ∀ x H', (Itl K a).yld i H x H' → g x (wipe σ vs) H' fun σ2 H2 => wipe σ2 vs = wipe σ vs ∧ tt σ2 H2 fun b H3 =>
        if b = true then te σ2 H3 fun y H4 => ∃ (x : Int) (S : Int → Bool) (k : Nat), y = .int x ∧ H4 D = some (SetO w D S k) ∧ k + 1 < scanBound ∧ Nx (upd H4 D (SetO w D (fun j => S j || decide (j = x)) (if S x = true then k else k + 1))) else Nx H3) := by
  refine ⟨fun i m H => i + m = xs.length ∧ Pv i H, ⟨xs.length, Nat.zero_add _, h0⟩, ?_⟩
  rintro i m H ⟨e, p⟩
  have q := hl i H p
  cases m with
  | zero => exact .inl ⟨⟨xs, q, by omega⟩, hd H (by rw [← e]; exact p)⟩
  | succ m =>
    have hlt : i < xs.length := by omega
    refine .inr ⟨⟨xs, xs[i], q, by simp [hlt]⟩, Pv (i + 1), fun H' p' => ⟨m, Nat.lt_succ_self m, by omega, p'⟩, fun x H' y => ?_⟩
    obtain ⟨rfl, y⟩ := y
    exact hs i x _ (y xs q) p
end PpI

/-! ObAt: a def within a def, handed to another def beside other arguments. -/
namespace Ob
open PySem PySem.Spec PyProof.Rows L2 LamX NdefX
set_option maxHeartbeats 2000000
/-- what the def F at f promises where its captured names hold ws -/
def spNd (F : NF) (f : Addr) (ws : List (Option V)) (sp : List (Option V) → Sp) : Sp := fun vs H Q E => H f = some (FnO f F) ∧ H F.c = some (CodeO F.c F.qual) ∧ sp ws vs H Q E
theorem nd_act {P : Program} {w : World} {K : PySem.W.Frag} {mg : Str → Option Value} {base : Heap} {k : Nat} {f : Addr} {F : NF} {ps fr : List Str} {sp : List (Option V) → Sp} {ws : List (Option V)} {fs : List Addr} {H0 : Hp} {h0 : Heap}
    (N : NOk P w K mg base CX0 k f F ps fr sp) (hf : H0 f = some (FnO f F)) (C : CellsAt F.cl fr ws h0 H0) : Act P w K mg base k fs H0 h0 f (spNd F f ws sp) := by
  refine ⟨fun H h u ok kp => ?_, fun A outer s H us vs Q hr e0 u r hsp => ?_⟩
  · obtain ⟨od, sl, doc, pm, ctv, ho⟩ := fnO_at ok (kp _ hf)
    exact ⟨_, _, _, _, ho⟩
  · obtain ⟨h1, h2, h3⟩ := hsp
    exact N.run A outer s H us vs ws Q E0 hr e0 h1 h2 (cells_un C u) r h3
/-- x(e, g): the def x is handed the function that the i-th slot holds -/
def tNdArg (mk : Addr → NF) (i : Nat) (js : List Nat) (sp : Addr → Sp → Sp) (spn : List (Option V) → Sp) (t1 : TE) : TE := fun σ H Q => t1 σ H fun v H1 => ∃ f c', σ[i]? = some (some (.ref f)) ∧ H1 f = some (FnO f (mk c')) ∧ sp f (spNd (mk c') f (js.map (slotAt σ)) spn) [v, .ref f] H1 Q E0
theorem pe_ndarg {X : Cx} {ps fr : List Str} {js : List Nat} {cl : List (Str × Addr)} {mk : Addr → NF} {x y : Str} {sp : Addr → Sp → Sp} {spn : List (Option V) → Sp} {i k j m : Nat} {e1 : Expr} {p py pos : Pos} {t1 : TE} (c : ClL X.prog X.w X.K X.mg X.base k j x sp) (hr : Room m X.A) (hk : k ≤ m) (hg : Gl X x) (he1 : PE X e1 t1)
    (Fn : ∀ f c', NOk X.prog X.w X.K X.mg X.base CX0 j f (mk c') ps fr spn) (hcl : ∀ c', (mk c').cl = cl) (cp : X.Ok → Caps X cl fr js) (hN : X.N[i]? = some y) (hv : Vis X.env.scope y)
    (hdb : (x == ("__debug__" : Str)) = false := by decide) (hd2 : (y == ("__debug__" : Str)) = false := by decide) (hcd : (y == ("__classdict__" : Str)) = false := by decide)
    (he : starEach [e1, .Name y py] X.env = (false, eval e1 X.env) :: (false, eval (.Name y py) X.env) :: starEach [] X.env := by rfl) (hpl : (backTo pos (starEach [.Name y py] X.env)).any (·.1) = false := by rfl) :
    PE X (.Call (.Name x p) [e1, .Name y py] [] pos) (tNdArg mk i js sp spn t1) := by
  refine ⟨fun pins s σ H Q I h => ?_⟩
  obtain ⟨g, gd, gps, hm, kp, b, len, run⟩ := c.ex
  refine wpAny_Call_Name_kw (ld_glob I hg hm ?_ hdb)
  refine PySem.W.callWith_K (h₀ := X.base) I.ok.mod.kin kp ?_ (by rw [he]; rfl) hpl
  rw [he]
  show wpAny _ _ (spliced ((false, eval e1 X.env) :: (false, eval (.Name y py) X.env) :: backTo pos (starEach [] X.env))) _ _ s
  refine Calls.spliced_cons (thn (he1.run pins s σ H _ I h) fun u s1 ⟨v, H1, I1, r1, f, c', hs, hf, q1⟩ => ?_)
  refine Calls.spliced_cons (thn ((pe_var (pos := py) hN hv hd2 hcd).run pins s1 σ H1 (fun v H2 => v = .ref f ∧ H2 = H1) I1 ⟨.ref f, hs, rfl, rfl⟩) fun u2 s2 ⟨v2, H2, I2, r2, e2, eH⟩ => ?_)
  subst e2
  rw [eH] at I2
  obtain rfl : u2 = Value.ref f := r2
  refine Calls.spliced_nil ⟨I2.kIn, ?_⟩
  have C := cells_of I2 (cp I2.ok)
  rw [← hcl c'] at C
  have act : Act X.prog X.w X.K X.mg X.base j (frs X.stack) H1 s2.heap f (spNd (mk c') f (js.map (slotAt σ)) spn) := nd_act (Fn f c') hf C
  have bt := b s2 [u, .ref f] I2.kIn (by rw [List.append_nil, ← len f _ _ _ _ q1]; rfl)
  rw [List.append_nil] at bt
  refine wpAny_call (codeAny_mono (run X.A X.stack s2 H1 ⟨[u, .ref f], []⟩ [u, .ref f] [v, .ref f] f _ Q (hr.mono hk) I2.env0 bt (.cons r1 (.cons rfl .nil)) act q1) fun r s3 hq => ?_)
  cases r with
  | error e => exact (show False from hq).elim
  | ok fl =>
    cases fl with
    | ret u => exact I2.after hq
    | next => exact False.elim hq
    | brk => exact False.elim hq
    | cont => exact False.elim hq
end Ob

/-! ObAv: papers turned. -/
namespace Ob
open PySem PySem.Spec PyProof.Rows L2
/-- each statement within turned -/
def Pp.tn (B : List Nat → Option Sm) : Pp → Pp
  | .use k => .use k
  | .name n => .name n
  | .pair p q => .pair (p.tn B) (q.tn B)
  | .first p => .first (p.tn B)
  | .second p => .second (p.tn B)
  | .left p b => .left (p.tn B) (b.turn B)
  | .right b p => .right (b.turn B) (p.tn B)
  | .case p q r c => .case (p.tn B) (q.tn B) (r.tn B) (c.turn B)
  | .make b p => .make (b.turn B) (p.tn B)
  | .apply p q => .apply (p.tn B) (q.tn B)
  | .escape p c => .escape (p.tn B) (c.turn B)
/-- the statement of one part alone -/
def tnG (B : List Nat → Option Sm) : Pp → Nat → Pp
  | .left p b, _ => .left p (b.turn B)
  | .right b p, _ => .right (b.turn B) p
  | .case p q r c, _ => .case p q r (c.turn B)
  | .make b p, _ => .make (b.turn B) p
  | .escape p c, _ => .escape p (c.turn B)
  | p, _ => p
theorem rem_tn (B : List Nat → Option Sm) : ∀ (p : Pp) (m : Nat), p.rem (tnG B) m = p.tn B
  | .use k, m => rfl
  | .name n, m => rfl
  | .pair p q, m => by simp only [Pp.rem, rem_tn B p, rem_tn B q]; rfl
  | .first p, m => by simp only [Pp.rem, rem_tn B p]; rfl
  | .second p, m => by simp only [Pp.rem, rem_tn B p]; rfl
  | .left p b, m => by simp only [Pp.rem, rem_tn B p]; rfl
  | .right b p, m => by simp only [Pp.rem, rem_tn B p]; rfl
  | .case p q r c, m => by simp only [Pp.rem, rem_tn B p, rem_tn B q, rem_tn B r]; rfl
  | .make b p, m => by simp only [Pp.rem, rem_tn B p]; rfl
  | .apply p q, m => by simp only [Pp.rem, rem_tn B p, rem_tn B q]; rfl
  | .escape p c, m => by simp only [Pp.rem, rem_tn B p]; rfl
theorem tn_none {B : List Nat → Option Sm} (hB : ∀ n, B n = none) : ∀ p : Pp, p.tn B = p
  | .use k => rfl
  | .name n => rfl
  | .pair p q => by simp only [Pp.tn, tn_none hB p, tn_none hB q]
  | .first p => by simp only [Pp.tn, tn_none hB p]
  | .second p => by simp only [Pp.tn, tn_none hB p]
  | .left p b => by simp only [Pp.tn, tn_none hB p, Sm.turn_none hB b]
  | .right b p => by simp only [Pp.tn, tn_none hB p, Sm.turn_none hB b]
  | .case p q r c => by simp only [Pp.tn, tn_none hB p, tn_none hB q, tn_none hB r, Sm.turn_none hB c]
  | .make b p => by simp only [Pp.tn, tn_none hB p, Sm.turn_none hB b]
  | .apply p q => by simp only [Pp.tn, tn_none hB p, tn_none hB q]
  | .escape p c => by simp only [Pp.tn, tn_none hB p, Sm.turn_none hB c]
/-- what a turned paper shows under turned givens -/
theorem look_tn (B : List Nat → Option Sm) : ∀ (p : Pp) (g : List Sm) (rd : List Int) (s : Sm), p.look (fun _ => none) g rd = .ok s → ∀ (B' : List Nat → Option Sm) (rd' : List Int), (p.tn B).look B' (g.map (Sm.turn B)) rd' = .ok (s.turn B)
  | .use k, g, rd, s, h, B', rd' => by
    have h : (match (if 0 ≤ k then g[k.toNat]? else none) with | some s => Except.ok s | none => Except.error (Er.given, rd)) = Except.ok s := h
    show (match (if 0 ≤ k then (g.map (Sm.turn B))[k.toNat]? else none) with | some s => Except.ok s | none => Except.error (Er.given, rd')) = Except.ok (s.turn B)
    by_cases h0 : 0 ≤ k
    · rw [if_pos h0] at h ⊢
      rw [List.getElem?_map]
      cases e : g[k.toNat]? with
      | none => rw [e] at h; cases h
      | some x => rw [e] at h; cases h; rfl
    · rw [if_neg h0] at h
      cases h
  | .name n, g, rd, s, h, B', rd' => by cases h
  | .pair p q, g, rd, s, h, B', rd' => by
    obtain ⟨a, h1, h⟩ := bindO_ok h
    obtain ⟨b, h2, h⟩ := bindO_ok h
    have h := fin_ok h
    cases h
    show bindO ((p.tn B).look B' (g.map (Sm.turn B)) (rd' ++ [1])) _ = _
    rw [look_tn B p g _ a h1 B' _]
    show bindO ((q.tn B).look B' (g.map (Sm.turn B)) (rd' ++ [2])) _ = _
    rw [look_tn B q g _ b h2 B' _]
    rfl
  | .apply p q, g, rd, s, h, B', rd' => by
    obtain ⟨a, h1, h⟩ := bindO_ok h
    obtain ⟨b, h2, h⟩ := bindO_ok h
    have h := fin_ok h
    show bindO ((p.tn B).look B' (g.map (Sm.turn B)) (rd' ++ [1])) _ = _
    rw [look_tn B p g _ a h1 B' _]
    show bindO ((q.tn B).look B' (g.map (Sm.turn B)) (rd' ++ [2])) _ = _
    rw [look_tn B q g _ b h2 B' _]
    cases a with
    | bin w x y =>
      cases w with
      | thn =>
        have h : (if x = b then some y else none) = some s := h
        by_cases e : x = b
        · subst e
          rw [if_pos rfl] at h
          cases h
          show fin (if x.turn B = x.turn B then some (s.turn B) else none) rd' = _
          rw [if_pos rfl]
          rfl
        · rw [if_neg e] at h
          cases h
      | _ => cases h
    | _ => cases h
  | .first p, g, rd, s, h, B', rd' => by
    obtain ⟨a, h1, h⟩ := bindO_ok h
    have h := fin_ok h
    show bindO ((p.tn B).look B' (g.map (Sm.turn B)) (rd' ++ [1])) _ = _
    rw [look_tn B p g _ a h1 B' _]
    cases a with
    | bin w x y => cases w <;> cases h <;> rfl
    | _ => cases h
  | .second p, g, rd, s, h, B', rd' => by
    obtain ⟨a, h1, h⟩ := bindO_ok h
    have h := fin_ok h
    show bindO ((p.tn B).look B' (g.map (Sm.turn B)) (rd' ++ [1])) _ = _
    rw [look_tn B p g _ a h1 B' _]
    cases a with
    | bin w x y => cases w <;> cases h <;> rfl
    | _ => cases h
  | .left p b, g, rd, s, h, B', rd' => by
    obtain ⟨a, h1, h⟩ := bindO_ok h
    have h := fin_ok h
    cases h
    show bindO ((p.tn B).look B' (g.map (Sm.turn B)) (rd' ++ [1])) _ = _
    rw [look_tn B p g _ a h1 B' _]
    rfl
  | .right b p, g, rd, s, h, B', rd' => by
    obtain ⟨a, h1, h⟩ := bindO_ok h
    have h := fin_ok h
    cases h
    show bindO ((p.tn B).look B' (g.map (Sm.turn B)) (rd' ++ [2])) _ = _
    rw [look_tn B p g _ a h1 B' _]
    rfl
  | .make b p, g, rd, s, h, B', rd' => by
    obtain ⟨a, h1, h⟩ := bindO_ok h
    have h := fin_ok h
    cases h
    show bindO ((p.tn B).look B' (g.map (Sm.turn B) ++ [b.turn B]) (rd' ++ [2])) _ = _
    have e := look_tn B p (g ++ [b]) _ a h1 B' (rd' ++ [2])
    rw [List.map_append] at e
    rw [show g.map (Sm.turn B) ++ [b.turn B] = g.map (Sm.turn B) ++ [b].map (Sm.turn B) from rfl, e]
    rfl
  | .escape p c, g, rd, s, h, B', rd' => by
    obtain ⟨a, h1, h⟩ := bindO_ok h
    have h := fin_ok h
    show bindO ((p.tn B).look B' (g.map (Sm.turn B)) (rd' ++ [1])) _ = _
    rw [look_tn B p g _ a h1 B' _]
    cases a with
    | nv => cases h; rfl
    | _ => cases h
  | .case p q r c, g, rd, s, h, B', rd' => by
    obtain ⟨a, h1, h⟩ := bindO_ok h
    show bindO ((p.tn B).look B' (g.map (Sm.turn B)) (rd' ++ [1])) _ = _
    rw [look_tn B p g _ a h1 B' _]
    cases a with
    | bin w x y =>
      cases w with
      | or =>
        obtain ⟨u, h2, h⟩ := bindO_ok h
        obtain ⟨v, h3, h⟩ := bindO_ok h
        have h := fin_ok h
        have h : (if u = c ∧ v = c then some c else none) = some s := h
        have e2 := look_tn B q (g ++ [x]) _ u h2 B' (rd' ++ [2])
        have e3 := look_tn B r (g ++ [y]) _ v h3 B' (rd' ++ [3])
        rw [List.map_append] at e2 e3
        show bindO ((q.tn B).look B' (g.map (Sm.turn B) ++ [x].map (Sm.turn B)) (rd' ++ [2])) _ = _
        rw [e2]
        show bindO ((r.tn B).look B' (g.map (Sm.turn B) ++ [y].map (Sm.turn B)) (rd' ++ [3])) _ = _
        rw [e3]
        by_cases e : u = c ∧ v = c
        · obtain ⟨rfl, rfl⟩ := e
          rw [if_pos ⟨rfl, rfl⟩] at h
          cases h
          show fin (if s.turn B = s.turn B ∧ s.turn B = s.turn B then some (s.turn B) else none) rd' = _
          rw [if_pos ⟨rfl, rfl⟩]
          rfl
        · rw [if_neg e] at h
          cases h
      | _ => cases h
    | _ => cases h
theorem tn_wt (B : List Nat → Option Sm) : ∀ p : Pp, (p.tn B).wt = p.wt
  | .use _ => rfl
  | .name _ => rfl
  | .pair p q => by simp only [Pp.tn, Pp.wt, tn_wt B p, tn_wt B q]
  | .first p => by simp only [Pp.tn, Pp.wt, tn_wt B p]
  | .second p => by simp only [Pp.tn, Pp.wt, tn_wt B p]
  | .left p _ => by simp only [Pp.tn, Pp.wt, tn_wt B p]
  | .right _ p => by simp only [Pp.tn, Pp.wt, tn_wt B p]
  | .case p q r _ => by simp only [Pp.tn, Pp.wt, tn_wt B p, tn_wt B q, tn_wt B r]
  | .make _ p => by simp only [Pp.tn, Pp.wt, tn_wt B p]
  | .apply p q => by simp only [Pp.tn, Pp.wt, tn_wt B p, tn_wt B q]
  | .escape p _ => by simp only [Pp.tn, Pp.wt, tn_wt B p]
/-! ### d.get(k), d a dict of the module -/
def tKGet1 (K : PySem.W.Frag) (w : World) (td ty : TE) : TE := fun σ H Q => td σ H fun x H1 => ∃ p, x = .ref p ∧ KIsD K w p ∧ ty σ H1 fun y H2 => ∃ k o, y = .str k ∧ KGet K w p k o ∧ Q (o.getD .non) H2
theorem pe_kget1 {X : Cx} {o e : Expr} {apos cpos : Pos} {td ty : TE} (ho : PE X o td) (he : PE X e ty) (m : M1 X o "get" apos e cpos) : PE X (.Call (.Attribute o "get" apos) [e] [] cpos) (tKGet1 X.K X.w td ty) := by
  refine ⟨fun pins s τ G Q I h => ?_⟩
  refine wpAny_Call_method m.base m.few m.line PySem.F.plainAttrs_dict PySem.F.slot_dict_get PySem.F.type_dict_get (thn (ho.run pins s τ G _ I h) fun u s1 ⟨x, G1, I1, rx, p, ex, ⟨es0, n0, hl0, hk0⟩, q1⟩ => ?_)
  subst ex
  obtain rfl : u = Value.ref p := rx
  have hm0 := PySem.W.mapOf_K (prog := X.prog) (w := X.w) I1.kIn hl0 hk0
  refine ⟨hm0.typeIs, fun b q => ?_, ?_⟩
  · cases q
    exact ⟨_, I1.kIn _ _ hl0, rfl⟩
  rw [m.trees]
  refine Calls.callWith_builtin rfl (Calls.evalArgs_plain (Calls.spliced_cons (thn (he.run pins s1 τ G1 _ I1 q1) fun kv s2 ⟨y, G2, I2, ry, k, ov, ey, ⟨es, n, u, hl, hk, low, hn, hu⟩, q3⟩ => Calls.spliced_nil ?_)))
  subst ey
  obtain ⟨t, rfl⟩ := (show ∃ t, kv = Value.str k t from ry)
  have hm := PySem.W.mapOf_K (prog := X.prog) (w := X.w) I2.kIn hl hk
  refine call_meetsIn PySem.F.slot_dict_get hm.typeIs PySem.F.entry_dict_get (PySem.F.args_dict_get_2 _ _) (meets_dict_get (strKind X.prog X.w) p (strKind_is X.prog X.w k t) low) ⟨_, hm, _, G2, I2.tok _, ?_, q3⟩
  rw [PySem.W.find_K hl hn]
  match u, ov, hu with
  | some u, some v, h => exact h
  | none, none, _ => exact rfl
end Ob

/-! ObBh: defs that call themselves deep down: a level for what they call, and how deep they may go. -/
namespace Ob
open PySem PySem.Spec PyProof.Rows L2
structure RoomR (k D : Nat) (A : Around) : Prop where
  hd : A.handled = none
  dp : A.depth + 3 * k + 5 + D < recursionLimit
  un : A.units + 16 * k + 200 + 3 * D < cLine
theorem RoomR.room {k D : Nat} {A : Around} (r : RoomR k D A) : Room k A := ⟨r.hd, by have := r.dp; omega, by have := r.un; omega⟩
theorem RoomR.mono {j k C D : Nat} {A : Around} (r : RoomR k D A) (h : j ≤ k) (h2 : C ≤ D) : RoomR j C A := ⟨r.hd, by have := r.dp; omega, by have := r.un; omega⟩
theorem RoomR.deeper {k D : Nat} {A : Around} (r : RoomR k (D + 1) A) (env : Env) : RoomR k D (A.deeper env) :=
  ⟨r.hd, by have := r.dp; show A.depth + 1 + 3 * k + 5 + D < _; omega, by have := r.un; show A.units + 3 + 16 * k + 200 + 3 * D < _; omega⟩
theorem RoomR.of {k D m : Nat} {A : Around} (r : Room m A) (h : 3 * k + D ≤ 3 * m) : RoomR k D A := ⟨r.hd, by have := r.dp; omega, by have := r.un; omega⟩
section
variable (P : Program) (w : World) (K : PySem.W.Frag) (mg : Str → Option Value) (base : Heap)
structure FnR (CX : CXT) (k D : Nat) (f : Addr) (fd : FuncData) (ps : List Str) (sp : Sp) : Prop where
  len : ∀ vs H Q E, sp vs H Q E → vs.length = ps.length
  run : ∀ (A : Around) (outer : List Env) (s : Shared) (H : Hp) (args : Args) (us : List Value) (vs : List V) (Q : VK) (E : XK), RoomR k D A → Env0 P w K mg base A outer s H → BindsTo s fd args (ps.zip us) → Vals vs us → sp vs H Q E →
    codeAny (model P w) A (.call (.ref f) args) (CR CX outer P w H s Q E) s
/-- a def's promise, so deep down -/
structure ClR (k D : Nat) (x : Str) (sp : Sp) : Prop where
  ex : ∃ (f : Addr) (fd : FuncData) (ps : List Str), FnR P w K mg base CX0 k D f fd ps sp ∧ mg x = some (.ref f) ∧ PySem.W.keepIn K (.ref f) = true ∧ Binds K fd ps []
end
section
variable {P : Program} {w : World} {K : PySem.W.Frag} {mg : Str → Option Value} {base : Heap}
theorem fn_ofR {CX : CXT} {k D : Nat} {f : Addr} {name qual : Str} {params : Arguments} {body : List Stmt} {scope : Scope} {dV kV doc pm cdv ct oc : Value} {an od : Option Addr}
    {osl : Array (Option Value)} {N ps : List Str} {sp : Sp} (lk : K.lookup f = some ⟨oc, od, .func (PySem.W.fnOf name qual params body scope dV kV doc pm an cdv ct), osl⟩) (hcd : PySem.W.codeIn K cdv qual = true) (S : FnScope N ps scope)
    (len : ∀ vs H Q E, sp vs H Q E → vs.length = ps.length)
    (hbody : ∀ (A : Around) (outer : List Env) (s : Shared) (H : Hp) (vs : List V) (Q : VK) (E : XK), RoomR k D (A.deeper (envOfC qual scope s.heap.objs.size f cdv)) → sp vs H Q E →
      ∃ t, PSs (cxOf CX P w K mg base N qual scope f cdv A outer s H E) body t ∧ t { nx := fun _ H' => Q .non H', rt := Q } (start N vs) H) :
    FnR P w K mg base CX k (D + 1) f (PySem.W.fnOf name qual params body scope dV kV doc pm an cdv ct) ps sp := by
  refine ⟨len, fun A outer s H args us vs Q E hr e0 hb r hsp => ?_⟩
  have hl := len _ _ _ _ hsp
  have KX : K.In s.heap := e0.mod.kin.keeps fun b o e => (e0.bs b o e).1
  have lim : s.heap.NoLimit := e0.mod.nolimit.keeps fun b o e => (e0.bs b o e).1
  have hkind : ∀ y ∈ ps.zip us, scope.names.lookup y.1 = some .local ∨ (scope.names.lookup y.1 = some .cell ∧ ((cellsFrom (s.heap.objs.size + 1) scope.names []).lookup y.1).isSome = true) := fun ⟨n, v⟩ hy => by
    rcases S.par n (List.of_mem_zip hy).1 with q | q
    · exact .inl q
    · exact .inr ⟨q, PySem.W.cellsFrom_some _ _ _ (.inl q)⟩
  refine codeAny_call_function hr.room.depth (KX _ _ lk) rfl S.co S.gen rfl (PySem.W.codeRec_of KX hcd) (hb _ _ _ _ ?_)
  refine wpAny_newFunctionEnv_cells S.kind hkind fun env he s1 x => ?_
  subst he
  refine ⟨lim.keeps x.toInCall.keep, codeAny_func ?_⟩
  obtain ⟨t, ht, hq⟩ := hbody A outer s H vs Q E (hr.deeper _) hsp
  have I : Inv (cxOf CX P w K mg base N qual scope f cdv A outer s H E) [] (start N vs) H s1 := inv_start S hr.hd e0 hl r x
  refine wpAny_mono (ht.run [] s1 (start N vs) H _ I hq) (fun fl s' hs => ?_) fun e s' hs => hs
  have fin : ∀ {σ' : L2.St} {H' : Hp} {v : V} {u : Value}, Inv (cxOf CX P w K mg base N qual scope f cdv A outer s H E) [] σ' H' s' → RelV v u → Q v H' → CE outer P w H s Q u s' :=
    fun {σ' H' v u} J rv q => ⟨v, H', J.os, J.bare, J.base, J.hok, rv, q⟩
  cases fl with
  | ret u =>
    obtain ⟨v, σ', H', J, rv, q⟩ := hs
    exact fin J rv q
  | next =>
    obtain ⟨σ', H', J, q⟩ := hs
    exact fin (v := V.non) (u := Value.none) J rfl q
  | brk =>
    obtain ⟨_, _, _, q⟩ := hs
    exact False.elim q
  | cont =>
    obtain ⟨_, _, _, q⟩ := hs
    exact False.elim q
theorem Df.okR {x : Str} {st : Stmt} {ps N : List Str} {k D : Nat} {sp : Sp} (F : Df K mg x st ps) (S : FnScope N ps (defScope st)) (len : ∀ vs H Q E, sp vs H Q E → vs.length = ps.length)
    (hbody : ∀ (f : Addr) (cdv : Value) (A : Around) (outer : List Env) (s : Shared) (H : Hp) (vs : List V) (Q : VK) (E : XK), RoomR k D (A.deeper (envOfC x (defScope st) s.heap.objs.size f cdv)) → sp vs H Q E →
      ∃ t, PSs (cxOf CX0 P w K mg base N x (defScope st) f cdv A outer s H E).nox (defBody st) t ∧ t { nx := fun _ H' => Q .non H', rt := Q } (start N vs) H) : ClR P w K mg base k (D + 1) x sp := by
  obtain ⟨f, fd, F, m, b⟩ := F.ex
  obtain ⟨oc, od, kV, doc, pm, an, cdv, ct, osl, rfl, lk, hcd⟩ := F.ex
  refine ⟨f, _, ps, fn_ofR lk hcd S len fun A outer s H vs Q E hr hsp => ?_, m, F.kp, b⟩
  obtain ⟨t, h, q⟩ := hbody f cdv A outer s H vs Q E hr hsp
  exact ⟨t, h.nox, q⟩
theorem Df.noneR {x : Str} {st : Stmt} {ps : List Str} {k : Nat} {sp : Sp} (D : Df K mg x st ps) (no : ∀ vs H Q E, ¬ sp vs H Q E) : ClR P w K mg base k 0 x sp := by
  obtain ⟨f, fd, F, m, b⟩ := D.ex
  exact ⟨f, fd, ps, ⟨fun vs H Q E h => absurd h (no vs H Q E), fun A outer s H args us vs Q E _ _ _ _ h => absurd h (no vs H Q E)⟩, m, F.kp, b⟩
theorem ClR.mono {j k C D : Nat} {x : Str} {sp : Sp} (c : ClR P w K mg base j C x sp) (h : j ≤ k) (h2 : C ≤ D) : ClR P w K mg base k D x sp := by
  obtain ⟨f, fd, ps, F, m, kp, b⟩ := c.ex
  exact ⟨f, fd, ps, ⟨F.len, fun A outer s H args us vs Q E hr he hb hv hs => F.run A outer s H args us vs Q E (hr.mono h h2) he hb hv hs⟩, m, kp, b⟩
theorem ClR.cl {k D m : Nat} {x : Str} {sp : Sp} (c : ClR P w K mg base k D x sp) (h : 3 * k + D ≤ 3 * m) : Cl P w K mg base m x sp := by
  obtain ⟨f, fd, ps, F, mm, kp, b⟩ := c.ex
  exact ⟨f, fd, ps, ⟨F.len, fun A outer s H args us vs Q E hr he hb hv hs => F.run A outer s H args us vs Q E (.of hr h) he hb hv hs⟩, mm, kp, b⟩
end
section
variable {X : Cx}
theorem run_fnR {CX : CXT} {k D : Nat} {f : Addr} {fd : FuncData} {ps : List Str} {sp : Sp} {ds : List Value} {dvs : List V} {E : XK} {pins : List (Addr × Obj)} {σ : L2.St} {H : Hp} {s : Shared} {Q : VK} {us : List Value} {vs : List V} (F : FnR X.prog X.w X.K X.mg X.base CX k D f fd ps sp) (hr : RoomR k D X.A) (hb : Binds X.K fd ps ds) (hd : Vals dvs ds) (hx : Passes CX X E)
    (I : Inv X pins σ H s) (r : Vals vs us) (h : sp (vs ++ dvs) H Q E) : wpAny (model X.prog X.w) X.A (call (.ref f) us) (EP X pins σ Q) X.xe s := by
  have r2 : Vals (vs ++ dvs) (us ++ ds) := r.append hd
  have hl : (us ++ ds).length = ps.length := by rw [← r2.length]; exact F.len _ _ _ _ h
  refine wpAny_call (codeAny_mono (F.run X.A X.stack s H ⟨us, []⟩ (us ++ ds) (vs ++ dvs) Q E hr I.env0 (hb s us I.kIn hl) r2 h) fun r s' hq => ?_)
  cases r with
  | error e => exact hx pins σ H s e s' I hq
  | ok fl =>
    cases fl with
    | ret u => exact I.after hq
    | next => exact False.elim hq
    | brk => exact False.elim hq
    | cont => exact False.elim hq
theorem pe_kR {k D j C : Nat} {x : Str} {sp : Sp} {p pos : Pos} {e : Expr} {es : List Expr} {t : TA} (c : ClR X.prog X.w X.K X.mg X.base k D x sp) (hr : RoomR j C X.A) (hk : k ≤ j) (hD : D ≤ C) (hg : Gl X x) (ha : PA X (e :: es) t)
    (hdb : (x == ("__debug__" : Str)) = false := by decide) (he : starEach (e :: es) X.env = (false, eval e X.env) :: starEach es X.env := by rfl) (hpl : (backTo pos (starEach es X.env)).any (·.1) = false := by rfl) : PE X (.Call (.Name x p) (e :: es) [] pos) (tCall sp [] E0 t) := by
  obtain ⟨f, fd, ps, F, m, kp, b⟩ := c.ex
  refine ⟨fun pins s σ H Q I h => ?_⟩
  refine wpAny_Call_Name_kw (ld_glob I hg m ?_ hdb)
  refine PySem.W.callWith_K (h₀ := X.base) I.ok.mod.kin kp (thn (ha.run pos pins s σ H _ I h) fun us s1 ⟨vs, H1, I1, r, q⟩ => ⟨I1.kIn, ?_⟩) he hpl
  exact run_fnR F (hr.mono hk hD) b .nil pass0 I1 r q
end
end Ob

/-! ObBi: sorted(a set of numbers), any number of them. -/
namespace SetN
open PySem PySem.Spec PyProof.Rows L2 SX SrtO
section
variable {P : Program} {w : World} {A : Around} {s : Shared} {a : Addr} {E : Value → Shared → Prop}
theorem sorted_setN {S : Int → Bool} {n : Nat} {Q : Value → Shared → Prop} (R : SetR w s.heap a S n) (hh : A.handled = none)
    (hQ : ∀ s' p (out : Array Value) (c : Nat) (ns : List Int), (∀ b o, s.heap.get? b = some o → s'.heap.get? b = some o) → s'.gens = s.gens → s'.os = s.os → s.heap.objs.size ≤ p →
      s'.heap.get? p = some (seqObj "list" out c) → IntsAre out.toList ns → ns.Pairwise (· < ·) → (∀ k, k ∈ ns ↔ S k = true) → ns.length = n → n ≤ 4096 → Q (.ref p) s') :
    wpAny (model P w) A (call (.builtin "sorted") [.ref a]) Q E s := by
  obtain ⟨o, es, ep, t, ho, hex, hd, g, nd, hm, hb, hf, hn, hr, hl⟩ := R
  refine Calls.call_function_entry kind_sorted plain_sorted entry_sorted (args_sorted1 _) ?_
  unfold Builtin.«sorted»
  refine wpAny_bind (m := checkCount "sorted" 1 1 _) (wpAny_pure ?_)
  refine wpAny_bind (collect_set (A := A.in1) hh ⟨o, ho, hex.1, hd⟩ hf hb hr hl fun s1 vs k1 hz g1 o1 pm => ?_)
  have hvl : vs.length = n := by rw [pm.length_eq, List.length_map, Array.length_toList]; exact hn
  have n4 : n ≤ 4096 := by
    have h1 : es.size < 4096 := hb
    rw [← hn]
    omega
  have hI : IntsAre vs (vs.map Builtin.Re.reRawOf) := ints_of vs fun v hv => by
    obtain ⟨e, he, q⟩ := List.mem_map.mp (pm.mem_iff.mp hv)
    obtain ⟨k, tk, h1, _⟩ := g e he
    exact ⟨k, tk, by rw [← q]; exact h1⟩
  have pk : (vs.map Builtin.Re.reRawOf).Perm (es.toList.map keyOf) := by
    have q := pm.map Builtin.Re.reRawOf
    rw [List.map_map] at q
    exact q
  have hzv : vs.length ≤ sizeLine := by rw [hvl, sizeLine_eq]; omega
  refine wpAny_bind (wpAny_newList ?_ hzv)
  have hoL : (s1.heap.push (seqObj "list" vs.toArray 0)).get? s1.heap.objs.size = some (seqObj "list" vs.toArray 0) := Heap.get?_push_size _ rfl
  refine wpAny_bind (wpAny_holding (wpAny_call_entry slot_list_sort ⟨_, hoL, rfl⟩ entry_list_sort (list_sort_ord swo_int hoL hzv (fun h2 => ints_sortable hI h2) fun out hs hb => ⟨_, rfl, ?_⟩) (args_list_sort _)))
  obtain ⟨a1, a2, a3⟩ := ints_out hI hs hb
  obtain ⟨c, hc⟩ := sortedHeap_at (vs := vs) (out := out.toArray) hoL
  have pn : (out.map iv).Perm (es.toList.map keyOf) := a2.trans pk
  refine wpAny_pure ⟨_, rfl, hQ _ s1.heap.objs.size out.toArray c (out.map iv) (fun b u e => ?_) g1 o1 hz hc a1 (lt_of_le_nodup _ a3 (pn.nodup_iff.mpr nd)) (fun k => by rw [pn.mem_iff, ← hm k]) ?_ n4⟩
  · have q := k1 b u e
    have hlt := Heap.lt_size q
    show (sortedHeap (s1.heap.push (seqObj "list" vs.toArray 0)) s1.heap.objs.size vs out.toArray).get? b = some u
    rw [sortedHeap_old (Nat.ne_of_lt hlt) (by rw [size_push']; exact Nat.lt_succ_of_lt hlt)]
    exact Heap.get?_push_of_some _ q
  · rw [pn.length_eq, List.length_map, Array.length_toList]; exact hn
end
section
variable {X : Cx}
/-- sorted(found), any number of members -/
def rSortedSetN (w : World) : List V → Hp → VK → Prop := fun vs H Q => ∃ (a : Addr) (S : Int → Bool) (n : Nat), vs = [V.ref a] ∧ H a = some (SetO w a S n) ∧
  ∀ (ns : List Int) (p : Addr), ns.Pairwise (· < ·) → (∀ k : Int, k ∈ ns ↔ S k = true) → ns.length = n → H p = none → Q (.ref p) (upd H p (.lst (ns.map V.int)))
theorem cr_sortedSetN (hc : X.calm = true) : CallR X (.builtin "sorted") (rSortedSetN X.w) := by
  intro pins s σ H vs us Q I r h
  obtain ⟨a, S, n, rfl, ha, q⟩ := h
  have R := setO_get I ha
  rw [Vals.ref1 r]
  refine sorted_setN R (I.ok.hd hc) fun s' p out c ns k g o hp hg hi hs hm hl n4 => ?_
  have hlen : (ns.map V.int).length ≤ sizeLine := by rw [List.length_map, hl, sizeLine_eq]; omega
  have hn : H p = none := I.hok.fresh hp
  have J : Inv X pins σ (upd H p (.lst (ns.map V.int))) { s with heap := s'.heap, gens := s'.gens, drawn := s'.drawn, toks := s'.toks } :=
    I.call (ch := []) (Un.laid k hp hn) (I.hok.laid k hp ⟨hlen, out.toList, c, vals_of_ints hi, hg⟩) (by rw [g]; exact I.bare) (fun _ z => nomatch z)
  have e : s' = { s with heap := s'.heap, gens := s'.gens, drawn := s'.drawn, toks := s'.toks } := by
    cases s'
    cases s
    cases o
    rfl
  rw [e]
  exact ⟨.ref p, _, J, rfl, q ns p hs hm hl hn⟩
end
end SetN

/-! ObJ: setdefault in a dict of tuples; numbers as sets of bits; statements that are keys; growths. -/
namespace Ob
open PySem PySem.Spec PyProof.Rows L2
/-! ### d.setdefault(t, v), the keys tuples -/
def rSetT : V → List V → Hp → VK → Prop := fun x xs H Q => ∃ (a : Addr) (kvs : List (List Key × V)) (k : List Key) (b : Addr) (d : V), x = .ref a ∧ xs = [.ref b, d] ∧ H a = some (.dT kvs) ∧ H b = some (.tup (k.map kV)) ∧ kvs.length < sizeLine ∧
  (∀ v, valV kvs k = some v → Q v H) ∧ (valV kvs k = none → Q d (upd H a (.dT (putK kvs k d))))
theorem mt_setT {X : Cx} (hu : X.A.units + 1 < cLine) : MtR X "dict.setdefault" rSetT := by
  intro pins s σ H x xs v us Q I rx rxs h
  obtain ⟨a, kvs, k, b, d, rfl, rfl, ha, hb, hl, q1, q2⟩ := h
  cases rx
  obtain ⟨u1, u2, rfl, r1, r2⟩ := vals2 rxs
  cases r1
  obtain ⟨z, hd, ys, rel, dd⟩ := dt_of I.hok ha
  have hz : ys.length ≤ sizeLine := by
    rw [← Paired.length rel]
    exact z
  refine call_setdefault_heap (hsz := hz) (tupleKind_room_in1 hu) (key_of I.hok hb) hd dd (fun p hp => ?_) (fun hn h' dd' hs => ?_)
  · have r := rel.val k
    rw [hp] at r
    cases ev : valV kvs k with
    | none =>
      rw [ev] at r
      exact (show False from r).elim
    | some v0 =>
      rw [ev] at r
      show EP X pins σ Q p.2 _
      exact ⟨v0, H, I.tok _, r, q1 v0 ev⟩
  · have r := rel.val k
    rw [hn] at r
    cases ev : valV kvs k with
    | some v0 =>
      rw [ev] at r
      exact (show False from r).elim
    | none =>
      have hl2 : (putK kvs k d).length ≤ sizeLine := by
        have := length_putK kvs k d
        omega
      obtain ⟨q, es, ep, hq, h2, h3, h4, _, h5⟩ := dd'
      show EP X pins σ Q u2 _
      refine ⟨d, _, d_write (ob := .dT (putK kvs k d)) I (by rw [ha]; exact True.intro) hs ⟨q, hq⟩ ⟨hl2, hd, _, (rel.put k hb r2).keeps fun c zs ec => ?_, q, es, ep, hq, h2, h3, h4, h5⟩, r2, q2 ev⟩
      rw [upd_ne (ne_of ec ha (fun z => nomatch z))]
      exact ec
theorem tyDT {K : PySem.W.Frag} {H : Hp} {p : Addr} {kvs : List (List Key × V)} (h : H p = some (.dT kvs)) : tyV K "dict" (.ref p) H := .inr (.inr (.inl ⟨rfl, .inr ⟨_, h⟩⟩))

/-! ### numbers as sets -/
theorem b_or (m n : Nat) : Builtin.bitOr (m : Int) (n : Int) = ((m ||| n : Nat) : Int) := by
  rw [Bits.bitOr_pp (Int.natCast_nonneg _) (Int.natCast_nonneg _), Int.toNat_natCast, Int.toNat_natCast]
theorem b_and (m n : Nat) : Builtin.bitAnd (m : Int) (n : Int) = ((m &&& n : Nat) : Int) := by
  rw [bitAnd_pp (Int.natCast_nonneg _) (Int.natCast_nonneg _), Int.toNat_natCast, Int.toNat_natCast]
theorem split_and (m n : Nat) : (m ^^^ (m &&& n)) + (m &&& n) = m := by
  have h := bitOr_and (((m ^^^ (m &&& n) : Nat) : Int)) ((m &&& n : Nat) : Int)
  rw [b_or, b_and] at h
  have e1 : (m ^^^ (m &&& n)) ||| (m &&& n) = m := by
    apply Nat.eq_of_testBit_eq
    intro i
    rw [Nat.testBit_or, Nat.testBit_xor, Nat.testBit_and]
    cases m.testBit i <;> cases n.testBit i <;> rfl
  have e2 : (m ^^^ (m &&& n)) &&& (m &&& n) = 0 := by
    apply Nat.eq_of_testBit_eq
    intro i
    rw [Nat.testBit_and, Nat.testBit_xor, Nat.testBit_and, Nat.zero_testBit]
    cases m.testBit i <;> cases n.testBit i <;> rfl
  rw [e1, e2] at h
  omega
/-- those of m that are not of n -/
theorem b_bar (m n : Nat) : Builtin.bitAnd (m : Int) (Builtin.bitNot (n : Int)) = ((m ^^^ (m &&& n) : Nat) : Int) := by
  have h0 : ¬ (0 : Int) ≤ Builtin.bitNot (n : Int) := by
    unfold Builtin.bitNot
    omega
  have nn : Builtin.bitNot (Builtin.bitNot (n : Int)) = n := by
    unfold Builtin.bitNot
    omega
  unfold Builtin.bitAnd
  rw [decide_eq_true (Int.natCast_nonneg m), decide_eq_false h0]
  show (m : Int) - (((m : Int).toNat &&& (Builtin.bitNot (Builtin.bitNot (n : Int))).toNat : Nat) : Int) = _
  rw [nn, Int.toNat_natCast, Int.toNat_natCast]
  have := split_and m n
  omega
theorem b_shr (m k : Nat) : Builtin.bitAnd ((m : Int) / 2 ^ k) 1 = if m.testBit k = true then 1 else 0 := by
  have e : (m : Int) / 2 ^ k = ((m / 2 ^ k : Nat) : Int) := by
    rw [show (2 : Int) ^ k = ((2 ^ k : Nat) : Int) by rw [Int.natCast_pow]; rfl]
    rfl
  rw [e, bitAnd_m1, Nat.testBit_eq_decide_div_mod_eq]
  by_cases h : m / 2 ^ k % 2 = 1
  · rw [decide_eq_true h, if_pos rfl]
    omega
  · rw [decide_eq_false h, if_neg (fun z => nomatch z)]
    omega
theorem b_shl (k : Nat) : (1 : Int) * 2 ^ k = ((2 ^ k : Nat) : Int) := by
  rw [Int.one_mul, Int.natCast_pow]
  rfl
theorem none_of {m : Nat} : (m = 0) ↔ ∀ i, m.testBit i = false := by
  constructor
  · rintro rfl i
    exact Nat.zero_testBit i
  · intro h
    apply Nat.eq_of_testBit_eq
    intro i
    rw [h i, Nat.zero_testBit]
/-- the set of the numbers with p -/
def Msk (p : Nat → Prop) (m : Nat) : Prop := ∀ j, m.testBit j = true ↔ p j
theorem Msk.and {p q : Nat → Prop} {m n : Nat} (h : Msk p m) (g : Msk q n) : Msk (fun j => p j ∧ q j) (m &&& n) := fun j => by
  rw [Nat.testBit_and, Bool.and_eq_true, h j, g j]
theorem Msk.or {p q : Nat → Prop} {m n : Nat} (h : Msk p m) (g : Msk q n) : Msk (fun j => p j ∨ q j) (m ||| n) := fun j => by
  rw [Nat.testBit_or, Bool.or_eq_true, h j, g j]
theorem Msk.bar {p q : Nat → Prop} {m n : Nat} (h : Msk p m) (g : Msk q n) : Msk (fun j => p j ∧ ¬ q j) (m ^^^ (m &&& n)) := fun j => by
  show _ ↔ (p j ∧ ¬ q j)
  rw [Nat.testBit_xor, Nat.testBit_and, ← h j, ← g j]
  cases m.testBit j <;> cases n.testBit j <;> simp
theorem Msk.one (k : Nat) : Msk (fun j => j = k) (2 ^ k) := fun j => by
  rw [Nat.testBit_two_pow]
  simp [eq_comm]
theorem Msk.zero : Msk (fun _ => False) 0 := fun j => by
  rw [Nat.zero_testBit]
  simp
theorem Msk.iff {p q : Nat → Prop} {m : Nat} (h : Msk p m) (e : ∀ j, p j ↔ q j) : Msk q m := fun j => (h j).trans (e j)
theorem Msk.uniq {p : Nat → Prop} {m n : Nat} (h : Msk p m) (g : Msk p n) : m = n := by
  apply Nat.eq_of_testBit_eq
  intro i
  have := (h i).trans (g i).symm
  cases e1 : m.testBit i <;> cases e2 : n.testBit i <;> simp_all
theorem Msk.none {p : Nat → Prop} {m : Nat} (h : Msk p m) : m = 0 ↔ ∀ j, ¬ p j := by
  rw [none_of]
  constructor
  · intro g j pj
    have := (h j).mpr pj
    rw [g j] at this
    cases this
  · intro g j
    cases e : m.testBit j with
    | false => rfl
    | true => exact absurd ((h j).mp e) (g j)

/-! ### statements whose own tuples are there -/
inductive IsSt (H : Hp) : V → Sm → Prop where
  | lt {a : Addr} {n : List Nat} : H a = some (.tup [.str "letter", .str (S n)]) → IsSt H (.ref a) (.lt n)
  | nv {a : Addr} : H a = some (.tup [.str "never"]) → IsSt H (.ref a) .nv
  | bin {a : Addr} {w : J} {l r : V} {s t : Sm} : H a = some (.tup [.str w.s, l, r]) → IsSt H l s → IsSt H r t → IsSt H (.ref a) (.bin w s t)
theorem IsSt.sm {K : PySem.W.Frag} {H : Hp} {v : V} {s : Sm} (h : IsSt H v s) : IsSm K H v s := by
  induction h with
  | lt h => exact .lt (.inl (.inl h))
  | nv h => exact .nv (.inl (.inl h))
  | bin h _ _ i1 i2 => exact .bin (.inl (.inl h)) i1 i2
/-- the tuples that are tracked stay -/
def TS (H H' : Hp) : Prop := ∀ a xs, H a = some (.tup xs) → H' a = some (.tup xs)
theorem Same.ts {H H' : Hp} (e : Same H H') : TS H H' := fun a xs h => e _ _ h
theorem TS.refl {H : Hp} : TS H H := fun _ _ h => h
theorem TS.trans {H H1 H2 : Hp} (a : TS H H1) (b : TS H1 H2) : TS H H2 := fun x y h => b x y (a x y h)
theorem But.ts {l : Addr} {H H' : Hp} (b : But l H H') (h : ∀ xs, H l ≠ some (.tup xs)) : TS H H' := fun a xs e => b a _ (fun z => h xs (by rw [← z]; exact e)) e
theorem But.tsL {l : Addr} {H H' : Hp} (b : But l H H') {ys : List V} (h : H l = some (.lst ys)) : TS H H' := b.ts fun xs e => by
  rw [h] at e
  cases e
theorem But.tsD {l : Addr} {H H' : Hp} (b : But l H H') {ys : List (List Key × V)} (h : H l = some (.dT ys)) : TS H H' := b.ts fun xs e => by
  rw [h] at e
  cases e
theorem TS.lst {H : Hp} {p : Addr} {xs : List V} {o : HO} (h : H p = some (.lst xs)) : TS H (upd H p o) := But.tsL But.put h
theorem TS.new {H : Hp} {p : Addr} {o : HO} (h : H p = none) : TS H (upd H p o) := Same.ts (same_new h)
theorem IsSt.ts {H H' : Hp} (k : TS H H') {v : V} {s : Sm} (h : IsSt H v s) : IsSt H' v s := by
  induction h with
  | lt h => exact .lt (k _ _ h)
  | nv h => exact .nv (k _ _ h)
  | bin h _ _ i1 i2 => exact .bin (k _ _ h) i1 i2
theorem But.tkD {K : PySem.W.Frag} {l : Addr} {H H' : Hp} (e : But l H H') {xs : List (List Key × V)} (hl : H l = some (.dT xs)) : TK K H H' := fun a ys hq => by
  rcases hq with (hq | ⟨ob, hq⟩) | hq
  · refine .inl (.inl (e a _ (fun z => ?_) hq))
    rw [z, hl] at hq
    cases hq
  · refine .inl (.inr ⟨ob, e a _ (fun z => ?_) hq⟩)
    rw [z, hl] at hq
    cases hq
  · exact .inr hq
/-! ### rows of statements: each part once, behind its own -/
theorem idx_left {rs m : List Sm} {x : Sm} (h : x ∈ rs) : (rs ++ m).idxOf x = rs.idxOf x := by
  rw [List.idxOf_append, if_pos h]
def ky (rs : List Sm) : Sm → List Key
  | .lt n => [.inr "letter", .inr (S n)]
  | .nv => [.inr "never"]
  | .bin w a b => [.inr w.s, .inl ((rs.idxOf a : Nat) : Int), .inl ((rs.idxOf b : Nat) : Int)]
def PIn (rs : List Sm) : Sm → Prop
  | .bin _ a b => a ∈ rs ∧ b ∈ rs
  | _ => True
structure Cls (rs : List Sm) : Prop where
  nd : rs.Nodup
  lo : ∀ (i : Nat) (w : J) (a b : Sm), rs[i]? = some (.bin w a b) → rs.idxOf a < i ∧ rs.idxOf b < i
theorem idx_inj {rs : List Sm} {a b : Sm} (ha : a ∈ rs) (h : rs.idxOf a = rs.idxOf b) : a = b := by
  have l1 : rs.idxOf a < rs.length := List.idxOf_lt_length_iff.mpr ha
  have e1 : rs[rs.idxOf a] = a := List.getElem_idxOf l1
  have l2 : rs.idxOf b < rs.length := h ▸ l1
  have e2 : rs[rs.idxOf b] = b := List.getElem_idxOf l2
  rw [← e1, ← e2]
  simp only [h]
theorem idx_at {rs : List Sm} {a : Sm} (ha : a ∈ rs) : rs[rs.idxOf a]? = some a := by
  have l1 : rs.idxOf a < rs.length := List.idxOf_lt_length_iff.mpr ha
  rw [List.getElem?_eq_getElem l1, List.getElem_idxOf l1]
theorem Cls.pin {rs : List Sm} (h : Cls rs) {s : Sm} (m : s ∈ rs) : PIn rs s := by
  cases s with
  | lt n => exact True.intro
  | nv => exact True.intro
  | bin w a b =>
    have g := h.lo _ w a b (idx_at m)
    have l := List.idxOf_lt_length_iff.mpr m
    exact ⟨List.idxOf_lt_length_iff.mp (by omega), List.idxOf_lt_length_iff.mp (by omega)⟩
theorem J.s_inj {w u : J} (h : w.s = u.s) : w = u := by
  have e := j_eq w u
  rw [decide_eq_true (congrArg V.str h)] at e
  exact of_decide_eq_true e.symm
theorem ky_inj {rs : List Sm} {s t : Sm} (hs : PIn rs s) (ht : PIn rs t) (h : ky rs s = ky rs t) : s = t := by
  cases s with
  | lt n =>
    cases t with
    | lt m =>
      simp only [ky, List.cons.injEq, Sum.inr.injEq, and_true, true_and] at h
      rw [S_inj h]
    | nv => simp [ky] at h
    | bin u c d => simp [ky] at h
  | nv =>
    cases t with
    | lt m => simp [ky] at h
    | nv => rfl
    | bin u c d => simp [ky] at h
  | bin w a b =>
    cases t with
    | lt m => simp [ky] at h
    | nv => simp [ky] at h
    | bin u c d =>
      simp only [ky, List.cons.injEq, Sum.inr.injEq, Sum.inl.injEq, and_true] at h
      obtain ⟨h1, h2, h3⟩ := h
      have e2 : a = c := idx_inj hs.1 (by omega)
      have e3 : b = d := idx_inj hs.2 (by omega)
      rw [J.s_inj h1, e2, e3]
def kvsOf (rs : List Sm) : List (List Key × V) := rs.map fun s => (ky rs s, V.int ((rs.idxOf s : Nat) : Int))
theorem kvs_len (rs : List Sm) : (kvsOf rs).length = rs.length := List.length_map ..
theorem find_in {rs : List Sm} {s : Sm} (c : Cls rs) (hs : PIn rs s) : ∀ {l : List Sm}, (∀ x ∈ l, x ∈ rs) → (l.map fun s => (ky rs s, V.int ((rs.idxOf s : Nat) : Int))).find? (fun kv => decide (kv.1 = ky rs s)) = if s ∈ l then some (ky rs s, V.int ((rs.idxOf s : Nat) : Int)) else none
  | [], _ => by simp
  | t :: l, h => by
    rw [List.map_cons]
    by_cases e : t = s
    · subst e
      rw [List.find?_cons_of_pos (by simp), if_pos (List.mem_cons_self ..)]
    · have ne : ¬ ky rs t = ky rs s := fun z => e (ky_inj (c.pin (h t (List.mem_cons_self ..))) hs z)
      rw [List.find?_cons_of_neg (by simpa using ne), find_in c hs (l := l) fun x hx => h x (List.mem_cons_of_mem _ hx)]
      by_cases m : s ∈ l
      · rw [if_pos m, if_pos (List.mem_cons_of_mem _ m)]
      · rw [if_neg m, if_neg (fun z => by
          rcases List.mem_cons.mp z with z | z
          · exact e z.symm
          · exact m z)]
theorem val_kvs {rs : List Sm} {s : Sm} (c : Cls rs) (hs : PIn rs s) : valV (kvsOf rs) (ky rs s) = if s ∈ rs then some (V.int ((rs.idxOf s : Nat) : Int)) else none := by
  unfold valV kvsOf
  rw [find_in c hs (fun x hx => hx)]
  by_cases m : s ∈ rs
  · rw [if_pos m, if_pos m]
    rfl
  · rw [if_neg m, if_neg m]
    rfl
def add (rs : List Sm) (s : Sm) : List Sm := if s ∈ rs then rs else rs ++ [s]
theorem mem_add {rs : List Sm} {s x : Sm} : x ∈ add rs s ↔ x ∈ rs ∨ x = s := by
  unfold add
  by_cases m : s ∈ rs
  · rw [if_pos m]
    constructor
    · exact .inl
    · rintro (h | rfl)
      · exact h
      · exact m
  · rw [if_neg m]
    simp
theorem idx_add {rs : List Sm} {s x : Sm} (h : x ∈ rs) : (add rs s).idxOf x = rs.idxOf x := by
  unfold add
  by_cases m : s ∈ rs
  · rw [if_pos m]
  · rw [if_neg m, idx_left h]
theorem idx_self {rs : List Sm} {s : Sm} (h : s ∉ rs) : (rs ++ [s]).idxOf s = rs.length := by
  rw [List.idxOf_append, if_neg h, List.idxOf_cons_self, Nat.zero_add]
theorem ky_add {rs : List Sm} {s x : Sm} (h : PIn rs x) : ky (add rs s) x = ky rs x := by
  cases x with
  | lt n => rfl
  | nv => rfl
  | bin w a b => simp only [ky, idx_add h.1, idx_add h.2]
theorem add_cls {rs : List Sm} {s : Sm} (c : Cls rs) (hs : PIn rs s) : Cls (add rs s) := by
  unfold add
  by_cases m : s ∈ rs
  · rw [if_pos m]
    exact c
  · rw [if_neg m]
    refine ⟨?_, fun i w a b h => ?_⟩
    · rw [List.nodup_append]
      exact ⟨c.nd, by simp, fun a ha b hb => by
        rw [List.mem_singleton.mp hb]
        exact fun z => m (z ▸ ha)⟩
    · by_cases hi : i < rs.length
      · rw [List.getElem?_append_left hi] at h
        have g := c.lo i w a b h
        have pi := c.pin (List.mem_of_getElem? h)
        rw [idx_left pi.1, idx_left pi.2]
        exact g
      · rw [List.getElem?_append_right (by omega)] at h
        have e : s = .bin w a b := by
          have := List.mem_of_getElem? h
          exact (List.mem_singleton.mp this).symm
        subst e
        have l1 := List.idxOf_lt_length_iff.mpr hs.1
        have l2 := List.idxOf_lt_length_iff.mpr hs.2
        rw [idx_left hs.1, idx_left hs.2]
        omega
theorem kvs_add {rs : List Sm} {s : Sm} (c : Cls rs) (hs : PIn rs s) (m : s ∉ rs) : putK (kvsOf rs) (ky rs s) (V.int ((rs.length : Nat) : Int)) = kvsOf (add rs s) := by
  have hn := val_kvs c hs
  rw [if_neg m] at hn
  have hany : ¬ ((kvsOf rs).any fun kv => decide (kv.1 = ky rs s)) = true := by
    intro z
    obtain ⟨kv, h1, h2⟩ := List.any_eq_true.mp z
    have := List.find?_eq_none.mp (Option.map_eq_none_iff.mp hn) kv h1
    exact this h2
  unfold putK
  rw [if_neg hany]
  have e : add rs s = rs ++ [s] := by
    unfold add
    rw [if_neg m]
  unfold kvsOf
  rw [e, List.map_append]
  congr 1
  · refine List.map_congr_left fun x hx => ?_
    have h1 := ky_add (s := s) (c.pin hx)
    have h2 := idx_add (s := s) hx
    rw [e] at h1 h2
    rw [h1, h2]
  · have h1 := ky_add (s := s) hs
    rw [e] at h1
    rw [List.map_cons, List.map_nil, h1, idx_self m]
theorem kvs_same {rs : List Sm} {s : Sm} (m : s ∈ rs) : add rs s = rs := by
  unfold add
  rw [if_pos m]
def adds (rs : List Sm) (l : List Sm) : List Sm := l.foldl add rs
theorem adds_snoc (rs l : List Sm) (s : Sm) : adds rs (l ++ [s]) = add (adds rs l) s := by
  unfold adds
  rw [List.foldl_append]
  rfl
theorem mem_adds {x : Sm} : ∀ {l rs : List Sm}, x ∈ adds rs l ↔ x ∈ rs ∨ x ∈ l
  | [], rs => by simp [adds]
  | s :: l, rs => by
    show x ∈ adds (add rs s) l ↔ _
    rw [mem_adds, mem_add, List.mem_cons, or_assoc]
theorem idx_adds {x : Sm} : ∀ {l rs : List Sm}, x ∈ rs → (adds rs l).idxOf x = rs.idxOf x
  | [], rs, _ => rfl
  | s :: l, rs, h => by
    show (adds (add rs s) l).idxOf x = _
    rw [idx_adds (mem_add.mpr (.inl h)), idx_add h]
theorem len_add (rs : List Sm) (s : Sm) : (add rs s).length ≤ rs.length + 1 := by
  unfold add
  by_cases m : s ∈ rs
  · rw [if_pos m]
    omega
  · rw [if_neg m, List.length_append]
    exact Nat.le_refl _
theorem len_adds : ∀ (l rs : List Sm), (adds rs l).length ≤ rs.length + l.length
  | [], rs => Nat.le_refl _
  | s :: l, rs => by
    have h1 := len_add rs s
    have h2 := len_adds l (add rs s)
    show (adds (add rs s) l).length ≤ _
    rw [List.length_cons]
    omega
theorem self_standing (s : Sm) : s ∈ s.standing := by cases s <;> exact List.mem_cons_self ..
theorem self_drop (s : Sm) : s.standing = s :: s.standing.drop 1 := by cases s <;> rfl
theorem standing_lt {s x : Sm} : x ∈ s.standing.drop 1 → x.size < s.size := by
  have aux : ∀ (s x : Sm), x ∈ s.standing → x.size ≤ s.size := by
    intro s
    induction s with
    | lt n => intro x h; rw [List.mem_singleton.mp h]; exact Nat.le_refl _
    | nv => intro x h; rw [List.mem_singleton.mp h]; exact Nat.le_refl _
    | bin w a b iha ihb =>
      intro x h
      rcases List.mem_cons.mp h with rfl | h
      · exact Nat.le_refl _
      · show x.size ≤ a.size + b.size + 1
        rcases List.mem_append.mp h with h | h
        · have := iha x h
          omega
        · have := ihb x h
          omega
  intro h
  cases s with
  | lt n => cases h
  | nv => cases h
  | bin w a b =>
    show x.size < a.size + b.size + 1
    rcases List.mem_append.mp (show x ∈ a.standing ++ b.standing from h) with h | h
    · have := aux a x h
      omega
    · have := aux b x h
      omega
/-- the rows of a list of statements -/
def rsOf (ss : List Sm) : List Sm := ss.foldl (fun rs a => adds rs a.standing.reverse) []
theorem rsOf_snoc (ss : List Sm) (a : Sm) : rsOf (ss ++ [a]) = adds (rsOf ss) a.standing.reverse := by
  unfold rsOf
  rw [List.foldl_append]
  rfl
theorem mem_rsOf {ss : List Sm} {x : Sm} : x ∈ rsOf ss ↔ ∃ a ∈ ss, x ∈ a.standing := by
  have : ∀ (ss rs : List Sm), x ∈ ss.foldl (fun rs a => adds rs a.standing.reverse) rs ↔ x ∈ rs ∨ ∃ a ∈ ss, x ∈ a.standing := by
    intro ss
    induction ss with
    | nil => intro rs; simp
    | cons s r ih =>
      intro rs
      rw [List.foldl_cons, ih, mem_adds, List.mem_reverse]
      simp [or_assoc]
  have h := this ss []
  unfold rsOf
  rw [h]
  simp
/-- the row of one statement ends in itself -/
theorem rsOf_one (a : Sm) : ∃ r, rsOf [a] = r ++ [a] := by
  show ∃ r, adds [] a.standing.reverse = r ++ [a]
  rw [self_drop a, List.reverse_cons, adds_snoc]
  refine ⟨adds [] (a.standing.drop 1).reverse, ?_⟩
  have hn : a ∉ adds [] (a.standing.drop 1).reverse := fun z => by
    rcases mem_adds.mp z with z | z
    · cases z
    · exact Nat.lt_irrefl _ (standing_lt (List.mem_reverse.mp z))
  unfold add
  rw [if_neg hn]

/-! ### growths -/
abbrev Gr := List (List (List Nat) × List Nat)
inductive Rch (g : Gr) : Nat → Nat → Prop where
  | refl {k : Nat} : Rch g k k
  | step {k u j : Nat} {s : List (List Nat) × List Nat} : g[k]? = some s → u ∈ s.2 → Rch g u j → Rch g k j
def Gr.ok (g : Gr) : Prop := ∀ (k : Nat) (s : List (List Nat) × List Nat), g[k]? = some s → ∀ u ∈ s.2, k < u ∧ u < g.length
theorem Rch.trans {g : Gr} {a b c : Nat} (h : Rch g a b) (i : Rch g b c) : Rch g a c := by
  induction h with
  | refl => exact i
  | step e m _ ih => exact .step e m (ih i)
theorem Rch.lt {g : Gr} (ok : g.ok) {a b : Nat} (h : Rch g a b) (l : a < g.length) : b < g.length := by
  induction h with
  | refl => exact l
  | step e m _ ih => exact ih (ok _ _ e _ m).2
theorem Rch.le {g : Gr} (ok : g.ok) {a b : Nat} (h : Rch g a b) : a ≤ b := by
  induction h with
  | refl => exact Nat.le_refl _
  | step e m _ ih =>
    have := (ok _ _ e _ m).1
    omega
theorem rch_iff {g : Gr} {k j : Nat} {s : List (List Nat) × List Nat} (e : g[k]? = some s) : Rch g k j ↔ j = k ∨ ∃ u ∈ s.2, Rch g u j := by
  constructor
  · intro h
    cases h with
    | refl => exact .inl rfl
    | step e' m r =>
      rw [e] at e'
      injection e' with e'
      subst e'
      exact .inr ⟨_, m, r⟩
  · rintro (rfl | ⟨u, m, r⟩)
    · exact .refl
    · exact .step e m r
/-- where a statement holds -/
def Hd (g : Gr) : Sm → Nat → Prop
  | .lt n, k => ∃ s, g[k]? = some s ∧ n ∈ s.1
  | .nv, _ => False
  | .bin .and a b, k => Hd g a k ∧ Hd g b k
  | .bin .or a b, k => Hd g a k ∨ Hd g b k
  | .bin .thn a b, k => ∀ j, Rch g k j → Hd g a j → Hd g b j
/-- a stand; A is true of the lists' places -/
def IsSd (A : Addr → Prop) (H : Hp) (v : V) (s : List (List Nat) × List Nat) : Prop := ∃ t pn pu, v = .ref t ∧ H t = some (.tup [.ref pn, .ref pu]) ∧ H pn = some (.lst (s.1.map fun n => V.str (S n))) ∧ H pu = some (.lst (s.2.map fun u => V.int (u : Nat))) ∧ A pn ∧ A pu
theorem IsSd.same {A : Addr → Prop} {H H' : Hp} (e : Same H H') {v : V} {s : List (List Nat) × List Nat} (h : IsSd A H v s) : IsSd A H' v s := by
  obtain ⟨t, pn, pu, h0, h1, h2, h3, h4⟩ := h
  exact ⟨t, pn, pu, h0, e _ _ h1, e _ _ h2, e _ _ h3, h4⟩
theorem IsSd.any {A : Addr → Prop} {H : Hp} {v : V} {s : List (List Nat) × List Nat} (h : IsSd A H v s) : IsSd (fun _ => True) H v s := by
  obtain ⟨t, pn, pu, h0, h1, h2, h3, _⟩ := h
  exact ⟨t, pn, pu, h0, h1, h2, h3, True.intro, True.intro⟩
structure IsGr (A : Addr → Prop) (H : Hp) (a : Addr) (g : Gr) : Prop where
  ex : ∃ vs, H a = some (.lst vs) ∧ Paired (IsSd A H) vs g
  at_ : A a
theorem IsGr.same {A : Addr → Prop} {H H' : Hp} (e : Same H H') {a : Addr} {g : Gr} (h : IsGr A H a g) : IsGr A H' a g := by
  obtain ⟨⟨vs, h1, h2⟩, h3⟩ := h
  exact ⟨⟨vs, e _ _ h1, pair_map (fun _ _ h => h.same e) h2⟩, h3⟩
theorem IsGr.any {A : Addr → Prop} {H : Hp} {a : Addr} {g : Gr} (h : IsGr A H a g) : IsGr (fun _ => True) H a g := by
  obtain ⟨⟨vs, h1, h2⟩, _⟩ := h
  exact ⟨⟨vs, h1, pair_map (fun _ _ h => h.any) h2⟩, True.intro⟩
theorem IsGr.but {l : Addr} {H H' : Hp} (e : But l H H') (hl : ∀ xs, H l ≠ some (.tup xs)) {a : Addr} {g : Gr} (h : IsGr (fun x => x ≠ l) H a g) : IsGr (fun x => x ≠ l) H' a g := by
  obtain ⟨⟨vs, h1, h2⟩, h3⟩ := h
  refine ⟨⟨vs, e _ _ h3 h1, pair_map (fun v s h => ?_) h2⟩, h3⟩
  obtain ⟨t, pn, pu, k0, k1, k2, k3, k4, k5⟩ := h
  exact ⟨t, pn, pu, k0, e.ts hl _ _ k1, e _ _ k4 k2, e _ _ k5 k3, k4, k5⟩
theorem pair_at {α β : Type} {R : α → β → Prop} : ∀ {xs : List α} {us : List β} {i : Nat} {u : β}, Paired R xs us → us[i]? = some u → ∃ x, xs[i]? = some x ∧ R x u
  | _, _, _, _, .nil, e => by simp at e
  | _, _, 0, u, .cons r _, e => by
    have e' := Option.some.inj e
    subst e'
    exact ⟨_, rfl, r⟩
  | _, _, i + 1, u, .cons _ t, e => by
    obtain ⟨x, h1, h2⟩ := pair_at (i := i) (u := u) t (by simpa using e)
    exact ⟨x, by simpa using h1, h2⟩
theorem inV_nm (n : List Nat) (ls : List (List Nat)) : inV (.str (S n)) (ls.map fun l => V.str (S l)) = decide (n ∈ ls) := by
  rw [show (ls.map fun l => V.str (S l)) = (ls.map S).map V.str by rw [List.map_map]; rfl, inV_str, List.any_map]
  induction ls with
  | nil => rfl
  | cons l r ih =>
    rw [List.any_cons, ih, Function.comp, str_beq]
    by_cases e : l = n
    · subst e
      simp
    · have e2 : ¬ n = l := fun z => e z.symm
      simp [e, e2]
theorem flat_nm (ls : List (List Nat)) : (ls.map fun l => V.str (S l)).all flatV = true := by
  rw [List.all_eq_true]
  intro x hx
  obtain ⟨l, _, rfl⟩ := List.mem_map.mp hx
  rfl
theorem at_first {α : Type} (f : Sm → α) (a : Sm) : atI (a.standing.map f) 0 = some (f a) := by
  rw [self_drop a, List.map_cons]
  exact atI_nat (j := 0) rfl

theorem pg_tupK {X : Cx} {K : PySem.W.Frag} {es : List Expr} {k : Nat} {pos : Pos} {t : TGs} {n : Nat} (hc : X.calm = true) (h : PGs X es t)
    (hn : (assignEach es X.env).length = n := by rfl) (hst : (assignEach es X.env).findIdx? (·.1) = none := by rfl) (hK : X.K = K := by rfl) : PG X (.Tuple es k pos) (gTup K n t) := by
  subst hK
  exact pg_tup hc h hn hst
theorem take_snoc {α : Type} {l : List α} {i : Nat} {x : α} (h : l[i]? = some x) : l.take (i + 1) = l.take i ++ [x] := by
  rw [List.take_add_one, h]
  rfl
end Ob

/-! ObL: a list of three numbers that is drawn from. -/
namespace Ob
open PySem PySem.Spec PyProof.Rows L2
def StW (H : Hp) (st : Addr) : Prop := ∃ a b c : Int, H st = some (.lst [.int a, .int b, .int c])
theorem StW.lst {H : Hp} {st : Addr} (h : StW H st) : ∃ xs, H st = some (.lst xs) := by
  obtain ⟨a, b, c, h⟩ := h
  exact ⟨_, h⟩
theorem StW.not {H : Hp} {st : Addr} (h : StW H st) : ∀ xs, H st ≠ some (.tup xs) := fun xs e => by
  obtain ⟨a, b, c, h⟩ := h
  rw [h] at e
  cases e
theorem StW.same {H H' : Hp} {st : Addr} (s : Same H H') (h : StW H st) : StW H' st := by
  obtain ⟨a, b, c, h⟩ := h
  exact ⟨a, b, c, s _ _ h⟩
/-- behind some drawing -/
structure Wd (st : Addr) (H H' : Hp) : Prop where
  bt : But st H H'
  w0 : StW H st
  w1 : StW H' st
theorem Wd.refl {st : Addr} {H : Hp} (h : StW H st) : Wd st H H := ⟨But.refl st H, h, h⟩
theorem Wd.trans {st : Addr} {H H1 H2 : Hp} (a : Wd st H H1) (b : Wd st H1 H2) : Wd st H H2 := ⟨a.bt.trans b.bt, a.w0, b.w1⟩
theorem Wd.of {st : Addr} {H H' : Hp} (h : StW H st) (s : Same H H') : Wd st H H' := ⟨Same.but s st, h, h.same s⟩
theorem Wd.then {st : Addr} {H H1 H2 : Hp} (a : Wd st H H1) (s : Same H1 H2) : Wd st H H2 := a.trans (.of a.w1 s)
theorem Wd.ts {st : Addr} {H H' : Hp} (a : Wd st H H') : TS H H' := a.bt.ts a.w0.not
theorem Wd.tk {K : PySem.W.Frag} {st : Addr} {H H' : Hp} (a : Wd st H H') : TK K H H' := by
  obtain ⟨xs, h⟩ := a.w0.lst
  exact a.bt.tk h
theorem Wd.ne {st : Addr} {H : Hp} (h : StW H st) {p : Addr} (n : H p = none) : p ≠ st := fun e => by
  obtain ⟨xs, h⟩ := h.lst
  rw [e, h] at n
  cases n
theorem Wd.free {st : Addr} {H H' : Hp} (a : Wd st H H') {p : Addr} (n : H' p = none) : H p = none := a.bt.free (Wd.ne a.w1 n) n
/-- an object of one's own changed -/
theorem Wd.put {st : Addr} {H H' : Hp} (a : Wd st H H') {p : Addr} {o : HO} (n : H p = none) : Wd st H (upd H' p o) := by
  refine ⟨a.bt.newput n, a.w0, ?_⟩
  obtain ⟨x, y, z, h⟩ := a.w1
  refine ⟨x, y, z, ?_⟩
  rw [upd_ne (Wd.ne a.w0 n).symm]
  exact h
theorem Wd.new {st : Addr} {H H' : Hp} (a : Wd st H H') {p : Addr} {o : HO} (n : H' p = none) : Wd st H (upd H' p o) := a.then (same_new n)
def sp_draw (K : PySem.W.Frag) : Sp := fun vs H Q _ => ∃ (st : Addr) (m : Int), vs = [.ref st, .int m] ∧ StW H st ∧ 0 < m ∧ m < 2 ^ 4000 ∧ ∀ H' (r : Int), Wd st H H' → 0 ≤ r → r < m → Q (.int r) H'
set_option exponentiation.threshold 5000 in
theorem div_ok {m : Int} (h0 : 0 < m) (h1 : m < 2 ^ 4000) : CDivW 0 m := wide_div (b := 4000) h0 (by
  have e : ((2 ^ 4000 : Nat) : Int) = 2 ^ 4000 := by rw [Int.natCast_pow]; rfl
  omega) (by decide) (by decide)
theorem small_modW (z : Int) : -(2 ^ 64) < z % 2147483647 ∧ z % 2147483647 < 2 ^ 64 := ⟨Int.lt_of_lt_of_le (by decide) (Int.emod_nonneg _ (by decide)), Int.lt_trans (Int.emod_lt_of_pos _ (by decide)) (by decide)⟩
/-! ### names of letters, drawn -/
def dgA : List Nat := [97, 98, 99, 101, 102, 103, 104, 105, 106, 107]
def dgB : List Nat := [98, 99, 101, 102, 103, 104, 105, 106, 107, 108]
theorem dgA_at : ∀ j : Nat, j < 10 → ((("abcefghijk" : Str)).cps.toList)[j]? = some (dgA.getD j 0) := by decide +kernel
theorem dgB_at : ∀ j : Nat, j < 10 → ((("bcefghijkl" : Str)).cps.toList)[j]? = some (dgB.getD j 0) := by decide +kernel
theorem dgA_in : ∀ j : Nat, j < 10 → 97 ≤ dgA.getD j 0 ∧ dgA.getD j 0 ≤ 122 ∧ dgA.getD j 0 ≠ 100 ∧ dgA.getD j 0 ≠ 114 ∧ dgA.getD j 0 ≠ 110 := by decide
theorem dgB_in : ∀ j : Nat, j < 10 → 97 ≤ dgB.getD j 0 ∧ dgB.getD j 0 ≤ 122 ∧ dgB.getD j 0 ≠ 97 ∧ dgB.getD j 0 ≠ 111 ∧ dgB.getD j 0 ≠ 116 ∧ dgB.getD j 0 ≠ 110 := by decide
theorem dgA_inj : ∀ i : Nat, i < 10 → ∀ j : Nat, j < 10 → dgA.getD i 0 = dgA.getD j 0 → i = j := by decide
theorem dgB_inj : ∀ i : Nat, i < 10 → ∀ j : Nat, j < 10 → dgB.getD i 0 = dgB.getD j 0 → i = j := by decide
def nmA (stem : List Nat) (o k : Nat) : List Nat := stem ++ [dgA.getD ((o + k) % 10) 0]
def nmB' (stem : List Nat) (o k : Nat) : List Nat := dgB.getD ((o + k) % 10) 0 :: stem
structure Stem (l : List Nat) : Prop where
  hi : l.length ≤ 7
  abc : ∀ c ∈ l, 97 ≤ c ∧ c ≤ 122
theorem word_and {l : List Nat} (h : S l = "and") : l = [97, 110, 100] := by
  have e : (S l).cps.toList = ("and" : Str).cps.toList := by rw [h]
  exact e.trans (by decide +kernel)
theorem word_or {l : List Nat} (h : S l = "or") : l = [111, 114] := by
  have e : (S l).cps.toList = ("or" : Str).cps.toList := by rw [h]
  exact e.trans (by decide +kernel)
theorem word_then {l : List Nat} (h : S l = "then") : l = [116, 104, 101, 110] := by
  have e : (S l).cps.toList = ("then" : Str).cps.toList := by rw [h]
  exact e.trans (by decide +kernel)
theorem word_never {l : List Nat} (h : S l = "never") : l = [110, 101, 118, 101, 114] := by
  have e : (S l).cps.toList = ("never" : Str).cps.toList := by rw [h]
  exact e.trans (by decide +kernel)
theorem nmA_nm {stem : List Nat} (h : Stem stem) (o k : Nat) : Nm (nmA stem o k) := by
  have hd := dgA_in ((o + k) % 10) (Nat.mod_lt _ (by decide))
  unfold nmA
  have hlast : ∀ {l : List Nat} {c : Nat}, stem ++ [dgA.getD ((o + k) % 10) 0] = l ++ [c] → dgA.getD ((o + k) % 10) 0 = c := fun e => by
    have := congrArg List.getLast? e
    simpa using this
  refine ⟨?_, ?_, ?_, fun z => ?_, fun z => ?_, fun z => ?_, fun z => ?_⟩
  · rw [List.length_append]
    exact Nat.le_add_left _ _
  · rw [List.length_append]
    have := h.hi
    show stem.length + 1 ≤ 8
    omega
  · intro c hc
    rcases List.mem_append.mp hc with hc | hc
    · exact h.abc c hc
    · rw [List.mem_singleton.mp hc]
      exact ⟨hd.1, hd.2.1⟩
  · exact hd.2.2.1 (hlast (l := [97, 110]) (word_and z))
  · exact hd.2.2.2.1 (hlast (l := [111]) (word_or z))
  · exact hd.2.2.2.2 (hlast (l := [116, 104, 101]) (word_then z))
  · exact hd.2.2.2.1 (hlast (l := [110, 101, 118, 101]) (word_never z))
theorem nmB_nm {stem : List Nat} (h : Stem stem) (o k : Nat) : Nm (nmB' stem o k) := by
  have hd := dgB_in ((o + k) % 10) (Nat.mod_lt _ (by decide))
  unfold nmB'
  refine ⟨?_, ?_, ?_, fun z => ?_, fun z => ?_, fun z => ?_, fun z => ?_⟩
  · exact Nat.succ_le_succ (Nat.zero_le _)
  · have := h.hi
    show stem.length + 1 ≤ 8
    omega
  · intro c hc
    rcases List.mem_cons.mp hc with rfl | hc
    · exact ⟨hd.1, hd.2.1⟩
    · exact h.abc c hc
  · have e := word_and z
    injection e with e
    exact hd.2.2.1 e
  · have e := word_or z
    injection e with e
    exact hd.2.2.2.1 e
  · have e := word_then z
    injection e with e
    exact hd.2.2.2.2.1 e
  · have e := word_never z
    injection e with e
    exact hd.2.2.2.2.2 e
theorem nodup_range {f : Nat → List Nat} {m : Nat} (h : ∀ i j, i < m → j < m → f i = f j → i = j) : ((List.range m).map f).Nodup := by
  unfold List.Nodup
  rw [List.pairwise_map]
  refine List.Pairwise.imp_of_mem ?_ (List.pairwise_lt_range (n := m))
  intro i j hi hj hlt e
  have := h i j (List.mem_range.mp hi) (List.mem_range.mp hj) e
  omega
theorem nmA_nodup (stem : List Nat) (o : Nat) {m : Nat} (hm : m ≤ 10) : ((List.range m).map (nmA stem o)).Nodup := nodup_range fun i j hi hj e => by
  have e1 : dgA.getD ((o + i) % 10) 0 = dgA.getD ((o + j) % 10) 0 := by
    have := congrArg List.getLast? e
    simpa [nmA] using this
  have := dgA_inj _ (Nat.mod_lt _ (by decide)) _ (Nat.mod_lt _ (by decide)) e1
  omega
theorem nmB_nodup (stem : List Nat) (o : Nat) {m : Nat} (hm : m ≤ 10) : ((List.range m).map (nmB' stem o)).Nodup := nodup_range fun i j hi hj e => by
  have e1 : dgB.getD ((o + i) % 10) 0 = dgB.getD ((o + j) % 10) 0 := by
    unfold nmB' at e
    injection e
  have := dgB_inj _ (Nat.mod_lt _ (by decide)) _ (Nat.mod_lt _ (by decide)) e1
  omega
theorem Sm.size_dp : ∀ s : Sm, s.size < 2 ^ (s.dp + 1)
  | .lt _ => by show 1 < 2 ^ 1; decide
  | .nv => by show 1 < 2 ^ 1; decide
  | .bin w a b => by
    have h1 := a.size_dp
    have h2 := b.size_dp
    show a.size + b.size + 1 < 2 ^ (max a.dp b.dp + 1 + 1)
    have m1 : 2 ^ (a.dp + 1) ≤ 2 ^ (max a.dp b.dp + 1) := Nat.pow_le_pow_right (by decide) (by omega)
    have m2 : 2 ^ (b.dp + 1) ≤ 2 ^ (max a.dp b.dp + 1) := Nat.pow_le_pow_right (by decide) (by omega)
    rw [Nat.pow_succ 2 (max a.dp b.dp + 1)]
    omega
theorem Sm.size_le {s : Sm} {d : Nat} (h : s.dp ≤ d) : s.size < 2 ^ (d + 1) := Nat.lt_of_lt_of_le s.size_dp (Nat.pow_le_pow_right (by decide) (by omega))
theorem jw7 {k : Nat} (h : k < 7) : ∃ w : J, ([V.str "and", .str "or", .str "then", .str "then", .str "or", .str "and", .str "then"])[k]? = some (.str w.s) := by
  match k, h with
  | 0, _ => exact ⟨.and, rfl⟩
  | 1, _ => exact ⟨.or, rfl⟩
  | 2, _ => exact ⟨.thn, rfl⟩
  | 3, _ => exact ⟨.thn, rfl⟩
  | 4, _ => exact ⟨.or, rfl⟩
  | 5, _ => exact ⟨.and, rfl⟩
  | 6, _ => exact ⟨.thn, rfl⟩
theorem at_map {α : Type} {f : α → V} {ls : List α} {j : Nat} (h : j < ls.length) : atI (ls.map f) ((j : Nat) : Int) = some (f ls[j]) := atI_nat (by
  rw [List.getElem?_map, List.getElem?_eq_getElem h]
  rfl)
/-! ### lists of names as data -/
def nmsD (ls : List (List Nat)) : PyData := .list (ls.map fun l => PyData.str (S l))
theorem dp_nms {K : PySem.W.Frag} {H : Hp} {a : Addr} {ls : List (List Nat)} (h : SqL K H a (ls.map fun l => V.str (S l))) : Dp K H (.ref a) (nmsD ls) := .lst h (by
  clear h
  induction ls with
  | nil => exact .nil
  | cons l r ih => exact .cons (.str _) ih)
theorem lay_nms {ls : List (List Nat)} (h : ∀ l ∈ ls, Ch l) : (nmsD ls).canLay0 = true := lay_lst fun d hd => by
  obtain ⟨l, hl, rfl⟩ := List.mem_map.mp hd
  show PyData.canLay0 (.str (S l)) = true
  rw [PyData.canLay0]
  exact (h l hl).ok
theorem eqv_nms (ls : List (List Nat)) : PyData.eqv (nmsD ls) (nmsD ls) = true := by
  unfold nmsD
  rw [PyData.eqv]
  induction ls with
  | nil => rw [List.map_nil, PyData.eqvAll]
  | cons l r ih =>
    rw [List.map_cons, PyData.eqvAll, ih, eqv_s, beq_self_eq_true]
    rfl
theorem dep_nms (ls : List (List Nat)) : (nmsD ls).depth ≤ 3 := by
  have h : PyData.depthAll (ls.map fun l => PyData.str (S l)) ≤ 2 := by
    induction ls with
    | nil => simp [PyData.depthAll]
    | cons l r ih =>
      rw [List.map_cons, PyData.depthAll]
      have : (PyData.str (S l)).depth ≤ 1 := by simp [PyData.depth]
      omega
  unfold nmsD
  rw [PyData.depth]
  omega
/-- what is sorted are the same names -/
theorem sorted_nms {ls : List (List Nat)} {ys : List Str} (h : ys.Perm (ls.map S)) : ∃ ms : List (List Nat), ys = ms.map S ∧ ms.length = ls.length ∧ ∀ n, n ∈ ms ↔ n ∈ ls := by
  have e : ys = (ys.map fun y => y.cps.toList).map S := by
    rw [List.map_map]
    have : ∀ y : Str, (S ∘ fun y : Str => y.cps.toList) y = y := fun y => S_tl y
    rw [List.map_congr_left (g := id) fun y _ => this y, List.map_id]
  refine ⟨_, e, ?_, fun n => ?_⟩
  · rw [List.length_map, h.length_eq, List.length_map]
  · constructor
    · intro hn
      obtain ⟨y, hy, rfl⟩ := List.mem_map.mp hn
      obtain ⟨l, hl, rfl⟩ := List.mem_map.mp (h.mem_iff.mp hy)
      exact hl
    · intro hn
      exact List.mem_map.mpr ⟨S n, h.mem_iff.mpr (List.mem_map.mpr ⟨n, hn, rfl⟩), rfl⟩
theorem strs_nms (ls : List (List Nat)) : (ls.map fun l => V.str (S l)) = (ls.map S).map V.str := by
  rw [List.map_map]
  rfl
theorem jw3 {k : Nat} (h : k < 3) : ∃ w : J, ([V.str "then", .str "and", .str "or"])[k]? = some (.str w.s) := by
  match k, h with
  | 0, _ => exact ⟨.thn, rfl⟩
  | 1, _ => exact ⟨.and, rfl⟩
  | 2, _ => exact ⟨.or, rfl⟩
/-! ### growths, drawn -/
theorem perm_nms {ls : List (List Nat)} {ys : List Str} (h : ys.Perm (ls.map S)) : ∃ ms : List (List Nat), ys = ms.map S ∧ ms.Perm ls := by
  have e : ys = (ys.map fun y => y.cps.toList).map S := by
    rw [List.map_map]
    have : ∀ y : Str, (S ∘ fun y : Str => y.cps.toList) y = y := fun y => S_tl y
    rw [List.map_congr_left (g := id) fun y _ => this y, List.map_id]
  refine ⟨_, e, ?_⟩
  have h2 := h.map fun y : Str => y.cps.toList
  rw [List.map_map] at h2
  have e2 : ls.map ((fun y : Str => y.cps.toList) ∘ S) = ls := by
    have : ∀ l ∈ ls, ((fun y : Str => y.cps.toList) ∘ S) l = id l := fun l _ => rfl
    rw [List.map_congr_left this, List.map_id]
  rw [e2] at h2
  exact h2
abbrev Std1 := List (List Nat) × List Nat
/-- the names of a stand are some of the sorted ones -/
def NmsOk (ls ns : List (List Nat)) : Prop := ∃ ys : List (List Nat), ys.Perm ls ∧ sortedS (ys.map S) = true ∧ ns.Sublist ys
structure StdP (ls : List (List Nat)) (F : Nat → Std1) (lo many : Nat) : Prop where
  up : ∀ k, lo ≤ k → k < many → ∀ u ∈ (F k).2, k < u ∧ u < many
  inc : ∀ k, lo ≤ k → k < many → (F k).2.Pairwise (· < ·)
  cl : ∀ k, lo ≤ k → k < many → ∀ u ∈ (F k).2, ∀ n ∈ (F k).1, n ∈ (F u).1
  nm : ∀ k, lo ≤ k → k < many → NmsOk ls (F k).1
def setF (F : Nat → Std1) (k : Nat) (s : Std1) : Nat → Std1 := fun j => if j = k then s else F j
theorem setF_self {F : Nat → Std1} {k : Nat} {s : Std1} : setF F k s k = s := if_pos rfl
theorem setF_ne {F : Nat → Std1} {k j : Nat} {s : Std1} (h : j ≠ k) : setF F k s j = F j := if_neg h
theorem StdP.step {ls : List (List Nat)} {F : Nat → Std1} {k many : Nat} {s : Std1} (h : StdP ls F (k + 1) many) (hk : k < many) (h1 : ∀ u ∈ s.2, k < u ∧ u < many) (h2 : s.2.Pairwise (· < ·)) (h3 : ∀ u ∈ s.2, ∀ n ∈ s.1, n ∈ (F u).1) (h4 : NmsOk ls s.1) : StdP ls (setF F k s) k many := by
  have ne : ∀ j, k ≤ j → j ≠ k → k + 1 ≤ j := fun j a b => by omega
  refine ⟨fun j a b u hu => ?_, fun j a b => ?_, fun j a b u hu n hn => ?_, fun j a b => ?_⟩
  · by_cases e : j = k
    · subst e
      rw [setF_self] at hu
      exact h1 u hu
    · rw [setF_ne e] at hu
      exact h.up j (ne j a e) b u hu
  · by_cases e : j = k
    · subst e
      rw [setF_self]
      exact h2
    · rw [setF_ne e]
      exact h.inc j (ne j a e) b
  · by_cases e : j = k
    · subst e
      rw [setF_self] at hu hn
      have := h1 u hu
      rw [setF_ne (by omega)]
      exact h3 u hu n hn
    · rw [setF_ne e] at hu hn
      have := h.up j (ne j a e) b u hu
      rw [setF_ne (by omega)]
      exact h.cl j (ne j a e) b u hu n hn
  · by_cases e : j = k
    · subst e
      rw [setF_self]
      exact h4
    · rw [setF_ne e]
      exact h.nm j (ne j a e) b
/-- a growth as it is drawn -/
structure Good (ls : List (List Nat)) (g : Gr) : Prop where
  ok : g.ok
  inc : ∀ s ∈ g, s.2.Pairwise (· < ·)
  cl : ∀ (k : Nat) (s su : Std1), g[k]? = some s → ∀ u ∈ s.2, g[u]? = some su → ∀ n ∈ s.1, n ∈ su.1
  nm : ∀ s ∈ g, NmsOk ls s.1
theorem StdP.good {ls : List (List Nat)} {F : Nat → Std1} {many : Nat} (h : StdP ls F 0 many) : Good ls ((List.range many).map F) := by
  have at' : ∀ (k : Nat) (s : Std1), ((List.range many).map F)[k]? = some s → k < many ∧ F k = s := fun k s e => by
    rw [List.getElem?_map] at e
    obtain ⟨j, hj, rfl⟩ := Option.map_eq_some_iff.mp e
    have hk := (List.getElem?_eq_some_iff.mp hj).1
    rw [List.length_range] at hk
    rw [List.getElem?_range hk] at hj
    injection hj with hj
    subst hj
    exact ⟨hk, rfl⟩
  refine ⟨fun k s e u hu => ?_, fun s hs => ?_, fun k s su e u hu eu n hn => ?_, fun s hs => ?_⟩
  · obtain ⟨hk, rfl⟩ := at' k s e
    rw [List.length_map, List.length_range]
    exact h.up k (Nat.zero_le _) hk u hu
  · obtain ⟨k, hk, rfl⟩ := List.mem_map.mp hs
    exact h.inc k (Nat.zero_le _) (List.mem_range.mp hk)
  · obtain ⟨hk, rfl⟩ := at' k s e
    obtain ⟨_, rfl⟩ := at' u su eu
    exact h.cl k (Nat.zero_le _) hk u hu n hn
  · obtain ⟨k, hk, rfl⟩ := List.mem_map.mp hs
    exact h.nm k (Nat.zero_le _) (List.mem_range.mp hk)
/-- what holds stays -/
theorem Good.keeps {ls : List (List Nat)} {g : Gr} (h : Good ls g) : ∀ (a : Sm) {k j : Nat}, Rch g k j → k < g.length → Hd g a k → Hd g a j
  | .lt n, k, j, r, hk, hh => by
    induction r with
    | refl => exact hh
    | @step k u j s e m _ ih =>
      obtain ⟨s', e', hn⟩ := hh
      rw [e] at e'
      injection e' with e'
      subst e'
      have hu := (h.ok k s e u m).2
      obtain ⟨su, hsu⟩ : ∃ su, g[u]? = some su := ⟨g[u], List.getElem?_eq_getElem hu⟩
      exact ih hu ⟨su, hsu, h.cl k s su e u m hsu n hn⟩
  | .nv, _, _, _, _, hh => hh.elim
  | .bin .and a b, _, _, r, hk, hh => ⟨h.keeps a r hk hh.1, h.keeps b r hk hh.2⟩
  | .bin .or a b, _, _, r, hk, hh => by
    rcases hh with hh | hh
    · exact .inl (h.keeps a r hk hh)
    · exact .inr (h.keeps b r hk hh)
  | .bin .thn a b, _, _, r, _, hh => fun x rx hx => hh x (r.trans rx) hx
theorem IsSd.wd {st : Addr} {H H' : Hp} (w : Wd st H H') {v : V} {s : Std1} (h : IsSd (· ≠ st) H v s) : IsSd (· ≠ st) H' v s := by
  obtain ⟨t, pn, pu, k0, k1, k2, k3, k4, k5⟩ := h
  exact ⟨t, pn, pu, k0, w.ts _ _ k1, w.bt _ _ k4 k2, w.bt _ _ k5 k3, k4, k5⟩
theorem IsGr.wd {st : Addr} {H H' : Hp} (w : Wd st H H') {a : Addr} {g : Gr} (h : IsGr (· ≠ st) H a g) : IsGr (· ≠ st) H' a g := h.but w.bt w.w0.not
/-! ### what is above, and where a statement holds, as the growths' laws tell it -/
theorem nodup_le : ∀ (n : Nat) (l : List Nat), l.Nodup → (∀ x ∈ l, x < n) → l.length ≤ n
  | 0, l, _, h => by
    cases l with
    | nil => exact Nat.le_refl _
    | cons x r => exact absurd (h x (List.mem_cons_self ..)) (Nat.not_lt_zero x)
  | n + 1, l, nd, h => by
    have h1 := nodup_le n (l.erase n) (nd.erase n) (fun x hx => by
      have := (nd.mem_erase_iff).mp hx
      have := h x this.2
      omega)
    have h2 : l.length ≤ (l.erase n).length + 1 := by
      rw [List.length_erase]
      split <;> omega
    omega
theorem inV_int (x : Nat) (ks : List Nat) : inV (.int (x : Nat)) (ks.map fun k => V.int (k : Nat)) = decide (x ∈ ks) := by
  unfold inV
  rw [List.any_map]
  induction ks with
  | nil => rfl
  | cons k r ih =>
    rw [List.any_cons, ih]
    have e : ((fun y => eqV y (V.int ((x : Nat) : Int))) ∘ fun k : Nat => V.int (k : Nat)) k = decide (k = x) := by
      show ((k : Int) == (x : Int)) = _
      by_cases e : k = x
      · subst e
        simp
      · rw [decide_eq_false e]
        simp
        omega
    rw [e]
    by_cases h : k = x
    · subst h
      simp
    · have h2 : ¬ x = k := fun z => h z.symm
      simp [h, h2]
theorem flat_int (ks : List Nat) : (ks.map fun k => V.int (k : Nat)).all flatV = true := by
  rw [List.all_eq_true]
  intro x hx
  obtain ⟨l, _, rfl⟩ := List.mem_map.mp hx
  rfl
theorem ints_nat (ks : List Nat) : (ks.map fun k => V.int (k : Nat)) = (ks.map fun k : Nat => (k : Int)).map V.int := by
  rw [List.map_map]
  rfl
theorem perm_nats {ks : List Nat} {ns : List Int} (h : ns.Perm (ks.map fun k : Nat => (k : Int))) : ∃ ms : List Nat, ns = ms.map (fun k : Nat => (k : Int)) ∧ ms.Perm ks := by
  have e : ns = (ns.map fun i => i.toNat).map (fun k : Nat => (k : Int)) := by
    rw [List.map_map]
    have : ∀ i ∈ ns, ((fun k : Nat => (k : Int)) ∘ fun i : Int => i.toNat) i = id i := fun i hi => by
      obtain ⟨k, _, rfl⟩ := List.mem_map.mp (h.mem_iff.mp hi)
      rfl
    rw [List.map_congr_left this, List.map_id]
  refine ⟨_, e, ?_⟩
  have h2 := h.map fun i : Int => i.toNat
  rw [List.map_map] at h2
  have e2 : ks.map ((fun i : Int => i.toNat) ∘ fun k : Nat => (k : Int)) = ks := by
    have : ∀ k ∈ ks, ((fun i : Int => i.toNat) ∘ fun k : Nat => (k : Int)) k = id k := fun k _ => rfl
    rw [List.map_congr_left this, List.map_id]
  rw [e2] at h2
  exact h2
/-- the stands at or above each stand, in a dict -/
structure RcOk (A : Addr → Prop) (g : Gr) (H : Hp) (d : Addr) : Prop where
  ex : ∃ kvs : List (Key × V), H d = some (.dK kvs) ∧ (∀ p ∈ kvs, ∃ j : Nat, p.1 = .inl (j : Int) ∧ j < g.length) ∧ kvs.length ≤ g.length ∧
    ∀ k, k < g.length → ∃ (l : Addr) (ks : List Nat), valV kvs (.inl (k : Int)) = some (.ref l) ∧ H l = some (.lst (ks.map fun x => V.int (x : Nat))) ∧ (∀ x, x ∈ ks ↔ Rch g k x) ∧ ks.Nodup ∧ ks.Pairwise (· ≤ ·) ∧ A l
  at_ : A d
theorem RcOk.same {A : Addr → Prop} {g : Gr} {H H' : Hp} (e : Same H H') {d : Addr} (h : RcOk A g H d) : RcOk A g H' d := by
  obtain ⟨⟨kvs, h1, h2, h3, h4⟩, h5⟩ := h
  refine ⟨⟨kvs, e _ _ h1, h2, h3, fun k hk => ?_⟩, h5⟩
  obtain ⟨l, ks, a, b, c⟩ := h4 k hk
  exact ⟨l, ks, a, e _ _ b, c⟩
theorem RcOk.imp {A B : Addr → Prop} {g : Gr} {H : Hp} (f : ∀ a, A a → B a) {d : Addr} (h : RcOk A g H d) : RcOk B g H d := by
  obtain ⟨⟨kvs, h1, h2, h3, h4⟩, h5⟩ := h
  refine ⟨⟨kvs, h1, h2, h3, fun k hk => ?_⟩, f _ h5⟩
  obtain ⟨l, ks, a, b, c, d, e, i⟩ := h4 k hk
  exact ⟨l, ks, a, b, c, d, e, f _ i⟩
theorem RcOk.wd {st : Addr} {g : Gr} {H H' : Hp} (w : Wd st H H') {d : Addr} (h : RcOk (· ≠ st) g H d) : RcOk (· ≠ st) g H' d := by
  obtain ⟨⟨kvs, h1, h2, h3, h4⟩, h5⟩ := h
  refine ⟨⟨kvs, w.bt _ _ h5 h1, h2, h3, fun k hk => ?_⟩, h5⟩
  obtain ⟨l, ks, a, b, c, d, e, i⟩ := h4 k hk
  exact ⟨l, ks, a, w.bt _ _ i b, c, d, e, i⟩
theorem IsGr.imp {A B : Addr → Prop} {g : Gr} {H : Hp} (f : ∀ a, A a → B a) {d : Addr} (h : IsGr A H d g) : IsGr B H d g := by
  obtain ⟨⟨vs, h1, h2⟩, h3⟩ := h
  refine ⟨⟨vs, h1, pair_map (fun v s h => ?_) h2⟩, f _ h3⟩
  obtain ⟨t, pn, pu, k0, k1, k2, k3, k4, k5⟩ := h
  exact ⟨t, pn, pu, k0, k1, k2, k3, f _ k4, f _ k5⟩
/-- one truth for each stand -/
def BsOk (g : Gr) (a : Sm) (n : Nat) (bs : List Bool) : Prop := bs.length = n ∧ ∀ (k : Nat) (b : Bool), bs[k]? = some b → (b = true ↔ Hd g a k)
theorem BsOk.snoc {g : Gr} {a : Sm} {n : Nat} {bs : List Bool} {b : Bool} (h : BsOk g a n bs) (hb : b = true ↔ Hd g a n) : BsOk g a (n + 1) (bs ++ [b]) := by
  refine ⟨by rw [List.length_append, h.1]; rfl, fun k b' e => ?_⟩
  by_cases hk : k < bs.length
  · rw [List.getElem?_append_left hk] at e
    exact h.2 k b' e
  · rw [List.getElem?_append_right (by omega)] at e
    have h0 : k - bs.length = 0 := by
      have := (List.getElem?_eq_some_iff.mp e).1
      simp at this
      omega
    rw [h0] at e
    injection e with e
    subst e
    have : k = n := by
      have := h.1
      omega
    rw [this]
    exact hb
theorem BsOk.at {g : Gr} {a : Sm} {n k : Nat} {bs : List Bool} (h : BsOk g a n bs) (hk : k < n) : ∃ b, (bs.map V.bl)[k]? = some (.bl b) ∧ (b = true ↔ Hd g a k) := by
  have hl : k < bs.length := by rw [h.1]; exact hk
  refine ⟨bs[k], ?_, h.2 k _ (List.getElem?_eq_getElem hl)⟩
  rw [List.getElem?_map, List.getElem?_eq_getElem hl]
  rfl
/-! ### more as data -/
def bsD (bs : List Bool) : PyData := .list (bs.map PyData.bool)
theorem dp_bs {K : PySem.W.Frag} {H : Hp} {a : Addr} {bs : List Bool} (h : SqL K H a (bs.map V.bl)) : Dp K H (.ref a) (bsD bs) := .lst h (by
  clear h
  induction bs with
  | nil => exact .nil
  | cons b r ih => exact .cons (.bl b) ih)
theorem lay_bs (bs : List Bool) : (bsD bs).canLay0 = true := lay_lst fun d hd => by
  obtain ⟨l, hl, rfl⟩ := List.mem_map.mp hd
  rfl
theorem eqv_self (d : PyData) (h : d.canLay0 = true) : PyData.eqv d d = true := SeqAt.eqv_refl _ h
theorem eqv_bs (bs : List Bool) : PyData.eqv (bsD bs) (bsD bs) = true := by
  unfold bsD
  rw [PyData.eqv]
  induction bs with
  | nil => rw [List.map_nil, PyData.eqvAll]
  | cons b r ih =>
    rw [List.map_cons, PyData.eqvAll, ih]
    cases b <;> decide +kernel
theorem dep_bs (bs : List Bool) : (bsD bs).depth ≤ 3 := by
  have h : PyData.depthAll (bs.map PyData.bool) ≤ 2 := by
    induction bs with
    | nil => simp [PyData.depthAll]
    | cons l r ih =>
      rw [List.map_cons, PyData.depthAll]
      have : (PyData.bool l).depth ≤ 1 := by simp [PyData.depth]
      omega
  unfold bsD
  rw [PyData.depth]
  omega
def isD (us : List Nat) : PyData := .list (us.map fun u => PyData.int (u : Nat))
theorem dp_is {K : PySem.W.Frag} {H : Hp} {a : Addr} {us : List Nat} (h : SqL K H a (us.map fun u => V.int (u : Nat))) : Dp K H (.ref a) (isD us) := .lst h (by
  clear h
  induction us with
  | nil => exact .nil
  | cons b r ih => exact .cons (.int _) ih)
theorem lay_is (us : List Nat) : (isD us).canLay0 = true := lay_lst fun d hd => by
  obtain ⟨l, hl, rfl⟩ := List.mem_map.mp hd
  rfl
theorem eqv_is (us : List Nat) : PyData.eqv (isD us) (isD us) = true := by
  unfold isD
  rw [PyData.eqv]
  induction us with
  | nil => rw [List.map_nil, PyData.eqvAll]
  | cons b r ih =>
    rw [List.map_cons, PyData.eqvAll, ih]
    have : PyData.eqv (.int ((b : Nat) : Int)) (.int (b : Nat)) = true := by
      rw [PyData.eqv]
      simp
    rw [this]
    rfl
theorem dep_is (us : List Nat) : (isD us).depth ≤ 3 := by
  have h : PyData.depthAll (us.map fun u => PyData.int (u : Nat)) ≤ 2 := by
    induction us with
    | nil => simp [PyData.depthAll]
    | cons l r ih =>
      rw [List.map_cons, PyData.depthAll]
      have : (PyData.int ((l : Nat) : Int)).depth ≤ 1 := by simp [PyData.depth]
      omega
  unfold isD
  rw [PyData.depth]
  omega
def sdD (s : Std1) : PyData := .tuple [nmsD s.1, isD s.2]
def grD (g : Gr) : PyData := .list (g.map sdD)
theorem IsSd.dp {A : Addr → Prop} {K : PySem.W.Frag} {H : Hp} {v : V} {s : Std1} (h : IsSd A H v s) : Dp K H v (sdD s) := by
  obtain ⟨t, pn, pu, rfl, h1, h2, h3, _⟩ := h
  exact .tup (.inl (.inl h1)) (.cons (dp_nms (SqL.of h2)) (.cons (dp_is (SqL.of h3)) .nil))
theorem IsGr.dp {A : Addr → Prop} {K : PySem.W.Frag} {H : Hp} {a : Addr} {g : Gr} (h : IsGr A H a g) : Dp K H (.ref a) (grD g) := by
  obtain ⟨⟨vs, h1, h2⟩, _⟩ := h
  exact .lst (SqL.of h1) (dpAll_of (fun _ _ h => h.dp) h2)
theorem lay_gr {g : Gr} (h : ∀ s ∈ g, ∀ l ∈ s.1, Ch l) : (grD g).canLay0 = true := lay_lst fun d hd => by
  obtain ⟨s, hs, rfl⟩ := List.mem_map.mp hd
  refine lay_tup fun e he => ?_
  rcases List.mem_cons.mp he with rfl | he
  · exact lay_nms (h s hs)
  · rw [List.mem_singleton.mp he]
    exact lay_is s.2
theorem eqv_gr (g : Gr) : PyData.eqv (grD g) (grD g) = true := by
  unfold grD
  rw [PyData.eqv]
  induction g with
  | nil => rw [List.map_nil, PyData.eqvAll]
  | cons s r ih =>
    rw [List.map_cons, PyData.eqvAll, ih]
    have : PyData.eqv (sdD s) (sdD s) = true := by
      unfold sdD
      rw [eqv_t2, eqv_nms, eqv_is]
      rfl
    rw [this]
    rfl
theorem dep_gr (g : Gr) : (grD g).depth ≤ 8 := by
  have h : PyData.depthAll (g.map sdD) ≤ 7 := by
    induction g with
    | nil => simp [PyData.depthAll]
    | cons s r ih =>
      rw [List.map_cons, PyData.depthAll]
      have : (sdD s).depth ≤ 6 := by
        have h1 := dep_nms s.1
        have h2 := dep_is s.2
        unfold sdD
        simp only [PyData.depth, PyData.depthAll]
        omega
      omega
  unfold grD
  rw [PyData.depth]
  omega
theorem BsOk.uniq {g : Gr} {a : Sm} {n : Nat} {bs cs : List Bool} (h : BsOk g a n bs) (i : BsOk g a n cs) : bs = cs := by
  apply List.ext_getElem?
  intro k
  by_cases hk : k < n
  · have h1 : k < bs.length := by rw [h.1]; exact hk
    have h2 : k < cs.length := by rw [i.1]; exact hk
    have e1 := h.2 k bs[k] (List.getElem?_eq_getElem h1)
    have e2 := i.2 k cs[k] (List.getElem?_eq_getElem h2)
    rw [List.getElem?_eq_getElem h1, List.getElem?_eq_getElem h2]
    congr 1
    cases x : bs[k] <;> cases y : cs[k] <;> simp_all
  · rw [List.getElem?_eq_none (by rw [h.1]; omega), List.getElem?_eq_none (by rw [i.1]; omega)]
/-- what was locked is as it was -/
theorem lock_same {H H' : Hp} {d : Addr} {u : HO} {od : Obj} (hd : H d = some u) (s : Same (upd H d (.frz od u)) H') : Same H (upd H' d u) := fun a o h => by
  by_cases e : a = d
  · subst e
    rw [upd_same, ← hd]
    exact h
  · rw [upd_ne e]
    exact s a o (by rw [upd_ne e]; exact h)
theorem Good.len2 {ls : List (List Nat)} {g : Gr} (h : Good ls g) {s : Std1} (hs : s ∈ g) : s.2.length ≤ g.length := by
  obtain ⟨k, hk, e⟩ := List.mem_iff_getElem.mp hs
  refine nodup_le _ _ ((h.inc s hs).imp fun h => Nat.ne_of_lt h) fun x hx => ?_
  exact (h.ok k s (by rw [List.getElem?_eq_getElem hk, e]) x hx).2
theorem Good.len1 {ls : List (List Nat)} {g : Gr} (h : Good ls g) {s : Std1} (hs : s ∈ g) : s.1.length ≤ ls.length := by
  obtain ⟨ys, p, _, sub⟩ := h.nm s hs
  have := sub.length_le
  rw [p.length_eq] at this
  exact this
theorem Good.mem {ls : List (List Nat)} {g : Gr} (h : Good ls g) {s : Std1} (hs : s ∈ g) {n : List Nat} (hn : n ∈ s.1) : n ∈ ls := by
  obtain ⟨ys, p, _, sub⟩ := h.nm s hs
  exact p.mem_iff.mp (sub.subset hn)
end Ob

/-! ObAr: papers as data, and what is alike in a paper and the moved one. -/
namespace Ob
open PySem PySem.Spec PyProof.Rows L2
/-- small statements alone within, signs alone in names -/
def Sm.Nl (s : Sm) : Prop := s.dp ≤ 1 ∧ s.In Ch
def Pp.Nl : Pp → Prop
  | .use _ => True
  | .name n => Ch n
  | .pair p q => p.Nl ∧ q.Nl
  | .first p => p.Nl
  | .second p => p.Nl
  | .left p b => p.Nl ∧ b.Nl
  | .right b p => p.Nl ∧ b.Nl
  | .case p q r c => p.Nl ∧ q.Nl ∧ r.Nl ∧ c.Nl
  | .make b p => p.Nl ∧ b.Nl
  | .apply p q => p.Nl ∧ q.Nl
  | .escape p b => p.Nl ∧ b.Nl
def Pp.data : Pp → PyData
  | .use k => .tuple [.str "use", .int k]
  | .name n => .tuple [.str "name", .str (S n)]
  | .pair p q => .tuple [.str "pair", p.data, q.data]
  | .first p => .tuple [.str "first", p.data]
  | .second p => .tuple [.str "second", p.data]
  | .left p b => .tuple [.str "left", p.data, b.data]
  | .right b p => .tuple [.str "right", b.data, p.data]
  | .case p q r c => .tuple [.str "case", p.data, q.data, r.data, c.data]
  | .make b p => .tuple [.str "make", b.data, p.data]
  | .apply p q => .tuple [.str "apply", p.data, q.data]
  | .escape p b => .tuple [.str "escape", p.data, b.data]
theorem IsPp.dp {K : PySem.W.Frag} {H : Hp} {v : V} {p : Pp} (h : IsPp K H v p) : Dp K H v p.data := by
  induction h with
  | use h => exact .tup h (.cons (.str _) (.cons (.int _) .nil))
  | name h => exact .tup h (.cons (.str _) (.cons (.str _) .nil))
  | pair h _ _ i j => exact .tup h (.cons (.str _) (.cons i (.cons j .nil)))
  | first h _ i => exact .tup h (.cons (.str _) (.cons i .nil))
  | second h _ i => exact .tup h (.cons (.str _) (.cons i .nil))
  | left h _ s i => exact .tup h (.cons (.str _) (.cons i (.cons s.dp .nil)))
  | right h _ s i => exact .tup h (.cons (.str _) (.cons s.dp (.cons i .nil)))
  | case h _ _ _ s i j k => exact .tup h (.cons (.str _) (.cons i (.cons j (.cons k (.cons s.dp .nil)))))
  | make h _ s i => exact .tup h (.cons (.str _) (.cons s.dp (.cons i .nil)))
  | apply h _ _ i j => exact .tup h (.cons (.str _) (.cons i (.cons j .nil)))
  | escape h _ s i => exact .tup h (.cons (.str _) (.cons i (.cons s.dp .nil)))
theorem Pp.lay : ∀ {p : Pp}, p.Nl → p.data.canLay0 = true
  | .use k, _ => lay_tup fun d hd => by
    simp only [List.mem_cons, List.not_mem_nil, or_false] at hd
    rcases hd with rfl | rfl <;> first | decide +kernel | rfl
  | .name n, h => lay_tup fun d hd => by
    simp only [List.mem_cons, List.not_mem_nil, or_false] at hd
    rcases hd with rfl | rfl
    · decide +kernel
    · exact Ch.ok h
  | .pair p q, h => lay_tup fun d hd => by
    simp only [List.mem_cons, List.not_mem_nil, or_false] at hd
    rcases hd with rfl | rfl | rfl
    · decide +kernel
    · exact Pp.lay h.1
    · exact Pp.lay h.2
  | .apply p q, h => lay_tup fun d hd => by
    simp only [List.mem_cons, List.not_mem_nil, or_false] at hd
    rcases hd with rfl | rfl | rfl
    · decide +kernel
    · exact Pp.lay h.1
    · exact Pp.lay h.2
  | .first p, h => lay_tup fun d hd => by
    simp only [List.mem_cons, List.not_mem_nil, or_false] at hd
    rcases hd with rfl | rfl
    · decide +kernel
    · exact Pp.lay (p := p) h
  | .second p, h => lay_tup fun d hd => by
    simp only [List.mem_cons, List.not_mem_nil, or_false] at hd
    rcases hd with rfl | rfl
    · decide +kernel
    · exact Pp.lay (p := p) h
  | .left p b, h => lay_tup fun d hd => by
    simp only [List.mem_cons, List.not_mem_nil, or_false] at hd
    rcases hd with rfl | rfl | rfl
    · decide +kernel
    · exact Pp.lay h.1
    · exact Sm.lay h.2.2
  | .right b p, h => lay_tup fun d hd => by
    simp only [List.mem_cons, List.not_mem_nil, or_false] at hd
    rcases hd with rfl | rfl | rfl
    · decide +kernel
    · exact Sm.lay h.2.2
    · exact Pp.lay h.1
  | .make b p, h => lay_tup fun d hd => by
    simp only [List.mem_cons, List.not_mem_nil, or_false] at hd
    rcases hd with rfl | rfl | rfl
    · decide +kernel
    · exact Sm.lay h.2.2
    · exact Pp.lay h.1
  | .escape p b, h => lay_tup fun d hd => by
    simp only [List.mem_cons, List.not_mem_nil, or_false] at hd
    rcases hd with rfl | rfl | rfl
    · decide +kernel
    · exact Pp.lay h.1
    · exact Sm.lay h.2.2
  | .case p q r c, h => lay_tup fun d hd => by
    simp only [List.mem_cons, List.not_mem_nil, or_false] at hd
    rcases hd with rfl | rfl | rfl | rfl | rfl
    · decide +kernel
    · exact Pp.lay h.1
    · exact Pp.lay h.2.1
    · exact Pp.lay h.2.2.1
    · exact Sm.lay h.2.2.2.2
theorem Pp.dep : ∀ {p : Pp}, p.Nl → p.data.depth ≤ p.ht + 4
  | .use k, _ => by simp [Pp.data, PyData.depth, PyData.depthAll]
  | .name n, _ => by simp [Pp.data, PyData.depth, PyData.depthAll]
  | .pair p q, h => by
    have h1 := Pp.dep h.1; have h2 := Pp.dep h.2
    simp [Pp.data, PyData.depth, PyData.depthAll, Pp.ht]; omega
  | .apply p q, h => by
    have h1 := Pp.dep h.1; have h2 := Pp.dep h.2
    simp [Pp.data, PyData.depth, PyData.depthAll, Pp.ht]; omega
  | .first p, h => by
    have h1 := Pp.dep (p := p) h
    simp [Pp.data, PyData.depth, PyData.depthAll, Pp.ht]; omega
  | .second p, h => by
    have h1 := Pp.dep (p := p) h
    simp [Pp.data, PyData.depth, PyData.depthAll, Pp.ht]; omega
  | .left p b, h => by
    have h1 := Pp.dep h.1; have h2 := b.depth_dp; have h3 := h.2.1
    simp [Pp.data, PyData.depth, PyData.depthAll, Pp.ht]; omega
  | .right b p, h => by
    have h1 := Pp.dep h.1; have h2 := b.depth_dp; have h3 := h.2.1
    simp [Pp.data, PyData.depth, PyData.depthAll, Pp.ht]; omega
  | .make b p, h => by
    have h1 := Pp.dep h.1; have h2 := b.depth_dp; have h3 := h.2.1
    simp [Pp.data, PyData.depth, PyData.depthAll, Pp.ht]; omega
  | .escape p b, h => by
    have h1 := Pp.dep h.1; have h2 := b.depth_dp; have h3 := h.2.1
    simp [Pp.data, PyData.depth, PyData.depthAll, Pp.ht]; omega
  | .case p q r c, h => by
    have h1 := Pp.dep h.1; have h2 := Pp.dep h.2.1; have h3 := Pp.dep h.2.2.1; have h4 := c.depth_dp; have h5 := h.2.2.2.1
    simp [Pp.data, PyData.depth, PyData.depthAll, Pp.ht]; omega
/-- one paper, told twice, is not unlike itself -/
theorem ne_pp {K : PySem.W.Frag} {H : Hp} {x y : V} {p : Pp} {n : Nat} {Q : VK} (hx : IsPp K H x p) (hy : IsPp K H y p) (hl : p.Nl) (hn : p.ht + 4 ≤ n) (q : Q (.bl false) H) : rNeN K n x y H Q := by
  refine ⟨_, _, hx.dp, hy.dp, Pp.lay hl, Pp.lay hl, Nat.le_trans (Nat.min_le_left _ _) (Nat.le_trans (Pp.dep hl) hn), ?_⟩
  rw [eqv_self _ (Pp.lay hl)]
  exact q
theorem mv_nl (a b : Int) : ∀ p : Pp, p.Nl → (p.mv a b).Nl
  | .use _, _ => True.intro
  | .name _, h => h
  | .pair p q, h => ⟨mv_nl a b p h.1, mv_nl a b q h.2⟩
  | .first p, h => mv_nl a b p h
  | .second p, h => mv_nl a b p h
  | .left p _, h => ⟨mv_nl a b p h.1, h.2⟩
  | .right _ p, h => ⟨mv_nl a b p h.1, h.2⟩
  | .case p q r _, h => ⟨mv_nl a b p h.1, mv_nl a b q h.2.1, mv_nl a b r h.2.2.1, h.2.2.2⟩
  | .make _ p, h => ⟨mv_nl a b p h.1, h.2⟩
  | .apply p q, h => ⟨mv_nl a b p h.1, mv_nl a b q h.2⟩
  | .escape p _, h => ⟨mv_nl a b p h.1, h.2⟩
theorem mv_zero (a : Int) : ∀ p : Pp, p.mv a 0 = p
  | .use k => by simp [Pp.mv]
  | .name _ => rfl
  | .pair p q => by simp only [Pp.mv, mv_zero a p, mv_zero a q]
  | .first p => by simp only [Pp.mv, mv_zero a p]
  | .second p => by simp only [Pp.mv, mv_zero a p]
  | .left p _ => by simp only [Pp.mv, mv_zero a p]
  | .right _ p => by simp only [Pp.mv, mv_zero a p]
  | .case p q r _ => by simp only [Pp.mv, mv_zero a p, mv_zero a q, mv_zero a r]
  | .make _ p => by simp only [Pp.mv, mv_zero a p]
  | .apply p q => by simp only [Pp.mv, mv_zero a p, mv_zero a q]
  | .escape p _ => by simp only [Pp.mv, mv_zero a p]
theorem mv_mv {a b c : Int} (hb : 0 ≤ b) : ∀ p : Pp, (p.mv a b).mv a c = p.mv a (b + c)
  | .use k => by
    by_cases h : a ≤ k
    · have h2 : a ≤ k + b := by omega
      simp [Pp.mv, h, h2]; omega
    · simp [Pp.mv, h]
  | .name _ => rfl
  | .pair p q => by simp only [Pp.mv, mv_mv hb p, mv_mv hb q]
  | .first p => by simp only [Pp.mv, mv_mv hb p]
  | .second p => by simp only [Pp.mv, mv_mv hb p]
  | .left p _ => by simp only [Pp.mv, mv_mv hb p]
  | .right _ p => by simp only [Pp.mv, mv_mv hb p]
  | .case p q r _ => by simp only [Pp.mv, mv_mv hb p, mv_mv hb q, mv_mv hb r]
  | .make _ p => by simp only [Pp.mv, mv_mv hb p]
  | .apply p q => by simp only [Pp.mv, mv_mv hb p, mv_mv hb q]
  | .escape p _ => by simp only [Pp.mv, mv_mv hb p]
/-- told alike: one number, one text, one small statement -/
def Alk (K : PySem.W.Frag) (H : Hp) (n : Nat) (x y : V) : Prop := (∃ i, x = .int i ∧ y = .int i) ∨ (∃ s, x = .str s ∧ y = .str s) ∨ ∃ s : Sm, s.dp < n ∧ IsSm K H x s ∧ IsSm K H y s
theorem Alk.tk {K : PySem.W.Frag} {H H' : Hp} (k : TK K H H') {n : Nat} {x y : V} (h : Alk K H n x y) : Alk K H' n x y := by
  rcases h with h | h | ⟨s, a, b, c⟩
  · exact .inl h
  · exact .inr (.inl h)
  · exact .inr (.inr ⟨s, a, b.tk k, c.tk k⟩)
/-- zip of two tuples of one length -/
theorem walk_zipTT {K : PySem.W.Frag} {a b : Addr} {xs ys : List V} (hn : xs.length = ys.length) : Walk (RZ.ItzT K a b) xs.length (fun H => SqT K H a xs ∧ SqT K H b ys) (YPair (fun i => xs[i]?) (fun i => ys[i]?)) where
  goes i H hi q := ⟨xs, ys, xs[i], ys[i]'(hn ▸ hi), q.1, q.2, List.getElem?_eq_getElem hi, List.getElem?_eq_getElem (hn ▸ hi)⟩
  stops H q := ⟨xs, ys, q.1, q.2, .inl (Nat.le_refl _)⟩
  yields i H v H' _ q y := by
    obtain ⟨t, u, w, e, n, eh, f, g⟩ := y
    exact ⟨t, u, w, e, n, eh, f xs q.1, g ys q.2⟩
/-- what stands behind a paper's word, that is no paper: as it should be where uses are moved -/
def dueL (p : Pp) (a b : Int) (its : List V) : List V := match p with
  | .use k => [.str "use", .int (k + b * (if a ≤ k then 1 else 0))]
  | _ => its
/-- a paper and the moved one, item by item -/
theorem IsPp.two {K : PySem.W.Frag} {H : Hp} {v v' : V} {p : Pp} {a b : Int} (hl : p.Nl) (h : IsPp K H v p) (h' : IsPp K H v' (p.mv a b)) : ∃ t its t' its', v = .ref t ∧ v' = .ref t' ∧ SqT K H t its ∧ SqT K H t' its' ∧ its'.length = its.length ∧ its.length ≤ 5 ∧ its[0]? = some (.str p.wd.s) ∧ (dueL p a b its).length = its.length ∧
    ∀ (j : Nat) (x x' : V), its[j]? = some x → its'[j]? = some x' → (((j : Int) ∈ p.wd.pl ∧ ∃ q, ((j : Int), q) ∈ p.kids ∧ IsPp K H x q ∧ IsPp K H x' (q.mv a b)) ∨ ((j : Int) ∉ p.wd.pl ∧ ∃ y, (dueL p a b its)[j]? = some y ∧ Alk K H 2 x' y)) := by
  have no : ∀ {n : Nat} {xs : List V} {x : V} {Z : Prop}, xs.length = n → xs[n]? = some x → Z := fun h1 h2 => by
    rw [List.getElem?_eq_none (by omega)] at h2
    cases h2
  have nk : ∀ {n j : Nat} {xs : List V} {x : V} {Z : Prop}, xs.length = n → xs[n + j]? = some x → Z := fun h1 h2 => by
    rw [List.getElem?_eq_none (by omega)] at h2
    cases h2
  have wd : ∀ s : Str, Alk K H 2 (.str s) (.str s) := fun s => .inr (.inl ⟨s, rfl, rfl⟩)
  have sm : ∀ {x y : V} {s : Sm}, s.Nl → IsSm K H x s → IsSm K H y s → Alk K H 2 x y := fun n h1 h2 => .inr (.inr ⟨_, Nat.lt_succ_of_le n.1, h1, h2⟩)
  cases h with
  | use h =>
    cases h' with
    | use h' =>
      refine ⟨_, _, _, _, rfl, rfl, h, h', rfl, by simp, rfl, rfl, fun j x x' hx hx' => .inr ⟨by simp [Pp.wd, PW.pl], ?_⟩⟩
      match j with
      | 0 => cases hx; cases hx'; exact ⟨_, rfl, wd _⟩
      | 1 => cases hx; cases hx'; exact ⟨_, rfl, .inl ⟨_, rfl, rfl⟩⟩
      | j + 2 => cases hx
  | name h =>
    cases h' with
    | name h' =>
      refine ⟨_, _, _, _, rfl, rfl, h, h', rfl, by simp, rfl, rfl, fun j x x' hx hx' => .inr ⟨by simp [Pp.wd, PW.pl], ?_⟩⟩
      match j with
      | 0 => cases hx; cases hx'; exact ⟨_, rfl, wd _⟩
      | 1 => cases hx; cases hx'; exact ⟨_, rfl, wd _⟩
      | j + 2 => cases hx
  | pair h p q =>
    cases h' with
    | pair h' p' q' =>
      refine ⟨_, _, _, _, rfl, rfl, h, h', rfl, by simp, rfl, rfl, fun j x x' hx hx' => ?_⟩
      match j with
      | 0 => cases hx; cases hx'; exact .inr ⟨by simp [Pp.wd, PW.pl], _, rfl, wd _⟩
      | 1 => cases hx; cases hx'; exact .inl ⟨by simp [Pp.wd, PW.pl], _, by simp [Pp.kids], p, p'⟩
      | 2 => cases hx; cases hx'; exact .inl ⟨by simp [Pp.wd, PW.pl], _, by simp [Pp.kids], q, q'⟩
      | j + 3 => cases hx
  | apply h p q =>
    cases h' with
    | apply h' p' q' =>
      refine ⟨_, _, _, _, rfl, rfl, h, h', rfl, by simp, rfl, rfl, fun j x x' hx hx' => ?_⟩
      match j with
      | 0 => cases hx; cases hx'; exact .inr ⟨by simp [Pp.wd, PW.pl], _, rfl, wd _⟩
      | 1 => cases hx; cases hx'; exact .inl ⟨by simp [Pp.wd, PW.pl], _, by simp [Pp.kids], p, p'⟩
      | 2 => cases hx; cases hx'; exact .inl ⟨by simp [Pp.wd, PW.pl], _, by simp [Pp.kids], q, q'⟩
      | j + 3 => cases hx
  | first h p =>
    cases h' with
    | first h' p' =>
      refine ⟨_, _, _, _, rfl, rfl, h, h', rfl, by simp, rfl, rfl, fun j x x' hx hx' => ?_⟩
      match j with
      | 0 => cases hx; cases hx'; exact .inr ⟨by simp [Pp.wd, PW.pl], _, rfl, wd _⟩
      | 1 => cases hx; cases hx'; exact .inl ⟨by simp [Pp.wd, PW.pl], _, by simp [Pp.kids], p, p'⟩
      | j + 2 => cases hx
  | second h p =>
    cases h' with
    | second h' p' =>
      refine ⟨_, _, _, _, rfl, rfl, h, h', rfl, by simp, rfl, rfl, fun j x x' hx hx' => ?_⟩
      match j with
      | 0 => cases hx; cases hx'; exact .inr ⟨by simp [Pp.wd, PW.pl], _, rfl, wd _⟩
      | 1 => cases hx; cases hx'; exact .inl ⟨by simp [Pp.wd, PW.pl], _, by simp [Pp.kids], p, p'⟩
      | j + 2 => cases hx
  | left h p s =>
    cases h' with
    | left h' p' s' =>
      refine ⟨_, _, _, _, rfl, rfl, h, h', rfl, by simp, rfl, rfl, fun j x x' hx hx' => ?_⟩
      match j with
      | 0 => cases hx; cases hx'; exact .inr ⟨by simp [Pp.wd, PW.pl], _, rfl, wd _⟩
      | 1 => cases hx; cases hx'; exact .inl ⟨by simp [Pp.wd, PW.pl], _, by simp [Pp.kids], p, p'⟩
      | 2 => cases hx; cases hx'; exact .inr ⟨by simp [Pp.wd, PW.pl], _, rfl, sm hl.2 s' s⟩
      | j + 3 => cases hx
  | escape h p s =>
    cases h' with
    | escape h' p' s' =>
      refine ⟨_, _, _, _, rfl, rfl, h, h', rfl, by simp, rfl, rfl, fun j x x' hx hx' => ?_⟩
      match j with
      | 0 => cases hx; cases hx'; exact .inr ⟨by simp [Pp.wd, PW.pl], _, rfl, wd _⟩
      | 1 => cases hx; cases hx'; exact .inl ⟨by simp [Pp.wd, PW.pl], _, by simp [Pp.kids], p, p'⟩
      | 2 => cases hx; cases hx'; exact .inr ⟨by simp [Pp.wd, PW.pl], _, rfl, sm hl.2 s' s⟩
      | j + 3 => cases hx
  | right h p s =>
    cases h' with
    | right h' p' s' =>
      refine ⟨_, _, _, _, rfl, rfl, h, h', rfl, by simp, rfl, rfl, fun j x x' hx hx' => ?_⟩
      match j with
      | 0 => cases hx; cases hx'; exact .inr ⟨by simp [Pp.wd, PW.pl], _, rfl, wd _⟩
      | 1 => cases hx; cases hx'; exact .inr ⟨by simp [Pp.wd, PW.pl], _, rfl, sm hl.2 s' s⟩
      | 2 => cases hx; cases hx'; exact .inl ⟨by simp [Pp.wd, PW.pl], _, by simp [Pp.kids], p, p'⟩
      | j + 3 => cases hx
  | make h p s =>
    cases h' with
    | make h' p' s' =>
      refine ⟨_, _, _, _, rfl, rfl, h, h', rfl, by simp, rfl, rfl, fun j x x' hx hx' => ?_⟩
      match j with
      | 0 => cases hx; cases hx'; exact .inr ⟨by simp [Pp.wd, PW.pl], _, rfl, wd _⟩
      | 1 => cases hx; cases hx'; exact .inr ⟨by simp [Pp.wd, PW.pl], _, rfl, sm hl.2 s' s⟩
      | 2 => cases hx; cases hx'; exact .inl ⟨by simp [Pp.wd, PW.pl], _, by simp [Pp.kids], p, p'⟩
      | j + 3 => cases hx
  | case h p q r s =>
    cases h' with
    | case h' p' q' r' s' =>
      refine ⟨_, _, _, _, rfl, rfl, h, h', rfl, by simp, rfl, rfl, fun j x x' hx hx' => ?_⟩
      match j with
      | 0 => cases hx; cases hx'; exact .inr ⟨by simp [Pp.wd, PW.pl], _, rfl, wd _⟩
      | 1 => cases hx; cases hx'; exact .inl ⟨by simp [Pp.wd, PW.pl], _, by simp [Pp.kids], p, p'⟩
      | 2 => cases hx; cases hx'; exact .inl ⟨by simp [Pp.wd, PW.pl], _, by simp [Pp.kids], q, q'⟩
      | 3 => cases hx; cases hx'; exact .inl ⟨by simp [Pp.wd, PW.pl], _, by simp [Pp.kids], r, r'⟩
      | 4 => cases hx; cases hx'; exact .inr ⟨by simp [Pp.wd, PW.pl], _, rfl, sm hl.2.2.2 s' s⟩
      | j + 5 => cases hx
theorem kid_nl {p : Pp} (hb : p.Nl) {k : Int × Pp} (h : k ∈ p.kids) : k.2.Nl := by
  cases p <;> simp only [Pp.kids, List.mem_cons, List.not_mem_nil, or_false] at h <;> first
    | exact h.elim
    | (subst h; first | exact hb | exact hb.1)
    | (rcases h with rfl | rfl | rfl <;> first | exact hb.1 | exact hb.2.1 | exact hb.2.2.1)
    | (rcases h with rfl | rfl <;> first | exact hb.1 | exact hb.2)
end Ob

/-! ObH: growths cut; a dict made over any walk. -/
namespace Ob
open PySem PySem.Spec PyProof.Rows L2
theorem dc_it {J : L2.It} {n : Nat} {G : Hp → Prop} {Y : Nat → Hp → V → Hp → Prop} (w : Walk J n G Y) {g : TG} {tt : TT} {tk tv : TE} {vs : List Nat} {σ : L2.St} {H1 : Hp} {D : Addr} {Qd : Hp → Prop} (Pv : Nat → Hp → Prop) (h0 : Pv 0 (upd H1 D (.dK []))) (hG : ∀ i H, i ≤ n → Pv i H → G H)
    (hs : ∀ i x H H', i < n → Pv i H → Y i H x H' → g x (wipe σ vs) H' fun σ2 H2 => wipe σ2 vs = wipe σ vs ∧ tt σ2 H2 fun b H3 =>
      if b = true then tk σ2 H3 fun y H4 => tv σ2 H4 fun z H5 => ∃ kvs k, y = kV k ∧ H5 D = some (.dK kvs) ∧ kvs.length < sizeLine ∧ Pv (i + 1) (upd H5 D (.dK (putK kvs k z))) else Pv (i + 1) H3) (hd : ∀ H, Pv n H → Qd H) :
    ∃ W : Nat → Nat → Hp → Prop, (∃ m, W 0 m (upd H1 D (.dK []))) ∧ ∀ i m H, W i m H →
      (J.stop i H ∧ Qd H) ∨ (J.go i H ∧ ∃ Nx : Hp → Prop, (∀ H', Nx H' → ∃ m', m' < m ∧ W (i + 1) m' H') ∧ ∀ x H', J.yld i H x H' → g x (wipe σ vs) H' fun σ2 H2 => wipe σ2 vs = wipe σ vs ∧ tt σ2 H2 fun b H3 =>
        if b = true then tk σ2 H3 fun y H4 => tv σ2 H4 fun z H5 => ∃ kvs k, y = kV k ∧ H5 D = some (.dK kvs) ∧ kvs.length < sizeLine ∧ Nx (upd H5 D (.dK (putK kvs k z))) else Nx H3) := by
  refine ⟨fun i m H => m = n - i ∧ i ≤ n ∧ Pv i H, ⟨n, by simp, Nat.zero_le _, h0⟩, ?_⟩
  rintro i m H ⟨rfl, hi, p⟩
  have q := hG i H hi p
  by_cases hlt : i < n
  · refine .inr ⟨w.goes i H hlt q, Pv (i + 1), fun H' p' => ⟨n - (i + 1), by omega, rfl, hlt, p'⟩, fun x H' y => ?_⟩
    exact hs i x H H' hlt p (w.yields i H x H' hlt q y)
  · have e : i = n := by omega
    subst e
    exact .inl ⟨w.stops H q, hd H p⟩
/-! ### the stands at or above one, in order -/
noncomputable def rchL (g : Gr) (k : Nat) : List Nat := (List.range g.length).filter fun j => @decide (Rch g k j) (Classical.propDecidable _)
theorem mem_rchL {g : Gr} {k j : Nat} : j ∈ rchL g k ↔ j < g.length ∧ Rch g k j := by
  unfold rchL
  rw [List.mem_filter, List.mem_range, @decide_eq_true_iff _ (Classical.propDecidable _)]
theorem rchL_lt (g : Gr) (k : Nat) : (rchL g k).Pairwise (· < ·) := (List.pairwise_lt_range (n := g.length)).filter _
theorem srt_uniq : ∀ {l m : List Nat}, l.Pairwise (· < ·) → m.Pairwise (· < ·) → (∀ x, x ∈ l ↔ x ∈ m) → l = m
  | [], [], _, _, _ => rfl
  | [], y :: m, _, _, h => absurd ((h y).mpr (List.mem_cons_self ..)) List.not_mem_nil
  | x :: l, [], _, _, h => absurd ((h x).mp (List.mem_cons_self ..)) List.not_mem_nil
  | x :: l, y :: m, hl, hm, h => by
    rw [List.pairwise_cons] at hl hm
    have e : x = y := by
      rcases List.mem_cons.mp ((h x).mp (List.mem_cons_self ..)) with e | e
      · exact e
      · rcases List.mem_cons.mp ((h y).mpr (List.mem_cons_self ..)) with e' | e'
        · exact e'.symm
        · have := hm.1 x e
          have := hl.1 y e'
          omega
    subst e
    rw [srt_uniq hl.2 hm.2 fun z => ?_]
    constructor
    · intro hz
      rcases List.mem_cons.mp ((h z).mp (List.mem_cons_of_mem _ hz)) with e | e
      · have := hl.1 z hz
        omega
      · exact e
    · intro hz
      rcases List.mem_cons.mp ((h z).mpr (List.mem_cons_of_mem _ hz)) with e | e
      · have := hm.1 z hz
        omega
      · exact e
theorem srt_strict {l : List Nat} (h : l.Pairwise (· ≤ ·)) (n : l.Nodup) : l.Pairwise (· < ·) := by
  have := List.Pairwise.and h n
  exact this.imp fun ⟨a, b⟩ => by omega
theorem rchL_is {g : Gr} (ok : g.ok) {k : Nat} (hk : k < g.length) {l : List Nat} (h : l.Pairwise (· < ·)) (m : ∀ x, x ∈ l ↔ Rch g k x) : l = rchL g k := srt_uniq h (rchL_lt g k) fun x => by
  rw [m, mem_rchL]
  exact ⟨fun r => ⟨r.lt ok hk, r⟩, fun r => r.2⟩
theorem rchL_head {g : Gr} (ok : g.ok) {k : Nat} (hk : k < g.length) : ∃ r, rchL g k = k :: r := by
  have hm : k ∈ rchL g k := mem_rchL.mpr ⟨hk, .refl⟩
  cases e : rchL g k with
  | nil =>
    rw [e] at hm
    cases hm
  | cons x r =>
    have hx : x ∈ rchL g k := by
      rw [e]
      exact List.mem_cons_self ..
    have le := (mem_rchL.mp hx).2.le ok
    have hlt := rchL_lt g k
    rw [e, List.pairwise_cons] at hlt
    rw [e] at hm
    rcases List.mem_cons.mp hm with h | h
    · exact ⟨r, by rw [h]⟩
    · have := hlt.1 k h
      omega
/-! ### cut -/
def stA (g : Gr) (j : Nat) : Std1 := g.getD j ([], [])
theorem stA_at {g : Gr} {j : Nat} (h : j < g.length) : g[j]? = some (stA g j) := by
  unfold stA
  rw [List.getD_eq_getElem?_getD, List.getElem?_eq_getElem h]
  rfl
def cutG (g : Gr) (ks : List Nat) : Gr := ks.map fun j => ((stA g j).1, (stA g j).2.map fun i => ks.idxOf i)
theorem cutG_len (g : Gr) (ks : List Nat) : (cutG g ks).length = ks.length := List.length_map ..
/-- ks is closed under steps -/
structure Closed (g : Gr) (ks : List Nat) : Prop where
  lt : ks.Pairwise (· < ·)
  lo : ∀ j ∈ ks, j < g.length
  cl : ∀ j ∈ ks, ∀ u ∈ (stA g j).2, u ∈ ks
theorem rchL_closed {g : Gr} (ok : g.ok) (k : Nat) : Closed g (rchL g k) := by
  refine ⟨rchL_lt g k, fun j hj => (mem_rchL.mp hj).1, fun j hj u hu => ?_⟩
  obtain ⟨h1, h2⟩ := mem_rchL.mp hj
  have e := stA_at h1
  exact mem_rchL.mpr ⟨(ok j _ e u hu).2, h2.trans (.step e hu .refl)⟩
theorem idxN_inj {ks : List Nat} {a b : Nat} (ha : a ∈ ks) (h : ks.idxOf a = ks.idxOf b) : a = b := by
  have l1 : ks.idxOf a < ks.length := List.idxOf_lt_length_iff.mpr ha
  have e1 : ks[ks.idxOf a] = a := List.getElem_idxOf l1
  have l2 : ks.idxOf b < ks.length := h ▸ l1
  have e2 : ks[ks.idxOf b] = b := List.getElem_idxOf l2
  rw [← e1, ← e2]
  simp only [h]
theorem idxN_at {ks : List Nat} {a : Nat} (ha : a ∈ ks) : ks[ks.idxOf a]? = some a := by
  have l1 : ks.idxOf a < ks.length := List.idxOf_lt_length_iff.mpr ha
  rw [List.getElem?_eq_getElem l1, List.getElem_idxOf l1]
theorem idxN_of {ks : List Nat} (nd : ks.Nodup) {i j : Nat} (h : ks[i]? = some j) : ks.idxOf j = i := by
  have hi := (List.getElem?_eq_some_iff.mp h).1
  rw [List.getElem?_eq_getElem hi] at h
  injection h with h
  subst h
  exact nd.idxOf_getElem _ hi
theorem idxN_lt {ks : List Nat} (lt : ks.Pairwise (· < ·)) {a b : Nat} (ha : a ∈ ks) (hb : b ∈ ks) (h : a < b) : ks.idxOf a < ks.idxOf b := by
  have l1 : ks.idxOf a < ks.length := List.idxOf_lt_length_iff.mpr ha
  have l2 : ks.idxOf b < ks.length := List.idxOf_lt_length_iff.mpr hb
  have e1 : ks[ks.idxOf a] = a := List.getElem_idxOf l1
  have e2 : ks[ks.idxOf b] = b := List.getElem_idxOf l2
  rcases Nat.lt_trichotomy (ks.idxOf a) (ks.idxOf b) with g | g | g
  · exact g
  · have := idxN_inj ha g
    omega
  · have := List.pairwise_iff_getElem.mp lt _ _ l2 l1 g
    omega
theorem lt_nd {ks : List Nat} (lt : ks.Pairwise (· < ·)) : ks.Nodup := lt.imp fun h => Nat.ne_of_lt h
theorem cutG_at {g : Gr} {ks : List Nat} {i j : Nat} (h : ks[i]? = some j) : (cutG g ks)[i]? = some ((stA g j).1, (stA g j).2.map fun i => ks.idxOf i) := by
  unfold cutG
  rw [List.getElem?_map, h]
  rfl
theorem cutG_ok {g : Gr} {ks : List Nat} (ok : g.ok) (c : Closed g ks) : (cutG g ks).ok := fun i s e u hu => by
  have hi := (List.getElem?_eq_some_iff.mp e).1
  rw [cutG_len] at hi
  have ej : ks[i]? = some ks[i] := List.getElem?_eq_getElem hi
  rw [cutG_at ej] at e
  injection e with e
  subst e
  obtain ⟨v, hv, rfl⟩ := List.mem_map.mp hu
  have hj : ks[i] ∈ ks := List.getElem_mem hi
  have hvk := c.cl _ hj v hv
  have hlt := (ok _ _ (stA_at (c.lo _ hj)) v hv).1
  have e2 : ks.idxOf ks[i] = i := idxN_of (lt_nd c.lt) ej
  have h1 := idxN_lt c.lt hj hvk hlt
  rw [cutG_len]
  exact ⟨by omega, List.idxOf_lt_length_iff.mpr hvk⟩
theorem cut_rch1 {g : Gr} {ks : List Nat} (c : Closed g ks) {j x : Nat} (r : Rch g j x) : j ∈ ks → x ∈ ks ∧ Rch (cutG g ks) (ks.idxOf j) (ks.idxOf x) := by
  induction r with
  | refl => exact fun h => ⟨h, .refl⟩
  | @step k u y s e m _ ih =>
    intro hk
    have hkl := c.lo k hk
    rw [stA_at hkl] at e
    injection e with e
    subst e
    have hu := c.cl k hk u m
    obtain ⟨h1, h2⟩ := ih hu
    exact ⟨h1, .step (cutG_at (idxN_at hk)) (List.mem_map.mpr ⟨u, m, rfl⟩) h2⟩
theorem cut_rch2 {g : Gr} {ks : List Nat} (c : Closed g ks) {i m : Nat} (r : Rch (cutG g ks) i m) : ∀ j, ks[i]? = some j → ∃ x, ks[m]? = some x ∧ Rch g j x := by
  induction r with
  | refl => exact fun j h => ⟨j, h, .refl⟩
  | @step i u y s e hm _ ih =>
    intro j hj
    rw [cutG_at hj] at e
    injection e with e
    subst e
    obtain ⟨v, hv, rfl⟩ := List.mem_map.mp hm
    have hjk := List.mem_of_getElem? hj
    have hvk := c.cl j hjk v hv
    obtain ⟨x, h1, h2⟩ := ih v (idxN_at hvk)
    exact ⟨x, h1, .step (stA_at (c.lo j hjk)) hv h2⟩
/-- where a growth is cut, what is left holds as it held -/
theorem cut_hd {g : Gr} {ks : List Nat} (c : Closed g ks) : ∀ (a : Sm) {i j : Nat}, ks[i]? = some j → (Hd (cutG g ks) a i ↔ Hd g a j)
  | .lt n, i, j, h => by
    have hj := List.mem_of_getElem? h
    constructor
    · rintro ⟨s, e, m⟩
      rw [cutG_at h] at e
      injection e with e
      subst e
      exact ⟨_, stA_at (c.lo j hj), m⟩
    · rintro ⟨s, e, m⟩
      rw [stA_at (c.lo j hj)] at e
      injection e with e
      subst e
      exact ⟨_, cutG_at h, m⟩
  | .nv, _, _, _ => Iff.rfl
  | .bin .and a b, i, j, h => by
    show (Hd _ a i ∧ Hd _ b i) ↔ (Hd _ a j ∧ Hd _ b j)
    rw [cut_hd c a h, cut_hd c b h]
  | .bin .or a b, i, j, h => by
    show (Hd _ a i ∨ Hd _ b i) ↔ (Hd _ a j ∨ Hd _ b j)
    rw [cut_hd c a h, cut_hd c b h]
  | .bin .thn a b, i, j, h => by
    show (∀ m, Rch (cutG g ks) i m → Hd (cutG g ks) a m → Hd (cutG g ks) b m) ↔ (∀ x, Rch g j x → Hd g a x → Hd g b x)
    have hj := List.mem_of_getElem? h
    constructor
    · intro q x r hx
      obtain ⟨hxk, r2⟩ := cut_rch1 c r hj
      rw [idxN_of (lt_nd c.lt) h] at r2
      exact (cut_hd c b (idxN_at hxk)).mp (q _ r2 ((cut_hd c a (idxN_at hxk)).mpr hx))
    · intro q m r hm
      obtain ⟨x, hx, r2⟩ := cut_rch2 c r j h
      exact (cut_hd c b hx).mpr (q x r2 ((cut_hd c a hx).mp hm))
/-- cut at its own first stand it stays -/
theorem cut_cut {g : Gr} (ok : g.ok) {k : Nat} (hk : k < g.length) : rchL (cutG g (rchL g k)) 0 = List.range (rchL g k).length := by
  have c := rchL_closed ok k
  have okc := cutG_ok ok c
  obtain ⟨r, er⟩ := rchL_head ok hk
  have h0 : (rchL g k)[0]? = some k := by rw [er]; rfl
  refine (rchL_is okc (by rw [cutG_len, er]; exact Nat.succ_pos _) List.pairwise_lt_range fun x => ?_).symm
  rw [List.mem_range]
  constructor
  · intro hx
    have e : (rchL g k)[x]? = some (rchL g k)[x] := List.getElem?_eq_getElem hx
    have hm := List.mem_of_getElem? e
    obtain ⟨_, r2⟩ := cut_rch1 c (mem_rchL.mp hm).2 (mem_rchL.mpr ⟨hk, .refl⟩)
    rw [idxN_of (lt_nd c.lt) h0, idxN_of (lt_nd c.lt) e] at r2
    exact r2
  · intro h
    have := h.lt okc (by rw [cutG_len, er]; exact Nat.succ_pos _)
    rw [cutG_len] at this
    exact this
theorem idx_range {n x : Nat} (h : x < n) : (List.range n).idxOf x = x := idxN_of List.nodup_range (by rw [List.getElem?_range h])
theorem cut_id {g : Gr} (ok : g.ok) : cutG g (List.range g.length) = g := by
  apply List.ext_getElem?
  intro i
  by_cases hi : i < g.length
  · have e : (List.range g.length)[i]? = some i := List.getElem?_range hi
    rw [cutG_at e, stA_at hi]
    congr 1
    have : (stA g i).2.map (fun j => (List.range g.length).idxOf j) = (stA g i).2 := by
      have : ∀ j ∈ (stA g i).2, (List.range g.length).idxOf j = id j := fun j hj => idx_range (ok i _ (stA_at hi) j hj).2
      rw [List.map_congr_left this, List.map_id]
    rw [this]
  · rw [List.getElem?_eq_none (by rw [cutG_len, List.length_range]; omega), List.getElem?_eq_none (by omega)]
theorem cut_again {g : Gr} (ok : g.ok) {k : Nat} (hk : k < g.length) : cutG (cutG g (rchL g k)) (rchL (cutG g (rchL g k)) 0) = cutG g (rchL g k) := by
  rw [cut_cut ok hk]
  have h := cut_id (cutG_ok ok (rchL_closed ok k))
  rw [cutG_len] at h
  exact h
theorem pe_bmJ {X : Cx} {K : PySem.W.Frag} {o e : Expr} {es : List Expr} {to : TE} {t : TA} {name : Str} {apos cpos : Pos} {T id : String} {r : PySem.W.Frag → V → List V → Hp → VK → Prop} (hK : X.K = K) (pa : PlainAttrs T) (slot : Slot T name id) (hty : typeOf (.builtin id) = pure (.type "method_descriptor")) (hm : MtR X id (r X.K)) (ho : PE X o to) (ha : PA X (e :: es) t)
    (hbase : attributeBase o name X.env (eval o X.env) = eval o X.env := by rfl)
    (hfew : ((backTo cpos (starEach (e :: es) X.env)).all (fun x => !x.1) && (backToKw cpos (keywordEach [] X.env)).all (fun x => x.1.isSome)
      && decide ((e :: es).length + ([] : List Keyword).length + (if ([] : List Keyword).isEmpty then 0 else 1) < 30)) = true := by rfl)
    (hline : (apos.endLine == cpos.line) = true := by rfl) (hs : starEach (e :: es) X.env = (false, eval e X.env) :: starEach es X.env := by rfl) (hplain : (backTo cpos (starEach es X.env)).any (·.1) = false := by rfl) :
    PE X (.Call (.Attribute o name apos) (e :: es) [] cpos) (tBM K T (r K) to t) := by
  subst hK
  exact pe_bm pa slot hty hm ho ha hbase hfew hline hs hplain
end Ob

/-! ObAu: one paper put into another. -/
namespace Ob
open PySem PySem.Spec PyProof.Rows L2
/-- what comes of one part: a use of a is o, moved, a use of more is one less -/
def putG (a : Int) (o : Pp) : Pp → Nat → Pp
  | .use k, m => if k < a then .use k else if k = a then o.mv a (m : Nat) else .use (k - 1)
  | p, _ => p
/-- what is found in a part's place: within o (b) or not -/
def fwP (a : Int) (o : Pp) (q : Pp) (m : Nat) (b : Bool) : Pp := match b with
  | true => q.mv a (m : Nat)
  | false => q.rem (putG a o) m
theorem put_use {a k : Int} (o : Pp) (m : Nat) (h : k ≠ a) : putG a o (.use k) m = .use (k - (if a < k then 1 else 0)) := by
  show (if k < a then Pp.use k else if k = a then o.mv a (m : Nat) else .use (k - 1)) = _
  by_cases h1 : k < a
  · rw [if_pos h1, if_neg (by omega), Int.sub_zero]
  · rw [if_neg h1, if_neg h, if_pos (by omega)]
theorem put_at (a : Int) (o : Pp) (m : Nat) : (Pp.use a).rem (putG a o) m = o.mv a (m : Nat) := by
  show (if a < a then Pp.use a else if a = a then o.mv a (m : Nat) else .use (a - 1)) = _
  rw [if_neg (by omega), if_pos rfl]
/-- what stands behind the word, as it should be -/
def dueP (q : Pp) (a : Int) (m : Nat) (b : Bool) (its : List V) : List V := match q with
  | .use k => [.str "use", .int (match b with | true => k + (m : Int) * (if a ≤ k then 1 else 0) | false => k - (if a < k then 1 else 0))]
  | _ => its
/-- how many more are assumed at that place -/
def incB (q : Pp) (i : Int) (b : Bool) : Nat := match b with
  | true => 0
  | false => q.inc i
theorem IsPp.put2 {K : PySem.W.Frag} {H : Hp} {v v' : V} {q : Pp} {a : Int} {o : Pp} {m : Nat} {b : Bool} (hl : q.Nl) (nu : b = false → q ≠ .use a) (h : IsPp K H v q) (h' : IsPp K H v' (fwP a o q m b)) : ∃ t its t' its', v = .ref t ∧ v' = .ref t' ∧ SqT K H t its ∧ SqT K H t' its' ∧ its'.length = its.length ∧ its.length ≤ 5 ∧ its[0]? = some (.str q.wd.s) ∧ (dueP q a m b its).length = its.length ∧
    ∀ (j : Nat) (x x' : V), its[j]? = some x → its'[j]? = some x' → (((j : Int) ∈ q.wd.pl ∧ ∃ r, ((j : Int), r) ∈ q.kids ∧ IsPp K H x r ∧ IsPp K H x' (fwP a o r (m + incB q j b) b)) ∨ ((j : Int) ∉ q.wd.pl ∧ ∃ y, (dueP q a m b its)[j]? = some y ∧ Alk K H 2 x' y)) := by
  cases b with
  | true =>
    have h' : IsPp K H v' (q.mv a (m : Nat)) := h'
    obtain ⟨t, its, t', its', e1, e2, s1, s2, l1, l2, e0, ed, hit⟩ := IsPp.two hl h h'
    have eD : dueP q a m true its = dueL q a m its := by cases q <;> rfl
    refine ⟨t, its, t', its', e1, e2, s1, s2, l1, l2, e0, by rw [eD]; exact ed, fun j x x' hx hx' => ?_⟩
    rw [eD]
    exact hit j x x' hx hx'
  | false =>
    have wd : ∀ s : Str, Alk K H 2 (.str s) (.str s) := fun s => .inr (.inl ⟨s, rfl, rfl⟩)
    have sm : ∀ {x y : V} {s : Sm}, s.Nl → IsSm K H x s → IsSm K H y s → Alk K H 2 x y := fun n h1 h2 => .inr (.inr ⟨_, Nat.lt_succ_of_le n.1, h1, h2⟩)
    have kd : ∀ {x' : V} {r : Pp} {j : Int} {i : Nat}, IsPp K H x' (r.rem (putG a o) (m + i)) → q.inc j = i → IsPp K H x' (fwP a o r (m + incB q j false) false) := fun h e => by
      show IsPp K H _ (Pp.rem (putG a o) _ (m + q.inc _))
      rw [e]
      exact h
    have kd0 : ∀ {x' : V} {r : Pp} {j : Int}, IsPp K H x' (r.rem (putG a o) m) → q.inc j = 0 → IsPp K H x' (fwP a o r (m + incB q j false) false) := fun h e => kd (i := 0) h e
    cases h with
    | @use _ k h =>
      have h2 : IsPp K H v' (putG a o (.use k) m) := h'
      rw [put_use o m (fun e => nu rfl (by rw [e]))] at h2
      clear h'
      cases h2 with
      | use h' =>
        refine ⟨_, _, _, _, rfl, rfl, h, h', rfl, by simp, rfl, rfl, fun j x x' hx hx' => .inr ⟨by simp [Pp.wd, PW.pl], ?_⟩⟩
        match j with
        | 0 => cases hx; cases hx'; exact ⟨_, rfl, wd _⟩
        | 1 => cases hx; cases hx'; exact ⟨_, rfl, .inl ⟨_, rfl, rfl⟩⟩
        | j + 2 => cases hx
    | @name _ n h =>
      have h2 : IsPp K H v' (.name n) := h'
      clear h'
      cases h2 with
      | name h' =>
        refine ⟨_, _, _, _, rfl, rfl, h, h', rfl, by simp, rfl, rfl, fun j x x' hx hx' => .inr ⟨by simp [Pp.wd, PW.pl], ?_⟩⟩
        match j with
        | 0 => cases hx; cases hx'; exact ⟨_, rfl, wd _⟩
        | 1 => cases hx; cases hx'; exact ⟨_, rfl, wd _⟩
        | j + 2 => cases hx
    | pair h p q =>
      have h2 : IsPp K H v' (.pair (Pp.rem (putG a o) _ m) (Pp.rem (putG a o) _ m)) := h'
      clear h'
      cases h2 with
      | pair h' p' q' =>
        refine ⟨_, _, _, _, rfl, rfl, h, h', rfl, by simp, rfl, rfl, fun j x x' hx hx' => ?_⟩
        match j with
        | 0 => cases hx; cases hx'; exact .inr ⟨by simp [Pp.wd, PW.pl], _, rfl, wd _⟩
        | 1 => cases hx; cases hx'; exact .inl ⟨by simp [Pp.wd, PW.pl], _, by simp [Pp.kids], p, kd0 p' rfl⟩
        | 2 => cases hx; cases hx'; exact .inl ⟨by simp [Pp.wd, PW.pl], _, by simp [Pp.kids], q, kd0 q' rfl⟩
        | j + 3 => cases hx
    | apply h p q =>
      have h2 : IsPp K H v' (.apply (Pp.rem (putG a o) _ m) (Pp.rem (putG a o) _ m)) := h'
      clear h'
      cases h2 with
      | apply h' p' q' =>
        refine ⟨_, _, _, _, rfl, rfl, h, h', rfl, by simp, rfl, rfl, fun j x x' hx hx' => ?_⟩
        match j with
        | 0 => cases hx; cases hx'; exact .inr ⟨by simp [Pp.wd, PW.pl], _, rfl, wd _⟩
        | 1 => cases hx; cases hx'; exact .inl ⟨by simp [Pp.wd, PW.pl], _, by simp [Pp.kids], p, kd0 p' rfl⟩
        | 2 => cases hx; cases hx'; exact .inl ⟨by simp [Pp.wd, PW.pl], _, by simp [Pp.kids], q, kd0 q' rfl⟩
        | j + 3 => cases hx
    | first h p =>
      have h2 : IsPp K H v' (.first (Pp.rem (putG a o) _ m)) := h'
      clear h'
      cases h2 with
      | first h' p' =>
        refine ⟨_, _, _, _, rfl, rfl, h, h', rfl, by simp, rfl, rfl, fun j x x' hx hx' => ?_⟩
        match j with
        | 0 => cases hx; cases hx'; exact .inr ⟨by simp [Pp.wd, PW.pl], _, rfl, wd _⟩
        | 1 => cases hx; cases hx'; exact .inl ⟨by simp [Pp.wd, PW.pl], _, by simp [Pp.kids], p, kd0 p' rfl⟩
        | j + 2 => cases hx
    | second h p =>
      have h2 : IsPp K H v' (.second (Pp.rem (putG a o) _ m)) := h'
      clear h'
      cases h2 with
      | second h' p' =>
        refine ⟨_, _, _, _, rfl, rfl, h, h', rfl, by simp, rfl, rfl, fun j x x' hx hx' => ?_⟩
        match j with
        | 0 => cases hx; cases hx'; exact .inr ⟨by simp [Pp.wd, PW.pl], _, rfl, wd _⟩
        | 1 => cases hx; cases hx'; exact .inl ⟨by simp [Pp.wd, PW.pl], _, by simp [Pp.kids], p, kd0 p' rfl⟩
        | j + 2 => cases hx
    | left h p s =>
      have h2 : IsPp K H v' (.left (Pp.rem (putG a o) _ m) _) := h'
      clear h'
      cases h2 with
      | left h' p' s' =>
        refine ⟨_, _, _, _, rfl, rfl, h, h', rfl, by simp, rfl, rfl, fun j x x' hx hx' => ?_⟩
        match j with
        | 0 => cases hx; cases hx'; exact .inr ⟨by simp [Pp.wd, PW.pl], _, rfl, wd _⟩
        | 1 => cases hx; cases hx'; exact .inl ⟨by simp [Pp.wd, PW.pl], _, by simp [Pp.kids], p, kd0 p' rfl⟩
        | 2 => cases hx; cases hx'; exact .inr ⟨by simp [Pp.wd, PW.pl], _, rfl, sm hl.2 s' s⟩
        | j + 3 => cases hx
    | escape h p s =>
      have h2 : IsPp K H v' (.escape (Pp.rem (putG a o) _ m) _) := h'
      clear h'
      cases h2 with
      | escape h' p' s' =>
        refine ⟨_, _, _, _, rfl, rfl, h, h', rfl, by simp, rfl, rfl, fun j x x' hx hx' => ?_⟩
        match j with
        | 0 => cases hx; cases hx'; exact .inr ⟨by simp [Pp.wd, PW.pl], _, rfl, wd _⟩
        | 1 => cases hx; cases hx'; exact .inl ⟨by simp [Pp.wd, PW.pl], _, by simp [Pp.kids], p, kd0 p' rfl⟩
        | 2 => cases hx; cases hx'; exact .inr ⟨by simp [Pp.wd, PW.pl], _, rfl, sm hl.2 s' s⟩
        | j + 3 => cases hx
    | right h p s =>
      have h2 : IsPp K H v' (.right _ (Pp.rem (putG a o) _ m)) := h'
      clear h'
      cases h2 with
      | right h' p' s' =>
        refine ⟨_, _, _, _, rfl, rfl, h, h', rfl, by simp, rfl, rfl, fun j x x' hx hx' => ?_⟩
        match j with
        | 0 => cases hx; cases hx'; exact .inr ⟨by simp [Pp.wd, PW.pl], _, rfl, wd _⟩
        | 1 => cases hx; cases hx'; exact .inr ⟨by simp [Pp.wd, PW.pl], _, rfl, sm hl.2 s' s⟩
        | 2 => cases hx; cases hx'; exact .inl ⟨by simp [Pp.wd, PW.pl], _, by simp [Pp.kids], p, kd0 p' rfl⟩
        | j + 3 => cases hx
    | make h p s =>
      have h2 : IsPp K H v' (.make _ (Pp.rem (putG a o) _ (m + 1))) := h'
      clear h'
      cases h2 with
      | make h' p' s' =>
        refine ⟨_, _, _, _, rfl, rfl, h, h', rfl, by simp, rfl, rfl, fun j x x' hx hx' => ?_⟩
        match j with
        | 0 => cases hx; cases hx'; exact .inr ⟨by simp [Pp.wd, PW.pl], _, rfl, wd _⟩
        | 1 => cases hx; cases hx'; exact .inr ⟨by simp [Pp.wd, PW.pl], _, rfl, sm hl.2 s' s⟩
        | 2 => cases hx; cases hx'; exact .inl ⟨by simp [Pp.wd, PW.pl], _, by simp [Pp.kids], p, kd (i := 1) p' rfl⟩
        | j + 3 => cases hx
    | case h p q r s =>
      have h2 : IsPp K H v' (.case (Pp.rem (putG a o) _ m) (Pp.rem (putG a o) _ (m + 1)) (Pp.rem (putG a o) _ (m + 1)) _) := h'
      clear h'
      cases h2 with
      | case h' p' q' r' s' =>
        refine ⟨_, _, _, _, rfl, rfl, h, h', rfl, by simp, rfl, rfl, fun j x x' hx hx' => ?_⟩
        match j with
        | 0 => cases hx; cases hx'; exact .inr ⟨by simp [Pp.wd, PW.pl], _, rfl, wd _⟩
        | 1 => cases hx; cases hx'; exact .inl ⟨by simp [Pp.wd, PW.pl], _, by simp [Pp.kids], p, kd0 p' rfl⟩
        | 2 => cases hx; cases hx'; exact .inl ⟨by simp [Pp.wd, PW.pl], _, by simp [Pp.kids], q, kd (i := 1) q' rfl⟩
        | 3 => cases hx; cases hx'; exact .inl ⟨by simp [Pp.wd, PW.pl], _, by simp [Pp.kids], r, kd (i := 1) r' rfl⟩
        | 4 => cases hx; cases hx'; exact .inr ⟨by simp [Pp.wd, PW.pl], _, rfl, sm hl.2.2.2 s' s⟩
        | j + 5 => cases hx
/-- a part that is changed and is a use of a then was one before -/
theorem re_use {p : Pp} {ks : List Pp} {k : Int} (h : p.re ks = .use k) (hl : ks.length = p.kids.length) : p = .use k := by
  cases p with
  | use z => exact h
  | name n => exact h
  | pair p q =>
    match ks, hl with
    | [x, y], _ => cases h
  | apply p q =>
    match ks, hl with
    | [x, y], _ => cases h
  | first p =>
    match ks, hl with
    | [x], _ => cases h
  | second p =>
    match ks, hl with
    | [x], _ => cases h
  | left p b =>
    match ks, hl with
    | [x], _ => cases h
  | right b p =>
    match ks, hl with
    | [x], _ => cases h
  | make b p =>
    match ks, hl with
    | [x], _ => cases h
  | escape p b =>
    match ks, hl with
    | [x], _ => cases h
  | case p q r c =>
    match ks, hl with
    | [x, y, z], _ => cases h
theorem lvl_many : ∀ (p : Pp) (m : Nat) (u : Pp × Nat), u ∈ p.lvl m → m ≤ u.2 ∧ u.2 ≤ m + p.ht
  | .use _, m, u, h => by simp [Pp.lvl] at h; subst h; exact ⟨Nat.le_refl _, Nat.le_add_right _ _⟩
  | .name _, m, u, h => by simp [Pp.lvl] at h; subst h; exact ⟨Nat.le_refl _, Nat.le_add_right _ _⟩
  | .first p, m, u, h => by
    rcases List.mem_cons.mp h with rfl | h
    · exact ⟨Nat.le_refl _, Nat.le_add_right _ _⟩
    · have := lvl_many p m u h; show _ ∧ _ ≤ m + (p.ht + 1); omega
  | .second p, m, u, h => by
    rcases List.mem_cons.mp h with rfl | h
    · exact ⟨Nat.le_refl _, Nat.le_add_right _ _⟩
    · have := lvl_many p m u h; show _ ∧ _ ≤ m + (p.ht + 1); omega
  | .left p _, m, u, h => by
    rcases List.mem_cons.mp h with rfl | h
    · exact ⟨Nat.le_refl _, Nat.le_add_right _ _⟩
    · have := lvl_many p m u h; show _ ∧ _ ≤ m + (p.ht + 1); omega
  | .right _ p, m, u, h => by
    rcases List.mem_cons.mp h with rfl | h
    · exact ⟨Nat.le_refl _, Nat.le_add_right _ _⟩
    · have := lvl_many p m u h; show _ ∧ _ ≤ m + (p.ht + 1); omega
  | .escape p _, m, u, h => by
    rcases List.mem_cons.mp h with rfl | h
    · exact ⟨Nat.le_refl _, Nat.le_add_right _ _⟩
    · have := lvl_many p m u h; show _ ∧ _ ≤ m + (p.ht + 1); omega
  | .make _ p, m, u, h => by
    rcases List.mem_cons.mp h with rfl | h
    · exact ⟨Nat.le_refl _, Nat.le_add_right _ _⟩
    · have := lvl_many p (m + 1) u h; show _ ∧ _ ≤ m + (p.ht + 1); omega
  | .pair p q, m, u, h => by
    rcases List.mem_cons.mp h with rfl | h
    · exact ⟨Nat.le_refl _, Nat.le_add_right _ _⟩
    · show _ ∧ _ ≤ m + (max p.ht q.ht + 1)
      rcases List.mem_append.mp h with h | h
      · have := lvl_many p m u h; omega
      · have := lvl_many q m u h; omega
  | .apply p q, m, u, h => by
    rcases List.mem_cons.mp h with rfl | h
    · exact ⟨Nat.le_refl _, Nat.le_add_right _ _⟩
    · show _ ∧ _ ≤ m + (max p.ht q.ht + 1)
      rcases List.mem_append.mp h with h | h
      · have := lvl_many p m u h; omega
      · have := lvl_many q m u h; omega
  | .case p q r _, m, u, h => by
    rcases List.mem_cons.mp h with rfl | h
    · exact ⟨Nat.le_refl _, Nat.le_add_right _ _⟩
    · show _ ∧ _ ≤ m + (max p.ht (max q.ht r.ht) + 1)
      rcases List.mem_append.mp h with h | h
      · have := lvl_many p m u h; omega
      · rcases List.mem_append.mp h with h | h
        · have := lvl_many q (m + 1) u h; omega
        · have := lvl_many r (m + 1) u h; omega
def kws (l : List (Int × Pp)) (j : Nat) : Nat := ((l.filter fun k => decide (k.1 < (j : Int))).map fun k => k.2.wt).sum
theorem kws_cons (k : Int × Pp) (r : List (Int × Pp)) (j : Nat) : kws (k :: r) j = (if k.1 < (j : Int) then k.2.wt else 0) + kws r j := by
  unfold kws
  by_cases h : k.1 < (j : Int)
  · simp [h]
  · simp [h]
theorem kws_mono : ∀ (l : List (Int × Pp)) (j : Nat), kws l j ≤ kws l (j + 1)
  | [], j => Nat.le_refl _
  | k :: r, j => by
    have h := kws_mono r j
    rw [kws_cons, kws_cons]
    by_cases h1 : k.1 < (j : Int)
    · rw [if_pos h1, if_pos (by omega)]
      omega
    · rw [if_neg h1]
      omega
theorem kws_step : ∀ {l : List (Int × Pp)} {q : Pp} {j : Nat}, ((j : Int), q) ∈ l → kws l j + q.wt ≤ kws l (j + 1)
  | k :: r, q, j, h => by
    have hm := kws_mono r j
    rw [kws_cons, kws_cons]
    rcases List.mem_cons.mp h with rfl | h
    · rw [if_neg (show ¬ ((j : Int) < (j : Int)) by omega), if_pos (show (j : Int) < ((j + 1 : Nat) : Int) by omega)]
      show 0 + kws r j + q.wt ≤ q.wt + _
      omega
    · have h2 := kws_step h
      by_cases h1 : k.1 < (j : Int)
      · rw [if_pos h1, if_pos (by omega)]
        omega
      · rw [if_neg h1]
        omega
theorem kws_le (p : Pp) (j : Nat) : kws p.kids j + 1 ≤ p.wt := by
  have h := kids_kw p
  have g : ∀ l : List (Int × Pp), kws l j ≤ kw l := fun l => by
    induction l with
    | nil => exact Nat.le_refl _
    | cons k r ih =>
      rw [kws_cons]
      show _ ≤ k.2.wt + kw r
      by_cases h1 : k.1 < (j : Int)
      · rw [if_pos h1]; omega
      · rw [if_neg h1]; omega
  have := g p.kids
  omega
theorem mem_kw {k : Int × Pp} : ∀ {l : List (Int × Pp)}, k ∈ l → k.2.wt ≤ kw l
  | a :: r, h => by
    show k.2.wt ≤ a.2.wt + kw r
    rcases List.mem_cons.mp h with rfl | h
    · omega
    · have := mem_kw h
      omega
theorem rem_nl {a : Int} {o : Pp} (ho : o.Nl) : ∀ (p : Pp) (m : Nat), p.Nl → (p.rem (putG a o) m).Nl
  | .use k, m, _ => by
    show (if k < a then Pp.use k else if k = a then o.mv a (m : Nat) else .use (k - 1)).Nl
    by_cases h1 : k < a
    · rw [if_pos h1]; exact True.intro
    · rw [if_neg h1]
      by_cases h2 : k = a
      · rw [if_pos h2]; exact mv_nl _ _ _ ho
      · rw [if_neg h2]; exact True.intro
  | .name n, m, h => h
  | .pair p q, m, h => ⟨rem_nl ho p m h.1, rem_nl ho q m h.2⟩
  | .apply p q, m, h => ⟨rem_nl ho p m h.1, rem_nl ho q m h.2⟩
  | .first p, m, h => rem_nl ho p m h
  | .second p, m, h => rem_nl ho p m h
  | .left p _, m, h => ⟨rem_nl ho p m h.1, h.2⟩
  | .right _ p, m, h => ⟨rem_nl ho p m h.1, h.2⟩
  | .make _ p, m, h => ⟨rem_nl ho p (m + 1) h.1, h.2⟩
  | .escape p _, m, h => ⟨rem_nl ho p m h.1, h.2⟩
  | .case p q r _, m, h => ⟨rem_nl ho p m h.1, rem_nl ho q (m + 1) h.2.1, rem_nl ho r (m + 1) h.2.2.1, h.2.2.2⟩
theorem fw_nl {a : Int} {o : Pp} (ho : o.Nl) {q : Pp} (h : q.Nl) (m : Nat) (b : Bool) : (fwP a o q m b).Nl := by
  cases b with
  | true => exact mv_nl _ _ _ h
  | false => exact rem_nl ho q m h
/-- how many at most are assumed round a part -/
def Pp.ad : Pp → Nat
  | .use _ => 0
  | .name _ => 0
  | .pair p q => max p.ad q.ad
  | .first p => p.ad
  | .second p => p.ad
  | .left p _ => p.ad
  | .right _ p => p.ad
  | .case p q r _ => max p.ad (max q.ad r.ad + 1)
  | .make _ p => p.ad + 1
  | .apply p q => max p.ad q.ad
  | .escape p _ => p.ad
theorem ad_ht : ∀ p : Pp, p.ad ≤ p.ht
  | .use _ => Nat.le_refl _
  | .name _ => Nat.le_refl _
  | .pair p q => by have h1 := ad_ht p; have h2 := ad_ht q; simp only [Pp.ad, Pp.ht]; omega
  | .first p => by have h1 := ad_ht p; simp only [Pp.ad, Pp.ht]; omega
  | .second p => by have h1 := ad_ht p; simp only [Pp.ad, Pp.ht]; omega
  | .left p _ => by have h1 := ad_ht p; simp only [Pp.ad, Pp.ht]; omega
  | .right _ p => by have h1 := ad_ht p; simp only [Pp.ad, Pp.ht]; omega
  | .case p q r _ => by have h1 := ad_ht p; have h2 := ad_ht q; have h3 := ad_ht r; simp only [Pp.ad, Pp.ht]; omega
  | .make _ p => by have h1 := ad_ht p; simp only [Pp.ad, Pp.ht]; omega
  | .apply p q => by have h1 := ad_ht p; have h2 := ad_ht q; simp only [Pp.ad, Pp.ht]; omega
  | .escape p _ => by have h1 := ad_ht p; simp only [Pp.ad, Pp.ht]; omega
theorem lvl_ad : ∀ (p : Pp) (m : Nat) (u : Pp × Nat), u ∈ p.lvl m → u.2 ≤ m + p.ad
  | .use _, m, u, h => by simp [Pp.lvl] at h; subst h; exact Nat.le_add_right _ _
  | .name _, m, u, h => by simp [Pp.lvl] at h; subst h; exact Nat.le_add_right _ _
  | .first p, m, u, h => by
    rcases List.mem_cons.mp h with rfl | h
    · exact Nat.le_add_right _ _
    · exact lvl_ad p m u h
  | .second p, m, u, h => by
    rcases List.mem_cons.mp h with rfl | h
    · exact Nat.le_add_right _ _
    · exact lvl_ad p m u h
  | .left p _, m, u, h => by
    rcases List.mem_cons.mp h with rfl | h
    · exact Nat.le_add_right _ _
    · exact lvl_ad p m u h
  | .right _ p, m, u, h => by
    rcases List.mem_cons.mp h with rfl | h
    · exact Nat.le_add_right _ _
    · exact lvl_ad p m u h
  | .escape p _, m, u, h => by
    rcases List.mem_cons.mp h with rfl | h
    · exact Nat.le_add_right _ _
    · exact lvl_ad p m u h
  | .make _ p, m, u, h => by
    rcases List.mem_cons.mp h with rfl | h
    · exact Nat.le_add_right _ _
    · have := lvl_ad p (m + 1) u h
      show _ ≤ m + (p.ad + 1)
      omega
  | .pair p q, m, u, h => by
    rcases List.mem_cons.mp h with rfl | h
    · exact Nat.le_add_right _ _
    · show _ ≤ m + max p.ad q.ad
      rcases List.mem_append.mp h with h | h
      · have := lvl_ad p m u h; omega
      · have := lvl_ad q m u h; omega
  | .apply p q, m, u, h => by
    rcases List.mem_cons.mp h with rfl | h
    · exact Nat.le_add_right _ _
    · show _ ≤ m + max p.ad q.ad
      rcases List.mem_append.mp h with h | h
      · have := lvl_ad p m u h; omega
      · have := lvl_ad q m u h; omega
  | .case p q r _, m, u, h => by
    rcases List.mem_cons.mp h with rfl | h
    · exact Nat.le_add_right _ _
    · show _ ≤ m + max p.ad (max q.ad r.ad + 1)
      rcases List.mem_append.mp h with h | h
      · have := lvl_ad p m u h; omega
      · rcases List.mem_append.mp h with h | h
        · have := lvl_ad q (m + 1) u h; omega
        · have := lvl_ad r (m + 1) u h; omega
theorem kid_ad {p : Pp} {k : Int × Pp} (h : k ∈ p.kids) : k.2.ad ≤ p.ad := by
  cases p <;> simp only [Pp.kids, List.mem_cons, List.not_mem_nil, or_false] at h <;> first
    | exact h.elim
    | (subst h; simp only [Pp.ad]; omega)
    | (rcases h with rfl | rfl | rfl <;> simp only [Pp.ad] <;> omega)
    | (rcases h with rfl | rfl <;> simp only [Pp.ad] <;> omega)
theorem ht_wt : ∀ p : Pp, p.ht ≤ p.wt
  | .use _ => Nat.zero_le _
  | .name _ => Nat.zero_le _
  | .pair p q => by have h1 := ht_wt p; have h2 := ht_wt q; simp only [Pp.wt, Pp.ht]; omega
  | .first p => by have h1 := ht_wt p; simp only [Pp.wt, Pp.ht]; omega
  | .second p => by have h1 := ht_wt p; simp only [Pp.wt, Pp.ht]; omega
  | .left p _ => by have h1 := ht_wt p; simp only [Pp.wt, Pp.ht]; omega
  | .right _ p => by have h1 := ht_wt p; simp only [Pp.wt, Pp.ht]; omega
  | .case p q r _ => by have h1 := ht_wt p; have h2 := ht_wt q; have h3 := ht_wt r; simp only [Pp.wt, Pp.ht]; omega
  | .make _ p => by have h1 := ht_wt p; simp only [Pp.wt, Pp.ht]; omega
  | .apply p q => by have h1 := ht_wt p; have h2 := ht_wt q; simp only [Pp.wt, Pp.ht]; omega
  | .escape p _ => by have h1 := ht_wt p; simp only [Pp.wt, Pp.ht]; omega
end Ob

/-! ObAw: steps of papers. -/
namespace Ob
open PySem PySem.Spec PyProof.Rows L2
/-- the chief of a paper that has one -/
def Pp.chf : Pp → Option Pp
  | .first p => some p
  | .second p => some p
  | .apply p _ => some p
  | .case p _ _ _ => some p
  | .escape p _ => some p
  | _ => none
def hasChf : PW → Bool
  | .first | .second | .apply | .case | .escape => true
  | _ => false
theorem chf_wd (p : Pp) : p.chf.isSome = hasChf p.wd := by cases p <;> rfl
/-- a step at the paper itself, its chief's form taken -/
def Pp.taken (n : Int) : Pp → Option Pp
  | .first (.pair p _) => some p
  | .second (.pair _ q) => some q
  | .apply (.make _ b) q => some (b.rem (putG n q) 0)
  | .case (.left c _) q _ _ => some (q.rem (putG n c) 0)
  | .case (.right _ c) _ r _ => some (r.rem (putG n c) 0)
  | _ => none
/-- what the paper shows where its chief shows that -/
def Pp.shw : Pp → Sm → Option Sm
  | .first _, .bin _ a _ => some a
  | .second _, .bin _ _ b => some b
  | .apply _ _, .bin _ _ b => some b
  | .case _ _ _ c, _ => some c
  | .escape _ c, _ => some c
  | _, _ => none
/-- the paper with another chief, its other parts moved by one -/
def Pp.wch (n : Int) (p c : Pp) : Pp := p.re (c :: (p.kids.drop 1).map fun k => k.2.mv n 1)
/-- the chief's last step drawn out -/
def Pp.lifted (n : Int) (p : Pp) : Option Pp := match p.chf with
  | some (.escape x a) => (p.shw a).map fun s => .escape x s
  | some (.case x q r a) => (p.shw a).map fun s => .case x (p.wch n q) (p.wch n r) s
  | _ => none
/-- where the chief bears a statement the paper can tell of it -/
def Pp.Jo1 (p : Pp) : Prop := ∀ x a, (p.chf = some (.escape x a) ∨ ∃ q r, p.chf = some (.case x q r a)) → (p.shw a).isSome = true
def Pp.stepped (n : Int) (p : Pp) : Option Pp := match p.taken n with
  | some q => some q
  | none => p.lifted n
theorem TabL.put {T : List (Addr × Str)} {H : Hp} {D : Addr} {ys : List V} {o : HO} (t : LamX.Tabs T H) (h : H D = some (.lst ys)) : LamX.Tabs T (upd H D o) := fun z hz => by
  obtain ⟨ps, h1, h2, h3⟩ := t z hz
  refine ⟨ps, ?_, h2, fun pos cv hc => ?_⟩
  · rw [upd_ne (fun e => by rw [e, h] at h1; cases h1)]
    exact h1
  · obtain ⟨c, e1, e2⟩ := h3 pos cv hc
    refine ⟨c, e1, ?_⟩
    rw [upd_ne (fun e => by rw [e, h] at e2; cases e2)]
    exact e2
/-- none, or a paper -/
def OptV (K : PySem.W.Frag) (H : Hp) (v : V) (o : Option Pp) : Prop := (o = none ∧ v = .non) ∨ ∃ p, o = some p ∧ IsPp K H v p
theorem IsPp.chief {K : PySem.W.Frag} {H : Hp} {v : V} {p c : Pp} (h : IsPp K H v p) (e : p.chf = some c) : ∃ a xs x, v = .ref a ∧ SqT K H a (.str p.wd.s :: x :: xs) ∧ IsPp K H x c := by
  cases h with
  | first h p => cases e; exact ⟨_, _, _, rfl, h, p⟩
  | second h p => cases e; exact ⟨_, _, _, rfl, h, p⟩
  | apply h p q => cases e; exact ⟨_, _, _, rfl, h, p⟩
  | case h p q r s => cases e; exact ⟨_, _, _, rfl, h, p⟩
  | escape h p s => cases e; exact ⟨_, _, _, rfl, h, p⟩
  | use _ => cases e
  | name _ => cases e
  | pair _ _ _ => cases e
  | left _ _ _ => cases e
  | right _ _ _ => cases e
  | make _ _ _ => cases e
theorem and_wd {a b : PW} {X Y : PW} (h : (decide (a = X) && decide (b = Y)) = true) : a = X ∧ b = Y := by
  obtain ⟨h1, h2⟩ := Bool.and_eq_true_iff.mp h
  exact ⟨of_decide_eq_true h1, of_decide_eq_true h2⟩
theorem taken_none {n : Int} {p c : Pp} (e : p.chf = some c) (h1 : (decide (p.wd = .first) && decide (c.wd = .pair)) = false) (h2 : (decide (p.wd = .second) && decide (c.wd = .pair)) = false) (h3 : (decide (p.wd = .apply) && decide (c.wd = .make)) = false) (h4 : (decide (p.wd = .case) && decide (c.wd = .left)) = false) (h5 : (decide (p.wd = .case) && decide (c.wd = .right)) = false) : p.taken n = none := by
  cases p <;> first | (cases e; done) | (cases e; cases c <;> first | rfl | exact absurd h1 Bool.noConfusion | exact absurd h2 Bool.noConfusion | exact absurd h3 Bool.noConfusion | exact absurd h4 Bool.noConfusion | exact absurd h5 Bool.noConfusion)
end Ob

/-! ObAx: a part of a paper at a road, another put there. -/
namespace Ob
open PySem PySem.Spec PyProof.Rows L2
/-- the paper with another one at one of its places -/
def Pp.set1 : Pp → Int → Pp → Pp
  | .pair a b, i, q => if i = 1 then .pair q b else if i = 2 then .pair a q else .pair a b
  | .apply a b, i, q => if i = 1 then .apply q b else if i = 2 then .apply a q else .apply a b
  | .first a, i, q => if i = 1 then .first q else .first a
  | .second a, i, q => if i = 1 then .second q else .second a
  | .left a b, i, q => if i = 1 then .left q b else .left a b
  | .right b a, i, q => if i = 2 then .right b q else .right b a
  | .make b a, i, q => if i = 2 then .make b q else .make b a
  | .escape a b, i, q => if i = 1 then .escape q b else .escape a b
  | .case a b c s, i, q => if i = 1 then .case q b c s else if i = 2 then .case a q c s else if i = 3 then .case a b q s else .case a b c s
  | p, _, _ => p
/-- a paper's tuple: each part, and the tuple with another one in its place -/
theorem IsPp.st1 {K : PySem.W.Frag} {H : Hp} {v : V} {p : Pp} (h : IsPp K H v p) : ∃ a its, v = .ref a ∧ SqT K H a its ∧ its.length ≤ 5 ∧ atI its 0 = some (.str p.wd.s) ∧
    ∀ k ∈ p.kids, 1 ≤ k.1 ∧ k.1.toNat < its.length ∧ (∃ x, its[k.1.toNat]? = some x ∧ IsPp K H x k.2) ∧ ∀ (H' : Hp) (a' : Addr) (z : V) (q : Pp), TK K H H' → IsPp K H' z q → SqT K H' a' (its.set k.1.toNat z) → IsPp K H' (.ref a') (p.set1 k.1 q) := by
  cases h with
  | use h => exact ⟨_, _, rfl, h, by simp, at0, fun k hk => absurd hk List.not_mem_nil⟩
  | name h => exact ⟨_, _, rfl, h, by simp, at0, fun k hk => absurd hk List.not_mem_nil⟩
  | pair h p q => exact ⟨_, _, rfl, h, by simp, at0, fun k hk => by
      simp only [Pp.kids, List.mem_cons, List.not_mem_nil, or_false] at hk
      rcases hk with rfl | rfl
      · exact ⟨by simp, by simp, ⟨_, rfl, p⟩, fun H' a' z r tk iz t => .pair t iz (q.tk tk)⟩
      · exact ⟨by simp, by simp, ⟨_, rfl, q⟩, fun H' a' z r tk iz t => .pair t (p.tk tk) iz⟩⟩
  | apply h p q => exact ⟨_, _, rfl, h, by simp, at0, fun k hk => by
      simp only [Pp.kids, List.mem_cons, List.not_mem_nil, or_false] at hk
      rcases hk with rfl | rfl
      · exact ⟨by simp, by simp, ⟨_, rfl, p⟩, fun H' a' z r tk iz t => .apply t iz (q.tk tk)⟩
      · exact ⟨by simp, by simp, ⟨_, rfl, q⟩, fun H' a' z r tk iz t => .apply t (p.tk tk) iz⟩⟩
  | first h p => exact ⟨_, _, rfl, h, by simp, at0, fun k hk => by
      simp only [Pp.kids, List.mem_cons, List.not_mem_nil, or_false] at hk
      subst hk
      exact ⟨by simp, by simp, ⟨_, rfl, p⟩, fun H' a' z r tk iz t => .first t iz⟩⟩
  | second h p => exact ⟨_, _, rfl, h, by simp, at0, fun k hk => by
      simp only [Pp.kids, List.mem_cons, List.not_mem_nil, or_false] at hk
      subst hk
      exact ⟨by simp, by simp, ⟨_, rfl, p⟩, fun H' a' z r tk iz t => .second t iz⟩⟩
  | left h p s => exact ⟨_, _, rfl, h, by simp, at0, fun k hk => by
      simp only [Pp.kids, List.mem_cons, List.not_mem_nil, or_false] at hk
      subst hk
      exact ⟨by simp, by simp, ⟨_, rfl, p⟩, fun H' a' z r tk iz t => .left t iz (s.tk tk)⟩⟩
  | right h p s => exact ⟨_, _, rfl, h, by simp, at0, fun k hk => by
      simp only [Pp.kids, List.mem_cons, List.not_mem_nil, or_false] at hk
      subst hk
      exact ⟨by simp, by simp, ⟨_, rfl, p⟩, fun H' a' z r tk iz t => .right t iz (s.tk tk)⟩⟩
  | make h p s => exact ⟨_, _, rfl, h, by simp, at0, fun k hk => by
      simp only [Pp.kids, List.mem_cons, List.not_mem_nil, or_false] at hk
      subst hk
      exact ⟨by simp, by simp, ⟨_, rfl, p⟩, fun H' a' z r tk iz t => .make t iz (s.tk tk)⟩⟩
  | escape h p s => exact ⟨_, _, rfl, h, by simp, at0, fun k hk => by
      simp only [Pp.kids, List.mem_cons, List.not_mem_nil, or_false] at hk
      subst hk
      exact ⟨by simp, by simp, ⟨_, rfl, p⟩, fun H' a' z r tk iz t => .escape t iz (s.tk tk)⟩⟩
  | case h p q r s => exact ⟨_, _, rfl, h, by simp, at0, fun k hk => by
      simp only [Pp.kids, List.mem_cons, List.not_mem_nil, or_false] at hk
      rcases hk with rfl | rfl | rfl
      · exact ⟨by simp, by simp, ⟨_, rfl, p⟩, fun H' a' z x tk iz t => .case t iz (q.tk tk) (r.tk tk) (s.tk tk)⟩
      · exact ⟨by simp, by simp, ⟨_, rfl, q⟩, fun H' a' z x tk iz t => .case t (p.tk tk) iz (r.tk tk) (s.tk tk)⟩
      · exact ⟨by simp, by simp, ⟨_, rfl, r⟩, fun H' a' z x tk iz t => .case t (p.tk tk) (q.tk tk) iz (s.tk tk)⟩⟩
/-- the parts passed on a road, the last one's part being q -/
inductive Road : Pp → List Int → List Pp → Pp → Prop where
  | nil (p : Pp) : Road p [] [] p
  | cons {p : Pp} {i : Int} {r : Pp} {rd : List Int} {ps : List Pp} {q : Pp} (h : (i, r) ∈ p.kids) (t : Road r rd ps q) : Road p (i :: rd) (p :: ps) q
theorem Road.len {p q : Pp} {rd : List Int} {ps : List Pp} (h : Road p rd ps q) : ps.length = rd.length := by
  induction h with
  | nil => rfl
  | cons _ _ ih => rw [List.length_cons, List.length_cons, ih]
theorem Road.snoc {p q r : Pp} {rd : List Int} {ps : List Pp} {i : Int} (h : Road p rd ps q) (k : (i, r) ∈ q.kids) : Road p (rd ++ [i]) (ps ++ [q]) r := by
  induction h with
  | nil p => exact .cons k (.nil r)
  | cons h t ih => exact .cons h (ih k)
theorem Road.at {p q : Pp} {rd : List Int} {ps : List Pp} (h : Road p rd ps q) : ∀ (m : Nat) (i : Int) (x : Pp), rd[m]? = some i → ps[m]? = some x → ∃ r, (i, r) ∈ x.kids := by
  induction h with
  | nil =>
    intro m i x h
    cases h
  | cons h t ih =>
    intro m i x h1 h2
    cases m with
    | zero => cases h1; cases h2; exact ⟨_, h⟩
    | succ m => exact ih m i x h1 h2
/-- another one put at the road's end -/
def putAt : List Int → List Pp → Pp → Pp
  | i :: rd, p :: ps, x => p.set1 i (putAt rd ps x)
  | _, _, x => x
theorem putAt_cons {rd : List Int} {ps : List Pp} {m : Nat} {i : Int} {p : Pp} (h1 : rd[m]? = some i) (h2 : ps[m]? = some p) (x : Pp) : putAt (rd.drop m) (ps.drop m) x = p.set1 i (putAt (rd.drop (m + 1)) (ps.drop (m + 1)) x) := by
  have a := (List.getElem?_eq_some_iff.mp h1).1
  have b := (List.getElem?_eq_some_iff.mp h2).1
  rw [List.drop_eq_getElem_cons a, List.drop_eq_getElem_cons b]
  rw [List.getElem?_eq_getElem a] at h1
  rw [List.getElem?_eq_getElem b] at h2
  injection h1 with h1
  injection h2 with h2
  rw [h1, h2]
  rfl
/-- the tuple with one item set, as slices make it -/
theorem set_cut {xs : List V} {k : Nat} (z : V) (h : k < xs.length) : cutV xs none (some (k : Int)) ++ (z :: (cutV xs (some (((k + 1 : Nat)) : Int)) none ++ [])) = xs.set k z := by
  rw [cut_to, cut_from, List.append_nil, List.set_eq_take_append_cons_drop, if_pos h]
theorem putAt_snoc : ∀ (rd : List Int) (ps : List Pp) (i : Int) (p x : Pp), rd.length = ps.length → putAt (rd ++ [i]) (ps ++ [p]) x = putAt rd ps (p.set1 i x)
  | [], [], i, p, x, _ => rfl
  | j :: rd, q :: ps, i, p, x, h => by
    show q.set1 j (putAt (rd ++ [i]) (ps ++ [p]) x) = q.set1 j (putAt rd ps (p.set1 i x))
    rw [putAt_snoc rd ps i p x (by simpa using h)]
  | [], _ :: _, _, _, _, h => by cases h
  | _ :: _, [], _, _, _, h => by cases h
end Ob

/-! ObAy: the first part of a paper that has a step. -/
namespace Ob
open PySem PySem.Spec PyProof.Rows L2
/-- each paper within that has a chief can tell of it -/
def Pp.Joa : Pp → Prop
  | .use _ => True
  | .name _ => True
  | .pair p q => p.Joa ∧ q.Joa
  | .first p => (Pp.first p).Jo1 ∧ p.Joa
  | .second p => (Pp.second p).Jo1 ∧ p.Joa
  | .left p _ => p.Joa
  | .right _ p => p.Joa
  | .case p q r c => (Pp.case p q r c).Jo1 ∧ p.Joa ∧ q.Joa ∧ r.Joa
  | .make _ p => p.Joa
  | .apply p q => (Pp.apply p q).Jo1 ∧ p.Joa ∧ q.Joa
  | .escape p c => (Pp.escape p c).Jo1 ∧ p.Joa
theorem Pp.Joa.jo1 {p : Pp} (h : p.Joa) : p.Jo1 := by
  cases p <;> first | exact h.1 | (intro x a z; rcases z with z | ⟨_, _, z⟩ <;> cases z)
theorem kid_joa {p : Pp} (h : p.Joa) {k : Int × Pp} (hk : k ∈ p.kids) : k.2.Joa := by
  cases p <;> simp only [Pp.kids, List.mem_cons, List.not_mem_nil, or_false] at hk <;> first
    | exact hk.elim
    | (subst hk; first | exact h | exact h.2)
    | (rcases hk with rfl | rfl | rfl <;> first | exact h.2.1 | exact h.2.2.1 | exact h.2.2.2)
    | (rcases hk with rfl | rfl <;> first | exact h.1 | exact h.2 | exact h.2.1 | exact h.2.2)
/-- how many are assumed, the part, its road, the papers passed -/
abbrev SI : Type := Int × Pp × List Int × List Pp
def Pp.pre2 : Pp → Int → List Int → List Pp → List SI
  | .use k, n, rd, ps => [(n, .use k, rd, ps)]
  | .name k, n, rd, ps => [(n, .name k, rd, ps)]
  | .pair p q, n, rd, ps => (n, .pair p q, rd, ps) :: (p.pre2 n (rd ++ [1]) (ps ++ [.pair p q]) ++ q.pre2 n (rd ++ [2]) (ps ++ [.pair p q]))
  | .first p, n, rd, ps => (n, .first p, rd, ps) :: p.pre2 n (rd ++ [1]) (ps ++ [.first p])
  | .second p, n, rd, ps => (n, .second p, rd, ps) :: p.pre2 n (rd ++ [1]) (ps ++ [.second p])
  | .left p b, n, rd, ps => (n, .left p b, rd, ps) :: p.pre2 n (rd ++ [1]) (ps ++ [.left p b])
  | .right b p, n, rd, ps => (n, .right b p, rd, ps) :: p.pre2 n (rd ++ [2]) (ps ++ [.right b p])
  | .case p q r c, n, rd, ps => (n, .case p q r c, rd, ps) :: (p.pre2 n (rd ++ [1]) (ps ++ [.case p q r c]) ++ (q.pre2 (n + 1) (rd ++ [2]) (ps ++ [.case p q r c]) ++ r.pre2 (n + 1) (rd ++ [3]) (ps ++ [.case p q r c])))
  | .make b p, n, rd, ps => (n, .make b p, rd, ps) :: p.pre2 (n + 1) (rd ++ [2]) (ps ++ [.make b p])
  | .apply p q, n, rd, ps => (n, .apply p q, rd, ps) :: (p.pre2 n (rd ++ [1]) (ps ++ [.apply p q]) ++ q.pre2 n (rd ++ [2]) (ps ++ [.apply p q]))
  | .escape p c, n, rd, ps => (n, .escape p c, rd, ps) :: p.pre2 n (rd ++ [1]) (ps ++ [.escape p c])
def SI.pre (x : SI) : List SI := x.2.1.pre2 x.1 x.2.2.1 x.2.2.2
def kidI (x : SI) : List SI := x.2.1.kids.map fun k => (x.1 + ((x.2.1.inc k.1 : Nat) : Int), k.2, x.2.2.1 ++ [k.1], x.2.2.2 ++ [x.2.1])
theorem pre2_kids (x : SI) : SI.pre x = x :: (kidI x).flatMap SI.pre := by
  obtain ⟨n, p, rd, ps⟩ := x
  cases p <;> simp [SI.pre, kidI, Pp.pre2, Pp.kids, Pp.inc, Pp.wd, asmL]
/-- the whole where that part has a step -/
def stepAt (x : SI) : Option Pp := (x.2.1.stepped x.1).map fun q => putAt x.2.2.1 x.2.2.2 q
def Pp.step (n : Int) (p : Pp) : Option Pp := (SI.pre (n, p, [], [])).findSome? stepAt
def swt (st : List SI) : Nat := (st.map fun x => x.2.1.wt).sum
theorem swt_app (a b : List SI) : swt (a ++ b) = swt a + swt b := by
  unfold swt
  rw [List.map_append, List.sum_append]
theorem swt_kids (x : SI) : swt (kidI x) + 1 ≤ x.2.1.wt := by
  have h := kids_kw x.2.1
  have e : swt (kidI x) = kw x.2.1.kids := by
    unfold swt kidI kw
    rw [List.map_map]
    rfl
  omega
theorem swt_len : ∀ st : List SI, st.length ≤ swt st
  | [] => Nat.le_refl _
  | x :: r => by
    have h1 := swt_len r
    have h2 := x.2.1.wt_pos
    show r.length + 1 ≤ x.2.1.wt + swt r
    omega
end Ob

/-! ObAz: steps told part by part. -/
namespace Ob
open PySem PySem.Spec PyProof.Rows L2
theorem putAt_app : ∀ (rd : List Int) (ps : List Pp) (rd2 : List Int) (ps2 : List Pp) (x : Pp), rd.length = ps.length → putAt (rd ++ rd2) (ps ++ ps2) x = putAt rd ps (putAt rd2 ps2 x)
  | [], [], _, _, _, _ => rfl
  | i :: rd, p :: ps, rd2, ps2, x, h => by
    show p.set1 i (putAt (rd ++ rd2) (ps ++ ps2) x) = p.set1 i (putAt rd ps (putAt rd2 ps2 x))
    rw [putAt_app rd ps rd2 ps2 x (by simpa using h)]
  | [], _ :: _, _, _, _, h => by cases h
  | _ :: _, [], _, _, _, h => by cases h
theorem stepAt_app {n : Int} {p : Pp} {rd rd2 : List Int} {ps ps2 : List Pp} (h : rd.length = ps.length) : stepAt (n, p, rd ++ rd2, ps ++ ps2) = (stepAt (n, p, rd2, ps2)).map (putAt rd ps) := by
  show (p.stepped n).map (fun q => putAt (rd ++ rd2) (ps ++ ps2) q) = ((p.stepped n).map fun q => putAt rd2 ps2 q).map (putAt rd ps)
  cases p.stepped n with
  | none => rfl
  | some q =>
    show some (putAt (rd ++ rd2) (ps ++ ps2) q) = some (putAt rd ps (putAt rd2 ps2 q))
    rw [putAt_app _ _ _ _ _ h]
theorem find_cons {x : SI} {l : List SI} : (x :: l).findSome? stepAt = (stepAt x).or (l.findSome? stepAt) := by
  rw [List.findSome?_cons]
  cases stepAt x <;> rfl
theorem find_app {l m : List SI} : (l ++ m).findSome? stepAt = (l.findSome? stepAt).or (m.findSome? stepAt) := by
  rw [List.findSome?_append]
theorem or_map {o o2 : Option Pp} {f : Pp → Pp} : (o.or o2).map f = (o.map f).or (o2.map f) := by
  cases o <;> rfl
theorem pre2_app {rd : List Int} {ps : List Pp} (h : rd.length = ps.length) : ∀ (p : Pp) (n : Int) (rd2 : List Int) (ps2 : List Pp), (p.pre2 n (rd ++ rd2) (ps ++ ps2)).findSome? stepAt = ((p.pre2 n rd2 ps2).findSome? stepAt).map (putAt rd ps)
  | .use k, n, rd2, ps2 => by simp only [Pp.pre2, find_cons, or_map, stepAt_app h]; rfl
  | .name k, n, rd2, ps2 => by simp only [Pp.pre2, find_cons, or_map, stepAt_app h]; rfl
  | .pair p q, n, rd2, ps2 => by simp only [Pp.pre2, find_cons, find_app, or_map, stepAt_app h, List.append_assoc, pre2_app h p, pre2_app h q]
  | .apply p q, n, rd2, ps2 => by simp only [Pp.pre2, find_cons, find_app, or_map, stepAt_app h, List.append_assoc, pre2_app h p, pre2_app h q]
  | .first p, n, rd2, ps2 => by simp only [Pp.pre2, find_cons, or_map, stepAt_app h, List.append_assoc, pre2_app h p]
  | .second p, n, rd2, ps2 => by simp only [Pp.pre2, find_cons, or_map, stepAt_app h, List.append_assoc, pre2_app h p]
  | .left p _, n, rd2, ps2 => by simp only [Pp.pre2, find_cons, or_map, stepAt_app h, List.append_assoc, pre2_app h p]
  | .right _ p, n, rd2, ps2 => by simp only [Pp.pre2, find_cons, or_map, stepAt_app h, List.append_assoc, pre2_app h p]
  | .make _ p, n, rd2, ps2 => by simp only [Pp.pre2, find_cons, or_map, stepAt_app h, List.append_assoc, pre2_app h p]
  | .escape p _, n, rd2, ps2 => by simp only [Pp.pre2, find_cons, or_map, stepAt_app h, List.append_assoc, pre2_app h p]
  | .case p q r _, n, rd2, ps2 => by simp only [Pp.pre2, find_cons, find_app, or_map, stepAt_app h, List.append_assoc, pre2_app h p, pre2_app h q, pre2_app h r]
/-- behind one place -/
theorem pre2_one (P p : Pp) (n i : Int) : (p.pre2 n [i] [P]).findSome? stepAt = (p.step n).map (P.set1 i) := by
  have h := pre2_app (rd := [i]) (ps := [P]) rfl p n [] []
  rw [List.append_nil, List.append_nil] at h
  rw [h]
  rfl
/-- a step at the paper itself -/
theorem step_self {n : Int} {p q : Pp} (h : p.stepped n = some q) : p.step n = some q := by
  unfold Pp.step
  rw [pre2_kids, find_cons]
  have e : stepAt (n, p, [], []) = some q := by show (p.stepped n).map _ = _; rw [h]; rfl
  rw [e]
  rfl
theorem step_use (n k : Int) : (Pp.use k).step n = none := rfl
theorem step_name (n : Int) (k : List Nat) : (Pp.name k).step n = none := rfl
theorem step_pair (n : Int) (p q : Pp) : (Pp.pair p q).step n = ((p.step n).map fun x => .pair x q).or ((q.step n).map fun x => .pair p x) := by
  show ((n, Pp.pair p q, [], []) :: (p.pre2 n ([] ++ [1]) ([] ++ [Pp.pair p q]) ++ q.pre2 n ([] ++ [2]) ([] ++ [Pp.pair p q]))).findSome? stepAt = _
  rw [find_cons, find_app]
  show Option.or none (((p.pre2 n [1] [Pp.pair p q]).findSome? stepAt).or ((q.pre2 n [2] [Pp.pair p q]).findSome? stepAt)) = _
  rw [pre2_one, pre2_one]
  rfl
end Ob

/-! ObBa: towers, and what comes of them step by step. -/
namespace Ob
open PySem PySem.Spec PyProof.Rows L2
/-- numbers, texts and short tuples of them -/
inductive Pd : PyData → Prop where
  | int (i : Int) : Pd (.int i)
  | str (x : Str) : Pd (.str x)
  | tup {ds : List PyData} (h : ∀ d ∈ ds, Pd d) (l : ds.length ≤ 5) : Pd (.tuple ds)
theorem Pd.two {a b : PyData} (h1 : Pd a) (h2 : Pd b) : Pd (.tuple [a, b]) := .tup (fun d hd => by simp at hd; rcases hd with rfl | rfl <;> assumption) (by simp)
theorem Pd.three {a b c : PyData} (h1 : Pd a) (h2 : Pd b) (h3 : Pd c) : Pd (.tuple [a, b, c]) := .tup (fun d hd => by simp at hd; rcases hd with rfl | rfl | rfl <;> assumption) (by simp)
theorem Pd.sm : ∀ s : Sm, Pd s.data
  | .lt n => .two (.str _) (.str _)
  | .nv => .tup (fun d hd => by simp at hd; subst hd; exact .str _) (by simp)
  | .bin w a b => .three (.str _) (Pd.sm a) (Pd.sm b)
theorem Pd.pp : ∀ p : Pp, Pd p.data
  | .use k => .two (.str _) (.int _)
  | .name n => .two (.str _) (.str _)
  | .pair p q => .three (.str _) (Pd.pp p) (Pd.pp q)
  | .first p => .two (.str _) (Pd.pp p)
  | .second p => .two (.str _) (Pd.pp p)
  | .left p b => .three (.str _) (Pd.pp p) (Pd.sm b)
  | .right b p => .three (.str _) (Pd.sm b) (Pd.pp p)
  | .case p q r c => .tup (fun d hd => by
      simp at hd
      have h1 := Pd.pp p
      have h2 := Pd.pp q
      have h3 := Pd.pp r
      have h4 := Pd.sm c
      rcases hd with rfl | rfl | rfl | rfl | rfl <;> first | exact .str _ | assumption) (by simp)
  | .make b p => .three (.str _) (Pd.sm b) (Pd.pp p)
  | .apply p q => .three (.str _) (Pd.pp p) (Pd.pp q)
  | .escape p c => .three (.str _) (Pd.pp p) (Pd.sm c)
def cls (way : Nat) (a b : Sm) : Pp := match way with
  | 0 => .first (.pair (.use 0) (.make b (.use 0)))
  | 1 => .second (.pair (.make b (.use 0)) (.use 0))
  | 2 => .apply (.make a (.use 1)) (.use 0)
  | 3 => .case (.left (.use 0) b) (.use 1) (.use 0) a
  | _ => .case (.right b (.use 0)) (.use 0) (.use 1) a
def dbl (a : Sm) : Nat → Sm
  | 0 => a
  | L + 1 => .bin .and (dbl a L) (dbl a L)
def twr (way : Nat) (a b : Sm) : Nat → Pp
  | 0 => cls way a b
  | L + 1 => .apply (.make (dbl a L) (.pair (.use 1) (.use 1))) (twr way a b L)
def tot : Nat → Nat
  | 0 => 1
  | L + 1 => 2 * tot L + 1
theorem tot_pow : ∀ L : Nat, tot L + 1 = 2 * 2 ^ L
  | 0 => rfl
  | L + 1 => by
    have := tot_pow L
    rw [Nat.pow_succ]
    show 2 * tot L + 1 + 1 = _
    omega
def bh (way : Nat) (a b : Sm) : Nat → Int → Pp
  | 0, d => if d ≤ 0 then twr way a b 0 else .use 0
  | L + 1, d => if d ≤ 0 then twr way a b (L + 1) else .pair (bh way a b L (min (d - 1) (tot L))) (bh way a b L (d - 1 - tot L))
theorem bh_zero {way : Nat} {a b : Sm} {d : Int} (h : d ≤ 0) : ∀ L : Nat, bh way a b L d = twr way a b L
  | 0 => if_pos h
  | L + 1 => if_pos h
theorem bh_succ {way : Nat} {a b : Sm} {d : Int} {L : Nat} (h : 0 < d) : bh way a b (L + 1) d = .pair (bh way a b L (min (d - 1) (tot L))) (bh way a b L (d - 1 - tot L)) := if_neg (by omega)
theorem cls_step (way : Nat) (a b : Sm) : (cls way a b).step 1 = some (.use 0) := by
  have e : (Pp.use 1).rem (putG 1 (.use 0)) 0 = .use 0 := put_at 1 (.use 0) 0
  match way with
  | 0 => exact step_self rfl
  | 1 => exact step_self rfl
  | 2 => exact step_self (by show some ((Pp.use 1).rem (putG 1 (.use 0)) 0) = _; rw [e])
  | 3 => exact step_self (by show some ((Pp.use 1).rem (putG 1 (.use 0)) 0) = _; rw [e])
  | n + 4 => exact step_self (by show some ((Pp.use 1).rem (putG 1 (.use 0)) 0) = _; rw [e])
theorem twr_step (way : Nat) (a b : Sm) (L : Nat) : (twr way a b (L + 1)).step 1 = some (.pair (twr way a b L) (twr way a b L)) := by
  have e : (Pp.use 1).rem (putG 1 (twr way a b L)) 0 = twr way a b L := (put_at 1 (twr way a b L) 0).trans (mv_zero 1 _)
  refine step_self ?_
  show some ((Pp.pair (.use 1) (.use 1)).rem (putG 1 (twr way a b L)) 0) = _
  show some (Pp.pair ((Pp.use 1).rem (putG 1 (twr way a b L)) 0) ((Pp.use 1).rem (putG 1 (twr way a b L)) 0)) = _
  rw [e]
theorem bh_step (way : Nat) (a b : Sm) : ∀ (L : Nat) (d : Int), 0 ≤ d → (bh way a b L d).step 1 = if d < tot L then some (bh way a b L (d + 1)) else none
  | 0, d, h => by
    by_cases h0 : d ≤ 0
    · have e0 : d = 0 := by omega
      subst e0
      rw [bh_zero (Int.le_refl _), if_pos (show (0 : Int) < ((tot 0 : Nat) : Int) by decide)]
      exact cls_step way a b
    · rw [if_neg (show ¬ d < ((tot 0 : Nat) : Int) by show ¬ d < ((1 : Nat) : Int); omega)]
      show (if d ≤ 0 then twr way a b 0 else Pp.use 0).step 1 = none
      rw [if_neg h0]
      rfl
  | L + 1, d, h => by
    have et : ((tot (L + 1) : Nat) : Int) = 2 * ((tot L : Nat) : Int) + 1 := by show ((2 * tot L + 1 : Nat) : Int) = _; omega
    by_cases h0 : d ≤ 0
    · have e0 : d = 0 := by omega
      subst e0
      rw [bh_zero (Int.le_refl _), twr_step, if_pos (by omega), bh_succ (by omega)]
      rw [bh_zero (show min ((0 : Int) + 1 - 1) (tot L) ≤ 0 by omega), bh_zero (show (0 : Int) + 1 - 1 - (tot L) ≤ 0 by omega)]
    · rw [bh_succ (by omega), step_pair]
      by_cases h1 : d - 1 < tot L
      · rw [bh_step way a b L (min (d - 1) (tot L)) (by omega), if_pos (by omega), if_pos (by omega), bh_succ (by omega)]
        rw [show min (d - 1) ((tot L : Nat) : Int) + 1 = min (d + 1 - 1) (tot L) by omega, bh_zero (show d - 1 - (tot L) ≤ 0 by omega), bh_zero (show d + 1 - 1 - (tot L) ≤ 0 by omega)]
        rfl
      · rw [bh_step way a b L (min (d - 1) (tot L)) (by omega), if_neg (by omega), bh_step way a b L (d - 1 - tot L) (by omega)]
        by_cases h2 : d < tot (L + 1)
        · rw [if_pos (by omega), if_pos h2, bh_succ (by omega)]
          rw [show min (d - 1) ((tot L : Nat) : Int) = min (d + 1 - 1) (tot L) by omega, show d - 1 - (tot L : Nat) + 1 = d + 1 - 1 - ((tot L : Nat) : Int) by omega]
          rfl
        · rw [if_neg (by omega), if_neg h2]
          rfl
theorem cls_b (way : Nat) (a b : Sm) : (cls way a b).Joa ∧ (cls way a b).wt ≤ 12 ∧ (cls way a b).ht ≤ 3 := by
  have nj : ∀ {p c : Pp}, p.chf = some c → c.wd ≠ .escape → c.wd ≠ .case → p.Jo1 := fun e h1 h2 x a z => by
    rcases z with z | ⟨_, _, z⟩
    · rw [e] at z; cases z; exact absurd rfl h1
    · rw [e] at z; cases z; exact absurd rfl h2
  match way with
  | 0 => exact ⟨⟨nj rfl (fun z => PW.noConfusion z) (fun z => PW.noConfusion z), True.intro, True.intro⟩, by simp [cls, Pp.wt], by simp [cls, Pp.ht]⟩
  | 1 => exact ⟨⟨nj rfl (fun z => PW.noConfusion z) (fun z => PW.noConfusion z), True.intro, True.intro⟩, by simp [cls, Pp.wt], by simp [cls, Pp.ht]⟩
  | 2 => exact ⟨⟨nj rfl (fun z => PW.noConfusion z) (fun z => PW.noConfusion z), True.intro, True.intro⟩, by simp [cls, Pp.wt], by simp [cls, Pp.ht]⟩
  | 3 => exact ⟨⟨nj rfl (fun z => PW.noConfusion z) (fun z => PW.noConfusion z), True.intro, True.intro, True.intro⟩, by simp [cls, Pp.wt], by simp [cls, Pp.ht]⟩
  | n + 4 => exact ⟨⟨nj rfl (fun z => PW.noConfusion z) (fun z => PW.noConfusion z), True.intro, True.intro, True.intro⟩, by simp [cls, Pp.wt], by simp [cls, Pp.ht]⟩
theorem twr_b (way : Nat) (a b : Sm) : ∀ L : Nat, (twr way a b L).Joa ∧ (twr way a b L).wt + 2 ≤ 14 * 2 ^ L ∧ (twr way a b L).ht ≤ L + 3
  | 0 => by
    obtain ⟨h1, h2, h3⟩ := cls_b way a b
    exact ⟨h1, by show (cls way a b).wt + 2 ≤ 14 * 1; omega, by show (cls way a b).ht ≤ 0 + 3; omega⟩
  | L + 1 => by
    obtain ⟨h1, h2, h3⟩ := twr_b way a b L
    have p1 := Nat.one_le_two_pow (n := L)
    refine ⟨⟨fun x a z => ?_, ⟨True.intro, True.intro⟩, h1⟩, ?_, ?_⟩
    · rcases z with z | ⟨_, _, z⟩ <;> cases z
    · rw [Nat.pow_succ]
      show (1 + 1 + 2 + 4) + (twr way a b L).wt + 2 + 2 ≤ _
      omega
    · show max (max 0 0 + 1 + 1) (twr way a b L).ht + 1 ≤ _
      omega
theorem bh_b (way : Nat) (a b : Sm) : ∀ (L : Nat) (d : Int), (bh way a b L d).Joa ∧ (bh way a b L d).wt + 2 ≤ 14 * 2 ^ L ∧ (bh way a b L d).ht ≤ L + 3
  | 0, d => by
    by_cases h0 : d ≤ 0
    · rw [bh_zero h0]
      exact twr_b way a b 0
    · show (if d ≤ 0 then twr way a b 0 else Pp.use 0).Joa ∧ (if d ≤ 0 then twr way a b 0 else Pp.use 0).wt + 2 ≤ _ ∧ (if d ≤ 0 then twr way a b 0 else Pp.use 0).ht ≤ _
      rw [if_neg h0]
      exact ⟨True.intro, by show 1 + 2 ≤ 14 * 1; omega, by show 0 ≤ _; omega⟩
  | L + 1, d => by
    by_cases h0 : d ≤ 0
    · rw [bh_zero h0]
      exact twr_b way a b (L + 1)
    · rw [bh_succ (by omega)]
      obtain ⟨h1, h2, h3⟩ := bh_b way a b L (min (d - 1) (tot L))
      obtain ⟨k1, k2, k3⟩ := bh_b way a b L (d - 1 - tot L)
      refine ⟨⟨h1, k1⟩, ?_, ?_⟩
      · rw [Nat.pow_succ]
        show (bh way a b L (min (d - 1) (tot L))).wt + (bh way a b L (d - 1 - tot L)).wt + 2 + 2 ≤ _
        omega
      · show max _ _ + 1 ≤ _
        omega
theorem dbl_dep {a : Sm} (h : a.data.depth ≤ 1) : ∀ L : Nat, (dbl a L).data.depth ≤ L + 1
  | 0 => h
  | L + 1 => by
    have := dbl_dep h L
    show (PyData.tuple [.str J.and.s, (dbl a L).data, (dbl a L).data]).depth ≤ _
    simp [PyData.depth, PyData.depthAll]
    omega
theorem twr_dep (way : Nat) {a b : Sm} (ha : a.data.depth ≤ 1) (hb : b.data.depth ≤ 1) : ∀ L : Nat, (twr way a b L).data.depth ≤ L + 4
  | 0 => by
    show (cls way a b).data.depth ≤ 0 + 4
    match way with
    | 0 => simp [cls, Pp.data, PyData.depth, PyData.depthAll]; omega
    | 1 => simp [cls, Pp.data, PyData.depth, PyData.depthAll]; omega
    | 2 => simp [cls, Pp.data, PyData.depth, PyData.depthAll]; omega
    | 3 => simp [cls, Pp.data, PyData.depth, PyData.depthAll]; omega
    | n + 4 => simp [cls, Pp.data, PyData.depth, PyData.depthAll]; omega
  | L + 1 => by
    have h1 := twr_dep way ha hb L
    have h2 := dbl_dep ha L
    show (Pp.apply (.make (dbl a L) (.pair (.use 1) (.use 1))) (twr way a b L)).data.depth ≤ _
    simp [Pp.data, PyData.depth, PyData.depthAll]
    omega
theorem bh_dep (way : Nat) {a b : Sm} (ha : a.data.depth ≤ 1) (hb : b.data.depth ≤ 1) : ∀ (L : Nat) (d : Int), (bh way a b L d).data.depth ≤ L + 4
  | 0, d => by
    by_cases h0 : d ≤ 0
    · rw [bh_zero h0]
      exact twr_dep way ha hb 0
    · show (if d ≤ 0 then twr way a b 0 else Pp.use 0).data.depth ≤ _
      rw [if_neg h0]
      simp [Pp.data, PyData.depth, PyData.depthAll]
  | L + 1, d => by
    by_cases h0 : d ≤ 0
    · rw [bh_zero h0]
      exact twr_dep way ha hb (L + 1)
    · rw [bh_succ (by omega)]
      have h1 := bh_dep way ha hb L (min (d - 1) (tot L))
      have h2 := bh_dep way ha hb L (d - 1 - tot L)
      simp only [Pp.data, PyData.depth, PyData.depthAll]
      omega
end Ob

/-! ObBb: runs of towers that grow (k38). -/
namespace Ob
open PySem PySem.Spec PyProof.Rows L2
theorem step_app {n : Int} {p q : Pp} (h : (Pp.apply p q).stepped n = none) : (Pp.apply p q).step n = ((p.step n).map fun x => .apply x q).or ((q.step n).map fun x => .apply p x) := by
  show ((n, Pp.apply p q, [], []) :: (p.pre2 n ([] ++ [1]) ([] ++ [Pp.apply p q]) ++ q.pre2 n ([] ++ [2]) ([] ++ [Pp.apply p q]))).findSome? stepAt = _
  rw [find_cons, find_app]
  have e : stepAt (n, Pp.apply p q, [], []) = none := by show ((Pp.apply p q).stepped n).map _ = none; rw [h]; rfl
  rw [e]
  show Option.or none (((p.pre2 n [1] [Pp.apply p q]).findSome? stepAt).or ((q.pre2 n [2] [Pp.apply p q]).findSome? stepAt)) = _
  rw [pre2_one, pre2_one]
  rfl
/-- behind so many uses of 0 -/
def thr (p : Pp) : Nat → Pp
  | 0 => p
  | m + 1 => .apply (.use 0) (thr p m)
theorem thr_add (p : Pp) (m : Nat) : ∀ l : Nat, thr (thr p m) l = thr p (m + l)
  | 0 => rfl
  | l + 1 => by
    show Pp.apply (.use 0) (thr (thr p m) l) = Pp.apply (.use 0) (thr p (m + l))
    rw [thr_add p m l]
theorem thr_step (n : Int) (p : Pp) : ∀ m : Nat, (thr p m).step n = (p.step n).map fun x => thr x m
  | 0 => by cases h : p.step n <;> (show p.step n = _; rw [h]; rfl)
  | m + 1 => by
    show (Pp.apply (.use 0) (thr p m)).step n = _
    rw [step_app rfl, step_use, thr_step n p m]
    cases p.step n <;> rfl
/-- the ways, one behind the other -/
def wy (a : Sm) (k : Nat) : Pp := .make a (thr (.use 2) k)
def tow (w p : Pp) : Nat → Pp
  | 0 => p
  | m + 1 => .apply w (tow w p m)
/-- what comes behind i + 1 steps -/
def pap (a : Sm) (k j e i : Nat) : Pp := thr (tow (wy a k) (thr (.use 1) e) (j - i)) (i * k)
def fst0 (a : Sm) (k j e : Nat) : Pp := .apply (.make (.bin .thn a a) (tow (.use 2) (thr (.use 1) e) j)) (wy a k)
theorem rem_thr (o p : Pp) : ∀ k : Nat, (thr p k).rem (putG 2 o) 0 = thr (p.rem (putG 2 o) 0) k
  | 0 => rfl
  | k + 1 => by
    show Pp.apply (.use 0) ((thr p k).rem (putG 2 o) 0) = _
    rw [rem_thr o p k]
    rfl
theorem rem_tow (o p : Pp) : ∀ j : Nat, (tow (.use 2) p j).rem (putG 2 o) 0 = tow o (p.rem (putG 2 o) 0) j
  | 0 => rfl
  | j + 1 => by
    show Pp.apply ((Pp.use 2).rem (putG 2 o) 0) ((tow (.use 2) p j).rem (putG 2 o) 0) = _
    rw [rem_tow o p j, put_at 2 o 0]
    show Pp.apply (o.mv 2 0) _ = _
    rw [mv_zero]
    rfl
theorem fst_step (a : Sm) (k j e : Nat) : (fst0 a k j e).step 2 = some (pap a k j e 0) := by
  refine step_self ?_
  show some ((tow (.use 2) (thr (.use 1) e) j).rem (putG 2 (wy a k)) 0) = some (thr (tow (wy a k) (thr (.use 1) e) (j - 0)) (0 * k))
  rw [rem_tow, rem_thr, Nat.zero_mul, Nat.sub_zero]
  rfl
theorem pap_step (a : Sm) (k j e : Nat) {i : Nat} (hi : i ≤ j) : (pap a k j e i).step 2 = if i < j then some (pap a k j e (i + 1)) else none := by
  unfold pap
  rw [thr_step]
  by_cases h : i < j
  · obtain ⟨m, em⟩ : ∃ m, j - i = m + 1 := ⟨j - i - 1, by omega⟩
    have e2 : j - (i + 1) = m := by omega
    rw [if_pos h, em, e2]
    have es : (tow (wy a k) (thr (.use 1) e) (m + 1)).step 2 = some (thr (tow (wy a k) (thr (.use 1) e) m) k) := by
      refine step_self ?_
      show some ((thr (.use 2) k).rem (putG 2 (tow (wy a k) (thr (.use 1) e) m)) 0) = _
      rw [rem_thr, put_at 2 _ 0]
      show some (thr ((tow (wy a k) (thr (.use 1) e) m).mv 2 0) k) = _
      rw [mv_zero]
    rw [es]
    show some (thr (thr _ k) (i * k)) = _
    rw [thr_add, Nat.succ_mul, Nat.add_comm]
  · rw [if_neg h, show j - i = 0 by omega]
    show ((thr (.use 1) e).step 2).map _ = none
    rw [thr_step]
    rfl
end Ob

/-! ObBc: runs of towers, their sizes and depths, and how many steps are done (k38). -/
namespace Ob
open PySem PySem.Spec PyProof.Rows L2
theorem thr_len (p : Pp) (l : Nat) : ∀ m : Nat, ((thr p m).lvl l).length = 2 * m + (p.lvl l).length
  | 0 => by show (p.lvl l).length = _; omega
  | m + 1 => by
    have h := thr_len p l m
    show ((Pp.apply (.use 0) (thr p m), l) :: ([(Pp.use 0, l)] ++ (thr p m).lvl l)).length = _
    rw [List.length_cons, List.length_append, h, List.length_singleton]
    omega
theorem tow_len (x p : Pp) (l : Nat) : ∀ m : Nat, ((tow x p m).lvl l).length = m * ((x.lvl l).length + 1) + (p.lvl l).length
  | 0 => by show (p.lvl l).length = _; omega
  | m + 1 => by
    have h := tow_len x p l m
    show ((Pp.apply x (tow x p m), l) :: (x.lvl l ++ (tow x p m).lvl l)).length = _
    rw [List.length_cons, List.length_append, h, Nat.succ_mul]
    omega
theorem wy_len (a : Sm) (k l : Nat) : ((wy a k).lvl l).length = 2 * k + 2 := by
  have h := thr_len (.use 2) (l + 1) k
  show ((wy a k, l) :: (thr (.use 2) k).lvl (l + 1)).length = _
  rw [List.length_cons, h]
  rfl
theorem pap_len (a : Sm) (k j e i l : Nat) : ((pap a k j e i).lvl l).length = 2 * (i * k) + (j - i) * (2 * k + 3) + 2 * e + 1 := by
  unfold pap
  rw [thr_len, tow_len, thr_len, wy_len]
  show 2 * (i * k) + ((j - i) * (2 * k + 3) + (2 * e + 1)) = _
  omega
theorem thr_ht (p : Pp) : ∀ m : Nat, (thr p m).ht = m + p.ht
  | 0 => (Nat.zero_add _).symm
  | m + 1 => by
    have h := thr_ht p m
    show max 0 (thr p m).ht + 1 = _
    omega
theorem tow_ht (x p : Pp) : ∀ m : Nat, (tow x p (m + 1)).ht = m + 1 + max x.ht p.ht
  | 0 => by show max x.ht p.ht + 1 = _; omega
  | m + 1 => by
    have h := tow_ht x p m
    show max x.ht (tow x p (m + 1)).ht + 1 = _
    omega
theorem wy_ht (a : Sm) (k : Nat) : (wy a k).ht = k + 1 := by
  show (thr (.use 2) k).ht + 1 = _
  rw [thr_ht]
  rfl
theorem pap_ht (a : Sm) (k j e i : Nat) : (pap a k j e i).ht + 1 = if i < j then i * k + (j - i) + max (k + 2) (e + 1) else i * k + e + 1 := by
  unfold pap
  rw [thr_ht]
  have h1 : (thr (.use 1) e).ht = e := thr_ht (.use 1) e
  by_cases h : i < j
  · obtain ⟨m, em⟩ : ∃ m, j - i = m + 1 := ⟨j - i - 1, by omega⟩
    rw [if_pos h, em, tow_ht, wy_ht, h1]
    omega
  · rw [if_neg h, show j - i = 0 by omega]
    show i * k + (thr (.use 1) e).ht + 1 = _
    rw [h1]
theorem thr_wt (p : Pp) : ∀ m : Nat, (thr p m).wt = 3 * m + p.wt
  | 0 => (Nat.zero_add _).symm
  | m + 1 => by
    have h := thr_wt p m
    show 1 + (thr p m).wt + 2 = _
    omega
theorem tow_wt (x p : Pp) : ∀ m : Nat, (tow x p m).wt = m * (x.wt + 2) + p.wt
  | 0 => by show p.wt = _; omega
  | m + 1 => by
    have h := tow_wt x p m
    show x.wt + (tow x p m).wt + 2 = _
    rw [h, Nat.succ_mul]
    omega
theorem wy_wt (a : Sm) (k : Nat) : (wy a k).wt = 3 * k + 5 := by
  show (thr (.use 2) k).wt + 4 = _
  rw [thr_wt]
  rfl
theorem thr_ad (p : Pp) : ∀ m : Nat, (thr p m).ad = p.ad
  | 0 => rfl
  | m + 1 => by
    have h := thr_ad p m
    show max 0 (thr p m).ad = _
    omega
theorem tow_ad (x p : Pp) : ∀ m : Nat, (tow x p m).ad ≤ max x.ad p.ad
  | 0 => by show p.ad ≤ _; omega
  | m + 1 => by
    have h := tow_ad x p m
    show max x.ad (tow x p m).ad ≤ _
    omega
theorem wy_ad (a : Sm) (k : Nat) : (wy a k).ad = 1 := by
  show (thr (.use 2) k).ad + 1 = _
  rw [thr_ad]
  rfl
theorem jo_app {p q c : Pp} (hc : (Pp.apply p q).chf = some c) (h1 : c.wd ≠ .escape) (h2 : c.wd ≠ .case) : (Pp.apply p q).Jo1 := fun x a z => by
  rcases z with z | ⟨_, _, z⟩
  · rw [hc] at z; cases z; exact absurd rfl h1
  · rw [hc] at z; cases z; exact absurd rfl h2
theorem thr_joa {p : Pp} (h : p.Joa) : ∀ m : Nat, (thr p m).Joa
  | 0 => h
  | m + 1 => ⟨jo_app rfl (fun z => PW.noConfusion z) (fun z => PW.noConfusion z), True.intro, thr_joa h m⟩
theorem tow_joa {x p : Pp} (hx : x.Joa) (h : p.Joa) (h1 : x.wd ≠ .escape) (h2 : x.wd ≠ .case) : ∀ m : Nat, (tow x p m).Joa
  | 0 => h
  | m + 1 => ⟨jo_app rfl h1 h2, hx, tow_joa hx h h1 h2 m⟩
theorem wy_joa (a : Sm) (k : Nat) : (wy a k).Joa := thr_joa (p := .use 2) True.intro k
/-- the papers of the run, one behind the other -/
def rowp (a : Sm) (k j e : Nat) : Nat → Pp
  | 0 => fst0 a k j e
  | d + 1 => pap a k j e d
theorem rowp_step (a : Sm) (k j e : Nat) {d : Nat} (h : d ≤ j + 1) : (rowp a k j e d).step 2 = if d < j + 1 then some (rowp a k j e (d + 1)) else none := by
  cases d with
  | zero => rw [if_pos (by omega)]; exact fst_step a k j e
  | succ d =>
    show (pap a k j e d).step 2 = _
    rw [pap_step a k j e (by omega)]
    by_cases h : d < j
    · rw [if_pos h, if_pos (by omega)]; rfl
    · rw [if_neg h, if_neg (by omega)]
theorem rowp_b (a : Sm) {k j e : Nat} (hk : k ≤ 60) (hj : j ≤ 12) (he : e ≤ 40) : ∀ {d : Nat}, d ≤ j + 1 → (rowp a k j e d).Joa ∧ (rowp a k j e d).wt ≤ 10000 ∧ (rowp a k j e d).ad ≤ 61
  | 0, _ => by
    have w1 := tow_wt (.use 2) (thr (.use 1) e) j
    rw [thr_wt] at w1
    have w1 : (tow (.use 2) (thr (.use 1) e) j).wt = j * 3 + (3 * e + 1) := w1
    have w2 := wy_wt a k
    have a1 := tow_ad (.use 2) (thr (.use 1) e) j
    rw [thr_ad] at a1
    have a1 : (tow (.use 2) (thr (.use 1) e) j).ad ≤ 0 := a1
    have a2 := wy_ad a k
    refine ⟨⟨jo_app rfl (fun z => PW.noConfusion z) (fun z => PW.noConfusion z), tow_joa (x := .use 2) True.intro (thr_joa (p := .use 1) True.intro e) (fun z => PW.noConfusion z) (fun z => PW.noConfusion z) j, wy_joa a k⟩, ?_, ?_⟩
    · show (tow (.use 2) (thr (.use 1) e) j).wt + 4 + (wy a k).wt + 2 ≤ _
      omega
    · show max ((tow (.use 2) (thr (.use 1) e) j).ad + 1) (wy a k).ad ≤ _
      omega
  | i + 1, h => by
    have w1 := tow_wt (wy a k) (thr (.use 1) e) (j - i)
    rw [thr_wt, wy_wt] at w1
    have w1 : (tow (wy a k) (thr (.use 1) e) (j - i)).wt = (j - i) * (3 * k + 7) + (3 * e + 1) := w1
    have w2 := thr_wt (tow (wy a k) (thr (.use 1) e) (j - i)) (i * k)
    have m1 : i * k ≤ 12 * 60 := Nat.mul_le_mul (by omega) hk
    have m2 : (j - i) * (3 * k + 7) ≤ 12 * (3 * 60 + 7) := Nat.mul_le_mul (by omega) (by omega)
    have a1 := tow_ad (wy a k) (thr (.use 1) e) (j - i)
    rw [thr_ad, wy_ad] at a1
    have a1 : (tow (wy a k) (thr (.use 1) e) (j - i)).ad ≤ max 1 0 := a1
    have a2 := thr_ad (tow (wy a k) (thr (.use 1) e) (j - i)) (i * k)
    refine ⟨thr_joa (tow_joa (wy_joa a k) (thr_joa (p := .use 1) True.intro e) (fun z => PW.noConfusion z) (fun z => PW.noConfusion z) _) _, ?_, ?_⟩
    · show (thr (tow (wy a k) (thr (.use 1) e) (j - i)) (i * k)).wt ≤ _
      omega
    · show (thr (tow (wy a k) (thr (.use 1) e) (j - i)) (i * k)).ad ≤ _
      omega
/-- how many of those to come are good -/
def ldn (ok : Nat → Bool) : Nat → Nat → Nat
  | 0, d => d
  | f + 1, d => if ok d = true then ldn ok f (d + 1) else d
theorem ldn_le (ok : Nat → Bool) : ∀ f d : Nat, d ≤ ldn ok f d ∧ ldn ok f d ≤ d + f
  | 0, d => ⟨Nat.le_refl _, Nat.le_refl _⟩
  | f + 1, d => by
    unfold ldn
    have h := ldn_le ok f (d + 1)
    split <;> omega
/-! as data -/
theorem sm_dep : ∀ s : Sm, s.data.depth ≤ s.dp + 1
  | .lt n => by show (PyData.tuple [.str "letter", .str (SX.S n)]).depth ≤ _; simp [PyData.depth, PyData.depthAll]
  | .nv => by show (PyData.tuple [.str "never"]).depth ≤ _; simp [PyData.depth, PyData.depthAll]
  | .bin w a b => by
    have h1 := sm_dep a
    have h2 := sm_dep b
    show (PyData.tuple [.str w.s, a.data, b.data]).depth ≤ max a.dp b.dp + 1 + 1
    simp [PyData.depth, PyData.depthAll]
    omega
theorem thr_dep (p : Pp) : ∀ m : Nat, (thr p m).data.depth ≤ m + max 1 p.data.depth
  | 0 => by show p.data.depth ≤ _; omega
  | m + 1 => by
    have h := thr_dep p m
    show (Pp.apply (.use 0) (thr p m)).data.depth ≤ _
    simp [Pp.data, PyData.depth, PyData.depthAll]
    omega
theorem tow_dep (x p : Pp) : ∀ m : Nat, (tow x p m).data.depth ≤ m + max (if m = 0 then 0 else x.data.depth) p.data.depth
  | 0 => by show p.data.depth ≤ _; omega
  | m + 1 => by
    have h := tow_dep x p m
    show (Pp.apply x (tow x p m)).data.depth ≤ _
    rw [if_neg (Nat.succ_ne_zero m)]
    simp only [Pp.data, PyData.depth, PyData.depthAll]
    split at h <;> omega
theorem use_dep (i : Int) : (Pp.use i).data.depth ≤ 1 := by simp [Pp.data, PyData.depth, PyData.depthAll]
theorem wy_dep {a : Sm} (ha : a.dp ≤ 1) (k : Nat) : (wy a k).data.depth ≤ k + 3 := by
  have h := thr_dep (.use 2) k
  have h1 := use_dep 2
  have h2 := sm_dep a
  show (Pp.make a (thr (.use 2) k)).data.depth ≤ _
  simp only [Pp.data, PyData.depth, PyData.depthAll]
  omega
/-- hardly deeper than it is reckoned -/
theorem pap_dep {a : Sm} (ha : a.dp ≤ 1) (k j e i : Nat) : (pap a k j e i).data.depth ≤ (pap a k j e i).ht + 3 := by
  have h1 := pap_ht a k j e i
  have h2 := thr_dep (tow (wy a k) (thr (.use 1) e) (j - i)) (i * k)
  have h3 := tow_dep (wy a k) (thr (.use 1) e) (j - i)
  have h4 := thr_dep (.use 1) e
  have h5 := use_dep 1
  have h6 := wy_dep ha k
  show (thr (tow (wy a k) (thr (.use 1) e) (j - i)) (i * k)).data.depth ≤ _
  split at h1
  · rw [if_neg (by omega)] at h3
    omega
  · rw [if_pos (by omega)] at h3
    omega
theorem fst_dep {a : Sm} (ha : a.dp ≤ 1) (k j e : Nat) : (fst0 a k j e).data.depth ≤ j + e + k + 8 := by
  have h3 := tow_dep (.use 2) (thr (.use 1) e) j
  have h4 := thr_dep (.use 1) e
  have h5 := use_dep 1
  have h7 := use_dep 2
  have h6 := wy_dep ha k
  have h8 := sm_dep (.bin .thn a a)
  have h9 : (Sm.bin .thn a a).dp = max a.dp a.dp + 1 := rfl
  show (Pp.apply (.make (.bin .thn a a) (tow (.use 2) (thr (.use 1) e) j)) (wy a k)).data.depth ≤ _
  simp only [Pp.data, PyData.depth, PyData.depthAll]
  split at h3 <;> omega
end Ob

/-! ObBd: papers whose statements are small, and what they are when turned. -/
namespace Ob
open PySem PySem.Spec PyProof.Rows L2
def Sm.Bd (M : Nat) (s : Sm) : Prop := s.dp ≤ M ∧ s.In Ch
/-- the statements that a paper bears, and its names -/
def Pp.Bd (M : Nat) : Pp → Prop
  | .use _ => True
  | .name n => Ch n
  | .pair p q => p.Bd M ∧ q.Bd M
  | .first p => p.Bd M
  | .second p => p.Bd M
  | .left p b => p.Bd M ∧ b.Bd M
  | .right b p => p.Bd M ∧ b.Bd M
  | .case p q r c => p.Bd M ∧ q.Bd M ∧ r.Bd M ∧ c.Bd M
  | .make b p => p.Bd M ∧ b.Bd M
  | .apply p q => p.Bd M ∧ q.Bd M
  | .escape p b => p.Bd M ∧ b.Bd M
abbrev Sm.Bm (s : Sm) : Prop := s.Bd 10
abbrev Pp.Bm (p : Pp) : Prop := p.Bd 10
theorem mv_bm (a b : Int) : ∀ p : Pp, p.Bm → (p.mv a b).Bm
  | .use _, _ => True.intro
  | .name _, h => h
  | .pair p q, h => ⟨mv_bm a b p h.1, mv_bm a b q h.2⟩
  | .first p, h => mv_bm a b p h
  | .second p, h => mv_bm a b p h
  | .left p _, h => ⟨mv_bm a b p h.1, h.2⟩
  | .right _ p, h => ⟨mv_bm a b p h.1, h.2⟩
  | .case p q r _, h => ⟨mv_bm a b p h.1, mv_bm a b q h.2.1, mv_bm a b r h.2.2.1, h.2.2.2⟩
  | .make _ p, h => ⟨mv_bm a b p h.1, h.2⟩
  | .apply p q, h => ⟨mv_bm a b p h.1, mv_bm a b q h.2⟩
  | .escape p _, h => ⟨mv_bm a b p h.1, h.2⟩
theorem Sm.sizeBd : ∀ s : Sm, s.size + 1 ≤ 2 ^ (s.dp + 1)
  | .lt _ => by show 1 + 1 ≤ 2 ^ (0 + 1); decide
  | .nv => by show 1 + 1 ≤ 2 ^ (0 + 1); decide
  | .bin w a b => by
    have h1 := Sm.sizeBd a
    have h2 := Sm.sizeBd b
    have e1 : 2 ^ (a.dp + 1) ≤ 2 ^ (max a.dp b.dp + 1) := Nat.pow_le_pow_right (by decide) (by omega)
    have e2 : 2 ^ (b.dp + 1) ≤ 2 ^ (max a.dp b.dp + 1) := Nat.pow_le_pow_right (by decide) (by omega)
    have e3 : 2 ^ (max a.dp b.dp + 1 + 1) = 2 ^ (max a.dp b.dp + 1) * 2 := Nat.pow_succ ..
    show a.size + b.size + 1 + 1 ≤ 2 ^ (max a.dp b.dp + 1 + 1)
    omega
theorem Sm.size_bm {s : Sm} (h : s.dp ≤ 10) : s.size ≤ 10000 := by
  have h1 := s.sizeBd
  have h2 : 2 ^ (s.dp + 1) ≤ 2 ^ 11 := Nat.pow_le_pow_right (by decide) (by omega)
  have h3 : (2 : Nat) ^ 11 = 2048 := by decide
  omega
theorem Sm.turn_dp {B : List Nat → Option Sm} {m : Nat} (hB : ∀ n s, B n = some s → s.dp ≤ m) : ∀ s : Sm, (s.turn B).dp ≤ s.dp + m
  | .lt l => by
    show ((B l).getD (.lt l)).dp ≤ 0 + m
    cases e : B l with
    | none => exact Nat.zero_le _
    | some t => have := hB l t e; show t.dp ≤ _; omega
  | .nv => Nat.zero_le _
  | .bin w a b => by
    have h1 := Sm.turn_dp hB a
    have h2 := Sm.turn_dp hB b
    show max (a.turn B).dp (b.turn B).dp + 1 ≤ max a.dp b.dp + 1 + m
    omega
theorem Sm.turn_ch {B : List Nat → Option Sm} (hB : ∀ n s, B n = some s → s.In Ch) : ∀ s : Sm, s.In Ch → (s.turn B).In Ch
  | .lt l, h => by
    show ((B l).getD (.lt l)).In Ch
    cases e : B l with
    | none => exact h
    | some t => exact hB l t e
  | .nv, _ => True.intro
  | .bin w a b, h => ⟨Sm.turn_ch hB a h.1, Sm.turn_ch hB b h.2⟩
theorem Sm.Bd.turn {B : List Nat → Option Sm} {M m : Nat} (hB : ∀ n s, B n = some s → s.dp ≤ m ∧ s.In Ch) {s : Sm} (h : s.Bd M) : (s.turn B).Bd (M + m) :=
  ⟨Nat.le_trans (Sm.turn_dp (fun n s e => (hB n s e).1) s) (by have := h.1; omega), Sm.turn_ch (fun n s e => (hB n s e).2) s h.2⟩
theorem Pp.Bd.tn {B : List Nat → Option Sm} {M m : Nat} (hB : ∀ n s, B n = some s → s.dp ≤ m ∧ s.In Ch) : ∀ p : Pp, p.Bd M → (p.tn B).Bd (M + m)
  | .use _, _ => True.intro
  | .name _, h => h
  | .pair p q, h => ⟨Pp.Bd.tn hB p h.1, Pp.Bd.tn hB q h.2⟩
  | .first p, h => Pp.Bd.tn hB p h
  | .second p, h => Pp.Bd.tn hB p h
  | .left p _, h => ⟨Pp.Bd.tn hB p h.1, h.2.turn hB⟩
  | .right _ p, h => ⟨Pp.Bd.tn hB p h.1, h.2.turn hB⟩
  | .case p q r _, h => ⟨Pp.Bd.tn hB p h.1, Pp.Bd.tn hB q h.2.1, Pp.Bd.tn hB r h.2.2.1, h.2.2.2.turn hB⟩
  | .make _ p, h => ⟨Pp.Bd.tn hB p h.1, h.2.turn hB⟩
  | .apply p q, h => ⟨Pp.Bd.tn hB p h.1, Pp.Bd.tn hB q h.2⟩
  | .escape p _, h => ⟨Pp.Bd.tn hB p h.1, h.2.turn hB⟩
theorem Sm.Bd.bn {M : Nat} (hM : M ≤ 60) {s : Sm} (h : s.Bd M) : s.Bn := ⟨by have := h.1; omega, h.2⟩
theorem Pp.Bd.bn {M : Nat} (hM : M ≤ 60) : ∀ p : Pp, p.Bd M → p.Bn
  | .use _, _ => True.intro
  | .name _, _ => True.intro
  | .pair p q, h => ⟨Pp.Bd.bn hM p h.1, Pp.Bd.bn hM q h.2⟩
  | .first p, h => Pp.Bd.bn hM p h
  | .second p, h => Pp.Bd.bn hM p h
  | .left p _, h => ⟨Pp.Bd.bn hM p h.1, h.2.bn hM⟩
  | .right _ p, h => ⟨Pp.Bd.bn hM p h.1, h.2.bn hM⟩
  | .case p q r _, h => ⟨Pp.Bd.bn hM p h.1, Pp.Bd.bn hM q h.2.1, Pp.Bd.bn hM r h.2.2.1, h.2.2.2.bn hM⟩
  | .make _ p, h => ⟨Pp.Bd.bn hM p h.1, h.2.bn hM⟩
  | .apply p q, h => ⟨Pp.Bd.bn hM p h.1, Pp.Bd.bn hM q h.2⟩
  | .escape p _, h => ⟨Pp.Bd.bn hM p h.1, h.2.bn hM⟩
theorem tn_ht (B : List Nat → Option Sm) : ∀ p : Pp, (p.tn B).ht = p.ht
  | .use _ => rfl
  | .name _ => rfl
  | .pair p q => by show max (p.tn B).ht (q.tn B).ht + 1 = _; rw [tn_ht B p, tn_ht B q]; rfl
  | .first p => by show (p.tn B).ht + 1 = _; rw [tn_ht B p]; rfl
  | .second p => by show (p.tn B).ht + 1 = _; rw [tn_ht B p]; rfl
  | .left p _ => by show (p.tn B).ht + 1 = _; rw [tn_ht B p]; rfl
  | .right _ p => by show (p.tn B).ht + 1 = _; rw [tn_ht B p]; rfl
  | .case p q r _ => by show max (p.tn B).ht (max (q.tn B).ht (r.tn B).ht) + 1 = _; rw [tn_ht B p, tn_ht B q, tn_ht B r]; rfl
  | .make _ p => by show (p.tn B).ht + 1 = _; rw [tn_ht B p]; rfl
  | .apply p q => by show max (p.tn B).ht (q.tn B).ht + 1 = _; rw [tn_ht B p, tn_ht B q]; rfl
  | .escape p _ => by show (p.tn B).ht + 1 = _; rw [tn_ht B p]; rfl
/-! ### a paper's own statement -/
def stP : PW → Option Nat
  | .left => some 2
  | .right => some 1
  | .case => some 4
  | .make => some 1
  | .escape => some 2
  | _ => none
def Pp.own : Pp → Sm
  | .left _ b => b
  | .right b _ => b
  | .case _ _ _ c => c
  | .make b _ => b
  | .escape _ c => c
  | _ => .nv
def Pp.setS (s : Sm) : Pp → Pp
  | .left p _ => .left p s
  | .right _ p => .right s p
  | .case p q r _ => .case p q r s
  | .make _ p => .make s p
  | .escape p _ => .escape p s
  | p => p
theorem tnG_set (B : List Nat → Option Sm) (p : Pp) (m : Nat) : tnG B p m = p.setS (p.own.turn B) := by cases p <;> rfl
theorem Pp.Bd.own {M : Nat} {p : Pp} (h : p.Bd M) : p.own.Bd M := by
  cases p with
  | use _ => exact ⟨Nat.zero_le _, True.intro⟩
  | name _ => exact ⟨Nat.zero_le _, True.intro⟩
  | pair p q => exact ⟨Nat.zero_le _, True.intro⟩
  | first p => exact ⟨Nat.zero_le _, True.intro⟩
  | second p => exact ⟨Nat.zero_le _, True.intro⟩
  | left p b => exact h.2
  | right b p => exact h.2
  | case p q r c => exact h.2.2.2
  | make b p => exact h.2
  | apply p q => exact ⟨Nat.zero_le _, True.intro⟩
  | escape p c => exact h.2
theorem Pp.own_re {p : Pp} {ks : List Pp} : (p.re ks).own = p.own := by
  cases p <;> rcases ks with _ | ⟨a, _ | ⟨b, _ | ⟨c, _ | _⟩⟩⟩ <;> rfl
theorem Pp.setS_none {p : Pp} (s : Sm) (h : stP p.wd = none) : p.setS s = p := by cases p <;> first | rfl | cases h
theorem IsPp.stm {K : PySem.W.Frag} {H : Hp} {v : V} {p : Pp} (h : IsPp K H v p) : ∃ a its, v = .ref a ∧ SqT K H a its ∧ its[0]? = some (.str p.wd.s) ∧ its.length ≤ 5 ∧ ∀ n, stP p.wd = some n → 1 ≤ n ∧ n < its.length ∧ ∃ x, its[n]? = some x ∧ IsSm K H x p.own ∧ ∀ (H' : Hp) (t : Addr) (x' : V) (s' : Sm), TK K H H' → IsSm K H' x' s' → SqT K H' t (its.set n x') → IsPp K H' (.ref t) (p.setS s') := by
  cases h with
  | use h => exact ⟨_, _, rfl, h, rfl, (by show 2 ≤ 5; decide), fun n e => nomatch e⟩
  | name h => exact ⟨_, _, rfl, h, rfl, (by show 2 ≤ 5; decide), fun n e => nomatch e⟩
  | pair h p q => exact ⟨_, _, rfl, h, rfl, (by show 3 ≤ 5; decide), fun n e => nomatch e⟩
  | first h p => exact ⟨_, _, rfl, h, rfl, (by show 2 ≤ 5; decide), fun n e => nomatch e⟩
  | second h p => exact ⟨_, _, rfl, h, rfl, (by show 2 ≤ 5; decide), fun n e => nomatch e⟩
  | apply h p q => exact ⟨_, _, rfl, h, rfl, (by show 3 ≤ 5; decide), fun n e => nomatch e⟩
  | left h p b => exact ⟨_, _, rfl, h, rfl, (by show 3 ≤ 5; decide), fun n e => by
      cases e
      exact ⟨by decide, by show 2 < 3; decide, _, rfl, b, fun H' t x' s' k i ht => .left ht (p.tk k) i⟩⟩
  | right h p b => exact ⟨_, _, rfl, h, rfl, (by show 3 ≤ 5; decide), fun n e => by
      cases e
      exact ⟨by decide, by show 1 < 3; decide, _, rfl, b, fun H' t x' s' k i ht => .right ht (p.tk k) i⟩⟩
  | case h p q r c => exact ⟨_, _, rfl, h, rfl, (by show 5 ≤ 5; decide), fun n e => by
      cases e
      exact ⟨by decide, by show 4 < 5; decide, _, rfl, c, fun H' t x' s' k i ht => .case ht (p.tk k) (q.tk k) (r.tk k) i⟩⟩
  | make h p b => exact ⟨_, _, rfl, h, rfl, (by show 3 ≤ 5; decide), fun n e => by
      cases e
      exact ⟨by decide, by show 1 < 3; decide, _, rfl, b, fun H' t x' s' k i ht => .make ht (p.tk k) i⟩⟩
  | escape h p c => exact ⟨_, _, rfl, h, rfl, (by show 3 ≤ 5; decide), fun n e => by
      cases e
      exact ⟨by decide, by show 2 < 3; decide, _, rfl, c, fun H' t x' s' k i ht => .escape ht (p.tk k) i⟩⟩
theorem kid_bm {p : Pp} (hb : p.Bm) {k : Int × Pp} (h : k ∈ p.kids) : k.2.Bm := by
  cases p <;> simp only [Pp.kids, List.mem_cons, List.not_mem_nil, or_false] at h
  case pair p q => rcases h with rfl | rfl; exact hb.1; exact hb.2
  case first p => subst h; exact hb
  case second p => subst h; exact hb
  case left p b => subst h; exact hb.1
  case right b p => subst h; exact hb.1
  case case p q r c => rcases h with rfl | rfl | rfl; exact hb.1; exact hb.2.1; exact hb.2.2.1
  case make b p => subst h; exact hb.1
  case apply p q => rcases h with rfl | rfl; exact hb.1; exact hb.2
  case escape p b => subst h; exact hb.1
theorem pre_bm : ∀ (n : Nat) (p : Pp), p.ht < n → p.Bm → ∀ q ∈ pre p, q.Bm
  | 0, _, h, _, _, _ => by omega
  | n + 1, p, hn, h, q, hq => by
    rw [pre_kids] at hq
    rcases List.mem_cons.mp hq with rfl | hq
    · exact h
    obtain ⟨x, hx, hq⟩ := List.mem_flatMap.mp hq
    obtain ⟨k, hk, rfl⟩ := List.mem_map.mp hx
    have := kid_ht hk
    exact pre_bm n k.2 (by omega) (kid_bm h hk) q hq
theorem lvl_bm : ∀ (p : Pp) (m : Nat) (u : Pp × Nat), p.Bm → u ∈ p.lvl m → u.1.Bm := by
  intro p m u hb hu
  have h1 : u.1 ∈ pre p := by
    rw [← lvl_fst p m]
    exact List.mem_map_of_mem hu
  exact pre_bm (p.ht + 1) p (Nat.lt_succ_self _) hb u.1 h1
/-- the module's own table of where a paper's statement stands -/
def StK (K : PySem.W.Frag) (w : World) (a : Addr) : Prop := KIsD K w a ∧ ∀ wd : PW, KGet K w a wd.s ((stP wd).map fun n => V.int (n : Nat))
/-- what is known of the row behind a paper's own statement changed -/
def OwnS (K : PySem.W.Frag) (H' : Hp) (p : Pp) (its its2 : List V) (s' : Sm) : Prop := (stP p.wd = none ∧ its2 = its) ∨ ∃ n x', stP p.wd = some n ∧ its2 = its.set n x' ∧ IsSm K H' x' s'
theorem IsPp.tnb {K : PySem.W.Frag} {H : Hp} {v : V} {p : Pp} (h : IsPp K H v p) : ∃ a its, v = .ref a ∧ SqT K H a its ∧ its[0]? = some (.str p.wd.s) ∧ its.length ≤ 5 ∧ (∀ i ∈ p.wd.pl, 0 ≤ i ∧ i.toNat < its.length) ∧
    (∀ n, stP p.wd = some n → 1 ≤ n ∧ n < its.length ∧ ∃ x, its[n]? = some x ∧ IsSm K H x p.own) ∧ (∀ k ∈ p.kids, ∃ x, atI its k.1 = some x ∧ IsPp K H x k.2) ∧
    ∀ (H' : Hp) (a' : Addr) (its2 : List V) (s' : Sm) (ys : List V) (ks : List Pp), TK K H H' → OwnS K H' p its its2 s' → Paired (IsPp K H') ys ks → ks.length = p.kids.length → SqT K H' a' (setL its2 (p.wd.pl.zip ys)) → IsPp K H' (.ref a') ((p.setS s').re ks) := by
  cases h with
  | use h  => exact ⟨_, _, rfl, h, rfl, (by show 2 ≤ 5; decide), (by simp [Pp.wd, PW.pl]), (fun n e => nomatch e), (fun k hk => absurd hk List.not_mem_nil), fun H' a' its2 s' ys ks tk ho py e t => by
      rcases ho with ⟨_, rfl⟩ | ⟨n, x', z, _⟩
      case inr => cases z
      cases py with
      | nil => exact .use t
      | cons _ _ => cases e⟩
  | name h  => exact ⟨_, _, rfl, h, rfl, (by show 2 ≤ 5; decide), (by simp [Pp.wd, PW.pl]), (fun n e => nomatch e), (fun k hk => absurd hk List.not_mem_nil), fun H' a' its2 s' ys ks tk ho py e t => by
      rcases ho with ⟨_, rfl⟩ | ⟨n, x', z, _⟩
      case inr => cases z
      cases py with
      | nil => exact .name t
      | cons _ _ => cases e⟩
  | pair h p q => exact ⟨_, _, rfl, h, rfl, (by show 3 ≤ 5; decide), (by simp [Pp.wd, PW.pl]), (fun n e => nomatch e), (fun k hk => by
      simp only [Pp.kids, List.mem_cons, List.not_mem_nil, or_false] at hk
      rcases hk with rfl | rfl
      · exact ⟨_, at1, p⟩
      · exact ⟨_, at2, q⟩), fun H' a' its2 s' ys ks tk ho py e t => by
      rcases ho with ⟨_, rfl⟩ | ⟨n, x', z, _⟩
      case inr => cases z
      cases py with
      | nil => cases e
      | cons h1 py =>
        cases py with
        | nil => cases e
        | cons h2 py =>
          cases py with
          | nil => exact .pair t h1 h2
          | cons _ _ => cases e⟩
  | apply h p q => exact ⟨_, _, rfl, h, rfl, (by show 3 ≤ 5; decide), (by simp [Pp.wd, PW.pl]), (fun n e => nomatch e), (fun k hk => by
      simp only [Pp.kids, List.mem_cons, List.not_mem_nil, or_false] at hk
      rcases hk with rfl | rfl
      · exact ⟨_, at1, p⟩
      · exact ⟨_, at2, q⟩), fun H' a' its2 s' ys ks tk ho py e t => by
      rcases ho with ⟨_, rfl⟩ | ⟨n, x', z, _⟩
      case inr => cases z
      cases py with
      | nil => cases e
      | cons h1 py =>
        cases py with
        | nil => cases e
        | cons h2 py =>
          cases py with
          | nil => exact .apply t h1 h2
          | cons _ _ => cases e⟩
  | first h p => exact ⟨_, _, rfl, h, rfl, (by show 2 ≤ 5; decide), (by simp [Pp.wd, PW.pl]), (fun n e => nomatch e), (fun k hk => by
      simp only [Pp.kids, List.mem_cons, List.not_mem_nil, or_false] at hk
      subst hk
      exact ⟨_, at1, p⟩), fun H' a' its2 s' ys ks tk ho py e t => by
      rcases ho with ⟨_, rfl⟩ | ⟨n, x', z, _⟩
      case inr => cases z
      cases py with
      | nil => cases e
      | cons h1 py =>
        cases py with
        | nil => exact .first t h1
        | cons _ _ => cases e⟩
  | second h p => exact ⟨_, _, rfl, h, rfl, (by show 2 ≤ 5; decide), (by simp [Pp.wd, PW.pl]), (fun n e => nomatch e), (fun k hk => by
      simp only [Pp.kids, List.mem_cons, List.not_mem_nil, or_false] at hk
      subst hk
      exact ⟨_, at1, p⟩), fun H' a' its2 s' ys ks tk ho py e t => by
      rcases ho with ⟨_, rfl⟩ | ⟨n, x', z, _⟩
      case inr => cases z
      cases py with
      | nil => cases e
      | cons h1 py =>
        cases py with
        | nil => exact .second t h1
        | cons _ _ => cases e⟩
  | left h p s => exact ⟨_, _, rfl, h, rfl, (by show 3 ≤ 5; decide), (by simp [Pp.wd, PW.pl]), (fun n e => by cases e; exact ⟨by decide, by show 2 < 3; decide, _, rfl, s⟩), (fun k hk => by
      simp only [Pp.kids, List.mem_cons, List.not_mem_nil, or_false] at hk
      subst hk
      exact ⟨_, at1, p⟩), fun H' a' its2 s' ys ks tk ho py e t => by
      rcases ho with ⟨z, _⟩ | ⟨n, x', z, rfl, is⟩
      · cases z
      cases z
      cases py with
      | nil => cases e
      | cons h1 py =>
        cases py with
        | nil => exact .left t h1 is
        | cons _ _ => cases e⟩
  | right h p s => exact ⟨_, _, rfl, h, rfl, (by show 3 ≤ 5; decide), (by simp [Pp.wd, PW.pl]), (fun n e => by cases e; exact ⟨by decide, by show 1 < 3; decide, _, rfl, s⟩), (fun k hk => by
      simp only [Pp.kids, List.mem_cons, List.not_mem_nil, or_false] at hk
      subst hk
      exact ⟨_, at2, p⟩), fun H' a' its2 s' ys ks tk ho py e t => by
      rcases ho with ⟨z, _⟩ | ⟨n, x', z, rfl, is⟩
      · cases z
      cases z
      cases py with
      | nil => cases e
      | cons h1 py =>
        cases py with
        | nil => exact .right t h1 is
        | cons _ _ => cases e⟩
  | make h p s => exact ⟨_, _, rfl, h, rfl, (by show 3 ≤ 5; decide), (by simp [Pp.wd, PW.pl]), (fun n e => by cases e; exact ⟨by decide, by show 1 < 3; decide, _, rfl, s⟩), (fun k hk => by
      simp only [Pp.kids, List.mem_cons, List.not_mem_nil, or_false] at hk
      subst hk
      exact ⟨_, at2, p⟩), fun H' a' its2 s' ys ks tk ho py e t => by
      rcases ho with ⟨z, _⟩ | ⟨n, x', z, rfl, is⟩
      · cases z
      cases z
      cases py with
      | nil => cases e
      | cons h1 py =>
        cases py with
        | nil => exact .make t h1 is
        | cons _ _ => cases e⟩
  | escape h p s => exact ⟨_, _, rfl, h, rfl, (by show 3 ≤ 5; decide), (by simp [Pp.wd, PW.pl]), (fun n e => by cases e; exact ⟨by decide, by show 2 < 3; decide, _, rfl, s⟩), (fun k hk => by
      simp only [Pp.kids, List.mem_cons, List.not_mem_nil, or_false] at hk
      subst hk
      exact ⟨_, at1, p⟩), fun H' a' its2 s' ys ks tk ho py e t => by
      rcases ho with ⟨z, _⟩ | ⟨n, x', z, rfl, is⟩
      · cases z
      cases z
      cases py with
      | nil => cases e
      | cons h1 py =>
        cases py with
        | nil => exact .escape t h1 is
        | cons _ _ => cases e⟩
  | case h p q r s => exact ⟨_, _, rfl, h, rfl, (by show 5 ≤ 5; decide), (by simp [Pp.wd, PW.pl]), (fun n e => by cases e; exact ⟨by decide, by show 4 < 5; decide, _, rfl, s⟩), (fun k hk => by
      simp only [Pp.kids, List.mem_cons, List.not_mem_nil, or_false] at hk
      rcases hk with rfl | rfl | rfl
      · exact ⟨_, at1, p⟩
      · exact ⟨_, at2, q⟩
      · exact ⟨_, at3, r⟩), fun H' a' its2 s' ys ks tk ho py e t => by
      rcases ho with ⟨z, _⟩ | ⟨n, x', z, rfl, is⟩
      · cases z
      cases z
      cases py with
      | nil => cases e
      | cons h1 py =>
        cases py with
        | nil => cases e
        | cons h2 py =>
          cases py with
          | nil => cases e
          | cons h3 py =>
            cases py with
            | nil => exact .case t h1 h2 h3 is
            | cons _ _ => cases e⟩
theorem tn_re (B : List Nat → Option Sm) (p : Pp) : (p.setS (p.own.turn B)).re (p.kids.map fun k => k.2.tn B) = p.tn B := by cases p <;> rfl
/-- the same, these words being asked for so far -/
def OwnD (K : PySem.W.Frag) (H' : Hp) (S : List PW) (p : Pp) (its its2 : List V) (s' : Sm) : Prop := (p.wd ∉ S ∧ its2 = its) ∨ ∃ n x', p.wd ∈ S ∧ stP p.wd = some n ∧ its2 = its.set n x' ∧ IsSm K H' x' s'
theorem OwnD.keep {K : PySem.W.Frag} {H H' : Hp} {S : List PW} {p : Pp} {its its2 : List V} {s' : Sm} (h : OwnD K H S p its its2 s') (S2 : List PW) (hn : p.wd ∉ S2) (k : TK K H H') : OwnD K H' (S ++ S2) p its its2 s' := by
  rcases h with ⟨a, b⟩ | ⟨n, x', a, b, c, d⟩
  · refine .inl ⟨fun z => ?_, b⟩
    rcases List.mem_append.mp z with z | z
    · exact a z
    · exact hn z
  · exact .inr ⟨n, x', List.mem_append.mpr (.inl a), b, c, d.tk k⟩
theorem OwnD.row {K : PySem.W.Frag} {H : Hp} {S : List PW} {p : Pp} {its its2 : List V} {s' : Sm} (h : OwnD K H S p its its2 s') (hn : p.wd ∉ S) : its2 = its := by
  rcases h with ⟨_, b⟩ | ⟨n, x', a, _⟩
  · exact b
  · exact absurd a hn
theorem OwnD.all {K : PySem.W.Frag} {H : Hp} {p : Pp} {its its2 : List V} {s' : Sm} (h : OwnD K H [.right, .make, .left, .escape, .case] p its its2 s') : OwnS K H p its its2 s' := by
  rcases h with ⟨a, b⟩ | ⟨n, x', _, b, c, d⟩
  · refine .inl ⟨?_, b⟩
    revert a
    generalize p.wd = wd
    intro a
    cases wd <;> first | rfl | exact absurd (by decide) a
  · exact .inr ⟨n, x', b, c, d⟩
theorem pair_mapr {α β γ : Type} {R : α → γ → Prop} {f : β → γ} : ∀ {xs : List α} {ys : List β}, Paired (fun x y => R x (f y)) xs ys → Paired R xs (ys.map f)
  | _, _, .nil => .nil
  | _, _, .cons h t => .cons h (pair_mapr t)
theorem Pp.Bd.lay {M : Nat} : ∀ {p : Pp}, p.Bd M → p.data.canLay0 = true
  | .use k, _ => lay_tup fun d hd => by
    simp only [List.mem_cons, List.not_mem_nil, or_false] at hd
    rcases hd with rfl | rfl <;> first | decide +kernel | rfl
  | .name n, h => lay_tup fun d hd => by
    simp only [List.mem_cons, List.not_mem_nil, or_false] at hd
    rcases hd with rfl | rfl
    · decide +kernel
    · exact Ch.ok h
  | .pair p q, h => lay_tup fun d hd => by
    simp only [List.mem_cons, List.not_mem_nil, or_false] at hd
    rcases hd with rfl | rfl | rfl
    · decide +kernel
    · exact Pp.Bd.lay h.1
    · exact Pp.Bd.lay h.2
  | .apply p q, h => lay_tup fun d hd => by
    simp only [List.mem_cons, List.not_mem_nil, or_false] at hd
    rcases hd with rfl | rfl | rfl
    · decide +kernel
    · exact Pp.Bd.lay h.1
    · exact Pp.Bd.lay h.2
  | .first p, h => lay_tup fun d hd => by
    simp only [List.mem_cons, List.not_mem_nil, or_false] at hd
    rcases hd with rfl | rfl
    · decide +kernel
    · exact Pp.Bd.lay (p := p) h
  | .second p, h => lay_tup fun d hd => by
    simp only [List.mem_cons, List.not_mem_nil, or_false] at hd
    rcases hd with rfl | rfl
    · decide +kernel
    · exact Pp.Bd.lay (p := p) h
  | .left p b, h => lay_tup fun d hd => by
    simp only [List.mem_cons, List.not_mem_nil, or_false] at hd
    rcases hd with rfl | rfl | rfl
    · decide +kernel
    · exact Pp.Bd.lay h.1
    · exact Sm.lay h.2.2
  | .right b p, h => lay_tup fun d hd => by
    simp only [List.mem_cons, List.not_mem_nil, or_false] at hd
    rcases hd with rfl | rfl | rfl
    · decide +kernel
    · exact Sm.lay h.2.2
    · exact Pp.Bd.lay h.1
  | .make b p, h => lay_tup fun d hd => by
    simp only [List.mem_cons, List.not_mem_nil, or_false] at hd
    rcases hd with rfl | rfl | rfl
    · decide +kernel
    · exact Sm.lay h.2.2
    · exact Pp.Bd.lay h.1
  | .escape p b, h => lay_tup fun d hd => by
    simp only [List.mem_cons, List.not_mem_nil, or_false] at hd
    rcases hd with rfl | rfl | rfl
    · decide +kernel
    · exact Pp.Bd.lay h.1
    · exact Sm.lay h.2.2
  | .case p q r c, h => lay_tup fun d hd => by
    simp only [List.mem_cons, List.not_mem_nil, or_false] at hd
    rcases hd with rfl | rfl | rfl | rfl | rfl
    · decide +kernel
    · exact Pp.Bd.lay h.1
    · exact Pp.Bd.lay h.2.1
    · exact Pp.Bd.lay h.2.2.1
    · exact Sm.lay h.2.2.2.2
theorem Pp.Bd.dep {M : Nat} : ∀ {p : Pp}, p.Bd M → p.data.depth ≤ p.ht + M + 2
  | .use k, _ => by simp [Pp.data, PyData.depth, PyData.depthAll]
  | .name n, _ => by simp [Pp.data, PyData.depth, PyData.depthAll]
  | .pair p q, h => by
    have h1 := Pp.Bd.dep h.1; have h2 := Pp.Bd.dep h.2
    simp [Pp.data, PyData.depth, PyData.depthAll, Pp.ht]; omega
  | .apply p q, h => by
    have h1 := Pp.Bd.dep h.1; have h2 := Pp.Bd.dep h.2
    simp [Pp.data, PyData.depth, PyData.depthAll, Pp.ht]; omega
  | .first p, h => by
    have h1 := Pp.Bd.dep (p := p) h
    simp [Pp.data, PyData.depth, PyData.depthAll, Pp.ht]; omega
  | .second p, h => by
    have h1 := Pp.Bd.dep (p := p) h
    simp [Pp.data, PyData.depth, PyData.depthAll, Pp.ht]; omega
  | .left p b, h => by
    have h1 := Pp.Bd.dep h.1; have h2 := b.depth_dp; have h3 := h.2.1
    simp [Pp.data, PyData.depth, PyData.depthAll, Pp.ht]; omega
  | .right b p, h => by
    have h1 := Pp.Bd.dep h.1; have h2 := b.depth_dp; have h3 := h.2.1
    simp [Pp.data, PyData.depth, PyData.depthAll, Pp.ht]; omega
  | .make b p, h => by
    have h1 := Pp.Bd.dep h.1; have h2 := b.depth_dp; have h3 := h.2.1
    simp [Pp.data, PyData.depth, PyData.depthAll, Pp.ht]; omega
  | .escape p b, h => by
    have h1 := Pp.Bd.dep h.1; have h2 := b.depth_dp; have h3 := h.2.1
    simp [Pp.data, PyData.depth, PyData.depthAll, Pp.ht]; omega
  | .case p q r c, h => by
    have h1 := Pp.Bd.dep h.1; have h2 := Pp.Bd.dep h.2.1; have h3 := Pp.Bd.dep h.2.2.1; have h4 := c.depth_dp; have h5 := h.2.2.2.1
    simp [Pp.data, PyData.depth, PyData.depthAll, Pp.ht]; omega
theorem ne_ppB {K : PySem.W.Frag} {H : Hp} {x y : V} {p : Pp} {M n : Nat} {Q : VK} (hx : IsPp K H x p) (hy : IsPp K H y p) (hl : p.Bd M) (hn : p.ht + M + 2 ≤ n) (q : Q (.bl false) H) : rNeN K n x y H Q := by
  refine ⟨_, _, hx.dp, hy.dp, Pp.Bd.lay hl, Pp.Bd.lay hl, Nat.le_trans (Nat.min_le_left _ _) (Nat.le_trans (Pp.Bd.dep hl) hn), ?_⟩
  rw [eqv_self _ (Pp.Bd.lay hl)]
  exact q
end Ob

/-! ObBe: what a paper shows, as a relation; each step keeps it. -/
namespace Ob
open PySem PySem.Spec PyProof.Rows L2
inductive Ty (B : List Nat → Sm → Prop) : List Sm → Pp → Sm → Prop where
  | use {g : List Sm} {k : Nat} {s : Sm} (h : g[k]? = some s) : Ty B g (.use (k : Int)) s
  | name {g : List Sm} {n : List Nat} {s : Sm} (h : B n s) : Ty B g (.name n) s
  | pair {g : List Sm} {p q : Pp} {a b : Sm} (hp : Ty B g p a) (hq : Ty B g q b) : Ty B g (.pair p q) (.bin .and a b)
  | first {g : List Sm} {p : Pp} {a b : Sm} (hp : Ty B g p (.bin .and a b)) : Ty B g (.first p) a
  | second {g : List Sm} {p : Pp} {a b : Sm} (hp : Ty B g p (.bin .and a b)) : Ty B g (.second p) b
  | left {g : List Sm} {p : Pp} {a b : Sm} (hp : Ty B g p a) : Ty B g (.left p b) (.bin .or a b)
  | right {g : List Sm} {p : Pp} {a b : Sm} (hp : Ty B g p b) : Ty B g (.right a p) (.bin .or a b)
  | case {g : List Sm} {p q r : Pp} {a b c : Sm} (hp : Ty B g p (.bin .or a b)) (hq : Ty B (g ++ [a]) q c) (hr : Ty B (g ++ [b]) r c) : Ty B g (.case p q r c) c
  | make {g : List Sm} {p : Pp} {a b : Sm} (hp : Ty B (g ++ [a]) p b) : Ty B g (.make a p) (.bin .thn a b)
  | apply {g : List Sm} {p q : Pp} {a b : Sm} (hp : Ty B g p (.bin .thn a b)) (hq : Ty B g q a) : Ty B g (.apply p q) b
  | escape {g : List Sm} {p : Pp} {c : Sm} (hp : Ty B g p .nv) : Ty B g (.escape p c) c
variable {B : List Nat → Sm → Prop}
theorem Ty.mv (g m : List Sm) : ∀ {p : Pp} {h : List Sm} {a : Sm}, Ty B (g ++ h) p a → Ty B (g ++ m ++ h) (p.mv (g.length : Int) (m.length : Int)) a
  | _, h, _, .use (k := k) (s := s) e => by
    show Ty B _ (.use ((k : Int) + (m.length : Int) * (if (g.length : Int) ≤ (k : Int) then 1 else 0))) s
    by_cases hk : g.length ≤ k
    · rw [if_pos (by omega), Int.mul_one, show (k : Int) + (m.length : Int) = ((k + m.length : Nat) : Int) by omega]
      refine .use ?_
      rw [List.getElem?_append_right hk] at e
      rw [List.append_assoc, List.getElem?_append_right (by omega), List.getElem?_append_right (by omega), show k + m.length - g.length - m.length = k - g.length by omega]
      exact e
    · rw [if_neg (by omega), Int.mul_zero, Int.add_zero]
      refine .use ?_
      rw [List.getElem?_append_left (by omega)] at e
      rw [List.append_assoc, List.getElem?_append_left (by omega)]
      exact e
  | _, _, _, .name e => .name e
  | _, _, _, .pair p q => .pair (Ty.mv g m p) (Ty.mv g m q)
  | _, _, _, .first p => .first (Ty.mv g m p)
  | _, _, _, .second p => .second (Ty.mv g m p)
  | _, _, _, .left p => .left (Ty.mv g m p)
  | _, _, _, .right p => .right (Ty.mv g m p)
  | _, h, _, .case (a := a) (b := b) p q r => by
    rw [List.append_assoc] at q r
    have q' := Ty.mv g m (h := h ++ [a]) q
    have r' := Ty.mv g m (h := h ++ [b]) r
    rw [← List.append_assoc] at q' r'
    exact .case (Ty.mv g m p) q' r'
  | _, h, _, .make (a := a) p => by
    rw [List.append_assoc] at p
    have p' := Ty.mv g m (h := h ++ [a]) p
    rw [← List.append_assoc] at p'
    exact .make p'
  | _, _, _, .apply p q => .apply (Ty.mv g m p) (Ty.mv g m q)
  | _, _, _, .escape p => .escape (Ty.mv g m p)
theorem Ty.mv1 {g : List Sm} {p : Pp} {a : Sm} (x : Sm) (t : Ty B g p a) : Ty B (g ++ [x]) (p.mv (g.length : Int) 1) a := by
  have t' : Ty B (g ++ []) p a := by rw [List.append_nil]; exact t
  have h := Ty.mv g [x] t'
  rw [List.append_nil] at h
  exact h
theorem Ty.mv2 {g : List Sm} {p : Pp} {a y : Sm} (x : Sm) (t : Ty B (g ++ [y]) p a) : Ty B (g ++ [x] ++ [y]) (p.mv (g.length : Int) 1) a := Ty.mv g [x] t
theorem Ty.put {g : List Sm} {s : Sm} {o : Pp} (ho : Ty B g o s) : ∀ {p : Pp} {h : List Sm} {a : Sm}, Ty B (g ++ [s] ++ h) p a → Ty B (g ++ h) (p.rem (putG (g.length : Int) o) h.length) a
  | _, h, _, .use (k := k) (s := x) e => by
    show Ty B _ (if (k : Int) < (g.length : Int) then .use (k : Int) else if (k : Int) = (g.length : Int) then o.mv (g.length : Int) (h.length : Nat) else .use ((k : Int) - 1)) x
    by_cases h1 : k < g.length
    · rw [if_pos (by omega)]
      refine .use ?_
      rw [List.append_assoc, List.getElem?_append_left h1] at e
      rw [List.getElem?_append_left h1]
      exact e
    · rw [if_neg (by omega)]
      by_cases h2 : k = g.length
      · rw [if_pos (by omega)]
        rw [List.append_assoc, List.getElem?_append_right (by omega), h2, Nat.sub_self] at e
        cases e
        have o' : Ty B (g ++ []) o s := by rw [List.append_nil]; exact ho
        have t := Ty.mv g h o'
        rw [List.append_nil] at t
        exact t
      · rw [if_neg (by omega), show (k : Int) - 1 = ((k - 1 : Nat) : Int) by omega]
        refine .use ?_
        rw [List.append_assoc, List.getElem?_append_right (by omega), List.getElem?_append_right (by simp; omega)] at e
        rw [List.getElem?_append_right (by omega)]
        rw [List.length_singleton] at e
        rw [show k - 1 - g.length = k - g.length - 1 by omega]
        exact e
  | _, _, _, .name e => .name e
  | _, _, _, .pair p q => .pair (Ty.put ho p) (Ty.put ho q)
  | _, _, _, .first p => .first (Ty.put ho p)
  | _, _, _, .second p => .second (Ty.put ho p)
  | _, _, _, .left p => .left (Ty.put ho p)
  | _, _, _, .right p => .right (Ty.put ho p)
  | _, h, _, .case (a := a) (b := b) p q r => by
    rw [List.append_assoc] at q r
    have q' := Ty.put ho (h := h ++ [a]) q
    have r' := Ty.put ho (h := h ++ [b]) r
    rw [← List.append_assoc, List.length_append, List.length_singleton] at q' r'
    exact .case (Ty.put ho p) q' r'
  | _, h, _, .make (a := a) p => by
    rw [List.append_assoc] at p
    have p' := Ty.put ho (h := h ++ [a]) p
    rw [← List.append_assoc, List.length_append, List.length_singleton] at p'
    exact .make p'
  | _, _, _, .apply p q => .apply (Ty.put ho p) (Ty.put ho q)
  | _, _, _, .escape p => .escape (Ty.put ho p)
theorem Ty.put0 {g : List Sm} {s : Sm} {o p : Pp} {a : Sm} (ho : Ty B g o s) (t : Ty B (g ++ [s]) p a) : Ty B g (p.rem (putG (g.length : Int) o) 0) a := by
  have t' : Ty B (g ++ [s] ++ []) p a := by rw [List.append_nil]; exact t
  have h := Ty.put ho t'
  rw [List.append_nil] at h
  exact h
/-- a step at the paper itself -/
theorem Ty.taken {g : List Sm} {p q : Pp} {a : Sm} (t : Ty B g p a) (h : p.taken (g.length : Int) = some q) : Ty B g q a := by
  cases t with
  | first hp => cases hp with
    | pair x y => cases h; exact x
    | _ => cases h
  | second hp => cases hp with
    | pair x y => cases h; exact y
    | _ => cases h
  | apply hp hq => cases hp with
    | make x => cases h; exact Ty.put0 hq x
    | _ => cases h
  | case hp hq hr => cases hp with
    | left x => cases h; exact Ty.put0 x hq
    | right x => cases h; exact Ty.put0 x hr
    | _ => cases h
  | _ => cases h
theorem Ty.lifted {g : List Sm} {p q : Pp} {a : Sm} (t : Ty B g p a) (h : p.lifted (g.length : Int) = some q) : Ty B g q a := by
  cases t with
  | first hp => cases hp with
    | escape x => cases h; exact .escape x
    | case x y z => cases h; exact .case x (.first y) (.first z)
    | _ => cases h
  | second hp => cases hp with
    | escape x => cases h; exact .escape x
    | case x y z => cases h; exact .case x (.second y) (.second z)
    | _ => cases h
  | apply hp hq => cases hp with
    | escape x => cases h; exact .escape x
    | case x y z => cases h; exact .case x (.apply y (hq.mv1 _)) (.apply z (hq.mv1 _))
    | _ => cases h
  | case hp hq hr => cases hp with
    | escape x => cases h; exact .escape x
    | case x y z => cases h; exact .case x (.case y (hq.mv2 _) (hr.mv2 _)) (.case z (hq.mv2 _) (hr.mv2 _))
    | _ => cases h
  | escape hp => cases hp with
    | escape x => cases h; exact .escape x
    | case x y z => cases h; exact .case x (.escape y) (.escape z)
    | _ => cases h
  | _ => cases h
theorem Ty.stepped {g : List Sm} {p q : Pp} {a : Sm} (t : Ty B g p a) (h : p.stepped (g.length : Int) = some q) : Ty B g q a := by
  unfold Pp.stepped at h
  cases e : p.taken (g.length : Int) with
  | some x => rw [e] at h; cases h; exact t.taken e
  | none => rw [e] at h; exact t.lifted h
/-- where the first part with a step stands -/
theorem find_flat {α β γ : Type} {f : β → Option γ} {F : α → List β} {q : γ} : ∀ {l : List α}, (l.flatMap F).findSome? f = some q → ∃ z ∈ l, (F z).findSome? f = some q
  | [], h => by cases h
  | a :: r, h => by
    rw [List.flatMap_cons, List.findSome?_append] at h
    cases e : (F a).findSome? f with
    | some x => rw [e] at h; exact ⟨a, List.mem_cons_self .., by rw [e]; exact h⟩
    | none =>
      rw [e] at h
      obtain ⟨z, hz, e2⟩ := find_flat h
      exact ⟨z, List.mem_cons_of_mem _ hz, e2⟩
theorem step_cases {n : Int} {p q : Pp} (h : p.step n = some q) : p.stepped n = some q ∨ ∃ k ∈ p.kids, ∃ x, k.2.step (n + ((p.inc k.1 : Nat) : Int)) = some x ∧ q = p.set1 k.1 x := by
  unfold Pp.step at h
  rw [pre2_kids, List.findSome?_cons] at h
  cases e : stepAt (n, p, [], []) with
  | some x =>
    rw [e] at h
    cases h
    left
    unfold stepAt at e
    cases e2 : p.stepped n with
    | none => rw [show ((n, p, ([] : List Int), ([] : List Pp)) : SI).2.1.stepped ((n, p, ([] : List Int), ([] : List Pp)) : SI).1 = none from e2] at e; cases e
    | some y => rw [show ((n, p, ([] : List Int), ([] : List Pp)) : SI).2.1.stepped ((n, p, ([] : List Int), ([] : List Pp)) : SI).1 = some y from e2] at e; cases e; rfl
  | none =>
    rw [e] at h
    right
    obtain ⟨z, hz, e2⟩ := find_flat h
    obtain ⟨k, hk, rfl⟩ := List.mem_map.mp hz
    have e3 : (k.2.pre2 (n + ((p.inc k.1 : Nat) : Int)) [k.1] [p]).findSome? stepAt = some q := e2
    rw [pre2_one] at e3
    cases e4 : k.2.step (n + ((p.inc k.1 : Nat) : Int)) with
    | none => rw [e4] at e3; cases e3
    | some x => rw [e4] at e3; cases e3; exact ⟨k, hk, x, e4, rfl⟩
end Ob

/-! ObBf: steps keep what is shown; bounds of what comes of a step. -/
namespace Ob
open PySem PySem.Spec PyProof.Rows L2
variable {B : List Nat → Sm → Prop}
theorem Ty.step : ∀ (N : Nat) {g : List Sm} {p q : Pp} {a : Sm}, p.ht < N → Ty B g p a → p.step (g.length : Int) = some q → Ty B g q a
  | 0, _, _, _, _, h, _, _ => absurd h (Nat.not_lt_zero _)
  | N + 1, g, p, q, a, hN, t, h => by
    rcases step_cases h with h | ⟨k, hk, x, hx, rfl⟩
    · exact t.stepped h
    have hk2 : k.2.ht < N := by have := kid_ht hk; omega
    have one : ∀ y : Sm, ((g ++ [y]).length : Int) = (g.length : Int) + ((1 : Nat) : Int) := fun y => by rw [List.length_append, List.length_singleton]; omega
    have two : ((g.length : Nat) : Int) = (g.length : Int) + ((0 : Nat) : Int) := by omega
    cases t with
    | use e => cases hk
    | name e => cases hk
    | pair x y =>
      simp only [Pp.kids, List.mem_cons, List.not_mem_nil, or_false] at hk
      rcases hk with rfl | rfl
      · exact .pair (Ty.step N hk2 x (by rw [two]; exact hx)) y
      · exact .pair x (Ty.step N hk2 y (by rw [two]; exact hx))
    | first x =>
      simp only [Pp.kids, List.mem_cons, List.not_mem_nil, or_false] at hk
      subst hk
      exact .first (Ty.step N hk2 x (by rw [two]; exact hx))
    | second x =>
      simp only [Pp.kids, List.mem_cons, List.not_mem_nil, or_false] at hk
      subst hk
      exact .second (Ty.step N hk2 x (by rw [two]; exact hx))
    | left x =>
      simp only [Pp.kids, List.mem_cons, List.not_mem_nil, or_false] at hk
      subst hk
      exact .left (Ty.step N hk2 x (by rw [two]; exact hx))
    | right x =>
      simp only [Pp.kids, List.mem_cons, List.not_mem_nil, or_false] at hk
      subst hk
      exact .right (Ty.step N hk2 x (by rw [two]; exact hx))
    | case x y z =>
      simp only [Pp.kids, List.mem_cons, List.not_mem_nil, or_false] at hk
      rcases hk with rfl | rfl | rfl
      · exact .case (Ty.step N hk2 x (by rw [two]; exact hx)) y z
      · exact .case x (Ty.step N hk2 y (by rw [one]; exact hx)) z
      · exact .case x y (Ty.step N hk2 z (by rw [one]; exact hx))
    | make x =>
      simp only [Pp.kids, List.mem_cons, List.not_mem_nil, or_false] at hk
      subst hk
      exact .make (Ty.step N hk2 x (by rw [one]; exact hx))
    | apply x y =>
      simp only [Pp.kids, List.mem_cons, List.not_mem_nil, or_false] at hk
      rcases hk with rfl | rfl
      · exact .apply (Ty.step N hk2 x (by rw [two]; exact hx)) y
      · exact .apply x (Ty.step N hk2 y (by rw [two]; exact hx))
    | escape x =>
      simp only [Pp.kids, List.mem_cons, List.not_mem_nil, or_false] at hk
      subst hk
      exact .escape (Ty.step N hk2 x (by rw [two]; exact hx))
/-- what shows something can tell of its chiefs -/
theorem Ty.joa {g : List Sm} {p : Pp} {a : Sm} (t : Ty B g p a) : p.Joa := by
  induction t with
  | use _ => exact True.intro
  | name _ => exact True.intro
  | pair _ _ i j => exact ⟨i, j⟩
  | first hp i =>
    refine ⟨fun x a z => ?_, i⟩
    rcases z with z | ⟨q, r, z⟩ <;> (cases z; cases hp; rfl)
  | second hp i =>
    refine ⟨fun x a z => ?_, i⟩
    rcases z with z | ⟨q, r, z⟩ <;> (cases z; cases hp; rfl)
  | left _ i => exact i
  | right _ i => exact i
  | case hp _ _ i j k =>
    refine ⟨fun x a z => ?_, i, j, k⟩
    rcases z with z | ⟨q, r, z⟩ <;> (cases z; cases hp; rfl)
  | make _ i => exact i
  | apply hp _ i j =>
    refine ⟨fun x a z => ?_, i, j⟩
    rcases z with z | ⟨q, r, z⟩ <;> (cases z; cases hp; rfl)
  | escape hp i =>
    refine ⟨fun x a z => ?_, i⟩
    rcases z with z | ⟨q, r, z⟩ <;> (cases z; cases hp; rfl)
/-! ### how large -/
def Pp.nn : Pp → Nat
  | .use _ => 1
  | .name _ => 1
  | .pair p q => p.nn + q.nn + 1
  | .first p => p.nn + 1
  | .second p => p.nn + 1
  | .left p _ => p.nn + 1
  | .right _ p => p.nn + 1
  | .case p q r _ => p.nn + q.nn + r.nn + 1
  | .make _ p => p.nn + 1
  | .apply p q => p.nn + q.nn + 1
  | .escape p _ => p.nn + 1
theorem lvl_nn : ∀ (p : Pp) (m : Nat), (p.lvl m).length = p.nn
  | .use _, _ => rfl
  | .name _, _ => rfl
  | .pair p q, m => by simp only [Pp.lvl, List.length_cons, List.length_append, lvl_nn p, lvl_nn q, Pp.nn]
  | .first p, m => by simp only [Pp.lvl, List.length_cons, lvl_nn p, Pp.nn]
  | .second p, m => by simp only [Pp.lvl, List.length_cons, lvl_nn p, Pp.nn]
  | .left p _, m => by simp only [Pp.lvl, List.length_cons, lvl_nn p, Pp.nn]
  | .right _ p, m => by simp only [Pp.lvl, List.length_cons, lvl_nn p, Pp.nn]
  | .case p q r _, m => by simp only [Pp.lvl, List.length_cons, List.length_append, lvl_nn p, lvl_nn q, lvl_nn r, Pp.nn]; omega
  | .make _ p, m => by simp only [Pp.lvl, List.length_cons, lvl_nn p, Pp.nn]
  | .apply p q, m => by simp only [Pp.lvl, List.length_cons, List.length_append, lvl_nn p, lvl_nn q, Pp.nn]
  | .escape p _, m => by simp only [Pp.lvl, List.length_cons, lvl_nn p, Pp.nn]
theorem nn_pos (p : Pp) : 1 ≤ p.nn := by cases p <;> simp only [Pp.nn] <;> omega
theorem ht_nn : ∀ p : Pp, p.ht + 1 ≤ p.nn
  | .use _ => Nat.le_refl _
  | .name _ => Nat.le_refl _
  | .pair p q => by have := ht_nn p; have := ht_nn q; simp only [Pp.ht, Pp.nn]; omega
  | .first p => by have := ht_nn p; simp only [Pp.ht, Pp.nn]; omega
  | .second p => by have := ht_nn p; simp only [Pp.ht, Pp.nn]; omega
  | .left p _ => by have := ht_nn p; simp only [Pp.ht, Pp.nn]; omega
  | .right _ p => by have := ht_nn p; simp only [Pp.ht, Pp.nn]; omega
  | .case p q r _ => by have := ht_nn p; have := ht_nn q; have := ht_nn r; simp only [Pp.ht, Pp.nn]; omega
  | .make _ p => by have := ht_nn p; simp only [Pp.ht, Pp.nn]; omega
  | .apply p q => by have := ht_nn p; have := ht_nn q; simp only [Pp.ht, Pp.nn]; omega
  | .escape p _ => by have := ht_nn p; simp only [Pp.ht, Pp.nn]; omega
theorem wt_nn : ∀ p : Pp, p.wt ≤ 8 * p.nn
  | .use _ => by simp only [Pp.wt, Pp.nn]; omega
  | .name _ => by simp only [Pp.wt, Pp.nn]; omega
  | .pair p q => by have := wt_nn p; have := wt_nn q; simp only [Pp.wt, Pp.nn]; omega
  | .first p => by have := wt_nn p; simp only [Pp.wt, Pp.nn]; omega
  | .second p => by have := wt_nn p; simp only [Pp.wt, Pp.nn]; omega
  | .left p _ => by have := wt_nn p; simp only [Pp.wt, Pp.nn]; omega
  | .right _ p => by have := wt_nn p; simp only [Pp.wt, Pp.nn]; omega
  | .case p q r _ => by have := wt_nn p; have := wt_nn q; have := wt_nn r; simp only [Pp.wt, Pp.nn]; omega
  | .make _ p => by have := wt_nn p; simp only [Pp.wt, Pp.nn]; omega
  | .apply p q => by have := wt_nn p; have := wt_nn q; simp only [Pp.wt, Pp.nn]; omega
  | .escape p _ => by have := wt_nn p; simp only [Pp.wt, Pp.nn]; omega
theorem mv_nn (a b : Int) : ∀ p : Pp, (p.mv a b).nn = p.nn
  | .use _ => rfl
  | .name _ => rfl
  | .pair p q => by simp only [Pp.mv, Pp.nn, mv_nn a b p, mv_nn a b q]
  | .first p => by simp only [Pp.mv, Pp.nn, mv_nn a b p]
  | .second p => by simp only [Pp.mv, Pp.nn, mv_nn a b p]
  | .left p _ => by simp only [Pp.mv, Pp.nn, mv_nn a b p]
  | .right _ p => by simp only [Pp.mv, Pp.nn, mv_nn a b p]
  | .case p q r _ => by simp only [Pp.mv, Pp.nn, mv_nn a b p, mv_nn a b q, mv_nn a b r]
  | .make _ p => by simp only [Pp.mv, Pp.nn, mv_nn a b p]
  | .apply p q => by simp only [Pp.mv, Pp.nn, mv_nn a b p, mv_nn a b q]
  | .escape p _ => by simp only [Pp.mv, Pp.nn, mv_nn a b p]
theorem put_le1 (a : Int) (o : Pp) (k : Int) (m : Nat) : (putG a o (.use k) m).nn ≤ o.nn ∧ (putG a o (.use k) m).ht ≤ o.ht := by
  have := nn_pos o
  show (if k < a then Pp.use k else if k = a then o.mv a (m : Nat) else .use (k - 1)).nn ≤ o.nn ∧ (if k < a then Pp.use k else if k = a then o.mv a (m : Nat) else .use (k - 1)).ht ≤ o.ht
  by_cases h1 : k < a
  · rw [if_pos h1]; exact ⟨this, Nat.zero_le _⟩
  · rw [if_neg h1]
    by_cases h2 : k = a
    · rw [if_pos h2, mv_nn, mv_ht]; exact ⟨Nat.le_refl _, Nat.le_refl _⟩
    · rw [if_neg h2]; exact ⟨this, Nat.zero_le _⟩
theorem put_nn (a : Int) (o : Pp) : ∀ (p : Pp) (m : Nat), (p.rem (putG a o) m).nn ≤ p.nn * o.nn
  | .use k, m => by have h := (put_le1 a o k m).1; show (putG a o (.use k) m).nn ≤ 1 * o.nn; omega
  | .name n, m => by have := nn_pos o; show 1 ≤ 1 * o.nn; omega
  | .pair p q, m => by
    have h1 := put_nn a o p m; have h2 := put_nn a o q m; have h3 := nn_pos o
    show (p.rem (putG a o) m).nn + (q.rem (putG a o) m).nn + 1 ≤ (p.nn + q.nn + 1) * o.nn
    rw [Nat.add_mul, Nat.add_mul]; omega
  | .first p, m => by
    have h1 := put_nn a o p m; have h3 := nn_pos o
    show (p.rem (putG a o) m).nn + 1 ≤ (p.nn + 1) * o.nn
    rw [Nat.add_mul]; omega
  | .second p, m => by
    have h1 := put_nn a o p m; have h3 := nn_pos o
    show (p.rem (putG a o) m).nn + 1 ≤ (p.nn + 1) * o.nn
    rw [Nat.add_mul]; omega
  | .left p _, m => by
    have h1 := put_nn a o p m; have h3 := nn_pos o
    show (p.rem (putG a o) m).nn + 1 ≤ (p.nn + 1) * o.nn
    rw [Nat.add_mul]; omega
  | .right _ p, m => by
    have h1 := put_nn a o p m; have h3 := nn_pos o
    show (p.rem (putG a o) m).nn + 1 ≤ (p.nn + 1) * o.nn
    rw [Nat.add_mul]; omega
  | .case p q r _, m => by
    have h1 := put_nn a o p m; have h2 := put_nn a o q (m + 1); have h4 := put_nn a o r (m + 1); have h3 := nn_pos o
    show (p.rem (putG a o) m).nn + (q.rem (putG a o) (m + 1)).nn + (r.rem (putG a o) (m + 1)).nn + 1 ≤ (p.nn + q.nn + r.nn + 1) * o.nn
    rw [Nat.add_mul, Nat.add_mul, Nat.add_mul]; omega
  | .make _ p, m => by
    have h1 := put_nn a o p (m + 1); have h3 := nn_pos o
    show (p.rem (putG a o) (m + 1)).nn + 1 ≤ (p.nn + 1) * o.nn
    rw [Nat.add_mul]; omega
  | .apply p q, m => by
    have h1 := put_nn a o p m; have h2 := put_nn a o q m; have h3 := nn_pos o
    show (p.rem (putG a o) m).nn + (q.rem (putG a o) m).nn + 1 ≤ (p.nn + q.nn + 1) * o.nn
    rw [Nat.add_mul, Nat.add_mul]; omega
  | .escape p _, m => by
    have h1 := put_nn a o p m; have h3 := nn_pos o
    show (p.rem (putG a o) m).nn + 1 ≤ (p.nn + 1) * o.nn
    rw [Nat.add_mul]; omega
theorem put_ht (a : Int) (o : Pp) : ∀ (p : Pp) (m : Nat), (p.rem (putG a o) m).ht ≤ p.ht + o.ht
  | .use k, m => by have h := (put_le1 a o k m).2; show (putG a o (.use k) m).ht ≤ 0 + o.ht; omega
  | .name n, m => Nat.zero_le _
  | .pair p q, m => by
    have h1 := put_ht a o p m; have h2 := put_ht a o q m
    show max (p.rem (putG a o) m).ht (q.rem (putG a o) m).ht + 1 ≤ max p.ht q.ht + 1 + o.ht
    omega
  | .first p, m => by have h1 := put_ht a o p m; show (p.rem (putG a o) m).ht + 1 ≤ p.ht + 1 + o.ht; omega
  | .second p, m => by have h1 := put_ht a o p m; show (p.rem (putG a o) m).ht + 1 ≤ p.ht + 1 + o.ht; omega
  | .left p _, m => by have h1 := put_ht a o p m; show (p.rem (putG a o) m).ht + 1 ≤ p.ht + 1 + o.ht; omega
  | .right _ p, m => by have h1 := put_ht a o p m; show (p.rem (putG a o) m).ht + 1 ≤ p.ht + 1 + o.ht; omega
  | .case p q r _, m => by
    have h1 := put_ht a o p m; have h2 := put_ht a o q (m + 1); have h4 := put_ht a o r (m + 1)
    show max (p.rem (putG a o) m).ht (max (q.rem (putG a o) (m + 1)).ht (r.rem (putG a o) (m + 1)).ht) + 1 ≤ max p.ht (max q.ht r.ht) + 1 + o.ht
    omega
  | .make _ p, m => by have h1 := put_ht a o p (m + 1); show (p.rem (putG a o) (m + 1)).ht + 1 ≤ p.ht + 1 + o.ht; omega
  | .apply p q, m => by
    have h1 := put_ht a o p m; have h2 := put_ht a o q m
    show max (p.rem (putG a o) m).ht (q.rem (putG a o) m).ht + 1 ≤ max p.ht q.ht + 1 + o.ht
    omega
  | .escape p _, m => by have h1 := put_ht a o p m; show (p.rem (putG a o) m).ht + 1 ≤ p.ht + 1 + o.ht; omega
end Ob

/-! ObBg: how large a paper is behind a step, and the statements in it. -/
namespace Ob
open PySem PySem.Spec PyProof.Rows L2
variable {B : List Nat → Sm → Prop}
theorem mv_bd {M : Nat} (a b : Int) : ∀ {p : Pp}, p.Bd M → (p.mv a b).Bd M
  | .use _, _ => True.intro
  | .name _, h => h
  | .pair p q, h => ⟨mv_bd a b h.1, mv_bd a b h.2⟩
  | .first p, h => mv_bd a b (p := p) h
  | .second p, h => mv_bd a b (p := p) h
  | .left p _, h => ⟨mv_bd a b h.1, h.2⟩
  | .right _ p, h => ⟨mv_bd a b h.1, h.2⟩
  | .case p q r _, h => ⟨mv_bd a b h.1, mv_bd a b h.2.1, mv_bd a b h.2.2.1, h.2.2.2⟩
  | .make _ p, h => ⟨mv_bd a b h.1, h.2⟩
  | .apply p q, h => ⟨mv_bd a b h.1, mv_bd a b h.2⟩
  | .escape p _, h => ⟨mv_bd a b h.1, h.2⟩
theorem kid_bd {M : Nat} {p : Pp} (hb : p.Bd M) {k : Int × Pp} (h : k ∈ p.kids) : k.2.Bd M := by
  cases p <;> simp only [Pp.kids, List.mem_cons, List.not_mem_nil, or_false] at h
  case pair p q => rcases h with rfl | rfl; exact hb.1; exact hb.2
  case first p => subst h; exact hb
  case second p => subst h; exact hb
  case left p b => subst h; exact hb.1
  case right b p => subst h; exact hb.1
  case case p q r c => rcases h with rfl | rfl | rfl; exact hb.1; exact hb.2.1; exact hb.2.2.1
  case make b p => subst h; exact hb.1
  case apply p q => rcases h with rfl | rfl; exact hb.1; exact hb.2
  case escape p b => subst h; exact hb.1
theorem put_bd1 {M : Nat} (a : Int) {o : Pp} (ho : o.Bd M) (k : Int) (m : Nat) : (putG a o (.use k) m).Bd M := by
  show (if k < a then Pp.use k else if k = a then o.mv a (m : Nat) else .use (k - 1)).Bd M
  by_cases h1 : k < a
  · rw [if_pos h1]; exact True.intro
  · rw [if_neg h1]
    by_cases h2 : k = a
    · rw [if_pos h2]; exact mv_bd _ _ ho
    · rw [if_neg h2]; exact True.intro
theorem put_bd {M : Nat} (a : Int) {o : Pp} (ho : o.Bd M) : ∀ {p : Pp} (m : Nat), p.Bd M → (p.rem (putG a o) m).Bd M
  | .use k, m, _ => put_bd1 a ho k m
  | .name _, _, h => h
  | .pair p q, m, h => ⟨put_bd a ho m h.1, put_bd a ho m h.2⟩
  | .first p, m, h => put_bd a ho (p := p) m h
  | .second p, m, h => put_bd a ho (p := p) m h
  | .left p _, m, h => ⟨put_bd a ho m h.1, h.2⟩
  | .right _ p, m, h => ⟨put_bd a ho m h.1, h.2⟩
  | .case p q r _, m, h => ⟨put_bd a ho m h.1, put_bd a ho (m + 1) h.2.1, put_bd a ho (m + 1) h.2.2.1, h.2.2.2⟩
  | .make _ p, m, h => ⟨put_bd a ho (m + 1) h.1, h.2⟩
  | .apply p q, m, h => ⟨put_bd a ho m h.1, put_bd a ho m h.2⟩
  | .escape p _, m, h => ⟨put_bd a ho m h.1, h.2⟩
theorem Sm.Bd.l {M : Nat} {w : J} {a b : Sm} (h : (Sm.bin w a b).Bd M) : a.Bd M := ⟨by have h1 : max a.dp b.dp + 1 ≤ M := h.1; omega, h.2.1⟩
theorem Sm.Bd.r {M : Nat} {w : J} {a b : Sm} (h : (Sm.bin w a b).Bd M) : b.Bd M := ⟨by have h1 : max a.dp b.dp + 1 ≤ M := h.1; omega, h.2.2⟩
/-- what is told of the paper behind a step -/
structure Bh (p q : Pp) : Prop where
  ht : q.ht ≤ p.nn
  nn : q.nn ≤ p.nn * p.nn
  bd : ∀ M, p.Bd M → q.Bd M
theorem sq_of {x P : Nat} (h : x ≤ 2 * P) (h2 : 2 ≤ P) : x ≤ P * P := Nat.le_trans h (Nat.mul_le_mul_right P h2)
theorem Bh.lin {p q : Pp} (h1 : q.ht ≤ p.nn) (h2 : q.nn ≤ 2 * p.nn) (h3 : 2 ≤ p.nn) (h4 : ∀ M, p.Bd M → q.Bd M) : Bh p q := ⟨h1, sq_of h2 h3, h4⟩
theorem Bh.put {p b o : Pp} (a : Int) (h : b.nn + o.nn ≤ p.nn) (hb : ∀ M, p.Bd M → b.Bd M ∧ o.Bd M) : Bh p (b.rem (putG a o) 0) := by
  have h1 := put_ht a o b 0
  have h2 := put_nn a o b 0
  have h3 := ht_nn b
  have h4 := ht_nn o
  exact ⟨by omega, Nat.le_trans h2 (Nat.mul_le_mul (by omega) (by omega)), fun M x => put_bd a (hb M x).2 0 (hb M x).1⟩
theorem Ty.bh1 {g : List Sm} {p q : Pp} {a : Sm} (t : Ty B g p a) (h : p.stepped (g.length : Int) = some q) : Bh p q := by
  unfold Pp.stepped at h
  cases t with
  | @first _ p a b hp => cases hp with
    | @pair _ x y _ _ hx hy =>
      cases h
      have := ht_nn q
      refine Bh.lin (by simp only [Pp.nn]; omega) (by simp only [Pp.nn]; omega) (by simp only [Pp.nn]; omega) fun M z => z.1
    | @escape _ x _ hx =>
      cases h
      have := ht_nn x
      exact Bh.lin (by simp only [Pp.nn, Pp.ht]; omega) (by simp only [Pp.nn]; omega) (by simp only [Pp.nn]; omega) fun M z => ⟨z.1, z.2.l⟩
    | @case _ x y z _ _ _ hx hy hz =>
      cases h
      have := ht_nn x
      have := ht_nn y
      have := ht_nn z
      refine Bh.lin (q := .case x (.first y) (.first z) a) ?_ ?_ (by simp only [Pp.nn]; omega) fun M w => ⟨w.1, w.2.1, w.2.2.1, w.2.2.2.l⟩
      · simp only [Pp.nn, Pp.ht]; omega
      · simp only [Pp.nn]; omega
    | _ => cases h
  | @second _ p a1 _ hp => cases hp with
    | @pair _ x y _ _ hx hy =>
      cases h
      have := ht_nn q
      refine Bh.lin (by simp only [Pp.nn]; omega) (by simp only [Pp.nn]; omega) (by simp only [Pp.nn]; omega) fun M z => z.2
    | @escape _ x _ hx =>
      cases h
      have := ht_nn x
      exact Bh.lin (by simp only [Pp.nn, Pp.ht]; omega) (by simp only [Pp.nn]; omega) (by simp only [Pp.nn]; omega) fun M z => ⟨z.1, z.2.r⟩
    | @case _ x y z _ _ _ hx hy hz =>
      cases h
      have := ht_nn x
      have := ht_nn y
      have := ht_nn z
      refine Bh.lin (q := .case x (.second y) (.second z) a) ?_ ?_ (by simp only [Pp.nn]; omega) fun M w => ⟨w.1, w.2.1, w.2.2.1, w.2.2.2.r⟩
      · simp only [Pp.nn, Pp.ht]; omega
      · simp only [Pp.nn]; omega
    | _ => cases h
  | @apply _ p o a1 _ hp hq =>
    have := ht_nn o
    cases hp with
    | @make _ x _ _ hx =>
      cases h
      exact Bh.put _ (by simp only [Pp.nn]; omega) fun M z => ⟨z.1.1, z.2⟩
    | @escape _ x _ hx =>
      cases h
      have := ht_nn x
      exact Bh.lin (by simp only [Pp.nn, Pp.ht]; omega) (by simp only [Pp.nn]; omega) (by simp only [Pp.nn]; omega) fun M z => ⟨z.1.1, z.1.2.r⟩
    | @case _ x y z _ _ _ hx hy hz =>
      cases h
      have := ht_nn x
      have := ht_nn y
      have := ht_nn z
      refine Bh.lin (q := .case x (.apply y (o.mv (g.length : Int) 1)) (.apply z (o.mv (g.length : Int) 1)) a) ?_ ?_ (by simp only [Pp.nn]; omega) fun M w => ⟨w.1.1, ⟨w.1.2.1, mv_bd _ _ w.2⟩, ⟨w.1.2.2.1, mv_bd _ _ w.2⟩, w.1.2.2.2.r⟩
      · simp only [Pp.nn, Pp.ht, mv_ht]; omega
      · simp only [Pp.nn, mv_nn]; omega
    | _ => cases h
  | @case _ p o u a1 b1 _ hp hq hr =>
    have := ht_nn o
    have := ht_nn u
    cases hp with
    | @left _ x _ _ hx =>
      cases h
      exact Bh.put _ (by simp only [Pp.nn]; omega) fun M z => ⟨z.2.1, z.1.1⟩
    | @right _ x _ _ hx =>
      cases h
      exact Bh.put _ (by simp only [Pp.nn]; omega) fun M z => ⟨z.2.2.1, z.1.1⟩
    | @escape _ x _ hx =>
      cases h
      have := ht_nn x
      exact Bh.lin (by simp only [Pp.nn, Pp.ht]; omega) (by simp only [Pp.nn]; omega) (by simp only [Pp.nn]; omega) fun M z => ⟨z.1.1, z.2.2.2⟩
    | @case _ x y z _ _ _ hx hy hz =>
      cases h
      have := ht_nn x
      have := ht_nn y
      have := ht_nn z
      refine Bh.lin (q := .case x (.case y (o.mv (g.length : Int) 1) (u.mv (g.length : Int) 1) a) (.case z (o.mv (g.length : Int) 1) (u.mv (g.length : Int) 1) a) a) ?_ ?_ (by simp only [Pp.nn]; omega) fun M w => ⟨w.1.1, ⟨w.1.2.1, mv_bd _ _ w.2.1, mv_bd _ _ w.2.2.1, w.2.2.2⟩, ⟨w.1.2.2.1, mv_bd _ _ w.2.1, mv_bd _ _ w.2.2.1, w.2.2.2⟩, w.2.2.2⟩
      · simp only [Pp.nn, Pp.ht, mv_ht]; omega
      · simp only [Pp.nn, mv_nn]; omega
    | _ => cases h
  | @escape _ p c hp => cases hp with
    | @escape _ x _ hx =>
      cases h
      have := ht_nn x
      exact Bh.lin (by simp only [Pp.nn, Pp.ht]; omega) (by simp only [Pp.nn]; omega) (by simp only [Pp.nn]; omega) fun M z => ⟨z.1.1, z.2⟩
    | @case _ x y z _ _ _ hx hy hz =>
      cases h
      have := ht_nn x
      have := ht_nn y
      have := ht_nn z
      refine Bh.lin (q := .case x (.escape y a) (.escape z a) a) ?_ ?_ (by simp only [Pp.nn]; omega) fun M w => ⟨w.1.1, ⟨w.1.2.1, w.2⟩, ⟨w.1.2.2.1, w.2⟩, w.2⟩
      · simp only [Pp.nn, Pp.ht]; omega
      · simp only [Pp.nn]; omega
    | _ => cases h
  | _ => cases h
theorem kid_ty {g : List Sm} {p : Pp} {a : Sm} (t : Ty B g p a) {k : Int × Pp} (hk : k ∈ p.kids) : ∃ g' a', Ty B g' k.2 a' ∧ (g'.length : Int) = (g.length : Int) + ((p.inc k.1 : Nat) : Int) := by
  have one : ∀ y : Sm, ((g ++ [y]).length : Int) = (g.length : Int) + ((1 : Nat) : Int) := fun y => by rw [List.length_append, List.length_singleton]; omega
  have two : ((g.length : Nat) : Int) = (g.length : Int) + ((0 : Nat) : Int) := by omega
  cases t with
  | use e => cases hk
  | name e => cases hk
  | pair x y =>
    simp only [Pp.kids, List.mem_cons, List.not_mem_nil, or_false] at hk
    rcases hk with rfl | rfl
    · exact ⟨_, _, x, two⟩
    · exact ⟨_, _, y, two⟩
  | first x =>
    simp only [Pp.kids, List.mem_cons, List.not_mem_nil, or_false] at hk
    subst hk
    exact ⟨_, _, x, two⟩
  | second x =>
    simp only [Pp.kids, List.mem_cons, List.not_mem_nil, or_false] at hk
    subst hk
    exact ⟨_, _, x, two⟩
  | left x =>
    simp only [Pp.kids, List.mem_cons, List.not_mem_nil, or_false] at hk
    subst hk
    exact ⟨_, _, x, two⟩
  | right x =>
    simp only [Pp.kids, List.mem_cons, List.not_mem_nil, or_false] at hk
    subst hk
    exact ⟨_, _, x, two⟩
  | case x y z =>
    simp only [Pp.kids, List.mem_cons, List.not_mem_nil, or_false] at hk
    rcases hk with rfl | rfl | rfl
    · exact ⟨_, _, x, two⟩
    · exact ⟨_, _, y, one _⟩
    · exact ⟨_, _, z, one _⟩
  | make x =>
    simp only [Pp.kids, List.mem_cons, List.not_mem_nil, or_false] at hk
    subst hk
    exact ⟨_, _, x, one _⟩
  | apply x y =>
    simp only [Pp.kids, List.mem_cons, List.not_mem_nil, or_false] at hk
    rcases hk with rfl | rfl
    · exact ⟨_, _, x, two⟩
    · exact ⟨_, _, y, two⟩
  | escape x =>
    simp only [Pp.kids, List.mem_cons, List.not_mem_nil, or_false] at hk
    subst hk
    exact ⟨_, _, x, two⟩
theorem set1_sz {p : Pp} {k : Int × Pp} (hk : k ∈ p.kids) (x : Pp) : (p.set1 k.1 x).nn + k.2.nn = p.nn + x.nn ∧ (p.set1 k.1 x).ht ≤ max p.ht (x.ht + 1) ∧ ∀ M, p.Bd M → x.Bd M → (p.set1 k.1 x).Bd M := by
  cases p <;> simp only [Pp.kids, List.mem_cons, List.not_mem_nil, or_false] at hk
  case pair p q =>
    rcases hk with rfl | rfl
    · exact ⟨by simp only [Pp.set1, if_true, Pp.nn]; omega, by simp only [Pp.set1, if_true, Pp.ht]; omega, fun M b c => ⟨c, b.2⟩⟩
    · exact ⟨by show p.nn + x.nn + 1 + q.nn = p.nn + q.nn + 1 + x.nn; omega, by show max p.ht x.ht + 1 ≤ max (max p.ht q.ht + 1) (x.ht + 1); omega, fun M b c => ⟨b.1, c⟩⟩
  case first p =>
    subst hk
    exact ⟨by show x.nn + 1 + p.nn = p.nn + 1 + x.nn; omega, by show x.ht + 1 ≤ max (p.ht + 1) (x.ht + 1); omega, fun M b c => c⟩
  case second p =>
    subst hk
    exact ⟨by show x.nn + 1 + p.nn = p.nn + 1 + x.nn; omega, by show x.ht + 1 ≤ max (p.ht + 1) (x.ht + 1); omega, fun M b c => c⟩
  case left p s =>
    subst hk
    exact ⟨by show x.nn + 1 + p.nn = p.nn + 1 + x.nn; omega, by show x.ht + 1 ≤ max (p.ht + 1) (x.ht + 1); omega, fun M b c => ⟨c, b.2⟩⟩
  case right s p =>
    subst hk
    exact ⟨by show x.nn + 1 + p.nn = p.nn + 1 + x.nn; omega, by show x.ht + 1 ≤ max (p.ht + 1) (x.ht + 1); omega, fun M b c => ⟨c, b.2⟩⟩
  case case p q r s =>
    rcases hk with rfl | rfl | rfl
    · exact ⟨by show x.nn + q.nn + r.nn + 1 + p.nn = p.nn + q.nn + r.nn + 1 + x.nn; omega, by show max x.ht (max q.ht r.ht) + 1 ≤ max (max p.ht (max q.ht r.ht) + 1) (x.ht + 1); omega, fun M b c => ⟨c, b.2.1, b.2.2.1, b.2.2.2⟩⟩
    · exact ⟨by show p.nn + x.nn + r.nn + 1 + q.nn = p.nn + q.nn + r.nn + 1 + x.nn; omega, by show max p.ht (max x.ht r.ht) + 1 ≤ max (max p.ht (max q.ht r.ht) + 1) (x.ht + 1); omega, fun M b c => ⟨b.1, c, b.2.2.1, b.2.2.2⟩⟩
    · exact ⟨by show p.nn + q.nn + x.nn + 1 + r.nn = p.nn + q.nn + r.nn + 1 + x.nn; omega, by show max p.ht (max q.ht x.ht) + 1 ≤ max (max p.ht (max q.ht r.ht) + 1) (x.ht + 1); omega, fun M b c => ⟨b.1, b.2.1, c, b.2.2.2⟩⟩
  case make s p =>
    subst hk
    exact ⟨by show x.nn + 1 + p.nn = p.nn + 1 + x.nn; omega, by show x.ht + 1 ≤ max (p.ht + 1) (x.ht + 1); omega, fun M b c => ⟨c, b.2⟩⟩
  case apply p q =>
    rcases hk with rfl | rfl
    · exact ⟨by show x.nn + q.nn + 1 + p.nn = p.nn + q.nn + 1 + x.nn; omega, by show max x.ht q.ht + 1 ≤ max (max p.ht q.ht + 1) (x.ht + 1); omega, fun M b c => ⟨c, b.2⟩⟩
    · exact ⟨by show p.nn + x.nn + 1 + q.nn = p.nn + q.nn + 1 + x.nn; omega, by show max p.ht x.ht + 1 ≤ max (max p.ht q.ht + 1) (x.ht + 1); omega, fun M b c => ⟨b.1, c⟩⟩
  case escape p s =>
    subst hk
    exact ⟨by show x.nn + 1 + p.nn = p.nn + 1 + x.nn; omega, by show x.ht + 1 ≤ max (p.ht + 1) (x.ht + 1); omega, fun M b c => ⟨c, b.2⟩⟩
theorem kid_nn {p : Pp} {k : Int × Pp} (hk : k ∈ p.kids) : k.2.nn + 1 ≤ p.nn := by
  cases p <;> simp only [Pp.kids, List.mem_cons, List.not_mem_nil, or_false] at hk
  case pair p q => rcases hk with rfl | rfl <;> simp only [Pp.nn] <;> omega
  case first p => subst hk; exact Nat.le_refl _
  case second p => subst hk; exact Nat.le_refl _
  case left p s => subst hk; exact Nat.le_refl _
  case right s p => subst hk; exact Nat.le_refl _
  case case p q r s => rcases hk with rfl | rfl | rfl <;> simp only [Pp.nn] <;> omega
  case make s p => subst hk; exact Nat.le_refl _
  case apply p q => rcases hk with rfl | rfl <;> simp only [Pp.nn] <;> omega
  case escape p s => subst hk; exact Nat.le_refl _
theorem sq_add (k d : Nat) (h : 1 ≤ d) : k * k + d ≤ (k + d) * (k + d) := by
  rw [Nat.add_mul, Nat.mul_add, Nat.mul_add]
  have h1 : d * 1 ≤ d * d := Nat.mul_le_mul_left d h
  omega
theorem Ty.bh : ∀ (N : Nat) {g : List Sm} {p q : Pp} {a : Sm} {n : Int}, p.ht < N → Ty B g p a → n = (g.length : Int) → p.step n = some q → Bh p q
  | 0, _, _, _, _, _, h, _, _, _ => absurd h (Nat.not_lt_zero _)
  | N + 1, g, p, q, a, n, hN, t, en, h => by
    subst en
    rcases step_cases h with h | ⟨k, hk, x, hx, rfl⟩
    · exact t.bh1 h
    have hk2 : k.2.ht < N := by have := kid_ht hk; omega
    obtain ⟨g', a', t', e'⟩ := kid_ty t hk
    have b := Ty.bh N hk2 t' e'.symm hx
    obtain ⟨s1, s2, s3⟩ := set1_sz hk x
    have k1 := kid_nn hk
    have h1 := ht_nn p
    have b1 := b.ht
    have b2 := b.nn
    refine ⟨by omega, ?_, fun M y => s3 M y (b.bd M (kid_bd y hk))⟩
    obtain ⟨d, hd⟩ : ∃ d, p.nn = k.2.nn + d := ⟨p.nn - k.2.nn, by omega⟩
    have h2 := sq_add k.2.nn d (by omega)
    rw [hd]
    omega
theorem nn_wt {p : Pp} (h : p.wt ≤ 10000) : p.nn ≤ 90000 := by
  have h1 := (lvl_len p 0).2
  rw [lvl_nn] at h1
  omega
end Ob

/-! ObBj: papers of any kinds, drawn level by level: what each drawing def tells. -/
namespace Ob
open PySem PySem.Spec PyProof.Rows L2
theorem Wd.tk0 {K : PySem.W.Frag} {st : Addr} {H H' : Hp} (w : Wd st H H') : TK K H H' := w.tk
structure Gv (K : PySem.W.Frag) (H : Hp) (st pg : Addr) (gs : List V) (g : List Sm) : Prop where
  at_ : H pg = some (.lst gs)
  ne : pg ≠ st
  ps : Paired (IsSm K H) gs g
  ok : ∀ s ∈ g, s.joints ≤ 24 ∧ s.In Ch
theorem Gv.wd {K : PySem.W.Frag} {H H' : Hp} {st pg : Addr} {gs : List V} {g : List Sm} (h : Gv K H st pg gs g) (w : Wd st H H') : Gv K H' st pg gs g :=
  ⟨w.bt _ _ h.ne h.at_, h.ne, pair_map (fun _ _ i => IsSm.tk w.tk i) h.ps, h.ok⟩
theorem Gv.same {K : PySem.W.Frag} {H H' : Hp} {st pg : Addr} {gs : List V} {g : List Sm} (h : Gv K H st pg gs g) (s : Same H H') : Gv K H' st pg gs g :=
  ⟨s _ _ h.at_, h.ne, pair_map (fun _ _ i => IsSm.same s i) h.ps, h.ok⟩
theorem Gv.ln {K : PySem.W.Frag} {H : Hp} {st pg : Addr} {gs : List V} {g : List Sm} (h : Gv K H st pg gs g) : gs.length = g.length := pair_len h.ps
/-- how large a paper of so many levels is -/
def nB : Nat → Nat
  | 0 => 5
  | f + 1 => 3 * nB f + 9
def hB (f : Nat) : Nat := 3 * f + 2
theorem nB_5 : ∀ f, 5 ≤ nB f
  | 0 => Nat.le_refl _
  | f + 1 => by have := nB_5 f; show 5 ≤ 3 * nB f + 9; omega
theorem nB_mono {f m : Nat} (h : f ≤ m) : nB f ≤ nB m := by
  induction h with
  | refl => exact Nat.le_refl _
  | step h ih => exact Nat.le_trans ih (by show nB _ ≤ 3 * nB _ + 9; omega)
/-- a paper and what it shows -/
def Dr (K : PySem.W.Frag) (B : List Nat → Sm → Prop) (H : Hp) (t : Addr) (g : List Sm) (W h : Nat) (R : Sm → Prop) : Prop :=
  ∃ (vp va : V) (p : Pp) (a : Sm), SqT K H t [vp, va] ∧ IsPp K H vp p ∧ IsSm K H va a ∧ Ty B g p a ∧ p.nn ≤ W ∧ p.ht ≤ h ∧ p.Bd 30 ∧ a.In Ch ∧ R a
/-- the same, the paper told -/
def DrP (K : PySem.W.Frag) (B : List Nat → Sm → Prop) (H : Hp) (t : Addr) (g : List Sm) (W h : Nat) (R : Sm → Prop) (p : Pp) : Prop :=
  ∃ (vp va : V) (a : Sm), SqT K H t [vp, va] ∧ IsPp K H vp p ∧ IsSm K H va a ∧ Ty B g p a ∧ p.nn ≤ W ∧ p.ht ≤ h ∧ p.Bd 30 ∧ a.In Ch ∧ R a
theorem DrP.dr {K : PySem.W.Frag} {B : List Nat → Sm → Prop} {H : Hp} {t : Addr} {g : List Sm} {W h : Nat} {R : Sm → Prop} {p : Pp} (d : DrP K B H t g W h R p) : Dr K B H t g W h R := by
  obtain ⟨vp, va, a, h⟩ := d
  exact ⟨vp, va, p, a, h⟩
theorem Dr.p {K : PySem.W.Frag} {B : List Nat → Sm → Prop} {H : Hp} {t : Addr} {g : List Sm} {W h : Nat} {R : Sm → Prop} (d : Dr K B H t g W h R) : ∃ p, DrP K B H t g W h R p := by
  obtain ⟨vp, va, p, a, h⟩ := d
  exact ⟨p, vp, va, a, h⟩
theorem DrP.imp {K : PySem.W.Frag} {B : List Nat → Sm → Prop} {H : Hp} {t : Addr} {g : List Sm} {W W' h h' : Nat} {R R' : Sm → Prop} {p : Pp} (d : DrP K B H t g W h R p) (a : W ≤ W') (b : h ≤ h') (c : ∀ s, R s → R' s) : DrP K B H t g W' h' R' p := by
  obtain ⟨vp, va, s, h1, h2, h3, h4, h5, h6, h7, h8, h9⟩ := d
  exact ⟨vp, va, s, h1, h2, h3, h4, Nat.le_trans h5 a, Nat.le_trans h6 b, h7, h8, c _ h9⟩
theorem DrP.tk {K : PySem.W.Frag} {B : List Nat → Sm → Prop} {H H' : Hp} {t : Addr} {g : List Sm} {W h : Nat} {R : Sm → Prop} {p : Pp} (k : TK K H H') (d : DrP K B H t g W h R p) : DrP K B H' t g W h R p := by
  obtain ⟨vp, va, s, h1, h2, h3, h4⟩ := d
  exact ⟨vp, va, s, k _ _ h1, h2.tk k, h3.tk k, h4⟩
theorem Dr.imp {K : PySem.W.Frag} {B : List Nat → Sm → Prop} {H : Hp} {t : Addr} {g : List Sm} {W W' h h' : Nat} {R R' : Sm → Prop} (d : Dr K B H t g W h R) (a : W ≤ W') (b : h ≤ h') (c : ∀ s, R s → R' s) : Dr K B H t g W' h' R' := by
  obtain ⟨vp, va, p, s, h1, h2, h3, h4, h5, h6, h7, h8, h9⟩ := d
  exact ⟨vp, va, p, s, h1, h2, h3, h4, Nat.le_trans h5 a, Nat.le_trans h6 b, h7, h8, c _ h9⟩
def RG (a : Sm) : Prop := a.joints ≤ 24
def RS (j : J) (a : Sm) : Prop := a.joints ≤ 24 ∧ ∃ x y, a = .bin j x y
def RB (j : J) (a : Sm) : Prop := a.dp ≤ 26 ∧ ∃ x y, a = .bin j x y
def RO (a : Sm) : Prop := ∃ x y, a = .bin .or x y ∧ x.joints ≤ 24 ∧ y.joints ≤ 24
theorem RS.o {a : Sm} (h : RS .or a) : RO a := by
  obtain ⟨h, x, y, rfl⟩ := h
  have h : x.joints + y.joints + 1 ≤ 24 := h
  exact ⟨x, y, rfl, by omega, by omega⟩
def RA (j : J) (e : Sm) (a : Sm) : Prop := a.dp ≤ 26 ∧ (∃ x y, a = .bin j x y) ∧ (j = .thn → ∃ y, a = .bin .thn e y) ∧ (j = .or → RO a)
def RW (e : Sm) (a : Sm) : Prop := a.dp ≤ 26 ∧ ∃ y, a = .bin .thn e y
def sp_law_joints (K : PySem.W.Frag) (n : Nat) : Sp := fun vs H Q _ => ∃ (v : V) (s : Sm), vs = [v] ∧ IsSm K H v s ∧ s.dp < n ∧ Q (.int (s.joints : Nat)) H
def sp_law_least (K : PySem.W.Frag) (B : List Nat → Sm → Prop) : Sp := fun vs H Q _ => ∃ (pg : Addr) (gs : List V) (g : List Sm) (j : J), vs = [.ref pg, .str j.s] ∧ SqL K H pg gs ∧ gs.length = g.length ∧
  ∀ H' t, Same H H' → H t = none → Dr K B H' t g 5 2 (RS j) → Q (.ref t) H'
def sp_law_small (K : PySem.W.Frag) (B : List Nat → Sm → Prop) : Sp := fun vs H Q _ => ∃ (st pg : Addr) (gs : List V) (g : List Sm), vs = [.ref st, .ref pg] ∧ StW H st ∧ Gv K H st pg gs g ∧ g.length ≤ 1000 ∧
  ∀ H' t, Wd st H H' → Dr K B H' t g 5 2 RG → Q (.ref t) H'
def sp_law_never (K : PySem.W.Frag) (B : List Nat → Sm → Prop) (n : Nat) : Sp := fun vs H Q _ => ∃ (st pg : Addr) (gs : List V) (g : List Sm) (f : Nat), vs = [.ref st, .ref pg, .int (f : Nat)] ∧ StW H st ∧ Gv K H st pg gs g ∧ f < n ∧ g.length + 4 * f ≤ 1000 ∧
  (Sm.nv ∉ g → ∀ H', Wd st H H' → Q .non H') ∧ ∀ H' v p, Wd st H H' → IsPp K H' v p → Ty B g p .nv → p.nn ≤ nB f → p.ht ≤ hB f → p.Bd 30 → Q v H'
def sp_law_arms (K : PySem.W.Frag) (B : List Nat → Sm → Prop) (n : Nat) : Sp := fun vs H Q _ => ∃ (st pg : Addr) (gs : List V) (g : List Sm) (f : Nat) (t0 : Addr) (j : J) (ve : V) (e : Sm) (W0 h0 : Nat) (p0 : Pp), vs = [.ref st, .ref pg, .int (f : Nat), .ref t0, .str j.s, ve] ∧ StW H st ∧ Gv K H st pg gs g ∧ f < n ∧ g.length + 4 * f + 2 ≤ 1000 ∧
  DrP K B H t0 g W0 h0 RO p0 ∧ IsSm K H ve e ∧ e.joints ≤ 24 ∧ e.In Ch ∧ ∀ H' t r1 r2 c, Wd st H H' → DrP K B H' t g (W0 + 2 * nB f + 9) (max h0 (hB f + 2) + 1) (RA j e) (.case p0 r1 r2 c) → Q (.ref t) H'
def sp_law_straight (K : PySem.W.Frag) (B : List Nat → Sm → Prop) (n : Nat) : Sp := fun vs H Q _ => ∃ (st pg : Addr) (gs : List V) (g : List Sm) (f : Nat) (j : J), vs = [.ref st, .ref pg, .int (f : Nat), .str j.s] ∧ StW H st ∧ Gv K H st pg gs g ∧ f < n ∧ g.length + 4 * f + 2 ≤ 1000 ∧
  ∀ H' t, Wd st H H' → Dr K B H' t g (nB (f + 1)) (hB (f + 1)) (RB j) → Q (.ref t) H'
def sp_law_shaped (K : PySem.W.Frag) (B : List Nat → Sm → Prop) (n : Nat) : Sp := fun vs H Q _ => ∃ (st pg : Addr) (gs : List V) (g : List Sm) (f : Nat) (j : J), vs = [.ref st, .ref pg, .int (f : Nat), .str j.s] ∧ StW H st ∧ Gv K H st pg gs g ∧ f < n ∧ g.length + 4 * f ≤ 1000 ∧
  ∀ H' t, Wd st H H' → Dr K B H' t g (nB f) (hB f) (RS j) → Q (.ref t) H'
def sp_law_shaped_by (K : PySem.W.Frag) (B : List Nat → Sm → Prop) (n : Nat) : Sp := fun vs H Q _ => ∃ (st pg : Addr) (gs : List V) (g : List Sm) (f : Nat) (j : J) (w : Int), vs = [.ref st, .ref pg, .int (f : Nat), .str j.s, .int w] ∧ StW H st ∧ Gv K H st pg gs g ∧ f < n ∧ g.length + 4 * f + 4 ≤ 1000 ∧
  ∀ H' t, Wd st H H' → Dr K B H' t g (nB (f + 1)) (hB (f + 1)) (RB j) → Q (.ref t) H'
def sp_law_way (K : PySem.W.Frag) (B : List Nat → Sm → Prop) (n : Nat) : Sp := fun vs H Q _ => ∃ (st pg : Addr) (gs : List V) (g : List Sm) (f : Nat) (va : V) (a : Sm), vs = [.ref st, .ref pg, .int (f : Nat), va] ∧ StW H st ∧ Gv K H st pg gs g ∧ f < n ∧ g.length + 4 * f + 2 ≤ 1000 ∧ IsSm K H va a ∧ a.joints ≤ 24 ∧ a.In Ch ∧
  ∀ H' t, Wd st H H' → Dr K B H' t g (nB f + 1) (hB f + 1) (RW a) → Q (.ref t) H'
def sp_law_grown (K : PySem.W.Frag) (B : List Nat → Sm → Prop) (n : Nat) : Sp := fun vs H Q _ => ∃ (st pg : Addr) (gs : List V) (g : List Sm) (f : Nat), vs = [.ref st, .ref pg, .int (f : Nat)] ∧ StW H st ∧ Gv K H st pg gs g ∧ f < n ∧ g.length + 4 * f ≤ 1000 ∧
  ∀ H' t, Wd st H H' → Dr K B H' t g (nB f) (hB f) RG → Q (.ref t) H'
/-- no names -/
abbrev BN : List Nat → Sm → Prop := fun _ _ => False
theorem word3 {k : Nat} (h : k < 3) : ∃ j : J, [V.str "and", V.str "or", V.str "then"][k]? = some (.str j.s) := by
  match k, h with
  | 0, _ => exact ⟨.and, rfl⟩
  | 1, _ => exact ⟨.or, rfl⟩
  | 2, _ => exact ⟨.thn, rfl⟩
set_option exponentiation.threshold 5000 in
theorem lt4000 {m : Int} (h : m ≤ 100000) : m < 2 ^ 4000 := Int.lt_of_le_of_lt h (by decide)
def selN (c : Nat → Bool) (i : Nat) : List Nat := (List.range i).filter c
theorem selN_succ (c : Nat → Bool) (i : Nat) : selN c (i + 1) = if c i = true then selN c i ++ [i] else selN c i := by
  unfold selN
  rw [List.range_succ, List.filter_append]
  cases e : c i with
  | true => rw [if_pos rfl]; simp [e]
  | false => rw [if_neg (fun z => nomatch z)]; simp [e]
theorem mem_selN {c : Nat → Bool} {i j : Nat} : j ∈ selN c i ↔ j < i ∧ c j = true := by
  unfold selN
  rw [List.mem_filter, List.mem_range]
theorem len_selN (c : Nat → Bool) (i : Nat) : (selN c i).length ≤ i := by
  unfold selN
  have := List.length_filter_le c (List.range i)
  rw [List.length_range] at this
  exact this
theorem ints_natN (l : List Nat) : (l.map fun k => V.int (k : Nat)) = (l.map fun k => ((k : Nat) : Int)).map V.int := by rw [List.map_map]; rfl
theorem Sm.Nl.j {e : Sm} (ne : e.Nl) : e.joints ≤ 24 := by
  have h1 := ne.1
  cases e with
  | lt _ => exact Nat.zero_le _
  | nv => exact Nat.zero_le _
  | bin w x y =>
    have h1 : max x.dp y.dp + 1 ≤ 1 := h1
    have hx : x.joints = 0 := by cases x <;> first | rfl | (simp [Sm.dp] at h1)
    have hy : y.joints = 0 := by cases y <;> first | rfl | (simp [Sm.dp] at h1)
    show x.joints + y.joints + 1 ≤ 24
    omega
theorem or_ints {σ : L2.St} {H : Hp} {Q : Bool → Hp → Prop} {i k : Nat} {a b c d : Int} (hx : σ[i]? = some (some (.int a))) (hy : σ[k]? = some (some (.int c))) (ht : (a = b ∨ c = d) → Q true H) (hf : a ≠ b → c ≠ d → Q false H) :
    tOr (tTest (tOp rEq (tVar i) (tC (.int b)))) (tTest (tOp rEq (tVar k) (tC (.int d)))) σ H Q := by
  by_cases h1 : a = b
  · subst h1
    exact ⟨_, hx, rfl, _, rfl, iteT' (decide_eq_true rfl) (ht (.inl rfl))⟩
  · refine ⟨_, hx, rfl, _, rfl, iteF' (decide_eq_false fun e => h1 (by injection e)) ?_⟩
    by_cases h2 : c = d
    · subst h2
      refine ⟨_, hy, rfl, _, rfl, ?_⟩
      rw [show decide (V.int c = V.int c) = true from decide_eq_true rfl]
      exact ht (.inr rfl)
    · refine ⟨_, hy, rfl, _, rfl, ?_⟩
      rw [show decide (V.int c = V.int d) = false from decide_eq_false fun e => h2 (by injection e)]
      exact hf h1 h2
theorem pair_getr {α β : Type} {R : α → β → Prop} {xs : List α} {ys : List β} (h : Paired R xs ys) {k : Nat} {b : β} (e : ys[k]? = some b) : ∃ a, xs[k]? = some a ∧ R a b := by
  have hl := pair_len h
  have hk : k < xs.length := by have := (List.getElem?_eq_some_iff.mp e).1; omega
  obtain ⟨b', e', r⟩ := pair_get h (List.getElem?_eq_getElem hk)
  rw [e] at e'
  cases e'
  exact ⟨_, List.getElem?_eq_getElem hk, r⟩
theorem Dr.tk {K : PySem.W.Frag} {B : List Nat → Sm → Prop} {H H' : Hp} {t : Addr} {g : List Sm} {W h : Nat} {R : Sm → Prop} (k : TK K H H') (d : Dr K B H t g W h R) : Dr K B H' t g W h R := by
  obtain ⟨vp, va, p, s, h1, h2, h3, h4⟩ := d
  exact ⟨vp, va, p, s, k _ _ h1, h2.tk k, h3.tk k, h4⟩
/-- the givens and one more -/
theorem Gv.snoc {K : PySem.W.Frag} {H H1 : Hp} {st pg p l : Addr} {gs : List V} {g : List Sm} {v : V} {a : Sm} (h : Gv K H st pg gs g) (hw : StW H st) (np : H p = none) (nl : (upd H p (.lst [v])) l = none) (ia : IsSm K H v a) (ja : a.joints ≤ 24) (ca : a.In Ch) (e : upd (upd H p (.lst [v])) l (.lst (gs ++ [v])) = H1) :
    Wd st H H1 ∧ Same H H1 ∧ Gv K H1 st l (gs ++ [v]) (g ++ [a]) := by
  subst e
  have s1 := same_new (o := .lst [v]) np
  have s2 := same_new (o := .lst (gs ++ [v])) nl
  have s12 := s1.trans s2
  have nls : l ≠ st := Wd.ne (Wd.of hw s1).w1 nl
  refine ⟨Wd.of hw s12, s12, upd_same, nls, pair_app (pair_map (fun _ _ i => IsSm.same s12 i) h.ps) (.cons (ia.same s12) .nil), fun s hs => ?_⟩
  rcases List.mem_append.mp hs with hs | hs
  · exact h.ok s hs
  · rw [List.mem_singleton.mp hs]
    exact ⟨ja, ca⟩
end Ob

/-! ObBk: what a paper shows, all that its parts show being no deeper than N. -/
namespace Ob
open PySem PySem.Spec PyProof.Rows L2
inductive Tn (B : List Nat → Sm → Prop) (N : Nat) : List Sm → Pp → Sm → Prop where
  | use {g : List Sm} {k : Nat} {s : Sm} (r : s.Bd N) (h : g[k]? = some s) : Tn B N g (.use (k : Int)) s
  | name {g : List Sm} {n : List Nat} {s : Sm} (r : s.Bd N) (h : B n s) : Tn B N g (.name n) s
  | pair {g : List Sm} {p q : Pp} {a b : Sm} (r : (Sm.bin .and a b).Bd N) (hp : Tn B N g p a) (hq : Tn B N g q b) : Tn B N g (.pair p q) (.bin .and a b)
  | first {g : List Sm} {p : Pp} {a b : Sm} (r : a.Bd N) (hp : Tn B N g p (.bin .and a b)) : Tn B N g (.first p) a
  | second {g : List Sm} {p : Pp} {a b : Sm} (r : b.Bd N) (hp : Tn B N g p (.bin .and a b)) : Tn B N g (.second p) b
  | left {g : List Sm} {p : Pp} {a b : Sm} (r : (Sm.bin .or a b).Bd N) (hp : Tn B N g p a) : Tn B N g (.left p b) (.bin .or a b)
  | right {g : List Sm} {p : Pp} {a b : Sm} (r : (Sm.bin .or a b).Bd N) (hp : Tn B N g p b) : Tn B N g (.right a p) (.bin .or a b)
  | case {g : List Sm} {p q r' : Pp} {a b c : Sm} (r : c.Bd N) (hp : Tn B N g p (.bin .or a b)) (hq : Tn B N (g ++ [a]) q c) (hr : Tn B N (g ++ [b]) r' c) : Tn B N g (.case p q r' c) c
  | make {g : List Sm} {p : Pp} {a b : Sm} (r : (Sm.bin .thn a b).Bd N) (hp : Tn B N (g ++ [a]) p b) : Tn B N g (.make a p) (.bin .thn a b)
  | apply {g : List Sm} {p q : Pp} {a b : Sm} (r : b.Bd N) (hp : Tn B N g p (.bin .thn a b)) (hq : Tn B N g q a) : Tn B N g (.apply p q) b
  | escape {g : List Sm} {p : Pp} {c : Sm} (r : c.Bd N) (hp : Tn B N g p .nv) : Tn B N g (.escape p c) c
variable {B : List Nat → Sm → Prop} {N : Nat}
theorem Tn.bd {g : List Sm} {p : Pp} {a : Sm} (t : Tn B N g p a) : a.Bd N := by cases t <;> assumption
theorem Tn.ty {g : List Sm} {p : Pp} {a : Sm} (t : Tn B N g p a) : Ty B g p a := by
  induction t with
  | use _ h => exact .use h
  | name _ h => exact .name h
  | pair _ _ _ i j => exact .pair i j
  | first _ _ i => exact .first i
  | second _ _ i => exact .second i
  | left _ _ i => exact .left i
  | right _ _ i => exact .right i
  | case _ _ _ _ i j k => exact .case i j k
  | make _ _ i => exact .make i
  | apply _ _ _ i j => exact .apply i j
  | escape _ _ i => exact .escape i
theorem Tn.mv (g m : List Sm) : ∀ {p : Pp} {h : List Sm} {a : Sm}, Tn B N (g ++ h) p a → Tn B N (g ++ m ++ h) (p.mv (g.length : Int) (m.length : Int)) a
  | _, h, _, .use (k := k) (s := s) rb e => by
    show Tn B N _ (.use ((k : Int) + (m.length : Int) * (if (g.length : Int) ≤ (k : Int) then 1 else 0))) s
    by_cases hk : g.length ≤ k
    · rw [if_pos (by omega), Int.mul_one, show (k : Int) + (m.length : Int) = ((k + m.length : Nat) : Int) by omega]
      refine .use rb ?_
      rw [List.getElem?_append_right hk] at e
      rw [List.append_assoc, List.getElem?_append_right (by omega), List.getElem?_append_right (by omega), show k + m.length - g.length - m.length = k - g.length by omega]
      exact e
    · rw [if_neg (by omega), Int.mul_zero, Int.add_zero]
      refine .use rb ?_
      rw [List.getElem?_append_left (by omega)] at e
      rw [List.append_assoc, List.getElem?_append_left (by omega)]
      exact e
  | _, _, _, .name rb e => .name rb e
  | _, _, _, .pair rb p q => .pair rb (Tn.mv g m p) (Tn.mv g m q)
  | _, _, _, .first rb p => .first rb (Tn.mv g m p)
  | _, _, _, .second rb p => .second rb (Tn.mv g m p)
  | _, _, _, .left rb p => .left rb (Tn.mv g m p)
  | _, _, _, .right rb p => .right rb (Tn.mv g m p)
  | _, h, _, .case (a := a) (b := b) rb p q r => by
    rw [List.append_assoc] at q r
    have q' := Tn.mv g m (h := h ++ [a]) q
    have r' := Tn.mv g m (h := h ++ [b]) r
    rw [← List.append_assoc] at q' r'
    exact .case rb (Tn.mv g m p) q' r'
  | _, h, _, .make (a := a) rb p => by
    rw [List.append_assoc] at p
    have p' := Tn.mv g m (h := h ++ [a]) p
    rw [← List.append_assoc] at p'
    exact .make rb p'
  | _, _, _, .apply rb p q => .apply rb (Tn.mv g m p) (Tn.mv g m q)
  | _, _, _, .escape rb p => .escape rb (Tn.mv g m p)
theorem Tn.mv1 {g : List Sm} {p : Pp} {a : Sm} (x : Sm) (t : Tn B N g p a) : Tn B N (g ++ [x]) (p.mv (g.length : Int) 1) a := by
  have t' : Tn B N (g ++ []) p a := by rw [List.append_nil]; exact t
  have h := Tn.mv g [x] t'
  rw [List.append_nil] at h
  exact h
theorem Tn.mv2 {g : List Sm} {p : Pp} {a y : Sm} (x : Sm) (t : Tn B N (g ++ [y]) p a) : Tn B N (g ++ [x] ++ [y]) (p.mv (g.length : Int) 1) a := Tn.mv g [x] t
theorem Tn.put {g : List Sm} {s : Sm} {o : Pp} (ho : Tn B N g o s) : ∀ {p : Pp} {h : List Sm} {a : Sm}, Tn B N (g ++ [s] ++ h) p a → Tn B N (g ++ h) (p.rem (putG (g.length : Int) o) h.length) a
  | _, h, _, .use (k := k) (s := x) rb e => by
    show Tn B N _ (if (k : Int) < (g.length : Int) then .use (k : Int) else if (k : Int) = (g.length : Int) then o.mv (g.length : Int) (h.length : Nat) else .use ((k : Int) - 1)) x
    by_cases h1 : k < g.length
    · rw [if_pos (by omega)]
      refine .use rb ?_
      rw [List.append_assoc, List.getElem?_append_left h1] at e
      rw [List.getElem?_append_left h1]
      exact e
    · rw [if_neg (by omega)]
      by_cases h2 : k = g.length
      · rw [if_pos (by omega)]
        rw [List.append_assoc, List.getElem?_append_right (by omega), h2, Nat.sub_self] at e
        cases e
        have o' : Tn B N (g ++ []) o s := by rw [List.append_nil]; exact ho
        have t := Tn.mv g h o'
        rw [List.append_nil] at t
        exact t
      · rw [if_neg (by omega), show (k : Int) - 1 = ((k - 1 : Nat) : Int) by omega]
        refine .use rb ?_
        rw [List.append_assoc, List.getElem?_append_right (by omega), List.getElem?_append_right (by simp; omega)] at e
        rw [List.getElem?_append_right (by omega)]
        rw [List.length_singleton] at e
        rw [show k - 1 - g.length = k - g.length - 1 by omega]
        exact e
  | _, _, _, .name rb e => .name rb e
  | _, _, _, .pair rb p q => .pair rb (Tn.put ho p) (Tn.put ho q)
  | _, _, _, .first rb p => .first rb (Tn.put ho p)
  | _, _, _, .second rb p => .second rb (Tn.put ho p)
  | _, _, _, .left rb p => .left rb (Tn.put ho p)
  | _, _, _, .right rb p => .right rb (Tn.put ho p)
  | _, h, _, .case (a := a) (b := b) rb p q r => by
    rw [List.append_assoc] at q r
    have q' := Tn.put ho (h := h ++ [a]) q
    have r' := Tn.put ho (h := h ++ [b]) r
    rw [← List.append_assoc, List.length_append, List.length_singleton] at q' r'
    exact .case rb (Tn.put ho p) q' r'
  | _, h, _, .make (a := a) rb p => by
    rw [List.append_assoc] at p
    have p' := Tn.put ho (h := h ++ [a]) p
    rw [← List.append_assoc, List.length_append, List.length_singleton] at p'
    exact .make rb p'
  | _, _, _, .apply rb p q => .apply rb (Tn.put ho p) (Tn.put ho q)
  | _, _, _, .escape rb p => .escape rb (Tn.put ho p)
theorem Tn.put0 {g : List Sm} {s : Sm} {o p : Pp} {a : Sm} (ho : Tn B N g o s) (t : Tn B N (g ++ [s]) p a) : Tn B N g (p.rem (putG (g.length : Int) o) 0) a := by
  have t' : Tn B N (g ++ [s] ++ []) p a := by rw [List.append_nil]; exact t
  have h := Tn.put ho t'
  rw [List.append_nil] at h
  exact h
/-- a step at the paper itself -/
theorem Tn.taken {g : List Sm} {p q : Pp} {a : Sm} (t : Tn B N g p a) (h : p.taken (g.length : Int) = some q) : Tn B N g q a := by
  cases t with
  | first rb hp => cases hp with
    | pair _ x y => cases h; exact x
    | _ => cases h
  | second rb hp => cases hp with
    | pair _ x y => cases h; exact y
    | _ => cases h
  | apply rb hp hq => cases hp with
    | make _ x => cases h; exact Tn.put0 hq x
    | _ => cases h
  | case rb hp hq hr => cases hp with
    | left _ x => cases h; exact Tn.put0 x hq
    | right _ x => cases h; exact Tn.put0 x hr
    | _ => cases h
  | _ => cases h
theorem Tn.lifted {g : List Sm} {p q : Pp} {a : Sm} (t : Tn B N g p a) (h : p.lifted (g.length : Int) = some q) : Tn B N g q a := by
  cases t with
  | first rb hp => cases hp with
    | escape _ x => cases h; exact .escape rb x
    | case _ x y z => cases h; exact .case rb x (.first rb y) (.first rb z)
    | _ => cases h
  | second rb hp => cases hp with
    | escape _ x => cases h; exact .escape rb x
    | case _ x y z => cases h; exact .case rb x (.second rb y) (.second rb z)
    | _ => cases h
  | apply rb hp hq => cases hp with
    | escape _ x => cases h; exact .escape rb x
    | case _ x y z => cases h; exact .case rb x (.apply rb y (hq.mv1 _)) (.apply rb z (hq.mv1 _))
    | _ => cases h
  | case rb hp hq hr => cases hp with
    | escape _ x => cases h; exact .escape rb x
    | case _ x y z => cases h; exact .case rb x (.case rb y (hq.mv2 _) (hr.mv2 _)) (.case rb z (hq.mv2 _) (hr.mv2 _))
    | _ => cases h
  | escape rb hp => cases hp with
    | escape _ x => cases h; exact .escape rb x
    | case _ x y z => cases h; exact .case rb x (.escape rb y) (.escape rb z)
    | _ => cases h
  | _ => cases h
theorem Tn.stepped {g : List Sm} {p q : Pp} {a : Sm} (t : Tn B N g p a) (h : p.stepped (g.length : Int) = some q) : Tn B N g q a := by
  unfold Pp.stepped at h
  cases e : p.taken (g.length : Int) with
  | some x => rw [e] at h; cases h; exact t.taken e
  | none => rw [e] at h; exact t.lifted h
theorem Tn.step : ∀ (m : Nat) {g : List Sm} {p q : Pp} {a : Sm}, p.ht < m → Tn B N g p a → p.step (g.length : Int) = some q → Tn B N g q a
  | 0, _, _, _, _, h, _, _ => absurd h (Nat.not_lt_zero _)
  | m + 1, g, p, q, a, hN, t, h => by
    rcases step_cases h with h | ⟨k, hk, x, hx, rfl⟩
    · exact t.stepped h
    have hk2 : k.2.ht < m := by have := kid_ht hk; omega
    have one : ∀ y : Sm, ((g ++ [y]).length : Int) = (g.length : Int) + ((1 : Nat) : Int) := fun y => by rw [List.length_append, List.length_singleton]; omega
    have two : ((g.length : Nat) : Int) = (g.length : Int) + ((0 : Nat) : Int) := by omega
    cases t with
    | use rb e => cases hk
    | name rb e => cases hk
    | pair rb x y =>
      simp only [Pp.kids, List.mem_cons, List.not_mem_nil, or_false] at hk
      rcases hk with rfl | rfl
      · exact .pair rb (Tn.step m hk2 x (by rw [two]; exact hx)) y
      · exact .pair rb x (Tn.step m hk2 y (by rw [two]; exact hx))
    | first rb x =>
      simp only [Pp.kids, List.mem_cons, List.not_mem_nil, or_false] at hk
      subst hk
      exact .first rb (Tn.step m hk2 x (by rw [two]; exact hx))
    | second rb x =>
      simp only [Pp.kids, List.mem_cons, List.not_mem_nil, or_false] at hk
      subst hk
      exact .second rb (Tn.step m hk2 x (by rw [two]; exact hx))
    | left rb x =>
      simp only [Pp.kids, List.mem_cons, List.not_mem_nil, or_false] at hk
      subst hk
      exact .left rb (Tn.step m hk2 x (by rw [two]; exact hx))
    | right rb x =>
      simp only [Pp.kids, List.mem_cons, List.not_mem_nil, or_false] at hk
      subst hk
      exact .right rb (Tn.step m hk2 x (by rw [two]; exact hx))
    | case rb x y z =>
      simp only [Pp.kids, List.mem_cons, List.not_mem_nil, or_false] at hk
      rcases hk with rfl | rfl | rfl
      · exact .case rb (Tn.step m hk2 x (by rw [two]; exact hx)) y z
      · exact .case rb x (Tn.step m hk2 y (by rw [one]; exact hx)) z
      · exact .case rb x y (Tn.step m hk2 z (by rw [one]; exact hx))
    | make rb x =>
      simp only [Pp.kids, List.mem_cons, List.not_mem_nil, or_false] at hk
      subst hk
      exact .make rb (Tn.step m hk2 x (by rw [one]; exact hx))
    | apply rb x y =>
      simp only [Pp.kids, List.mem_cons, List.not_mem_nil, or_false] at hk
      rcases hk with rfl | rfl
      · exact .apply rb (Tn.step m hk2 x (by rw [two]; exact hx)) y
      · exact .apply rb x (Tn.step m hk2 y (by rw [two]; exact hx))
    | escape rb x =>
      simp only [Pp.kids, List.mem_cons, List.not_mem_nil, or_false] at hk
      subst hk
      exact .escape rb (Tn.step m hk2 x (by rw [two]; exact hx))
/-- all that is shown within is no deeper than the givens and the paper's size -/
theorem Ty.tb {g : List Sm} {p : Pp} {a : Sm} (t : Ty B g p a) : ∀ {M0 M : Nat}, M0 ≤ M → (∀ s ∈ g, s.Bd M) → (∀ n s, B n s → s.Bd M0) → p.Bd M0 → M + p.nn ≤ N → Tn B N g p a ∧ a.Bd (M + p.nn) := by
  induction t with
  | @use g k s h =>
    intro M0 M hM hg hB hb hN
    have b := hg s (List.mem_of_getElem? h)
    have hN : M + 1 ≤ N := hN
    exact ⟨.use ⟨by have := b.1; omega, b.2⟩ h, ⟨by have := b.1; show s.dp ≤ M + 1; omega, b.2⟩⟩
  | @name g n s h =>
    intro M0 M hM hg hB hb hN
    have b := hB n s h
    have hN : M + 1 ≤ N := hN
    exact ⟨.name ⟨by have := b.1; omega, b.2⟩ h, ⟨by have := b.1; show s.dp ≤ M + 1; omega, b.2⟩⟩
  | @pair g p q a b _ _ i j =>
    intro M0 M hM hg hB hb hN
    have hN : M + (p.nn + q.nn + 1) ≤ N := hN
    obtain ⟨t1, b1⟩ := i hM hg hB hb.1 (by omega)
    obtain ⟨t2, b2⟩ := j hM hg hB hb.2 (by omega)
    have h1 := b1.1
    have h2 := b2.1
    have d : (Sm.bin J.and a b).dp ≤ M + (p.nn + q.nn + 1) := by show max a.dp b.dp + 1 ≤ _; omega
    exact ⟨.pair ⟨by omega, b1.2, b2.2⟩ t1 t2, ⟨d, b1.2, b2.2⟩⟩
  | @first g p a b _ i =>
    intro M0 M hM hg hB hb hN
    have hN : M + (p.nn + 1) ≤ N := hN
    obtain ⟨t1, b1⟩ := i hM hg hB hb (by omega)
    have h1 := b1.l.1
    exact ⟨.first ⟨by omega, b1.l.2⟩ t1, ⟨by show a.dp ≤ M + (p.nn + 1); omega, b1.l.2⟩⟩
  | @second g p a b _ i =>
    intro M0 M hM hg hB hb hN
    have hN : M + (p.nn + 1) ≤ N := hN
    obtain ⟨t1, b1⟩ := i hM hg hB hb (by omega)
    have h1 := b1.r.1
    exact ⟨.second ⟨by omega, b1.r.2⟩ t1, ⟨by show b.dp ≤ M + (p.nn + 1); omega, b1.r.2⟩⟩
  | @left g p a b _ i =>
    intro M0 M hM hg hB hb hN
    have hN : M + (p.nn + 1) ≤ N := hN
    obtain ⟨t1, b1⟩ := i hM hg hB hb.1 (by omega)
    have h1 := b1.1
    have h2 := hb.2.1
    have d : (Sm.bin J.or a b).dp ≤ M + (p.nn + 1) := by show max a.dp b.dp + 1 ≤ _; omega
    exact ⟨.left ⟨by omega, b1.2, hb.2.2⟩ t1, ⟨d, b1.2, hb.2.2⟩⟩
  | @right g p a b _ i =>
    intro M0 M hM hg hB hb hN
    have hN : M + (p.nn + 1) ≤ N := hN
    obtain ⟨t1, b1⟩ := i hM hg hB hb.1 (by omega)
    have h1 := b1.1
    have h2 := hb.2.1
    have d : (Sm.bin J.or a b).dp ≤ M + (p.nn + 1) := by show max a.dp b.dp + 1 ≤ _; omega
    exact ⟨.right ⟨by omega, hb.2.2, b1.2⟩ t1, ⟨d, hb.2.2, b1.2⟩⟩
  | @case g p q r a b c _ _ _ i j k =>
    intro M0 M hM hg hB hb hN
    have hN : M + (p.nn + q.nn + r.nn + 1) ≤ N := hN
    obtain ⟨t1, b1⟩ := i hM hg hB hb.1 (by omega)
    have bl := b1.l
    have br := b1.r
    have up : ∀ z : Sm, z.Bd (M + p.nn) → ∀ s ∈ g ++ [z], s.Bd (M + p.nn) := fun z hz s hs => by
      rcases List.mem_append.mp hs with hs | hs
      · have b := hg s hs
        exact ⟨by have := b.1; omega, b.2⟩
      · rw [List.mem_singleton.mp hs]
        exact hz
    obtain ⟨t2, b2⟩ := j (M := M + p.nn) (by omega) (up a bl) hB hb.2.1 (by omega)
    obtain ⟨t3, b3⟩ := k (M := M + p.nn) (by omega) (up b br) hB hb.2.2.1 (by omega)
    have h1 := hb.2.2.2.1
    exact ⟨.case ⟨by omega, hb.2.2.2.2⟩ t1 t2 t3, ⟨by show c.dp ≤ M + (p.nn + q.nn + r.nn + 1); omega, hb.2.2.2.2⟩⟩
  | @make g p a b _ i =>
    intro M0 M hM hg hB hb hN
    have hN : M + (p.nn + 1) ≤ N := hN
    have h2 := hb.2.1
    obtain ⟨t1, b1⟩ := i hM (fun s hs => by
      rcases List.mem_append.mp hs with hs | hs
      · exact hg s hs
      · rw [List.mem_singleton.mp hs]
        exact ⟨by omega, hb.2.2⟩) hB hb.1 (by omega)
    have h1 := b1.1
    have d : (Sm.bin J.thn a b).dp ≤ M + (p.nn + 1) := by show max a.dp b.dp + 1 ≤ _; omega
    exact ⟨.make ⟨by omega, hb.2.2, b1.2⟩ t1, ⟨d, hb.2.2, b1.2⟩⟩
  | @apply g p q a b _ _ i j =>
    intro M0 M hM hg hB hb hN
    have hN : M + (p.nn + q.nn + 1) ≤ N := hN
    obtain ⟨t1, b1⟩ := i hM hg hB hb.1 (by omega)
    obtain ⟨t2, b2⟩ := j hM hg hB hb.2 (by omega)
    have h1 := b1.r.1
    exact ⟨.apply ⟨by omega, b1.r.2⟩ t1 t2, ⟨by show b.dp ≤ M + (p.nn + q.nn + 1); omega, b1.r.2⟩⟩
  | @escape g p c _ i =>
    intro M0 M hM hg hB hb hN
    have hN : M + (p.nn + 1) ≤ N := hN
    obtain ⟨t1, b1⟩ := i hM hg hB hb.1 (by omega)
    have h1 := hb.2.1
    exact ⟨.escape ⟨by omega, hb.2.2⟩ t1, ⟨by show c.dp ≤ M + (p.nn + 1); omega, hb.2.2⟩⟩
end Ob

/-! ObBl: behind some drawing and some calls that make functions. -/
namespace Ob
open PySem PySem.Spec PyProof.Rows L2
structure Wt (st : Addr) (TT : List (Addr × Str)) (H H' : Hp) : Prop where
  bt : ExtB st H H'
  w1 : StW H' st
  tb : LamX.Tabs TT H'
theorem Wt.wd {st : Addr} {TT : List (Addr × Str)} {H H1 H2 : Hp} (a : Wt st TT H H1) (b : Wd st H1 H2) : Wt st TT H H2 := by
  obtain ⟨xs, h⟩ := a.w1.lst
  exact ⟨a.bt.trans (ExtB.ofB b.bt), b.w1, Tabs.but a.tb b.bt h⟩
theorem Wt.ext {st : Addr} {TT : List (Addr × Str)} {H H1 H2 : Hp} (a : Wt st TT H H1) (e : LamX.ExtN H1 H2) (t : LamX.Tabs TT H2) : Wt st TT H H2 := by
  obtain ⟨x, y, z, h⟩ := a.w1
  exact ⟨a.bt.trans (ExtB.of e), ⟨x, y, z, e _ _ h fun _ z => nomatch z⟩, t⟩
theorem Wt.same {st : Addr} {TT : List (Addr × Str)} {H H1 H2 : Hp} (a : Wt st TT H H1) (e : Same H1 H2) : Wt st TT H H2 := a.ext (LamX.ExtN.of e) (Tabs.same a.tb e)
theorem Wt.of {st : Addr} {TT : List (Addr × Str)} {H H1 : Hp} (t : LamX.Tabs TT H) (b : Wd st H H1) : Wt st TT H H1 := by
  obtain ⟨xs, h⟩ := b.w0.lst
  exact ⟨ExtB.ofB b.bt, b.w1, Tabs.but t b.bt h⟩
theorem ext_out {st : Addr} {H6 H7 H8 HP : Hp} (s7 : LamX.ExtN H6 H7) (nst : H7 st = none) (s8 : Same H7 H8) (b : ExtB st H8 HP) : LamX.ExtN H6 HP := fun c o h n => b c o (fun z => by
  have w := s7 c o h n
  rw [z, nst] at w
  cases w) (s8 _ _ (s7 c o h n)) n
end Ob

/-! ObBm: a paper's parts changed one behind the other. -/
namespace Ob
open PySem PySem.Spec PyProof.Rows L2
def kfold (F : Int × Pp → Pp) (p : Pp) (j : Nat) : Pp := (p.kids.take j).foldl (fun q k => q.set1 k.1 (F k)) p
theorem kfold_zero (F : Int × Pp → Pp) (p : Pp) : kfold F p 0 = p := rfl
theorem kfold_succ {F : Int × Pp → Pp} {p : Pp} {j : Nat} {k : Int × Pp} (h : p.kids[j]? = some k) : kfold F p (j + 1) = (kfold F p j).set1 k.1 (F k) := by
  unfold kfold
  rw [List.take_succ, h]
  show List.foldl _ p (p.kids.take j ++ [k]) = _
  rw [List.foldl_append]
  rfl
theorem kfold_wd (F : Int × Pp → Pp) (p : Pp) : ∀ j : Nat, (kfold F p j).wd = p.wd := by
  have h : ∀ (q : Pp) (i : Int) (x : Pp), (q.set1 i x).wd = q.wd := fun q i x => by
    cases q <;> simp only [Pp.set1] <;> (repeat' split) <;> rfl
  intro j
  unfold kfold
  generalize p.kids.take j = l
  have g : ∀ (l : List (Int × Pp)) (q : Pp), (l.foldl (fun q k => q.set1 k.1 (F k)) q).wd = q.wd := by
    intro l
    induction l with
    | nil => intro q; rfl
    | cons k r ih => intro q; rw [List.foldl_cons, ih, h]
  exact g l p
theorem kfold_kid {F : Int × Pp → Pp} {p : Pp} {j : Nat} {k : Int × Pp} (h : p.kids[j]? = some k) : k ∈ (kfold F p j).kids := by
  cases p with
  | use _ => cases h
  | name _ => cases h
  | pair a b =>
    match j, h with
    | 0, h => cases h; exact List.mem_cons_self ..
    | 1, h => cases h; exact List.mem_cons_of_mem _ (List.mem_cons_self ..)
  | apply a b =>
    match j, h with
    | 0, h => cases h; exact List.mem_cons_self ..
    | 1, h => cases h; exact List.mem_cons_of_mem _ (List.mem_cons_self ..)
  | first a => match j, h with | 0, h => cases h; exact List.mem_cons_self ..
  | second a => match j, h with | 0, h => cases h; exact List.mem_cons_self ..
  | left a _ => match j, h with | 0, h => cases h; exact List.mem_cons_self ..
  | right _ a => match j, h with | 0, h => cases h; exact List.mem_cons_self ..
  | make _ a => match j, h with | 0, h => cases h; exact List.mem_cons_self ..
  | escape a _ => match j, h with | 0, h => cases h; exact List.mem_cons_self ..
  | case a b c _ =>
    match j, h with
    | 0, h => cases h; exact List.mem_cons_self ..
    | 1, h => cases h; exact List.mem_cons_of_mem _ (List.mem_cons_self ..)
    | 2, h => cases h; exact List.mem_cons_of_mem _ (List.mem_cons_of_mem _ (List.mem_cons_self ..))
theorem kfold_inc (F : Int × Pp → Pp) (p : Pp) (j : Nat) (i : Int) : (kfold F p j).inc i = p.inc i := by
  unfold Pp.inc
  rw [kfold_wd]
theorem kfold_mv (a b : Int) {p : Pp} (h : ∀ k, p ≠ .use k) : kfold (fun k => k.2.mv a b) p p.kids.length = p.mv a b := by
  cases p <;> first | exact absurd rfl (h _) | rfl
theorem kfold_put (a : Int) (o : Pp) (m : Nat) {p : Pp} (h : ∀ k, p ≠ .use k) : kfold (fun k => k.2.rem (putG a o) (m + p.inc k.1)) p p.kids.length = p.rem (putG a o) m := by
  cases p <;> first | exact absurd rfl (h _) | rfl
theorem IsPp.ch2 {K : PySem.W.Frag} {H : Hp} {v : V} {p ch : Pp} (n : Int) (h : IsPp K H v p) (e : p.chf = some ch) : ∃ a x1 rv tl, ∃ rs : List Pp, v = .ref a ∧ SqT K H a (.str p.wd.s :: x1 :: (rv ++ tl)) ∧ IsPp K H x1 ch ∧ Paired (IsPp K H) rv rs ∧ rs.length + 1 = p.wd.pl.length ∧ rs.length ≤ 2 ∧ tl.length ≤ 1 ∧ (∀ r ∈ rs, r.ht + 1 ≤ p.ht) ∧
    ∀ (H' : Hp) (t : Addr) (z : V) (q : Pp) (zs : List V), TK K H H' → IsPp K H' z q → Paired (IsPp K H') zs (rs.map fun r => r.mv n 1) → SqT K H' t (.str p.wd.s :: z :: (zs ++ tl)) → IsPp K H' (.ref t) (p.wch n q) := by
  cases h with
  | use _ => cases e
  | name _ => cases e
  | pair _ _ _ => cases e
  | left _ _ _ => cases e
  | right _ _ _ => cases e
  | make _ _ _ => cases e
  | first h p =>
    cases e
    exact ⟨_, _, [], [], [], rfl, h, p, .nil, rfl, by decide, by decide, (fun r hr => nomatch hr), fun H' t z q zs k iz pz ht => by
      cases pz
      exact .first ht iz⟩
  | second h p =>
    cases e
    exact ⟨_, _, [], [], [], rfl, h, p, .nil, rfl, by decide, by decide, (fun r hr => nomatch hr), fun H' t z q zs k iz pz ht => by
      cases pz
      exact .second ht iz⟩
  | @apply _ x1 x2 p1 p2 h p q =>
    cases e
    exact ⟨_, _, [x2], [], [p2], rfl, h, p, .cons q .nil, rfl, (by show 1 ≤ 2; decide), (by decide), (fun r hr => by rw [List.mem_singleton.mp hr]; simp only [Pp.ht]; omega), fun H' t z q zs k iz pz ht => by
      cases pz with
      | cons z1 pz => cases pz; exact .apply ht iz z1⟩
  | @case _ x1 x2 x3 vs p1 p2 p3 c h p q r s =>
    cases e
    exact ⟨_, _, [x2, x3], [vs], [p2, p3], rfl, h, p, .cons q (.cons r .nil), rfl, (by show 2 ≤ 2; decide), (by simp), (fun y hy => by
      rcases List.mem_cons.mp hy with rfl | hy
      · simp only [Pp.ht]; omega
      · rw [List.mem_singleton.mp hy]; simp only [Pp.ht]; omega), fun H' t z q zs k iz pz ht => by
      cases pz with
      | cons z1 pz => cases pz with
        | cons z2 pz => cases pz; exact .case ht iz z1 z2 (s.tk k)⟩
  | @escape _ x1 vs p1 c h p s =>
    cases e
    exact ⟨_, _, [], [vs], [], rfl, h, p, .nil, rfl, by decide, by simp, (fun r hr => nomatch hr), fun H' t z q zs k iz pz ht => by
      cases pz
      exact .escape ht iz (s.tk k)⟩
/-- what comes of drawing out the chief's last step, the statement told -/
def liftC (n : Int) (p : Pp) (c : Sm) : Pp := match p.chf with
  | some (.escape x _) => .escape x c
  | some (.case x q r _) => .case x (p.wch n q) (p.wch n r) c
  | _ => p
theorem liftC_lifted {n : Int} {p : Pp} {c : Sm} (h : (∃ x a, p.chf = some (.escape x a) ∧ p.shw a = some c) ∨ ∃ x q r a, p.chf = some (.case x q r a) ∧ p.shw a = some c) : p.lifted n = some (liftC n p c) := by
  unfold Pp.lifted liftC
  rcases h with ⟨x, a, h1, h2⟩ | ⟨x, q, r, a, h1, h2⟩
  · rw [h1]
    show (p.shw a).map _ = _
    rw [h2]
    rfl
  · rw [h1]
    show (p.shw a).map _ = _
    rw [h2]
    rfl
end Ob

/-! ObBn: repr of a statement: some bounded text. -/
namespace PySem
open PySem.Spec PyProof.Rows
/-- signs that there are -/
def ChS (x : Str) : Prop := ∀ c ∈ x.cps.toList, c < 1114112
theorem ChS.app {a b : Str} (ha : ChS a) (hb : ChS b) : ChS (a ++ b) := fun c hc => by
  rcases mem_cps_append.mp hc with h | h
  · exact ha c h
  · exact hb c h
theorem ChS.join {sep : Str} (h : ChS sep) {ts : List Str} (ht : ∀ t ∈ ts, ChS t) : ChS (Str.join sep ts) := fun c hc => by
  rcases (mem_join sep c ts).mp hc with ⟨t, m, k⟩ | ⟨_, k⟩
  · exact ht t m c k
  · exact h c k
theorem ChS.lit (s : String) : ChS (Str.ofString s) := fun c hc => by
  rw [signs_ofString] at hc
  obtain ⟨ch, _, rfl⟩ := List.mem_map.mp hc
  have h := ch.valid
  have e : ch.val.toNat = ch.toNat := rfl
  rcases h with h | ⟨_, h⟩
  · have h : ch.toNat < 55296 := h
    omega
  · exact h
theorem reprChar_ch {q c : Nat} (hq : q < 1114112) (hc : c < 1114112) : ∀ x ∈ Builtin.Str.reprChar q c, x < 1114112 := by
  intro x hx
  have hexc : ∀ w : Nat, ∀ x ∈ List.replicate (w - ((Nat.toDigits 16 c).map Char.toNat).length) 48 ++ (Nat.toDigits 16 c).map Char.toNat, x < 1114112 := fun w x hx => by
    rcases List.mem_append.mp hx with h | h
    · rw [(List.mem_replicate.mp h).2]; decide
    · obtain ⟨ch, _, rfl⟩ := List.mem_map.mp h
      have h := ch.valid
      rcases h with h | ⟨_, h⟩
      · have h : ch.toNat < 55296 := h
        omega
      · exact h
  unfold Builtin.Str.reprChar at hx
  dsimp only at hx
  repeat' split at hx
  all_goals first
    | (simp only [List.mem_cons, List.not_mem_nil, or_false] at hx; omega)
    | (rcases List.mem_append.mp hx with h | h
       · simp only [List.mem_cons, List.not_mem_nil, or_false] at h; omega
       · exact hexc _ x h)
theorem foldl_repr_ch {q : Nat} (hq : q < 1114112) : ∀ (l : List Nat) (acc : Array Nat), (∀ c ∈ l, c < 1114112) → (∀ x ∈ acc.toList, x < 1114112) → ∀ x ∈ (l.foldl (fun out c => out ++ (Builtin.Str.reprChar q c).toArray) acc).toList, x < 1114112
  | [], acc, _, h => h
  | c :: r, acc, hl, h => by
    rw [List.foldl_cons]
    refine foldl_repr_ch hq r _ (fun d hd => hl d (List.mem_cons_of_mem _ hd)) fun x hx => ?_
    rw [Array.toList_append, List.toList_toArray] at hx
    rcases List.mem_append.mp hx with h1 | h1
    · exact h x h1
    · exact reprChar_ch hq (hl c List.mem_cons_self) x h1
theorem reprText_ch {x : Str} (h : ChS x) : ChS (reprText x) := by
  have hq : reprQuote x < 1114112 := by
    unfold reprQuote
    split <;> decide
  intro c hc
  unfold reprText at hc
  have hc : c ∈ ((x.cps.foldl (fun out c => out ++ (Builtin.Str.reprChar (reprQuote x) c).toArray) #[reprQuote x]).push (reprQuote x)).toList := hc
  rw [Array.toList_push, ← Array.foldl_toList] at hc
  rcases List.mem_append.mp hc with h1 | h1
  · exact foldl_repr_ch hq _ _ h (fun y hy => by rw [List.mem_singleton.mp hy]; exact hq) c h1
  · rw [List.mem_singleton.mp h1]; exact hq
theorem tupleText_ch {ts : List Str} (h : ∀ t ∈ ts, ChS t) : ChS (tupleText ts) := by
  unfold tupleText
  refine ChS.app (ChS.app (ChS.lit "(") (ChS.join (ChS.lit ", ") h)) ?_
  split
  · exact ChS.lit ",)"
  · exact ChS.lit ")"
/-- shown with no more than L signs, whatever is under way -/
def RepS (prog : Program) (w : World) (h : Heap) (d L : Nat) (x : Value) : Prop :=
  ∀ (b : Nat), b + L ≤ sizeLine → ∀ (A : Around) (E : Value → Shared → Prop) (s : Shared) (Q : Str → Shared → Prop), A.units + d < cLine → s.heap = h → (∀ m tk, m.length ≤ L → ChS m → Q m { s with toks := tk }) → wpAny (model prog w) A (pyReprUnder b x) Q E s
section
variable {prog : Program} {w : World} {h : Heap}
theorem RepS.mono {d d' L L' : Nat} {x : Value} (r : RepS prog w h d L x) (hd : d ≤ d') (hL : L ≤ L') : RepS prog w h d' L' x := fun b hb A E s Q hu hs q => r b (by omega) A E s Q (by omega) hs fun m tk hm hc => q m tk (by omega) hc
theorem RepS.str {L : Nat} (x : Str) (t : Tok) (hc : ChS x) (hL : 10 * x.length + 2 ≤ L) (hs : L ≤ sizeLine) : RepS prog w h 0 L (.str x t) := fun b hb A E s Q _ _ q => by
  have h1 := StrLaws.reprText_len x fun c h => Nat.lt_of_lt_of_le (hc c h) (by decide)
  exact ReprIs.str x t (by omega) b (by omega) A E s Q fun tk => q _ tk (by omega) (reprText_ch hc)
theorem repS_fold {A : Around} {E : Value → Shared → Prop} {d L : Nat} (hu : A.units + d < cLine) : ∀ (l : List Value) (acc : Array Str) (n : Nat) (s : Shared) (Q : (Array Str × Nat) → Shared → Prop), (∀ x ∈ l, RepS prog w h d L x) → n + l.length * (L + 2) ≤ sizeLine → s.heap = h →
    (∀ (ts : List Str) tk, ts.length = l.length → piled ts ≤ l.length * (L + 2) → (∀ t ∈ ts, ChS t) → Q ⟨acc ++ ts.toArray, n + piled ts⟩ { s with toks := tk }) → wpAny (model prog w) A (forIn l (⟨acc, n⟩ : (Array Str × Nat)) tupBody) Q E s := by
  intro l
  induction l with
  | nil =>
    intro acc n s Q _ _ _ q
    have h0 := q [] s.toks rfl (Nat.zero_le _) (fun _ h => absurd h List.not_mem_nil)
    simp only [List.forIn_nil]
    exact wpAny_pure (by simpa [piled] using h0)
  | cons x l ih =>
    intro acc n s Q hx hn hs q
    rw [List.length_cons, Nat.succ_mul] at hn
    rw [List.forIn_cons]
    refine wpAny_bind (wpAny_bind (hx x List.mem_cons_self (n + 1) (by omega) _ _ _ _ hu hs fun m tk hm hmc => wpAny_pure ?_))
    refine ih (acc.push m) (n + (m.length + 2)) _ Q (fun y hy => hx y (List.mem_cons_of_mem _ hy)) (by omega) hs fun ts tk' hl hp hcs => ?_
    have h1 := q (m :: ts) tk' (by rw [List.length_cons, List.length_cons, hl]) (by rw [piled_cons, List.length_cons, Nat.succ_mul]; omega) (fun t ht => by
      rcases List.mem_cons.mp ht with rfl | ht
      · exact hmc
      · exact hcs t ht)
    have e : n + piled (m :: ts) = n + (m.length + 2) + piled ts := by rw [piled_cons]; omega
    rw [e] at h1
    simpa using h1
theorem repS_rest {A : Around} {E : Value → Shared → Prop} {d L : Nat} (hu : A.units + d < cLine) {s : Shared} {a : Addr} {o : Obj} {items : Array Value} {n b : Nat} {Q : Fin → Shared → Prop} (hs : s.heap = h) (ha : h.get? a = some o) (hd : o.data = .seq items n) (hx : ∀ x ∈ items.toList, RepS prog w h d L x)
    (q : ∀ (m : Str) u tk, m.length ≤ items.toList.length * (L + 2) + 2 → ChS m → Q (.done (.ret (.str m u))) { s with toks := tk }) (hsz : b + items.toList.length * (L + 2) + 2 ≤ sizeLine) :
    wpAny (model prog w) A (tupleReprRest b (.ref a)) Q E s := by
  unfold tupleReprRest Builtin.Tuple.tupleItemsOf
  refine wpAny_bind (wpAny_bind (wpAny_seqItems (by rw [hs]; exact ha) hd (wpAny_pure ?_)))
  rw [← Array.forIn_toList]
  refine wpAny_bind (repS_fold hu _ _ _ _ _ hx (by omega) hs fun ts tk hl hp hcs => ?_)
  have hlen : ts.length = items.size := by simpa using hl
  have ht := fmt_text ts
  refine wpAny_bind (wpAny_mkStr (wpAny_pure ?_) (by simpa [tupleText, hlen] using (show (tupleText ts).length ≤ sizeLine by omega)))
  have h1 := q (tupleText ts) tk (tk + 1) (by omega) (tupleText_ch hcs)
  simpa [tupleText, hlen] using h1
/-- the whole of a tuple's repr, whatever is under way -/
theorem repS_at {A : Around} {E : Value → Shared → Prop} {d L : Nat} (hu : A.units + d < cLine) {s : Shared} {a : Addr} {o : Obj} {items : Array Value} {n b : Nat} {Q : Fin → Shared → Prop} (hs : s.heap = h) (ha : h.get? a = some o) (hd : o.data = .seq items n) (hx : ∀ x ∈ items.toList, RepS prog w h d L x)
    (q : ∀ (m : Str) u tk, m.length ≤ items.toList.length * (L + 2) + 5 → ChS m → Q (.done (.ret (.str m u))) { s with toks := tk }) (hsz : b + items.toList.length * (L + 2) + 5 ≤ sizeLine) :
    wpAny (model prog w) A (Builtin.tupleReprAt b ⟨[.ref a], []⟩) Q E s := by
  rw [tuple_repr_tree]
  refine wpAny_bind (fmt_underWay fun c => ?_)
  cases c with
  | true =>
    refine PySem.W.KFB.if_so rfl ?_
    refine wpAny_bind (wpAny_rule ?_)
    refine wpAny_bind (wpAny_mkStr (wpAny_pure ?_) (by decide +kernel))
    exact q "(...)" _ _ (Nat.le_trans fmt_way (Nat.le_add_left _ _)) (ChS.lit _)
  | false =>
    refine PySem.W.KFB.if_not rfl ?_
    exact repS_rest hu hs ha hd hx (fun m u tk hm hc => q m u tk (by omega) hc) (by omega)
theorem call_tupS {A : Around} {E : Value → Shared → Prop} {d L : Nat} (hu : A.units + (d + 1) < cLine) {s : Shared} {a : Addr} {o : Obj} {items : Array Value} {n : Nat} {Q : Value → Shared → Prop} (hs : s.heap = h) (ha : h.get? a = some o) (hc : o.cls = .type "tuple") (hd : o.data = .seq items n) (hx : ∀ x ∈ items.toList, RepS prog w h d L x)
    (q : ∀ (m : Str) u tk, m.length ≤ items.toList.length * (L + 2) + 5 → ChS m → Q (.str m u) { s with toks := tk }) (hsz : items.toList.length * (L + 2) + 5 ≤ sizeLine) :
    wpAny (model prog w) A (call (.builtin "tuple.__repr__") [.ref a]) Q E s := by
  refine wpAny_call (codeAny_call_builtin_own (Code.quiet_builtin _ (by decide +kernel)) F.entry_tuple_repr (F.slot_tuple_repr.check _ _ _ _ _ _ _ _ ⟨o, by rw [hs]; exact ha, hc⟩ (F.args_tuple_repr_1 _) (wpOwn_of_wpAny ?_)))
  exact repS_at (b := 0) (by rw [units_under_tuple_repr]; omega) hs ha hd hx (fun m u tk hm hc => q m u tk hm hc) (by omega)
theorem call_tupS_under {A : Around} {E : Value → Shared → Prop} {d L : Nat} (hu : A.units + (d + 1) < cLine) {s : Shared} {a : Addr} {o : Obj} {items : Array Value} {n base : Nat} {Q : Value → Shared → Prop} (hs : s.heap = h) (ha : h.get? a = some o) (hc : o.cls = .type "tuple") (hd : o.data = .seq items n) (hx : ∀ x ∈ items.toList, RepS prog w h d L x)
    (q : ∀ (m : Str) u tk, m.length ≤ items.toList.length * (L + 2) + 5 → ChS m → Q (.str m u) { s with toks := tk }) (hsz : base + items.toList.length * (L + 2) + 5 ≤ sizeLine) :
    wpAny (model prog w) A (call (.builtin "tuple.__repr__.under") [.ref a, rawInt base]) Q E s :=
  call_twin_own (F.quiet_tuple_repr_under _) F.entry_tuple_repr_under F.check_tuple_repr_under ⟨o, by rw [hs]; exact ha, hc⟩ F.slot_tuple_repr (F.args_tuple_repr_1 _)
    (wpOwn_of_wpAny (repS_at (b := base) (by rw [units_under_tuple_repr_under]; omega) hs ha hd hx (fun m u tk hm hc => q m u tk hm hc) (by omega)))
theorem RepS.tup {d L : Nat} {a : Addr} {o : Obj} {items : Array Value} {n : Nat} (ha : h.get? a = some o) (hc : o.cls = .type "tuple") (hd : o.data = .seq items n) (hx : ∀ x ∈ items.toList, RepS prog w h d L x) : RepS prog w h (d + 1) (items.toList.length * (L + 2) + 5) (.ref a) := fun b hb A E s Q hu hs q => by
  refine wpAny_pyReprUnder_ref (by omega) ?_
  refine wpAny_pyReprObjUnder_twin (twin := "tuple.__repr__.under") ⟨o, by rw [hs]; exact ha, hc⟩ F.slot_tuple_repr rfl (by omega) ?_
  exact call_tupS_under (by omega) hs ha hc hd hx (fun m u tk hm hc => ⟨⟨_, _, rfl⟩, _, _, rfl, q m tk hm hc⟩) (by omega)
end
end PySem
namespace Ob
open PySem PySem.Spec PyProof.Rows L2
/-- names of no more than 9 signs -/
def C9 (l : List Nat) : Prop := Ch l ∧ l.length ≤ 9
theorem chS_S {l : List Nat} (h : Ch l) : ChS (SX.S l) := fun c hc => h c (by simpa using hc)
/-- a tuple whose parts are shown so -/
def TupS (prog : Program) (w : World) (h : Heap) (d L : Nat) (u : Value) : Prop := ∃ (p : Addr) (o : Obj) (items : Array Value) (n : Nat), u = .ref p ∧ h.get? p = some o ∧ o.cls = .type "tuple" ∧ o.data = .seq items n ∧ items.toList.length ≤ 3 ∧ ∀ x ∈ items.toList, RepS prog w h d L x
theorem TupS.rep {prog : Program} {w : World} {h : Heap} {d L : Nat} {u : Value} (t : TupS prog w h d L u) : RepS prog w h (d + 1) (3 * (L + 2) + 5) u := by
  obtain ⟨p, o, items, n, rfl, ho, hc, hd, hl, hx⟩ := t
  refine (RepS.tup ho hc hd hx).mono (Nat.le_refl _) ?_
  have := Nat.mul_le_mul_right (L + 2) hl
  omega
theorem tupS_sm0 {prog : Program} {w : World} {X : Cx} {pins : List (Addr × Obj)} {σ : L2.St} {H : Hp} {s : Shared} (I : Inv X pins σ H s) {a : Sm} {v : V} {u : Value} (ia : IsSm X.K H v a) (rv : RelV v u) (hc : a.In C9) (h0 : a.dp = 0) : TupS prog w s.heap 0 92 u := by
  cases ia with
  | lt hT =>
    obtain ⟨its, r, ⟨o, ho, hcl, k, hd⟩, _⟩ := I.tuple hT
    cases rv
    have hl := r.length
    refine ⟨_, o, _, _, rfl, ho, hcl, hd, by simp only [List.length_cons, List.length_nil] at hl; simp; omega, fun x hx => ?_⟩
    cases r with
    | cons r1 r2 => cases r2 with
      | cons r2 r3 =>
        cases r3
        obtain ⟨t1, rfl⟩ := r1
        obtain ⟨t2, rfl⟩ := r2
        simp only [List.mem_cons, List.not_mem_nil, or_false] at hx
        have h9 := hc.2
        rcases hx with rfl | rfl
        · exact RepS.str _ _ (ChS.lit _) (by decide +kernel) (by decide)
        · exact RepS.str _ _ (chS_S hc.1) (by rw [SX.S_len]; omega) (by decide)
  | nv hT =>
    obtain ⟨its, r, ⟨o, ho, hcl, k, hd⟩, _⟩ := I.tuple hT
    cases rv
    have hl := r.length
    refine ⟨_, o, _, _, rfl, ho, hcl, hd, by simp only [List.length_cons, List.length_nil] at hl; simp; omega, fun x hx => ?_⟩
    cases r with
    | cons r1 r2 =>
      cases r2
      obtain ⟨t1, rfl⟩ := r1
      simp only [List.mem_cons, List.not_mem_nil, or_false] at hx
      subst hx
      exact RepS.str _ _ (ChS.lit _) (by decide +kernel) (by decide)
  | bin _ _ _ => simp [Sm.dp] at h0
theorem tupS_sm {prog : Program} {w : World} {X : Cx} {pins : List (Addr × Obj)} {σ : L2.St} {H : Hp} {s : Shared} (I : Inv X pins σ H s) {a : Sm} {v : V} {u : Value} (ia : IsSm X.K H v a) (rv : RelV v u) (hc : a.In C9) (h1 : a.dp ≤ 1) : TupS prog w s.heap 1 300 u := by
  by_cases h0 : a.dp = 0
  · obtain ⟨p, o, items, n, e, ho, hcl, hd, hl, hx⟩ := tupS_sm0 (prog := prog) (w := w) I ia rv hc h0
    exact ⟨p, o, items, n, e, ho, hcl, hd, hl, fun x h => (hx x h).mono (by decide) (by decide)⟩
  cases ia with
  | lt _ => exact absurd rfl h0
  | nv _ => exact absurd rfl h0
  | @bin _ j _ _ x y hT ix iy =>
    have h1 : max x.dp y.dp + 1 ≤ 1 := h1
    obtain ⟨its, r, ⟨o, ho, hcl, k, hd⟩, _⟩ := I.tuple hT
    cases rv
    have hl := r.length
    refine ⟨_, o, _, _, rfl, ho, hcl, hd, by simp only [List.length_cons, List.length_nil] at hl; simp; omega, fun z hz => ?_⟩
    cases r with
    | cons r1 r2 => cases r2 with
      | cons r2 r3 => cases r3 with
        | cons r3 r4 =>
          cases r4
          obtain ⟨t1, rfl⟩ := r1
          simp only [List.mem_cons, List.not_mem_nil, or_false] at hz
          rcases hz with rfl | rfl | rfl
          · exact (RepS.str _ _ (by cases j <;> exact ChS.lit _) (by cases j <;> decide +kernel) (by decide)).mono (Nat.zero_le _) (Nat.le_refl _)
          · exact (tupS_sm0 (prog := prog) (w := w) I ix r2 hc.1 (by omega)).rep.mono (Nat.le_refl _) (by decide)
          · exact (tupS_sm0 (prog := prog) (w := w) I iy r3 hc.2 (by omega)).rep.mono (Nat.le_refl _) (by decide)
/-- repr of a small statement: some bounded text -/
def rReprS (K : PySem.W.Frag) : List V → Hp → VK → Prop := fun xs H Q => ∃ (v : V) (a : Sm), xs = [v] ∧ IsSm K H v a ∧ a.In C9 ∧ a.dp ≤ 1 ∧ ∀ n : List Nat, n.length ≤ 1000 → Ch n → Q (.str (SX.S n)) H
theorem call_reprS {X : Cx} {k : Nat} (hr : Room k X.A) : CallR X (.builtin "repr") (rReprS X.K) := by
  intro pins s σ H xs us Q I r h
  obtain ⟨v, a, rfl, ia, hc, hd, q⟩ := h
  obtain ⟨u, rfl, rx⟩ := vals1 r
  obtain ⟨p, o, items, n, rfl, ho, hcl, hdt, hl, hx⟩ := tupS_sm (prog := X.prog) (w := X.w) I ia rx hc hd
  have hu := hr.un
  have h3 := Nat.mul_le_mul_right (300 + 2) hl
  refine call_repr_slot (by omega) ⟨o, ho, hcl⟩ F.slot_tuple_repr ?_
  refine call_tupS (h := s.heap) (by show X.A.units + 1 + (1 + 1) < cLine; omega) rfl ho hcl hdt hx (fun m u tk hm hch => ⟨m, u, rfl, ?_⟩) (Nat.le_trans (show _ ≤ 1000 by omega) (by decide))
  refine ⟨.str m, H, I.tok _, ⟨u, rfl⟩, ?_⟩
  have e := q m.cps.toList (by show m.cps.toList.length ≤ 1000; rw [Array.length_toList]; show m.length ≤ 1000; omega) hch
  rw [SX.S_tl] at e
  exact e
end Ob

/-! ObBo: a pair of words among pairs of words. -/
namespace Ob
open PySem PySem.Spec PyProof.Rows L2
/-- x in a tuple of data -/
def rInDT (K : PySem.W.Frag) : R2 := fun x y H Q => ∃ d ds, Dp K H x d ∧ Dp K H y (.tuple ds) ∧ d.canLay0 = true ∧ PyData.canLayAll0 ds = true ∧ min (PyData.depthAll ds) d.depth ≤ 60 ∧ Q (.bl (ds.any fun z => PyData.eqv z d)) H
theorem op_inDT {X : Cx} {k : Nat} (hr : Room k X.A) : OpR X (compareOp .In) (rInDT X.K) := by
  intro pins s σ H x y v u Q I rx ry h
  obtain ⟨d, ds, hd, he, sd, se, hm, q⟩ := h
  obtain ⟨as, r1⟩ := Dp.reads I d x v hd rx
  obtain ⟨bs, r2⟩ := Dp.reads I (.tuple ds) y u he ry
  have hu := hr.un
  exact SeqAt.in_tuple_reads r2 r1 se sd (by omega) ⟨.bl _, H, I, rfl, q⟩
/-- two words -/
def pwD (a b : PW) : PyData := .tuple [.str a.s, .str b.s]
theorem pwD_lay (a b : PW) : (pwD a b).canLay0 = true := by cases a <;> cases b <;> decide +kernel
theorem pwD_dep (a b : PW) : (pwD a b).depth ≤ 3 := by simp [pwD, PyData.depth, PyData.depthAll]
theorem pwD_eqv (X Y a b : PW) : PyData.eqv (pwD X Y) (pwD a b) = (decide (a = X) && decide (b = Y)) := by
  have h : ∀ x y : PW, PyData.eqv (.str x.s) (.str y.s) = decide (y = x) := fun x y => by cases x <;> cases y <;> decide +kernel
  show (PyData.eqv (.str X.s) (.str a.s) && (PyData.eqv (.str Y.s) (.str b.s) && true)) = _
  rw [h, h, Bool.and_true]
theorem dp_pw {K : PySem.W.Frag} {H : Hp} {t : Addr} {a b : PW} (h : SqT K H t [.str a.s, .str b.s]) : Dp K H (.ref t) (pwD a b) := .tup h (.cons (.str _) (.cons (.str _) .nil))
theorem condP {K : PySem.W.Frag} {σ : L2.St} {H : Hp} {Q : Bool → Hp → Prop} {t : Addr} {a b : PW} {i : Nat} (X Y : PW) (h4 : σ[i]? = some (some (.ref t))) (ht : SqT K H t [.str a.s, .str b.s]) (q : ∀ H', Same H H' → Q (decide (a = X) && decide (b = Y)) H') :
    tTest (tOp (rEqE K) (tVar i) (tTup (tCons (tC (.str X.s)) (tCons (tC (.str Y.s)) tNil)))) σ H Q := by
  refine ⟨_, h4, sz2, fun u nu => ?_⟩
  have s1 := same_new (o := .tup [.str X.s, .str Y.s]) nu
  refine ⟨pwD a b, pwD X Y, dp_pw (seqT s1 ht), dp_pw (.inl (.inl upd_same)), pwD_lay _ _, pwD_lay _ _, ?_, ?_⟩
  · have := pwD_dep a b
    omega
  · refine ⟨_, rfl, ?_⟩
    have e : PyData.eqv (pwD a b) (pwD X Y) = (decide (a = X) && decide (b = Y)) := by
      rw [pwD_eqv, decide_eq_decide.mpr (eq_comm (a := X) (b := a)), decide_eq_decide.mpr (eq_comm (a := Y) (b := b))]
    rw [e]
    exact q _ s1
/-- a pair of words among two pairs -/
theorem condI {K : PySem.W.Frag} {σ : L2.St} {H : Hp} {Q : Bool → Hp → Prop} {t : Addr} {a b : PW} {i : Nat} (X Y Z W : PW) (h4 : σ[i]? = some (some (.ref t))) (ht : SqT K H t [.str a.s, .str b.s]) (q : ∀ H', Same H H' → Q (decide (a = X) && decide (b = Y) || decide (a = Z) && decide (b = W)) H') :
    tTest (tOp (rInDT K) (tVar i) (tTup (tCons (tTup (tCons (tC (.str X.s)) (tCons (tC (.str Y.s)) tNil))) (tCons (tTup (tCons (tC (.str Z.s)) (tCons (tC (.str W.s)) tNil))) tNil)))) σ H Q := by
  refine ⟨_, h4, sz2, fun u nu => ⟨sz2, fun v nv => ⟨sz2, fun x nx => ?_⟩⟩⟩
  have s1 := same_new (o := .tup [.str X.s, .str Y.s]) nu
  have s2 := same_new (o := .tup [.str Z.s, .str W.s]) nv
  have s3 := same_new (o := .tup [.ref u, .ref v]) nx
  have s23 := s2.trans s3
  have s13 := s1.trans s23
  refine ⟨pwD a b, [pwD X Y, pwD Z W], dp_pw (seqT s13 ht), .tup (.inl (.inl upd_same)) (.cons (dp_pw (.inl (.inl (s23 _ _ upd_same)))) (.cons (dp_pw (.inl (.inl (s3 _ _ upd_same)))) .nil)), pwD_lay _ _, ?_, ?_, ?_⟩
  · simp only [PyData.canLayAll0, pwD_lay, Bool.and_true]
  · have := pwD_dep a b
    omega
  · refine ⟨_, rfl, ?_⟩
    have e : [pwD X Y, pwD Z W].any (fun z => PyData.eqv z (pwD a b)) = (decide (a = X) && decide (b = Y) || decide (a = Z) && decide (b = W)) := by
      simp only [List.any_cons, List.any_nil, Bool.or_false, pwD_eqv]
    rw [e]
    exact q _ s13
theorem stepped_none {n : Int} {p : Pp} (h : p.chf = none) : p.stepped n = none := by cases p <;> first | rfl | exact absurd h (fun z => nomatch z)
theorem chf_row : ∀ w : PW, inV (.str w.s) [.str PW.first.s, .str PW.second.s, .str PW.apply.s, .str PW.case.s, .str PW.escape.s] = hasChf w := fun w => by cases w <;> decide +kernel
end Ob

namespace Ob
open PySem PySem.Spec PyProof.Rows L2
def topS (i : Nat) : Stmt := PySem.Challenge.pw_onlybuilt_k36_which_step.main.body.getD i (.Pass ⟨0, 0, 0, 0⟩)
abbrev s_levels : Stmt := topS 3
abbrev sc_levelsN : List Str := ["paper", "found", "ahead", "p", "many", "assumes", "place"]
theorem sc_levels : FnScope sc_levelsN ["paper"] (defScope s_levels) := ⟨rfl, rfl, rfl, by decide +kernel, rfl, by decide +kernel, by decide +kernel⟩
abbrev s_rebuilt : Stmt := topS 4
abbrev sc_rebuiltN : List Str := ["paper", "papers", "row", "place", "p"]
theorem sc_rebuilt : FnScope sc_rebuiltN ["paper", "papers"] (defScope s_rebuilt) := ⟨rfl, rfl, rfl, by decide +kernel, rfl, by decide +kernel, by decide +kernel⟩
abbrev s_remade : Stmt := topS 5
abbrev sc_remadeN : List Str := ["paper", "change", "pile", "p", "many", "papers", "_"]
theorem sc_remade : FnScope sc_remadeN ["paper", "change"] (defScope s_remade) := ⟨rfl, rfl, rfl, by decide +kernel, rfl, by decide +kernel, by decide +kernel⟩
abbrev s_moved : Stmt := topS 7
abbrev sc_movedN : List Str := ["paper", "at", "by"]
theorem sc_moved : FnScope sc_movedN ["paper", "at", "by"] (defScope s_moved) := ⟨rfl, rfl, rfl, by decide +kernel, rfl, by decide +kernel, by decide +kernel⟩
abbrev s_put_in : Stmt := topS 8
abbrev sc_put_inN : List Str := ["paper", "at", "other", "rounds", "changed", "moves", "many", "p"]
theorem sc_put_in : FnScope sc_put_inN ["paper", "at", "other"] (defScope s_put_in) := ⟨rfl, rfl, rfl, by decide +kernel, rfl, by decide +kernel, by decide +kernel⟩
abbrev s_taken : Stmt := topS 11
abbrev sc_takenN : List Str := ["n", "paper", "word", "chief"]
theorem sc_taken : FnScope sc_takenN ["n", "paper"] (defScope s_taken) := ⟨rfl, rfl, rfl, by decide +kernel, rfl, by decide +kernel, by decide +kernel⟩
abbrev s_shown : Stmt := topS 12
abbrev sc_shownN : List Str := ["paper", "a"]
theorem sc_shown : FnScope sc_shownN ["paper", "a"] (defScope s_shown) := ⟨rfl, rfl, rfl, by decide +kernel, rfl, by decide +kernel, by decide +kernel⟩
abbrev s_with_chief : Stmt := topS 13
abbrev sc_with_chiefN : List Str := ["n", "paper", "chief", "others", "place"]
theorem sc_with_chief : FnScope sc_with_chiefN ["n", "paper", "chief"] (defScope s_with_chief) := ⟨rfl, rfl, rfl, by decide +kernel, rfl, by decide +kernel, by decide +kernel⟩
abbrev s_lifted : Stmt := topS 14
abbrev sc_liftedN : List Str := ["n", "paper", "chief", "_", "p", "q", "r", "a"]
theorem sc_lifted : FnScope sc_liftedN ["n", "paper"] (defScope s_lifted) := ⟨rfl, rfl, rfl, by decide +kernel, rfl, by decide +kernel, by decide +kernel⟩
abbrev s_stepped : Stmt := topS 15
abbrev sc_steppedN : List Str := ["n", "paper"]
theorem sc_stepped : FnScope sc_steppedN ["n", "paper"] (defScope s_stepped) := ⟨rfl, rfl, rfl, by decide +kernel, rfl, by decide +kernel, by decide +kernel⟩
abbrev s_with_at : Stmt := topS 16
abbrev sc_with_atN : List Str := ["paper", "road", "part", "passed", "place", "p"]
theorem sc_with_at : FnScope sc_with_atN ["paper", "road", "part"] (defScope s_with_at) := ⟨rfl, rfl, rfl, by decide +kernel, rfl, by decide +kernel, by decide +kernel⟩
abbrev s_step : Stmt := topS 17
abbrev sc_stepN : List Str := ["many", "paper", "ahead", "n", "p", "road", "part", "assumes", "place"]
theorem sc_step : FnScope sc_stepN ["many", "paper"] (defScope s_step) := ⟨rfl, rfl, rfl, by decide +kernel, rfl, by decide +kernel, by decide +kernel⟩
abbrev s_law_cell_at : Stmt := topS 19
abbrev sc_law_cell_atN : List Str := ["_law_script", "_law_k"]
theorem sc_law_cell_at : FnScope sc_law_cell_atN ["_law_script", "_law_k"] (defScope s_law_cell_at) := ⟨rfl, rfl, rfl, by decide +kernel, rfl, by decide +kernel, by decide +kernel⟩
abbrev s_law_well : Stmt := topS 20
abbrev sc_law_wellN : List Str := ["_law_cell"]
theorem sc_law_well : FnScope sc_law_wellN ["_law_cell"] (defScope s_law_well) := ⟨rfl, rfl, rfl, by decide +kernel, rfl, by decide +kernel, by decide +kernel⟩
abbrev s_law_draw : Stmt := topS 21
abbrev sc_law_drawN : List Str := ["_law_well_here", "_law_wide", "_law_found", "_law_number"]
theorem sc_law_draw : FnScope sc_law_drawN ["_law_well_here", "_law_wide"] (defScope s_law_draw) := ⟨rfl, rfl, rfl, by decide +kernel, rfl, by decide +kernel, by decide +kernel⟩
abbrev s_law_plain : Stmt := topS 22
abbrev sc_law_plainN : List Str := ["_law_well_here", "_law_way_here", "_law_name"]
theorem sc_law_plain : FnScope sc_law_plainN ["_law_well_here"] (defScope s_law_plain) := ⟨rfl, rfl, rfl, by decide +kernel, rfl, by decide +kernel, by decide +kernel⟩
abbrev s_law_statement : Stmt := topS 23
abbrev sc_law_statementN : List Str := ["_law_well_here", "_law_word"]
theorem sc_law_statement : FnScope sc_law_statementN ["_law_well_here"] (defScope s_law_statement) := ⟨rfl, rfl, rfl, by decide +kernel, rfl, by decide +kernel, by decide +kernel⟩
abbrev s_law_joints : Stmt := topS 24
abbrev sc_law_jointsN : List Str := ["_law_a"]
theorem sc_law_joints : FnScope sc_law_jointsN ["_law_a"] (defScope s_law_joints) := ⟨rfl, rfl, rfl, by decide +kernel, rfl, by decide +kernel, by decide +kernel⟩
abbrev s_law_least : Stmt := topS 25
abbrev sc_law_leastN : List Str := ["_law_givens_here", "_law_word", "_law_e", "_law_one", "_law_same"]
theorem sc_law_least : FnScope sc_law_leastN ["_law_givens_here", "_law_word"] (defScope s_law_least) := ⟨rfl, rfl, rfl, by decide +kernel, rfl, by decide +kernel, by decide +kernel⟩
abbrev s_law_small : Stmt := topS 26
abbrev sc_law_smallN : List Str := ["_law_well_here", "_law_givens_here", "_law_a", "_law_k"]
theorem sc_law_small : FnScope sc_law_smallN ["_law_well_here", "_law_givens_here"] (defScope s_law_small) := ⟨rfl, rfl, rfl, by decide +kernel, rfl, by decide +kernel, by decide +kernel⟩
abbrev s_law_never : Stmt := topS 27
abbrev sc_law_neverN : List Str := ["_law_well_here", "_law_givens_here", "_law_far", "_law_a", "_law_some", "_law_use", "_law_way_here", "_law_heart", "_law_k"]
theorem sc_law_never : FnScope sc_law_neverN ["_law_well_here", "_law_givens_here", "_law_far"] (defScope s_law_never) := ⟨rfl, rfl, rfl, by decide +kernel, rfl, by decide +kernel, by decide +kernel⟩
abbrev s_law_arms : Stmt := topS 28
abbrev sc_law_armsN : List Str := ["_law_well_here", "_law_givens_here", "_law_far", "_law_a", "_law_word", "_law_e", "_law_heart", "_law_some", "_law_inner", "_law_one", "_law_left", "_law_two", "_law_right", "_law_arms_here", "_law_c", "_law_same"]
theorem sc_law_arms : FnScope sc_law_armsN ["_law_well_here", "_law_givens_here", "_law_far", "_law_a", "_law_word", "_law_e"] (defScope s_law_arms) := ⟨rfl, rfl, rfl, by decide +kernel, rfl, by decide +kernel, by decide +kernel⟩
abbrev s_law_straight : Stmt := topS 29
abbrev sc_law_straightN : List Str := ["_law_well_here", "_law_givens_here", "_law_far", "_law_word", "_law_one", "_law_a", "_law_two", "_law_b", "_law_e"]
theorem sc_law_straight : FnScope sc_law_straightN ["_law_well_here", "_law_givens_here", "_law_far", "_law_word"] (defScope s_law_straight) := ⟨rfl, rfl, rfl, by decide +kernel, rfl, by decide +kernel, by decide +kernel⟩
abbrev s_law_shaped : Stmt := topS 30
abbrev sc_law_shapedN : List Str := ["_law_well_here", "_law_givens_here", "_law_far", "_law_word", "_law_way_here", "_law_k", "_law_fit", "_law_found", "_law_a"]
theorem sc_law_shaped : FnScope sc_law_shapedN ["_law_well_here", "_law_givens_here", "_law_far", "_law_word"] (defScope s_law_shaped) := ⟨rfl, rfl, rfl, by decide +kernel, rfl, by decide +kernel, by decide +kernel⟩
abbrev s_law_shaped_by : Stmt := topS 31
abbrev sc_law_shaped_byN : List Str := ["_law_well_here", "_law_givens_here", "_law_far", "_law_word", "_law_way_here", "_law_some", "_law_heart", "_law_c", "_law_one", "_law_a", "_law_two", "_law_b"]
theorem sc_law_shaped_by : FnScope sc_law_shaped_byN ["_law_well_here", "_law_givens_here", "_law_far", "_law_word", "_law_way_here"] (defScope s_law_shaped_by) := ⟨rfl, rfl, rfl, by decide +kernel, rfl, by decide +kernel, by decide +kernel⟩
abbrev s_law_way : Stmt := topS 32
abbrev sc_law_wayN : List Str := ["_law_well_here", "_law_givens_here", "_law_far", "_law_a", "_law_way_here", "_law_some", "_law_heart", "_law_c", "_law_one", "_law_b"]
theorem sc_law_way : FnScope sc_law_wayN ["_law_well_here", "_law_givens_here", "_law_far", "_law_a"] (defScope s_law_way) := ⟨rfl, rfl, rfl, by decide +kernel, rfl, by decide +kernel, by decide +kernel⟩
abbrev s_law_grown : Stmt := topS 33
abbrev sc_law_grownN : List Str := ["_law_well_here", "_law_givens_here", "_law_far", "_law_way_here", "_law_word", "_law_one", "_law_a", "_law_found", "_law_two", "_law_b", "_law_some"]
theorem sc_law_grown : FnScope sc_law_grownN ["_law_well_here", "_law_givens_here", "_law_far"] (defScope s_law_grown) := ⟨rfl, rfl, rfl, by decide +kernel, rfl, by decide +kernel, by decide +kernel⟩
abbrev s_law_givens : Stmt := topS 34
abbrev sc_law_givensN : List Str := ["_law_well_here", "_law_found", "_law_k"]
theorem sc_law_givens : FnScope sc_law_givensN ["_law_well_here"] (defScope s_law_givens) := ⟨rfl, rfl, rfl, by decide +kernel, rfl, by decide +kernel, by decide +kernel⟩
abbrev s_law_spots : Stmt := topS 35
abbrev sc_law_spotsN : List Str := ["_law_p", "_law_some"]
theorem sc_law_spots : FnScope sc_law_spotsN ["_law_p"] (defScope s_law_spots) := ⟨rfl, rfl, rfl, by decide +kernel, rfl, by decide +kernel, by decide +kernel⟩
abbrev s_law_assumed : Stmt := topS 36
abbrev sc_law_assumedN : List Str := ["_law_p", "_law_spot"]
theorem sc_law_assumed : FnScope sc_law_assumedN ["_law_p", "_law_spot"] (defScope s_law_assumed) := ⟨rfl, rfl, rfl, by decide +kernel, rfl, by decide +kernel, by decide +kernel⟩
abbrev s_law_with : Stmt := topS 37
abbrev sc_law_withN : List Str := ["_law_p", "_law_spot", "_law_piece"]
theorem sc_law_with : FnScope sc_law_withN ["_law_p", "_law_spot", "_law_piece"] (defScope s_law_with) := ⟨rfl, rfl, rfl, by decide +kernel, rfl, by decide +kernel, by decide +kernel⟩
abbrev s_law_moved : Stmt := topS 38
abbrev sc_law_movedN : List Str := ["_law_p", "_law_at", "_law_by", "_law_spot"]
theorem sc_law_moved : FnScope sc_law_movedN ["_law_p", "_law_at", "_law_by"] (defScope s_law_moved) := ⟨rfl, rfl, rfl, by decide +kernel, rfl, by decide +kernel, by decide +kernel⟩
abbrev s_law_put : Stmt := topS 39
abbrev sc_law_putN : List Str := ["_law_p", "_law_at", "_law_other", "_law_within", "_law_spot"]
theorem sc_law_put : FnScope sc_law_putN ["_law_p", "_law_at", "_law_other", "_law_within"] (defScope s_law_put) := ⟨rfl, rfl, rfl, by decide +kernel, rfl, by decide +kernel, by decide +kernel⟩
abbrev s_law_borne : Stmt := topS 40
abbrev sc_law_borneN : List Str := ["_law_p", "_law_d"]
theorem sc_law_borne : FnScope sc_law_borneN ["_law_p", "_law_d"] (defScope s_law_borne) := ⟨rfl, rfl, rfl, by decide +kernel, rfl, by decide +kernel, by decide +kernel⟩
abbrev s_law_here : Stmt := topS 41
abbrev sc_law_hereN : List Str := ["_law_n", "_law_p", "_law_word", "_law_chief", "_law_both", "_law_arms_here", "_law_arm", "_law_one", "_law_spot"]
theorem sc_law_here : FnScope sc_law_hereN ["_law_n", "_law_p"] (defScope s_law_here) := ⟨rfl, rfl, rfl, by decide +kernel, rfl, by decide +kernel, by decide +kernel⟩
abbrev s_law_step : Stmt := topS 42
abbrev sc_law_stepN : List Str := ["_law_n", "_law_p", "_law_found", "_law_spot", "_law_piece"]
theorem sc_law_step : FnScope sc_law_stepN ["_law_n", "_law_p"] (defScope s_law_step) := ⟨rfl, rfl, rfl, by decide +kernel, rfl, by decide +kernel, by decide +kernel⟩
abbrev s_law_size : Stmt := topS 43
abbrev sc_law_sizeN : List Str := ["_law_p", "_law_spot"]
theorem sc_law_size : FnScope sc_law_sizeN ["_law_p"] (defScope s_law_size) := ⟨rfl, rfl, rfl, by decide +kernel, rfl, by decide +kernel, by decide +kernel⟩
abbrev s_law_alike : Stmt := topS 44
abbrev sc_law_alikeN : List Str := ["_law_found", "_law_due", "_law_one", "_law_two"]
theorem sc_law_alike : FnScope sc_law_alikeN ["_law_found", "_law_due"] (defScope s_law_alike) := ⟨rfl, rfl, rfl, by decide +kernel, rfl, by decide +kernel, by decide +kernel⟩
abbrev s_law_wrapped : Stmt := topS 45
abbrev sc_law_wrappedN : List Str := ["_law_well_here", "_law_n", "_law_p", "_law_a", "_law_k", "_law_way_here", "_law_e"]
theorem sc_law_wrapped : FnScope sc_law_wrappedN ["_law_well_here", "_law_n", "_law_p", "_law_a"] (defScope s_law_wrapped) := ⟨rfl, rfl, rfl, by decide +kernel, rfl, by decide +kernel, by decide +kernel⟩
abbrev s_law_drawn : Stmt := topS 46
abbrev sc_law_drawnN : List Str := ["_law_well_here", "_law_givens_here", "_law_n", "_law_p", "_law_a"]
theorem sc_law_drawn : FnScope sc_law_drawnN ["_law_well_here", "_law_givens_here"] (defScope s_law_drawn) := ⟨rfl, rfl, rfl, by decide +kernel, rfl, by decide +kernel, by decide +kernel⟩
abbrev s_law : Stmt := topS 47
abbrev sc_lawN : List Str := ["_law_script", "_law_cell", "_law_well_here", "_law_givens_here", "_law_p", "_law_k", "_law_due", "_law_found"]
theorem sc_law : FnScope sc_lawN ["_law_script"] (defScope s_law) := ⟨rfl, rfl, rfl, by decide +kernel, rfl, by decide +kernel, by decide +kernel⟩
structure Txt (w : World) (K : PySem.W.Frag) (mg : Str → Option Value) : Prop where
  g_PAPERS : ∃ pP, mg "PAPERS" = some (.ref pP) ∧ PapK K w pP
  g_ASSUMES : ∃ pA, mg "ASSUMES" = some (.ref pA) ∧ AsmK K w pA
  g_WITH : ∃ pW, mg "WITH_CHIEF" = some (.ref pW) ∧ KT K pW [.str "first", .str "second", .str "apply", .str "case", .str "escape"]
  t_moved : ∃ c PT, PySem.W.tabIn K "moved" = some (c, PT) ∧ Cd K mg "moved" c
  t_put_in : ∃ c PT, PySem.W.tabIn K "put_in" = some (c, PT) ∧ Cd K mg "put_in" c
  t_moved_put_in : ∀ c PT c2 PT2, PySem.W.tabIn K "moved" = some (c, PT) → PySem.W.tabIn K "put_in" = some (c2, PT2) → PT ≠ PT2
  n_all : mg "all" = none
  n_bool : mg "bool" = none
  n_enumerate : mg "enumerate" = none
  n_int : mg "int" = none
  n_isinstance : mg "isinstance" = none
  n_len : mg "len" = none
  n_list : mg "list" = none
  n_max : mg "max" = none
  n_range : mg "range" = none
  n_repr : mg "repr" = none
  n_reversed : mg "reversed" = none
  n_sorted : mg "sorted" = none
  n_str : mg "str" = none
  n_sum : mg "sum" = none
  n_tuple : mg "tuple" = none
  n_zip : mg "zip" = none
  d_levels : Df K mg "levels" s_levels ["paper"]
  d_rebuilt : Df K mg "rebuilt" s_rebuilt ["paper", "papers"]
  d_remade : Df K mg "remade" s_remade ["paper", "change"]
  d_moved : Df K mg "moved" s_moved ["paper", "at", "by"]
  d_put_in : Df K mg "put_in" s_put_in ["paper", "at", "other"]
  d_taken : Df K mg "_taken" s_taken ["n", "paper"]
  d_shown : Df K mg "_shown" s_shown ["paper", "a"]
  d_with_chief : Df K mg "_with_chief" s_with_chief ["n", "paper", "chief"]
  d_lifted : Df K mg "_lifted" s_lifted ["n", "paper"]
  d_stepped : Df K mg "_stepped" s_stepped ["n", "paper"]
  d_with_at : Df K mg "_with_at" s_with_at ["paper", "road", "part"]
  d_step : DfK K mg "step" s_step ["many", "paper"] ["many", "paper"] kwId
  d_law_cell_at : Df K mg "_law_cell_at" s_law_cell_at ["_law_script", "_law_k"]
  d_law_well : Df K mg "_law_well" s_law_well ["_law_cell"]
  d_law_draw : Df K mg "_law_draw" s_law_draw ["_law_well_here", "_law_wide"]
  d_law_plain : Df K mg "_law_plain" s_law_plain ["_law_well_here"]
  d_law_statement : Df K mg "_law_statement" s_law_statement ["_law_well_here"]
  d_law_joints : Df K mg "_law_joints" s_law_joints ["_law_a"]
  d_law_least : Df K mg "_law_least" s_law_least ["_law_givens_here", "_law_word"]
  d_law_small : Df K mg "_law_small" s_law_small ["_law_well_here", "_law_givens_here"]
  d_law_never : Df K mg "_law_never" s_law_never ["_law_well_here", "_law_givens_here", "_law_far"]
  d_law_arms : Df K mg "_law_arms" s_law_arms ["_law_well_here", "_law_givens_here", "_law_far", "_law_a", "_law_word", "_law_e"]
  d_law_straight : Df K mg "_law_straight" s_law_straight ["_law_well_here", "_law_givens_here", "_law_far", "_law_word"]
  d_law_shaped : Df K mg "_law_shaped" s_law_shaped ["_law_well_here", "_law_givens_here", "_law_far", "_law_word"]
  d_law_shaped_by : Df K mg "_law_shaped_by" s_law_shaped_by ["_law_well_here", "_law_givens_here", "_law_far", "_law_word", "_law_way_here"]
  d_law_way : Df K mg "_law_way" s_law_way ["_law_well_here", "_law_givens_here", "_law_far", "_law_a"]
  d_law_grown : Df K mg "_law_grown" s_law_grown ["_law_well_here", "_law_givens_here", "_law_far"]
  d_law_givens : Df K mg "_law_givens" s_law_givens ["_law_well_here"]
  d_law_spots : Df K mg "_law_spots" s_law_spots ["_law_p"]
  d_law_assumed : Df K mg "_law_assumed" s_law_assumed ["_law_p", "_law_spot"]
  d_law_with : Df K mg "_law_with" s_law_with ["_law_p", "_law_spot", "_law_piece"]
  d_law_moved : Df K mg "_law_moved" s_law_moved ["_law_p", "_law_at", "_law_by"]
  d_law_put : Df K mg "_law_put" s_law_put ["_law_p", "_law_at", "_law_other", "_law_within"]
  d_law_borne : Df K mg "_law_borne" s_law_borne ["_law_p", "_law_d"]
  d_law_here : Df K mg "_law_here" s_law_here ["_law_n", "_law_p"]
  d_law_step : Df K mg "_law_step" s_law_step ["_law_n", "_law_p"]
  d_law_size : Df K mg "_law_size" s_law_size ["_law_p"]
  d_law_alike : Df K mg "_law_alike" s_law_alike ["_law_found", "_law_due"]
  d_law_wrapped : Df K mg "_law_wrapped" s_law_wrapped ["_law_well_here", "_law_n", "_law_p", "_law_a"]
  d_law_drawn : Df K mg "_law_drawn" s_law_drawn ["_law_well_here", "_law_givens_here"]
  d_law : Df K mg "law" s_law ["_law_script"]
section
variable {P : Program}
variable {w : World} {K : PySem.W.Frag} {mg : Str → Option Value} {base : Heap}
/-! ### levels -/
def sp_levels (K : PySem.W.Frag) : Sp := fun vs H Q _ => ∃ (v : V) (p : Pp), vs = [v] ∧ IsPp K H v p ∧ p.nn ≤ 90000 ∧
  ∀ (l : Addr) (H' : Hp) (xs : List V), Same H H' → H l = none → H' l = some (.lst xs) → Paired (LvV K H H') xs (p.lvl 0) → Q (.ref l) H'
theorem ok_levels (T : Txt w K mg) : Cl P w K mg base 1 "levels" (sp_levels K) := by
  refine T.d_levels.ok sc_levels (fun vs H Q E h => ?_) (fun f cdv A outer s H vs Q E hr h => ?_)
  · obtain ⟨v, p, rfl, _⟩ := h
    rfl
  · obtain ⟨v, p, rfl, hp, hw, q⟩ := h
    obtain ⟨pP, hP, kP⟩ := T.g_PAPERS
    obtain ⟨pA, hA, kA⟩ := T.g_ASSUMES
    refine ⟨_, (pss_cons (ps_set (i := 1) sc_levels.nd rfl (Or.inl rfl) (pe_lst pa_nil))
    (pss_cons (ps_set (i := 2) sc_levels.nd rfl (Or.inl rfl) (pe_lst (pa_cons (pe_tup (pa_cons (pv 0) (pa_cons pe_int pa_nil))) pa_nil)))
    (pss_cons (ps_while PassesOwn.never (pt_truthK (K := K) (pv 2) (by intro _; rfl))
      (pss_cons (ps_asg (pe_bm0 PySem.F.plainAttrs_list PySem.F.slot_list_pop PySem.F.type_list_pop mt_pop (pv 2)) (pg_tup rfl (pgs_cons (pg_name (i := 3) sc_levels.nd rfl (Or.inl rfl)) (pgs_cons (pg_name (i := 4) sc_levels.nd rfl (Or.inl rfl)) pgs_nil))))
        (pss_cons (ps_expr (pe_bm PySem.F.plainAttrs_list PySem.F.slot_list_append PySem.F.type_list_append mt_append (pv 1) (pa_cons (pe_tup (pa_cons (pv 3) (pa_cons (pv 4) pa_nil))) pa_nil)))
        (pss_cons (ps_set (i := 5) sc_levels.nd rfl (Or.inl rfl) (pe_kget2 (pe_glob (v := .ref pA) rfl hA rfl) (pe_ix (r := rIxT K) ix_tup (pv 3) pe_int (fun _ _ => rfl)) (pe_tup pa_nil) ⟨rfl, rfl, rfl, rfl⟩))
        (pss_one (ps_for PassesOwn.never rfl (pi_tupK (K := K) (pe_revT (pe_ix (r := rIxD K w) ix_kdict (pe_glob (v := .ref pP) rfl hP rfl) (pe_ix (r := rIxT K) ix_tup (pv 3) pe_int (fun _ _ => rfl)) (fun _ _ => rfl)))) (pg_name (i := 6) sc_levels.nd rfl (Or.inl rfl))
          (pss_one (ps_expr (pe_bm PySem.F.plainAttrs_list PySem.F.slot_list_append PySem.F.type_list_append mt_append (pv 2) (pa_cons (pe_tup (pa_cons (pe_ix (r := rIxT K) ix_tup (pv 3) (pv 6) (fun _ _ => rfl)) (pa_cons (pe_ifExp (pt_cmpR (r := rIn K false) op_in_seq (pv 6) (pv 5) (by rfl)) (pe_op op_add (pv 4) pe_int) (pv 4)) pa_nil))) pa_nil))))))))))
    (pss_one (ps_ret (pv 1)))))), ?_⟩
    refine ⟨sz0, fun o no => ⟨_, rfl, sz2, fun t0 nt0 => ?_⟩⟩
    have s1 : Same H (upd H o (.lst [])) := same_new no
    have s2 : Same (upd H o (.lst [])) (upd (upd H o (.lst [])) t0 (.tup [v, .int 0])) := same_new nt0
    have ho1 := s2 _ _ (upd_same (H := H) (a := o) (o := .lst []))
    have ht0 : (upd (upd H o (.lst [])) t0 (.tup [v, .int 0])) t0 = some (.tup [v, .int 0]) := upd_same
    have s02 := s1.trans s2
    generalize upd (upd H o (.lst [])) t0 (.tup [v, .int 0]) = H2 at ho1 ht0 s02 ⊢
    refine ⟨sz1, fun k nk => ?_⟩
    have nko : o ≠ k := ne_of_none ho1 nk
    have nk0 : H k = none := s02.free nk
    have s3 : Same H2 (upd H2 k (.lst [.ref t0])) := same_new nk
    refine ⟨fun m σ H3 => ∃ (fs ws : List V) (dn st : List (Pp × Nat)) (y3 y4 y5 y6 : Option V), σ = [some v, some (.ref o), some (.ref k), y3, y4, y5, y6] ∧ H3 o = some (.lst fs) ∧ H3 k = some (.lst ws.reverse) ∧ Paired (LvV K H H3) fs dn ∧ Paired (LvV K H H3) ws st ∧ p.lvl 0 = dn ++ st.flatMap (fun x => x.1.lvl x.2) ∧ Same H H3 ∧ m = lws st, ⟨_, [], [.ref t0], [], [(p, 0)], _, _, _, _, rfl, s3 _ _ ho1, upd_same, .nil, .cons ⟨t0, v, rfl, .inl (.inl (s3 _ _ ht0)), hp⟩ .nil, ?_, s02.trans s3, rfl⟩, ?_⟩
    · show p.lvl 0 = [] ++ (p.lvl 0 ++ [])
      rw [List.append_nil]
      rfl
    · rintro m σ H3 ⟨fs, ws, dn, st, y3, y4, y5, y6, rfl, ho, hk, pf, pw, ea, sm, rfl⟩
      cases pw with
      | nil =>
        refine ⟨_, rfl, false, .inl ⟨_, SqL.of hk, rfl⟩, ?_⟩
        refine iteF ⟨_, rfl, q o H3 fs sm no ho ?_⟩
        rw [ea]
        show Paired (LvV K H H3) fs (dn ++ [])
        rw [List.append_nil]
        exact pf
      | @cons x t ws st hx pw =>
        obtain ⟨tq, tm⟩ := t
        obtain ⟨a, y, rfl, hxT, hy⟩ := hx
        refine ⟨_, rfl, true, .inl ⟨_, SqL.of hk, emp_rev.symm⟩, ?_⟩
        refine iteT ⟨fun σ' H' => ∃ (fs ws : List V) (dn st' : List (Pp × Nat)) (y3 y4 y5 y6 : Option V), σ' = [some v, some (.ref o), some (.ref k), y3, y4, y5, y6] ∧ H' o = some (.lst fs) ∧ H' k = some (.lst ws.reverse) ∧ Paired (LvV K H H') fs dn ∧ Paired (LvV K H H') ws st' ∧ p.lvl 0 = dn ++ st'.flatMap (fun x => x.1.lvl x.2) ∧ Same H H' ∧ lws st' < lws ((tq, tm) :: st), fun σ' H' ⟨fs, ws, dn, st', y3, y4, y5, y6, e1, e2, e3, e4, e5, e6, e7, e8⟩ => ⟨_, e8, fs, ws, dn, st', y3, y4, y5, y6, e1, e2, e3, e4, e5, e6, e7, rfl⟩, ?_⟩
        obtain ⟨a', xs, rfl, hT, hkid⟩ := hy.kid
        have hk1 := pair_len pw
        have nkk : ∀ {H' : Hp} {o' : HO}, H' k = some o' → True := fun _ => True.intro
        refine ⟨_, rfl, tyL hk, k, _, .ref a, rfl, rfl, hk, last_rev, ?_⟩
        rw [drop_rev]
        have tk4 : TK K H3 (upd H3 k (.lst ws.reverse)) := TK.lst hk
        have ho4 : (upd H3 k (.lst ws.reverse)) o = some (.lst fs) := by
          rw [upd_ne nko]
          exact ho
        have hk4 : (upd H3 k (.lst ws.reverse)) k = some (.lst ws.reverse) := upd_same
        have s4 : Same H (upd H3 k (.lst ws.reverse)) := same_put sm nk0
        generalize upd H3 k (.lst ws.reverse) = H4 at tk4 ho4 hk4 s4 ⊢
        refine ⟨a, _, rfl, tk4 _ _ hxT, rfl, _, _, rfl, _, _, rfl, rfl, ?_⟩
        refine ⟨_, rfl, tyL ho4, _, rfl, _, rfl, sz2, fun t nt => ?_⟩
        have s5 : Same H4 (upd H4 t (.tup [.ref a', .int (tm : Nat)])) := same_new nt
        have ht5 : (upd H4 t (.tup [.ref a', .int (tm : Nat)])) t = some (.tup [.ref a', .int (tm : Nat)]) := upd_same
        have ho5 := s5 _ _ ho4
        have hk5 := s5 _ _ hk4
        generalize upd H4 t (.tup [.ref a', .int (tm : Nat)]) = H5 at s5 ht5 ho5 hk5 ⊢
        have hlen : fs.length < 90000 := by
          have h1 := pair_len pf
          have h2 := congrArg List.length ea
          rw [List.length_append, List.flatMap_cons, List.length_append] at h2
          have h3 := lvl_nn p 0
          have h4 := (lvl_len tq tm).1
          simp only at h2
          omega
        refine ⟨o, _, _, rfl, rfl, ho5, small (by omega), ?_⟩
        have tk6 : TK K H5 (upd H5 o (.lst (fs ++ [.ref t]))) := TK.lst ho5
        have ho6 : (upd H5 o (.lst (fs ++ [.ref t]))) o = some (.lst (fs ++ [.ref t])) := upd_same
        have hk6 : (upd H5 o (.lst (fs ++ [.ref t]))) k = some (.lst ws.reverse) := by
          rw [upd_ne nko.symm]
          exact hk5
        have s6 : Same H (upd H5 o (.lst (fs ++ [.ref t]))) := same_put (s4.trans s5) no
        have tk36 : TK K H3 (upd H5 o (.lst (fs ++ [.ref t]))) := (tk4.trans (Same.tk s5)).trans tk6
        have ht6 : SqT K (upd H5 o (.lst (fs ++ [.ref t]))) t [.ref a', .int (tm : Nat)] := tk6 _ _ (.inl (.inl ht5))
        generalize upd H5 o (.lst (fs ++ [.ref t])) = H6 at tk6 ho6 hk6 s6 tk36 ht6 ⊢
        have pf6 : Paired (LvV K H H6) (fs ++ [.ref t]) (dn ++ [(tq, tm)]) := pair_app (pair_map (fun _ _ h => LvV.tk tk36 h) pf) (.cons ⟨t, .ref a', rfl, ht6, hy⟩ .nil)
        have pw6 : Paired (LvV K H H6) ws st := pair_map (fun _ _ h => LvV.tk tk36 h) pw
        have hT6 := seqT s6 hT
        obtain ⟨og, kg, hog⟩ := kA.get tq.wd
        refine ⟨pA, rfl, kA.1, _, rfl, a', _, _, _, rfl, rfl, hT6, at0, sz0, fun u nu => ⟨_, og, rfl, kg, ?_⟩⟩
        have s7 : Same H6 (upd H6 u (.tup [])) := same_new nu
        have hu7 : (upd H6 u (.tup [])) u = some (.tup []) := upd_same
        generalize upd H6 u (.tup []) = H7 at s7 hu7 ⊢
        obtain ⟨qa, eqa, hqa⟩ := hog H7 u hu7
        rw [eqa]
        obtain ⟨qp, kd, kt⟩ := kP tq.wd
        refine ⟨_, rfl, a', _, _, _, rfl, rfl, seqT s7 hT6, at0, pP, _, _, rfl, rfl, kd, qp, _, rfl, kt.sq, fun pr npr => ?_⟩
        have s8 : Same H7 (upd H7 pr (.tup (tq.wd.pl.map V.int).reverse)) := same_new npr
        have hpr : (upd H7 pr (.tup (tq.wd.pl.map V.int).reverse)) pr = some (.tup (tq.wd.pl.map V.int).reverse) := upd_same
        generalize upd H7 pr (.tup (tq.wd.pl.map V.int).reverse) = H8 at s8 hpr ⊢
        have s68 := s7.trans s8
        have s08 := s6.trans s68
        have n3 := tq.kids_le
        have epl : tq.wd.pl.length = tq.kids.length := by rw [Pp.kids_pl, List.length_map]
        refine ⟨pr, rfl, ⟨_, .inl (.inl hpr)⟩, for_tup (K := K) (a := pr) (xs := (tq.wd.pl.map V.int).reverse) (fun i σ H' => ∃ (y6 : Option V) (zs : List V), σ = [some v, some (.ref o), some (.ref k), some (.ref a'), some (.int (tm : Nat)), some (.ref qa), y6] ∧ H' k = some (.lst (zs ++ ws).reverse) ∧ H' o = some (.lst (fs ++ [.ref t])) ∧ Paired (LvV K H H') zs ((tq.kids.drop (tq.kids.length - i)).map fun k => (k.2, tm + tq.inc k.1)) ∧ Same H H' ∧ TK K H8 H') ?_ ?_ ?_ ?_⟩
        · refine ⟨_, [], rfl, s68 _ _ hk6, s68 _ _ ho6, ?_, s08, Same.tk (Same.refl _)⟩
          rw [Nat.sub_zero, List.drop_length]
          exact .nil
        · rintro i σ H' _ ⟨_, _, _, _, _, _, _, tk⟩
          exact tk _ _ (.inl (.inl hpr))
        · rintro i x σ H9 hx ⟨y6, zs, rfl, hk9, ho9, pz, s9, tk9⟩
          have hi : i < tq.kids.length := by
            have := (List.getElem?_eq_some_iff.mp hx).1
            rw [List.length_reverse, List.length_map] at this
            omega
          have hkd : tq.kids[tq.kids.length - 1 - i]? = some tq.kids[tq.kids.length - 1 - i] := List.getElem?_eq_getElem (by omega)
          generalize tq.kids[tq.kids.length - 1 - i] = kq at hkd
          have mk : kq ∈ tq.kids := List.mem_of_getElem? hkd
          have ex : x = .int kq.1 := by
            rw [List.getElem?_reverse (by rw [List.length_map]; omega), List.length_map, epl, List.getElem?_map, Pp.kids_pl, List.getElem?_map, hkd] at hx
            injection hx with hx
            exact hx.symm
          subst ex
          obtain ⟨yk, qx, ik⟩ := hkid kq mk
          have hqa9 := tk9 _ _ (seqT s8 hqa)
          have hdrop : tq.kids.drop (tq.kids.length - (i + 1)) = kq :: tq.kids.drop (tq.kids.length - i) := by
            rw [show tq.kids.length - (i + 1) = tq.kids.length - 1 - i by omega, kids_lt hkd, show tq.kids.length - 1 - i + 1 = tq.kids.length - i by omega]
          have zl : zs.length ≤ 3 := by
            rw [pair_len pz, List.length_map, List.length_drop]
            omega
          have wl : ws.length ≤ 90000 := by
            have h1 := lws_len st
            have h2 := congrArg List.length ea
            rw [List.length_append, List.flatMap_cons, List.length_append] at h2
            have h3 := lvl_nn p 0
            omega
          refine ⟨_, rfl, tyL hk9, _, rfl, _, rfl, a', _, _, _, rfl, rfl, seqT s9 hT, qx, ?_⟩
          have fin : ∀ z : Int, z = ((tm + tq.inc kq.1 : Nat) : Int) → ∀ t2, H9 t2 = none → ∃ ks, (upd H9 t2 (.tup [yk, .int z])) k = some (.lst ks) ∧ ks.length + 1 ≤ sizeLine ∧ (fun σ H' => ∃ (y6 : Option V) (zs : List V), σ = [some v, some (.ref o), some (.ref k), some (.ref a'), some (.int (tm : Nat)), some (.ref qa), y6] ∧ H' k = some (.lst (zs ++ ws).reverse) ∧ H' o = some (.lst (fs ++ [.ref t])) ∧ Paired (LvV K H H') zs ((tq.kids.drop (tq.kids.length - (i + 1))).map fun k => (k.2, tm + tq.inc k.1)) ∧ Same H H' ∧ TK K H8 H') [some v, some (.ref o), some (.ref k), some (.ref a'), some (.int (tm : Nat)), some (.ref qa), some (.int kq.1)] (upd (upd H9 t2 (.tup [yk, .int z])) k (.lst (ks ++ [.ref t2]))) := fun z hz t2 nt2 => by
            subst hz
            have sA := same_new (o := .tup [yk, .int ((tm + tq.inc kq.1 : Nat) : Int)]) nt2
            have htA : (upd H9 t2 (.tup [yk, .int ((tm + tq.inc kq.1 : Nat) : Int)])) t2 = some (.tup [yk, .int ((tm + tq.inc kq.1 : Nat) : Int)]) := upd_same
            have hkA := sA _ _ hk9
            have hoA := sA _ _ ho9
            generalize upd H9 t2 (.tup [yk, .int ((tm + tq.inc kq.1 : Nat) : Int)]) = HA at sA htA hkA hoA ⊢
            have tkA : TK K HA (upd HA k (.lst ((zs ++ ws).reverse ++ [.ref t2]))) := TK.lst hkA
            have tk9A := (Same.tk (K := K) sA).trans tkA
            refine ⟨_, hkA, small (by rw [List.length_reverse, List.length_append]; omega), _, .ref t2 :: zs, rfl, ?_, by rw [upd_ne nko]; exact hoA, ?_, same_put (s9.trans sA) nk0, tk9.trans tk9A⟩
            · rw [upd_same, List.cons_append, List.reverse_cons]
            · rw [hdrop, List.map_cons]
              exact .cons ⟨t2, yk, rfl, tkA _ _ (.inl (.inl htA)), ik⟩ (pair_map (fun _ _ h => LvV.tk tk9A h) pz)
          refine ⟨_, rfl, _, rfl, qa, _, rfl, .inr hqa9, rfl, flat_z _, _, rfl, ?_⟩
          show if inV (.int kq.1) ((asmL tq.wd).map V.int) = true then _ else _
          rw [inV_z]
          by_cases hin : kq.1 ∈ asmL tq.wd
          · rw [if_pos (decide_eq_true hin)]
            refine ⟨_, rfl, _, _, rfl, rfl, sz2, fun t2 nt2 => ?_⟩
            obtain ⟨ks, e1, e2, e3⟩ := fin ((tm : Int) + 1) (by unfold Pp.inc; rw [if_pos hin]; omega) t2 nt2
            exact ⟨k, ks, _, rfl, rfl, e1, e2, e3⟩
          · rw [if_neg (by rw [decide_eq_false hin]; exact Bool.false_ne_true)]
            refine ⟨_, rfl, sz2, fun t2 nt2 => ?_⟩
            obtain ⟨ks, e1, e2, e3⟩ := fin (tm : Int) (by unfold Pp.inc; rw [if_neg hin]; omega) t2 nt2
            exact ⟨k, ks, _, rfl, rfl, e1, e2, e3⟩
        · rintro σ H9 ⟨y6, zs, rfl, hk9, ho9, pz, s9, tk9⟩
          have tk69 : TK K H6 H9 := (Same.tk s68).trans tk9
          rw [List.length_reverse, List.length_map, epl, Nat.sub_self, List.drop_zero] at pz
          refine ⟨_, zs ++ ws, _, (tq.kids.map fun k => (k.2, tm + tq.inc k.1)) ++ st, _, _, _, _, rfl, ho9, hk9, pair_map (fun _ _ h => LvV.tk tk69 h) pf6, pair_app pz (pair_map (fun _ _ h => LvV.tk tk69 h) pw6), ?_, s9, ?_⟩
          · rw [ea, List.flatMap_cons, lvl_kids tq tm, List.flatMap_append]
            simp
          · rw [lws_app]
            have h := lws_kids tq tm
            show _ < lws ([(tq, tm)] ++ st)
            rw [lws_app]
            show _ < tq.wt + 0 + lws st
            omega
/-! ### rebuilt -/
def sp_rebuilt (K : PySem.W.Frag) : Sp := fun vs H Q _ => ∃ (v : V) (p : Pp) (l : Addr) (ys : List V) (ks : List Pp), vs = [v, .ref l] ∧ IsPp K H v p ∧ H l = some (.lst ys) ∧ Paired (IsPp K H) ys ks ∧ ks.length = p.kids.length ∧
  ∀ (H' : Hp) (v' : V), Same H H' → IsPp K H' v' (p.re ks) → Q v' H'
theorem ok_rebuilt (T : Txt w K mg) : Cl P w K mg base 1 "rebuilt" (sp_rebuilt K) := by
  refine T.d_rebuilt.ok sc_rebuilt (fun vs H Q E h => ?_) (fun f cdv A outer s H vs Q E hr h => ?_)
  · obtain ⟨v, p, l, ys, ks, rfl, _⟩ := h
    rfl
  · obtain ⟨v, p, l, ys, ks, rfl, hp, hl, py, el, q⟩ := h
    obtain ⟨pP, hP, kP⟩ := T.g_PAPERS
    refine ⟨_, (pss_cons (ps_set (i := 2) sc_rebuilt.nd rfl (Or.inl rfl) (pe_callTy (r := rListK K) call_list_of rfl T.n_list (by decide +kernel) (pa_cons (pv 0) pa_nil)))
    (pss_cons (ps_for PassesOwn.never rfl (pi_zipM rfl T.n_zip (pa_cons (pe_ix (r := rIxD K w) ix_kdict (pe_glob (v := .ref pP) rfl hP rfl) (pe_ix (r := rIxT K) ix_tup (pv 0) pe_int (fun _ _ => rfl)) (fun _ _ => rfl)) (pa_cons (pv 1) pa_nil))) (pg_tup rfl (pgs_cons (pg_name (i := 3) sc_rebuilt.nd rfl (Or.inl rfl)) (pgs_cons (pg_name (i := 4) sc_rebuilt.nd rfl (Or.inl rfl)) pgs_nil)))
      (pss_one (ps_asg (pv 4) (pg_sub (pv 2) (pv 3) set_list))))
    (pss_one (ps_ret (pe_callTy call_tuple_of rfl T.n_tuple (by decide +kernel) (pa_cons (pv 2) pa_nil)))))), ?_⟩
    obtain ⟨a, its, rfl, hT, hw, hn, hpl, hre⟩ := hp.rb
    obtain ⟨qp, kd, kt⟩ := kP p.wd
    have eyl : ys.length = p.wd.pl.length := by rw [pair_len py, el, Pp.kids_pl, List.length_map]
    refine ⟨_, rfl, a, its, rfl, .inr hT, fun o no => ?_⟩
    have s1 : Same H (upd H o (.lst its)) := same_new no
    have ho : (upd H o (.lst its)) o = some (.lst its) := upd_same
    generalize upd H o (.lst its) = H1 at s1 ho ⊢
    have nlo : l ≠ o := fun z => by rw [z, no] at hl; cases hl
    refine ⟨_, rfl, a, _, _, _, rfl, rfl, seqT s1 hT, hw, pP, _, _, rfl, rfl, kd, _, rfl, qp, l, _, ys, rfl, kt.sq, SqL.of (s1 _ _ hl), for_zipM (xs := p.wd.pl.map V.int) (ys := ys) (by rw [List.length_map, eyl]) (fun i σ H3 => ∃ y3 y4 : Option V, σ = [some (.ref a), some (.ref l), some (.ref o), y3, y4] ∧ H3 o = some (.lst (setL its ((p.wd.pl.zip ys).take i))) ∧ Same H H3 ∧ TK K H1 H3) ?_ ?_ ?_ ?_⟩
    · exact ⟨_, _, rfl, ho, s1, fun _ _ h => h⟩
    · rintro i σ H3 ⟨y3, y4, rfl, ho3, s3, tk3⟩
      exact ⟨kt.sq, SqL.of (s3 _ _ hl)⟩
    · rintro i x y t σ H3 hx hy ⟨y3, y4, rfl, ho3, s3, tk3⟩ nt
      rw [List.getElem?_map, Option.map_eq_some_iff] at hx
      obtain ⟨z, hz, rfl⟩ := hx
      have st := same_new (o := .tup [.int z, y]) nt
      have ht : (upd H3 t (.tup [.int z, y])) t = some (.tup [.int z, y]) := upd_same
      have ho4 := st _ _ ho3
      generalize upd H3 t (.tup [.int z, y]) = H4 at st ht ho4 ⊢
      have hb := hpl z (List.mem_of_getElem? hz)
      refine ⟨t, _, rfl, .inl (.inl ht), rfl, _, _, rfl, _, _, rfl, rfl, ?_⟩
      refine ⟨_, rfl, _, rfl, _, rfl, o, _, _, z.toNat, rfl, rfl, ho4, ?_, ?_⟩
      · have h2 : z < (its.length : Int) := by omega
        rw [setL_len]
        simp [ixN, hb.1, h2]
      · refine ⟨_, _, rfl, ?_, same_put (s3.trans st) no, (tk3.trans (Same.tk st)).trans (TK.lst ho4)⟩
        rw [upd_same, zip_take hz hy, setL_app]
    · rintro σ H3 ⟨y3, y4, rfl, ho3, s3, tk3⟩
      have e : (p.wd.pl.zip ys).take (p.wd.pl.map V.int).length = p.wd.pl.zip ys := List.take_of_length_le (by rw [List.length_zip, List.length_map]; omega)
      rw [e] at ho3
      refine ⟨_, rfl, o, _, rfl, .inl ⟨SqL.of ho3, fun u nu => ?_⟩⟩
      have su := same_new (o := .tup (setL its (p.wd.pl.zip ys))) nu
      have s4 := s3.trans su
      exact q _ _ s4 (hre _ u ys ks (Same.tk s4) (pair_map (fun _ _ h => IsPp.same s4 h) py) el (.inl (.inl upd_same)))
/-! ### remade -/
def sp_remade (K : PySem.W.Frag) (f : Addr) (spf : Sp) : Sp := fun vs H Q _ => ∃ (v : V) (p : Pp) (G : Pp → Nat → Pp), vs = [v, .ref f] ∧ IsPp K H v p ∧ p.wt ≤ 10000 ∧
  (∀ (H1 : Hp) (x : V) (q : Pp) (m : Nat) (Q1 : VK), Same H H1 → IsPp K H1 x q → (∃ u ∈ p.lvl 0, ∃ ks : List Pp, ks.length = u.1.kids.length ∧ q = u.1.re ks ∧ m = u.2) → (∀ H2 y, Same H1 H2 → IsPp K H2 y (G q m) → Q1 y H2) → spf [x, .int (m : Nat)] H1 Q1 E0) ∧
  ∀ (H' : Hp) (v' : V), Same H H' → IsPp K H' v' (p.rem G 0) → Q v' H'
def RmV (K : PySem.W.Frag) (G : Pp → Nat → Pp) (H : Hp) (z : V) (u : Pp × Nat) : Prop := IsPp K H z (u.1.rem G u.2)
theorem RmV.tk {K : PySem.W.Frag} {G : Pp → Nat → Pp} {H H' : Hp} {z : V} {u : Pp × Nat} (k : TK K H H') (h : RmV K G H z u) : RmV K G H' z u := IsPp.tk k h
theorem pair_rm {K : PySem.W.Frag} {G : Pp → Nat → Pp} {H : Hp} : ∀ {xs : List V} {us : List (Pp × Nat)}, Paired (RmV K G H) xs us → Paired (IsPp K H) xs (us.map fun u => u.1.rem G u.2)
  | _, _, .nil => .nil
  | _, _, .cons h t => .cons h (pair_rm t)
theorem pair_spl {α β : Type} {R : α → β → Prop} {bs : List β} : ∀ {as : List β} {xs : List α}, Paired R xs (as ++ bs) → ∃ ys zs, xs = ys ++ zs ∧ Paired R ys as ∧ Paired R zs bs
  | [], xs, h => ⟨[], xs, rfl, .nil, h⟩
  | a :: as, _, .cons h t => by
    obtain ⟨ys, zs, e, h1, h2⟩ := pair_spl t
    exact ⟨_ :: ys, zs, by rw [e]; rfl, .cons h h1, h2⟩
theorem ok_remade (T : Txt w K mg) (c_levels : Cl P w K mg base 1 "levels" (sp_levels K)) (c_rebuilt : Cl P w K mg base 1 "rebuilt" (sp_rebuilt K)) : ClL P w K mg base 2 1 "remade" (sp_remade K) := by
  have hj : 1 ≤ 1 := Nat.le_refl _
  refine T.d_remade.okL sc_remade (fun f spf vs H Q h => ?_) (fun g cdv A outer s H vs f spf Q hr act h => ?_)
  · obtain ⟨v, p, G, rfl, _⟩ := h
    rfl
  · obtain ⟨v, p, G, rfl, hp, hw, hG, q⟩ := h
    obtain ⟨pP, hP, kP⟩ := T.g_PAPERS
    refine ⟨_, (pss_cons (ps_set (i := 2) sc_remade.nd rfl (Or.inr rfl) (pe_lst pa_nil))
    (pss_cons (ps_for PassesOwn.never rfl (pi_reversed rfl T.n_reversed (pa_cons (pe_k c_levels hr (by omega) rfl (pa_cons (pv 0) pa_nil)) pa_nil)) (pg_tup rfl (pgs_cons (pg_name (i := 3) sc_remade.nd rfl (Or.inl rfl)) (pgs_cons (pg_name (i := 4) sc_remade.nd rfl (Or.inl rfl)) pgs_nil)))
      (pss_cons (ps_setLc (i := 5) (own := [("_", 6)]) rfl sc_remade.nd rfl rfl (sw_true rfl rfl rfl (by decide +kernel)) (pi_tupK (K := K) (pe_ix (r := rIxD K w) ix_kdict (pe_glob (v := .ref pP) rfl hP rfl) (pe_ix (r := rIxT K) ix_tup (pv 3) pe_int (fun _ _ => rfl)) (fun _ _ => rfl))) (blkOk_by (N := sc_remadeN) (sc := defScope s_remade) (by decide +kernel)) (fun _ _ _ _ _ => (pg_name (i := 6) sc_remade.nd rfl (Or.inl rfl))) (fun _ _ _ _ _ => pts_nil) (fun _ _ _ _ _ => (pe_bm0K (K := K) rfl PySem.F.plainAttrs_list PySem.F.slot_list_pop PySem.F.type_list_pop mt_pop (pv 2))))
        (pss_one (ps_expr (pe_bm PySem.F.plainAttrs_list PySem.F.slot_list_append PySem.F.type_list_append mt_append (pv 2) (pa_cons (pe_act1 (i := 1) act hr hj rfl (Or.inl rfl) (pa_cons (pe_k c_rebuilt hr (by omega) rfl (pa_cons (pv 3) (pa_cons (pv 5) pa_nil))) (pa_cons (pv 4) pa_nil))) pa_nil))))))
    (pss_one (ps_ret (pe_bm0K (K := K) rfl PySem.F.plainAttrs_list PySem.F.slot_list_pop PySem.F.type_list_pop mt_pop (pv 2)))))), ?_⟩
    refine ⟨sz0, fun pk npk => ?_⟩
    have s1 : Same H (upd H pk (.lst [])) := same_new npk
    have hpk : (upd H pk (.lst [])) pk = some (.lst []) := upd_same
    generalize upd H pk (.lst []) = H1 at s1 hpk ⊢
    refine ⟨_, rfl, v, p, rfl, hp.same s1, nn_wt hw, fun l H2 xs s2 nl hl pl => ⟨l, xs, rfl, SqL.of hl, ?_⟩⟩
    have pl : Paired (LvV K H1 H2) xs (p.lvl 0) := pl
    have hn : xs.length = (p.lvl 0).length := pair_len pl
    have nlp : l ≠ pk := fun z => by rw [z, hpk] at nl; cases nl
    refine for_it (walk_rev (K := K) (a := l) (xs := xs)) (fun i σ H3 => ∃ (y3 y4 y5 : Option V) (zs : List V), σ = [some v, some (.ref f), some (.ref pk), y3, y4, y5, none] ∧ H3 pk = some (.lst zs.reverse) ∧ Paired (RmV K G H3) zs (fom p (xs.length - i)) ∧ Same H H3 ∧ TK K H2 H3 ∧ H3 l = some (.lst xs)) ?_ ?_ ?_ ?_
    · refine ⟨_, _, _, [], rfl, s2 _ _ hpk, ?_, s1.trans s2, fun _ _ h => h, hl⟩
      rw [Nat.sub_zero, fom_end (by omega)]
      exact .nil
    · rintro i σ H3 _ ⟨_, _, _, _, _, _, _, _, _, h3⟩
      exact SqL.of h3
    · rintro i x σ H3 H4 hi ⟨y3, y4, y5, zs, rfl, hk3, pz, s3, tk3, hl3⟩ ⟨rfl, hx⟩
      obtain ⟨⟨tp, tm⟩, hu, a', y, rfl, hT, ix⟩ := pair_get pl hx
      obtain ⟨F, e1, e2⟩ := fom_at hu
      have fl := fom_len p (xs.length - i)
      rw [← pair_len pz] at fl
      rw [show xs.length - 1 - i + 1 = xs.length - i by omega] at e2
      rw [e2] at pz
      rw [show xs.length - (i + 1) = xs.length - 1 - i by omega, e1]
      obtain ⟨ws, vs, rfl, pw, pv⟩ := pair_spl pz
      have lw := pair_len pw
      rw [kidm_len] at lw
      have lw : ws.length = tp.kids.length := lw
      rw [List.length_append] at fl
      refine ⟨a', _, rfl, tk3 _ _ hT, rfl, _, _, rfl, _, _, rfl, rfl, ?_⟩
      have ix3 := (ix.same s2).tk tk3
      obtain ⟨b, its, rfl, hb, _⟩ := ix3.kid
      obtain ⟨qp, kd, kt⟩ := kP tp.wd
      have n3 := tp.kids_le
      refine ⟨_, rfl, b, _, _, _, rfl, rfl, hb, at0, pP, _, _, rfl, rfl, kd, qp, rfl, ⟨_, kt.sq⟩, fun D nD => ?_⟩
      have nDk : D ≠ pk := fun z => by rw [z, hk3] at nD; cases nD
      have nDl : D ≠ l := fun z => by rw [z, hl3] at nD; cases nD
      have sD : H D = none := s3.free nD
      refine lc_tup (K := K) (a := qp) (xs := tp.wd.pl.map V.int) (fun j H6 => H6 D = some (.lst (ws.take j)) ∧ H6 pk = some (.lst (ws.drop j ++ vs).reverse) ∧ Same H H6 ∧ TK K H4 H6 ∧ H6 l = some (.lst xs)) ?_ ?_ ?_ ?_
      · exact ⟨upd_same, by rw [upd_ne nDk.symm]; exact hk3, s3.trans (same_new nD), Same.tk (same_new nD), by rw [upd_ne nDl.symm]; exact hl3⟩
      · rintro j H6 _ _
        exact kt.sq
      · rintro j z H6 hz ⟨hD, hk6, s6, tk6, hl6⟩
        have hj : j < ws.length := by
          have := (List.getElem?_eq_some_iff.mp hz).1
          rw [List.length_map, Pp.kids_pl, List.length_map] at this
          omega
        have hkd : ws[j]? = some ws[j] := List.getElem?_eq_getElem hj
        rw [List.drop_eq_getElem_cons hj] at hk6
        generalize ws[j] = kq at hkd hk6
        have tkA : TK K H6 (upd H6 pk (.lst (ws.drop (j + 1) ++ vs).reverse)) := TK.lst hk6
        have hDA : (upd H6 pk (.lst (ws.drop (j + 1) ++ vs).reverse)) D = some (.lst (ws.take j)) := by
          rw [upd_ne nDk]
          exact hD
        have hkA : (upd H6 pk (.lst (ws.drop (j + 1) ++ vs).reverse)) pk = some (.lst (ws.drop (j + 1) ++ vs).reverse) := upd_same
        have hlA : (upd H6 pk (.lst (ws.drop (j + 1) ++ vs).reverse)) l = some (.lst xs) := by
          rw [upd_ne nlp]
          exact hl6
        have sA : Same H (upd H6 pk (.lst (ws.drop (j + 1) ++ vs).reverse)) := same_put s6 npk
        refine ⟨rfl, _, rfl, tyL hk6, pk, _, kq, rfl, rfl, hk6, last_rev, ?_⟩
        rw [show ((kq :: ws.drop (j + 1) ++ vs).reverse).dropLast = (ws.drop (j + 1) ++ vs).reverse from drop_rev]
        generalize upd H6 pk (.lst (ws.drop (j + 1) ++ vs).reverse) = HA at tkA hDA hkA hlA sA ⊢
        refine ⟨_, hDA, small (by rw [List.length_take]; omega), ?_, by rw [upd_ne nDk.symm]; exact hkA, same_put sA sD, (tk6.trans tkA).trans (TK.lst hDA), by rw [upd_ne nDl.symm]; exact hlA⟩
        rw [upd_same, List.take_succ, hkd]
        rfl
      · rintro H6 ⟨hD, hk6, s6, tk6, hl6⟩
        rw [List.length_map, Pp.kids_pl, List.length_map, ← lw] at hD hk6
        rw [List.take_length] at hD
        rw [List.drop_length] at hk6
        have hk6 : H6 pk = some (.lst vs.reverse) := hk6
        have pw6 : Paired (IsPp K H6) ws ((kidm (tp, tm)).map fun u => u.1.rem G u.2) := pair_rm (pair_map (fun _ _ h => RmV.tk tk6 h) pw)
        have pv6 := pair_map (fun _ _ h => RmV.tk tk6 h) pv
        have ek : ((kidm (tp, tm)).map fun u => u.1.rem G u.2).length = tp.kids.length := by rw [List.length_map, kidm_len]
        refine ⟨_, rfl, tyL hk6, rfl, s6 _, _, rfl, _, rfl, .ref b, tp, D, ws, _, rfl, ix3.tk tk6, hD, pw6, ek, fun H7 z s7 iz => ?_⟩
        refine ⟨_, rfl, (s6.trans s7) _, hG H7 z _ tm _ (s6.trans s7) iz ⟨(tp, tm), List.mem_of_getElem? hu, _, ek, rfl, rfl⟩ fun H8 y s8 iy => ?_⟩
        have s68 := s7.trans s8
        have hk8 := s68 _ _ hk6
        refine ⟨pk, _, _, rfl, rfl, hk8, small (by rw [List.length_reverse]; omega), _, _, _, y :: vs, rfl, ?_, .cons ?_ ?_, same_put (s6.trans s68) npk, (tk3.trans (tk6.trans (Same.tk s68))).trans (TK.lst hk8), by rw [upd_ne nlp]; exact s68 _ _ hl6⟩
        · rw [upd_same, List.reverse_cons]
        · show IsPp K _ y (tp.rem G tm)
          rw [show tp.rem G tm = G (tp.re ((kidm (tp, tm)).map fun u => u.1.rem G u.2)) tm from kidm_rem G (tp, tm)]
          exact iy.tk (TK.lst hk8)
        · exact pair_map (fun _ _ h => RmV.tk ((Same.tk s68).trans (TK.lst hk8)) h) pv6
    · rintro σ H3 ⟨y3, y4, y5, zs, rfl, hk3, pz, s3, tk3, hl3⟩
      rw [Nat.sub_self] at pz
      have pz : Paired (RmV K G H3) zs [(p, 0)] := pz
      cases pz with
      | @cons z _ _ _ hz pz =>
        cases pz
        have hk3 : H3 pk = some (.lst (z :: ([] : List V)).reverse) := hk3
        refine ⟨_, rfl, tyL hk3, pk, _, z, rfl, rfl, hk3, last_rev, ?_⟩
        exact q _ _ (same_put s3 npk) (hz.tk (TK.lst hk3))
/-! ### moved -/
abbrev mvQ : Str := "moved.<locals>.<lambda>"
def sp_moved (K : PySem.W.Frag) : Sp := fun vs H Q _ => ∃ (v : V) (p : Pp) (a b : Int) (c PT : Addr) (TT : List (Addr × Str)), vs = [v, .int a, .int b] ∧ IsPp K H v p ∧ p.wt ≤ 10000 ∧ PySem.W.tabIn K "moved" = some (c, PT) ∧ (PT, mvQ) ∈ TT ∧ (∀ z ∈ TT, z.1 = PT → z.2 = mvQ) ∧ LamX.Tabs TT H ∧
  ∀ (H' : Hp) (v' : V), LamX.ExtN H H' → LamX.Tabs TT H' → IsPp K H' v' (p.mv a b) → Q v' H'
theorem ok_moved (T : Txt w K mg) (c_remade : ClL P w K mg base 2 1 "remade" (sp_remade K)) (TB : ∀ c PT, PySem.W.tabIn K "moved" = some (c, PT) → LamX.TabB base mg c PT) : Cl P w K mg base 3 "moved" (sp_moved K) := by
  obtain ⟨c, PT, eT, hC⟩ := T.t_moved
  have TB := TB c PT eT
  refine T.d_moved.okC sc_moved (fun vs H Q E h => ?_) hC (fun f A outer s H vs Q E hr h => ?_)
  · obtain ⟨v, p, a, b, c, PT, TT, rfl, _⟩ := h
    rfl
  · obtain ⟨v, p, a, b, c', PT', TT, rfl, hp, hw, eT', hm, hu, hT, q⟩ := h
    have e := eT.symm.trans eT'
    cases e
    have eq : ((cxOf CX0 P w K mg base sc_movedN (Str.ofString "moved") (defScope s_moved) f (Value.ref c) A outer s H E).nox.env.qual ++ Str.ofString "<lambda>") = mvQ := by
      show ((Str.ofString "moved" ++ Str.ofString ".<locals>.") ++ Str.ofString "<lambda>") = mvQ
      decide +kernel
    have hmT : (PT, (cxOf CX0 P w K mg base sc_movedN (Str.ofString "moved") (defScope s_moved) f (Value.ref c) A outer s H E).nox.env.qual ++ Str.ofString "<lambda>") ∈ TT := by rw [eq]; exact hm
    have huT : ∀ z ∈ TT, z.1 = PT → z.2 = (cxOf CX0 P w K mg base sc_movedN (Str.ofString "moved") (defScope s_moved) f (Value.ref c) A outer s H E).nox.env.qual ++ Str.ofString "<lambda>" := by rw [eq]; exact hu
    refine ⟨_, (pss_one (ps_ret (pe_lamarg (ps := ["p", "many"]) (fr := ["at", "by"]) (N := ["p", "many", "at", "by"]) (js := [1, 2]) (c := c) (P := PT) c_remade hr (by omega) rfl (pv 0) TB rfl hmT huT (NdefX.nscope_by (by decide +kernel)) rfl rfl (NdefX.ndef_free (sc := defScope s_moved) (fr := ["at", "by"]) (by decide +kernel)) (NdefX.ndef_fr (sc := defScope s_moved) (by decide +kernel)) (fun _ _ _ _ _ us hl => match us, hl with | [_, _], _ => rfl) (fun _ _ _ _ _ _ _ _ => (pe_ifExp (PW.pt (pw_and (pt_cmpR op_eq (pe_ix (r := rIxT K) ix_tup (pv 0) pe_int (fun _ _ => rfl)) pe_str (nomark _)) (pw_and1 (pt_cmpR op_ge (pe_ix (r := rIxT K) ix_tup (pv 0) pe_int (fun _ _ => rfl)) (pv 2) (nomark _))))) (pe_tup (pa_cons pe_str (pa_cons (pe_op op_add (pe_ix (r := rIxT K) ix_tup (pv 0) pe_int (fun _ _ => rfl)) (pv 3)) pa_nil))) (pv 0)))))), ?_⟩
    rw [eq]
    refine ⟨_, rfl, hT, fun lf lc H2 eN hT2 nlf hlc => ⟨v, p, mvG a b, rfl, hp.tk (ExtN.tk eN), hw, fun H3 x r m Q1 s3 hx _ hQ => ⟨rfl, s3 _ _ hlc, ?_⟩, fun H4 v' s4 hv => ?_⟩⟩
    · show tIf _ _ _ [some x, some (.int (m : Nat)), some (.int a), some (.int b)] H3 Q1
      by_cases hu : ∃ k, r = .use k
      · obtain ⟨k, rfl⟩ := hu
        cases hx with
        | use hk =>
          refine ⟨_, rfl, _, _, _, _, rfl, rfl, hk, at0, rfl, ?_⟩
          rw [show decide (V.str (Str.ofString "use") = V.str (Str.ofString "use")) = true from decide_eq_true rfl]
          refine ⟨_, rfl, _, rfl, _, _, _, _, rfl, rfl, hk, at1, _, rfl, _, _, rfl, rfl, _, rfl, ?_⟩
          by_cases hak : a ≤ k
          · rw [decide_eq_true hak]
            refine ⟨_, rfl, _, _, _, _, rfl, rfl, hk, at1, _, rfl, _, _, rfl, rfl, sz2, fun t nt => hQ _ _ (same_new nt) ?_⟩
            show IsPp K _ (.ref t) (.use (k + b * (if a ≤ k then 1 else 0)))
            rw [if_pos hak, Int.mul_one]
            exact .use (.inl (.inl upd_same))
          · rw [decide_eq_false hak]
            refine ⟨_, rfl, hQ _ _ (Same.refl _) ?_⟩
            show IsPp K _ _ (.use (k + b * (if a ≤ k then 1 else 0)))
            rw [if_neg hak, Int.mul_zero, Int.add_zero]
            exact .use hk
      · obtain ⟨a', xs, rfl, hk, _⟩ := hx.kid
        have nw : r.wd ≠ .use := fun z => by cases r <;> first | exact hu ⟨_, rfl⟩ | exact PW.noConfusion z
        refine ⟨_, rfl, _, _, _, _, rfl, rfl, hk, at0, rfl, ?_⟩
        rw [show decide (V.str r.wd.s = V.str (Str.ofString "use")) = false from (PW.s_eq r.wd .use).trans (decide_eq_false nw)]
        refine ⟨false, rfl, _, rfl, hQ _ _ (Same.refl _) ?_⟩
        rw [show mvG a b r m = r by cases r <;> first | exact absurd ⟨_, rfl⟩ hu | rfl]
        exact hx
    · rw [rem_mv] at hv
      exact q H4 v' (ExtN.same eN s4) (Tabs.same hT2 s4) hv
/-! ### put_in -/
abbrev piQ : Str := "put_in.<locals>.changed"
abbrev nd_changed : Stmt := (defBody s_put_in).getD 2 (.Pass ⟨0, 0, 0, 0⟩)
def sp_changed (K : PySem.W.Frag) (ws : List (Option V)) : Sp := fun vs H Q _ => ∃ (x : V) (q o : Pp) (m : Nat) (a : Int) (d : Addr) (kvs : List (Key × V)), vs = [x, .int (m : Nat)] ∧ ws = [some (.int a), some (.ref d)] ∧ IsPp K H x q ∧ H d = some (.dK kvs) ∧ (q = .use a → ∃ y, valV kvs (.inl (m : Nat)) = some y ∧ IsPp K H y (o.mv a (m : Nat))) ∧
  ∀ (H' : Hp) (y : V), Same H H' → IsPp K H' y (putG a o q m) → Q y H'
theorem ok_changed (q : Str) (cl : List (Str × Addr)) (c f : Addr) : NdefX.NOk P w K mg base CX0 1 f (NdefX.NF.of nd_changed (Str.ofString "changed") q cl c) ["p", "many"] ["at", "moves"] (sp_changed K) := by
  refine NdefX.nok_of (k := 0) (N := ["p", "many", "at", "moves"]) (show NdefX.NScope _ _ _ (C8.fnScope nd_changed) from NdefX.nscope_by (by decide +kernel)) (fun doc pm ctv us hl => match us, hl with | [_, _], _ => rfl) (fun ws vs H Q E h => ?_) (fun A outer s H vs ws Q E hr hf hc hl h => ?_)
  · obtain ⟨x, q, o, m, a, d, kvs, rfl, _⟩ := h
    rfl
  · obtain ⟨x, q, o, m, a, d, kvs, rfl, rfl, hx, hd, hu, k⟩ := h
    refine ⟨_, (pss_cons (ps_if (PW.pt (pw_or (pt_cmpR op_ne (pe_ix (r := rIxT K) ix_tup (pv 0) pe_int (fun _ _ => rfl)) pe_str (nomark _)) (pw_or1 (pt_cmpR op_lt (pe_ix (r := rIxT K) ix_tup (pv 0) pe_int (fun _ _ => rfl)) (pv 2) (nomark _)))))
      (pss_one (ps_ret (pv 0)))
      pss_nil)
    (pss_one (ps_ret (pe_ifExp (pt_cmpR op_eq (pe_ix (r := rIxT K) ix_tup (pv 0) pe_int (fun _ _ => rfl)) (pv 2) (nomark _)) (pe_dget (hu_of hr) (pv 3) (pv 1) (fun _ _ => rfl)) (pe_tup (pa_cons pe_str (pa_cons (pe_op op_sub (pe_ix (r := rIxT K) ix_tup (pv 0) pe_int (fun _ _ => rfl)) pe_int) pa_nil))))))), ?_⟩
    have hs : NdefX.startF [Str.ofString "p", Str.ofString "many", Str.ofString "at", Str.ofString "moves"] [x, V.int (m : Nat)] [some (V.int a), some (V.ref d)] = [some x, some (.int (m : Nat)), some (.int a), some (.ref d)] := rfl
    rw [hs]
    by_cases hq : ∃ z, q = .use z
    · obtain ⟨z, rfl⟩ := hq
      have hx0 := hx
      cases hx with
      | use hk =>
        refine ⟨_, rfl, _, _, _, _, rfl, rfl, hk, at0, rfl, _, rfl, iteF' (by rw [decide_eq_true rfl]; rfl) ?_⟩
        refine ⟨_, rfl, _, _, _, _, rfl, rfl, hk, at1, _, rfl, _, _, rfl, rfl, _, rfl, ?_⟩
        by_cases h1 : z < a
        · refine iteT' (decide_eq_true h1) ⟨_, rfl, k H _ (Same.refl _) ?_⟩
          rw [show putG a o (.use z) m = .use z from if_pos h1]
          exact hx0
        refine iteF' (decide_eq_false h1) ?_
        refine ⟨_, rfl, _, _, _, _, rfl, rfl, hk, at1, _, rfl, rfl, _, rfl, ?_⟩
        by_cases h2 : z = a
        · subst h2
          obtain ⟨y, hy, iy⟩ := hu rfl
          refine iteT' (decide_eq_true rfl) ?_
          refine ⟨_, rfl, _, rfl, d, y, rfl, .inl ⟨kvs, .inl (m : Nat), .inl hd, rfl, hy.symm⟩, k H y (Same.refl _) ?_⟩
          rw [show putG z o (.use z) m = o.mv z (m : Nat) from (if_neg h1).trans (if_pos rfl)]
          exact iy
        · refine iteF' (decide_eq_false (fun e => h2 (by injection e))) ?_
          refine ⟨_, rfl, _, _, _, _, rfl, rfl, hk, at1, _, _, rfl, rfl, sz2, fun t nt => k _ _ (same_new nt) ?_⟩
          rw [show putG a o (.use z) m = .use (z - 1) from (if_neg h1).trans (if_neg h2)]
          exact .use (.inl (.inl upd_same))
    · obtain ⟨a', xs, rfl, hk, _⟩ := hx.kid
      have nw : q.wd ≠ .use := fun z => by cases q <;> first | exact hq ⟨_, rfl⟩ | exact PW.noConfusion z
      refine ⟨_, rfl, _, _, _, _, rfl, rfl, hk, at0, rfl, _, rfl, iteT' (by rw [show decide (V.str q.wd.s = V.str (Str.ofString "use")) = false from (PW.s_eq q.wd .use).trans (decide_eq_false nw)]; rfl) ?_⟩
      refine ⟨_, rfl, k H _ (Same.refl _) ?_⟩
      rw [show putG a o q m = q by cases q <;> first | exact absurd ⟨_, rfl⟩ hq | rfl]
      exact hx
def cntS (S : Int → Bool) (l : List Nat) : Nat := (l.filter fun m => S (m : Nat)).length
theorem cnt_mono {S S' : Int → Bool} (h : ∀ z, S z = true → S' z = true) : ∀ l : List Nat, cntS S l ≤ cntS S' l
  | [] => Nat.le_refl _
  | m :: r => by
    have ih := cnt_mono h r
    unfold cntS at ih ⊢
    rw [List.filter_cons, List.filter_cons]
    cases e : S (m : Nat) with
    | true =>
      rw [h _ e]
      simpa using ih
    | false =>
      cases S' (m : Nat) with
      | true =>
        simp
        omega
      | false => simpa using ih
theorem cnt_new {S S' : Int → Bool} (h : ∀ z, S z = true → S' z = true) {k : Nat} (h0 : S (k : Nat) = false) (h1 : S' (k : Nat) = true) : ∀ l : List Nat, k ∈ l → cntS S l + 1 ≤ cntS S' l
  | m :: r, hm => by
    have mo := cnt_mono h r
    by_cases e : k = m
    · subst e
      unfold cntS at mo ⊢
      rw [List.filter_cons, List.filter_cons, h0, h1]
      simpa using mo
    · have ih := cnt_new h h0 h1 r ((List.mem_cons.mp hm).resolve_left e)
      unfold cntS at ih ⊢
      rw [List.filter_cons, List.filter_cons]
      cases e2 : S (m : Nat) with
      | true =>
        rw [h _ e2]
        simpa using ih
      | false =>
        cases S' (m : Nat) with
        | true =>
          simp
          omega
        | false => simpa using ih
theorem cnt_le (S : Int → Bool) : cntS S (List.range 1000) ≤ 1000 := by
  have h := List.length_filter_le (fun m : Nat => S (m : Nat)) (List.range 1000)
  rw [List.length_range] at h
  exact h
def sp_put_in (K : PySem.W.Frag) : Sp := fun vs H Q _ => ∃ (v v2 : V) (p o : Pp) (a : Int) (c PT c2 PT2 : Addr) (TT : List (Addr × Str)), vs = [v, .int a, v2] ∧ IsPp K H v p ∧ IsPp K H v2 o ∧ p.wt ≤ 10000 ∧ o.wt ≤ 10000 ∧ p.ad ≤ 999 ∧
  PySem.W.tabIn K "put_in" = some (c, PT) ∧ (PT, piQ) ∈ TT ∧ (∀ z ∈ TT, z.1 = PT → z.2 = piQ) ∧ PySem.W.tabIn K "moved" = some (c2, PT2) ∧ (PT2, mvQ) ∈ TT ∧ (∀ z ∈ TT, z.1 = PT2 → z.2 = mvQ) ∧ LamX.Tabs TT H ∧
  ∀ (H' : Hp) (v' : V), LamX.ExtN H H' → LamX.Tabs TT H' → IsPp K H' v' (p.rem (putG a o) 0) → Q v' H'
theorem ok_put_in (T : Txt w K mg) (c_levels : Cl P w K mg base 1 "levels" (sp_levels K)) (c_moved : Cl P w K mg base 3 "moved" (sp_moved K)) (c_remade : ClL P w K mg base 2 1 "remade" (sp_remade K)) (TB : ∀ c PT, PySem.W.tabIn K "put_in" = some (c, PT) → LamX.TabB base mg c PT) : Cl P w K mg base 4 "put_in" (sp_put_in K) := by
  obtain ⟨c, PT, eT, hC⟩ := T.t_put_in
  have TB := TB c PT eT
  refine T.d_put_in.okC sc_put_in (fun vs H Q E h => ?_) hC (fun f A outer s H vs Q E hr h => ?_)
  · obtain ⟨v, v2, p, o, a, c, PT, c2, PT2, TT, rfl, _⟩ := h
    rfl
  · obtain ⟨v, v2, p, o, a, c', PT', c2, PT2, TT, rfl, hp, ho, hw, hwo, hht, eT', hm, hu, eT2, hm2, hu2, hT, q⟩ := h
    have e := eT.symm.trans eT'
    cases e
    have hnq : (piQ : Str) = (cxOf CX0 P w K mg base sc_put_inN (Str.ofString "put_in") (defScope s_put_in) f (Value.ref c) A outer s H E).nox.env.qual ++ Str.ofString "changed" := by
      show piQ = ((Str.ofString "put_in" ++ Str.ofString ".<locals>.") ++ Str.ofString "changed")
      decide +kernel
    have hmT : ((PT, fun _ _ => piQ) : NdefX.NTab) ∈ TT.map fun z => ((z.1, fun _ _ => z.2) : NdefX.NTab) := List.mem_map.mpr ⟨(PT, piQ), hm, rfl⟩
    have huT : ∀ z ∈ TT.map (fun z => ((z.1, fun _ _ => z.2) : NdefX.NTab)), z.1 = PT → z.2 = fun _ _ => piQ := fun z hz e => by
      obtain ⟨y, hy, rfl⟩ := List.mem_map.mp hz
      have := hu y hy e
      show (fun (_ _ : Nat) => y.2) = _
      rw [this]
    refine ⟨_, (pss_cons (ps_set (i := 3) sc_put_in.nd rfl (Or.inl rfl) (pe_callB (r := SetN.rSortedSetN w) (SetN.cr_sortedSetN rfl) rfl T.n_sorted (by decide +kernel) (pa_cons (PpI.pe_si (own := [("p", 7), ("many", 6)]) rfl sc_put_in.nd (pi_listK (K := K) (pe_k c_levels hr (by omega) rfl (pa_cons (pv 0) pa_nil))) (blkOk_by (N := sc_put_inN) (sc := defScope s_put_in) (by decide +kernel)) (fun _ _ _ _ _ => (pg_tupK (K := K) (n := 2) rfl (pgs_cons (pg_name (i := 7) sc_put_in.nd rfl (Or.inl rfl)) (pgs_cons (pg_name (i := 6) sc_put_in.nd rfl (Or.inl rfl)) pgs_nil)))) (fun _ _ _ _ _ => (pts_one (PW.pt (pw_and (pt_cmpR op_eq (pe_ix (r := rIxT K) ix_tup (pv 7) pe_int (fun _ _ => rfl)) pe_str (nomark _)) (pw_and1 (pt_cmpR op_eq (pe_ix (r := rIxT K) ix_tup (pv 7) pe_int (fun _ _ => rfl)) (pv 1) (nomark _))))))) (fun _ _ _ _ _ => (pv 6))) pa_nil)))
    (pss_cons (ps_set (i := 5) sc_put_in.nd rfl (Or.inr rfl) (pe_dc (own := [("many", 6)]) rfl sc_put_in.nd (pi_listK (K := K) (pv 3)) (blkOk_by (N := sc_put_inN) (sc := defScope s_put_in) (by decide +kernel)) (fun _ _ _ _ _ => (pg_name (i := 6) sc_put_in.nd rfl (Or.inl rfl))) (fun _ _ _ _ _ => pts_nil) (fun _ _ _ _ _ => (pv 6)) (fun _ _ _ _ _ => (pe_k c_moved hr (by omega) rfl (pa_cons (pv 2) (pa_cons (pv 1) (pa_cons (pv 6) pa_nil)))))))
    (pss_cons (NdefX.ps_ndefS (st := nd_changed) (T := TT.map fun z => (z.1, fun _ _ => z.2)) (nm := fun _ _ => piQ) (c := c) (P := PT) (i := 4) rfl TB rfl hmT hnq huT (NdefX.ndef_free (sc := defScope s_put_in) (nsc := C8.fnScope nd_changed) (fr := ["at", "moves"]) (by decide +kernel)) rfl rfl rfl sc_put_in.nd rfl (Or.inl rfl) (Or.inr rfl))
    (pss_one (ps_ret (pe_ndarg (mk := fun c2 => NdefX.NF.of nd_changed (Str.ofString "changed") ((cxOf CX0 P w K mg base sc_put_inN (Str.ofString "put_in") (defScope s_put_in) f (Value.ref c) A outer s H E).nox.env.qual ++ Str.ofString "changed") (cloFrom (cxOf CX0 P w K mg base sc_put_inN (Str.ofString "put_in") (defScope s_put_in) f (Value.ref c) A outer s H E).nox.env.cells (C8.fnScope nd_changed).names []) c2) (i := 4) (js := [1, 5]) c_remade hr (by omega) rfl (pv 0) (fun f2 c2 => ok_changed _ _ _ _) (fun _ => rfl) (fun ok => NdefX.Caps.made ok (NdefX.ndef_free (sc := defScope s_put_in) (nsc := C8.fnScope nd_changed) (fr := ["at", "moves"]) (by decide +kernel)) (NdefX.ndef_fr (sc := defScope s_put_in) (nsc := C8.fnScope nd_changed) (by decide +kernel)) rfl) rfl (Or.inl rfl))))))), ?_⟩
    refine ⟨_, rfl, v, p, rfl, hp, nn_wt hw, fun l H1 xs s1 nl hl pl => ⟨l, rfl, ⟨_, SqL.of hl⟩, fun D nD => ?_⟩⟩
    have pl : Paired (LvV K H H1) xs (p.lvl 0) := pl
    refine PpI.si_list (K := K) (a := l) (xs := xs) (fun j H6 => ∃ (S : Int → Bool) (n : Nat), H6 D = some (SetO w D S n) ∧ n ≤ cntS S (List.range 1000) ∧ Same H1 H6 ∧ (∀ z, S z = true → ∃ m : Nat, z = (m : Int)) ∧ ∀ u ∈ (p.lvl 0).take j, u.1 = .use a → S (u.2 : Nat) = true) ?_ ?_ ?_ ?_
    · exact ⟨_, 0, upd_same, Nat.zero_le _, same_new nD, (fun _ h => absurd h Bool.false_ne_true), (fun _ h => absurd h (by simp))⟩
    · rintro j H6 ⟨S, n, hD, hn, s6, hS1, hS2⟩
      exact SqL.of (s6 _ _ hl)
    · rintro j x H6 hx ⟨S, n, hD, hn, s6, hS1, hS2⟩
      obtain ⟨⟨tp, tm⟩, hu, b, y, rfl, ht, iy⟩ := pair_get pl hx
      have mu := List.mem_of_getElem? hu
      have hm61 := lvl_ad p 0 _ mu
      have et : (p.lvl 0).take (j + 1) = (p.lvl 0).take j ++ [(tp, tm)] := by rw [List.take_succ, hu]; rfl
      refine ⟨b, _, rfl, seqT s6 ht, rfl, _, _, rfl, _, _, rfl, rfl, rfl, ?_⟩
      have iy6 := (iy.same s1).same s6
      by_cases hq : ∃ z, tp = .use z
      · obtain ⟨z, rfl⟩ := hq
        cases iy6 with
        | use hk =>
          refine ⟨_, rfl, _, _, _, _, rfl, rfl, hk, at0, rfl, _, rfl, iteT' (decide_eq_true rfl) ?_⟩
          refine ⟨_, rfl, _, _, _, _, rfl, rfl, hk, at1, _, rfl, rfl, _, rfl, ?_⟩
          by_cases hza : z = a
          · subst hza
            refine iteT' (decide_eq_true rfl) ⟨_, rfl, (tm : Int), S, n, rfl, hD, ?_, _, _, upd_same, ?_, same_put s6 nD, fun z h => ?_, fun u h hu => ?_⟩
            · have := cnt_le S
              exact Nat.lt_of_le_of_lt (show n + 1 ≤ 1001 by omega) (by decide)
            · have mo : ∀ z, S z = true → (fun j => S j || decide (j = (tm : Int))) z = true := fun z h => by show (S z || _) = true; rw [h]; rfl
              by_cases hs : S (tm : Nat) = true
              · rw [if_pos hs]
                exact Nat.le_trans hn (cnt_mono mo _)
              · rw [if_neg hs]
                have := cnt_new mo (k := tm) (Bool.eq_false_iff.mpr hs) (by show (S _ || decide ((tm : Int) = (tm : Int))) = true; rw [decide_eq_true rfl, Bool.or_true]) (List.range 1000) (List.mem_range.mpr (by show tm < 1000; omega))
                omega
            · rcases Bool.or_eq_true_iff.mp h with h | h
              · exact hS1 z h
              · exact ⟨tm, of_decide_eq_true h⟩
            · rw [et] at h
              show (S _ || decide (_ = _)) = true
              rcases List.mem_append.mp h with h | h
              · rw [hS2 u h hu]
                rfl
              · rw [List.mem_singleton.mp h, decide_eq_true rfl, Bool.or_true]
          · refine iteF' (decide_eq_false (fun e => hza (by injection e))) ⟨S, n, hD, hn, s6, hS1, fun u h hu => ?_⟩
            rw [et] at h
            rcases List.mem_append.mp h with h | h
            · exact hS2 u h hu
            · rw [List.mem_singleton.mp h] at hu
              injection hu with hu
              exact absurd hu hza
      · obtain ⟨b2, ys, rfl, hk, _⟩ := iy6.kid
        have nw : tp.wd ≠ .use := fun z => by cases tp <;> first | exact hq ⟨_, rfl⟩ | exact PW.noConfusion z
        refine ⟨_, rfl, _, _, _, _, rfl, rfl, hk, at0, rfl, _, rfl, iteF' ((PW.s_eq tp.wd .use).trans (decide_eq_false nw)) ⟨S, n, hD, hn, s6, hS1, fun u h hu => ?_⟩⟩
        rw [et] at h
        rcases List.mem_append.mp h with h | h
        · exact hS2 u h hu
        · rw [List.mem_singleton.mp h] at hu
          exact absurd ⟨_, hu⟩ hq
    · rintro H2 ⟨S, n, hD, hn, s2, hS1, hS2⟩
      have hc := cnt_le S
      rw [pair_len pl, List.take_length] at hS2
      refine ⟨D, S, n, rfl, hD, fun ns r _ hmem hlen nr => ?_⟩
      have s3 : Same H2 (upd H2 r (.lst (ns.map V.int))) := same_new nr
      have hr3 : (upd H2 r (.lst (ns.map V.int))) r = some (.lst (ns.map V.int)) := upd_same
      have s03 := s1.trans (s2.trans s3)
      have hT3 := Tabs.same hT s03
      generalize upd H2 r (.lst (ns.map V.int)) = H3 at s3 hr3 s03 hT3 ⊢
      refine ⟨_, rfl, r, rfl, ⟨_, SqL.of hr3⟩, fun M nM => ?_⟩
      have nrM : r ≠ M := ne_of_none hr3 nM
      refine dc_it (walk_list (K := K) (a := r) (xs := ns.map V.int)) (fun j H6 => ∃ kvs : List (Key × V), H6 M = some (.dK kvs) ∧ kvs.length ≤ j ∧ LamX.ExtN H3 H6 ∧ LamX.Tabs TT H6 ∧ ∀ z ∈ ns.take j, ∃ y, valV kvs (.inl z) = some y ∧ IsPp K H6 y (o.mv a z)) ?_ ?_ ?_ ?_
      · exact ⟨[], upd_same, Nat.le_refl _, ExtN.put (LamX.ExtN.refl _) nM, Tabs.same hT3 (same_new nM), fun z h => absurd h (by simp)⟩
      · rintro j H6 _ ⟨kvs, hM, hk, e6, t6, hz⟩
        exact SqL.of (e6 _ _ hr3 fun _ z => nomatch z)
      · rintro j x H6 H7 hj ⟨kvs, hM, hk, e6, t6, hz⟩ ⟨rfl, hx⟩
        rw [List.getElem?_map] at hx
        obtain ⟨z, hz0, rfl⟩ := Option.map_eq_some_iff.mp hx
        have et : ns.take (j + 1) = ns.take j ++ [z] := by rw [List.take_succ, hz0]; rfl
        have nl : ns.length ≤ 1000 := by omega
        have hj' : j < ns.length := (List.getElem?_eq_some_iff.mp hz0).1
        have ho7 := (ho.same s03).tk (ExtN.tk e6)
        refine ⟨rfl, _, rfl, _, rfl, _, rfl, _, rfl, v2, o, a, z, c2, PT2, TT, rfl, ho7, hwo, eT2, hm2, hu2, t6, fun H8 y e8 t8 iy => ?_⟩
        have hM8 := e8 _ _ hM fun _ z => nomatch z
        refine ⟨kvs, .inl z, rfl, hM8, small (by omega), _, upd_same, ?_, ExtN.put (e6.trans e8) nM, Tabs.putK t8 hM8, fun u hu => ?_⟩
        · have := length_putK kvs (.inl z : Key) y
          omega
        · rw [et] at hu
          rw [valV_put]
          by_cases e : u = z
          · subst e
            exact ⟨y, if_pos rfl, iy.tk (tk_dK hM8)⟩
          · have hu := (List.mem_append.mp hu).resolve_right (fun h => e (List.mem_singleton.mp h))
            obtain ⟨y', h1, h2⟩ := hz u hu
            exact ⟨y', (if_neg (fun q => e (by injection q))).trans h1, (h2.tk (ExtN.tk e8)).tk (tk_dK hM8)⟩
      · rintro H6 ⟨kvs, hM, hk, e6, t6, hz⟩
        rw [List.length_map, List.take_length] at hz
        refine ⟨fun y hy => ?_, fun f2 c3 H7 e7 t7 nf hf hcc => ?_⟩
        · obtain ⟨u, hu, rfl⟩ := List.mem_map.mp hy
          exact t6 u hu
        have t7' : LamX.Tabs TT H7 := fun u hu => t7 _ (List.mem_map.mpr ⟨u, hu, rfl⟩)
        have e37 := e6.trans e7
        have e07 : LamX.ExtN H H7 := (LamX.ExtN.of s03).trans e37
        have hM7 := e7 _ _ hM fun _ z => nomatch z
        refine ⟨_, rfl, f2, c3, rfl, hf, v, p, putG a o, rfl, (hp.tk (ExtN.tk e07)), hw, fun H8 x q m Q1 s8 hx hu hQ => ⟨s8 _ _ hf, s8 _ _ hcc, x, q, o, m, a, M, kvs, rfl, rfl, hx, s8 _ _ hM7, fun e => ?_, fun H9 y s9 iy => hQ H9 y s9 iy⟩, fun H8 v' s8 iv => ?_⟩
        · obtain ⟨⟨tp, tm⟩, mu, ks, kl, eq, em⟩ := hu
          have em : m = tm := em
          subst em
          have e2 : tp = .use a := re_use (eq.symm.trans e) kl
          have hin := (hmem (m : Nat)).mpr (hS2 _ mu e2)
          obtain ⟨y, h1, h2⟩ := hz _ hin
          exact ⟨y, h1, (h2.tk (ExtN.tk e7)).same s8⟩
        · exact q H8 v' (ExtN.same e07 s8) (Tabs.same t7' s8) iv
/-! ### _taken -/
/-- the tables of those that make functions -/
def Tb (K : PySem.W.Frag) (TT : List (Addr × Str)) : Prop := (∃ c PT, PySem.W.tabIn K "put_in" = some (c, PT) ∧ (PT, piQ) ∈ TT ∧ ∀ z ∈ TT, z.1 = PT → z.2 = piQ) ∧ ∃ c PT, PySem.W.tabIn K "moved" = some (c, PT) ∧ (PT, mvQ) ∈ TT ∧ ∀ z ∈ TT, z.1 = PT → z.2 = mvQ
theorem cond2 {σ : L2.St} {H : Hp} {Q : Bool → Hp → Prop} {u : V} {c : Pp} {wp : PW} (X Y : PW) (h2 : σ[2]? = some (some (.str wp.s))) (h3 : σ[3]? = some (some u)) (iu : IsPp K H u c) (q : Q (decide (wp = X) && decide (c.wd = Y)) H) :
    tAnd (tTest (tOp rEq (tVar 2) (tC (.str X.s)))) (tTest (tOp rEq (tOp (rIxT K) (tVar 3) (tC (.int 0))) (tC (.str Y.s)))) σ H Q := by
  obtain ⟨o, its, rfl, hk, _⟩ := iu.kid
  refine ⟨_, h2, rfl, _, rfl, ?_⟩
  by_cases e : wp = X
  · refine iteT' ((PW.s_eq wp X).trans (decide_eq_true e)) ⟨_, h3, o, _, _, _, rfl, rfl, hk, at0, rfl, _, rfl, ?_⟩
    rw [decide_eq_true e, Bool.true_and] at q
    show Q (decide (V.str c.wd.s = V.str Y.s)) H
    rw [PW.s_eq]
    exact q
  · rw [decide_eq_false e, Bool.false_and] at q
    exact iteF' ((PW.s_eq wp X).trans (decide_eq_false e)) q
def sp_taken (K : PySem.W.Frag) : Sp := fun vs H Q _ => ∃ (n : Int) (v : V) (p c : Pp) (TT : List (Addr × Str)), vs = [.int n, v] ∧ IsPp K H v p ∧ p.chf = some c ∧ p.wt ≤ 10000 ∧ p.ad ≤ 999 ∧ Tb K TT ∧ LamX.Tabs TT H ∧
  ∀ (H' : Hp) (v' : V), LamX.ExtN H H' → LamX.Tabs TT H' → OptV K H' v' (p.taken n) → Q v' H'
theorem ok_taken (T : Txt w K mg) (c_put_in : Cl P w K mg base 4 "put_in" (sp_put_in K)) : Cl P w K mg base 5 "_taken" (sp_taken K) := by
  refine T.d_taken.ok sc_taken (fun vs H Q E h => ?_) (fun f cdv A outer s H vs Q E hr h => ?_)
  · obtain ⟨n, v, p, c, TT, rfl, _⟩ := h
    rfl
  · obtain ⟨n, v, p, c, TT, rfl, hp, hc, hw, hh, tb, hT, q⟩ := h
    refine ⟨_, (pss_cons (ps_par (i := 2) (j := 3) rfl sc_taken.nd rfl rfl (by decide) rfl rfl (pa_cons (pe_ix (r := rIxT K) ix_tup (pv 1) pe_int (fun _ _ => rfl)) (pa_cons (pe_ix (r := rIxT K) ix_tup (pv 1) pe_int (fun _ _ => rfl)) pa_nil)) rfl)
    (pss_cons (ps_if (PW.pt (pw_and (pt_cmpR op_eq (pv 2) pe_str (nomark _)) (pw_and1 (pt_cmpR op_eq (pe_ix (r := rIxT K) ix_tup (pv 3) pe_int (fun _ _ => rfl)) pe_str (nomark _)))))
      (pss_one (ps_ret (pe_ix (r := rIxT K) ix_tup (pv 3) pe_int (fun _ _ => rfl))))
      pss_nil)
    (pss_cons (ps_if (PW.pt (pw_and (pt_cmpR op_eq (pv 2) pe_str (nomark _)) (pw_and1 (pt_cmpR op_eq (pe_ix (r := rIxT K) ix_tup (pv 3) pe_int (fun _ _ => rfl)) pe_str (nomark _)))))
      (pss_one (ps_ret (pe_ix (r := rIxT K) ix_tup (pv 3) pe_int (fun _ _ => rfl))))
      pss_nil)
    (pss_cons (ps_if (PW.pt (pw_and (pt_cmpR op_eq (pv 2) pe_str (nomark _)) (pw_and1 (pt_cmpR op_eq (pe_ix (r := rIxT K) ix_tup (pv 3) pe_int (fun _ _ => rfl)) pe_str (nomark _)))))
      (pss_one (ps_ret (pe_k c_put_in hr (by omega) rfl (pa_cons (pe_ix (r := rIxT K) ix_tup (pv 3) pe_int (fun _ _ => rfl)) (pa_cons (pv 0) (pa_cons (pe_ix (r := rIxT K) ix_tup (pv 1) pe_int (fun _ _ => rfl)) pa_nil))))))
      pss_nil)
    (pss_cons (ps_if (PW.pt (pw_and (pt_cmpR op_eq (pv 2) pe_str (nomark _)) (pw_and1 (pt_cmpR op_eq (pe_ix (r := rIxT K) ix_tup (pv 3) pe_int (fun _ _ => rfl)) pe_str (nomark _)))))
      (pss_one (ps_ret (pe_k c_put_in hr (by omega) rfl (pa_cons (pe_ix (r := rIxT K) ix_tup (pv 1) pe_int (fun _ _ => rfl)) (pa_cons (pv 0) (pa_cons (pe_ix (r := rIxT K) ix_tup (pv 3) pe_int (fun _ _ => rfl)) pa_nil))))))
      pss_nil)
    (pss_cons (ps_if (PW.pt (pw_and (pt_cmpR op_eq (pv 2) pe_str (nomark _)) (pw_and1 (pt_cmpR op_eq (pe_ix (r := rIxT K) ix_tup (pv 3) pe_int (fun _ _ => rfl)) pe_str (nomark _)))))
      (pss_one (ps_ret (pe_k c_put_in hr (by omega) rfl (pa_cons (pe_ix (r := rIxT K) ix_tup (pv 1) pe_int (fun _ _ => rfl)) (pa_cons (pv 0) (pa_cons (pe_ix (r := rIxT K) ix_tup (pv 3) pe_int (fun _ _ => rfl)) pa_nil))))))
      pss_nil)
    (pss_one (ps_ret pe_non)))))))), ?_⟩
    obtain ⟨a, xs, x, rfl, ha, ix⟩ := hp.chief hc
    refine ⟨_, rfl, a, _, _, _, rfl, rfl, ha, at0, _, rfl, a, _, _, _, rfl, rfl, ha, at1, ?_⟩
    refine ⟨_, _, rfl, ?_⟩
    obtain ⟨⟨cI, PI, eI, mI, uI⟩, ⟨cM, PM, eM, mM, uM⟩⟩ := id tb
    refine cond2 (σ := [some (.int n), some (.ref a), some (.str p.wd.s), some x]) .first .pair rfl rfl ix ?_
    cases h1 : (decide (p.wd = .first) && decide (c.wd = .pair)) with
    | true =>
      obtain ⟨e1, e2⟩ := and_wd h1
      refine iteT' rfl ?_
      cases p <;> first | exact PW.noConfusion e1 | skip
      cases hc
      cases c <;> first | exact PW.noConfusion e2 | skip
      cases ix with
      | pair hk i1 i2 => exact ⟨_, rfl, _, _, _, _, rfl, rfl, hk, at1, q _ _ (LamX.ExtN.refl _) hT (.inr ⟨_, rfl, i1⟩)⟩
    | false =>
    refine iteF' rfl ?_
    refine cond2 (σ := [some (.int n), some (.ref a), some (.str p.wd.s), some x]) .second .pair rfl rfl ix ?_
    cases h2 : (decide (p.wd = .second) && decide (c.wd = .pair)) with
    | true =>
      obtain ⟨e1, e2⟩ := and_wd h2
      refine iteT' rfl ?_
      cases p <;> first | exact PW.noConfusion e1 | skip
      cases hc
      cases c <;> first | exact PW.noConfusion e2 | skip
      cases ix with
      | pair hk i1 i2 => exact ⟨_, rfl, _, _, _, _, rfl, rfl, hk, at2, q _ _ (LamX.ExtN.refl _) hT (.inr ⟨_, rfl, i2⟩)⟩
    | false =>
    refine iteF' rfl ?_
    refine cond2 (σ := [some (.int n), some (.ref a), some (.str p.wd.s), some x]) .apply .make rfl rfl ix ?_
    cases h3 : (decide (p.wd = .apply) && decide (c.wd = .make)) with
    | true =>
      obtain ⟨e1, e2⟩ := and_wd h3
      refine iteT' rfl ?_
      cases p <;> first | exact PW.noConfusion e1 | skip
      cases hc
      cases c <;> first | exact PW.noConfusion e2 | skip
      cases ix with
      | make hk i1 s1 =>
        cases hp with
        | apply h' _ iq =>
          refine ⟨_, rfl, _, _, _, _, rfl, rfl, hk, at2, _, rfl, _, rfl, a, _, _, _, rfl, rfl, h', at2, ?_⟩
          simp only [Pp.wt, Pp.ad] at hw hh
          refine ⟨_, _, _, _, _, cI, PI, cM, PM, TT, rfl, i1, iq, by omega, by omega, by omega, eI, mI, uI, eM, mM, uM, hT, fun H' v' e' t' i' => q H' v' e' t' (.inr ⟨_, rfl, i'⟩)⟩
    | false =>
    refine iteF' rfl ?_
    refine cond2 (σ := [some (.int n), some (.ref a), some (.str p.wd.s), some x]) .case .left rfl rfl ix ?_
    cases h4 : (decide (p.wd = .case) && decide (c.wd = .left)) with
    | true =>
      obtain ⟨e1, e2⟩ := and_wd h4
      refine iteT' rfl ?_
      cases p <;> first | exact PW.noConfusion e1 | skip
      cases hc
      cases c <;> first | exact PW.noConfusion e2 | skip
      cases ix with
      | left hk i1 s1 =>
        cases hp with
        | case h' _ iq ir is =>
          refine ⟨_, rfl, a, _, _, _, rfl, rfl, h', at2, _, rfl, _, rfl, _, _, _, _, rfl, rfl, hk, at1, ?_⟩
          simp only [Pp.wt, Pp.ad] at hw hh
          refine ⟨_, _, _, _, _, cI, PI, cM, PM, TT, rfl, iq, i1, by omega, by omega, by omega, eI, mI, uI, eM, mM, uM, hT, fun H' v' e' t' i' => q H' v' e' t' (.inr ⟨_, rfl, i'⟩)⟩
    | false =>
    refine iteF' rfl ?_
    refine cond2 (σ := [some (.int n), some (.ref a), some (.str p.wd.s), some x]) .case .right rfl rfl ix ?_
    cases h5 : (decide (p.wd = .case) && decide (c.wd = .right)) with
    | true =>
      obtain ⟨e1, e2⟩ := and_wd h5
      refine iteT' rfl ?_
      cases p <;> first | exact PW.noConfusion e1 | skip
      cases hc
      cases c <;> first | exact PW.noConfusion e2 | skip
      cases ix with
      | right hk i1 s1 =>
        cases hp with
        | case h' _ iq ir is =>
          refine ⟨_, rfl, a, _, _, _, rfl, rfl, h', at3, _, rfl, _, rfl, _, _, _, _, rfl, rfl, hk, at2, ?_⟩
          simp only [Pp.wt, Pp.ad] at hw hh
          refine ⟨_, _, _, _, _, cI, PI, cM, PM, TT, rfl, ir, i1, by omega, by omega, by omega, eI, mI, uI, eM, mM, uM, hT, fun H' v' e' t' i' => q H' v' e' t' (.inr ⟨_, rfl, i'⟩)⟩
    | false =>
    refine iteF' rfl ?_
    exact q _ _ (LamX.ExtN.refl _) hT (.inl ⟨taken_none hc h1 h2 h3 h4 h5, rfl⟩)
/-! ### _shown -/
def sp_shown (K : PySem.W.Frag) : Sp := fun vs H Q _ => ∃ (v x : V) (p : Pp) (a s : Sm), vs = [v, x] ∧ IsPp K H v p ∧ IsSm K H x a ∧ p.shw a = some s ∧ ∀ (H' : Hp) (v' : V), Same H H' → IsSm K H' v' s → Q v' H'
theorem ok_shown (T : Txt w K mg) : Cl P w K mg base 1 "_shown" (sp_shown K) := by
  refine T.d_shown.ok sc_shown (fun vs H Q E h => ?_) (fun f cdv A outer s H vs Q E hr h => ?_)
  · obtain ⟨v, x, p, a, s, rfl, _⟩ := h
    rfl
  · obtain ⟨v, x, p, a, s, rfl, hp, ha, hs, q⟩ := h
    refine ⟨_, (pss_cons (ps_if (pt_cmpR op_eq (pe_ix (r := rIxT K) ix_tup (pv 0) pe_int (fun _ _ => rfl)) pe_str (nomark _))
      (pss_one (ps_ret (pe_ix (r := rIxT K) ix_tup (pv 1) pe_int (fun _ _ => rfl))))
      pss_nil)
    (pss_cons (ps_if (pt_cmpR (r := rIn K false) op_in_seq (pe_ix (r := rIxT K) ix_tup (pv 0) pe_int (fun _ _ => rfl)) (pe_tup (pa_cons pe_str (pa_cons pe_str pa_nil))) (by rfl))
      (pss_one (ps_ret (pe_ix (r := rIxT K) ix_tup (pv 1) pe_int (fun _ _ => rfl))))
      pss_nil)
    (pss_one (ps_ret (pe_ix (r := rIxT K) ix_tup (pv 0) (pe_un un_neg pe_int) (fun _ _ => rfl)))))), ?_⟩
    cases hp with
    | @first pa y p h ip =>
      cases ha with
      | lt _ => cases hs
      | nv _ => cases hs
      | bin ht i1 i2 =>
        cases hs
        exact ⟨_, rfl, _, _, _, _, rfl, rfl, h, at0, rfl, _, rfl, iteT' (decide_eq_true rfl) ⟨_, rfl, _, _, _, _, rfl, rfl, ht, at1, q _ _ (Same.refl _) i1⟩⟩
    | @second pa y p h ip =>
      cases ha with
      | lt _ => cases hs
      | nv _ => cases hs
      | bin ht i1 i2 =>
        cases hs
        refine ⟨_, rfl, _, _, _, _, rfl, rfl, h, at0, rfl, _, rfl, iteF' (by decide +kernel) ⟨_, rfl, _, _, _, _, rfl, rfl, h, at0, sz2, fun t nt => ?_⟩⟩
        have st := same_new (o := .tup [.str "second", .str "apply"]) nt
        have htt : (upd H t (.tup [V.str "second", .str "apply"])) t = some (.tup [.str "second", .str "apply"]) := upd_same
        generalize upd H t (.tup [.str "second", .str "apply"]) = H1 at st htt ⊢
        exact ⟨t, _, rfl, .inr (.inl (.inl htt)), rfl, rfl, _, rfl, iteT' (by decide +kernel) ⟨_, rfl, _, _, _, _, rfl, rfl, seqT st ht, at2, q _ _ st (i2.same st)⟩⟩
    | @apply pa y z p r h ip ir =>
      cases ha with
      | lt _ => cases hs
      | nv _ => cases hs
      | bin ht i1 i2 =>
        cases hs
        refine ⟨_, rfl, _, _, _, _, rfl, rfl, h, at0, rfl, _, rfl, iteF' (by decide +kernel) ⟨_, rfl, _, _, _, _, rfl, rfl, h, at0, sz2, fun t nt => ?_⟩⟩
        have st := same_new (o := .tup [.str "second", .str "apply"]) nt
        have htt : (upd H t (.tup [V.str "second", .str "apply"])) t = some (.tup [.str "second", .str "apply"]) := upd_same
        generalize upd H t (.tup [.str "second", .str "apply"]) = H1 at st htt ⊢
        exact ⟨t, _, rfl, .inr (.inl (.inl htt)), rfl, rfl, _, rfl, iteT' (by decide +kernel) ⟨_, rfl, _, _, _, _, rfl, rfl, seqT st ht, at2, q _ _ st (i2.same st)⟩⟩
    | @case pa y z u w' p r r2 c h ip ir ir2 is =>
      cases hs
      refine ⟨_, rfl, _, _, _, _, rfl, rfl, h, at0, rfl, _, rfl, iteF' (by decide +kernel) ⟨_, rfl, _, _, _, _, rfl, rfl, h, at0, sz2, fun t nt => ?_⟩⟩
      have st := same_new (o := .tup [.str "second", .str "apply"]) nt
      have htt : (upd H t (.tup [V.str "second", .str "apply"])) t = some (.tup [.str "second", .str "apply"]) := upd_same
      generalize upd H t (.tup [.str "second", .str "apply"]) = H1 at st htt ⊢
      exact ⟨t, _, rfl, .inr (.inl (.inl htt)), rfl, rfl, _, rfl, iteF' (by decide +kernel) ⟨_, rfl, _, rfl, _, _, _, _, rfl, rfl, seqT st h, rfl, q _ _ st (is.same st)⟩⟩
    | @escape pa y z p c h ip is =>
      cases hs
      refine ⟨_, rfl, _, _, _, _, rfl, rfl, h, at0, rfl, _, rfl, iteF' (by decide +kernel) ⟨_, rfl, _, _, _, _, rfl, rfl, h, at0, sz2, fun t nt => ?_⟩⟩
      have st := same_new (o := .tup [.str "second", .str "apply"]) nt
      have htt : (upd H t (.tup [V.str "second", .str "apply"])) t = some (.tup [.str "second", .str "apply"]) := upd_same
      generalize upd H t (.tup [.str "second", .str "apply"]) = H1 at st htt ⊢
      exact ⟨t, _, rfl, .inr (.inl (.inl htt)), rfl, rfl, _, rfl, iteF' (by decide +kernel) ⟨_, rfl, _, rfl, _, _, _, _, rfl, rfl, seqT st h, rfl, q _ _ st (is.same st)⟩⟩
    | use _ => cases hs
    | name _ => cases hs
    | pair _ _ _ => cases hs
    | left _ _ _ => cases hs
    | right _ _ _ => cases hs
    | make _ _ _ => cases hs
/-! ### _with_chief -/
def sp_with_chief (K : PySem.W.Frag) : Sp := fun vs H Q _ => ∃ (n : Int) (v x : V) (p c : Pp) (TT : List (Addr × Str)), vs = [.int n, v, x] ∧ IsPp K H v p ∧ p.chf.isSome = true ∧ IsPp K H x c ∧ p.wt ≤ 10000 ∧ Tb K TT ∧ LamX.Tabs TT H ∧
  ∀ (H' : Hp) (v' : V), LamX.ExtN H H' → LamX.Tabs TT H' → IsPp K H' v' (p.wch n c) → Q v' H'
theorem ok_with_chief (T : Txt w K mg) (c_moved : Cl P w K mg base 3 "moved" (sp_moved K)) (c_rebuilt : Cl P w K mg base 1 "rebuilt" (sp_rebuilt K)) : Cl P w K mg base 4 "_with_chief" (sp_with_chief K) := by
  refine T.d_with_chief.ok sc_with_chief (fun vs H Q E h => ?_) (fun f cdv A outer s H vs Q E hr h => ?_)
  · obtain ⟨n, v, x, p, c, TT, rfl, _⟩ := h
    rfl
  · obtain ⟨n, v, x, p, c, TT, rfl, hp, hch, hx, hw, tb, hT, q⟩ := h
    obtain ⟨pP, hP, kP⟩ := T.g_PAPERS
    refine ⟨_, (pss_cons (ps_setLc (i := 3) (own := [("place", 4)]) rfl sc_with_chief.nd rfl rfl (sw_true rfl rfl rfl (by decide +kernel)) (pi_tupK (K := K) (pe_slice (r := rSlT K) sl_tup (pe_ix (r := rIxD K w) ix_kdict (pe_glob (v := .ref pP) rfl hP rfl) (pe_ix (r := rIxT K) ix_tup (pv 1) pe_int (fun _ _ => rfl)) (fun _ _ => rfl)) (po_some pe_int) po_none)) (blkOk_by (N := sc_with_chiefN) (sc := defScope s_with_chief) (by decide +kernel)) (fun _ _ _ _ _ => (pg_name (i := 4) sc_with_chief.nd rfl (Or.inl rfl))) (fun _ _ _ _ _ => pts_nil) (fun _ _ _ _ _ => (pe_k c_moved hr (by omega) rfl (pa_cons (pe_ix (r := rIxT K) ix_tup (pv 1) (pv 4) (fun _ _ => rfl)) (pa_cons (pv 0) (pa_cons pe_int pa_nil))))))
    (pss_one (ps_ret (pe_k c_rebuilt hr (by omega) rfl (pa_cons (pv 1) (pa_cons (pe_lst (pa_cons (pv 2) (pa_starK (K := K) (pv 3) pa_nil))) pa_nil)))))), ?_⟩
    obtain ⟨a, xs, rfl, ha, hk⟩ := hp.kid
    obtain ⟨qp, kd, kt⟩ := kP p.wd
    obtain ⟨_, cM, PM, eM, mM, uM⟩ := id tb
    have k1 : 1 ≤ p.kids.length := by cases p <;> first | exact Bool.noConfusion hch | (simp [Pp.kids])
    have k3 := p.kids_le
    have hsl : ¬ (HT.sIx (p.wd.pl.map V.int).length 0 (some 1) = 0 ∧ HT.sIx (p.wd.pl.map V.int).length (p.wd.pl.map V.int).length none = (p.wd.pl.map V.int).length) := by
      cases p <;> first | exact Bool.noConfusion hch | (simp only [Pp.wd, PW.pl]; decide)
    have ecut : cutV (p.wd.pl.map V.int) (some 1) none = (p.kids.drop 1).map fun k => V.int k.1 := by
      rw [show (1 : Int) = ((1 : Nat) : Int) from rfl, cut_from, Pp.kids_pl, List.map_map, ← List.map_drop]
      rfl
    refine ⟨_, rfl, a, _, _, _, rfl, rfl, ha, at0, pP, _, _, rfl, rfl, kd, 1, rfl, qp, _, rfl, kt.sq, hsl, fun t nt => ?_⟩
    rw [ecut]
    have s1 : Same H (upd H t (.tup ((p.kids.drop 1).map fun k => V.int k.1))) := same_new nt
    have ht : (upd H t (.tup ((p.kids.drop 1).map fun k => V.int k.1))) t = some (.tup ((p.kids.drop 1).map fun k => V.int k.1)) := upd_same
    have hT1 := Tabs.same hT s1
    generalize upd H t (.tup ((p.kids.drop 1).map fun k => V.int k.1)) = H1 at s1 ht hT1 ⊢
    refine ⟨t, rfl, ⟨_, .inl (.inl ht)⟩, fun D nD => ?_⟩
    refine lc_tup (K := K) (a := t) (xs := (p.kids.drop 1).map fun k => V.int k.1) (fun j H6 => ∃ ys : List V, H6 D = some (.lst ys) ∧ Paired (IsPp K H6) ys (((p.kids.drop 1).take j).map fun k => k.2.mv n 1) ∧ LamX.ExtN H1 H6 ∧ LamX.Tabs TT H6) ?_ ?_ ?_ ?_
    · exact ⟨[], upd_same, .nil, ExtN.put (LamX.ExtN.refl _) nD, Tabs.same hT1 (same_new nD)⟩
    · rintro j H6 _ ⟨ys, _, _, e6, _⟩
      exact .inl (.inl (e6 _ _ ht fun _ z => nomatch z))
    · rintro j z H6 hz ⟨ys, hD, py, e6, t6⟩
      rw [List.getElem?_map, Option.map_eq_some_iff] at hz
      obtain ⟨k, hk0, rfl⟩ := hz
      have mk : k ∈ p.kids := List.mem_of_mem_drop (List.mem_of_getElem? hk0)
      obtain ⟨y, hy, iy⟩ := hk k mk
      have w1 := mem_kw mk
      have w2 := kids_kw p
      have tk6 : TK K H H6 := (Same.tk s1).trans (ExtN.tk e6)
      refine ⟨rfl, _, rfl, _, rfl, a, _, _, _, rfl, rfl, tk6 _ _ ha, hy, _, rfl, y, k.2, n, 1, cM, PM, TT, rfl, iy.tk tk6, by omega, eM, mM, uM, t6, fun H7 y' e7 t7 i7 => ?_⟩
      have hD7 := e7 _ _ hD fun _ z => nomatch z
      have yl : ys.length ≤ 3 := by
        have h1 := pair_len py
        rw [List.length_map, List.length_take, List.length_drop] at h1
        omega
      refine ⟨ys, hD7, small (by omega), ys ++ [y'], upd_same, ?_, ExtN.put (e6.trans e7) nD, TabL.put t7 hD7⟩
      rw [List.take_succ, hk0, List.map_append]
      exact pair_app (pair_map (fun _ _ h => (IsPp.tk (ExtN.tk e7) h).tk (TK.lst hD7)) py) (.cons (i7.tk (TK.lst hD7)) .nil)
    · rintro H6 ⟨ys, hD, py, e6, t6⟩
      rw [List.length_map, List.take_length] at py
      have tk6 : TK K H H6 := (Same.tk s1).trans (ExtN.tk e6)
      have yl : ys.length ≤ 3 := by
        have h1 := pair_len py
        rw [List.length_map, List.length_drop] at h1
        omega
      refine ⟨_, rfl, _, rfl, _, rfl, D, ys, rfl, .inr (SqL.of hD), ?_, fun l nl => ?_⟩
      · show (x :: (ys ++ [])).length ≤ sizeLine
        exact small' (by rw [List.length_cons, List.length_append]; show ys.length + 0 + 1 ≤ _; omega)
      rw [List.append_nil]
      have s7 : Same H6 (upd H6 l (.lst (x :: ys))) := same_new nl
      have hl : (upd H6 l (.lst (x :: ys))) l = some (.lst (x :: ys)) := upd_same
      generalize upd H6 l (.lst (x :: ys)) = H7 at s7 hl ⊢
      refine ⟨.ref a, p, l, x :: ys, _, rfl, (hp.tk tk6).same s7, hl, .cons ((hx.tk tk6).same s7) (pair_map (fun _ _ h => IsPp.same s7 h) py), ?_, fun H8 v' s8 i8 => ?_⟩
      · rw [List.length_cons, List.length_map, List.length_drop]
        omega
      · have e18 : LamX.ExtN H H8 := ((LamX.ExtN.of s1).trans e6).trans (LamX.ExtN.of (s7.trans s8))
        exact q H8 v' e18 (Tabs.same t6 (s7.trans s8)) i8
/-! ### _lifted -/
def sp_lifted (K : PySem.W.Frag) : Sp := fun vs H Q _ => ∃ (n : Int) (v : V) (p c : Pp) (TT : List (Addr × Str)), vs = [.int n, v] ∧ IsPp K H v p ∧ p.chf = some c ∧ p.Jo1 ∧ p.wt ≤ 10000 ∧ Tb K TT ∧ LamX.Tabs TT H ∧
  ∀ (H' : Hp) (v' : V), LamX.ExtN H H' → LamX.Tabs TT H' → OptV K H' v' (p.lifted n) → Q v' H'
theorem ok_lifted (T : Txt w K mg) (c__shown : Cl P w K mg base 1 "_shown" (sp_shown K)) (c__with_chief : Cl P w K mg base 4 "_with_chief" (sp_with_chief K)) : Cl P w K mg base 5 "_lifted" (sp_lifted K) := by
  refine T.d_lifted.ok sc_lifted (fun vs H Q E h => ?_) (fun f cdv A outer s H vs Q E hr h => ?_)
  · obtain ⟨n, v, p, c, TT, rfl, _⟩ := h
    rfl
  · obtain ⟨n, v, p, c, TT, rfl, hp, hc, hj, hw, tb, hT, q⟩ := h
    refine ⟨_, (pss_cons (ps_set (i := 2) sc_lifted.nd rfl (Or.inl rfl) (pe_ix (r := rIxT K) ix_tup (pv 1) pe_int (fun _ _ => rfl)))
    (pss_cons (ps_if (pt_cmpR op_eq (pe_ix (r := rIxT K) ix_tup (pv 2) pe_int (fun _ _ => rfl)) pe_str (nomark _))
      (pss_one (ps_ret (pe_tup (pa_cons pe_str (pa_cons (pe_ix (r := rIxT K) ix_tup (pv 2) pe_int (fun _ _ => rfl)) (pa_cons (pe_k c__shown hr (by omega) rfl (pa_cons (pv 1) (pa_cons (pe_ix (r := rIxT K) ix_tup (pv 2) pe_int (fun _ _ => rfl)) pa_nil))) pa_nil))))))
      pss_nil)
    (pss_cons (ps_if (pt_cmpR op_eq (pe_ix (r := rIxT K) ix_tup (pv 2) pe_int (fun _ _ => rfl)) pe_str (nomark _))
      (pss_cons (ps_asg (pv 2) (pg_tup rfl (pgs_cons (pg_name (i := 3) sc_lifted.nd rfl (Or.inl rfl)) (pgs_cons (pg_name (i := 4) sc_lifted.nd rfl (Or.inl rfl)) (pgs_cons (pg_name (i := 5) sc_lifted.nd rfl (Or.inl rfl)) (pgs_cons (pg_name (i := 6) sc_lifted.nd rfl (Or.inl rfl)) (pgs_cons (pg_name (i := 7) sc_lifted.nd rfl (Or.inl rfl)) pgs_nil)))))))
        (pss_one (ps_ret (pe_tup (pa_cons pe_str (pa_cons (pv 4) (pa_cons (pe_k c__with_chief hr (by omega) rfl (pa_cons (pv 0) (pa_cons (pv 1) (pa_cons (pv 5) pa_nil)))) (pa_cons (pe_k c__with_chief hr (by omega) rfl (pa_cons (pv 0) (pa_cons (pv 1) (pa_cons (pv 6) pa_nil)))) (pa_cons (pe_k c__shown hr (by omega) rfl (pa_cons (pv 1) (pa_cons (pv 7) pa_nil))) pa_nil)))))))))
      pss_nil)
    (pss_one (ps_ret pe_non))))), ?_⟩
    obtain ⟨a, xs, x, rfl, ha, ix⟩ := hp.chief hc
    have hcs : p.chf.isSome = true := by rw [hc]; rfl
    refine ⟨_, rfl, a, _, _, _, rfl, rfl, ha, at1, ?_⟩
    obtain ⟨o, its, rfl, ho, hkk⟩ := ix.kid
    clear hkk
    by_cases h1 : c.wd = .escape
    · refine ⟨_, rfl, o, _, _, _, rfl, rfl, ho, at0, rfl, _, rfl, iteT' ((PW.s_eq c.wd .escape).trans (decide_eq_true h1)) ?_⟩
      cases c <;> first | exact PW.noConfusion h1 | skip
      rename_i c0 b0
      obtain ⟨s0, hs0⟩ := Option.isSome_iff_exists.mp (hj c0 b0 (.inl hc))
      cases ix with
      | @escape _ x1 _ _ _ hq i1 is =>
        refine ⟨_, rfl, o, _, _, _, rfl, rfl, hq, at1, _, rfl, _, rfl, o, _, _, _, rfl, rfl, hq, at2, .ref a, _, p, b0, s0, rfl, hp, is, hs0, fun H1 v1 s1 j1 => ⟨sz3, fun t nt => ?_⟩⟩
        have s2 := same_new (o := .tup [.str "escape", x1, v1]) nt
        refine q _ _ (LamX.ExtN.of (s1.trans s2)) (Tabs.same hT (s1.trans s2)) (.inr ⟨.escape c0 s0, ?_, .escape (.inl (.inl upd_same)) ((i1.same s1).same s2) (j1.same s2)⟩)
        show (match p.chf with | some (.escape x a) => (p.shw a).map fun s => Pp.escape x s | some (.case x q r a) => (p.shw a).map fun s => Pp.case x (p.wch n q) (p.wch n r) s | _ => none) = _
        rw [hc]
        show (p.shw b0).map _ = _
        rw [hs0]
        rfl
    refine ⟨_, rfl, o, _, _, _, rfl, rfl, ho, at0, rfl, _, rfl, iteF' ((PW.s_eq c.wd .escape).trans (decide_eq_false h1)) ?_⟩
    by_cases h2 : c.wd = .case
    · refine ⟨_, rfl, o, _, _, _, rfl, rfl, ho, at0, rfl, _, rfl, iteT' ((PW.s_eq c.wd .case).trans (decide_eq_true h2)) ?_⟩
      cases c <;> first | exact PW.noConfusion h2 | skip
      rename_i c0 c1 c2 b0
      obtain ⟨s0, hs0⟩ := Option.isSome_iff_exists.mp (hj c0 b0 (.inr ⟨c1, c2, hc⟩))
      cases ix with
      | @case _ x1 _ _ _ _ _ _ _ hq i1 i2 i3 is =>
        refine ⟨_, rfl, o, _, rfl, hq, rfl, _, _, rfl, _, _, rfl, _, _, rfl, _, _, rfl, _, _, rfl, rfl, ?_⟩
        refine ⟨_, rfl, _, rfl, _, rfl, _, rfl, n, .ref a, _, p, c1, TT, rfl, hp, hcs, i2, hw, tb, hT, fun H1 v1 e1 t1 j1 => ?_⟩
        have k1 := ExtN.tk (K := K) e1
        refine ⟨_, rfl, _, rfl, _, rfl, n, .ref a, _, p, c2, TT, rfl, hp.tk k1, hcs, i3.tk k1, hw, tb, t1, fun H2 v2 e2 t2 j2 => ?_⟩
        have k2 := ExtN.tk (K := K) e2
        refine ⟨_, rfl, _, rfl, .ref a, _, p, b0, s0, rfl, (hp.tk k1).tk k2, (is.tk k1).tk k2, hs0, fun H3 v3 s3 j3 => ⟨by show 5 ≤ sizeLine; decide, fun t nt => ?_⟩⟩
        have s4 := same_new (o := .tup [.str "case", x1, v1, v2, v3]) nt
        have s34 := s3.trans s4
        refine q _ _ ((e1.trans e2).trans (LamX.ExtN.of s34)) (Tabs.same t2 s34) (.inr ⟨.case c0 (p.wch n c1) (p.wch n c2) s0, ?_, .case (.inl (.inl upd_same)) (((i1.tk k1).tk k2).same s34) ((j1.tk k2).same s34) (j2.same s34) (j3.same s4)⟩)
        show (match p.chf with | some (.escape x a) => (p.shw a).map fun s => Pp.escape x s | some (.case x q r a) => (p.shw a).map fun s => Pp.case x (p.wch n q) (p.wch n r) s | _ => none) = _
        rw [hc]
        show (p.shw b0).map _ = _
        rw [hs0]
        rfl
    refine ⟨_, rfl, o, _, _, _, rfl, rfl, ho, at0, rfl, _, rfl, iteF' ((PW.s_eq c.wd .case).trans (decide_eq_false h2)) ?_⟩
    refine q _ _ (LamX.ExtN.refl _) hT (.inl ⟨?_, rfl⟩)
    show (match p.chf with | some (.escape x a) => (p.shw a).map fun s => Pp.escape x s | some (.case x q r a) => (p.shw a).map fun s => Pp.case x (p.wch n q) (p.wch n r) s | _ => none) = _
    rw [hc]
    cases c <;> first | rfl | exact absurd rfl h1 | exact absurd rfl h2
/-! ### _stepped -/
def sp_stepped (K : PySem.W.Frag) : Sp := fun vs H Q _ => ∃ (n : Int) (v : V) (p : Pp) (TT : List (Addr × Str)), vs = [.int n, v] ∧ IsPp K H v p ∧ p.Jo1 ∧ p.wt ≤ 10000 ∧ p.ad ≤ 999 ∧ Tb K TT ∧ LamX.Tabs TT H ∧
  ∀ (H' : Hp) (v' : V), LamX.ExtN H H' → LamX.Tabs TT H' → OptV K H' v' (p.stepped n) → Q v' H'
theorem inV_chf (wd : PW) : inV (.str wd.s) [.str "first", .str "second", .str "apply", .str "case", .str "escape"] = hasChf wd := by cases wd <;> decide +kernel
theorem ok_stepped (T : Txt w K mg) (c__taken : Cl P w K mg base 5 "_taken" (sp_taken K)) (c__lifted : Cl P w K mg base 5 "_lifted" (sp_lifted K)) : Cl P w K mg base 6 "_stepped" (sp_stepped K) := by
  refine T.d_stepped.ok sc_stepped (fun vs H Q E h => ?_) (fun f cdv A outer s H vs Q E hr h => ?_)
  · obtain ⟨n, v, p, TT, rfl, _⟩ := h
    rfl
  · obtain ⟨n, v, p, TT, rfl, hp, hj, hw, hh, tb, hT, q⟩ := h
    obtain ⟨pW, hW, kW⟩ := T.g_WITH
    refine ⟨_, (pss_cons (ps_if (pt_cmpR (r := rIn K true) op_notIn_seq (pe_ix (r := rIxT K) ix_tup (pv 1) pe_int (fun _ _ => rfl)) (pe_glob (v := .ref pW) rfl hW rfl) (by rfl))
      (pss_one (ps_ret pe_non))
      pss_nil)
    (pss_one (ps_ret (pe_orT (pe_k c__taken hr (by omega) rfl (pa_cons (pv 0) (pa_cons (pv 1) pa_nil))) (pe_one (pe_k c__lifted hr (by omega) rfl (pa_cons (pv 0) (pa_cons (pv 1) pa_nil)))))))), ?_⟩
    have hp0 := hp
    obtain ⟨a, xs, rfl, ha, _⟩ := hp.kid
    refine ⟨_, rfl, a, _, _, _, rfl, rfl, ha, at0, pW, _, rfl, .inr kW.sq, rfl, rfl, _, rfl, ?_⟩
    cases hc : p.chf with
    | none =>
      have h0 : hasChf p.wd = false := by rw [← chf_wd, hc]; rfl
      refine iteT' (by rw [inV_chf, h0]; rfl) ?_
      refine q _ _ (LamX.ExtN.refl _) hT (.inl ⟨?_, rfl⟩)
      cases p <;> first | rfl | (cases hc)
    | some c =>
      have h0 : hasChf p.wd = true := by rw [← chf_wd, hc]; rfl
      refine iteF' (by rw [inV_chf, h0]; rfl) ?_
      refine ⟨_, rfl, _, rfl, n, _, p, c, TT, rfl, hp0, hc, hw, hh, tb, hT, fun H1 v1 e1 t1 o1 => ?_⟩
      rcases o1 with ⟨n1, rfl⟩ | ⟨p1, n1, i1⟩
      · refine ⟨false, rfl, ?_⟩
        refine iteF ⟨_, rfl, _, rfl, n, _, p, c, TT, rfl, hp0.tk (ExtN.tk e1), hc, hj, hw, tb, t1, fun H2 v2 e2 t2 o2 => ?_⟩
        refine q H2 v2 (e1.trans e2) t2 ?_
        rw [show p.stepped n = p.lifted n by unfold Pp.stepped; rw [n1]]
        exact o2
      · obtain ⟨a1, ys, rfl, h1, _⟩ := i1.kid
        refine ⟨true, .inr (.inl ⟨_, h1, rfl⟩), ?_⟩
        refine iteT (q H1 _ e1 t1 ?_)
        rw [show p.stepped n = some p1 by unfold Pp.stepped; rw [n1]]
        exact .inr ⟨p1, rfl, i1⟩
/-! ### _with_at -/
def sp_with_at (K : PySem.W.Frag) : Sp := fun vs H Q _ => ∃ (v x : V) (r : Addr) (rd : List Int) (p q y : Pp) (ps : List Pp), vs = [v, .ref r, x] ∧ IsPp K H v p ∧ SqT K H r (rd.map V.int) ∧ Road p rd ps q ∧ IsPp K H x y ∧ rd.length ≤ 10000 ∧
  ∀ (H' : Hp) (v' : V), Same H H' → IsPp K H' v' (putAt rd ps y) → Q v' H'
theorem ok_with_at (T : Txt w K mg) : Cl P w K mg base 1 "_with_at" (sp_with_at K) := by
  refine T.d_with_at.ok sc_with_at (fun vs H Q E h => ?_) (fun f cdv A outer s H vs Q E hr h => ?_)
  · obtain ⟨v, x, r, rd, p, q, y, ps, rfl, _⟩ := h
    rfl
  · obtain ⟨v, x, r, rd, p, q, y, ps, rfl, hp, hrd, hR, hx, hl, k⟩ := h
    refine ⟨_, (pss_cons (ps_set (i := 3) sc_with_at.nd rfl (Or.inl rfl) (pe_lst pa_nil))
    (pss_cons (ps_for PassesOwn.never rfl (pi_tupK (K := K) (pv 1)) (pg_name (i := 4) sc_with_at.nd rfl (Or.inl rfl))
      (pss_cons (ps_expr (pe_bm PySem.F.plainAttrs_list PySem.F.slot_list_append PySem.F.type_list_append mt_append (pv 3) (pa_cons (pv 0) pa_nil)))
        (pss_one (ps_set (i := 0) sc_with_at.nd rfl (Or.inl rfl) (pe_ix (r := rIxT K) ix_tup (pv 0) (pv 4) (fun _ _ => rfl))))))
    (pss_cons (ps_for PassesOwn.never rfl (pi_zipM rfl T.n_zip (pa_cons (pe_revT (pv 1)) (pa_cons (pe_revL (pv 3)) pa_nil))) (pg_tup rfl (pgs_cons (pg_name (i := 4) sc_with_at.nd rfl (Or.inl rfl)) (pgs_cons (pg_name (i := 5) sc_with_at.nd rfl (Or.inl rfl)) pgs_nil)))
      (pss_one (ps_set (i := 2) sc_with_at.nd rfl (Or.inl rfl) (pe_tup (pa_starK (K := K) (pe_slice (r := rSlT K) sl_tup (pv 5) po_none (po_some (pv 4))) (pa_cons (pv 2) (pa_starK (K := K) (pe_slice (r := rSlT K) sl_tup (pv 5) (po_some (pe_op op_add (pv 4) pe_int)) po_none) pa_nil)))))))
    (pss_one (ps_ret (pv 2)))))), ?_⟩
    refine ⟨sz0, fun L nL => ?_⟩
    have s1 : Same H (upd H L (.lst [])) := same_new nL
    have hL : (upd H L (.lst [])) L = some (.lst []) := upd_same
    generalize upd H L (.lst []) = H1 at s1 hL ⊢
    refine ⟨_, rfl, r, rfl, ⟨_, seqT s1 hrd⟩, for_tup (K := K) (a := r) (xs := rd.map V.int) (fun j σ H3 => ∃ (u : V) (us : List V) (cur : Pp) (y4 : Option V), σ = [some u, some (.ref r), some x, some (.ref L), y4, none] ∧ H3 L = some (.lst us) ∧ Paired (IsPp K H) us (ps.take j) ∧ IsPp K H u cur ∧ Road cur (rd.drop j) (ps.drop j) q ∧ Same H H3) ?_ ?_ ?_ ?_⟩
    · exact ⟨v, [], p, _, rfl, hL, .nil, hp, hR, s1⟩
    · rintro j σ H3 _ ⟨u, us, cur, y4, _, _, _, _, _, s3⟩
      exact seqT s3 hrd
    · rintro j z σ H3 hz ⟨u, us, cur, y4, rfl, hL3, pu, iu, hR3, s3⟩
      rw [List.getElem?_map, Option.map_eq_some_iff] at hz
      obtain ⟨i, hi, rfl⟩ := hz
      have hj : j < rd.length := (List.getElem?_eq_some_iff.mp hi).1
      have e1 : rd.drop j = i :: rd.drop (j + 1) := by rw [List.drop_eq_getElem_cons hj]; rw [List.getElem?_eq_getElem hj] at hi; injection hi with hi; rw [hi]
      rw [e1] at hR3
      generalize ed : ps.drop j = L0 at hR3
      cases hR3 with
      | @cons _ _ r' _ ps' _ hk t =>
        obtain ⟨a, its, rfl, ha, hkid⟩ := iu.kid
        obtain ⟨y1, hy1, iy1⟩ := hkid _ hk
        have lu : us.length ≤ 10000 := by
          have h1 := pair_len pu
          rw [List.length_take] at h1
          omega
        have hpj : ps[j]? = some cur := by
          have h : (ps.drop j)[0]? = some cur := by rw [ed]; rfl
          rw [List.getElem?_drop] at h
          exact h
        refine ⟨_, rfl, tyL hL3, _, rfl, L, _, _, rfl, rfl, hL3, small (by omega), ?_⟩
        have s4 : Same H (upd H3 L (.lst (us ++ [.ref a]))) := same_put s3 nL
        refine ⟨_, rfl, _, rfl, a, _, _, _, rfl, rfl, seqT s4 ha, hy1, y1, _, r', _, rfl, upd_same, ?_, iy1, ?_, s4⟩
        · rw [List.take_succ, hpj]
          exact pair_app pu (.cons iu .nil)
        · have e2 : ps.drop (j + 1) = ps' := by
            have h : ps.drop (j + 1) = (ps.drop j).drop 1 := by rw [List.drop_drop]
            rw [h, ed]
            rfl
          rw [e2]
          exact t
    · rintro σ H3 ⟨u, us, cur, y4, rfl, hL3, pu, iu, hR3, s3⟩
      rw [List.length_map] at pu
      have lp := hR.len
      rw [List.take_of_length_le (by omega)] at pu
      have lu := pair_len pu
      refine ⟨_, rfl, r, _, rfl, seqT s3 hrd, fun r1 n1 => ?_⟩
      have s4 : Same H3 (upd H3 r1 (.tup (rd.map V.int).reverse)) := same_new n1
      have hr1 : (upd H3 r1 (.tup (rd.map V.int).reverse)) r1 = some (.tup (rd.map V.int).reverse) := upd_same
      have hL4 := s4 _ _ hL3
      have s34 := s3.trans s4
      generalize upd H3 r1 (.tup (rd.map V.int).reverse) = H4 at s4 hr1 hL4 s34 ⊢
      refine ⟨_, rfl, L, _, rfl, SqL.of hL4, fun r2 n2 => ?_⟩
      have s5 : Same H4 (upd H4 r2 (.lst us.reverse)) := same_new n2
      have hr2 : (upd H4 r2 (.lst us.reverse)) r2 = some (.lst us.reverse) := upd_same
      have hr15 := s5 _ _ hr1
      have s35 := s34.trans s5
      generalize upd H4 r2 (.lst us.reverse) = H5 at s5 hr2 hr15 s35 ⊢
      refine ⟨r1, r2, _, _, rfl, .inl (.inl hr15), SqL.of hr2, for_zipM (xs := (rd.map V.int).reverse) (ys := us.reverse) (by rw [List.length_reverse, List.length_reverse, List.length_map]; omega) (fun j σ H6 => ∃ (z : V) (y4 y5 : Option V), σ = [some u, some (.ref r), some z, some (.ref L), y4, y5] ∧ Same H5 H6 ∧ IsPp K H6 z (putAt (rd.drop (rd.length - j)) (ps.drop (rd.length - j)) y)) ?_ ?_ ?_ ?_⟩
      · refine ⟨x, _, _, rfl, Same.refl _, ?_⟩
        rw [Nat.sub_zero, List.drop_length, List.drop_of_length_le (by omega)]
        exact hx.same s35
      · rintro j σ H6 ⟨_, _, _, _, s6, _⟩
        exact ⟨.inl (.inl (s6 _ _ hr15)), SqL.of (s6 _ _ hr2)⟩
      · rintro j a1 b1 t σ H6 hx1 hy1 ⟨z, y4, y5, rfl, s6, iz⟩ nt
        have hj : j < rd.length := by
          have := (List.getElem?_eq_some_iff.mp hx1).1
          rw [List.length_reverse, List.length_map] at this
          exact this
        rw [List.getElem?_reverse (by rw [List.length_map]; exact hj), List.length_map, List.getElem?_map, Option.map_eq_some_iff] at hx1
        obtain ⟨i, hi, rfl⟩ := hx1
        rw [List.getElem?_reverse (by omega)] at hy1
        rw [show us.length - 1 - j = rd.length - 1 - j by omega] at hy1
        obtain ⟨pp, hpp, ipp⟩ := pair_get pu hy1
        obtain ⟨r', hr'⟩ := hR.at _ _ _ hi hpp
        obtain ⟨a, its, rfl, ha, l5, _, hst⟩ := (ipp.same (s35.trans s6)).st1
        obtain ⟨i1, ilt, _, hset⟩ := hst _ hr'
        obtain ⟨m, rfl⟩ : ∃ m : Nat, i = (m : Int) := ⟨i.toNat, by have : (1 : Int) ≤ i := i1; omega⟩
        have hm1 : 1 ≤ m := by have : (1 : Int) ≤ (m : Int) := i1; omega
        have hml : m < its.length := ilt
        have st := same_new (o := .tup [.int (m : Nat), .ref a]) nt
        have ht : (upd H6 t (.tup [V.int (m : Nat), .ref a])) t = some (.tup [.int (m : Nat), .ref a]) := upd_same
        generalize upd H6 t (.tup [.int (m : Nat), .ref a]) = H7 at st ht ⊢
        have s7 := s6.trans st
        refine ⟨t, _, rfl, .inl (.inl ht), rfl, _, _, rfl, _, _, rfl, rfl, ?_⟩
        refine ⟨_, rfl, _, rfl, (m : Int), rfl, a, its, rfl, seqT st ha, ?_, fun t1 nt1 => ?_⟩
        · rw [HT.sIx_nat, HT.sIx_none]
          omega
        have st1 : Same H7 (upd H7 t1 (.tup (cutV its none (some (m : Int))))) := same_new nt1
        have ht1 : (upd H7 t1 (.tup (cutV its none (some (m : Int))))) t1 = some (.tup (cutV its none (some (m : Int)))) := upd_same
        generalize upd H7 t1 (.tup (cutV its none (some (m : Int)))) = H8 at st1 ht1 ⊢
        refine ⟨t1, _, rfl, .inl (.inl (.inl ht1)), _, rfl, _, rfl, _, rfl, _, _, rfl, rfl, ((m + 1 : Nat) : Int), ?_, a, its, rfl, seqT (st.trans st1) ha, ?_, fun t2 nt2 => ?_⟩
        · exact congrArg V.int (by omega)
        · rw [HT.sIx_nat, HT.sIx_none]
          omega
        have st2 : Same H8 (upd H8 t2 (.tup (cutV its (some ((m + 1 : Nat) : Int)) none))) := same_new nt2
        have ht2 : (upd H8 t2 (.tup (cutV its (some ((m + 1 : Nat) : Int)) none))) t2 = some (.tup (cutV its (some ((m + 1 : Nat) : Int)) none)) := upd_same
        generalize upd H8 t2 (.tup (cutV its (some ((m + 1 : Nat) : Int)) none)) = H9 at st2 ht2 ⊢
        refine ⟨t2, _, rfl, .inl (.inl (.inl ht2)), ?_⟩
        refine ⟨?_, fun t3 nt3 => ?_⟩
        · show (cutV its none (some (m : Int)) ++ (z :: (cutV its (some ((m + 1 : Nat) : Int)) none ++ []))).length ≤ sizeLine
          rw [set_cut z hml, List.length_set]
          exact small' (by omega)
        have st3 := same_new (o := .tup (cutV its none (some (m : Int)) ++ (z :: (cutV its (some ((m + 1 : Nat) : Int)) none ++ [])))) nt3
        have s69 := st.trans (st1.trans (st2.trans st3))
        refine ⟨.ref t3, _, _, rfl, s6.trans s69, ?_⟩
        rw [show rd.length - (j + 1) = rd.length - 1 - j by omega, putAt_cons hi hpp]
        rw [show rd.length - 1 - j + 1 = rd.length - j by omega]
        exact hset _ t3 z _ (Same.tk s69) (iz.same s69) (.inl (.inl (upd_same.trans (congrArg (fun l => some (HO.tup l)) (set_cut z hml)))))
      · rintro σ H6 ⟨z, y4, y5, rfl, s6, iz⟩
        rw [List.length_reverse, List.length_map, Nat.sub_self] at iz
        exact ⟨_, rfl, k H6 z (s35.trans s6) iz⟩
/-! ### step -/
/-- a part that waits -/
def SiV (K : PySem.W.Frag) (H : Hp) (x : V) (y : SI) : Prop := ∃ t u r, x = .ref t ∧ SqT K H t [.int y.1, u, .ref r] ∧ IsPp K H u y.2.1 ∧ SqT K H r (y.2.2.1.map V.int)
theorem SiV.tk {H H' : Hp} {x : V} {y : SI} (k : TK K H H') (h : SiV K H x y) : SiV K H' x y := by
  obtain ⟨t, u, r, e, ht, i, j⟩ := h
  exact ⟨t, u, r, e, k _ _ ht, i.tk k, k _ _ j⟩
def SiOk (p : Pp) (y : SI) : Prop := Road p y.2.2.1 y.2.2.2 y.2.1 ∧ y.2.1.Joa ∧ y.2.2.1.length + y.2.1.ht ≤ 10000 ∧ y.2.1.ad ≤ 999
def sp_step (K : PySem.W.Frag) : Sp := fun vs H Q _ => ∃ (n : Int) (v : V) (p : Pp) (TT : List (Addr × Str)), vs = [.int n, v] ∧ IsPp K H v p ∧ p.Joa ∧ p.wt ≤ 10000 ∧ p.ad ≤ 999 ∧ Tb K TT ∧ LamX.Tabs TT H ∧
  ∀ (H' : Hp) (v' : V), LamX.ExtN H H' → LamX.Tabs TT H' → OptV K H' v' (p.step n) → Q v' H'
theorem ok_step (T : Txt w K mg) (c__stepped : Cl P w K mg base 6 "_stepped" (sp_stepped K)) (c__with_at : Cl P w K mg base 1 "_with_at" (sp_with_at K)) : ClK P w K mg base 7 "step" (sp_step K) ["many", "paper"] kwId := by
  refine T.d_step.ok sc_step (fun vs H Q E h => ?_) (fun f cdv A outer s H vs Q E hr h => ?_)
  · obtain ⟨n, v, p, TT, rfl, _⟩ := h
    rfl
  · obtain ⟨n, v, p, TT, rfl, hp, hj, hw, hh, tb, hT, q⟩ := h
    obtain ⟨pP, hP, kP⟩ := T.g_PAPERS
    obtain ⟨pA, hA, kA⟩ := T.g_ASSUMES
    refine ⟨_, (pss_cons (ps_set (i := 2) sc_step.nd rfl (Or.inl rfl) (pe_lst (pa_cons (pe_tup (pa_cons (pv 0) (pa_cons (pv 1) (pa_cons (pe_tup pa_nil) pa_nil)))) pa_nil)))
    (pss_cons (ps_while PassesOwn.never (pt_truthK (K := K) (pv 2) (by intro _; rfl))
      (pss_cons (ps_asg (pe_bm0 PySem.F.plainAttrs_list PySem.F.slot_list_pop PySem.F.type_list_pop mt_pop (pv 2)) (pg_tup rfl (pgs_cons (pg_name (i := 3) sc_step.nd rfl (Or.inl rfl)) (pgs_cons (pg_name (i := 4) sc_step.nd rfl (Or.inl rfl)) (pgs_cons (pg_name (i := 5) sc_step.nd rfl (Or.inl rfl)) pgs_nil)))))
        (pss_cons (ps_set (i := 6) sc_step.nd rfl (Or.inl rfl) (pe_k c__stepped hr (by omega) rfl (pa_cons (pv 3) (pa_cons (pv 4) pa_nil))))
        (pss_cons (ps_if (pt_cmpR op_notN (pv 6) pe_non (nomark _))
          (pss_one (ps_ret (pe_k c__with_at hr (by omega) rfl (pa_cons (pv 1) (pa_cons (pv 5) (pa_cons (pv 6) pa_nil))))))
          pss_nil)
        (pss_cons (ps_set (i := 7) sc_step.nd rfl (Or.inl rfl) (pe_kget2 (pe_glob (v := .ref pA) rfl hA rfl) (pe_ix (r := rIxT K) ix_tup (pv 4) pe_int (fun _ _ => rfl)) (pe_tup pa_nil) ⟨rfl, rfl, rfl, rfl⟩))
        (pss_one (ps_for PassesOwn.never rfl (pi_tupK (K := K) (pe_revT (pe_ix (r := rIxD K w) ix_kdict (pe_glob (v := .ref pP) rfl hP rfl) (pe_ix (r := rIxT K) ix_tup (pv 4) pe_int (fun _ _ => rfl)) (fun _ _ => rfl)))) (pg_name (i := 8) sc_step.nd rfl (Or.inl rfl))
          (pss_one (ps_expr (pe_bm PySem.F.plainAttrs_list PySem.F.slot_list_append PySem.F.type_list_append mt_append (pv 2) (pa_cons (pe_tup (pa_cons (pe_ifExp (pt_cmpR (r := rIn K false) op_in_seq (pv 8) (pv 7) (by rfl)) (pe_op op_add (pv 3) pe_int) (pv 3)) (pa_cons (pe_ix (r := rIxT K) ix_tup (pv 4) (pv 8) (fun _ _ => rfl)) (pa_cons (pe_tup (pa_starK (K := K) (pv 5) (pa_cons (pv 8) pa_nil))) pa_nil)))) pa_nil)))))))))))
    (pss_one (ps_ret pe_non)))), ?_⟩
    refine ⟨_, rfl, _, rfl, sz0, fun r0 nr0 => ?_⟩
    have s1 : Same H (upd H r0 (.tup [])) := same_new nr0
    have hr0 : (upd H r0 (.tup [])) r0 = some (.tup []) := upd_same
    generalize upd H r0 (.tup []) = H1 at s1 hr0 ⊢
    refine ⟨sz3, fun t0 nt0 => ⟨sz1, fun k nk => ?_⟩⟩
    have s2 : Same H1 (upd H1 t0 (.tup [.int n, v, .ref r0])) := same_new nt0
    have ht0 : (upd H1 t0 (.tup [.int n, v, .ref r0])) t0 = some (.tup [.int n, v, .ref r0]) := upd_same
    have hr1 := s2 _ _ hr0
    have s12 := s1.trans s2
    generalize upd H1 t0 (.tup [.int n, v, .ref r0]) = H2 at s2 ht0 hr1 nk s12 ⊢
    have nkH : H k = none := s12.free nk
    have s3 : Same H2 (upd H2 k (.lst [.ref t0])) := same_new nk
    have hk0 : (upd H2 k (.lst [.ref t0])) k = some (.lst [.ref t0]) := upd_same
    have s13 := s12.trans s3
    have ht3 := s3 _ _ ht0
    have hr3 := s3 _ _ hr1
    generalize upd H2 k (.lst [.ref t0]) = H3 at s3 hk0 s13 ht3 hr3 ⊢
    refine ⟨fun m σ H3 => ∃ (ws : List V) (st : List SI) (y3 y4 y5 y6 y7 y8 : Option V), σ = [some (.int n), some v, some (.ref k), y3, y4, y5, y6, y7, y8] ∧ H3 k = some (.lst ws.reverse) ∧ Paired (SiV K H3) ws st ∧ (∀ y ∈ st, SiOk p y) ∧ p.step n = (st.flatMap SI.pre).findSome? stepAt ∧ LamX.ExtN H H3 ∧ LamX.Tabs TT H3 ∧ swt st ≤ 10000 ∧ m = swt st, ⟨_, [.ref t0], [(n, p, [], [])], _, _, _, _, _, _, rfl, hk0, .cons ⟨t0, v, r0, rfl, .inl (.inl ht3), hp.same s13, .inl (.inl hr3)⟩ .nil, ?_, ?_, LamX.ExtN.of s13, Tabs.same hT s13, by show p.wt + 0 ≤ _; omega, rfl⟩, ?_⟩
    · intro y hy
      rw [List.mem_singleton.mp hy]
      exact ⟨.nil p, hj, by have := ht_wt p; show 0 + p.ht ≤ 10000; omega, hh⟩
    · show _ = (SI.pre (n, p, [], []) ++ []).findSome? stepAt
      rw [List.append_nil]
      rfl
    rintro m σ H3 ⟨ws, st, y3, y4, y5, y6, y7, y8, rfl, hk, pw, hst, es, e3, t3, hb, rfl⟩
    cases pw with
    | nil =>
      refine ⟨_, rfl, false, .inl ⟨_, SqL.of hk, rfl⟩, ?_⟩
      exact iteF (q H3 _ e3 t3 (.inl ⟨es, rfl⟩))
    | @cons x y ws st hx pw =>
      obtain ⟨tn, tp, rd, ps⟩ := y
      obtain ⟨a, u, r, rfl, hxT, iu, ir⟩ := hx
      have iu : IsPp K H3 u tp := iu
      have ir : SqT K H3 r (rd.map V.int) := ir
      obtain ⟨hR, hjo, hlen, had⟩ := hst _ (List.mem_cons_self ..)
      have hR : Road p rd ps tp := hR
      have hjo : tp.Joa := hjo
      have hlen : rd.length + tp.ht ≤ 10000 := hlen
      have had : tp.ad ≤ 999 := had
      have ew : swt ((tn, tp, rd, ps) :: st) = tp.wt + swt st := rfl
      refine ⟨_, rfl, true, .inl ⟨_, SqL.of hk, emp_rev.symm⟩, ?_⟩
      refine iteT ⟨fun σ' H' => ∃ (ws : List V) (st' : List SI) (y3 y4 y5 y6 y7 y8 : Option V), σ' = [some (.int n), some v, some (.ref k), y3, y4, y5, y6, y7, y8] ∧ H' k = some (.lst ws.reverse) ∧ Paired (SiV K H') ws st' ∧ (∀ y ∈ st', SiOk p y) ∧ p.step n = (st'.flatMap SI.pre).findSome? stepAt ∧ LamX.ExtN H H' ∧ LamX.Tabs TT H' ∧ swt st' < swt ((tn, tp, rd, ps) :: st), fun σ' H' ⟨ws, st', y3, y4, y5, y6, y7, y8, e1, e2, e3, e4, e5, e6, e7, e8⟩ => ⟨_, e8, ws, st', y3, y4, y5, y6, y7, y8, e1, e2, e3, e4, e5, e6, e7, by omega, rfl⟩, ?_⟩
      refine ⟨_, rfl, tyL hk, k, _, .ref a, rfl, rfl, hk, last_rev, ?_⟩
      rw [drop_rev]
      have tk4 : TK K H3 (upd H3 k (.lst ws.reverse)) := TK.lst hk
      have hk4 : (upd H3 k (.lst ws.reverse)) k = some (.lst ws.reverse) := upd_same
      have e4 : LamX.ExtN H (upd H3 k (.lst ws.reverse)) := ExtN.put e3 nkH
      have t4 : LamX.Tabs TT (upd H3 k (.lst ws.reverse)) := TabL.put t3 hk
      generalize upd H3 k (.lst ws.reverse) = H4 at tk4 hk4 e4 t4 ⊢
      refine ⟨a, _, rfl, tk4 _ _ hxT, rfl, _, _, rfl, _, _, rfl, _, _, rfl, rfl, ?_⟩
      refine ⟨_, rfl, _, rfl, tn, u, tp, TT, rfl, iu.tk tk4, hjo.jo1, by omega, by omega, tb, t4, fun H5 v5 e5 t5 o5 => ?_⟩
      have k5 := ExtN.tk (K := K) e5
      have tk35 := tk4.trans k5
      have hk5 := e5 _ _ hk4 fun _ z => nomatch z
      have e05 := e4.trans e5
      have hstp : (((tn, tp, rd, ps) :: st).flatMap SI.pre).findSome? stepAt = (match stepAt (tn, tp, rd, ps) with | some z => some z | none => ((kidI (tn, tp, rd, ps) ++ st).flatMap SI.pre).findSome? stepAt) := by
        rw [List.flatMap_cons, pre2_kids, List.flatMap_append, List.cons_append, List.findSome?_cons]
        cases stepAt (tn, tp, rd, ps) <;> rfl
      rw [hstp] at es
      rcases o5 with ⟨n5, rfl⟩ | ⟨p5, n5, i5⟩
      · refine ⟨_, rfl, rfl, _, rfl, iteF' rfl ?_⟩
        have est : stepAt (tn, tp, rd, ps) = none := by show (tp.stepped tn).map _ = none; rw [n5]; rfl
        rw [est] at es
        obtain ⟨a', xs, rfl, hT0, hkid⟩ := iu.kid
        have hT6 := tk35 _ _ hT0
        have ir5 := tk35 _ _ ir
        obtain ⟨og, kg, hog⟩ := kA.get tp.wd
        refine ⟨pA, rfl, kA.1, _, rfl, a', _, _, _, rfl, rfl, hT6, at0, sz0, fun u nu => ⟨_, og, rfl, kg, ?_⟩⟩
        have s7 : Same H5 (upd H5 u (.tup [])) := same_new nu
        have hu7 : (upd H5 u (.tup [])) u = some (.tup []) := upd_same
        generalize upd H5 u (.tup []) = H7 at s7 hu7 ⊢
        obtain ⟨qa, eqa, hqa⟩ := hog H7 u hu7
        rw [eqa]
        obtain ⟨qp, kd, kt⟩ := kP tp.wd
        refine ⟨_, rfl, a', _, _, _, rfl, rfl, seqT s7 hT6, at0, pP, _, _, rfl, rfl, kd, qp, _, rfl, kt.sq, fun pr npr => ?_⟩
        have s8 : Same H7 (upd H7 pr (.tup (tp.wd.pl.map V.int).reverse)) := same_new npr
        have hpr : (upd H7 pr (.tup (tp.wd.pl.map V.int).reverse)) pr = some (.tup (tp.wd.pl.map V.int).reverse) := upd_same
        generalize upd H7 pr (.tup (tp.wd.pl.map V.int).reverse) = H8 at s8 hpr ⊢
        have s58 := s7.trans s8
        have e08 : LamX.ExtN H H8 := e05.trans (LamX.ExtN.of s58)
        have t8 := Tabs.same t5 s58
        have tk38 : TK K H3 H8 := tk35.trans (Same.tk s58)
        have n3 := tp.kids_le
        have epl : tp.wd.pl.length = tp.kids.length := by rw [Pp.kids_pl, List.length_map]
        have ekl : (kidI (tn, tp, rd, ps)).length = tp.kids.length := by unfold kidI; rw [List.length_map]
        have wl : ws.length ≤ 10000 := by
          have h1 := pair_len pw
          have h2 := swt_len st
          omega
        refine ⟨pr, rfl, ⟨_, .inl (.inl hpr)⟩, for_tup (K := K) (a := pr) (xs := (tp.wd.pl.map V.int).reverse) (fun i σ H' => ∃ (y8 : Option V) (zs : List V), σ = [some (.int n), some v, some (.ref k), some (.int tn), some (.ref a'), some (.ref r), some .non, some (.ref qa), y8] ∧ H' k = some (.lst (zs ++ ws).reverse) ∧ Paired (SiV K H') zs ((kidI (tn, tp, rd, ps)).drop (tp.kids.length - i)) ∧ LamX.ExtN H H' ∧ LamX.Tabs TT H' ∧ TK K H8 H') ?_ ?_ ?_ ?_⟩
        · refine ⟨_, [], rfl, s58 _ _ hk5, ?_, e08, t8, fun _ _ h => h⟩
          rw [Nat.sub_zero, ← ekl, List.drop_length]
          exact .nil
        · rintro i σ H' _ ⟨_, _, _, _, _, _, _, tk⟩
          exact tk _ _ (.inl (.inl hpr))
        · rintro i x σ H9 hx ⟨y8, zs, rfl, hk9, pz, e9, t9, tk9⟩
          have hi : i < tp.kids.length := by
            have := (List.getElem?_eq_some_iff.mp hx).1
            rw [List.length_reverse, List.length_map] at this
            omega
          have hkd : tp.kids[tp.kids.length - 1 - i]? = some tp.kids[tp.kids.length - 1 - i] := List.getElem?_eq_getElem (by omega)
          generalize tp.kids[tp.kids.length - 1 - i] = kq at hkd
          have mk : kq ∈ tp.kids := List.mem_of_getElem? hkd
          have ex : x = .int kq.1 := by
            rw [List.getElem?_reverse (by rw [List.length_map]; omega), List.length_map, epl, List.getElem?_map, Pp.kids_pl, List.getElem?_map, hkd] at hx
            injection hx with hx
            exact hx.symm
          subst ex
          obtain ⟨yk, qx, ik⟩ := hkid kq mk
          have hqa9 := tk9 _ _ (seqT s8 hqa)
          have tk39 := tk38.trans tk9
          have hdrop : (kidI (tn, tp, rd, ps)).drop (tp.kids.length - (i + 1)) = (tn + ((tp.inc kq.1 : Nat) : Int), kq.2, rd ++ [kq.1], ps ++ [tp]) :: (kidI (tn, tp, rd, ps)).drop (tp.kids.length - i) := by
            have h := kids_lt hkd
            rw [show tp.kids.length - 1 - i + 1 = tp.kids.length - i by omega] at h
            show (tp.kids.map _).drop _ = _ :: (tp.kids.map _).drop _
            rw [← List.map_drop, ← List.map_drop, show tp.kids.length - (i + 1) = tp.kids.length - 1 - i by omega, h]
            rfl
          have zl : zs.length ≤ 3 := by
            rw [pair_len pz, List.length_drop, ekl]
            omega
          have rl : rd.length ≤ 10000 := by omega
          refine ⟨_, rfl, tyL hk9, ?_⟩
          have fin : ∀ (C : List V → Hp → Prop), (∀ (tr : Addr) (HA : Hp), Same H9 HA → HA tr = some (.tup (rd.map V.int ++ [V.int kq.1])) → C [yk, .ref tr] HA) → tCons (tOp (rIxT K) (tVar 4) (tVar 8)) (tCons (tTup (StX.tStar K (tVar 5) (tCons (tVar 8) tNil))) tNil) [some (.int n), some v, some (.ref k), some (.int tn), some (.ref a'), some (.ref r), some .non, some (.ref qa), some (.int kq.1)] H9 C := fun C hC => by
            refine ⟨_, rfl, _, rfl, a', _, _, _, rfl, rfl, tk39 _ _ hT0, qx, ?_⟩
            refine ⟨_, rfl, r, _, rfl, .inl (tk39 _ _ ir), _, rfl, ?_, fun tr ntr => ?_⟩
            · exact small' (by rw [List.length_append, List.length_map]; show rd.length + 1 ≤ _; omega)
            exact hC tr _ (same_new ntr) upd_same
          have done : ∀ z : Int, z = tn + ((tp.inc kq.1 : Nat) : Int) → ∀ (tr : Addr) (HA : Hp), Same H9 HA → HA tr = some (.tup (rd.map V.int ++ [V.int kq.1])) → ∀ t2, HA t2 = none → ∃ ks, (upd HA t2 (.tup [.int z, yk, .ref tr])) k = some (.lst ks) ∧ ks.length + 1 ≤ sizeLine ∧ (fun H' => ∃ (y8 : Option V) (zs : List V), [some (.int n), some v, some (.ref k), some (.int tn), some (.ref a'), some (.ref r), some .non, some (.ref qa), some (.int kq.1)] = [some (.int n), some v, some (.ref k), some (.int tn), some (.ref a'), some (.ref r), some .non, some (.ref qa), y8] ∧ H' k = some (.lst (zs ++ ws).reverse) ∧ Paired (SiV K H') zs ((kidI (tn, tp, rd, ps)).drop (tp.kids.length - (i + 1))) ∧ LamX.ExtN H H' ∧ LamX.Tabs TT H' ∧ TK K H8 H') (upd (upd HA t2 (.tup [.int z, yk, .ref tr])) k (.lst (ks ++ [.ref t2]))) := fun z hz tr HA sA htr t2 nt2 => by
            subst hz
            have hkA := sA _ _ hk9
            have sB := same_new (o := .tup [.int (tn + ((tp.inc kq.1 : Nat) : Int)), yk, .ref tr]) nt2
            have ht2 : (upd HA t2 (.tup [V.int (tn + ((tp.inc kq.1 : Nat) : Int)), yk, .ref tr])) t2 = some (.tup [.int (tn + ((tp.inc kq.1 : Nat) : Int)), yk, .ref tr]) := upd_same
            have hkB := sB _ _ hkA
            have htrB := sB _ _ htr
            generalize upd HA t2 (.tup [V.int (tn + ((tp.inc kq.1 : Nat) : Int)), yk, .ref tr]) = HB at sB ht2 hkB htrB ⊢
            have sAB := sA.trans sB
            have tkB : TK K HB (upd HB k (.lst ((zs ++ ws).reverse ++ [.ref t2]))) := TK.lst hkB
            have tk9B := (Same.tk (K := K) sAB).trans tkB
            refine ⟨_, hkB, small (by rw [List.length_reverse, List.length_append]; omega), _, .ref t2 :: zs, rfl, ?_, ?_, ExtN.put (e9.trans (LamX.ExtN.of sAB)) nkH, TabL.put (Tabs.same t9 sAB) hkB, tk9.trans tk9B⟩
            · rw [upd_same, List.cons_append, List.reverse_cons]
            · rw [hdrop]
              refine .cons ⟨t2, yk, tr, rfl, tkB _ _ (.inl (.inl ht2)), (ik.tk tk39).tk tk9B, tkB _ _ (.inl (.inl ?_))⟩ (pair_map (fun _ _ h => SiV.tk tk9B h) pz)
              rw [htrB, List.map_append]
              rfl
          refine ⟨_, rfl, _, rfl, qa, _, rfl, .inr hqa9, rfl, flat_z _, _, rfl, ?_⟩
          show if inV (.int kq.1) ((asmL tp.wd).map V.int) = true then _ else _
          rw [inV_z]
          by_cases hin : kq.1 ∈ asmL tp.wd
          · rw [if_pos (decide_eq_true hin)]
            refine ⟨_, rfl, _, _, rfl, rfl, fin _ fun tr HA sA htr => ⟨sz3, fun t2 nt2 => ?_⟩⟩
            obtain ⟨ks, e1, e2, e3⟩ := done (tn + 1) (by unfold Pp.inc; rw [if_pos hin]; rfl) tr HA sA htr t2 nt2
            exact ⟨k, ks, _, rfl, rfl, e1, e2, e3⟩
          · rw [if_neg (by rw [decide_eq_false hin]; exact Bool.false_ne_true)]
            refine ⟨_, rfl, fin _ fun tr HA sA htr => ⟨sz3, fun t2 nt2 => ?_⟩⟩
            obtain ⟨ks, e1, e2, e3⟩ := done tn (by unfold Pp.inc; rw [if_neg hin]; simp) tr HA sA htr t2 nt2
            exact ⟨k, ks, _, rfl, rfl, e1, e2, e3⟩
        · rintro σ H9 ⟨y8, zs, rfl, hk9, pz, e9, t9, tk9⟩
          rw [List.length_reverse, List.length_map, epl, Nat.sub_self, List.drop_zero] at pz
          refine ⟨zs ++ ws, kidI (tn, tp, rd, ps) ++ st, _, _, _, _, _, _, rfl, hk9, pair_app pz (pair_map (fun _ _ h => SiV.tk (tk38.trans tk9) h) pw), ?_, es, e9, t9, ?_⟩
          · intro y hy
            rcases List.mem_append.mp hy with hy | hy
            · obtain ⟨kq, mk, rfl⟩ := List.mem_map.mp hy
              refine ⟨hR.snoc mk, kid_joa hjo mk, ?_, Nat.le_trans (kid_ad mk) had⟩
              have hkh : kq.2.ht + 1 ≤ tp.ht := kid_ht mk
              show (rd ++ [kq.1]).length + kq.2.ht ≤ 10000
              rw [List.length_append]
              show rd.length + 1 + kq.2.ht ≤ 10000
              omega
            · exact hst y (List.mem_cons_of_mem _ hy)
          · have h : swt (kidI (tn, tp, rd, ps)) + 1 ≤ tp.wt := swt_kids (tn, tp, rd, ps)
            rw [swt_app]
            show _ < tp.wt + swt st
            omega
      · have nn : v5 ≠ .non := fun z => by subst z; cases i5
        refine ⟨_, rfl, rfl, _, rfl, iteT' (by rw [decide_eq_false nn]; rfl) ?_⟩
        refine ⟨_, rfl, _, rfl, _, rfl, v, v5, r, rd, p, tp, p5, ps, rfl, hp.tk (ExtN.tk e05), tk35 _ _ ir, hR, i5, by omega, fun H6 v6 s6 i6 => ?_⟩
        refine q H6 v6 (e05.trans (LamX.ExtN.of s6)) (Tabs.same t5 s6) (.inr ⟨_, ?_, i6⟩)
        have est : stepAt (tn, tp, rd, ps) = some (putAt rd ps p5) := by show (tp.stepped tn).map _ = _; rw [n5]; rfl
        rw [est] at es
        exact es
/-! ### _law_cell_at -/
def sp_law_cell_at (K : PySem.W.Frag) : Sp := fun vs H Q _ => ∃ (a : Addr) (ns : List Int) (k : Nat), vs = [.ref a, .int k] ∧ SqL K H a (ns.map V.int) ∧ ∀ i : Int, Q (.int i) H
theorem ok_law_cell_at (T : Txt w K mg) : Cl P w K mg base 1 "_law_cell_at" (sp_law_cell_at K) := by
  refine T.d_law_cell_at.ok sc_law_cell_at (fun vs H Q E h => ?_) (fun f cdv A outer s H vs Q E hr h => ?_)
  · obtain ⟨a, ns, k, rfl, _⟩ := h
    rfl
  · obtain ⟨a, ns, k, rfl, hS, q⟩ := h
    refine ⟨_, (pss_cons (ps_if (pt_cmpR op_lt (pv 1) (pe_callB (r := rLenK K) call_len_seq rfl T.n_len (by decide +kernel) (pa_cons (pv 0) pa_nil)) (nomark _))
      (pss_one (ps_ret (pe_ix (r := rIxL K) ix_list (pv 0) (pv 1) (fun _ _ => rfl))))
      pss_nil)
    (pss_one (ps_ret pe_int))), ?_⟩
    refine ⟨_, rfl, _, rfl, a, _, rfl, .inl hS, _, _, rfl, rfl, _, rfl, ite2 (fun c => ?_) (fun c => ?_)⟩
    · have c' : (k : Int) < (((ns.map V.int).length : Nat) : Int) := of_decide_eq_true c
      rw [List.length_map] at c'
      have hk : k < ns.length := by omega
      have g : (ns.map V.int)[k]? = some (.int ns[k]) := by
        rw [List.getElem?_map, List.getElem?_eq_getElem hk]
        rfl
      exact ⟨_, rfl, _, rfl, a, _, _, _, rfl, rfl, hS, atI_nat g, q _⟩
    · exact q _
/-! ### _law_well -/
def sp_law_well (K : PySem.W.Frag) : Sp := fun vs H Q _ => ∃ (c : Int), vs = [.int c] ∧ ∀ H' st, Same H H' → H st = none → StW H' st → Q (.ref st) H'
theorem ok_law_well (T : Txt w K mg) : Cl P w K mg base 1 "_law_well" (sp_law_well K) := by
  refine T.d_law_well.ok sc_law_well (fun vs H Q E h => ?_) (fun f cdv A outer s H vs Q E hr h => ?_)
  · obtain ⟨c, rfl, _⟩ := h
    rfl
  · obtain ⟨c, rfl, q⟩ := h
    refine ⟨_, (pss_one (ps_ret (pe_lst (pa_cons (pe_op op_mul (pv 0) (pe_callTy call_int1 rfl T.n_int (by decide +kernel) (pa_cons (pe_cmpR op_ge (pv 0) (pe_op op_pow pe_int pe_int) (nomark _)) pa_nil))) (pa_cons (pe_op op_mod (pv 0) pe_int) (pa_cons pe_int pa_nil)))))), ?_⟩
    refine ⟨_, rfl, _, rfl, _, _, rfl, rfl, ⟨by decide, by decide, by decide⟩, _, _, rfl, rfl, .inr ⟨_, rfl, _, _, rfl, rfl, .inr ?_, _, rfl, _, _, rfl, rfl, (by show (0 : Int) < 2147483647; decide), sz3, fun st n => ?_⟩⟩
    · cases decide (c ≥ 10 ^ (18 : Int).toNat) <;> exact ⟨by decide, by decide⟩
    · exact q _ st (same_new n) n ⟨_, _, _, upd_same⟩
/-! ### _law_draw -/
theorem ok_law_draw (T : Txt w K mg) : Cl P w K mg base 1 "_law_draw" (sp_draw K) := by
  refine T.d_law_draw.ok sc_law_draw (fun vs H Q E h => ?_) (fun f cdv A outer s H vs Q E hr h => ?_)
  · obtain ⟨st, m, rfl, _⟩ := h
    rfl
  · obtain ⟨st, m, rfl, hw, h0, h1, q⟩ := h
    have hw0 := hw
    obtain ⟨a, b, c, hs⟩ := hw0
    refine ⟨_, (pss_cons (ps_if (pt_cmpR op_gt (pe_ix (r := rIxL K) ix_list (pv 0) pe_int (fun _ _ => rfl)) pe_int (nomark _))
      (pss_cons (ps_set (i := 2) sc_law_draw.nd rfl (Or.inl rfl) (pe_op op_mod (pe_ix (r := rIxL K) ix_list (pv 0) pe_int (fun _ _ => rfl)) (pv 1)))
        (pss_cons (ps_asg (pe_op op_fdivW (pe_ix (r := rIxL K) ix_list (pv 0) pe_int (fun _ _ => rfl)) (pv 1)) (pg_sub (pv 0) pe_int set_list))
        (pss_one (ps_ret (pv 2)))))
      pss_nil)
    (pss_cons (ps_asg (pe_op op_add (pe_ix (r := rIxL K) ix_list (pv 0) pe_int (fun _ _ => rfl)) pe_int) (pg_sub (pv 0) pe_int set_list))
    (pss_cons (ps_set (i := 3) sc_law_draw.nd rfl (Or.inl rfl) (pe_op op_mod (pe_op op_mul (pe_op op_add (pe_op op_add (pe_ix (r := rIxL K) ix_list (pv 0) pe_int (fun _ _ => rfl)) (pe_op op_mul pe_int (pe_ix (r := rIxL K) ix_list (pv 0) pe_int (fun _ _ => rfl)))) pe_int) pe_int) pe_int))
    (pss_cons (ps_set (i := 3) sc_law_draw.nd rfl (Or.inl rfl) (pe_op op_mod (pe_op op_mul (pv 3) (pe_op op_add (pe_op op_fdivW (pv 3) pe_int) pe_int)) pe_int))
    (pss_one (ps_ret (pe_op op_mod (pe_op op_mod (pe_op op_mul (pv 3) (pe_op op_add (pe_op op_fdivW (pv 3) pe_int) pe_int)) pe_int) (pv 1)))))))), ?_⟩
    refine ⟨_, rfl, st, _, _, _, rfl, rfl, SqL.of hs, at0, _, _, rfl, rfl, _, rfl, ite2 (fun _ => ?_) (fun _ => ?_)⟩
    · refine ⟨_, rfl, st, _, _, _, rfl, rfl, SqL.of hs, at0, _, rfl, _, _, rfl, rfl, h0, ?_⟩
      refine ⟨_, rfl, st, _, _, _, rfl, rfl, SqL.of hs, at0, _, rfl, _, _, rfl, rfl, div_ok h0 h1, _, rfl, st, _, _, 0, rfl, rfl, hs, rfl, _, rfl, ?_⟩
      exact q _ _ ⟨But.put, hw, ⟨_, _, _, upd_same⟩⟩ (Int.emod_nonneg _ (by omega)) (Int.emod_lt_of_pos _ h0)
    · refine ⟨_, rfl, st, _, _, _, rfl, rfl, SqL.of hs, at2, _, _, rfl, rfl, _, rfl, st, _, _, 2, rfl, rfl, hs, rfl, ?_⟩
      have e2 : (upd H st (.lst ([V.int a, .int b, .int c].set 2 (.int (c + 1))))) st = some (.lst [.int a, .int b, .int (c + 1)]) := upd_same
      have w2 : Wd st H (upd H st (.lst ([V.int a, .int b, .int c].set 2 (.int (c + 1))))) := ⟨But.put, hw, ⟨_, _, _, e2⟩⟩
      show tSeq _ _ _ _ (upd H st (.lst ([V.int a, .int b, .int c].set 2 (.int (c + 1)))))
      generalize upd H st (.lst ([V.int a, .int b, .int c].set 2 (.int (c + 1)))) = H2 at e2 w2 ⊢
      refine ⟨_, rfl, st, _, _, _, rfl, rfl, SqL.of e2, at1, _, rfl, st, _, _, _, rfl, rfl, SqL.of e2, at2, _, _, rfl, rfl, .inl ⟨by decide, by decide⟩, _, _, rfl, rfl, _, _, rfl, rfl, _, _, rfl, rfl, .inr ⟨by decide, by decide⟩, _, _, rfl, rfl, (by show (0 : Int) < 2147483647; decide), ?_⟩
      refine ⟨_, rfl, _, rfl, _, _, rfl, rfl, ⟨by decide, by decide⟩, _, _, rfl, rfl, _, _, rfl, rfl, .inl (small_modW _), _, _, rfl, rfl, (by show (0 : Int) < 2147483647; decide), ?_⟩
      refine ⟨_, rfl, _, rfl, _, _, rfl, rfl, ⟨by decide, by decide⟩, _, _, rfl, rfl, _, _, rfl, rfl, .inl (small_modW _), _, _, rfl, rfl, (by show (0 : Int) < 2147483399; decide), _, rfl, _, _, rfl, rfl, h0, ?_⟩
      exact q _ _ w2 (Int.emod_nonneg _ (by omega)) (Int.emod_lt_of_pos _ h0)
/-! ### _law_plain -/
/-- the book of what names tell -/
abbrev BK : List Nat → Sm → Prop := fun _ s => s.dp ≤ 1 ∧ s.In Ch
/-- a statement without parts, its name short -/
structure PlS (s : Sm) : Prop where
  dp : s.dp ≤ 0
  ch : s.In Ch
  c9 : s.In C9
/-- a small statement, its names short -/
structure NlS (s : Sm) : Prop where
  dp : s.dp ≤ 1
  ch : s.In Ch
  c9 : s.In C9
theorem NlS.j {e : Sm} (ne : NlS e) : e.joints ≤ 24 := Sm.Nl.j ⟨ne.1, ne.2⟩
def sp_law_plain (K : PySem.W.Frag) : Sp := fun vs H Q _ => ∃ st : Addr, vs = [.ref st] ∧ StW H st ∧ ∀ H' v (s : Sm), Wd st H H' → IsSm K H' v s → PlS s → Q v H'
theorem rep_ch {c n : Nat} (h : c < 1114112) : Ch (List.replicate n c) := fun d hd => by
  rw [(List.mem_replicate.mp hd).2]
  exact h
theorem ok_law_plain (T : Txt w K mg) (c__law_draw : Cl P w K mg base 1 "_law_draw" (sp_draw K)) : Cl P w K mg base 2 "_law_plain" (sp_law_plain K) := by
  refine T.d_law_plain.ok sc_law_plain (fun vs H Q E h => ?_) (fun f cdv A outer s H vs Q E hr h => ?_)
  · obtain ⟨st, rfl, _⟩ := h
    rfl
  · obtain ⟨st, rfl, hw, q⟩ := h
    refine ⟨_, (pss_cons (ps_set (i := 1) sc_law_plain.nd rfl (Or.inl rfl) (pe_k c__law_draw hr (by omega) rfl (pa_cons (pv 0) (pa_cons pe_int pa_nil))))
    (pss_cons (ps_if (pt_cmpR op_eq (pv 1) pe_int (nomark _))
      (pss_one (ps_ret (pe_tup (pa_cons pe_str pa_nil))))
      pss_nil)
    (pss_cons (ps_set (i := 2) sc_law_plain.nd rfl (Or.inl rfl) (pe_ix ix_str pe_str (pe_k c__law_draw hr (by omega) rfl (pa_cons (pv 0) (pa_cons pe_int pa_nil))) (fun _ _ => rfl)))
    (pss_one (ps_ret (pe_tup (pa_cons pe_str (pa_cons (pe_op op_repS (pv 2) (pe_op op_add pe_int (pe_op op_mul (pe_k c__law_draw hr (by omega) rfl (pa_cons (pv 0) (pa_cons pe_int pa_nil))) (pe_callTy call_int1 rfl T.n_int (by decide +kernel) (pa_cons (pe_cmpR op_eq (pv 1) pe_int (nomark _)) pa_nil))))) pa_nil)))))))), ?_⟩
    refine ⟨_, rfl, st, 5, rfl, hw, by decide, by decide, fun H1 r w1 r0 r1 => ?_⟩
    refine ⟨_, rfl, rfl, _, rfl, ite2 (fun _ => ?_) (fun _ => ?_)⟩
    · exact ⟨sz1, fun p np => q _ _ .nv (w1.new np) (.nv (.inl (.inl upd_same))) ⟨Nat.le_refl _, True.intro, True.intro⟩⟩
    refine ⟨_, rfl, st, 26, rfl, w1.w1, by decide, by decide, fun H2 r2 w2 a0 a1 => ?_⟩
    obtain ⟨k, rfl, hk⟩ := nat_lt (n := 26) a0 a1
    refine ⟨_, (k : Int), 97 + k, rfl, rfl, (by decide), atI_nat (abc_at k hk), ?_⟩
    refine ⟨_, rfl, _, rfl, st, 8, rfl, w2.w1, by decide, by decide, fun H3 r3 w3 b0 b1 => ?_⟩
    obtain ⟨j, rfl, hj⟩ := nat_lt (n := 8) b0 b1
    have w13 := (w1.trans w2).trans w3
    refine ⟨_, rfl, rfl, .inr ⟨_, rfl, ?_⟩⟩
    generalize decide (V.int r = V.int 1) = b
    cases b with
    | true =>
      refine ⟨_, _, rfl, rfl, .inr ⟨by decide, by decide⟩, _, _, rfl, rfl, 97 + k, 1 + j, rfl, ?_, by omega, sz2, fun t nt => ?_⟩
      · show V.int (1 + (j : Int) * 1) = V.int ((1 + j : Nat) : Int)
        exact congrArg V.int (by omega)
      · exact q _ (.ref t) (.lt (List.replicate (1 + j) (97 + k))) (w13.new nt) (.lt (.inl (.inl upd_same))) ⟨Nat.le_refl _, rep_ch (by omega), rep_ch (by omega), by rw [List.length_replicate]; omega⟩
    | false =>
      refine ⟨_, _, rfl, rfl, .inr ⟨by decide, by decide⟩, _, _, rfl, rfl, 97 + k, 1, rfl, ?_, by omega, sz2, fun t nt => ?_⟩
      · show V.int (1 + (j : Int) * 0) = V.int ((1 : Nat) : Int)
        exact congrArg V.int (by omega)
      · exact q _ (.ref t) (.lt (List.replicate 1 (97 + k))) (w13.new nt) (.lt (.inl (.inl upd_same))) ⟨Nat.le_refl _, rep_ch (by omega), rep_ch (by omega), by rw [List.length_replicate]; omega⟩
/-! ### _law_statement -/
def sp_law_statement (K : PySem.W.Frag) : Sp := fun vs H Q _ => ∃ st : Addr, vs = [.ref st] ∧ StW H st ∧ ∀ H' v (s : Sm), Wd st H H' → IsSm K H' v s → NlS s → Q v H'
theorem ok_law_statement (T : Txt w K mg) (c__law_draw : Cl P w K mg base 1 "_law_draw" (sp_draw K)) (c__law_plain : Cl P w K mg base 2 "_law_plain" (sp_law_plain K)) : Cl P w K mg base 3 "_law_statement" (sp_law_statement K) := by
  refine T.d_law_statement.ok sc_law_statement (fun vs H Q E h => ?_) (fun f cdv A outer s H vs Q E hr h => ?_)
  · obtain ⟨st, rfl, _⟩ := h
    rfl
  · obtain ⟨st, rfl, hw, q⟩ := h
    refine ⟨_, (pss_cons (ps_set (i := 1) sc_law_statement.nd rfl (Or.inl rfl) (pe_ix (r := rIxL K) ix_list (pe_lst (pa_cons pe_str (pa_cons pe_str (pa_cons pe_str (pa_cons pe_str pa_nil))))) (pe_k c__law_draw hr (by omega) rfl (pa_cons (pv 0) (pa_cons pe_int pa_nil))) (fun _ _ => rfl)))
    (pss_cons (ps_if (pt_cmpR op_eq (pv 1) pe_str (nomark _))
      (pss_one (ps_ret (pe_k c__law_plain hr (by omega) rfl (pa_cons (pv 0) pa_nil))))
      pss_nil)
    (pss_one (ps_ret (pe_tup (pa_cons (pv 1) (pa_cons (pe_k c__law_plain hr (by omega) rfl (pa_cons (pv 0) pa_nil)) (pa_cons (pe_k c__law_plain hr (by omega) rfl (pa_cons (pv 0) pa_nil)) pa_nil)))))))), ?_⟩
    refine ⟨sz4, fun pl npl => ?_⟩
    have s1 : Same H (upd H pl (.lst [.str "", .str "and", .str "or", .str "then"])) := same_new npl
    have hpl : (upd H pl (.lst [V.str "", .str "and", .str "or", .str "then"])) pl = some (.lst [.str "", .str "and", .str "or", .str "then"]) := upd_same
    have npst : pl ≠ st := Wd.ne hw npl
    generalize upd H pl (.lst [.str "", .str "and", .str "or", .str "then"]) = H1 at s1 hpl ⊢
    have w1 := Wd.of hw s1
    refine ⟨_, rfl, st, 4, rfl, w1.w1, by decide, by decide, fun H2 r w2 r0 r1 => ?_⟩
    obtain ⟨k, rfl, hk⟩ := nat_lt (n := 4) r0 r1
    have hpl2 := w2.bt _ _ npst hpl
    obtain ⟨x, hx⟩ : ∃ x, [V.str "", .str "and", .str "or", .str "then"][k]? = some x := ⟨_, List.getElem?_eq_getElem hk⟩
    refine ⟨pl, _, _, x, rfl, rfl, SqL.of hpl2, atI_nat hx, ?_⟩
    have w12 := w1.trans w2
    have plain : ∀ {H0 : Hp} {R : VK}, StW H0 st → (∀ H' v (s : Sm), Wd st H0 H' → IsSm K H' v s → PlS s → R v H') → sp_law_plain K [.ref st] H0 R E0 := fun h r => ⟨st, rfl, h, r⟩
    match k, hk with
    | 0, _ =>
      injection hx with hx
      subst hx
      exact ⟨_, rfl, rfl, _, rfl, iteT' (by decide +kernel) ⟨_, rfl, st, rfl, w2.w1, fun H3 v s w3 i3 n3 => q H3 v s (w12.trans w3) i3 ⟨Nat.le_succ_of_le n3.1, n3.2, n3.3⟩⟩⟩
    | k + 1, hk =>
      obtain ⟨j, hj⟩ : ∃ j : J, x = .str j.s := by
        match k, hk with
        | 0, _ => exact ⟨.and, (Option.some.inj hx).symm⟩
        | 1, _ => exact ⟨.or, (Option.some.inj hx).symm⟩
        | 2, _ => exact ⟨.thn, (Option.some.inj hx).symm⟩
      subst hj
      have ne : decide (V.str j.s = V.str "") = false := by cases j <;> decide +kernel
      refine ⟨_, rfl, rfl, _, rfl, iteF' ne ?_⟩
      refine ⟨_, rfl, _, rfl, st, rfl, w2.w1, fun H3 v s w3 i3 n3 => ⟨_, rfl, st, rfl, w3.w1, fun H4 v4 s4 w4 i4 n4 => ⟨sz3, fun p np => ?_⟩⟩⟩
      have r := same_new (o := .tup [.str j.s, v, v4]) np
      exact q _ (.ref p) (.bin j s s4) (((w12.trans w3).trans w4).new np) (.bin (.inl (.inl upd_same)) ((i3.tk w4.tk).same r) (i4.same r)) ⟨by have h1 := n3.1; have h2 := n4.1; show max s.dp s4.dp + 1 ≤ 1; omega, ⟨n3.2, n4.2⟩, n3.3, n4.3⟩
/-! ### _law_joints -/
theorem ok_law_joints (T : Txt w K mg) : ∀ n : Nat, Cl P w K mg base n "_law_joints" (sp_law_joints K n)
  | 0 => T.d_law_joints.none fun vs H Q E h => by
    obtain ⟨_, s, _, _, h, _⟩ := h
    omega
  | n + 1 => by
    have c__law_joints : Cl P w K mg base n "_law_joints" (sp_law_joints K n) := ok_law_joints T n
    refine T.d_law_joints.ok sc_law_joints (fun vs H Q E h => ?_) (fun f cdv A outer s H vs Q E hr h => ?_)
    · obtain ⟨v, s, rfl, _⟩ := h
      rfl
    · obtain ⟨v, a, rfl, hs, hd, q⟩ := h
      refine ⟨_, (pss_cons (ps_if (pt_cmpR op_lt (pe_callB (r := rLenK K) call_len_seq rfl T.n_len (by decide +kernel) (pa_cons (pv 0) pa_nil)) pe_int (nomark _))
      (pss_one (ps_ret pe_int))
      pss_nil)
    (pss_one (ps_ret (pe_op op_add (pe_op op_add pe_int (pe_k c__law_joints hr (by omega) rfl (pa_cons (pe_ix (r := rIxT K) ix_tup (pv 0) pe_int (fun _ _ => rfl)) pa_nil))) (pe_k c__law_joints hr (by omega) rfl (pa_cons (pe_ix (r := rIxT K) ix_tup (pv 0) pe_int (fun _ _ => rfl)) pa_nil)))))), ?_⟩
      cases hs with
      | @lt ax m hX => exact ⟨_, rfl, ax, _, rfl, .inr hX, _, _, rfl, rfl, _, rfl, iteT' (by show decide ((2 : Int) < 3) = true; decide) q⟩
      | @nv ax hX => exact ⟨_, rfl, ax, _, rfl, .inr hX, _, _, rfl, rfl, _, rfl, iteT' (by show decide ((1 : Int) < 3) = true; decide) q⟩
      | @bin ax j l r b c hX hl hr' =>
        have hd' : max b.dp c.dp + 1 < n + 1 := hd
        refine ⟨_, rfl, ax, _, rfl, .inr hX, _, _, rfl, rfl, _, rfl, iteF' (by show decide ((3 : Int) < 3) = false; decide) ?_⟩
        refine ⟨_, rfl, ax, _, _, _, rfl, rfl, hX, at1, l, b, rfl, hl, by omega, _, _, rfl, rfl, ?_⟩
        refine ⟨_, rfl, ax, _, _, _, rfl, rfl, hX, at2, r, c, rfl, hr', by omega, _, _, rfl, rfl, ?_⟩
        have e : V.int (1 + (b.joints : Int) + (c.joints : Int)) = V.int (((Sm.bin j b c).joints : Nat) : Int) := congrArg V.int (by show _ = ((b.joints + c.joints + 1 : Nat) : Int); omega)
        show Q (V.int (1 + (b.joints : Int) + (c.joints : Int))) H
        rw [e]
        exact q
/-! ### _law_least -/
def leS : Sm := .lt [101]
theorem le_ch : leS.In Ch := fun c hc => by
  rw [List.mem_singleton.mp hc]
  decide
theorem ok_law_least (T : Txt w K mg) : Cl P w K mg base 1 "_law_least" (sp_law_least K BK) := by
  refine T.d_law_least.ok sc_law_least (fun vs H Q E h => ?_) (fun f cdv A outer s H vs Q E hr h => ?_)
  · obtain ⟨pg, gs, g, j, rfl, _⟩ := h
    rfl
  · obtain ⟨pg, gs, g, j, rfl, hG, hl, q⟩ := h
    refine ⟨_, (pss_cons (ps_set (i := 2) sc_law_least.nd rfl (Or.inl rfl) (pe_tup (pa_cons pe_str (pa_cons pe_str pa_nil))))
    (pss_cons (ps_set (i := 3) sc_law_least.nd rfl (Or.inl rfl) (pe_tup (pa_cons pe_str (pa_cons (pv 2) (pa_cons (pe_tup (pa_cons pe_str (pa_cons (pe_callB (r := rLenK K) call_len_seq rfl T.n_len (by decide +kernel) (pa_cons (pv 0) pa_nil)) pa_nil))) pa_nil)))))
    (pss_cons (ps_set (i := 4) sc_law_least.nd rfl (Or.inl rfl) (pe_tup (pa_cons pe_str (pa_cons (pv 2) (pa_cons (pv 2) pa_nil)))))
    (pss_cons (ps_if (pt_cmpR op_eq (pv 1) pe_str (nomark _))
      (pss_one (ps_ret (pe_tup (pa_cons (pe_tup (pa_cons pe_str (pa_cons (pv 3) (pa_cons (pv 3) pa_nil)))) (pa_cons (pe_tup (pa_cons pe_str (pa_cons (pv 4) (pa_cons (pv 4) pa_nil)))) pa_nil)))))
      pss_nil)
    (pss_cons (ps_if (pt_cmpR op_eq (pv 1) pe_str (nomark _))
      (pss_one (ps_ret (pe_tup (pa_cons (pe_tup (pa_cons pe_str (pa_cons (pv 3) (pa_cons (pv 2) pa_nil)))) (pa_cons (pe_tup (pa_cons pe_str (pa_cons (pv 4) (pa_cons (pv 2) pa_nil)))) pa_nil)))))
      pss_nil)
    (pss_one (ps_ret (pe_tup (pa_cons (pv 3) (pa_cons (pv 4) pa_nil)))))))))), ?_⟩
    refine ⟨sz2, fun e ne => ?_⟩
    have s1 : Same H (upd H e (.tup [.str "letter", .str "e"])) := same_new ne
    have he : (upd H e (.tup [V.str "letter", .str "e"])) e = some (.tup [.str "letter", .str "e"]) := upd_same
    generalize upd H e (.tup [.str "letter", .str "e"]) = H1 at s1 he ⊢
    have ie : IsSm K H1 (.ref e) leS := .lt (.inl (.inl he))
    refine ⟨_, rfl, _, rfl, pg, gs, rfl, .inl (s1.seq hG), sz2, fun u nu => ?_⟩
    have s2 : Same H1 (upd H1 u (.tup [.str "use", .int gs.length])) := same_new nu
    have hu : (upd H1 u (.tup [V.str "use", .int gs.length])) u = some (.tup [.str "use", .int (g.length : Nat)]) := by rw [upd_same, hl]
    generalize upd H1 u (.tup [.str "use", .int gs.length]) = H2 at s2 hu ⊢
    refine ⟨sz3, fun m nm => ?_⟩
    have s3 : Same H2 (upd H2 m (.tup [.str "make", .ref e, .ref u])) := same_new nm
    have hm : (upd H2 m (.tup [V.str "make", .ref e, .ref u])) m = some (.tup [.str "make", .ref e, .ref u]) := upd_same
    generalize upd H2 m (.tup [.str "make", .ref e, .ref u]) = H3 at s3 hm ⊢
    refine ⟨_, rfl, _, rfl, sz3, fun d nd => ?_⟩
    have s4 : Same H3 (upd H3 d (.tup [.str "then", .ref e, .ref e])) := same_new nd
    have hd : (upd H3 d (.tup [V.str "then", .ref e, .ref e])) d = some (.tup [.str "then", .ref e, .ref e]) := upd_same
    generalize upd H3 d (.tup [.str "then", .ref e, .ref e]) = H4 at s4 hd ⊢
    have ie4 : IsSm K H4 (.ref e) leS := ((ie.same s2).same s3).same s4
    have im4 : IsPp K H4 (.ref m) (.make leS (.use (g.length : Nat))) := .make (.inl (.inl (s4 _ _ hm))) (.use (.inl (.inl (s4 _ _ (s3 _ _ hu))))) ie4
    have id4 : IsSm K H4 (.ref d) (.bin .thn leS leS) := .bin (.inl (.inl hd)) ie4 ie4
    have tm : Ty BK g (.make leS (.use (g.length : Nat))) (.bin .thn leS leS) := .make (.use (by rw [List.getElem?_append_right (Nat.le_refl _), Nat.sub_self]; rfl))
    have s14 := s1.trans (s2.trans (s3.trans s4))
    have bm : (Pp.make leS (.use ((g.length : Nat) : Int))).Bd 30 := ⟨True.intro, ⟨Nat.zero_le _, le_ch⟩⟩
    have be : leS.Bd 30 := ⟨Nat.zero_le _, le_ch⟩
    cases j with
    | and =>
      refine ⟨_, rfl, rfl, _, rfl, iteT' (by decide +kernel) ?_⟩
      refine ⟨_, rfl, _, rfl, sz3, fun a1 n1 => ⟨_, rfl, _, rfl, sz3, fun a2 n2 => ⟨sz2, fun t nt => ?_⟩⟩⟩
      have r1 := same_new (o := .tup [.str "pair", .ref m, .ref m]) n1
      have r2 := same_new (o := .tup [.str "and", .ref d, .ref d]) n2
      have r3 := same_new (o := .tup [.ref a1, .ref a2]) nt
      have r23 := r2.trans r3
      have r13 := r1.trans r23
      exact q _ t (s14.trans r13) ((s14.trans (r1.trans r2)).free nt) ⟨.ref a1, .ref a2, .pair (.make leS (.use (g.length : Nat))) (.make leS (.use (g.length : Nat))), .bin .and (.bin .thn leS leS) (.bin .thn leS leS), .inl (.inl upd_same), .pair (.inl (.inl (r23 _ _ upd_same))) (im4.same r13) (im4.same r13), .bin (.inl (.inl (r3 _ _ upd_same))) (id4.same r13) (id4.same r13), .pair tm tm, by show 1 + 1 + (1 + 1) + 1 ≤ 5; omega, by show max (0 + 1) (0 + 1) + 1 ≤ 2; omega, ⟨bm, bm⟩, ⟨⟨le_ch, le_ch⟩, ⟨le_ch, le_ch⟩⟩, by decide, _, _, rfl⟩
    | or =>
      refine ⟨_, rfl, rfl, _, rfl, iteF' (by decide +kernel) ⟨_, rfl, rfl, _, rfl, iteT' (by decide +kernel) ?_⟩⟩
      refine ⟨_, rfl, _, rfl, sz3, fun a1 n1 => ⟨_, rfl, _, rfl, sz3, fun a2 n2 => ⟨sz2, fun t nt => ?_⟩⟩⟩
      have r1 := same_new (o := .tup [.str "left", .ref m, .ref e]) n1
      have r2 := same_new (o := .tup [.str "or", .ref d, .ref e]) n2
      have r3 := same_new (o := .tup [.ref a1, .ref a2]) nt
      have r23 := r2.trans r3
      have r13 := r1.trans r23
      exact q _ t (s14.trans r13) ((s14.trans (r1.trans r2)).free nt) ⟨.ref a1, .ref a2, .left (.make leS (.use (g.length : Nat))) leS, .bin .or (.bin .thn leS leS) leS, .inl (.inl upd_same), .left (.inl (.inl (r23 _ _ upd_same))) (im4.same r13) (ie4.same r13), .bin (.inl (.inl (r3 _ _ upd_same))) (id4.same r13) (ie4.same r13), .left tm, by show 1 + 1 + 1 ≤ 5; omega, by show 0 + 1 + 1 ≤ 2; omega, ⟨bm, be⟩, ⟨⟨le_ch, le_ch⟩, le_ch⟩, by decide, _, _, rfl⟩
    | thn =>
      refine ⟨_, rfl, rfl, _, rfl, iteF' (by decide +kernel) ⟨_, rfl, rfl, _, rfl, iteF' (by decide +kernel) ?_⟩⟩
      refine ⟨_, rfl, _, rfl, sz2, fun t nt => ?_⟩
      have r3 := same_new (o := .tup [.ref m, .ref d]) nt
      exact q _ t (s14.trans r3) (s14.free nt) ⟨.ref m, .ref d, .make leS (.use (g.length : Nat)), .bin .thn leS leS, .inl (.inl upd_same), im4.same r3, id4.same r3, tm, by show 1 + 1 ≤ 5; omega, by show 0 + 1 ≤ 2; omega, bm, ⟨le_ch, le_ch⟩, by decide, _, _, rfl⟩
/-! ### _law_small -/
theorem ok_law_small (T : Txt w K mg) (c__law_draw : Cl P w K mg base 1 "_law_draw" (sp_draw K)) (c__law_statement : Cl P w K mg base 3 "_law_statement" (sp_law_statement K)) (c__law_least : Cl P w K mg base 1 "_law_least" (sp_law_least K BK)) : Cl P w K mg base 4 "_law_small" (sp_law_small K BK) := by
  refine Cl.mono (j := 3 + 1) (T.d_law_small.ok (k := 3) sc_law_small (fun vs H Q E h => ?_) (fun f cdv A outer s H vs Q E hr h => ?_)) (by omega)
  · obtain ⟨st, pg, gs, g, rfl, _⟩ := h
    rfl
  · obtain ⟨st, pg, gs, g, rfl, hw, hg, hl, q⟩ := h
    refine ⟨_, (pss_cons (ps_if (pt_cmpR op_eq (pe_k c__law_draw hr (by omega) rfl (pa_cons (pv 0) (pa_cons pe_int pa_nil))) pe_int (nomark _))
      (pss_cons (ps_set (i := 2) sc_law_small.nd rfl (Or.inl rfl) (pe_k c__law_statement hr (by omega) rfl (pa_cons (pv 0) pa_nil)))
        (pss_one (ps_ret (pe_tup (pa_cons (pe_tup (pa_cons pe_str (pa_cons (pe_callB (r := rReprS K) (call_reprS hr) rfl T.n_repr (by decide +kernel) (pa_cons (pv 2) pa_nil)) pa_nil))) (pa_cons (pv 2) pa_nil))))))
      pss_nil)
    (pss_cons (ps_if (pt_cmpR (r := rNeE K) (op_neE hr.units) (pv 1) (pe_lst pa_nil) (nomark _))
      (pss_cons (ps_set (i := 3) sc_law_small.nd rfl (Or.inl rfl) (pe_k c__law_draw hr (by omega) rfl (pa_cons (pv 0) (pa_cons (pe_callB (r := rLenK K) call_len_seq rfl T.n_len (by decide +kernel) (pa_cons (pv 1) pa_nil)) pa_nil))))
        (pss_one (ps_ret (pe_tup (pa_cons (pe_tup (pa_cons pe_str (pa_cons (pv 3) pa_nil))) (pa_cons (pe_ix (r := rIxL K) ix_list (pv 1) (pv 3) (fun _ _ => rfl)) pa_nil))))))
      pss_nil)
    (pss_one (ps_ret (pe_k c__law_least hr (by omega) rfl (pa_cons (pv 1) (pa_cons (pe_ix (r := rIxL K) ix_list (pe_lst (pa_cons pe_str (pa_cons pe_str (pa_cons pe_str pa_nil)))) (pe_k c__law_draw hr (by omega) rfl (pa_cons (pv 0) (pa_cons pe_int pa_nil))) (fun _ _ => rfl)) pa_nil))))))), ?_⟩
    refine ⟨_, rfl, st, 8, rfl, hw, by decide, by decide, fun H0 r0 w0 _ _ => ⟨rfl, _, rfl, ite2 (fun _ => ?_) (fun _ => ?_)⟩⟩
    · refine ⟨_, rfl, st, rfl, w0.w1, fun H1 v a w1 ia na => ?_⟩
      refine ⟨_, rfl, v, a, rfl, ia, na.3, na.1, fun n ln cn => ⟨sz2, fun u nu => ⟨_, rfl, sz2, fun t nt => ?_⟩⟩⟩
      have r1 := same_new (o := .tup [.str "name", .str (SX.S n)]) nu
      have r2 := same_new (o := .tup [.ref u, v]) nt
      have r12 := r1.trans r2
      exact q _ t ((w0.trans w1).then r12) ⟨.ref u, v, .name n, a, .inl (.inl upd_same), .name (.inl (.inl (r2 _ _ upd_same))), ia.same r12, .name ⟨na.1, na.2⟩, by show 1 ≤ 5; omega, by show 0 ≤ 2; omega, cn, na.2, na.j⟩
    replace hg := hg.wd w0
    replace q := fun H' t w d => q H' t (w0.trans w) d
    replace hw := w0.w1
    clear w0
    refine ne_nil (vl_var rfl) (SqL.of hg.at_) (dpAll_of (fun _ _ h => h.dp) hg.ps) (fun d hd => ?_) (fun p np => ⟨_, rfl, ?_⟩)
    · obtain ⟨s', hs', rfl⟩ := List.mem_map.mp hd
      exact Sm.lay (hg.ok s' hs').2
    have s1 : Same H0 (upd H0 p (.lst [])) := same_new np
    generalize upd H0 p (.lst []) = H1 at s1 ⊢
    have w1 := Wd.of hw s1
    have g1 := hg.same s1
    have hln := hg.ln
    cases gs with
    | nil =>
      refine iteF' rfl ?_
      refine ⟨_, rfl, sz3, fun l nl => ?_⟩
      have s2 : Same H1 (upd H1 l (.lst [.str "and", .str "or", .str "then"])) := same_new nl
      have hl2 : (upd H1 l (.lst [V.str "and", .str "or", .str "then"])) l = some (.lst [.str "and", .str "or", .str "then"]) := upd_same
      generalize upd H1 l (.lst [.str "and", .str "or", .str "then"]) = H2 at s2 hl2 ⊢
      have w2 := w1.then s2
      have nls : l ≠ st := Wd.ne w1.w1 nl
      refine ⟨_, rfl, st, 3, rfl, w2.w1, by decide, by decide, fun H3 r w3 r0 r1 => ?_⟩
      obtain ⟨k, rfl, hk⟩ := nat_lt (n := 3) r0 r1
      obtain ⟨j, hj⟩ := word3 hk
      refine ⟨l, _, _, _, rfl, rfl, SqL.of (w3.bt _ _ nls hl2), atI_nat hj, pg, [], g, j, rfl, SqL.of ((g1.same s2).wd w3).at_, hln, fun H4 t s4 _ d => q H4 t ((w2.trans w3).then s4) (d.imp (Nat.le_refl _) (Nat.le_refl _) fun _ h => h.1)⟩
    | cons x r =>
      refine iteT' rfl ?_
      have lp : (0 : Int) < ((x :: r).length : Int) := by rw [List.length_cons]; omega
      refine ⟨_, rfl, _, rfl, pg, _, rfl, .inl (SqL.of g1.at_), st, ((x :: r).length : Int), rfl, w1.w1, lp, ?_, fun H2 k w2 k0 k1 => ?_⟩
      · have h1 : ((x :: r).length : Int) ≤ 1000 := by omega
        exact lt4000 (by omega)
      obtain ⟨k, rfl, hk⟩ := nat_lt (n := (x :: r).length) k0 k1
      have g2 := g1.wd w2
      obtain ⟨a, ha, ia⟩ := pair_get g2.ps (List.getElem?_eq_getElem hk)
      have mem := g2.ok a (List.mem_of_getElem? ha)
      refine ⟨_, rfl, sz2, fun u nu => ⟨_, rfl, _, rfl, pg, _, _, _, rfl, rfl, SqL.of ((same_new nu) _ _ g2.at_), atI_nat (List.getElem?_eq_getElem hk), sz2, fun t nt => ?_⟩⟩
      have r1 := same_new (o := .tup [.str "use", .int (k : Nat)]) nu
      have r2 := same_new (o := .tup [.ref u, (x :: r)[k]]) nt
      have r12 := r1.trans r2
      exact q _ t ((w1.trans w2).then r12) ⟨.ref u, (x :: r)[k], .use (k : Nat), a, .inl (.inl upd_same), .use (.inl (.inl (r2 _ _ upd_same))), ia.same r12, .use ha, by show 1 ≤ 5; omega, by show 0 ≤ 2; omega, True.intro, mem.2, mem.1⟩
/-! ### _law_never -/
theorem ok_law_never (T : Txt w K mg) (c__law_draw : Cl P w K mg base 1 "_law_draw" (sp_draw K)) {n : Nat} (c__law_shaped : Cl P w K mg base (30 + 6 * n) "_law_shaped" (sp_law_shaped K BK n)) : Cl P w K mg base (36 + 6 * n) "_law_never" (sp_law_never K BK (n + 1)) := by
  refine Cl.mono (j := 35 + 6 * n + 1) (T.d_law_never.ok (k := 35 + 6 * n) sc_law_never (fun vs H Q E h => ?_) (fun f cdv A outer s H vs Q E hr h => ?_)) (by omega)
  · obtain ⟨st, pg, gs, g, f, rfl, _⟩ := h
    rfl
  · obtain ⟨st, pg, gs, g, m, rfl, hw, hg, hm, hl, q0, q⟩ := h
    refine ⟨_, (pss_cons (ps_setLc (i := 4) (own := [("_law_k", 8), ("_law_a", 3)]) rfl sc_law_never.nd rfl rfl (sw_true rfl rfl rfl (by decide +kernel)) (pi_enum rfl T.n_enumerate (pa_cons (pv 1) pa_nil)) (blkOk_by (N := sc_law_neverN) (sc := defScope s_law_never) (by decide +kernel)) (fun _ _ _ _ _ => (pg_tupK (K := K) (n := 2) rfl (pgs_cons (pg_name (i := 8) sc_law_never.nd rfl (Or.inl rfl)) (pgs_cons (pg_name (i := 3) sc_law_never.nd rfl (Or.inl rfl)) pgs_nil)))) (fun _ _ _ _ _ => (pts_one (pt_cmpR (r := rEqE K) (op_eqE hr.units) (pv 3) (pe_tup (pa_cons pe_str pa_nil)) (nomark _)))) (fun _ _ _ _ _ => (pv 8)))
    (pss_cons (ps_if (pt_cmpR (r := rEqE K) (op_eqE hr.units) (pv 4) (pe_lst pa_nil) (nomark _))
      (pss_one (ps_ret pe_non))
      pss_nil)
    (pss_cons (ps_set (i := 5) sc_law_never.nd rfl (Or.inl rfl) (pe_tup (pa_cons pe_str (pa_cons (pe_ix (r := rIxL K) ix_list (pv 4) (pe_k c__law_draw hr (by omega) rfl (pa_cons (pv 0) (pa_cons (pe_callB (r := rLenK K) call_len_seq rfl T.n_len (by decide +kernel) (pa_cons (pv 4) pa_nil)) pa_nil))) (fun _ _ => rfl)) pa_nil))))
    (pss_cons (ps_set (i := 6) sc_law_never.nd rfl (Or.inl rfl) (pe_k c__law_draw hr (by omega) rfl (pa_cons (pv 0) (pa_cons pe_int pa_nil))))
    (pss_cons (ps_if (PW.pt (pw_or (pt_cmpR op_eq (pv 6) pe_int (nomark _)) (pw_or1 (pt_cmpR op_eq (pv 2) pe_int (nomark _)))))
      (pss_one (ps_ret (pv 5)))
      pss_nil)
    (pss_cons (ps_if (pt_cmpR op_eq (pv 6) pe_int (nomark _))
      (pss_one (ps_ret (pe_tup (pa_cons pe_str (pa_cons (pv 5) (pa_cons (pe_tup (pa_cons pe_str pa_nil)) pa_nil))))))
      pss_nil)
    (pss_cons (ps_asg (pe_k c__law_shaped hr (by omega) rfl (pa_cons (pv 0) (pa_cons (pv 1) (pa_cons (pe_op op_sub (pv 2) pe_int) (pa_cons pe_str pa_nil))))) (pg_tup rfl (pgs_cons (pg_name (i := 7) sc_law_never.nd rfl (Or.inl rfl)) (pgs_cons (pg_name (i := 3) sc_law_never.nd rfl (Or.inl rfl)) pgs_nil))))
    (pss_one (ps_ret (pe_tup (pa_cons pe_str (pa_cons (pv 7) (pa_cons (pv 5) (pa_cons (pv 5) (pa_cons (pe_tup (pa_cons pe_str pa_nil)) pa_nil))))))))))))))), ?_⟩
    let c : Nat → Bool := fun k => decide (g[k]? = some Sm.nv)
    refine ⟨_, rfl, pg, gs, rfl, SqL.of hg.at_, fun D nD => ?_⟩
    have nDs : D ≠ st := Wd.ne hw nD
    have hln := hg.ln
    refine lc_it (walk_enum (K := K) (a := pg) (xs := gs)) (fun i H3 => H3 D = some (.lst ((selN c i).map fun k => V.int (k : Nat))) ∧ Same H H3) ?_ ?_ ?_ ?_
    · exact ⟨upd_same, same_new nD⟩
    · rintro i H3 _ ⟨_, s3⟩
      exact SqL.of (s3 _ _ hg.at_)
    · rintro i x H3 H4 hi ⟨hD, s3⟩ ⟨t, x0, y0, rfl, nt, rfl, hx0, hy0⟩
      have e0 := Option.some.inj hx0
      subst e0
      obtain ⟨a, ha, ia⟩ := pair_get hg.ps hy0
      have st4 := same_new (o := .tup [.int (i : Nat), y0]) nt
      have ht4 : (upd H3 t (.tup [V.int (i : Nat), y0])) t = some (.tup [.int (i : Nat), y0]) := upd_same
      have hD4 := st4 _ _ hD
      generalize upd H3 t (.tup [.int (i : Nat), y0]) = H4 at st4 ht4 hD4 ⊢
      have s4 := s3.trans st4
      have mem := hg.ok a (List.mem_of_getElem? ha)
      refine ⟨t, _, rfl, .inl (.inl ht4), rfl, _, _, rfl, _, _, rfl, rfl, rfl, ?_⟩
      refine ⟨_, rfl, sz1, fun u nu => ?_⟩
      have s5 := same_new (o := .tup [.str "never"]) nu
      have iu : IsSm K (upd H4 u (.tup [.str "never"])) (.ref u) .nv := .nv (.inl (.inl upd_same))
      have hD5 := s5 _ _ hD4
      have ia5 := (ia.same s4).same s5
      generalize upd H4 u (.tup [.str "never"]) = H5 at s5 iu hD5 ia5 ⊢
      have s15 := s4.trans s5
      refine ⟨_, _, ia5.dp, iu.dp, Sm.lay mem.2, Sm.lay (s := .nv) True.intro, ?_, ?_⟩
      · have h1 := (Sm.nv).depth_dp
        exact Nat.le_trans (Nat.min_le_right _ _) (Nat.le_trans h1 (by decide))
      rw [Sm.eqv]
      have ec : decide (a = Sm.nv) = c i := by
        show _ = decide (g[i]? = some Sm.nv)
        rw [ha]
        exact decide_eq_decide.mpr ⟨fun h => by rw [h], fun h => Option.some.inj h⟩
      rw [ec]
      cases ec : c i with
      | true =>
        refine ⟨_, rfl, iteT ⟨_, rfl, _, hD5, ?_, ?_, same_put s15 nD⟩⟩
        · rw [List.length_map]
          have := len_selN c i
          exact small (by omega)
        · rw [upd_same, selN_succ, if_pos ec, List.map_append]
          rfl
      | false =>
        refine ⟨_, rfl, iteF ⟨?_, s15⟩⟩
        rw [selN_succ, if_neg (by rw [ec]; exact Bool.false_ne_true)]
        exact hD5
    rintro H1 ⟨hD, s1⟩
    have w1 := Wd.of hw s1
    have g1 := hg.wd w1
    have mks : ∀ k ∈ selN c gs.length, g[k]? = some Sm.nv := fun k hk => of_decide_eq_true (mem_selN.mp hk).2
    have lks := len_selN c gs.length
    have eks : selN c gs.length = [] → Sm.nv ∉ g := fun e hm => by
      obtain ⟨k, hk, ek⟩ := List.getElem_of_mem hm
      have h1 : k ∈ selN c gs.length := mem_selN.mpr ⟨by omega, decide_eq_true (by rw [List.getElem?_eq_getElem hk, ek])⟩
      rw [e] at h1
      cases h1
    generalize selN c gs.length = ks at hD mks lks eks
    rw [ints_natN] at hD
    refine eq_nil (vl_var rfl) (SqL.of hD) (dpAll_ints _) (lay_ints _) (fun p np => ⟨_, rfl, ?_⟩)
    have s2 : Same H1 (upd H1 p (.lst [])) := same_new np
    have hD2 := s2 _ _ hD
    generalize upd H1 p (.lst []) = H2 at s2 hD2 ⊢
    have w2 := w1.then s2
    cases ks with
    | nil => exact iteT' rfl (q0 (eks rfl) H2 w2)
    | cons k0 kr =>
      refine iteF' rfl ?_
      have hD2 : H2 D = some (.lst ((((k0 :: kr).map fun k => ((k : Nat) : Int))).map V.int)) := hD2
      generalize ekl : k0 :: kr = kl at hD2 mks lks
      have lp : (0 : Int) < ((((kl.map fun k => ((k : Nat) : Int))).map V.int).length : Int) := by rw [List.length_map, List.length_map, ← ekl, List.length_cons]; omega
      refine ⟨_, rfl, _, rfl, _, rfl, D, _, rfl, .inl (SqL.of hD2), st, _, rfl, w2.w1, lp, lt4000 (by rw [List.length_map, List.length_map]; omega), fun H3 z w3 z0 z1 => ?_⟩
      rw [List.length_map, List.length_map] at z1
      obtain ⟨k, rfl, hk⟩ := nat_lt (n := kl.length) z0 z1
      have hD3 := w3.bt _ _ nDs hD2
      have hkl : kl[k]? = some kl[k] := List.getElem?_eq_getElem hk
      have mk := mks _ (List.mem_of_getElem? hkl)
      have hix : (((kl.map fun k => ((k : Nat) : Int))).map V.int)[k]? = some (.int ((kl[k] : Nat) : Int)) := by
        rw [List.map_map, List.getElem?_map, hkl]
        rfl
      refine ⟨D, _, _, _, rfl, rfl, SqL.of hD3, atI_nat hix, sz2, fun u nu => ?_⟩
      have s4 : Same H3 (upd H3 u (.tup [.str "use", .int (kl[k] : Nat)])) := same_new nu
      have hu : (upd H3 u (.tup [V.str "use", .int (kl[k] : Nat)])) u = some (.tup [.str "use", .int (kl[k] : Nat)]) := upd_same
      generalize upd H3 u (.tup [.str "use", .int (kl[k] : Nat)]) = H4 at s4 hu ⊢
      have w4 := (w2.trans w3).then s4
      have iu : IsPp K H4 (.ref u) (.use (kl[k] : Nat)) := .use (.inl (.inl hu))
      have tu : Ty BK g (.use (kl[k] : Nat)) .nv := .use mk
      have b12 := nB_5 m
      refine ⟨_, rfl, st, 3, rfl, w4.w1, by decide, by decide, fun H5 r w5 r0 r1 => ?_⟩
      have w15 := w4.trans w5
      have iu5 := iu.tk w5.tk
      have one : Q (.ref u) H5 := q H5 (.ref u) _ w15 iu5 tu (by show 1 ≤ nB m; omega) (Nat.zero_le _) True.intro
      refine ⟨_, rfl, rfl, _, rfl, ite2 (fun _ => iteT ⟨_, rfl, one⟩) (fun _ => ?_)⟩
      refine ⟨_, rfl, rfl, _, rfl, ite2 (fun _ => ⟨_, rfl, one⟩) (fun hf => ?_)⟩
      obtain ⟨f', rfl⟩ : ∃ f', m = f' + 1 := ⟨m - 1, by
        have : ¬ m = 0 := fun z => hf (decide_eq_true (by rw [z]; rfl))
        omega⟩
      have wS : nB (f' + 1) = 3 * nB f' + 9 := rfl
      have hS : hB (f' + 1) = hB f' + 3 := by unfold hB; omega
      refine ⟨_, rfl, rfl, _, rfl, ite2 (fun _ => ?_) (fun _ => ?_)⟩
      · refine ⟨_, rfl, sz1, fun n1 nn1 => ⟨sz3, fun t nt => ?_⟩⟩
        have r1 := same_new (o := .tup [.str "never"]) nn1
        have r2 := same_new (o := .tup [.str "escape", .ref u, .ref n1]) nt
        have r12 := r1.trans r2
        exact q _ (.ref t) _ (w15.then r12) (.escape (.inl (.inl upd_same)) (iu5.same r12) (.nv (.inl (.inl (r2 _ _ upd_same))))) (.escape tu) (by show 1 + 1 ≤ _; omega) (by show 0 + 1 ≤ _; omega) ⟨True.intro, ⟨Nat.zero_le _, True.intro⟩⟩
      refine ⟨_, rfl, _, rfl, _, rfl, _, _, rfl, rfl, st, pg, gs, g, f', .or, ?_, w5.w1, hg.wd w15, by omega, by omega, fun H6 t w6 d => ?_⟩
      · show [V.ref st, V.ref pg, V.int (((f' + 1 : Nat) : Int) - 1), V.str "or"] = _
        rw [show ((f' + 1 : Nat) : Int) - 1 = (f' : Int) by omega]
        rfl
      obtain ⟨vh, va, p, a, hT, ip, ia, hty, hW, hh, hb, hc, hj, x, y, rfl⟩ := d
      refine ⟨t, _, rfl, hT, rfl, _, _, rfl, _, _, rfl, rfl, ?_⟩
      refine ⟨_, rfl, _, rfl, _, rfl, sz1, fun n1 nn1 => ⟨(by show 5 ≤ sizeLine; decide), fun t2 nt2 => ?_⟩⟩
      have r1 := same_new (o := .tup [.str "never"]) nn1
      have r2 := same_new (o := .tup [.str "case", vh, .ref u, .ref u, .ref n1]) nt2
      have r12 := r1.trans r2
      have iu6 := (iu5.tk w6.tk).same r12
      have tux : ∀ z : Sm, Ty BK (g ++ [z]) (.use (kl[k] : Nat)) .nv := fun z => .use (by rw [List.getElem?_append_left (List.getElem?_eq_some_iff.mp mk).1]; exact mk)
      exact q _ (.ref t2) _ ((w15.trans w6).then r12) (.case (.inl (.inl upd_same)) (ip.same r12) iu6 iu6 (.nv (.inl (.inl (r2 _ _ upd_same))))) (.case hty (tux x) (tux y)) (by show p.nn + 1 + 1 + 1 ≤ _; omega) (by show max p.ht (max 0 0) + 1 ≤ _; omega) ⟨hb, True.intro, True.intro, ⟨Nat.zero_le _, True.intro⟩⟩
/-! ### _law_arms -/
set_option maxHeartbeats 2000000 in
theorem ok_law_arms (T : Txt w K mg) {n : Nat} (c__law_grown : Cl P w K mg base (31 + 6 * n) "_law_grown" (sp_law_grown K BK n)) : Cl P w K mg base (32 + 6 * n) "_law_arms" (sp_law_arms K BK n) := by
  refine Cl.mono (j := 31 + 6 * n + 1) (T.d_law_arms.ok (k := 31 + 6 * n) sc_law_arms (fun vs H Q E h => ?_) (fun f cdv A outer s H vs Q E hr h => ?_)) (by omega)
  · obtain ⟨st, pg, gs, g, f, t0, j, ve, e, W0, h0, p0, rfl, _⟩ := h
    rfl
  · obtain ⟨st, pg, gs, g, m, t0, j, ve, e, W0, h0, p0, rfl, hw, hg, hm, hl, d0, ie, je, ce, q⟩ := h
    refine ⟨_, (pss_cons (ps_asg (pv 3) (pg_tup rfl (pgs_cons (pg_name (i := 6) sc_law_arms.nd rfl (Or.inl rfl)) (pgs_cons (pg_name (i := 7) sc_law_arms.nd rfl (Or.inl rfl)) pgs_nil))))
    (pss_cons (ps_set (i := 8) sc_law_arms.nd rfl (Or.inl rfl) (pe_op op_rep (pe_lst (pa_cons (pv 5) pa_nil)) (pe_callTy call_int1 rfl T.n_int (by decide +kernel) (pa_cons (pe_cmpR op_eq (pv 4) pe_str (nomark _)) pa_nil))))
    (pss_cons (ps_asg (pe_k c__law_grown hr (by omega) rfl (pa_cons (pv 0) (pa_cons (pe_op op_cat (pe_op op_cat (pv 1) (pe_lst (pa_cons (pe_ix (r := rIxT K) ix_tup (pv 7) pe_int (fun _ _ => rfl)) pa_nil))) (pv 8)) (pa_cons (pv 2) pa_nil)))) (pg_tup rfl (pgs_cons (pg_name (i := 9) sc_law_arms.nd rfl (Or.inl rfl)) (pgs_cons (pg_name (i := 10) sc_law_arms.nd rfl (Or.inl rfl)) pgs_nil))))
    (pss_cons (ps_asg (pe_k c__law_grown hr (by omega) rfl (pa_cons (pv 0) (pa_cons (pe_op op_cat (pe_op op_cat (pv 1) (pe_lst (pa_cons (pe_ix (r := rIxT K) ix_tup (pv 7) pe_int (fun _ _ => rfl)) pa_nil))) (pv 8)) (pa_cons (pv 2) pa_nil)))) (pg_tup rfl (pgs_cons (pg_name (i := 11) sc_law_arms.nd rfl (Or.inl rfl)) (pgs_cons (pg_name (i := 12) sc_law_arms.nd rfl (Or.inl rfl)) pgs_nil))))
    (pss_cons (ps_set (i := 13) sc_law_arms.nd rfl (Or.inl rfl) (pe_lst (pa_cons (pe_tup (pa_cons pe_str (pa_cons (pv 9) (pa_cons (pv 12) pa_nil)))) (pa_cons (pe_tup (pa_cons pe_str (pa_cons (pv 10) (pa_cons (pv 11) pa_nil)))) pa_nil))))
    (pss_cons (ps_set (i := 14) sc_law_arms.nd rfl (Or.inl rfl) (pe_tup (pa_cons pe_str (pa_cons (pv 10) (pa_cons (pv 12) pa_nil)))))
    (pss_cutO (ps_if (pt_cmpR op_eq (pv 4) pe_str (nomark _))
      (pss_cons (ps_set (i := 13) sc_law_arms.nd rfl (Or.inl rfl) (pe_lst (pa_cons (pe_tup (pa_cons pe_str (pa_cons (pv 5) (pa_cons (pe_ix (r := rIxL K) ix_list (pv 13) pe_int (fun _ _ => rfl)) pa_nil)))) (pa_cons (pe_tup (pa_cons pe_str (pa_cons (pv 5) (pa_cons (pe_ix (r := rIxL K) ix_list (pv 13) pe_int (fun _ _ => rfl)) pa_nil)))) pa_nil))))
        (pss_one (ps_set (i := 14) sc_law_arms.nd rfl (Or.inl rfl) (pe_tup (pa_cons pe_str (pa_cons (pv 5) (pa_cons (pv 14) pa_nil)))))))
      pss_nil)
    (pss_cutO (ps_if (pt_cmpR op_eq (pv 4) pe_str (nomark _))
      (pss_cons (ps_set (i := 15) sc_law_arms.nd rfl (Or.inl rfl) (pe_tup (pa_cons pe_str (pa_cons (pv 5) (pa_cons (pe_tup (pa_cons pe_str (pa_cons (pe_op op_add (pe_callB (r := rLenK K) call_len_seq rfl T.n_len (by decide +kernel) (pa_cons (pv 1) pa_nil)) pe_int) pa_nil))) pa_nil)))))
        (pss_cons (ps_set (i := 13) sc_law_arms.nd rfl (Or.inl rfl) (pe_lst (pa_cons (pe_tup (pa_cons pe_str (pa_cons (pe_ix (r := rIxL K) ix_list (pv 13) pe_int (fun _ _ => rfl)) (pa_cons (pv 15) pa_nil)))) (pa_cons (pe_tup (pa_cons pe_str (pa_cons (pe_ix (r := rIxL K) ix_list (pv 13) pe_int (fun _ _ => rfl)) (pa_cons (pv 15) pa_nil)))) pa_nil))))
        (pss_one (ps_set (i := 14) sc_law_arms.nd rfl (Or.inl rfl) (pe_tup (pa_cons pe_str (pa_cons (pv 14) (pa_cons (pe_tup (pa_cons pe_str (pa_cons (pv 5) (pa_cons (pv 5) pa_nil)))) pa_nil))))))))
      pss_nil)
    (pss_one (ps_ret (pe_tup (pa_cons (pe_tup (pa_cons pe_str (pa_cons (pv 6) (pa_cons (pe_ix (r := rIxL K) ix_list (pv 13) pe_int (fun _ _ => rfl)) (pa_cons (pe_ix (r := rIxL K) ix_list (pv 13) pe_int (fun _ _ => rfl)) (pa_cons (pv 14) pa_nil)))))) (pa_cons (pv 14) pa_nil))))))))))))), ?_⟩
    obtain ⟨vh, vo, o, hT0, ip0, io, ty0, hW0, hh0, hb0, hc0, x, y, rfl, jx, jy⟩ := d0
    have hln := hg.ln
    refine ⟨_, rfl, t0, _, rfl, hT0, rfl, _, _, rfl, _, _, rfl, rfl, ?_⟩
    cases io with
    | @bin ao _ vx vy _ _ hO ix iy =>
      have eb : decide (V.str j.s = V.str "then") = decide (j = .thn) := by cases j <;> decide +kernel
      refine ⟨_, rfl, sz1, fun p1 n1 => ⟨_, rfl, rfl, .inr ⟨_, rfl, p1, _, _, rfl, rfl, upd_same, ?_, ?_, ?_, fun pi npi => ?_⟩⟩⟩
      · split <;> decide
      · split <;> decide
      · exact small' (by split <;> simp)
      have s1 : Same H (upd H p1 (.lst [ve])) := same_new n1
      generalize upd H p1 (.lst [ve]) = H1 at s1 npi ⊢
      rw [show decide (V.str j.s = V.str (Str.ofString "then")) = decide (j = .thn) from eb]
      obtain ⟨inn, ii, ein, pin, lin, iin, tin, oin⟩ : ∃ (inn : List V) (ii : List Sm), (List.replicate (if decide (j = .thn) = true then (1 : Int) else 0).toNat [ve]).flatten = inn ∧ Paired (IsSm K H1) inn ii ∧ ii.length ≤ 1 ∧ (∀ s ∈ ii, s = e) ∧ (j = .thn → ii = [e]) ∧ (j ≠ .thn → ii = []) := by
        by_cases hj : j = .thn
        · exact ⟨[ve], [e], by rw [if_pos (decide_eq_true hj)]; rfl, .cons (ie.same s1) .nil, Nat.le_refl _, fun s hs => List.mem_singleton.mp hs, fun _ => rfl, fun z => absurd hj z⟩
        · exact ⟨[], [], by rw [if_neg (by rw [decide_eq_false hj]; exact Bool.false_ne_true)]; rfl, .nil, Nat.zero_le _, fun s hs => absurd hs List.not_mem_nil, fun z => absurd z hj, fun _ => rfl⟩
      rw [ein]
      have s2 : Same H1 (upd H1 pi (.lst inn)) := same_new npi
      have hpi : (upd H1 pi (.lst inn)) pi = some (.lst inn) := upd_same
      generalize upd H1 pi (.lst inn) = H2 at s2 hpi ⊢
      have s12 := s1.trans s2
      have w2 := Wd.of hw s12
      have nis : pi ≠ st := Wd.ne (Wd.of hw s1).w1 npi
      have pin2 : Paired (IsSm K H2) inn ii := pair_map (fun _ _ h => IsSm.same s2 h) pin
      have iiok : ∀ s ∈ ii, s.joints ≤ 24 ∧ s.In Ch := fun s hs => by rw [iin s hs]; exact ⟨je, ce⟩
      have lin2 := pair_len pin2
      -- the givens with one more, and what is assumed
      have more : ∀ {H0 : Hp} (z : Sm) (vz : V), Wd st H H0 → H0 pi = some (.lst inn) → Paired (IsSm K H0) inn ii → IsSm K H0 vz z → z.joints ≤ 24 → z.In Ch → ∀ pz p p2, H0 pz = none → (upd H0 pz (.lst [vz])) p = none → (upd (upd H0 pz (.lst [vz])) p (.lst (gs ++ [vz]))) p2 = none →
          Wd st H0 (upd (upd (upd H0 pz (.lst [vz])) p (.lst (gs ++ [vz]))) p2 (.lst (gs ++ [vz] ++ inn))) ∧ Gv K (upd (upd (upd H0 pz (.lst [vz])) p (.lst (gs ++ [vz]))) p2 (.lst (gs ++ [vz] ++ inn))) st p2 (gs ++ [vz] ++ inn) (g ++ [z] ++ ii) := by
        intro H0 z vz w0 hpi0 pin0 iz jz cz pz p p2 npz np np2
        have g0 := hg.wd w0
        have t1 : Same H0 (upd H0 pz (.lst [vz])) := same_new npz
        have t2 : Same (upd H0 pz (.lst [vz])) (upd (upd H0 pz (.lst [vz])) p (.lst (gs ++ [vz]))) := same_new np
        have t12 := t1.trans t2
        generalize upd (upd H0 pz (.lst [vz])) p (.lst (gs ++ [vz])) = H3 at t2 t12 np2 ⊢
        have t3 : Same H3 (upd H3 p2 (.lst (gs ++ [vz] ++ inn))) := same_new np2
        have hp2 : (upd H3 p2 (.lst (gs ++ [vz] ++ inn))) p2 = some (.lst (gs ++ [vz] ++ inn)) := upd_same
        have w3 := w0.then t12
        have n2s : p2 ≠ st := Wd.ne w3.w1 np2
        generalize upd H3 p2 (.lst (gs ++ [vz] ++ inn)) = H4 at t3 hp2 ⊢
        have t13 := t12.trans t3
        refine ⟨Wd.of w0.w1 t13, hp2, n2s, pair_app (pair_app (pair_map (fun _ _ h => IsSm.same t13 h) g0.ps) (.cons (iz.same t13) .nil)) (pair_map (fun _ _ h => IsSm.same t13 h) pin0), fun s hs => ?_⟩
        rcases List.mem_append.mp hs with hs | hs
        · rcases List.mem_append.mp hs with hs | hs
          · exact hg.ok s hs
          · rw [List.mem_singleton.mp hs]
            exact ⟨jz, cz⟩
        · exact iiok s hs
      have lgi : ∀ z : Sm, (g ++ [z] ++ ii).length + 4 * m ≤ 1000 := fun z => by
        rw [List.length_append, List.length_append, List.length_singleton]
        omega
      have hO2 := seqT s12 hO
      have ix2 := ix.same s12
      have iy2 := iy.same s12
      refine ⟨_, rfl, _, rfl, _, rfl, ao, _, _, _, rfl, rfl, hO2, at1, sz1, fun pz npz => ⟨pg, pz, gs, [vx], rfl, rfl, (same_new npz) _ _ (hg.wd w2).at_, upd_same, small' (by rw [List.length_singleton]; omega), fun pp npp => ⟨_, rfl, pp, pi, _, _, rfl, rfl, upd_same, (same_new npp) _ _ ((same_new npz) _ _ hpi), small' (by rw [List.length_append, List.length_singleton]; omega), fun p2 np2 => ⟨_, rfl, ?_⟩⟩⟩⟩
      obtain ⟨wa, ga⟩ := more x vx w2 hpi pin2 ix2 (by omega) hc0.1 pz pp p2 npz npp np2
      generalize upd (upd (upd H2 pz (.lst [vx])) pp (.lst (gs ++ [vx]))) p2 (.lst (gs ++ [vx] ++ inn)) = H3 at wa ga ⊢
      refine ⟨st, p2, _, _, m, rfl, wa.w1, ga, hm, lgi x, fun H4 t1 w4 d1 => ?_⟩
      obtain ⟨v1, vl, q1, l, hT1, ip1, il, ty1, hW1, hh1, hb1, cl, jl⟩ := d1
      have jl : l.joints ≤ 24 := jl
      refine ⟨t1, _, rfl, hT1, rfl, _, _, rfl, _, _, rfl, rfl, ?_⟩
      have w24 := wa.trans w4
      have w04 := w2.trans w24
      have hpi4 := w24.bt _ _ nis hpi
      have pin4 : Paired (IsSm K H4) inn ii := pair_map (fun _ _ h => IsSm.tk w24.tk h) pin2
      have hO4 := w24.tk _ _ hO2
      refine ⟨_, rfl, _, rfl, _, rfl, ao, _, _, _, rfl, rfl, hO4, at2, sz1, fun pz npz => ⟨pg, pz, gs, [vy], rfl, rfl, (same_new npz) _ _ (hg.wd w04).at_, upd_same, small' (by rw [List.length_singleton]; omega), fun pp npp => ⟨_, rfl, pp, pi, _, _, rfl, rfl, upd_same, (same_new npp) _ _ ((same_new npz) _ _ hpi4), small' (by rw [List.length_append, List.length_singleton]; omega), fun p2 np2 => ⟨_, rfl, ?_⟩⟩⟩⟩
      obtain ⟨wb, gb⟩ := more y vy w04 hpi4 pin4 (iy2.tk w24.tk) (by omega) hc0.2 pz pp p2 npz npp np2
      generalize upd (upd (upd H4 pz (.lst [vy])) pp (.lst (gs ++ [vy]))) p2 (.lst (gs ++ [vy] ++ inn)) = H5 at wb gb ⊢
      refine ⟨st, p2, _, _, m, rfl, wb.w1, gb, hm, lgi y, fun H6 t2 w6 d2 => ?_⟩
      obtain ⟨v2, vr, q2, r, hT2, ip2, ir, ty2, hW2, hh2, hb2, cr, jr⟩ := d2
      have jr : r.joints ≤ 24 := jr
      refine ⟨t2, _, rfl, hT2, rfl, _, _, rfl, _, _, rfl, rfl, ?_⟩
      have w46 := wb.trans w6
      have w06 := w04.trans w46
      have ip1 := ip1.tk w46.tk
      have il := il.tk w46.tk
      have ie6 := ie.tk w06.tk
      have ip06 := ip0.tk w06.tk
      refine ⟨_, rfl, _, rfl, sz3, fun a1 n1 => ⟨_, rfl, _, rfl, sz3, fun a2 n2 => ⟨sz2, fun la nla => ⟨_, rfl, _, rfl, sz3, fun a3 n3 => ?_⟩⟩⟩⟩
      have r1 := same_new (o := .tup [.str "left", v1, vr]) n1
      have r2 := same_new (o := .tup [.str "right", vl, v2]) n2
      have r3 := same_new (o := .lst [.ref a1, .ref a2]) nla
      have r4 := same_new (o := .tup [.str "or", vl, vr]) n3
      have r34 := r3.trans r4
      have r24 := r2.trans r34
      have r14 := r1.trans r24
      have iL : IsPp K (upd (upd (upd (upd H6 a1 (.tup [.str "left", v1, vr])) a2 (.tup [.str "right", vl, v2])) la (.lst [.ref a1, .ref a2])) a3 (.tup [.str "or", vl, vr])) (.ref a1) (.left q1 r) := .left (.inl (.inl (r24 _ _ upd_same))) (ip1.same r14) (ir.same r14)
      have iR : IsPp K (upd (upd (upd (upd H6 a1 (.tup [.str "left", v1, vr])) a2 (.tup [.str "right", vl, v2])) la (.lst [.ref a1, .ref a2])) a3 (.tup [.str "or", vl, vr])) (.ref a2) (.right l q2) := .right (.inl (.inl (r34 _ _ upd_same))) (ip2.same r14) (il.same r14)
      have iC : IsSm K (upd (upd (upd (upd H6 a1 (.tup [.str "left", v1, vr])) a2 (.tup [.str "right", vl, v2])) la (.lst [.ref a1, .ref a2])) a3 (.tup [.str "or", vl, vr])) (.ref a3) (.bin .or l r) := .bin (.inl (.inl upd_same)) (il.same r14) (ir.same r14)
      have hla : (upd (upd (upd (upd H6 a1 (.tup [.str "left", v1, vr])) a2 (.tup [.str "right", vl, v2])) la (.lst [.ref a1, .ref a2])) a3 (.tup [.str "or", vl, vr])) la = some (.lst [.ref a1, .ref a2]) := r4 _ _ upd_same
      generalize upd (upd (upd (upd H6 a1 (.tup [.str "left", v1, vr])) a2 (.tup [.str "right", vl, v2])) la (.lst [.ref a1, .ref a2])) a3 (.tup [.str "or", vl, vr]) = H7 at r14 iL iR iC hla ⊢
      have ie7 := ie6.same r14
      have dl := Nat.le_trans l.dp_joints jl
      have dr := Nat.le_trans r.dp_joints jr
      have de := Nat.le_trans e.dp_joints je
      have bL : (Pp.left q1 r).Bd 30 := ⟨hb1, ⟨by omega, cr⟩⟩
      have bR : (Pp.right l q2).Bd 30 := ⟨hb2, ⟨by omega, cl⟩⟩
      have be : e.Bd 30 := ⟨by omega, ce⟩
      have tL : Ty BK (g ++ [x] ++ ii) (.left q1 r) (.bin .or l r) := .left ty1
      have tR : Ty BK (g ++ [y] ++ ii) (.right l q2) (.bin .or l r) := .right ty2
      have wL : (Pp.left q1 r).nn ≤ nB m + 1 := by show q1.nn + 1 ≤ _; omega
      have wR : (Pp.right l q2).nn ≤ nB m + 1 := by show q2.nn + 1 ≤ _; omega
      have hL : (Pp.left q1 r).ht ≤ hB m + 1 := by show q1.ht + 1 ≤ _; omega
      have hR : (Pp.right l q2).ht ≤ hB m + 1 := by show q2.ht + 1 ≤ _; omega
      have dC : (Sm.bin J.or l r).dp ≤ 25 := by show max l.dp r.dp + 1 ≤ 25; omega
      generalize Pp.left q1 r = p1 at iL bL tL wL hL
      generalize Pp.right l q2 = p2' at iR bR tR wR hR
      refine ⟨fun σ' H' => ∃ (la : Addr) (u1 u2 vc : V) (r1 r2 : Pp) (c : Sm), σ' = [some (.ref st), some (.ref pg), some (.int (m : Nat)), some (.ref t0), some (.str j.s), some ve, some vh, some (.ref ao), some (.ref pi), some v1, some vl, some v2, some vr, some (.ref la), some vc, none] ∧ Same H7 H' ∧ H' la = some (.lst [u1, u2]) ∧ IsPp K H' u1 r1 ∧ IsPp K H' u2 r2 ∧ IsSm K H' vc c ∧ Ty BK (g ++ [x]) r1 c ∧ Ty BK (g ++ [y]) r2 c ∧ r1.nn ≤ nB m + 2 ∧ r2.nn ≤ nB m + 2 ∧ r1.ht ≤ hB m + 2 ∧ r2.ht ≤ hB m + 2 ∧ r1.Bd 30 ∧ r2.Bd 30 ∧ c.In Ch ∧ c.dp ≤ 26 ∧ (j = .thn → ∃ z, c = .bin .thn e z) ∧ (j ≠ .thn → c.dp ≤ 25 ∧ (∃ a b, c = .bin .or a b ∧ a.joints ≤ 24 ∧ b.joints ≤ 24) ∧ r1.nn ≤ nB m + 1 ∧ r2.nn ≤ nB m + 1 ∧ r1.ht ≤ hB m + 1 ∧ r2.ht ≤ hB m + 1), ?_, fun σ' H' hm1 => ?_⟩
      · by_cases hj : j = .thn
        · subst hj
          have ei := tin rfl
          subst ei
          refine ⟨_, rfl, rfl, _, rfl, iteT' (by decide +kernel) ?_⟩
          refine ⟨_, rfl, _, rfl, la, _, _, _, rfl, rfl, SqL.of hla, at0, sz3, fun b1 nb1 => ⟨_, rfl, _, rfl, la, _, _, _, rfl, rfl, SqL.of ((same_new nb1) _ _ hla), at1, sz3, fun b2 nb2 => ⟨sz2, fun lb nlb => ⟨_, rfl, _, rfl, sz3, fun b3 nb3 => ?_⟩⟩⟩⟩
          have u1 := same_new (o := .tup [.str "make", ve, .ref a1]) nb1
          have u2 := same_new (o := .tup [.str "make", ve, .ref a2]) nb2
          have u3 := same_new (o := .lst [.ref b1, .ref b2]) nlb
          have u4 := same_new (o := .tup [.str "then", ve, .ref a3]) nb3
          have u34 := u3.trans u4
          have u24 := u2.trans u34
          have u14 := u1.trans u24
          exact ⟨lb, .ref b1, .ref b2, .ref b3, .make e p1, .make e p2', .bin .thn e (.bin .or l r), rfl, u14, u4 _ _ upd_same, .make (.inl (.inl (u24 _ _ upd_same))) (iL.same u14) (ie7.same u14), .make (.inl (.inl (u34 _ _ upd_same))) (iR.same u14) (ie7.same u14), .bin (.inl (.inl upd_same)) (ie7.same u14) (iC.same u14), .make tL, .make tR, by show p1.nn + 1 ≤ _; omega, by show p2'.nn + 1 ≤ _; omega, by show p1.ht + 1 ≤ _; omega, by show p2'.ht + 1 ≤ _; omega, ⟨bL, be⟩, ⟨bR, be⟩, ⟨ce, cl, cr⟩, by show max e.dp (Sm.bin J.or l r).dp + 1 ≤ 26; omega, fun _ => ⟨_, rfl⟩, fun z => absurd rfl z⟩
        · have ei := oin hj
          subst ei
          rw [List.append_nil] at tL tR
          refine ⟨_, rfl, rfl, _, rfl, iteF' (by rw [show decide (V.str j.s = V.str "then") = decide (j = .thn) from eb]; exact decide_eq_false hj) ?_⟩
          exact ⟨la, .ref a1, .ref a2, .ref a3, p1, p2', .bin .or l r, rfl, Same.refl _, hla, iL, iR, iC, tL, tR, by omega, by omega, by omega, by omega, bL, bR, ⟨cl, cr⟩, by omega, fun z => absurd z hj, fun _ => ⟨dC, ⟨_, _, rfl, jl, jr⟩, wL, wR, hL, hR⟩⟩
      obtain ⟨la, u1, u2, vc, r1, r2, c, rfl, s7, hla, i1, i2, ic, t1, t2, w1, w2, h1, h2, b1, b2, cc, dc, ct, co⟩ := hm1
      have w07 : Wd st H H' := w06.then (r14.trans s7)
      have g7 := hg.wd w07
      have ie8 := ie7.same s7
      refine ⟨fun σ' H'' => ∃ (la : Addr) (u1 u2 vc : V) (y15 : Option V) (r1 r2 : Pp) (c : Sm), σ' = [some (.ref st), some (.ref pg), some (.int (m : Nat)), some (.ref t0), some (.str j.s), some ve, some vh, some (.ref ao), some (.ref pi), some v1, some vl, some v2, some vr, some (.ref la), some vc, y15] ∧ Same H' H'' ∧ H'' la = some (.lst [u1, u2]) ∧ IsPp K H'' u1 r1 ∧ IsPp K H'' u2 r2 ∧ IsSm K H'' vc c ∧ Ty BK (g ++ [x]) r1 c ∧ Ty BK (g ++ [y]) r2 c ∧ r1.nn ≤ nB m + 4 ∧ r2.nn ≤ nB m + 4 ∧ r1.ht ≤ hB m + 2 ∧ r2.ht ≤ hB m + 2 ∧ r1.Bd 30 ∧ r2.Bd 30 ∧ c.In Ch ∧ RA j e c, ?_, fun σ' H'' hm2 => ?_⟩
      · by_cases hj : j = .and
        · subst hj
          obtain ⟨dc5, ⟨ca, cb, rfl, _, _⟩, w1', w2', h1', h2'⟩ := co (fun z => nomatch z)
          refine ⟨_, rfl, rfl, _, rfl, iteT' (by decide +kernel) ?_⟩
          refine ⟨_, rfl, _, rfl, pg, gs, rfl, .inl (SqL.of g7.at_), _, _, rfl, rfl, sz2, fun c1 nc1 => ⟨sz3, fun c2 nc2 => ?_⟩⟩
          have k1 := same_new (o := .tup [.str "use", .int ((gs.length : Int) + 1)]) nc1
          have k2 := same_new (o := .tup [.str "make", ve, .ref c1]) nc2
          have k12 := k1.trans k2
          have iM : IsPp K (upd (upd H' c1 (.tup [.str "use", .int ((gs.length : Int) + 1)])) c2 (.tup [.str "make", ve, .ref c1])) (.ref c2) (.make e (.use ((g.length + 1 : Nat) : Int))) := .make (.inl (.inl upd_same)) (.use (.inl (.inl (by
            rw [show ((g.length + 1 : Nat) : Int) = (gs.length : Int) + 1 by omega]
            exact k2 _ _ upd_same)))) (ie8.same k12)
          generalize upd (upd H' c1 (.tup [V.str "use", .int ((gs.length : Int) + 1)])) c2 (.tup [.str "make", ve, .ref c1]) = H8 at k12 iM ⊢
          have tM : ∀ z : Sm, Ty BK (g ++ [z]) (.make e (.use ((g.length + 1 : Nat) : Int))) (.bin .thn e e) := fun z => .make (.use (by
            rw [List.append_assoc, List.getElem?_append_right (by omega), show g.length + 1 - g.length = 1 by omega]
            rfl))
          have i18 := i1.same k12
          have i28 := i2.same k12
          have ic8 := ic.same k12
          have ie9 := ie8.same k12
          have hla8 := k12 _ _ hla
          refine ⟨_, rfl, la, _, _, _, rfl, rfl, SqL.of hla8, at0, _, rfl, sz3, fun c3 nc3 => ⟨_, rfl, la, _, _, _, rfl, rfl, SqL.of ((same_new nc3) _ _ hla8), at1, _, rfl, sz3, fun c4 nc4 => ⟨sz2, fun lb nlb => ?_⟩⟩⟩
          have k3 := same_new (o := .tup [.str "pair", u1, .ref c2]) nc3
          have k4 := same_new (o := .tup [.str "pair", u2, .ref c2]) nc4
          have k5 := same_new (o := .lst [.ref c3, .ref c4]) nlb
          have k45 := k4.trans k5
          have k35 := k3.trans k45
          have iA : IsPp K (upd (upd (upd H8 c3 (.tup [.str "pair", u1, .ref c2])) c4 (.tup [.str "pair", u2, .ref c2])) lb (.lst [.ref c3, .ref c4])) (.ref c3) (.pair r1 (.make e (.use ((g.length + 1 : Nat) : Int)))) := .pair (.inl (.inl (k45 _ _ upd_same))) (i18.same k35) (iM.same k35)
          have iB : IsPp K (upd (upd (upd H8 c3 (.tup [.str "pair", u1, .ref c2])) c4 (.tup [.str "pair", u2, .ref c2])) lb (.lst [.ref c3, .ref c4])) (.ref c4) (.pair r2 (.make e (.use ((g.length + 1 : Nat) : Int)))) := .pair (.inl (.inl (k5 _ _ upd_same))) (i28.same k35) (iM.same k35)
          have hlb : (upd (upd (upd H8 c3 (.tup [.str "pair", u1, .ref c2])) c4 (.tup [.str "pair", u2, .ref c2])) lb (.lst [.ref c3, .ref c4])) lb = some (.lst [.ref c3, .ref c4]) := upd_same
          generalize upd (upd (upd H8 c3 (.tup [V.str "pair", u1, .ref c2])) c4 (.tup [.str "pair", u2, .ref c2])) lb (.lst [.ref c3, .ref c4]) = H9 at k35 iA iB hlb ⊢
          refine ⟨_, rfl, _, rfl, _, rfl, sz3, fun c5 nc5 => ⟨sz3, fun c6 nc6 => ?_⟩⟩
          have k6 := same_new (o := .tup [.str "then", ve, ve]) nc5
          have k7 := same_new (o := .tup [.str "and", vc, .ref c5]) nc6
          have k67 := k6.trans k7
          have ie10 := ie9.same (k35.trans k67)
          exact ⟨lb, .ref c3, .ref c4, .ref c6, _, _, _, _, rfl, (k12.trans k35).trans k67, k67 _ _ hlb, iA.same k67, iB.same k67, .bin (.inl (.inl upd_same)) ((ic8.same k35).same k67) (.bin (.inl (.inl (k7 _ _ upd_same))) ie10 ie10), .pair t1 (tM x), .pair t2 (tM y), by show r1.nn + (1 + 1) + 1 ≤ _; omega, by show r2.nn + (1 + 1) + 1 ≤ _; omega, by show max r1.ht (0 + 1) + 1 ≤ _; omega, by show max r2.ht (0 + 1) + 1 ≤ _; omega, ⟨b1, ⟨True.intro, be⟩⟩, ⟨b2, ⟨True.intro, be⟩⟩, ⟨cc, ce, ce⟩, by show max (Sm.bin J.or ca cb).dp (max e.dp e.dp + 1) + 1 ≤ 26; omega, ⟨_, _, rfl⟩, (fun z => nomatch z), fun z => nomatch z⟩
        · refine ⟨_, rfl, rfl, _, rfl, iteF' (by cases j <;> first | exact absurd rfl hj | decide +kernel) ?_⟩
          refine ⟨la, u1, u2, vc, _, r1, r2, c, rfl, Same.refl _, hla, i1, i2, ic, t1, t2, by omega, by omega, h1, h2, b1, b2, cc, dc, ?_, ct, fun hjo => ?_⟩
          cases j with
          | and => exact absurd rfl hj
          | or =>
            obtain ⟨_, ⟨ca, cb, rfl, _, _⟩, _⟩ := co (fun z => nomatch z)
            exact ⟨_, _, rfl⟩
          | thn =>
            obtain ⟨z, rfl⟩ := ct rfl
            exact ⟨_, _, rfl⟩
          subst hjo
          obtain ⟨_, ⟨ca, cb, rfl, ja, jb⟩, _⟩ := co (fun z => nomatch z)
          exact ⟨_, _, rfl, ja, jb⟩
      obtain ⟨la, u1, u2, vc, y15, r1, r2, c, rfl, s8, hla, i1, i2, ic, t1, t2, w1, w2, h1, h2, b1, b2, cc, ra⟩ := hm2
      refine ⟨_, rfl, _, rfl, la, _, _, _, rfl, rfl, SqL.of hla, at0, _, rfl, la, _, _, _, rfl, rfl, SqL.of hla, at1, _, rfl, (by show 5 ≤ sizeLine; decide), fun k nk => ⟨_, rfl, sz2, fun t nt => ?_⟩⟩
      have k1 := same_new (o := .tup [.str "case", vh, u1, u2, vc]) nk
      have k2 := same_new (o := .tup [.ref k, vc]) nt
      have k12 := k1.trans k2
      have sAll := (r14.trans (s7.trans s8)).trans k12
      have ra1 := ra.1
      exact q _ t r1 r2 c (w06.then sAll) ⟨.ref k, vc, c, .inl (.inl upd_same), .case (.inl (.inl (k2 _ _ upd_same))) (ip06.same sAll) (i1.same k12) (i2.same k12) (ic.same k12), ic.same k12, .case ty0 t1 t2, by show p0.nn + r1.nn + r2.nn + 1 ≤ _; omega, by show max p0.ht (max r1.ht r2.ht) + 1 ≤ _; omega, ⟨hb0, b1, b2, ⟨by omega, cc⟩⟩, cc, ra⟩
/-! ### _law_straight -/
theorem ok_law_straight (T : Txt w K mg) (c__law_draw : Cl P w K mg base 1 "_law_draw" (sp_draw K)) (c__law_statement : Cl P w K mg base 3 "_law_statement" (sp_law_statement K)) {n : Nat} (c__law_grown : Cl P w K mg base (31 + 6 * n) "_law_grown" (sp_law_grown K BK n)) : Cl P w K mg base (32 + 6 * n) "_law_straight" (sp_law_straight K BK n) := by
  refine Cl.mono (j := 31 + 6 * n + 1) (T.d_law_straight.ok (k := 31 + 6 * n) sc_law_straight (fun vs H Q E h => ?_) (fun f cdv A outer s H vs Q E hr h => ?_)) (by omega)
  · obtain ⟨st, pg, gs, g, f, j, rfl, _⟩ := h
    rfl
  · obtain ⟨st, pg, gs, g, m, j, rfl, hw, hg, hm, hl, q⟩ := h
    refine ⟨_, (pss_cons (ps_asg (pe_k c__law_grown hr (by omega) rfl (pa_cons (pv 0) (pa_cons (pv 1) (pa_cons (pv 2) pa_nil)))) (pg_tup rfl (pgs_cons (pg_name (i := 4) sc_law_straight.nd rfl (Or.inl rfl)) (pgs_cons (pg_name (i := 5) sc_law_straight.nd rfl (Or.inl rfl)) pgs_nil))))
    (pss_cons (ps_if (pt_cmpR op_eq (pv 3) pe_str (nomark _))
      (pss_cons (ps_asg (pe_k c__law_grown hr (by omega) rfl (pa_cons (pv 0) (pa_cons (pv 1) (pa_cons (pv 2) pa_nil)))) (pg_tup rfl (pgs_cons (pg_name (i := 6) sc_law_straight.nd rfl (Or.inl rfl)) (pgs_cons (pg_name (i := 7) sc_law_straight.nd rfl (Or.inl rfl)) pgs_nil))))
        (pss_one (ps_ret (pe_tup (pa_cons (pe_tup (pa_cons pe_str (pa_cons (pv 4) (pa_cons (pv 6) pa_nil)))) (pa_cons (pe_tup (pa_cons pe_str (pa_cons (pv 5) (pa_cons (pv 7) pa_nil)))) pa_nil))))))
      pss_nil)
    (pss_cons (ps_if (pt_cmpR op_eq (pv 3) pe_str (nomark _))
      (pss_cons (ps_set (i := 8) sc_law_straight.nd rfl (Or.inl rfl) (pe_k c__law_statement hr (by omega) rfl (pa_cons (pv 0) pa_nil)))
        (pss_cons (ps_asg (pe_k c__law_grown hr (by omega) rfl (pa_cons (pv 0) (pa_cons (pe_op op_cat (pv 1) (pe_lst (pa_cons (pv 8) pa_nil))) (pa_cons (pv 2) pa_nil)))) (pg_tup rfl (pgs_cons (pg_name (i := 4) sc_law_straight.nd rfl (Or.inl rfl)) (pgs_cons (pg_name (i := 5) sc_law_straight.nd rfl (Or.inl rfl)) pgs_nil))))
        (pss_one (ps_ret (pe_tup (pa_cons (pe_tup (pa_cons pe_str (pa_cons (pv 8) (pa_cons (pv 4) pa_nil)))) (pa_cons (pe_tup (pa_cons pe_str (pa_cons (pv 8) (pa_cons (pv 5) pa_nil)))) pa_nil)))))))
      pss_nil)
    (pss_cons (ps_set (i := 7) sc_law_straight.nd rfl (Or.inl rfl) (pe_k c__law_statement hr (by omega) rfl (pa_cons (pv 0) pa_nil)))
    (pss_cons (ps_if (pt_cmpR op_eq (pe_k c__law_draw hr (by omega) rfl (pa_cons (pv 0) (pa_cons pe_int pa_nil))) pe_int (nomark _))
      (pss_one (ps_ret (pe_tup (pa_cons (pe_tup (pa_cons pe_str (pa_cons (pv 4) (pa_cons (pv 7) pa_nil)))) (pa_cons (pe_tup (pa_cons pe_str (pa_cons (pv 5) (pa_cons (pv 7) pa_nil)))) pa_nil)))))
      pss_nil)
    (pss_one (ps_ret (pe_tup (pa_cons (pe_tup (pa_cons pe_str (pa_cons (pv 7) (pa_cons (pv 4) pa_nil)))) (pa_cons (pe_tup (pa_cons pe_str (pa_cons (pv 7) (pa_cons (pv 5) pa_nil)))) pa_nil)))))))))), ?_⟩
    have hln := hg.ln
    have wS : nB (m + 1) = 3 * nB m + 9 := rfl
    have hS : hB (m + 1) = hB m + 3 := by unfold hB; omega
    refine ⟨_, rfl, _, rfl, _, rfl, st, pg, gs, g, m, rfl, hw, hg, hm, by omega, fun H1 t w1 d => ?_⟩
    obtain ⟨v1, va, p1, a, hT, ip, ia, ty, hW, hh, hb, ca, ja⟩ := d
    have ja : a.joints ≤ 24 := ja
    have da := Nat.le_trans a.dp_joints ja
    refine ⟨t, _, rfl, hT, rfl, _, _, rfl, _, _, rfl, rfl, ?_⟩
    cases j with
    | and =>
      refine ⟨_, rfl, rfl, _, rfl, iteT' (by decide +kernel) ?_⟩
      refine ⟨_, rfl, _, rfl, _, rfl, st, pg, gs, g, m, rfl, w1.w1, hg.wd w1, hm, by omega, fun H2 t2 w2 d => ?_⟩
      obtain ⟨v2, vb, p2, b, hT2, ip2, ib, ty2, hW2, hh2, hb2, cb, jb⟩ := d
      have jb : b.joints ≤ 24 := jb
      have db := Nat.le_trans b.dp_joints jb
      refine ⟨t2, _, rfl, hT2, rfl, _, _, rfl, _, _, rfl, rfl, ?_⟩
      refine ⟨_, rfl, _, rfl, sz3, fun u nu => ⟨_, rfl, _, rfl, sz3, fun e ne => ⟨sz2, fun t3 nt => ?_⟩⟩⟩
      have r1 := same_new (o := .tup [.str "pair", v1, v2]) nu
      have r2 := same_new (o := .tup [.str "and", va, vb]) ne
      have r3 := same_new (o := .tup [.ref u, .ref e]) nt
      have r23 := r2.trans r3
      have r13 := r1.trans r23
      exact q _ t3 ((w1.trans w2).then r13) ⟨.ref u, .ref e, .pair p1 p2, .bin .and a b, .inl (.inl upd_same), .pair (.inl (.inl (r23 _ _ upd_same))) ((ip.tk w2.tk).same r13) (ip2.same r13), .bin (.inl (.inl (r3 _ _ upd_same))) ((ia.tk w2.tk).same r13) (ib.same r13), .pair ty ty2, by show p1.nn + p2.nn + 1 ≤ _; omega, by show max p1.ht p2.ht + 1 ≤ _; omega, ⟨hb, hb2⟩, ⟨ca, cb⟩, by show max a.dp b.dp + 1 ≤ 26; omega, _, _, rfl⟩
    | thn =>
      refine ⟨_, rfl, rfl, _, rfl, iteF' (by decide +kernel) ⟨_, rfl, rfl, _, rfl, iteT' (by decide +kernel) ?_⟩⟩
      refine ⟨_, rfl, st, rfl, w1.w1, fun H2 ve e w2 ie ne => ?_⟩
      refine ⟨_, rfl, _, rfl, _, rfl, sz1, fun p np => ⟨pg, p, gs, [ve], rfl, rfl, (same_new np) _ _ ((hg.wd w1).wd w2).at_, upd_same, small' (by rw [List.length_singleton]; omega), fun l nl => ⟨_, rfl, ?_⟩⟩⟩
      have s1 := same_new (o := .lst [ve]) np
      have s2 := same_new (o := .lst (gs ++ [ve])) nl
      have s12 := s1.trans s2
      have hlst : (upd (upd H2 p (.lst [ve])) l (.lst (gs ++ [ve]))) l = some (.lst (gs ++ [ve])) := upd_same
      have w3 : Wd st H2 (upd (upd H2 p (.lst [ve])) l (.lst (gs ++ [ve]))) := Wd.of w2.w1 s12
      have nls : l ≠ st := Wd.ne (Wd.of w2.w1 s1).w1 nl
      generalize upd (upd H2 p (.lst [ve])) l (.lst (gs ++ [ve])) = H3 at s12 hlst w3 ⊢
      have w13 := (w1.trans w2).trans w3
      have g3 := hg.wd w13
      have je : e.joints ≤ 24 := by
        have h1 := ne.1
        cases e with
        | lt _ => exact Nat.zero_le _
        | nv => exact Nat.zero_le _
        | bin w x y =>
          have h1 : max x.dp y.dp + 1 ≤ 1 := h1
          have hx : x.joints = 0 := by cases x <;> first | rfl | (simp [Sm.dp] at h1)
          have hy : y.joints = 0 := by cases y <;> first | rfl | (simp [Sm.dp] at h1)
          show x.joints + y.joints + 1 ≤ 24
          omega
      refine ⟨st, l, gs ++ [ve], g ++ [e], m, rfl, w3.w1, ⟨hlst, nls, pair_app g3.ps (.cons (ie.same s12) .nil), fun s hs => ?_⟩, hm, by rw [List.length_append, List.length_singleton]; omega, fun H4 t2 w4 d => ?_⟩
      · rcases List.mem_append.mp hs with hs | hs
        · exact hg.ok s hs
        · rw [List.mem_singleton.mp hs]
          exact ⟨je, ne.2⟩
      obtain ⟨v2, vb, p2, b, hT2, ip2, ib, ty2, hW2, hh2, hb2, cb, jb⟩ := d
      have jb : b.joints ≤ 24 := jb
      have db := Nat.le_trans b.dp_joints jb
      have de := ne.1
      refine ⟨t2, _, rfl, hT2, rfl, _, _, rfl, _, _, rfl, rfl, ?_⟩
      refine ⟨_, rfl, _, rfl, sz3, fun u nu => ⟨_, rfl, _, rfl, sz3, fun c nc => ⟨sz2, fun t3 nt => ?_⟩⟩⟩
      have r1 := same_new (o := .tup [.str "make", ve, v2]) nu
      have r2 := same_new (o := .tup [.str "then", ve, vb]) nc
      have r3 := same_new (o := .tup [.ref u, .ref c]) nt
      have r23 := r2.trans r3
      have r13 := r1.trans r23
      have ie4 := (ie.same s12).tk w4.tk
      exact q _ t3 ((w13.trans w4).then r13) ⟨.ref u, .ref c, .make e p2, .bin .thn e b, .inl (.inl upd_same), .make (.inl (.inl (r23 _ _ upd_same))) (ip2.same r13) (ie4.same r13), .bin (.inl (.inl (r3 _ _ upd_same))) (ie4.same r13) (ib.same r13), .make ty2, by show p2.nn + 1 ≤ _; omega, by show p2.ht + 1 ≤ _; omega, ⟨hb2, ⟨by omega, ne.2⟩⟩, ⟨ne.2, cb⟩, by show max e.dp b.dp + 1 ≤ 26; omega, _, _, rfl⟩
    | or =>
      refine ⟨_, rfl, rfl, _, rfl, iteF' (by decide +kernel) ⟨_, rfl, rfl, _, rfl, iteF' (by decide +kernel) ?_⟩⟩
      refine ⟨_, rfl, st, rfl, w1.w1, fun H2 ve e w2 ie ne => ?_⟩
      have de := ne.1
      refine ⟨_, rfl, st, 2, rfl, w2.w1, by decide, by decide, fun H3 r w3 _ _ => ?_⟩
      have w13 := (w1.trans w2).trans w3
      have ip3 := (ip.tk w2.tk).tk w3.tk
      have ia3 := (ia.tk w2.tk).tk w3.tk
      have ie3 := ie.tk w3.tk
      refine ⟨rfl, _, rfl, ite2 (fun _ => ?_) (fun _ => ?_)⟩
      · refine ⟨_, rfl, _, rfl, sz3, fun u nu => ⟨_, rfl, _, rfl, sz3, fun c nc => ⟨sz2, fun t3 nt => ?_⟩⟩⟩
        have r1 := same_new (o := .tup [.str "left", v1, ve]) nu
        have r2 := same_new (o := .tup [.str "or", va, ve]) nc
        have r3 := same_new (o := .tup [.ref u, .ref c]) nt
        have r23 := r2.trans r3
        have r13 := r1.trans r23
        exact q _ t3 (w13.then r13) ⟨.ref u, .ref c, .left p1 e, .bin .or a e, .inl (.inl upd_same), .left (.inl (.inl (r23 _ _ upd_same))) (ip3.same r13) (ie3.same r13), .bin (.inl (.inl (r3 _ _ upd_same))) (ia3.same r13) (ie3.same r13), .left ty, by show p1.nn + 1 ≤ _; omega, by show p1.ht + 1 ≤ _; omega, ⟨hb, ⟨by omega, ne.2⟩⟩, ⟨ca, ne.2⟩, by show max a.dp e.dp + 1 ≤ 26; omega, _, _, rfl⟩
      · refine ⟨_, rfl, _, rfl, sz3, fun u nu => ⟨_, rfl, _, rfl, sz3, fun c nc => ⟨sz2, fun t3 nt => ?_⟩⟩⟩
        have r1 := same_new (o := .tup [.str "right", ve, v1]) nu
        have r2 := same_new (o := .tup [.str "or", ve, va]) nc
        have r3 := same_new (o := .tup [.ref u, .ref c]) nt
        have r23 := r2.trans r3
        have r13 := r1.trans r23
        exact q _ t3 (w13.then r13) ⟨.ref u, .ref c, .right e p1, .bin .or e a, .inl (.inl upd_same), .right (.inl (.inl (r23 _ _ upd_same))) (ip3.same r13) (ie3.same r13), .bin (.inl (.inl (r3 _ _ upd_same))) (ie3.same r13) (ia3.same r13), .right ty, by show p1.nn + 1 ≤ _; omega, by show p1.ht + 1 ≤ _; omega, ⟨hb, ⟨by omega, ne.2⟩⟩, ⟨ne.2, ca⟩, by show max e.dp a.dp + 1 ≤ 26; omega, _, _, rfl⟩
/-! ### _law_shaped -/
theorem ok_law_shaped (T : Txt w K mg) (c__law_draw : Cl P w K mg base 1 "_law_draw" (sp_draw K)) (c__law_least : Cl P w K mg base 1 "_law_least" (sp_law_least K BK)) (c__law_joints : Cl P w K mg base 32 "_law_joints" (sp_law_joints K 32)) {n : Nat} (c__law_shaped_by : Cl P w K mg base (33 + 6 * n) "_law_shaped_by" (sp_law_shaped_by K BK n)) : Cl P w K mg base (36 + 6 * n) "_law_shaped" (sp_law_shaped K BK (n + 1)) := by
  refine Cl.mono (j := 35 + 6 * n + 1) (T.d_law_shaped.ok (k := 35 + 6 * n) sc_law_shaped (fun vs H Q E h => ?_) (fun f cdv A outer s H vs Q E hr h => ?_)) (by omega)
  · obtain ⟨st, pg, gs, g, f, j, rfl, _⟩ := h
    rfl
  · obtain ⟨st, pg, gs, g, m, j, rfl, hw, hg, hm, hl, q⟩ := h
    refine ⟨_, (pss_cons (ps_set (i := 4) sc_law_shaped.nd rfl (Or.inl rfl) (pe_k c__law_draw hr (by omega) rfl (pa_cons (pv 0) (pa_cons pe_int pa_nil))))
    (pss_cons (ps_setLc (i := 6) (own := [("_law_k", 5), ("_law_a", 8)]) rfl sc_law_shaped.nd rfl rfl (sw_true rfl rfl rfl (by decide +kernel)) (pi_enum rfl T.n_enumerate (pa_cons (pv 1) pa_nil)) (blkOk_by (N := sc_law_shapedN) (sc := defScope s_law_shaped) (by decide +kernel)) (fun _ _ _ _ _ => (pg_tupK (K := K) (n := 2) rfl (pgs_cons (pg_name (i := 5) sc_law_shaped.nd rfl (Or.inl rfl)) (pgs_cons (pg_name (i := 8) sc_law_shaped.nd rfl (Or.inl rfl)) pgs_nil)))) (fun _ _ _ _ _ => (pts_one (pt_cmpR op_eq (pe_ix (r := rIxT K) ix_tup (pv 8) pe_int (fun _ _ => rfl)) (pv 3) (nomark _)))) (fun _ _ _ _ _ => (pv 5)))
    (pss_cutO (ps_if (PW.pt (pw_and (pt_cmpR (r := rNeE K) (op_neE hr.units) (pv 6) (pe_lst pa_nil) (nomark _)) (pw_and1 (PW.pt (pw_or (pt_cmpR op_eq (pv 4) pe_int (nomark _)) (pw_or1 (pt_cmpR op_eq (pv 2) pe_int (nomark _))))))))
      (pss_cons (ps_set (i := 5) sc_law_shaped.nd rfl (Or.inl rfl) (pe_ix (r := rIxL K) ix_list (pv 6) (pe_k c__law_draw hr (by omega) rfl (pa_cons (pv 0) (pa_cons (pe_callB (r := rLenK K) call_len_seq rfl T.n_len (by decide +kernel) (pa_cons (pv 6) pa_nil)) pa_nil))) (fun _ _ => rfl)))
        (pss_one (ps_ret (pe_tup (pa_cons (pe_tup (pa_cons pe_str (pa_cons (pv 5) pa_nil))) (pa_cons (pe_ix (r := rIxL K) ix_list (pv 1) (pv 5) (fun _ _ => rfl)) pa_nil))))))
      pss_nil)
    (pss_cons (ps_if (pt_cmpR op_eq (pv 2) pe_int (nomark _))
      (pss_one (ps_ret (pe_k c__law_least hr (by omega) rfl (pa_cons (pv 1) (pa_cons (pv 3) pa_nil)))))
      pss_nil)
    (pss_cons (ps_set (i := 7) sc_law_shaped.nd rfl (Or.inl rfl) (pe_k c__law_shaped_by hr (by omega) rfl (pa_cons (pv 0) (pa_cons (pv 1) (pa_cons (pe_op op_sub (pv 2) pe_int) (pa_cons (pv 3) (pa_cons (pv 4) pa_nil)))))))
    (pss_cons (ps_if (pt_cmpR op_gt (pe_k c__law_joints hr (by omega) rfl (pa_cons (pe_ix (r := rIxT K) ix_tup (pv 7) pe_int (fun _ _ => rfl)) pa_nil)) pe_int (nomark _))
      (pss_one (ps_ret (pe_k c__law_least hr (by omega) rfl (pa_cons (pv 1) (pa_cons (pv 3) pa_nil)))))
      pss_nil)
    (pss_one (ps_ret (pv 7))))))))), ?_⟩
    have hln := hg.ln
    have b12 := nB_5 m
    have h2 : 2 ≤ hB m := by unfold hB; omega
    refine ⟨_, rfl, st, 7, rfl, hw, by decide, by decide, fun H1 r w1 r0 r1 => ?_⟩
    have g1 := hg.wd w1
    let c : Nat → Bool := fun k => match g[k]? with
      | some s => decide (V.str s.hd = V.str j.s)
      | none => false
    refine ⟨_, rfl, pg, gs, rfl, SqL.of g1.at_, fun D nD => ?_⟩
    have nDs : D ≠ st := Wd.ne w1.w1 nD
    refine lc_it (walk_enum (K := K) (a := pg) (xs := gs)) (fun i H3 => H3 D = some (.lst ((selN c i).map fun k => V.int (k : Nat))) ∧ Same H1 H3) ?_ ?_ ?_ ?_
    · exact ⟨upd_same, same_new nD⟩
    · rintro i H3 _ ⟨_, s3⟩
      exact SqL.of (s3 _ _ g1.at_)
    · rintro i x H3 H4 hi ⟨hD, s3⟩ ⟨t, x0, y0, rfl, nt, rfl, hx0, hy0⟩
      have e0 := Option.some.inj hx0
      subst e0
      obtain ⟨a, ha, ia⟩ := pair_get g1.ps hy0
      have st4 := same_new (o := .tup [.int (i : Nat), y0]) nt
      have ht4 : (upd H3 t (.tup [V.int (i : Nat), y0])) t = some (.tup [.int (i : Nat), y0]) := upd_same
      have hD4 := st4 _ _ hD
      generalize upd H3 t (.tup [.int (i : Nat), y0]) = H4 at st4 ht4 hD4 ⊢
      have s4 := s3.trans st4
      obtain ⟨aa, its, rfl, hT⟩ := (ia.same s4).head
      have ec : decide (V.str a.hd = V.str j.s) = c i := by
        show _ = (match g[i]? with
          | some s => decide (V.str s.hd = V.str j.s)
          | none => false)
        rw [ha]
      refine ⟨t, _, rfl, .inl (.inl ht4), rfl, _, _, rfl, _, _, rfl, rfl, rfl, ?_⟩
      refine ⟨_, rfl, aa, _, _, _, rfl, rfl, hT, at0, _, rfl, rfl, _, rfl, ?_⟩
      rw [ec]
      cases ec : c i with
      | true =>
        refine iteT ⟨_, rfl, _, hD4, ?_, ?_, same_put s4 nD⟩
        · rw [List.length_map]
          have := len_selN c i
          have h3 : g.length ≤ 1000 := by omega
          exact small (by omega)
        · rw [upd_same, selN_succ, if_pos ec, List.map_append]
          rfl
      | false =>
        refine iteF ⟨?_, s4⟩
        rw [selN_succ, if_neg (by rw [ec]; exact Bool.false_ne_true)]
        exact hD4
    rintro H2 ⟨hD, s2⟩
    have w2 := w1.then s2
    have mks : ∀ k ∈ selN c gs.length, ∃ x y, g[k]? = some (.bin j x y) := fun k hk => by
      have h1 : (match g[k]? with
        | some s => decide (V.str s.hd = V.str j.s)
        | none => false) = true := (mem_selN.mp hk).2
      cases e : g[k]? with
      | none => rw [e] at h1; cases h1
      | some s =>
        rw [e] at h1
        obtain ⟨x, y, rfl⟩ := hd_is.mp (of_decide_eq_true h1)
        exact ⟨x, y, rfl⟩
    have lks := len_selN c gs.length
    generalize selN c gs.length = ks at hD mks lks
    rw [ints_natN] at hD
    refine ⟨fun σ' H' => ∃ (y5 : Option V) (fit : Addr), σ' = [some (.ref st), some (.ref pg), some (.int (m : Nat)), some (.str j.s), some (.int r), y5, some (.ref fit), none, none] ∧ Wd st H H', ?_, fun σ' H3 hm3 => ?_⟩
    · refine ne_nil (vl_var rfl) (SqL.of hD) (dpAll_ints _) (lay_ints _) (fun p np => ⟨_, rfl, ?_⟩)
      have s3 : Same H2 (upd H2 p (.lst [])) := same_new np
      have hD3 := s3 _ _ hD
      generalize upd H2 p (.lst []) = H3 at s3 hD3 ⊢
      have w3 := w2.then s3
      cases ks with
      | nil => exact iteF' rfl (iteF ⟨_, D, rfl, w3⟩)
      | cons k0 kr =>
        refine iteT' rfl ?_
        have hD3 : H3 D = some (.lst ((((k0 :: kr).map fun k => ((k : Nat) : Int))).map V.int)) := hD3
        generalize ekl : k0 :: kr = kl at hD3 mks lks
        have lp : (0 : Int) < ((((kl.map fun k => ((k : Nat) : Int))).map V.int).length : Int) := by rw [List.length_map, List.length_map, ← ekl, List.length_cons]; omega
        refine or_ints rfl rfl (fun _ => iteT ?_) (fun _ _ => iteF ⟨_, D, rfl, w3⟩)
        refine ⟨_, rfl, _, rfl, _, rfl, D, _, rfl, .inl (SqL.of hD3), st, _, rfl, w3.w1, lp, lt4000 (by rw [List.length_map, List.length_map]; omega), fun H4 z w4 z0 z1 => ?_⟩
        rw [List.length_map, List.length_map] at z1
        obtain ⟨k, rfl, hk⟩ := nat_lt (n := kl.length) z0 z1
        have hD4 := w4.bt _ _ nDs hD3
        have hkl : kl[k]? = some kl[k] := List.getElem?_eq_getElem hk
        obtain ⟨x, y, mk⟩ := mks _ (List.mem_of_getElem? hkl)
        have hix : (((kl.map fun k => ((k : Nat) : Int))).map V.int)[k]? = some (.int ((kl[k] : Nat) : Int)) := by
          rw [List.map_map, List.getElem?_map, hkl]
          rfl
        have w04 := w3.trans w4
        have g4 := hg.wd w04
        obtain ⟨va, hva, ia⟩ := pair_getr g4.ps mk
        have mem := g4.ok _ (List.mem_of_getElem? mk)
        refine ⟨D, _, _, _, rfl, rfl, SqL.of hD4, atI_nat hix, ?_⟩
        refine ⟨_, rfl, sz2, fun u nu => ⟨_, rfl, _, rfl, pg, _, _, _, rfl, rfl, SqL.of ((same_new nu) _ _ g4.at_), atI_nat hva, sz2, fun t nt => ?_⟩⟩
        have r1 := same_new (o := .tup [.str "use", .int (kl[k] : Nat)]) nu
        have r2 := same_new (o := .tup [.ref u, va]) nt
        have r12 := r1.trans r2
        exact q _ t (w04.then r12) ⟨.ref u, va, .use (kl[k] : Nat), _, .inl (.inl upd_same), .use (.inl (.inl (r2 _ _ upd_same))), ia.same r12, .use mk, by show 1 ≤ nB m; omega, Nat.zero_le _, True.intro, mem.2, mem.1, _, _, rfl⟩
    · obtain ⟨y5, fit, rfl, w3⟩ := hm3
      have g3 := hg.wd w3
      have least : ∀ {H0 : Hp}, Wd st H H0 → sp_law_least K BK [.ref pg, .str j.s] H0 Q E0 := fun {H0} w0 => ⟨pg, gs, g, j, rfl, SqL.of (hg.wd w0).at_, hln, fun H4 t s4 _ d => q H4 t (w0.then s4) (d.imp b12 h2 fun _ h => h)⟩
      refine ⟨_, rfl, rfl, _, rfl, ite2 (fun _ => ⟨_, rfl, _, rfl, least w3⟩) (fun hf => ?_)⟩
      obtain ⟨f', rfl⟩ : ∃ f', m = f' + 1 := ⟨m - 1, by
        have : ¬ m = 0 := fun z => hf (decide_eq_true (by rw [z]; rfl))
        omega⟩
      refine ⟨_, rfl, _, rfl, _, rfl, _, _, rfl, rfl, _, rfl, _, rfl, st, pg, gs, g, f', j, r, ?_, w3.w1, g3, by omega, by omega, fun H4 t w4 d => ?_⟩
      · show [V.ref st, V.ref pg, V.int (((f' + 1 : Nat) : Int) - 1), V.str j.s, V.int r] = _
        rw [show ((f' + 1 : Nat) : Int) - 1 = (f' : Int) by omega]
      have d0 := d
      obtain ⟨vp, va, p, a, hT, ip, ia, hty, hW, hh, hb, hc, hd, x, y, rfl⟩ := d
      have w04 := w3.trans w4
      refine ⟨_, rfl, t, _, _, _, rfl, rfl, hT, at1, va, _, rfl, ia, by omega, _, _, rfl, rfl, _, rfl, ite2 (fun _ => ⟨_, rfl, _, rfl, least w04⟩) (fun hj => ?_)⟩
      refine ⟨_, rfl, q H4 t w04 ?_⟩
      have hj : (Sm.bin j x y).joints ≤ 24 := by
        have h1 : ¬ ((24 : Int) < ((Sm.bin j x y).joints : Nat)) := fun z => hj (decide_eq_true z)
        omega
      exact ⟨vp, va, p, _, hT, ip, ia, hty, hW, hh, hb, hc, hj, x, y, rfl⟩
/-! ### _law_shaped_by -/
set_option maxHeartbeats 2000000 in
theorem ok_law_shaped_by (T : Txt w K mg) (c__law_draw : Cl P w K mg base 1 "_law_draw" (sp_draw K)) (c__law_plain : Cl P w K mg base 2 "_law_plain" (sp_law_plain K)) (c__law_statement : Cl P w K mg base 3 "_law_statement" (sp_law_statement K)) {n : Nat} (c__law_shaped : Cl P w K mg base (36 + 6 * n) "_law_shaped" (sp_law_shaped K BK (n + 1))) (c__law_arms : Cl P w K mg base (38 + 6 * n) "_law_arms" (sp_law_arms K BK (n + 1))) (c__law_never : Cl P w K mg base (36 + 6 * n) "_law_never" (sp_law_never K BK (n + 1))) (c__law_grown : Cl P w K mg base (37 + 6 * n) "_law_grown" (sp_law_grown K BK (n + 1))) (c__law_straight : Cl P w K mg base (38 + 6 * n) "_law_straight" (sp_law_straight K BK (n + 1))) : Cl P w K mg base (39 + 6 * n) "_law_shaped_by" (sp_law_shaped_by K BK (n + 1)) := by
  refine Cl.mono (j := 38 + 6 * n + 1) (T.d_law_shaped_by.ok (k := 38 + 6 * n) sc_law_shaped_by (fun vs H Q E h => ?_) (fun f cdv A outer s H vs Q E hr h => ?_)) (by omega)
  · obtain ⟨st, pg, gs, g, f, j, w, rfl, _⟩ := h
    rfl
  · obtain ⟨st, pg, gs, g, m, j, way, rfl, hw, hg, hm, hl, q⟩ := h
    refine ⟨_, (pss_cons (ps_if (PW.pt (pw_or (pt_cmpR op_eq (pv 4) pe_int (nomark _)) (pw_or1 (pt_cmpR op_eq (pv 4) pe_int (nomark _)))))
      (pss_cons (ps_set (i := 5) sc_law_shaped_by.nd rfl (Or.inl rfl) (pe_k c__law_shaped hr (by omega) rfl (pa_cons (pv 0) (pa_cons (pv 1) (pa_cons (pv 2) (pa_cons pe_str pa_nil))))))
        (pss_one (ps_ret (pe_k c__law_arms hr (by omega) rfl (pa_cons (pv 0) (pa_cons (pv 1) (pa_cons (pv 2) (pa_cons (pv 5) (pa_cons (pv 3) (pa_cons (pe_k c__law_statement hr (by omega) rfl (pa_cons (pv 0) pa_nil)) pa_nil))))))))))
      pss_nil)
    (pss_cons (ps_if (pt_cmpR op_eq (pv 4) pe_int (nomark _))
      (pss_cons (ps_set (i := 6) sc_law_shaped_by.nd rfl (Or.inl rfl) (pe_k c__law_never hr (by omega) rfl (pa_cons (pv 0) (pa_cons (pv 1) (pa_cons (pv 2) pa_nil)))))
        (pss_one (ps_if (pt_cmpR op_notN (pv 6) pe_non (nomark _))
          (pss_cons (ps_set (i := 7) sc_law_shaped_by.nd rfl (Or.inl rfl) (pe_tup (pa_cons (pv 3) (pa_cons (pe_k c__law_plain hr (by omega) rfl (pa_cons (pv 0) pa_nil)) (pa_cons (pe_k c__law_statement hr (by omega) rfl (pa_cons (pv 0) pa_nil)) pa_nil)))))
            (pss_one (ps_ret (pe_tup (pa_cons (pe_tup (pa_cons pe_str (pa_cons (pv 6) (pa_cons (pv 7) pa_nil)))) (pa_cons (pv 7) pa_nil))))))
          pss_nil)))
      pss_nil)
    (pss_cons (ps_if (pt_cmpR op_eq (pv 4) pe_int (nomark _))
      (pss_cons (ps_asg (pe_k c__law_shaped hr (by omega) rfl (pa_cons (pv 0) (pa_cons (pv 1) (pa_cons (pv 2) (pa_cons (pv 3) pa_nil))))) (pg_tup rfl (pgs_cons (pg_name (i := 8) sc_law_shaped_by.nd rfl (Or.inl rfl)) (pgs_cons (pg_name (i := 9) sc_law_shaped_by.nd rfl (Or.inl rfl)) pgs_nil))))
        (pss_cons (ps_asg (pe_k c__law_grown hr (by omega) rfl (pa_cons (pv 0) (pa_cons (pv 1) (pa_cons (pv 2) pa_nil)))) (pg_tup rfl (pgs_cons (pg_name (i := 10) sc_law_shaped_by.nd rfl (Or.inl rfl)) (pgs_cons (pg_name (i := 11) sc_law_shaped_by.nd rfl (Or.inl rfl)) pgs_nil))))
        (pss_cons (ps_if (pt_cmpR op_eq (pe_k c__law_draw hr (by omega) rfl (pa_cons (pv 0) (pa_cons pe_int pa_nil))) pe_int (nomark _))
          (pss_one (ps_ret (pe_tup (pa_cons (pe_tup (pa_cons pe_str (pa_cons (pe_tup (pa_cons pe_str (pa_cons (pv 8) (pa_cons (pv 10) pa_nil)))) pa_nil))) (pa_cons (pv 9) pa_nil)))))
          pss_nil)
        (pss_one (ps_ret (pe_tup (pa_cons (pe_tup (pa_cons pe_str (pa_cons (pe_tup (pa_cons pe_str (pa_cons (pv 10) (pa_cons (pv 8) pa_nil)))) pa_nil))) (pa_cons (pv 9) pa_nil))))))))
      pss_nil)
    (pss_cons (ps_if (pt_cmpR op_eq (pv 4) pe_int (nomark _))
      (pss_cons (ps_asg (pe_k c__law_grown hr (by omega) rfl (pa_cons (pv 0) (pa_cons (pv 1) (pa_cons (pv 2) pa_nil)))) (pg_tup rfl (pgs_cons (pg_name (i := 10) sc_law_shaped_by.nd rfl (Or.inl rfl)) (pgs_cons (pg_name (i := 9) sc_law_shaped_by.nd rfl (Or.inl rfl)) pgs_nil))))
        (pss_cons (ps_asg (pe_k c__law_shaped hr (by omega) rfl (pa_cons (pv 0) (pa_cons (pe_op op_cat (pv 1) (pe_lst (pa_cons (pv 9) pa_nil))) (pa_cons (pv 2) (pa_cons (pv 3) pa_nil))))) (pg_tup rfl (pgs_cons (pg_name (i := 8) sc_law_shaped_by.nd rfl (Or.inl rfl)) (pgs_cons (pg_name (i := 11) sc_law_shaped_by.nd rfl (Or.inl rfl)) pgs_nil))))
        (pss_one (ps_ret (pe_tup (pa_cons (pe_tup (pa_cons pe_str (pa_cons (pe_tup (pa_cons pe_str (pa_cons (pv 9) (pa_cons (pv 8) pa_nil)))) (pa_cons (pv 10) pa_nil)))) (pa_cons (pv 11) pa_nil)))))))
      pss_nil)
    (pss_one (ps_ret (pe_k c__law_straight hr (by omega) rfl (pa_cons (pv 0) (pa_cons (pv 1) (pa_cons (pv 2) (pa_cons (pv 3) pa_nil))))))))))), ?_⟩
    have hln := hg.ln
    have wS : nB (m + 1) = 3 * nB m + 9 := rfl
    have hS : hB (m + 1) = hB m + 3 := by unfold hB; omega
    have ne_int : ∀ {a b : Int}, a ≠ b → decide (V.int a = V.int b) = false := fun h => decide_eq_false fun e => h (by injection e)
    have strt : ∀ {H0 : Hp}, Wd st H H0 → sp_law_straight K BK (n + 1) [.ref st, .ref pg, .int (m : Nat), .str j.s] H0 Q E0 := fun {H0} w0 => ⟨st, pg, gs, g, m, j, rfl, w0.w1, hg.wd w0, hm, by omega, fun H4 t w4 d => q H4 t (w0.trans w4) d⟩
    refine or_ints rfl rfl (fun _ => iteT ?_) (fun nw1 nw2 => iteF ?_)
    · refine ⟨_, rfl, _, rfl, _, rfl, st, pg, gs, g, m, .or, rfl, hw, hg, hm, by omega, fun H1 t w1 d => ?_⟩
      refine ⟨_, rfl, _, rfl, _, rfl, _, rfl, _, rfl, _, rfl, st, rfl, w1.w1, fun H2 ve e w2 ie ne => ?_⟩
      have w12 := w1.trans w2
      obtain ⟨p0, dp⟩ := d.p
      exact ⟨st, pg, gs, g, m, t, j, ve, e, _, _, p0, rfl, w2.w1, hg.wd w12, hm, by omega, (dp.imp (Nat.le_refl _) (Nat.le_refl _) fun _ h => RS.o h).tk w2.tk, ie, ne.j, ne.2, fun H3 t3 _ _ _ w3 d3 => q H3 t3 (w12.trans w3) (d3.dr.imp (by omega) (by omega) fun _ h => ⟨h.1, h.2.1⟩)⟩
    by_cases h3 : way = 3
    · subst h3
      refine ⟨_, rfl, rfl, _, rfl, iteT' (decide_eq_true rfl) ?_⟩
      refine ⟨_, rfl, _, rfl, _, rfl, st, pg, gs, g, m, rfl, hw, hg, hm, by omega, fun _ H1 w1 => ?_, fun H1 v p w1 ip ty wp hp bp => ?_⟩
      · refine ⟨_, rfl, rfl, _, rfl, iteF' (by decide) ?_⟩
        exact ⟨_, rfl, rfl, _, rfl, iteF' (ne_int (by decide)) ⟨_, rfl, rfl, _, rfl, iteF' (ne_int (by decide)) ⟨_, rfl, _, rfl, _, rfl, _, rfl, strt w1⟩⟩⟩
      · obtain ⟨pa, xs, rfl, _, _⟩ := ip.kid
        refine ⟨_, rfl, rfl, _, rfl, iteT' (by rw [decide_eq_false (fun z => nomatch z)]; rfl) ?_⟩
        refine ⟨_, rfl, _, rfl, st, rfl, w1.w1, fun H2 v1 s1 w2 i1 n1 => ⟨_, rfl, st, rfl, w2.w1, fun H3 v2 s2 w3 i2 n2 => ⟨sz3, fun c nc => ?_⟩⟩⟩
        have k1 := same_new (o := .tup [.str j.s, v1, v2]) nc
        have w13 := ((w1.trans w2).trans w3).then k1
        have ic : IsSm K (upd H3 c (.tup [.str j.s, v1, v2])) (.ref c) (.bin j s1 s2) := .bin (.inl (.inl upd_same)) ((i1.tk w3.tk).same k1) (i2.same k1)
        have ip3 := ((ip.tk w2.tk).tk w3.tk).same k1
        generalize upd H3 c (.tup [.str j.s, v1, v2]) = H4 at w13 ic ip3 ⊢
        refine ⟨_, rfl, _, rfl, sz3, fun u nu => ⟨_, rfl, sz2, fun t nt => ?_⟩⟩
        have r1 := same_new (o := .tup [.str "escape", .ref pa, .ref c]) nu
        have r2 := same_new (o := .tup [.ref u, .ref c]) nt
        have r12 := r1.trans r2
        have d1 := n1.1
        have d2 := n2.1
        exact q _ t (w13.then r12) ⟨.ref u, .ref c, .escape p (.bin j s1 s2), .bin j s1 s2, .inl (.inl upd_same), .escape (.inl (.inl (r2 _ _ upd_same))) (ip3.same r12) (ic.same r12), ic.same r12, .escape ty, by show p.nn + 1 ≤ _; omega, by show p.ht + 1 ≤ _; omega, ⟨bp, ⟨by show max s1.dp s2.dp + 1 ≤ 30; omega, n1.2, n2.2⟩⟩, ⟨n1.2, n2.2⟩, by show max s1.dp s2.dp + 1 ≤ 26; omega, _, _, rfl⟩
    refine ⟨_, rfl, rfl, _, rfl, iteF' (ne_int h3) ?_⟩
    by_cases h4 : way = 4
    · subst h4
      refine ⟨_, rfl, rfl, _, rfl, iteT' (decide_eq_true rfl) ?_⟩
      refine ⟨_, rfl, _, rfl, _, rfl, _, rfl, st, pg, gs, g, m, j, rfl, hw, hg, hm, by omega, fun H1 t w1 d => ?_⟩
      obtain ⟨v1, va, p1, a, hT, ip, ia, ty, hW, hh, hb, ca, ja, x, y, rfl⟩ := d
      refine ⟨t, _, rfl, hT, rfl, _, _, rfl, _, _, rfl, rfl, ?_⟩
      refine ⟨_, rfl, _, rfl, _, rfl, st, pg, gs, g, m, rfl, w1.w1, hg.wd w1, hm, by omega, fun H2 t2 w2 d => ?_⟩
      obtain ⟨v2, vb, p2, b, hT2, ip2, ib, ty2, hW2, hh2, hb2, cb, jb⟩ := d
      refine ⟨t2, _, rfl, hT2, rfl, _, _, rfl, _, _, rfl, rfl, ?_⟩
      refine ⟨_, rfl, st, 2, rfl, w2.w1, by decide, by decide, fun H3 r w3 _ _ => ?_⟩
      have w13 := (w1.trans w2).trans w3
      have ip3 := (ip.tk w2.tk).tk w3.tk
      have ia3 := (ia.tk w2.tk).tk w3.tk
      have ip23 := ip2.tk w3.tk
      have da := Nat.le_trans (Sm.dp_joints _) ja
      refine ⟨rfl, _, rfl, ite2 (fun _ => ?_) (fun _ => ?_)⟩
      · refine ⟨_, rfl, _, rfl, sz3, fun u nu => ⟨sz2, fun e ne => ⟨_, rfl, sz2, fun t3 nt => ?_⟩⟩⟩
        have r1 := same_new (o := .tup [.str "pair", v1, v2]) nu
        have r2 := same_new (o := .tup [.str "first", .ref u]) ne
        have r3 := same_new (o := .tup [.ref e, va]) nt
        have r23 := r2.trans r3
        have r13 := r1.trans r23
        exact q _ t3 (w13.then r13) ⟨.ref e, va, .first (.pair p1 p2), _, .inl (.inl upd_same), .first (.inl (.inl (r3 _ _ upd_same))) (.pair (.inl (.inl (r23 _ _ upd_same))) (ip3.same r13) (ip23.same r13)), ia3.same r13, .first (.pair ty ty2), by show p1.nn + p2.nn + 1 + 1 ≤ _; omega, by show max p1.ht p2.ht + 1 + 1 ≤ _; omega, ⟨hb, hb2⟩, ca, by omega, _, _, rfl⟩
      · refine ⟨_, rfl, _, rfl, sz3, fun u nu => ⟨sz2, fun e ne => ⟨_, rfl, sz2, fun t3 nt => ?_⟩⟩⟩
        have r1 := same_new (o := .tup [.str "pair", v2, v1]) nu
        have r2 := same_new (o := .tup [.str "second", .ref u]) ne
        have r3 := same_new (o := .tup [.ref e, va]) nt
        have r23 := r2.trans r3
        have r13 := r1.trans r23
        exact q _ t3 (w13.then r13) ⟨.ref e, va, .second (.pair p2 p1), _, .inl (.inl upd_same), .second (.inl (.inl (r3 _ _ upd_same))) (.pair (.inl (.inl (r23 _ _ upd_same))) (ip23.same r13) (ip3.same r13)), ia3.same r13, .second (.pair ty2 ty), by show p2.nn + p1.nn + 1 + 1 ≤ _; omega, by show max p2.ht p1.ht + 1 + 1 ≤ _; omega, ⟨hb2, hb⟩, ca, by omega, _, _, rfl⟩
    refine ⟨_, rfl, rfl, _, rfl, iteF' (ne_int h4) ?_⟩
    by_cases h5 : way = 5
    · subst h5
      refine ⟨_, rfl, rfl, _, rfl, iteT' (decide_eq_true rfl) ?_⟩
      refine ⟨_, rfl, _, rfl, _, rfl, st, pg, gs, g, m, rfl, hw, hg, hm, by omega, fun H1 t w1 d => ?_⟩
      obtain ⟨v2, va, p2, a, hT, ip, ia, ty, hW, hh, hb, ca, ja⟩ := d
      have ja : a.joints ≤ 24 := ja
      have da := Nat.le_trans (Sm.dp_joints a) ja
      refine ⟨t, _, rfl, hT, rfl, _, _, rfl, _, _, rfl, rfl, ?_⟩
      have g1 := hg.wd w1
      refine ⟨_, rfl, _, rfl, _, rfl, sz1, fun p np => ⟨pg, p, gs, [va], rfl, rfl, (same_new np) _ _ g1.at_, upd_same, small' (by rw [List.length_singleton]; omega), fun l nl => ⟨_, rfl, _, rfl, ?_⟩⟩⟩
      generalize eH : upd (upd H1 p (.lst [va])) l (.lst (gs ++ [va])) = H3
      obtain ⟨w3, s3, g3⟩ := g1.snoc w1.w1 np nl ia ja ca eH
      refine ⟨st, l, _, _, m, j, rfl, w3.w1, g3, hm, by rw [List.length_append, List.length_singleton]; omega, fun H4 t4 w4 d => ?_⟩
      obtain ⟨v1, vb, p1, b, hT1, ip1, ib, ty1, hW1, hh1, hb1, cb, jb, x, y, rfl⟩ := d
      have db := Nat.le_trans (Sm.dp_joints _) jb
      refine ⟨t4, _, rfl, hT1, rfl, _, _, rfl, _, _, rfl, rfl, ?_⟩
      have w14 := (w1.trans w3).trans w4
      have ip4 := (ip.same s3).tk w4.tk
      have ia4 := (ia.same s3).tk w4.tk
      refine ⟨_, rfl, _, rfl, sz3, fun u nu => ⟨_, rfl, sz3, fun e ne => ⟨_, rfl, sz2, fun t3 nt => ?_⟩⟩⟩
      have r1 := same_new (o := .tup [.str "make", va, v1]) nu
      have r2 := same_new (o := .tup [.str "apply", .ref u, v2]) ne
      have r3 := same_new (o := .tup [.ref e, vb]) nt
      have r23 := r2.trans r3
      have r13 := r1.trans r23
      exact q _ t3 (w14.then r13) ⟨.ref e, vb, .apply (.make a p1) p2, _, .inl (.inl upd_same), .apply (.inl (.inl (r3 _ _ upd_same))) (.make (.inl (.inl (r23 _ _ upd_same))) (ip1.same r13) (ia4.same r13)) (ip4.same r13), ib.same r13, .apply (.make ty1) ty, by show p1.nn + 1 + p2.nn + 1 ≤ _; omega, by show max (p1.ht + 1) p2.ht + 1 ≤ _; omega, ⟨⟨hb1, ⟨by omega, ca⟩⟩, hb⟩, cb, by omega, _, _, rfl⟩
    refine ⟨_, rfl, rfl, _, rfl, iteF' (ne_int h5) ?_⟩
    exact ⟨_, rfl, _, rfl, _, rfl, _, rfl, strt (Wd.refl hw)⟩
/-! ### _law_way -/
theorem ok_law_way (T : Txt w K mg) (c__law_draw : Cl P w K mg base 1 "_law_draw" (sp_draw K)) (c__law_statement : Cl P w K mg base 3 "_law_statement" (sp_law_statement K)) {n : Nat} (c__law_shaped : Cl P w K mg base (36 + 6 * n) "_law_shaped" (sp_law_shaped K BK (n + 1))) (c__law_arms : Cl P w K mg base (32 + 6 * n) "_law_arms" (sp_law_arms K BK n)) (c__law_never : Cl P w K mg base (36 + 6 * n) "_law_never" (sp_law_never K BK (n + 1))) (c__law_grown : Cl P w K mg base (37 + 6 * n) "_law_grown" (sp_law_grown K BK (n + 1))) : Cl P w K mg base (38 + 6 * n) "_law_way" (sp_law_way K BK (n + 1)) := by
  refine Cl.mono (j := 37 + 6 * n + 1) (T.d_law_way.ok (k := 37 + 6 * n) sc_law_way (fun vs H Q E h => ?_) (fun f cdv A outer s H vs Q E hr h => ?_)) (by omega)
  · obtain ⟨st, pg, gs, g, f, va, a, rfl, _⟩ := h
    rfl
  · obtain ⟨st, pg, gs, g, m, va, a, rfl, hw, hg, hm, hl, ia, ja, ca, q⟩ := h
    refine ⟨_, (pss_cons (ps_set (i := 4) sc_law_way.nd rfl (Or.inl rfl) (pe_k c__law_draw hr (by omega) rfl (pa_cons (pv 0) (pa_cons pe_int pa_nil))))
    (pss_cutO (ps_if (PW.pt (pw_and (pt_cmpR op_eq (pv 4) pe_int (nomark _)) (pw_and1 (pt_cmpR op_gt (pv 2) pe_int (nomark _)))))
      (pss_cons (ps_set (i := 5) sc_law_way.nd rfl (Or.inl rfl) (pe_k c__law_shaped hr (by omega) rfl (pa_cons (pv 0) (pa_cons (pv 1) (pa_cons (pe_op op_sub (pv 2) pe_int) (pa_cons pe_str pa_nil))))))
        (pss_one (ps_ret (pe_k c__law_arms hr (by omega) rfl (pa_cons (pv 0) (pa_cons (pv 1) (pa_cons (pe_op op_sub (pv 2) pe_int) (pa_cons (pv 5) (pa_cons pe_str (pa_cons (pv 3) pa_nil))))))))))
      pss_nil)
    (pss_cons (ps_set (i := 6) sc_law_way.nd rfl (Or.inl rfl) (pe_k c__law_never hr (by omega) rfl (pa_cons (pv 0) (pa_cons (pv 1) (pa_cons (pv 2) pa_nil)))))
    (pss_cutO (ps_if (PW.pt (pw_and (pt_cmpR op_eq (pv 4) pe_int (nomark _)) (pw_and1 (pt_cmpR op_notN (pv 6) pe_non (nomark _)))))
      (pss_cons (ps_set (i := 7) sc_law_way.nd rfl (Or.inl rfl) (pe_tup (pa_cons pe_str (pa_cons (pv 3) (pa_cons (pe_k c__law_statement hr (by omega) rfl (pa_cons (pv 0) pa_nil)) pa_nil)))))
        (pss_one (ps_ret (pe_tup (pa_cons (pe_tup (pa_cons pe_str (pa_cons (pv 6) (pa_cons (pv 7) pa_nil)))) (pa_cons (pv 7) pa_nil))))))
      pss_nil)
    (pss_cons (ps_asg (pe_k c__law_grown hr (by omega) rfl (pa_cons (pv 0) (pa_cons (pe_op op_cat (pv 1) (pe_lst (pa_cons (pv 3) pa_nil))) (pa_cons (pe_callB (call_max2 rfl) rfl T.n_max (by decide +kernel) (pa_cons pe_int (pa_cons (pe_op op_sub (pv 2) pe_int) pa_nil))) pa_nil)))) (pg_tup rfl (pgs_cons (pg_name (i := 8) sc_law_way.nd rfl (Or.inl rfl)) (pgs_cons (pg_name (i := 9) sc_law_way.nd rfl (Or.inl rfl)) pgs_nil))))
    (pss_one (ps_ret (pe_tup (pa_cons (pe_tup (pa_cons pe_str (pa_cons (pv 3) (pa_cons (pv 8) pa_nil)))) (pa_cons (pe_tup (pa_cons pe_str (pa_cons (pv 3) (pa_cons (pv 9) pa_nil)))) pa_nil)))))))))), ?_⟩
    have hln := hg.ln
    have da := Nat.le_trans (Sm.dp_joints a) ja
    have ne_int : ∀ {a b : Int}, a ≠ b → decide (V.int a = V.int b) = false := fun h => decide_eq_false fun e => h (by injection e)
    refine ⟨_, rfl, st, 4, rfl, hw, by decide, by decide, fun H1 r w1 r0 r1 => ?_⟩
    have g1 := hg.wd w1
    refine ⟨fun σ' H' => σ' = [some (.ref st), some (.ref pg), some (.int (m : Nat)), some va, some (.int r), none, none, none, none, none] ∧ H' = H1, ?_, fun σ' H2 hm2 => ?_⟩
    · by_cases hr0 : r = 0
      · refine ⟨_, rfl, rfl, _, rfl, iteT' (decide_eq_true (by rw [hr0])) ⟨_, rfl, _, _, rfl, rfl, _, rfl, ite2 (fun hf => ?_) (fun _ => ⟨rfl, rfl⟩)⟩⟩
        obtain ⟨f', rfl⟩ : ∃ f', m = f' + 1 := ⟨m - 1, by
          have : (0 : Int) < (m : Int) := of_decide_eq_true hf
          omega⟩
        have wS : nB (f' + 1) = 3 * nB f' + 9 := rfl
        have hS : hB (f' + 1) = hB f' + 3 := by unfold hB; omega
        have em : ((f' + 1 : Nat) : Int) - 1 = (f' : Int) := by omega
        refine ⟨_, rfl, _, rfl, _, rfl, _, _, rfl, rfl, st, pg, gs, g, f', .or, ?_, w1.w1, g1, by omega, by omega, fun H2 t w2 d => ?_⟩
        · show [V.ref st, V.ref pg, V.int (((f' + 1 : Nat) : Int) - 1), V.str "or"] = _
          rw [em]
          rfl
        have w12 := w1.trans w2
        obtain ⟨p0, dp⟩ := d.p
        refine ⟨_, rfl, _, rfl, _, rfl, _, _, rfl, rfl, _, rfl, _, rfl, st, pg, gs, g, f', t, .thn, va, a, _, _, p0, ?_, w2.w1, hg.wd w12, by omega, by omega, dp.imp (Nat.le_refl _) (Nat.le_refl _) (fun _ h => RS.o h), ia.tk w12.tk, ja, ca, fun H3 t3 _ _ _ w3 d3 => q H3 t3 (w12.trans w3) (d3.dr.imp (by omega) (by omega) fun _ h => ⟨h.1, h.2.2.1 rfl⟩)⟩
        show [V.ref st, V.ref pg, V.int (((f' + 1 : Nat) : Int) - 1), V.ref t, V.str "then", va] = _
        rw [em]
        rfl
      · exact ⟨_, rfl, rfl, _, rfl, iteF' (ne_int hr0) (iteF ⟨rfl, rfl⟩)⟩
    obtain ⟨rfl, rfl⟩ := hm2
    have b12 := nB_5 m
    refine ⟨_, rfl, _, rfl, _, rfl, st, pg, gs, g, m, rfl, w1.w1, g1, hm, by omega, fun _ H3 w3 => ?_, fun H3 v p w3 ip ty wp hp bp => ?_⟩
    · refine ⟨fun σ' H' => ∃ y6 : Option V, σ' = [some (.ref st), some (.ref pg), some (.int (m : Nat)), some va, some (.int r), none, y6, none, none, none] ∧ Wd st H H', ?_, fun σ' H4 hm4 => ?_⟩
      · by_cases hr1 : r = 1
        · exact ⟨_, rfl, rfl, _, rfl, iteT' (decide_eq_true (by rw [hr1])) ⟨_, rfl, rfl, _, rfl, iteF' (by decide) ⟨_, rfl, w1.trans w3⟩⟩⟩
        · exact ⟨_, rfl, rfl, _, rfl, iteF' (ne_int hr1) (iteF ⟨_, rfl, w1.trans w3⟩)⟩
      obtain ⟨y6, rfl, w4⟩ := hm4
      have g4 := hg.wd w4
      have ia4 := ia.tk w4.tk
      refine ⟨_, rfl, _, rfl, _, rfl, sz1, fun p np => ⟨pg, p, gs, [va], rfl, rfl, (same_new np) _ _ g4.at_, upd_same, small' (by rw [List.length_singleton]; omega), fun l nl => ⟨_, rfl, _, _, rfl, rfl, _, _, rfl, ?_⟩⟩⟩
      generalize eH : upd (upd H4 p (.lst [va])) l (.lst (gs ++ [va])) = H5
      obtain ⟨w5, s5, g5⟩ := g4.snoc w4.w1 np nl ia4 ja ca eH
      have bm := nB_mono (f := m - 1) (m := m) (by omega)
      have hbm : hB (m - 1) ≤ hB m := by unfold hB; omega
      refine ⟨st, l, _, _, m - 1, ?_, w5.w1, g5, by omega, by rw [List.length_append, List.length_singleton]; omega, fun H6 t w6 d => ?_⟩
      · have e : (if (m : Int) - 1 > 0 then (m : Int) - 1 else 0) = ((m - 1 : Nat) : Int) := by split <;> omega
        show [V.ref st, V.ref l, V.int (if (m : Int) - 1 > 0 then (m : Int) - 1 else 0)] = _
        rw [e]
      obtain ⟨v1, vb, p1, b, hT, ip1, ib, ty1, hW1, hh1, hb1, cb, jb⟩ := d
      have jb : b.joints ≤ 24 := jb
      have db := Nat.le_trans (Sm.dp_joints b) jb
      refine ⟨t, _, rfl, hT, rfl, _, _, rfl, _, _, rfl, rfl, ?_⟩
      refine ⟨_, rfl, _, rfl, sz3, fun u nu => ⟨_, rfl, _, rfl, sz3, fun e ne => ⟨sz2, fun t3 nt => ?_⟩⟩⟩
      have r1 := same_new (o := .tup [.str "make", va, v1]) nu
      have r2 := same_new (o := .tup [.str "then", va, vb]) ne
      have r3 := same_new (o := .tup [.ref u, .ref e]) nt
      have r23 := r2.trans r3
      have r13 := r1.trans r23
      have ia6 := ((ia4.same s5).tk w6.tk).same r13
      exact q _ t3 (((w4.trans w5).trans w6).then r13) ⟨.ref u, .ref e, .make a p1, .bin .thn a b, .inl (.inl upd_same), .make (.inl (.inl (r23 _ _ upd_same))) (ip1.same r13) ia6, .bin (.inl (.inl (r3 _ _ upd_same))) ia6 (ib.same r13), .make ty1, by show p1.nn + 1 ≤ _; omega, by show p1.ht + 1 ≤ _; omega, ⟨hb1, ⟨by omega, ca⟩⟩, ⟨ca, cb⟩, by show max a.dp b.dp + 1 ≤ 26; omega, _, rfl⟩
    · obtain ⟨pa, xs, rfl, _, _⟩ := ip.kid
      refine ⟨fun σ' H' => ∃ y6 : Option V, σ' = [some (.ref st), some (.ref pg), some (.int (m : Nat)), some va, some (.int r), none, y6, none, none, none] ∧ Wd st H H', ?_, fun σ' H4 hm4 => ?_⟩
      · by_cases hr1 : r = 1
        · refine ⟨_, rfl, rfl, _, rfl, iteT' (decide_eq_true (by rw [hr1])) ⟨_, rfl, rfl, _, rfl, iteT' (by rw [decide_eq_false (fun z => nomatch z)]; rfl) ?_⟩⟩
          have w13 := w1.trans w3
          refine ⟨_, rfl, _, rfl, st, rfl, w3.w1, fun H4 v2 s2 w4 i2 n2 => ⟨sz3, fun c nc => ?_⟩⟩
          have k1 := same_new (o := .tup [.str "then", va, v2]) nc
          have w14 := (w13.trans w4).then k1
          have ic : IsSm K (upd H4 c (.tup [.str "then", va, v2])) (.ref c) (.bin .thn a s2) := .bin (.inl (.inl upd_same)) ((ia.tk (w13.trans w4).tk).same k1) (i2.same k1)
          have ip4 := (ip.tk w4.tk).same k1
          generalize upd H4 c (.tup [.str "then", va, v2]) = H5 at w14 ic ip4 ⊢
          refine ⟨_, rfl, _, rfl, sz3, fun u nu => ⟨_, rfl, sz2, fun t nt => ?_⟩⟩
          have r1 := same_new (o := .tup [.str "escape", .ref pa, .ref c]) nu
          have r2 := same_new (o := .tup [.ref u, .ref c]) nt
          have r12 := r1.trans r2
          have d2 := n2.1
          exact q _ t (w14.then r12) ⟨.ref u, .ref c, .escape p (.bin .thn a s2), .bin .thn a s2, .inl (.inl upd_same), .escape (.inl (.inl (r2 _ _ upd_same))) (ip4.same r12) (ic.same r12), ic.same r12, .escape ty, by show p.nn + 1 ≤ _; omega, by show p.ht + 1 ≤ _; omega, ⟨bp, ⟨by show max a.dp s2.dp + 1 ≤ 30; omega, ca, n2.2⟩⟩, ⟨ca, n2.2⟩, by show max a.dp s2.dp + 1 ≤ 26; omega, _, rfl⟩
        · exact ⟨_, rfl, rfl, _, rfl, iteF' (ne_int hr1) (iteF ⟨_, rfl, w1.trans w3⟩)⟩
      obtain ⟨y6, rfl, w4⟩ := hm4
      have g4 := hg.wd w4
      have ia4 := ia.tk w4.tk
      refine ⟨_, rfl, _, rfl, _, rfl, sz1, fun p np => ⟨pg, p, gs, [va], rfl, rfl, (same_new np) _ _ g4.at_, upd_same, small' (by rw [List.length_singleton]; omega), fun l nl => ⟨_, rfl, _, _, rfl, rfl, _, _, rfl, ?_⟩⟩⟩
      generalize eH : upd (upd H4 p (.lst [va])) l (.lst (gs ++ [va])) = H5
      obtain ⟨w5, s5, g5⟩ := g4.snoc w4.w1 np nl ia4 ja ca eH
      have bm := nB_mono (f := m - 1) (m := m) (by omega)
      have hbm : hB (m - 1) ≤ hB m := by unfold hB; omega
      refine ⟨st, l, _, _, m - 1, ?_, w5.w1, g5, by omega, by rw [List.length_append, List.length_singleton]; omega, fun H6 t w6 d => ?_⟩
      · have e : (if (m : Int) - 1 > 0 then (m : Int) - 1 else 0) = ((m - 1 : Nat) : Int) := by split <;> omega
        show [V.ref st, V.ref l, V.int (if (m : Int) - 1 > 0 then (m : Int) - 1 else 0)] = _
        rw [e]
      obtain ⟨v1, vb, p1, b, hT, ip1, ib, ty1, hW1, hh1, hb1, cb, jb⟩ := d
      have jb : b.joints ≤ 24 := jb
      have db := Nat.le_trans (Sm.dp_joints b) jb
      refine ⟨t, _, rfl, hT, rfl, _, _, rfl, _, _, rfl, rfl, ?_⟩
      refine ⟨_, rfl, _, rfl, sz3, fun u nu => ⟨_, rfl, _, rfl, sz3, fun e ne => ⟨sz2, fun t3 nt => ?_⟩⟩⟩
      have r1 := same_new (o := .tup [.str "make", va, v1]) nu
      have r2 := same_new (o := .tup [.str "then", va, vb]) ne
      have r3 := same_new (o := .tup [.ref u, .ref e]) nt
      have r23 := r2.trans r3
      have r13 := r1.trans r23
      have ia6 := ((ia4.same s5).tk w6.tk).same r13
      exact q _ t3 (((w4.trans w5).trans w6).then r13) ⟨.ref u, .ref e, .make a p1, .bin .thn a b, .inl (.inl upd_same), .make (.inl (.inl (r23 _ _ upd_same))) (ip1.same r13) ia6, .bin (.inl (.inl (r3 _ _ upd_same))) ia6 (ib.same r13), .make ty1, by show p1.nn + 1 ≤ _; omega, by show p1.ht + 1 ≤ _; omega, ⟨hb1, ⟨by omega, ca⟩⟩, ⟨ca, cb⟩, by show max a.dp b.dp + 1 ≤ 26; omega, _, rfl⟩
/-! ### _law_grown -/
/-- all that draw, for so many levels -/
structure Drawn (P : Program) (w : World) (K : PySem.W.Frag) (mg : Str → Option Value) (base : Heap) (n : Nat) : Prop where
  shaped : Cl P w K mg base (30 + 6 * n) "_law_shaped" (sp_law_shaped K BK n)
  never : Cl P w K mg base (30 + 6 * n) "_law_never" (sp_law_never K BK n)
  grown : Cl P w K mg base (31 + 6 * n) "_law_grown" (sp_law_grown K BK n)
  arms : Cl P w K mg base (32 + 6 * n) "_law_arms" (sp_law_arms K BK n)
  straight : Cl P w K mg base (32 + 6 * n) "_law_straight" (sp_law_straight K BK n)
  way : Cl P w K mg base (32 + 6 * n) "_law_way" (sp_law_way K BK n)
  shaped_by : Cl P w K mg base (33 + 6 * n) "_law_shaped_by" (sp_law_shaped_by K BK n)
set_option maxHeartbeats 2000000 in
theorem st_law_grown (T : Txt w K mg) (c__law_draw : Cl P w K mg base 1 "_law_draw" (sp_draw K)) (c__law_small : Cl P w K mg base 4 "_law_small" (sp_law_small K BK)) (c__law_joints : Cl P w K mg base 32 "_law_joints" (sp_law_joints K 32)) (c__law_statement : Cl P w K mg base 3 "_law_statement" (sp_law_statement K)) {n : Nat} (c__law_shaped : Cl P w K mg base (36 + 6 * n) "_law_shaped" (sp_law_shaped K BK (n + 1))) (c__law_arms : Cl P w K mg base (32 + 6 * n) "_law_arms" (sp_law_arms K BK n)) (c__law_way : Cl P w K mg base (32 + 6 * n) "_law_way" (sp_law_way K BK n)) (c__law_grown : Cl P w K mg base (31 + 6 * n) "_law_grown" (sp_law_grown K BK n)) : Cl P w K mg base (37 + 6 * n) "_law_grown" (sp_law_grown K BK (n + 1)) := by
  refine Cl.mono (j := 36 + 6 * n + 1) (T.d_law_grown.ok (k := 36 + 6 * n) sc_law_grown (fun vs H Q E h => ?_) (fun f cdv A outer s H vs Q E hr h => ?_)) (by omega)
  · obtain ⟨st, pg, gs, g, f, rfl, _⟩ := h
    rfl
  · obtain ⟨st, pg, gs, g, m, rfl, hw, hg, hm, hl, q⟩ := h
    refine ⟨_, (pss_cons (ps_set (i := 3) sc_law_grown.nd rfl (Or.inl rfl) (pe_k c__law_draw hr (by omega) rfl (pa_cons (pv 0) (pa_cons pe_int pa_nil))))
    (pss_cons (ps_if (PW.pt (pw_or (pt_cmpR op_eq (pv 2) pe_int (nomark _)) (pw_or1 (pt_cmpR op_eq (pv 3) pe_int (nomark _)))))
      (pss_one (ps_ret (pe_k c__law_small hr (by omega) rfl (pa_cons (pv 0) (pa_cons (pv 1) pa_nil)))))
      pss_nil)
    (pss_cons (ps_set (i := 4) sc_law_grown.nd rfl (Or.inl rfl) (pe_ix (r := rIxL K) ix_list (pe_lst (pa_cons pe_str (pa_cons pe_str (pa_cons pe_str pa_nil)))) (pe_k c__law_draw hr (by omega) rfl (pa_cons (pv 0) (pa_cons pe_int pa_nil))) (fun _ _ => rfl)))
    (pss_cutO (ps_if (pt_cmpR op_eq (pv 3) pe_int (nomark _))
      (pss_cons (ps_asg (pe_k c__law_shaped hr (by omega) rfl (pa_cons (pv 0) (pa_cons (pv 1) (pa_cons (pe_op op_sub (pv 2) pe_int) (pa_cons pe_str pa_nil))))) (pg_tup rfl (pgs_cons (pg_name (i := 5) sc_law_grown.nd rfl (Or.inl rfl)) (pgs_cons (pg_name (i := 6) sc_law_grown.nd rfl (Or.inl rfl)) pgs_nil))))
        (pss_one (ps_set (i := 7) sc_law_grown.nd rfl (Or.inl rfl) (pe_ix (r := rIxL K) ix_list (pe_lst (pa_cons (pe_tup (pa_cons (pe_tup (pa_cons pe_str (pa_cons (pv 5) pa_nil))) (pa_cons (pe_ix (r := rIxT K) ix_tup (pv 6) pe_int (fun _ _ => rfl)) pa_nil))) (pa_cons (pe_tup (pa_cons (pe_tup (pa_cons pe_str (pa_cons (pv 5) pa_nil))) (pa_cons (pe_ix (r := rIxT K) ix_tup (pv 6) pe_int (fun _ _ => rfl)) pa_nil))) pa_nil))) (pe_k c__law_draw hr (by omega) rfl (pa_cons (pv 0) (pa_cons pe_int pa_nil))) (fun _ _ => rfl)))))
      (pss_one (ps_if (pt_cmpR op_eq (pv 3) pe_int (nomark _))
          (pss_cons (ps_asg (pe_k c__law_grown hr (by omega) rfl (pa_cons (pv 0) (pa_cons (pv 1) (pa_cons (pe_op op_sub (pv 2) pe_int) pa_nil)))) (pg_tup rfl (pgs_cons (pg_name (i := 8) sc_law_grown.nd rfl (Or.inl rfl)) (pgs_cons (pg_name (i := 6) sc_law_grown.nd rfl (Or.inl rfl)) pgs_nil))))
            (pss_cons (ps_asg (pe_k c__law_way hr (by omega) rfl (pa_cons (pv 0) (pa_cons (pv 1) (pa_cons (pe_op op_sub (pv 2) pe_int) (pa_cons (pv 6) pa_nil))))) (pg_tup rfl (pgs_cons (pg_name (i := 5) sc_law_grown.nd rfl (Or.inl rfl)) (pgs_cons (pg_name (i := 9) sc_law_grown.nd rfl (Or.inl rfl)) pgs_nil))))
            (pss_one (ps_set (i := 7) sc_law_grown.nd rfl (Or.inl rfl) (pe_tup (pa_cons (pe_tup (pa_cons pe_str (pa_cons (pv 5) (pa_cons (pv 8) pa_nil)))) (pa_cons (pe_ix (r := rIxT K) ix_tup (pv 9) pe_int (fun _ _ => rfl)) pa_nil)))))))
          (pss_one (ps_if (pt_cmpR op_eq (pv 3) pe_int (nomark _))
              (pss_cons (ps_set (i := 10) sc_law_grown.nd rfl (Or.inl rfl) (pe_k c__law_shaped hr (by omega) rfl (pa_cons (pv 0) (pa_cons (pv 1) (pa_cons (pe_op op_sub (pv 2) pe_int) (pa_cons pe_str pa_nil))))))
                (pss_one (ps_set (i := 7) sc_law_grown.nd rfl (Or.inl rfl) (pe_k c__law_arms hr (by omega) rfl (pa_cons (pv 0) (pa_cons (pv 1) (pa_cons (pe_op op_sub (pv 2) pe_int) (pa_cons (pv 10) (pa_cons (pv 4) (pa_cons (pe_k c__law_statement hr (by omega) rfl (pa_cons (pv 0) pa_nil)) pa_nil))))))))))
              (pss_one (ps_set (i := 7) sc_law_grown.nd rfl (Or.inl rfl) (pe_k c__law_shaped hr (by omega) rfl (pa_cons (pv 0) (pa_cons (pv 1) (pa_cons (pv 2) (pa_cons (pv 4) pa_nil))))))))))))
    (pss_cons (ps_if (pt_cmpR op_gt (pe_k c__law_joints hr (by omega) rfl (pa_cons (pe_ix (r := rIxT K) ix_tup (pv 7) pe_int (fun _ _ => rfl)) pa_nil)) pe_int (nomark _))
      (pss_one (ps_ret (pe_k c__law_small hr (by omega) rfl (pa_cons (pv 0) (pa_cons (pv 1) pa_nil)))))
      pss_nil)
    (pss_one (ps_ret (pv 7)))))))), ?_⟩
    have hln := hg.ln
    have b12 := nB_5 m
    have h2 : 2 ≤ hB m := by unfold hB; omega
    have ne_int : ∀ {a b : Int}, a ≠ b → decide (V.int a = V.int b) = false := fun h => decide_eq_false fun e => h (by injection e)
    have small_ : ∀ {H0 : Hp}, Wd st H H0 → sp_law_small K BK [.ref st, .ref pg] H0 Q E0 := fun {H0} w0 => ⟨st, pg, gs, g, rfl, w0.w1, hg.wd w0, by omega, fun H4 t w4 d => q H4 t (w0.trans w4) (d.imp b12 h2 fun _ h => h)⟩
    refine ⟨_, rfl, st, 6, rfl, hw, by decide, by decide, fun H1 r w1 r0 r1 => ?_⟩
    refine or_ints rfl rfl (fun _ => iteT ⟨_, rfl, _, rfl, small_ w1⟩) (fun hm0 _ => iteF ?_)
    obtain ⟨f', rfl⟩ : ∃ f', m = f' + 1 := ⟨m - 1, by omega⟩
    have wS : nB (f' + 1) = 3 * nB f' + 9 := rfl
    have hS : hB (f' + 1) = hB f' + 3 := by unfold hB; omega
    have em : ((f' + 1 : Nat) : Int) - 1 = (f' : Int) := by omega
    refine ⟨sz3, fun l nl => ?_⟩
    have s2 : Same H1 (upd H1 l (.lst [.str "and", .str "or", .str "then"])) := same_new nl
    have hl2 : (upd H1 l (.lst [V.str "and", .str "or", .str "then"])) l = some (.lst [.str "and", .str "or", .str "then"]) := upd_same
    have nls : l ≠ st := Wd.ne w1.w1 nl
    generalize upd H1 l (.lst [.str "and", .str "or", .str "then"]) = H2 at s2 hl2 ⊢
    have w2 := w1.then s2
    refine ⟨_, rfl, st, 3, rfl, w2.w1, by decide, by decide, fun H3 z w3 z0 z1 => ?_⟩
    obtain ⟨k, rfl, hk⟩ := nat_lt (n := 3) z0 z1
    obtain ⟨j, hj⟩ := word3 hk
    refine ⟨l, _, _, _, rfl, rfl, SqL.of (w3.bt _ _ nls hl2), atI_nat hj, ?_⟩
    have w03 := w2.trans w3
    have g3 := hg.wd w03
    refine ⟨fun σ' H' => ∃ (t : Addr) (y5 y6 y8 y9 y10 : Option V), σ' = [some (.ref st), some (.ref pg), some (.int ((f' + 1 : Nat) : Int)), some (.int r), some (.str j.s), y5, y6, some (.ref t), y8, y9, y10] ∧ Wd st H H' ∧ Dr K BK H' t g (nB (f' + 1)) (hB (f' + 1)) (fun a => a.dp ≤ 26), ?_, fun σ' H4 hm4 => ?_⟩
    · by_cases r1 : r = 1
      · subst r1
        refine ⟨_, rfl, rfl, _, rfl, iteT' (decide_eq_true rfl) ?_⟩
        refine ⟨_, rfl, _, rfl, _, rfl, _, _, rfl, rfl, st, pg, gs, g, f', .and, ?_, w3.w1, g3, by omega, by omega, fun H4 t w4 d => ?_⟩
        · show [V.ref st, V.ref pg, V.int (((f' + 1 : Nat) : Int) - 1), V.str "and"] = _
          rw [em]
          rfl
        obtain ⟨v1, va, p1, a, hT, ip, ia, ty, hW, hh, hb, ca, ja, x, y, rfl⟩ := d
        have ja : x.joints + y.joints + 1 ≤ 24 := ja
        have dx := Nat.le_trans (Sm.dp_joints x) (show x.joints ≤ 24 by omega)
        have dy := Nat.le_trans (Sm.dp_joints y) (show y.joints ≤ 24 by omega)
        refine ⟨t, _, rfl, hT, rfl, _, _, rfl, _, _, rfl, rfl, ?_⟩
        have w04 := w03.trans w4
        cases ia with
        | @bin aa _ vx vy _ _ hA ix iy =>
          refine ⟨_, rfl, sz2, fun a1 n1 => ⟨_, rfl, aa, _, _, _, rfl, rfl, seqT (same_new n1) hA, at1, sz2, fun b1 m1 => ⟨_, rfl, sz2, fun a2 n2 => ⟨_, rfl, aa, _, _, _, rfl, rfl, seqT (((same_new n1).trans (same_new m1)).trans (same_new n2)) hA, at2, sz2, fun b2 m2 => ⟨sz2, fun ls nls => ?_⟩⟩⟩⟩⟩
          have k1 := same_new (o := .tup [.str "first", v1]) n1
          have k2 := same_new (o := .tup [.ref a1, vx]) m1
          have k3 := same_new (o := .tup [.str "second", v1]) n2
          have k4 := same_new (o := .tup [.ref a2, vy]) m2
          have k5 := same_new (o := .lst [.ref b1, .ref b2]) nls
          have k45 := k4.trans k5
          have k35 := k3.trans k45
          have k25 := k2.trans k35
          have k15 := k1.trans k25
          have h1 := k35 _ _ (upd_same (H := upd H4 a1 (.tup [.str "first", v1])) (a := b1) (o := .tup [.ref a1, vx]))
          have h2 := k5 _ _ (upd_same (H := upd (upd (upd H4 a1 (.tup [.str "first", v1])) b1 (.tup [.ref a1, vx])) a2 (.tup [.str "second", v1])) (a := b2) (o := .tup [.ref a2, vy]))
          have i1 : IsPp K (upd (upd (upd (upd (upd H4 a1 (.tup [.str "first", v1])) b1 (.tup [.ref a1, vx])) a2 (.tup [.str "second", v1])) b2 (.tup [.ref a2, vy])) ls (.lst [.ref b1, .ref b2])) (.ref a1) (.first p1) := .first (.inl (.inl (k25 _ _ upd_same))) (ip.same k15)
          have i2 : IsPp K (upd (upd (upd (upd (upd H4 a1 (.tup [.str "first", v1])) b1 (.tup [.ref a1, vx])) a2 (.tup [.str "second", v1])) b2 (.tup [.ref a2, vy])) ls (.lst [.ref b1, .ref b2])) (.ref a2) (.second p1) := .second (.inl (.inl (k45 _ _ upd_same))) (ip.same k15)
          have hls : (upd (upd (upd (upd (upd H4 a1 (.tup [.str "first", v1])) b1 (.tup [.ref a1, vx])) a2 (.tup [.str "second", v1])) b2 (.tup [.ref a2, vy])) ls (.lst [.ref b1, .ref b2])) ls = some (.lst [.ref b1, .ref b2]) := upd_same
          have nl2 : ls ≠ st := Wd.ne (Wd.of w4.w1 (k1.trans (k2.trans (k3.trans k4)))).w1 nls
          have ix5 := ix.same k15
          have iy5 := iy.same k15
          generalize upd (upd (upd (upd (upd H4 a1 (.tup [V.str "first", v1])) b1 (.tup [.ref a1, vx])) a2 (.tup [.str "second", v1])) b2 (.tup [.ref a2, vy])) ls (.lst [.ref b1, .ref b2]) = H5 at k15 h1 h2 i1 i2 hls ix5 iy5 ⊢
          have w05 := w04.then k15
          refine ⟨_, rfl, st, 2, rfl, w05.w1, by decide, by decide, fun H6 z w6 z0 z1 => ?_⟩
          obtain ⟨k, rfl, hk⟩ := nat_lt (n := 2) z0 z1
          have hls6 := w6.bt _ _ nl2 hls
          match k, hk with
          | 0, _ => exact ⟨ls, _, _, _, rfl, rfl, SqL.of hls6, atI_nat (j := 0) rfl, b1, _, _, _, _, _, rfl, w05.trans w6, .ref a1, vx, .first p1, x, w6.tk _ _ (.inl (.inl h1)), i1.tk w6.tk, ix5.tk w6.tk, .first ty, by show p1.nn + 1 ≤ _; omega, by show p1.ht + 1 ≤ _; omega, hb, ca.1, by omega⟩
          | 1, _ => exact ⟨ls, _, _, _, rfl, rfl, SqL.of hls6, atI_nat (j := 1) rfl, b2, _, _, _, _, _, rfl, w05.trans w6, .ref a2, vy, .second p1, y, w6.tk _ _ (.inl (.inl h2)), i2.tk w6.tk, iy5.tk w6.tk, .second ty, by show p1.nn + 1 ≤ _; omega, by show p1.ht + 1 ≤ _; omega, hb, ca.2, by omega⟩
      refine ⟨_, rfl, rfl, _, rfl, iteF' (ne_int r1) ?_⟩
      by_cases r2 : r = 2
      · subst r2
        refine ⟨_, rfl, rfl, _, rfl, iteT' (decide_eq_true rfl) ?_⟩
        refine ⟨_, rfl, _, rfl, _, rfl, _, _, rfl, rfl, st, pg, gs, g, f', ?_, w3.w1, g3, by omega, by omega, fun H4 t w4 d => ?_⟩
        · show [V.ref st, V.ref pg, V.int (((f' + 1 : Nat) : Int) - 1)] = _
          rw [em]
        obtain ⟨v2, va, p2, a, hT, ip, ia, ty, hW, hh, hb, ca, ja⟩ := d
        have ja : a.joints ≤ 24 := ja
        refine ⟨t, _, rfl, hT, rfl, _, _, rfl, _, _, rfl, rfl, ?_⟩
        have w04 := w03.trans w4
        refine ⟨_, rfl, _, rfl, _, rfl, _, _, rfl, rfl, _, rfl, st, pg, gs, g, f', va, a, ?_, w4.w1, hg.wd w04, by omega, by omega, ia, ja, ca, fun H5 t5 w5 d => ?_⟩
        · show [V.ref st, V.ref pg, V.int (((f' + 1 : Nat) : Int) - 1), va] = _
          rw [em]
        obtain ⟨v1, vb, p1, b, hT1, ip1, ib, ty1, hW1, hh1, hb1, cb, jb, y, rfl⟩ := d
        have jb : max a.dp y.dp + 1 ≤ 26 := jb
        refine ⟨t5, _, rfl, hT1, rfl, _, _, rfl, _, _, rfl, rfl, ?_⟩
        have w05 := w04.trans w5
        cases ib with
        | @bin bb _ vx vy _ _ hB' ix iy =>
          refine ⟨_, rfl, _, rfl, sz3, fun u nu => ⟨_, rfl, bb, _, _, _, rfl, rfl, seqT (same_new nu) hB', at2, sz2, fun e ne => ?_⟩⟩
          have k1 := same_new (o := .tup [.str "apply", v1, v2]) nu
          have k2 := same_new (o := .tup [.ref u, vy]) ne
          have k12 := k1.trans k2
          exact ⟨e, _, _, _, _, _, rfl, w05.then k12, .ref u, vy, .apply p1 p2, y, .inl (.inl upd_same), .apply (.inl (.inl (k2 _ _ upd_same))) (ip1.same k12) ((ip.tk w5.tk).same k12), iy.same k12, .apply ty1 ty, by show p1.nn + p2.nn + 1 ≤ _; omega, by show max p1.ht p2.ht + 1 ≤ _; omega, ⟨hb1, hb⟩, cb.2, by omega⟩
      refine ⟨_, rfl, rfl, _, rfl, iteF' (ne_int r2) ?_⟩
      by_cases r3 : r = 3
      · subst r3
        refine ⟨_, rfl, rfl, _, rfl, iteT' (decide_eq_true rfl) ?_⟩
        refine ⟨_, rfl, _, rfl, _, rfl, _, _, rfl, rfl, st, pg, gs, g, f', .or, ?_, w3.w1, g3, by omega, by omega, fun H4 t w4 d => ?_⟩
        · show [V.ref st, V.ref pg, V.int (((f' + 1 : Nat) : Int) - 1), V.str "or"] = _
          rw [em]
          rfl
        have w04 := w03.trans w4
        refine ⟨_, rfl, _, rfl, _, rfl, _, _, rfl, rfl, _, rfl, _, rfl, _, rfl, st, rfl, w4.w1, fun H5 ve e w5 ie ne => ?_⟩
        have w05 := w04.trans w5
        obtain ⟨p0, dp⟩ := d.p
        refine ⟨st, pg, gs, g, f', t, j, ve, e, _, _, p0, ?_, w5.w1, hg.wd w05, by omega, by omega, (dp.imp (Nat.le_refl _) (Nat.le_refl _) fun _ h => RS.o h).tk w5.tk, ie, ne.j, ne.2, fun H6 t6 _ _ _ w6 d6 => ?_⟩
        · show [V.ref st, V.ref pg, V.int (((f' + 1 : Nat) : Int) - 1), V.ref t, V.str j.s, ve] = _
          rw [em]
        exact ⟨t6, _, _, _, _, _, rfl, w05.trans w6, d6.dr.imp (by omega) (by omega) fun _ h => h.1⟩
      refine ⟨_, rfl, rfl, _, rfl, iteF' (ne_int r3) ?_⟩
      refine ⟨_, rfl, _, rfl, _, rfl, _, rfl, st, pg, gs, g, f' + 1, j, rfl, w3.w1, g3, hm, hl, fun H4 t w4 d => ?_⟩
      exact ⟨t, _, _, _, _, _, rfl, w03.trans w4, d.imp (Nat.le_refl _) (Nat.le_refl _) fun a h => by have := Nat.le_trans (Sm.dp_joints a) h.1; omega⟩
    obtain ⟨t, y5, y6, y8, y9, y10, rfl, w4, vp, va, p, a, hT, ip, ia, hty, hW, hh, hb, hc, hd⟩ := hm4
    refine ⟨_, rfl, t, _, _, _, rfl, rfl, hT, at1, va, a, rfl, ia, by omega, _, _, rfl, rfl, _, rfl, ite2 (fun _ => ⟨_, rfl, _, rfl, small_ w4⟩) (fun hj => ?_)⟩
    refine ⟨_, rfl, q H4 t w4 ?_⟩
    have hj : a.joints ≤ 24 := by
      have h1 : ¬ ((24 : Int) < ((a.joints : Nat) : Int)) := fun z => hj (decide_eq_true z)
      omega
    exact ⟨vp, va, p, a, hT, ip, ia, hty, hW, hh, hb, hc, hj⟩
theorem drawn (T : Txt w K mg) (c__law_draw : Cl P w K mg base 1 "_law_draw" (sp_draw K)) (c__law_small : Cl P w K mg base 4 "_law_small" (sp_law_small K BK)) (c__law_joints : Cl P w K mg base 32 "_law_joints" (sp_law_joints K 32)) (c__law_plain : Cl P w K mg base 2 "_law_plain" (sp_law_plain K)) (c__law_statement : Cl P w K mg base 3 "_law_statement" (sp_law_statement K)) (c__law_least : Cl P w K mg base 1 "_law_least" (sp_law_least K BK)) : ∀ n : Nat, Drawn P w K mg base n
  | 0 => {
    shaped := (T.d_law_shaped.none (sp := sp_law_shaped K BK 0) fun vs H Q E h => by
      obtain ⟨_, _, _, _, _, _, _, _, _, h, _⟩ := h
      omega).mono (Nat.zero_le _)
    never := (T.d_law_never.none (sp := sp_law_never K BK 0) fun vs H Q E h => by
      obtain ⟨_, _, _, _, _, _, _, _, h, _⟩ := h
      omega).mono (Nat.zero_le _)
    grown := (T.d_law_grown.none (sp := sp_law_grown K BK 0) fun vs H Q E h => by
      obtain ⟨_, _, _, _, _, _, _, _, h, _⟩ := h
      omega).mono (Nat.zero_le _)
    arms := (T.d_law_arms.none (sp := sp_law_arms K BK 0) fun vs H Q E h => by
      obtain ⟨_, _, _, _, _, _, _, _, _, _, _, _, _, _, _, h, _⟩ := h
      omega).mono (Nat.zero_le _)
    straight := (T.d_law_straight.none (sp := sp_law_straight K BK 0) fun vs H Q E h => by
      obtain ⟨_, _, _, _, _, _, _, _, _, h, _⟩ := h
      omega).mono (Nat.zero_le _)
    way := (T.d_law_way.none (sp := sp_law_way K BK 0) fun vs H Q E h => by
      obtain ⟨_, _, _, _, _, _, _, _, _, _, h, _⟩ := h
      omega).mono (Nat.zero_le _)
    shaped_by := (T.d_law_shaped_by.none (sp := sp_law_shaped_by K BK 0) fun vs H Q E h => by
      obtain ⟨_, _, _, _, _, _, _, _, _, _, h, _⟩ := h
      omega).mono (Nat.zero_le _) }
  | n + 1 => by
    have B := drawn T c__law_draw c__law_small c__law_joints c__law_plain c__law_statement c__law_least n
    have e : ∀ k : Nat, k + 6 * (n + 1) = k + 6 + 6 * n := fun k => by omega
    have sh := ok_law_shaped T c__law_draw c__law_least c__law_joints B.shaped_by
    have nv := ok_law_never T c__law_draw B.shaped
    have gr := st_law_grown T c__law_draw c__law_small c__law_joints c__law_statement sh B.arms B.way B.grown
    have ar := ok_law_arms T (n := n + 1) (by rw [e]; exact gr)
    have stt := ok_law_straight T c__law_draw c__law_statement (n := n + 1) (by rw [e]; exact gr)
    have wy := ok_law_way T c__law_draw c__law_statement sh B.arms nv gr
    rw [e] at ar stt
    have sb := ok_law_shaped_by T c__law_draw c__law_plain c__law_statement sh ar nv gr stt
    exact { shaped := by rw [e]; exact sh, never := by rw [e]; exact nv, grown := by rw [e]; exact gr, arms := by rw [e]; exact ar, straight := by rw [e]; exact stt, way := by rw [e]; exact wy, shaped_by := by rw [e]; exact sb }
theorem ok_law_grown (T : Txt w K mg) (c__law_draw : Cl P w K mg base 1 "_law_draw" (sp_draw K)) (c__law_small : Cl P w K mg base 4 "_law_small" (sp_law_small K BK)) (c__law_joints : Cl P w K mg base 32 "_law_joints" (sp_law_joints K 32)) (c__law_plain : Cl P w K mg base 2 "_law_plain" (sp_law_plain K)) (c__law_statement : Cl P w K mg base 3 "_law_statement" (sp_law_statement K)) (c__law_least : Cl P w K mg base 1 "_law_least" (sp_law_least K BK)) : ∀ n : Nat, Cl P w K mg base (31 + 6 * n) "_law_grown" (sp_law_grown K BK n) := fun n => (drawn T c__law_draw c__law_small c__law_joints c__law_plain c__law_statement c__law_least n).grown
/-! ### _law_givens -/
def sp_law_givens (K : PySem.W.Frag) : Sp := fun vs H Q _ => ∃ st : Addr, vs = [.ref st] ∧ StW H st ∧ ∀ H' pg gs (g : List Sm), Wd st H H' → H pg = none → Gv K H' st pg gs g → g.length ≤ 4 → Q (.ref pg) H'
theorem ok_law_givens (T : Txt w K mg) (c__law_draw : Cl P w K mg base 1 "_law_draw" (sp_draw K)) (c__law_statement : Cl P w K mg base 3 "_law_statement" (sp_law_statement K)) : Cl P w K mg base 4 "_law_givens" (sp_law_givens K) := by
  refine T.d_law_givens.ok sc_law_givens (fun vs H Q E h => ?_) (fun f cdv A outer s H vs Q E hr h => ?_)
  · obtain ⟨st, rfl, _⟩ := h
    rfl
  · obtain ⟨st, rfl, hw, q⟩ := h
    refine ⟨_, (pss_cons (ps_setLc (i := 1) (own := [("_law_k", 2)]) rfl sc_law_givens.nd rfl rfl (sw_true rfl rfl rfl (by decide +kernel)) (pi_range1 rfl T.n_range (pa_cons (pe_k c__law_draw hr (by omega) rfl (pa_cons (pv 0) (pa_cons pe_int pa_nil))) pa_nil)) (blkOk_by (N := sc_law_givensN) (sc := defScope s_law_givens) (by decide +kernel)) (fun _ _ _ _ _ => (pg_name (i := 2) sc_law_givens.nd rfl (Or.inl rfl))) (fun _ _ _ _ _ => pts_nil) (fun _ _ _ _ _ => (pe_k c__law_statement hr (by omega) rfl (pa_cons (pv 0) pa_nil))))
    (pss_cons (ps_if (pt_cmpR op_eq (pe_k c__law_draw hr (by omega) rfl (pa_cons (pv 0) (pa_cons pe_int pa_nil))) pe_int (nomark _))
      (pss_one (ps_expr (pe_bm PySem.F.plainAttrs_list PySem.F.slot_list_append PySem.F.type_list_append mt_append (pv 1) (pa_cons (pe_tup (pa_cons pe_str pa_nil)) pa_nil))))
      pss_nil)
    (pss_one (ps_ret (pv 1))))), ?_⟩
    refine ⟨_, rfl, st, 4, rfl, hw, by decide, by decide, fun H1 z w1 z0 z1 => ?_⟩
    obtain ⟨k, rfl, hk⟩ := nat_lt (n := 4) z0 z1
    refine ⟨(k : Int), rfl, by omega, by omega, fun D nD => ?_⟩
    have nDs : D ≠ st := Wd.ne w1.w1 nD
    refine lc_range (lo := 0) (n := k) (fun i H' => ∃ (ys : List V) (g : List Sm), H' D = some (.lst ys) ∧ Paired (IsSm K H') ys g ∧ g.length = i ∧ (∀ s ∈ g, s.joints ≤ 24 ∧ s.In Ch) ∧ Wd st H1 H') ?_ ?_ ?_
    · exact ⟨[], [], upd_same, .nil, rfl, fun _ h => absurd h List.not_mem_nil, (Wd.refl w1.w1).new nD⟩
    · rintro i H3 hi ⟨ys, g, hD, py, lg, ok, w3⟩
      refine ⟨rfl, ?_⟩
      refine ⟨_, rfl, st, rfl, w3.w1, fun H4 v e w4 ie ne => ?_⟩
      have hD4 := w4.bt _ _ nDs hD
      have ly := pair_len py
      refine ⟨ys, hD4, small (by omega), ys ++ [v], g ++ [e], upd_same, pair_app (pair_map (fun _ _ h => (IsSm.tk w4.tk h).tk (TK.lst hD4)) py) (.cons (ie.tk (TK.lst hD4)) .nil), by rw [List.length_append, lg]; rfl, fun s hs => ?_, (w3.trans w4).put nD⟩
      rcases List.mem_append.mp hs with hs | hs
      · exact ok s hs
      · rw [List.mem_singleton.mp hs]
        exact ⟨ne.j, ne.2⟩
    · rintro H3 ⟨ys, g, hD, py, lg, ok, w3⟩
      have ly := pair_len py
      have w03 := w1.trans w3
      refine ⟨_, rfl, st, 3, rfl, w3.w1, by decide, by decide, fun H4 r w4 _ _ => ?_⟩
      have hD4 := w4.bt _ _ nDs hD
      have py4 : Paired (IsSm K H4) ys g := pair_map (fun _ _ h => IsSm.tk w4.tk h) py
      have w04 := w03.trans w4
      have nD0 := w1.free nD
      refine ⟨rfl, _, rfl, ite2 (fun _ => ?_) (fun _ => ?_)⟩
      · refine ⟨_, rfl, tyL hD4, sz1, fun t nt => ?_⟩
        have s5 := same_new (o := .tup [.str "never"]) nt
        have it : IsSm K (upd H4 t (.tup [.str "never"])) (.ref t) .nv := .nv (.inl (.inl upd_same))
        have hD5 := s5 _ _ hD4
        have py5 : Paired (IsSm K (upd H4 t (.tup [.str "never"]))) ys g := pair_map (fun _ _ h => IsSm.same s5 h) py4
        have w05 := w04.then s5
        generalize upd H4 t (.tup [.str "never"]) = H5 at s5 it hD5 py5 w05 ⊢
        refine ⟨D, _, _, rfl, rfl, hD5, small (by omega), _, rfl, q _ D (ys ++ [.ref t]) (g ++ [.nv]) (w05.put nD0) nD0 ⟨upd_same, nDs, pair_app (pair_map (fun _ _ h => IsSm.tk (TK.lst hD5) h) py5) (.cons (it.tk (TK.lst hD5)) .nil), fun s hs => ?_⟩ (by rw [List.length_append, List.length_singleton]; omega)⟩
        rcases List.mem_append.mp hs with hs | hs
        · exact ok s hs
        · rw [List.mem_singleton.mp hs]
          exact ⟨Nat.zero_le _, True.intro⟩
      · exact ⟨_, rfl, q H4 D ys g w04 nD0 ⟨hD4, nDs, py4, ok⟩ (by omega)⟩
/-! ### _law_spots -/
def sp_law_spots (K : PySem.W.Frag) : Sp := fun vs H Q _ => ∃ (v : V) (p : Pp), vs = [v] ∧ IsPp K H v p ∧ ∀ (H' : Hp) (l : Addr), Same H H' → H l = none → H' l = some (.lst (p.wd.pl.map V.int)) → Q (.ref l) H'
theorem ok_law_spots (T : Txt w K mg) : Cl P w K mg base 1 "_law_spots" (sp_law_spots K) := by
  refine T.d_law_spots.ok sc_law_spots (fun vs H Q E h => ?_) (fun f cdv A outer s H vs Q E hr h => ?_)
  · obtain ⟨v, p, rfl, _⟩ := h
    rfl
  · obtain ⟨v, p, rfl, hp, q⟩ := h
    refine ⟨_, (pss_cons (ps_set (i := 1) sc_law_spots.nd rfl (Or.inl rfl) (pe_disp (pps_cons pe_str (pe_lst pa_nil) (pps_cons pe_str (pe_lst pa_nil) (pps_cons pe_str (pe_lst (pa_cons pe_int (pa_cons pe_int pa_nil))) (pps_cons pe_str (pe_lst (pa_cons pe_int (pa_cons pe_int pa_nil))) (pps_cons pe_str (pe_lst (pa_cons pe_int (pa_cons pe_int (pa_cons pe_int pa_nil)))) (pps_cons pe_str (pe_lst (pa_cons pe_int pa_nil)) (pps_cons pe_str (pe_lst (pa_cons pe_int pa_nil)) pps_nil))))))) rfl rfl (by simp) (by decide)))
    (pss_one (ps_ret (pe_dget2 (roomN hr (n := 1) (by omega)) (pv 1) (pe_ix (r := rIxT K) ix_tup (pv 0) pe_int (fun _ _ => rfl)) (pe_lst (pa_cons pe_int pa_nil)) ⟨rfl, rfl, rfl, rfl⟩)))), ?_⟩
    refine fun d nd => ?_
    have s1 : Same H (upd H d (.dK [])) := same_new nd
    have hd1 : (upd H d (.dK [])) d = some (.dK []) := upd_same
    generalize upd H d (.dK []) = H1 at s1 hd1 ⊢
    refine ⟨sz0, fun p0 n0 => ?_⟩
    have t0 : Same H1 (upd H1 p0 (.lst [])) := same_new n0
    have l0_0 : (upd H1 p0 (.lst [])) p0 = some (.lst []) := upd_same
    have hd2 := t0 _ _ hd1
    have s2 := s1.trans t0
    generalize upd H1 p0 (.lst []) = H2 at t0 s2 hd2 l0_0 ⊢
    refine ⟨sz0, fun p1 n1 => ?_⟩
    have t1 : Same H2 (upd H2 p1 (.lst [])) := same_new n1
    have l1_1 : (upd H2 p1 (.lst [])) p1 = some (.lst []) := upd_same
    have hd3 := t1 _ _ hd2
    have l0_1 := t1 _ _ l0_0
    have s3 := s2.trans t1
    generalize upd H2 p1 (.lst []) = H3 at t1 s3 hd3 l0_1 l1_1 ⊢
    refine ⟨sz2, fun p2 n2 => ?_⟩
    have t2 : Same H3 (upd H3 p2 (.lst [.int 1, .int 2])) := same_new n2
    have l2_2 : (upd H3 p2 (.lst [.int 1, .int 2])) p2 = some (.lst [.int 1, .int 2]) := upd_same
    have hd4 := t2 _ _ hd3
    have l0_2 := t2 _ _ l0_1
    have l1_2 := t2 _ _ l1_1
    have s4 := s3.trans t2
    generalize upd H3 p2 (.lst [.int 1, .int 2]) = H4 at t2 s4 hd4 l0_2 l1_2 l2_2 ⊢
    refine ⟨sz2, fun p3 n3 => ?_⟩
    have t3 : Same H4 (upd H4 p3 (.lst [.int 1, .int 2])) := same_new n3
    have l3_3 : (upd H4 p3 (.lst [.int 1, .int 2])) p3 = some (.lst [.int 1, .int 2]) := upd_same
    have hd5 := t3 _ _ hd4
    have l0_3 := t3 _ _ l0_2
    have l1_3 := t3 _ _ l1_2
    have l2_3 := t3 _ _ l2_2
    have s5 := s4.trans t3
    generalize upd H4 p3 (.lst [.int 1, .int 2]) = H5 at t3 s5 hd5 l0_3 l1_3 l2_3 l3_3 ⊢
    refine ⟨sz3, fun p4 n4 => ?_⟩
    have t4 : Same H5 (upd H5 p4 (.lst [.int 1, .int 2, .int 3])) := same_new n4
    have l4_4 : (upd H5 p4 (.lst [.int 1, .int 2, .int 3])) p4 = some (.lst [.int 1, .int 2, .int 3]) := upd_same
    have hd6 := t4 _ _ hd5
    have l0_4 := t4 _ _ l0_3
    have l1_4 := t4 _ _ l1_3
    have l2_4 := t4 _ _ l2_3
    have l3_4 := t4 _ _ l3_3
    have s6 := s5.trans t4
    generalize upd H5 p4 (.lst [.int 1, .int 2, .int 3]) = H6 at t4 s6 hd6 l0_4 l1_4 l2_4 l3_4 l4_4 ⊢
    refine ⟨sz1, fun p5 n5 => ?_⟩
    have t5 : Same H6 (upd H6 p5 (.lst [.int 2])) := same_new n5
    have l5_5 : (upd H6 p5 (.lst [.int 2])) p5 = some (.lst [.int 2]) := upd_same
    have hd7 := t5 _ _ hd6
    have l0_5 := t5 _ _ l0_4
    have l1_5 := t5 _ _ l1_4
    have l2_5 := t5 _ _ l2_4
    have l3_5 := t5 _ _ l3_4
    have l4_5 := t5 _ _ l4_4
    have s7 := s6.trans t5
    generalize upd H6 p5 (.lst [.int 2]) = H7 at t5 s7 hd7 l0_5 l1_5 l2_5 l3_5 l4_5 l5_5 ⊢
    refine ⟨sz1, fun p6 n6 => ?_⟩
    have t6 : Same H7 (upd H7 p6 (.lst [.int 2])) := same_new n6
    have l6_6 : (upd H7 p6 (.lst [.int 2])) p6 = some (.lst [.int 2]) := upd_same
    have hd8 := t6 _ _ hd7
    have l0_6 := t6 _ _ l0_5
    have l1_6 := t6 _ _ l1_5
    have l2_6 := t6 _ _ l2_5
    have l3_6 := t6 _ _ l3_5
    have l4_6 := t6 _ _ l4_5
    have l5_6 := t6 _ _ l5_5
    have s8 := s7.trans t6
    generalize upd H7 p6 (.lst [.int 2]) = H8 at t6 s8 hd8 l0_6 l1_6 l2_6 l3_6 l4_6 l5_6 l6_6 ⊢
    refine ⟨hd8, [(.inr "use", .ref p0), (.inr "name", .ref p1), (.inr "pair", .ref p2), (.inr "apply", .ref p3), (.inr "case", .ref p4), (.inr "make", .ref p5), (.inr "right", .ref p6)], rfl, (by show 7 ≤ 15; decide), ?_⟩
    have e0 : p0 ≠ d := fun z => by rw [z, hd8] at l0_6; cases l0_6
    have e1 : p1 ≠ d := fun z => by rw [z, hd8] at l1_6; cases l1_6
    have e2 : p2 ≠ d := fun z => by rw [z, hd8] at l2_6; cases l2_6
    have e3 : p3 ≠ d := fun z => by rw [z, hd8] at l3_6; cases l3_6
    have e4 : p4 ≠ d := fun z => by rw [z, hd8] at l4_6; cases l4_6
    have e5 : p5 ≠ d := fun z => by rw [z, hd8] at l5_6; cases l5_6
    have e6 : p6 ≠ d := fun z => by rw [z, hd8] at l6_6; cases l6_6
    have g : ∀ wd : PW, valV (mergeK [] ([(.inr "use", .ref p0), (.inr "name", .ref p1), (.inr "pair", .ref p2), (.inr "apply", .ref p3), (.inr "case", .ref p4), (.inr "make", .ref p5), (.inr "right", .ref p6)] : List (Key × V))) (.inr wd.s) = (match wd with | .use => some (.ref p0) | .name => some (.ref p1) | .pair => some (.ref p2) | .apply => some (.ref p3) | .case => some (.ref p4) | .make => some (.ref p5) | .right => some (.ref p6) | _ => none) := fun wd => by
      simp only [mergeK, List.foldl_cons, List.foldl_nil, valV_put]
      cases wd <;> rfl
    generalize mergeK [] ([(.inr "use", .ref p0), (.inr "name", .ref p1), (.inr "pair", .ref p2), (.inr "apply", .ref p3), (.inr "case", .ref p4), (.inr "make", .ref p5), (.inr "right", .ref p6)] : List (Key × V)) = M at g ⊢
    have f0 := (show (upd H8 d (.dK M)) p0 = H8 p0 from upd_ne e0).trans l0_6
    have f1 := (show (upd H8 d (.dK M)) p1 = H8 p1 from upd_ne e1).trans l1_6
    have f2 := (show (upd H8 d (.dK M)) p2 = H8 p2 from upd_ne e2).trans l2_6
    have f3 := (show (upd H8 d (.dK M)) p3 = H8 p3 from upd_ne e3).trans l3_6
    have f4 := (show (upd H8 d (.dK M)) p4 = H8 p4 from upd_ne e4).trans l4_6
    have f5 := (show (upd H8 d (.dK M)) p5 = H8 p5 from upd_ne e5).trans l5_6
    have f6 := (show (upd H8 d (.dK M)) p6 = H8 p6 from upd_ne e6).trans l6_6
    have s9 : Same H (upd H8 d (.dK M)) := same_put s8 nd
    have hd9 : (upd H8 d (.dK M)) d = some (.dK M) := upd_same
    have fr : ∀ {x : Addr} {Hx Hy : Hp}, Same H Hx → Hx x = none → H x = none := fun s n => s.free n
    have r0 : H p0 = none := s1.free n0
    have r1 : H p1 = none := s2.free n1
    have r2 : H p2 = none := s3.free n2
    have r3 : H p3 = none := s4.free n3
    have r4 : H p4 = none := s5.free n4
    have r5 : H p5 = none := s6.free n5
    have r6 : H p6 = none := s7.free n6
    generalize upd H8 d (.dK M) = H9 at s9 hd9 f0 f1 f2 f3 f4 f5 f6 ⊢
    obtain ⟨a, its, rfl, hT, _⟩ := hp.kid
    refine ⟨_, rfl, d, rfl, .inl ⟨M, .inl hd9⟩, _, rfl, a, _, _, _, rfl, rfl, seqT s9 hT, at0, sz1, fun p7 n7 => ?_⟩
    have t9 : Same H9 (upd H9 p7 (.lst [.int 1])) := same_new n7
    refine ⟨_, DGet.k (k := .inr p.wd.s) (t9 _ _ hd9), ?_⟩
    rw [g]
    have out : ∀ (l : Addr) (xs : List V), H l = none → (upd H9 p7 (.lst [.int 1])) l = some (.lst xs) → xs = p.wd.pl.map V.int → Q (.ref l) (upd H9 p7 (.lst [.int 1])) := fun l xs n h e => q _ l (s9.trans t9) n (by rw [h, e])
    cases p with
    | use _ => exact out p0 _ r0 (t9 _ _ f0) rfl
    | name _ => exact out p1 _ r1 (t9 _ _ f1) rfl
    | pair _ _ => exact out p2 _ r2 (t9 _ _ f2) rfl
    | apply _ _ => exact out p3 _ r3 (t9 _ _ f3) rfl
    | case _ _ _ _ => exact out p4 _ r4 (t9 _ _ f4) rfl
    | make _ _ => exact out p5 _ r5 (t9 _ _ f5) rfl
    | right _ _ => exact out p6 _ r6 (t9 _ _ f6) rfl
    | first _ => exact out p7 _ (s9.free n7) upd_same rfl
    | second _ => exact out p7 _ (s9.free n7) upd_same rfl
    | left _ _ => exact out p7 _ (s9.free n7) upd_same rfl
    | escape _ _ => exact out p7 _ (s9.free n7) upd_same rfl
/-! ### _law_assumed -/
def sp_law_assumed (K : PySem.W.Frag) : Sp := fun vs H Q _ => ∃ (v : V) (q : Pp) (i : Int), vs = [v, .int i] ∧ IsPp K H v q ∧ (∃ r, (i, r) ∈ q.kids) ∧ Q (.int ((q.inc i : Nat) : Int)) H
theorem ok_law_assumed (T : Txt w K mg) : Cl P w K mg base 1 "_law_assumed" (sp_law_assumed K) := by
  refine T.d_law_assumed.ok sc_law_assumed (fun vs H Q E h => ?_) (fun f cdv A outer s H vs Q E hr h => ?_)
  · obtain ⟨v, q, i, rfl, _⟩ := h
    rfl
  · obtain ⟨v, q, i, rfl, hq, ⟨r, hr2⟩, k⟩ := h
    refine ⟨_, (pss_one (ps_ret (pe_callTy call_int1 rfl T.n_int (by decide +kernel) (pa_cons (pe_or (pe_cmpR op_eq (pe_ix (r := rIxT K) ix_tup (pv 0) pe_int (fun _ _ => rfl)) pe_str (nomark _)) (pe_one (pe_and (pe_cmpR op_eq (pe_ix (r := rIxT K) ix_tup (pv 0) pe_int (fun _ _ => rfl)) pe_str (nomark _)) (pe_one (pe_cmpR op_gt (pv 1) pe_int (nomark _)))))) pa_nil)))), ?_⟩
    obtain ⟨a, xs, rfl, hk, _⟩ := hq.kid
    have out : ∀ b : Bool, q.inc i = (if b = true then 1 else 0) → Q (.int (if b = true then 1 else 0)) H := fun b e => by
      rw [e] at k
      cases b <;> exact k
    by_cases hm : q.wd = .make
    · refine ⟨_, rfl, a, _, _, _, rfl, rfl, hk, at0, rfl, _, rfl, iteT' ((PW.s_eq q.wd .make).trans (decide_eq_true hm)) (.inr ⟨_, rfl, out true ?_⟩)⟩
      cases q <;> first | exact PW.noConfusion hm | (simp [Pp.kids] at hr2; obtain ⟨rfl, _⟩ := hr2; rfl)
    · refine ⟨_, rfl, a, _, _, _, rfl, rfl, hk, at0, rfl, _, rfl, iteF' ((PW.s_eq q.wd .make).trans (decide_eq_false hm)) ?_⟩
      by_cases hc : q.wd = .case
      · refine ⟨_, rfl, a, _, _, _, rfl, rfl, hk, at0, rfl, _, rfl, iteT' ((PW.s_eq q.wd .case).trans (decide_eq_true hc)) ?_⟩
        refine ⟨_, rfl, _, _, rfl, rfl, .inr ⟨_, rfl, out _ ?_⟩⟩
        cases q <;> first | exact PW.noConfusion hc | skip
        simp [Pp.kids] at hr2
        rcases hr2 with ⟨rfl, _⟩ | ⟨rfl, _⟩ | ⟨rfl, _⟩ <;> simp [Pp.inc, Pp.wd, asmL]
      · refine ⟨_, rfl, a, _, _, _, rfl, rfl, hk, at0, rfl, _, rfl, iteF' ((PW.s_eq q.wd .case).trans (decide_eq_false hc)) (.inr ⟨_, rfl, out false ?_⟩)⟩
        cases q <;> first | exact absurd rfl hc | exact absurd rfl hm | rfl
/-! ### _law_with -/
def sp_law_with (K : PySem.W.Frag) : Sp := fun vs H Q _ => ∃ (a : Addr) (its : List V) (n : Nat) (x : V), vs = [.ref a, .int (n : Nat), x] ∧ SqT K H a its ∧ 1 ≤ n ∧ n < its.length ∧ its.length ≤ 5 ∧ ∀ (H' : Hp) (t : Addr), Same H H' → SqT K H' t (its.set n x) → Q (.ref t) H'
theorem ok_law_with (T : Txt w K mg) : Cl P w K mg base 1 "_law_with" (sp_law_with K) := by
  refine T.d_law_with.ok sc_law_with (fun vs H Q E h => ?_) (fun f cdv A outer s H vs Q E hr h => ?_)
  · obtain ⟨a, its, n, x, rfl, _⟩ := h
    rfl
  · obtain ⟨a, its, n, x, rfl, ha, n1, nl, l5, q⟩ := h
    refine ⟨_, (pss_one (ps_ret (pe_op op_catT (pe_op op_catT (pe_slice (r := rSlT K) sl_tup (pv 0) po_none (po_some (pv 1))) (pe_tup (pa_cons (pv 2) pa_nil))) (pe_slice (r := rSlT K) sl_tup (pv 0) (po_some (pe_op op_add (pv 1) pe_int)) po_none)))), ?_⟩
    have e1 : cutV its none (some (n : Int)) = its.take n := cut_to ..
    have e2 : cutV its (some ((n : Int) + 1)) none = its.drop (n + 1) := by rw [show (n : Int) + 1 = ((n + 1 : Nat) : Int) by omega]; exact cut_from ..
    refine ⟨_, rfl, _, rfl, (n : Int), rfl, a, its, rfl, ha, ?_, fun t1 nt1 => ?_⟩
    · rw [HT.sIx_nat, HT.sIx_none]
      omega
    rw [e1]
    have s1 : Same H (upd H t1 (.tup (its.take n))) := same_new nt1
    have ht1 : (upd H t1 (.tup (its.take n))) t1 = some (.tup (its.take n)) := upd_same
    generalize upd H t1 (.tup (its.take n)) = H1 at s1 ht1 ⊢
    refine ⟨_, rfl, sz1, fun t2 nt2 => ?_⟩
    have s2 : Same H1 (upd H1 t2 (.tup [x])) := same_new nt2
    have ht2 : (upd H1 t2 (.tup [x])) t2 = some (.tup [x]) := upd_same
    have ht12 := s2 _ _ ht1
    generalize upd H1 t2 (.tup [x]) = H2 at s2 ht2 ht12 ⊢
    have s12 := s1.trans s2
    have ne : its.take n ≠ [] := fun z => by
      have := congrArg List.length z
      rw [List.length_take, List.length_nil] at this
      omega
    refine ⟨t1, t2, _, _, rfl, rfl, .inl (.inl ht12), .inl (.inl ht2), ne, small' (by rw [List.length_take, List.length_singleton]; omega), fun z => (nomatch z), fun _ t3 nt3 => ?_⟩
    have s3 : Same H2 (upd H2 t3 (.tup (its.take n ++ [x]))) := same_new nt3
    have ht3 : (upd H2 t3 (.tup (its.take n ++ [x]))) t3 = some (.tup (its.take n ++ [x])) := upd_same
    generalize upd H2 t3 (.tup (its.take n ++ [x])) = H3 at s3 ht3 ⊢
    have s13 := s12.trans s3
    refine ⟨_, rfl, _, rfl, _, _, rfl, rfl, ((n + 1 : Nat) : Int), ?_, a, its, rfl, seqT s13 ha, ?_, fun t4 nt4 => ?_⟩
    · exact congrArg V.int (by omega)
    · rw [HT.sIx_nat, HT.sIx_none]
      omega
    have e3 : cutV its (some ((n + 1 : Nat) : Int)) none = its.drop (n + 1) := cut_from ..
    rw [e3]
    have s4 : Same H3 (upd H3 t4 (.tup (its.drop (n + 1)))) := same_new nt4
    have ht4 : (upd H3 t4 (.tup (its.drop (n + 1)))) t4 = some (.tup (its.drop (n + 1))) := upd_same
    have ht34 := s4 _ _ ht3
    generalize upd H3 t4 (.tup (its.drop (n + 1))) = H4 at s4 ht4 ht34 ⊢
    have es : its.set n x = its.take n ++ [x] ++ its.drop (n + 1) := by
      rw [List.set_eq_take_append_cons_drop, if_pos nl, List.append_assoc]
      rfl
    have s14 := s13.trans s4
    refine ⟨t3, t4, _, _, rfl, rfl, .inl (.inl ht34), .inl (.inl ht4), (fun z => by simp at z), small' (by rw [List.length_append, List.length_take, List.length_drop, List.length_singleton]; omega), fun z => ?_, fun _ t5 nt5 => ?_⟩
    · refine q H4 t3 s14 ?_
      rw [es, z, List.append_nil]
      exact .inl (.inl ht34)
    · refine q _ t5 (s14.trans (same_new nt5)) ?_
      rw [es]
      exact .inl (.inl upd_same)
/-! ### _law_moved -/
def sp_law_moved (K : PySem.W.Frag) (n : Nat) : Sp := fun vs H Q _ => ∃ (v : V) (i j : Int) (p : Pp), vs = [v, .int i, .int j] ∧ IsPp K H v p ∧ p.ht < n ∧
  ∀ H' v', Same H H' → IsPp K H' v' (p.mv i j) → Q v' H'
theorem use_mv (i j k : Int) : k + j * (if decide (i ≤ k) = true then (1 : Int) else 0) = k + j * (if i ≤ k then 1 else 0) := by
  by_cases h : i ≤ k
  · rw [if_pos h, if_pos (decide_eq_true h)]
  · rw [if_neg h, if_neg (by rw [decide_eq_false h]; exact Bool.false_ne_true)]
theorem ok_law_moved (T : Txt w K mg) (c__law_spots : Cl P w K mg base 1 "_law_spots" (sp_law_spots K)) (c__law_with : Cl P w K mg base 1 "_law_with" (sp_law_with K)) : ∀ n : Nat, ClR P w K mg base 10 n "_law_moved" (sp_law_moved K n)
  | 0 => T.d_law_moved.noneR fun vs H Q E h => by
    obtain ⟨_, _, _, _, _, _, h, _⟩ := h
    omega
  | n + 1 => by
    have c__law_moved : ClR P w K mg base 10 n "_law_moved" (sp_law_moved K n) := ok_law_moved T c__law_spots c__law_with n
    refine T.d_law_moved.okR sc_law_moved (fun vs H Q E h => ?_) (fun f cdv A outer s H vs Q E hrR h => ?_)
    · obtain ⟨v, i, j, p, rfl, _⟩ := h
      rfl
    have hr := hrR.room
    obtain ⟨v, i, j, p, rfl, hp, hht, q⟩ := h
    refine ⟨_, (pss_cons (ps_if (pt_cmpR op_eq (pe_ix (r := rIxT K) ix_tup (pv 0) pe_int (fun _ _ => rfl)) pe_str (nomark _))
      (pss_one (ps_ret (pe_tup (pa_cons pe_str (pa_cons (pe_op op_add (pe_ix (r := rIxT K) ix_tup (pv 0) pe_int (fun _ _ => rfl)) (pe_op op_mul (pv 2) (pe_callTy call_int1 rfl T.n_int (by decide +kernel) (pa_cons (pe_cmpR op_ge (pe_ix (r := rIxT K) ix_tup (pv 0) pe_int (fun _ _ => rfl)) (pv 1) (nomark _)) pa_nil)))) pa_nil)))))
      pss_nil)
    (pss_cons (ps_for PassesOwn.never rfl (pi_listK (K := K) (pe_k c__law_spots hr (by omega) rfl (pa_cons (pv 0) pa_nil))) (pg_name (i := 3) sc_law_moved.nd rfl (Or.inl rfl))
      (pss_one (ps_set (i := 0) sc_law_moved.nd rfl (Or.inl rfl) (pe_k c__law_with hr (by omega) rfl (pa_cons (pv 0) (pa_cons (pv 3) (pa_cons (pe_kR c__law_moved hrR (by omega) (by omega) rfl (pa_cons (pe_ix (r := rIxT K) ix_tup (pv 0) (pv 3) (fun _ _ => rfl)) (pa_cons (pv 1) (pa_cons (pv 2) pa_nil)))) pa_nil)))))))
    (pss_one (ps_ret (pv 0))))), ?_⟩
    by_cases hu : ∃ k, p = .use k
    · obtain ⟨k, rfl⟩ := hu
      cases hp with
      | use hU =>
        refine ⟨_, rfl, _, _, _, _, rfl, rfl, hU, at0, rfl, _, rfl, ?_⟩
        refine iteT' (by decide +kernel) ⟨_, rfl, _, _, _, _, rfl, rfl, hU, at1, _, rfl, _, rfl, _, _, _, _, rfl, rfl, hU, at1, _, rfl, _, _, rfl, rfl, .inr ⟨_, rfl, _, _, rfl, rfl, .inr ?_, _, _, rfl, rfl, sz2, fun t nt => ?_⟩⟩
        · split <;> decide
        · refine q _ (.ref t) (same_new nt) ?_
          have e : (Pp.use k).mv i j = .use (k + j * (if decide (i ≤ k) = true then (1 : Int) else 0)) := by
            rw [use_mv]
            rfl
          rw [e]
          exact .use (.inl (.inl upd_same))
    · have hu' : ∀ k, p ≠ .use k := fun k e => hu ⟨k, e⟩
      have nw : decide (V.str p.wd.s = V.str PW.use.s) = false := by
        rw [PW.s_eq]
        exact decide_eq_false fun e => by cases p <;> first | exact hu' _ rfl | exact absurd e (fun z => PW.noConfusion z)
      obtain ⟨a, its, rfl, hT, h5, h0, hk⟩ := hp.st1
      refine ⟨_, rfl, a, _, _, _, rfl, rfl, hT, h0, rfl, _, rfl, iteF' nw ?_⟩
      refine ⟨_, rfl, .ref a, p, rfl, hp, fun H2 l s2 nl hl => ⟨l, rfl, ⟨_, SqL.of hl⟩, ?_⟩⟩
      have epl : p.wd.pl.length = p.kids.length := by rw [Pp.kids_pl, List.length_map]
      refine for_list (K := K) (a := l) (xs := p.wd.pl.map V.int) (fun m σ H' => ∃ (u : V) (y3 : Option V), σ = [some u, some (.int i), some (.int j), y3] ∧ IsPp K H' u (kfold (fun k => k.2.mv i j) p m) ∧ Same H2 H') ?_ ?_ ?_ ?_
      · exact ⟨.ref a, _, rfl, hp.same s2, Same.refl _⟩
      · rintro m σ H3 _ ⟨_, _, _, _, s3⟩
        exact SqL.of (s3 _ _ hl)
      · rintro m x σ H3 hx ⟨u, y3, rfl, iu, s3⟩
        rw [List.getElem?_map] at hx
        obtain ⟨pl, hpl, rfl⟩ := Option.map_eq_some_iff.mp hx
        rw [Pp.kids_pl, List.getElem?_map] at hpl
        obtain ⟨k, hk2, ek⟩ := Option.map_eq_some_iff.mp hpl
        subst ek
        have mk := kfold_kid (F := fun k => k.2.mv i j) hk2
        have hkt := kid_ht (List.mem_of_getElem? hk2)
        obtain ⟨b, bts, rfl, hB, b5, _, hkb⟩ := iu.st1
        obtain ⟨k1, kl, ⟨x, hx, ix⟩, hset⟩ := hkb k mk
        obtain ⟨kn, ekn⟩ : ∃ kn : Nat, k.1 = (kn : Int) := ⟨k.1.toNat, by omega⟩
        have etn : k.1.toNat = kn := by omega
        rw [etn] at kl hx hset
        refine ⟨_, rfl, _, rfl, _, rfl, _, rfl, b, _, _, _, rfl, rfl, hB, by rw [ekn]; exact atI_nat hx, _, rfl, _, rfl, x, i, j, k.2, rfl, ix, by omega, fun H4 v4 s4 i4 => ?_⟩
        refine ⟨b, bts, kn, v4, by rw [ekn]; rfl, seqT s4 hB, by omega, kl, b5, fun H5 t s5 ht => ?_⟩
        refine ⟨.ref t, _, rfl, ?_, s3.trans (s4.trans s5)⟩
        rw [kfold_succ hk2]
        exact hset H5 t v4 (k.2.mv i j) (Same.tk (s4.trans s5)) (i4.same s5) ht
      · rintro σ H3 ⟨u, y3, rfl, iu, s3⟩
        rw [List.length_map, epl, kfold_mv i j hu'] at iu
        exact ⟨_, rfl, q H3 u (s2.trans s3) iu⟩
/-! ### _law_put -/
def sp_law_put (K : PySem.W.Frag) (n : Nat) : Sp := fun vs H Q _ => ∃ (v vo : V) (a : Int) (m : Nat) (p o : Pp), vs = [v, .int a, vo, .int (m : Nat)] ∧ IsPp K H v p ∧ IsPp K H vo o ∧ p.ht + o.ht + 1 < n ∧
  ∀ H' v', Same H H' → IsPp K H' v' (p.rem (putG a o) m) → Q v' H'
theorem ok_law_put (T : Txt w K mg) (c_moved : ∀ n, ClR P w K mg base 10 n "_law_moved" (sp_law_moved K n)) (c__law_spots : Cl P w K mg base 1 "_law_spots" (sp_law_spots K)) (c__law_assumed : Cl P w K mg base 1 "_law_assumed" (sp_law_assumed K)) (c__law_with : Cl P w K mg base 1 "_law_with" (sp_law_with K)) : ∀ n : Nat, ClR P w K mg base 10 n "_law_put" (sp_law_put K n)
  | 0 => T.d_law_put.noneR fun vs H Q E h => by
    obtain ⟨_, _, _, _, _, _, _, _, _, h, _⟩ := h
    omega
  | n + 1 => by
    have c__law_put : ClR P w K mg base 10 n "_law_put" (sp_law_put K n) := ok_law_put T c_moved c__law_spots c__law_assumed c__law_with n
    have c__law_moved := c_moved n
    refine T.d_law_put.okR sc_law_put (fun vs H Q E h => ?_) (fun f cdv A outer s H vs Q E hrR h => ?_)
    · obtain ⟨v, vo, a, m, p, o, rfl, _⟩ := h
      rfl
    have hr := hrR.room
    obtain ⟨v, vo, a, m, p, o, rfl, hp, ho, hht, q⟩ := h
    refine ⟨_, (pss_cons (ps_if (PW.pt (pw_and (pt_cmpR op_eq (pe_ix (r := rIxT K) ix_tup (pv 0) pe_int (fun _ _ => rfl)) pe_str (nomark _)) (pw_and1 (pt_cmpR op_eq (pe_ix (r := rIxT K) ix_tup (pv 0) pe_int (fun _ _ => rfl)) (pv 1) (nomark _)))))
      (pss_one (ps_ret (pe_kR c__law_moved hrR (by omega) (by omega) rfl (pa_cons (pv 2) (pa_cons (pv 1) (pa_cons (pv 3) pa_nil))))))
      pss_nil)
    (pss_cons (ps_if (pt_cmpR op_eq (pe_ix (r := rIxT K) ix_tup (pv 0) pe_int (fun _ _ => rfl)) pe_str (nomark _))
      (pss_one (ps_ret (pe_tup (pa_cons pe_str (pa_cons (pe_op op_sub (pe_ix (r := rIxT K) ix_tup (pv 0) pe_int (fun _ _ => rfl)) (pe_callTy call_int1 rfl T.n_int (by decide +kernel) (pa_cons (pe_cmpR op_gt (pe_ix (r := rIxT K) ix_tup (pv 0) pe_int (fun _ _ => rfl)) (pv 1) (nomark _)) pa_nil))) pa_nil)))))
      pss_nil)
    (pss_cons (ps_for PassesOwn.never rfl (pi_listK (K := K) (pe_k c__law_spots hr (by omega) rfl (pa_cons (pv 0) pa_nil))) (pg_name (i := 4) sc_law_put.nd rfl (Or.inl rfl))
      (pss_one (ps_set (i := 0) sc_law_put.nd rfl (Or.inl rfl) (pe_k c__law_with hr (by omega) rfl (pa_cons (pv 0) (pa_cons (pv 4) (pa_cons (pe_kR c__law_put hrR (by omega) (by omega) rfl (pa_cons (pe_ix (r := rIxT K) ix_tup (pv 0) (pv 4) (fun _ _ => rfl)) (pa_cons (pv 1) (pa_cons (pv 2) (pa_cons (pe_op op_add (pv 3) (pe_k c__law_assumed hr (by omega) rfl (pa_cons (pv 0) (pa_cons (pv 4) pa_nil)))) pa_nil))))) pa_nil)))))))
    (pss_one (ps_ret (pv 0)))))), ?_⟩
    by_cases hu : ∃ k, p = .use k
    · obtain ⟨k, rfl⟩ := hu
      have hht : 0 + o.ht + 1 < n + 1 := hht
      have hp0 := hp
      cases hp with
      | use hU =>
        refine ⟨_, rfl, _, _, _, _, rfl, rfl, hU, at0, rfl, _, rfl, iteT' (by decide +kernel) ?_⟩
        refine ⟨_, rfl, _, _, _, _, rfl, rfl, hU, at1, _, rfl, rfl, _, rfl, ?_⟩
        by_cases h2 : k = a
        · subst h2
          refine iteT' (decide_eq_true rfl) ⟨_, rfl, _, rfl, _, rfl, vo, k, (m : Int), o, rfl, ho, by omega, fun H1 v1 s1 i1 => q H1 v1 s1 ?_⟩
          rw [show (Pp.use k).rem (putG k o) m = o.mv k (m : Nat) from (if_neg (Int.lt_irrefl k)).trans (if_pos rfl)]
          exact i1
        · refine iteF' (decide_eq_false (fun e => h2 (by injection e))) ?_
          refine ⟨_, rfl, _, _, _, _, rfl, rfl, hU, at0, rfl, _, rfl, iteT' (by decide +kernel) ?_⟩
          refine ⟨_, rfl, _, _, _, _, rfl, rfl, hU, at1, _, rfl, _, _, _, _, rfl, rfl, hU, at1, _, rfl, _, _, rfl, rfl, .inr ⟨_, rfl, _, _, rfl, rfl, sz2, fun t nt => q _ (.ref t) (same_new nt) ?_⟩⟩
          have e : (Pp.use k).rem (putG a o) m = .use (k - (if decide (a < k) = true then (1 : Int) else 0)) := by
            rw [show (Pp.use k).rem (putG a o) m = putG a o (.use k) m from rfl, put_use o m h2]
            by_cases h3 : a < k
            · rw [if_pos h3, if_pos (decide_eq_true h3)]
            · rw [if_neg h3, if_neg (by rw [decide_eq_false h3]; exact Bool.false_ne_true)]
          rw [e]
          exact .use (.inl (.inl upd_same))
    · have hu' : ∀ k, p ≠ .use k := fun k e => hu ⟨k, e⟩
      have nw : decide (V.str p.wd.s = V.str PW.use.s) = false := by
        rw [PW.s_eq]
        exact decide_eq_false fun e => by cases p <;> first | exact hu' _ rfl | exact absurd e (fun z => PW.noConfusion z)
      obtain ⟨pa, its, rfl, hT, h5, h0, hk⟩ := hp.st1
      refine ⟨_, rfl, pa, _, _, _, rfl, rfl, hT, h0, rfl, _, rfl, iteF' nw (iteF ?_)⟩
      refine ⟨_, rfl, pa, _, _, _, rfl, rfl, hT, h0, rfl, _, rfl, iteF' nw ?_⟩
      refine ⟨_, rfl, .ref pa, p, rfl, hp, fun H2 l s2 nl hl => ⟨l, rfl, ⟨_, SqL.of hl⟩, ?_⟩⟩
      have epl : p.wd.pl.length = p.kids.length := by rw [Pp.kids_pl, List.length_map]
      refine for_list (K := K) (a := l) (xs := p.wd.pl.map V.int) (fun j σ H' => ∃ (u : V) (y4 : Option V), σ = [some u, some (.int a), some vo, some (.int (m : Nat)), y4] ∧ IsPp K H' u (kfold (fun k => k.2.rem (putG a o) (m + p.inc k.1)) p j) ∧ Same H2 H') ?_ ?_ ?_ ?_
      · exact ⟨.ref pa, _, rfl, hp.same s2, Same.refl _⟩
      · rintro j σ H3 _ ⟨_, _, _, _, s3⟩
        exact SqL.of (s3 _ _ hl)
      · rintro j x σ H3 hx ⟨u, y4, rfl, iu, s3⟩
        rw [List.getElem?_map] at hx
        obtain ⟨pl, hpl, rfl⟩ := Option.map_eq_some_iff.mp hx
        rw [Pp.kids_pl, List.getElem?_map] at hpl
        obtain ⟨k, hk2, ek⟩ := Option.map_eq_some_iff.mp hpl
        subst ek
        have mk := kfold_kid (F := fun k => k.2.rem (putG a o) (m + p.inc k.1)) hk2
        have hkt := kid_ht (List.mem_of_getElem? hk2)
        have iu0 := iu
        obtain ⟨b, bts, rfl, hB, b5, _, hkb⟩ := iu.st1
        obtain ⟨k1, kl, ⟨x, hx, ix⟩, hset⟩ := hkb k mk
        obtain ⟨kn, ekn⟩ : ∃ kn : Nat, k.1 = (kn : Int) := ⟨k.1.toNat, by omega⟩
        have etn : k.1.toNat = kn := by omega
        rw [etn] at kl hx hset
        refine ⟨_, rfl, _, rfl, _, rfl, _, rfl, b, _, _, _, rfl, rfl, hB, by rw [ekn]; exact atI_nat hx, _, rfl, _, rfl, _, rfl, _, rfl, _, rfl, .ref b, _, k.1, rfl, iu0, ⟨k.2, mk⟩, ?_⟩
        rw [kfold_inc]
        refine ⟨_, _, rfl, rfl, x, vo, a, m + p.inc k.1, k.2, o, ?_, ix, (ho.same s2).same s3, by omega, fun H4 v4 s4 i4 => ?_⟩
        · show [x, V.int a, vo, V.int ((m : Int) + ((p.inc k.1 : Nat) : Int))] = [x, V.int a, vo, V.int ((m + p.inc k.1 : Nat) : Int)]
          rw [show ((m + p.inc k.1 : Nat) : Int) = (m : Int) + ((p.inc k.1 : Nat) : Int) by omega]
        refine ⟨b, bts, kn, v4, by rw [ekn]; rfl, seqT s4 hB, by omega, kl, b5, fun H5 t s5 ht => ?_⟩
        refine ⟨.ref t, _, rfl, ?_, s3.trans (s4.trans s5)⟩
        rw [kfold_succ hk2]
        exact hset H5 t v4 _ (Same.tk (s4.trans s5)) (i4.same s5) ht
      · rintro σ H3 ⟨u, y4, rfl, iu, s3⟩
        rw [List.length_map, epl, kfold_put a o m hu'] at iu
        exact ⟨_, rfl, q H3 u (s2.trans s3) iu⟩
/-! ### _law_borne -/
def sp_law_borne (K : PySem.W.Frag) : Sp := fun vs H Q _ => ∃ (vp vd : V) (p : Pp) (d c : Sm), vs = [vp, vd] ∧ IsPp K H vp p ∧ IsSm K H vd d ∧ p.shw d = some c ∧ ∀ H' v, Same H H' → IsSm K H' v c → Q v H'
theorem sm_row {K : PySem.W.Frag} {H : Hp} {v : V} {d : Sm} (h : IsSm K H v d) : ∃ (a : Addr) (xs : List V), v = .ref a ∧ SqT K H a xs ∧ 1 ≤ xs.length ∧ ∀ w x y, d = .bin w x y → ∃ v1 v2, xs = [.str w.s, v1, v2] ∧ IsSm K H v1 x ∧ IsSm K H v2 y := by
  cases h with
  | lt h => exact ⟨_, _, rfl, h, by simp, fun _ _ _ e => nomatch e⟩
  | nv h => exact ⟨_, _, rfl, h, by simp, fun _ _ _ e => nomatch e⟩
  | bin h i j => exact ⟨_, _, rfl, h, by simp, fun _ _ _ e => by cases e; exact ⟨_, _, rfl, i, j⟩⟩
theorem sIx_ne {n k : Nat} (h : 1 ≤ n) (hk : 1 ≤ k) {X : Prop} : ¬ (HT.sIx n 0 (some (k : Int)) = 0 ∧ X) := fun z => by
  have := z.1
  rw [HT.sIx_nat] at this
  omega
theorem pp_row {K : PySem.W.Frag} {H : Hp} {v : V} {p : Pp} (h : IsPp K H v p) : ∃ (a : Addr) (xs : List V), v = .ref a ∧ SqT K H a xs ∧ 1 ≤ xs.length ∧ atI xs 0 = some (.str p.wd.s) ∧ (∀ x q r c, p = .case x q r c → ∃ w v1 v2 v3 vc, xs = [w, v1, v2, v3, vc] ∧ IsSm K H vc c) ∧ ∀ x c, p = .escape x c → ∃ w v1 vc, xs = [w, v1, vc] ∧ IsSm K H vc c := by
  cases h with
  | use h => exact ⟨_, _, rfl, h, by simp, at0, fun _ _ _ _ e => (nomatch e), fun _ _ e => (nomatch e)⟩
  | name h => exact ⟨_, _, rfl, h, by simp, at0, fun _ _ _ _ e => (nomatch e), fun _ _ e => (nomatch e)⟩
  | pair h _ _ => exact ⟨_, _, rfl, h, by simp, at0, fun _ _ _ _ e => (nomatch e), fun _ _ e => (nomatch e)⟩
  | first h _ => exact ⟨_, _, rfl, h, by simp, at0, fun _ _ _ _ e => (nomatch e), fun _ _ e => (nomatch e)⟩
  | second h _ => exact ⟨_, _, rfl, h, by simp, at0, fun _ _ _ _ e => (nomatch e), fun _ _ e => (nomatch e)⟩
  | left h _ _ => exact ⟨_, _, rfl, h, by simp, at0, fun _ _ _ _ e => (nomatch e), fun _ _ e => (nomatch e)⟩
  | right h _ _ => exact ⟨_, _, rfl, h, by simp, at0, fun _ _ _ _ e => (nomatch e), fun _ _ e => (nomatch e)⟩
  | case h _ _ _ i => exact ⟨_, _, rfl, h, by simp, at0, fun _ _ _ _ e => by cases e; exact ⟨_, _, _, _, _, rfl, i⟩, fun _ _ e => (nomatch e)⟩
  | make h _ _ => exact ⟨_, _, rfl, h, by simp, at0, fun _ _ _ _ e => (nomatch e), fun _ _ e => (nomatch e)⟩
  | apply h _ _ => exact ⟨_, _, rfl, h, by simp, at0, fun _ _ _ _ e => (nomatch e), fun _ _ e => (nomatch e)⟩
  | escape h _ i => exact ⟨_, _, rfl, h, by simp, at0, fun _ _ _ _ e => (nomatch e), fun _ _ e => by cases e; exact ⟨_, _, _, rfl, i⟩⟩
theorem ok_law_borne (T : Txt w K mg) : Cl P w K mg base 1 "_law_borne" (sp_law_borne K) := by
  refine T.d_law_borne.ok sc_law_borne (fun vs H Q E h => ?_) (fun f cdv A outer s H vs Q E hr h => ?_)
  · obtain ⟨vp, vd, p, d, c, rfl, _⟩ := h
    rfl
  · obtain ⟨vp, vd, p, d, c, rfl, hp, hd, hsh, q⟩ := h
    refine ⟨_, (pss_one (ps_ret (pe_ix (r := rIxT K) ix_tup (pe_dget (hu_of hr) (pe_disp (pps_cons pe_str (pe_slice (r := rSlT K) sl_tup (pv 1) (po_some pe_int) (po_some pe_int)) (pps_cons pe_str (pe_slice (r := rSlT K) sl_tup (pv 1) (po_some pe_int) po_none) (pps_cons pe_str (pe_slice (r := rSlT K) sl_tup (pv 1) (po_some pe_int) po_none) (pps_cons pe_str (pe_slice (r := rSlT K) sl_tup (pv 0) (po_some pe_int) po_none) (pps_cons pe_str (pe_slice (r := rSlT K) sl_tup (pv 0) (po_some pe_int) po_none) pps_nil))))) rfl rfl (by simp) (by decide)) (pe_ix (r := rIxT K) ix_tup (pv 0) pe_int (fun _ _ => rfl)) (fun _ _ => rfl)) pe_int (fun _ _ => rfl)))), ?_⟩
    obtain ⟨ad, dts, rfl, hD, ld, hbin⟩ := sm_row hd
    obtain ⟨ap, pts, rfl, hP, lp, h0, hcs, hes⟩ := pp_row hp
    refine fun di nd => ?_
    have s1 : Same H (upd H di (.dK [])) := same_new nd
    have hd1 : (upd H di (.dK [])) di = some (.dK []) := upd_same
    generalize upd H di (.dK []) = H1 at s1 hd1 ⊢
    refine ⟨_, rfl, 1, rfl, 2, rfl, ad, _, rfl, seqT s1 hD, sIx_ne (k := 1) ld (Nat.le_refl _), fun t1 n1 => ?_⟩
    have r1 : Same H1 (upd H1 t1 (.tup (cutV dts (some 1) (some 2)))) := same_new n1
    have g1_1 : (upd H1 t1 (.tup (cutV dts (some 1) (some 2)))) t1 = some (.tup (cutV dts (some 1) (some 2))) := upd_same
    have hd2 := r1 _ _ hd1
    have s2 := s1.trans r1
    generalize upd H1 t1 (.tup (cutV dts (some 1) (some 2))) = H2 at r1 s2 hd2 g1_1 ⊢
    refine ⟨_, rfl, 2, rfl, ad, _, rfl, seqT s2 hD, sIx_ne (k := 2) ld (by decide), fun t2 n2 => ?_⟩
    have r2 : Same H2 (upd H2 t2 (.tup (cutV dts (some 2) none))) := same_new n2
    have g2_2 : (upd H2 t2 (.tup (cutV dts (some 2) none))) t2 = some (.tup (cutV dts (some 2) none)) := upd_same
    have hd3 := r2 _ _ hd2
    have s3 := s2.trans r2
    have g1_2 := r2 _ _ g1_1
    generalize upd H2 t2 (.tup (cutV dts (some 2) none)) = H3 at r2 s3 hd3 g1_2 g2_2 ⊢
    refine ⟨_, rfl, 2, rfl, ad, _, rfl, seqT s3 hD, sIx_ne (k := 2) ld (by decide), fun t3 n3 => ?_⟩
    have r3 : Same H3 (upd H3 t3 (.tup (cutV dts (some 2) none))) := same_new n3
    have g3_3 : (upd H3 t3 (.tup (cutV dts (some 2) none))) t3 = some (.tup (cutV dts (some 2) none)) := upd_same
    have hd4 := r3 _ _ hd3
    have s4 := s3.trans r3
    have g1_3 := r3 _ _ g1_2
    have g2_3 := r3 _ _ g2_2
    generalize upd H3 t3 (.tup (cutV dts (some 2) none)) = H4 at r3 s4 hd4 g1_3 g2_3 g3_3 ⊢
    refine ⟨_, rfl, 4, rfl, ap, _, rfl, seqT s4 hP, sIx_ne (k := 4) lp (by decide), fun t4 n4 => ?_⟩
    have r4 : Same H4 (upd H4 t4 (.tup (cutV pts (some 4) none))) := same_new n4
    have g4_4 : (upd H4 t4 (.tup (cutV pts (some 4) none))) t4 = some (.tup (cutV pts (some 4) none)) := upd_same
    have hd5 := r4 _ _ hd4
    have s5 := s4.trans r4
    have g1_4 := r4 _ _ g1_3
    have g2_4 := r4 _ _ g2_3
    have g3_4 := r4 _ _ g3_3
    generalize upd H4 t4 (.tup (cutV pts (some 4) none)) = H5 at r4 s5 hd5 g1_4 g2_4 g3_4 g4_4 ⊢
    refine ⟨_, rfl, 2, rfl, ap, _, rfl, seqT s5 hP, sIx_ne (k := 2) lp (by decide), fun t5 n5 => ?_⟩
    have r5 : Same H5 (upd H5 t5 (.tup (cutV pts (some 2) none))) := same_new n5
    have g5_5 : (upd H5 t5 (.tup (cutV pts (some 2) none))) t5 = some (.tup (cutV pts (some 2) none)) := upd_same
    have hd6 := r5 _ _ hd5
    have s6 := s5.trans r5
    have g1_5 := r5 _ _ g1_4
    have g2_5 := r5 _ _ g2_4
    have g3_5 := r5 _ _ g3_4
    have g4_5 := r5 _ _ g4_4
    generalize upd H5 t5 (.tup (cutV pts (some 2) none)) = H6 at r5 s6 hd6 g1_5 g2_5 g3_5 g4_5 g5_5 ⊢
    refine ⟨hd6, [(.inr "first", .ref t1), (.inr "second", .ref t2), (.inr "apply", .ref t3), (.inr "case", .ref t4), (.inr "escape", .ref t5)], rfl, (by show 5 ≤ 15; decide), ?_⟩
    have e1 : t1 ≠ di := fun z => by rw [z, hd6] at g1_5; cases g1_5
    have e2 : t2 ≠ di := fun z => by rw [z, hd6] at g2_5; cases g2_5
    have e3 : t3 ≠ di := fun z => by rw [z, hd6] at g3_5; cases g3_5
    have e4 : t4 ≠ di := fun z => by rw [z, hd6] at g4_5; cases g4_5
    have e5 : t5 ≠ di := fun z => by rw [z, hd6] at g5_5; cases g5_5
    have g : ∀ wd : PW, valV (mergeK [] ([(.inr "first", .ref t1), (.inr "second", .ref t2), (.inr "apply", .ref t3), (.inr "case", .ref t4), (.inr "escape", .ref t5)] : List (Key × V))) (.inr wd.s) = (match wd with | .first => some (.ref t1) | .second => some (.ref t2) | .apply => some (.ref t3) | .case => some (.ref t4) | .escape => some (.ref t5) | _ => none) := fun wd => by
      simp only [mergeK, List.foldl_cons, List.foldl_nil, valV_put]
      cases wd <;> rfl
    generalize mergeK [] ([(.inr "first", .ref t1), (.inr "second", .ref t2), (.inr "apply", .ref t3), (.inr "case", .ref t4), (.inr "escape", .ref t5)] : List (Key × V)) = M at g ⊢
    have f1 := (show (upd H6 di (.dK M)) t1 = H6 t1 from upd_ne e1).trans g1_5
    have f2 := (show (upd H6 di (.dK M)) t2 = H6 t2 from upd_ne e2).trans g2_5
    have f3 := (show (upd H6 di (.dK M)) t3 = H6 t3 from upd_ne e3).trans g3_5
    have f4 := (show (upd H6 di (.dK M)) t4 = H6 t4 from upd_ne e4).trans g4_5
    have f5 := (show (upd H6 di (.dK M)) t5 = H6 t5 from upd_ne e5).trans g5_5
    have s9 : Same H (upd H6 di (.dK M)) := same_put s6 nd
    have hd9 : (upd H6 di (.dK M)) di = some (.dK M) := upd_same
    generalize upd H6 di (.dK M) = H9 at s9 hd9 f1 f2 f3 f4 f5 ⊢
    have dg := DGet.k (k := .inr p.wd.s) hd9
    rw [g] at dg
    have c12 : cutV dts (some 1) (some 2) = (dts.drop 1).take 1 := cut_nat _ 1 2
    have c2 : cutV dts (some 2) none = dts.drop 2 := cut_from _ 2
    have c4p : cutV pts (some 4) none = pts.drop 4 := cut_from _ 4
    have c2p : cutV pts (some 2) none = pts.drop 2 := cut_from _ 2
    rw [c12] at f1
    rw [c2] at f2 f3
    rw [c4p] at f4
    rw [c2p] at f5
    refine ⟨_, rfl, ap, _, _, _, rfl, rfl, seqT s9 hP, h0, di, ?_⟩
    have fin : ∀ (t : Addr) (vc : V), H9 t = some (.tup [vc]) → IsSm K H vc c → DGet H9 di (.str p.wd.s) (some (.ref t)) → ∃ v, V.ref di = V.ref di ∧ DGet H9 di (.str p.wd.s) (some v) ∧ rIxT K v (.int 0) H9 (fun x H' => Q x H') := fun t vc ht iv dg => ⟨.ref t, rfl, dg, t, _, _, _, rfl, rfl, .inl (.inl ht), at0, q H9 vc s9 (iv.same s9)⟩
    cases p with
    | first x =>
      cases d with
      | bin w x y =>
        cases hsh
        obtain ⟨v1, v2, rfl, i1, i2⟩ := hbin _ _ _ rfl
        exact fin t1 v1 f1 i1 dg
      | _ => cases hsh
    | second x =>
      cases d with
      | bin w x y =>
        cases hsh
        obtain ⟨v1, v2, rfl, i1, i2⟩ := hbin _ _ _ rfl
        exact fin t2 v2 f2 i2 dg
      | _ => cases hsh
    | apply x y =>
      cases d with
      | bin w x y =>
        cases hsh
        obtain ⟨v1, v2, rfl, i1, i2⟩ := hbin _ _ _ rfl
        exact fin t3 v2 f3 i2 dg
      | _ => cases hsh
    | case x y z c =>
      cases hsh
      obtain ⟨_, _, _, _, vc, rfl, ic⟩ := hcs _ _ _ _ rfl
      exact fin t4 vc f4 ic dg
    | escape x c =>
      cases hsh
      obtain ⟨_, _, vc, rfl, ic⟩ := hes _ _ rfl
      exact fin t5 vc f5 ic dg
    | _ => cases hsh
/-! ### _law_here -/
theorem htn {K : PySem.W.Frag} {H : Hp} {v : V} {p : Pp} (_ : IsPp K H v p) : p.ht + 1 ≤ p.nn := ht_nn p
theorem kfold_wch (n : Int) (q : Pp) {p c : Pp} (h : p.chf = some c) : kfold (fun k => if k.1 = 1 then q else k.2.mv n 1) p p.kids.length = p.wch n q := by
  cases p <;> first | (cases h; done) | rfl
theorem chf_kid {p c : Pp} (h : p.chf = some c) : p.kids[0]? = some (1, c) := by
  cases p <;> first | (cases h; done) | (cases h; rfl)
theorem drop_kid {p c : Pp} (h : p.chf = some c) {j : Nat} {k : Int × Pp} (e : p.kids[j + 1]? = some k) : k.1 ≠ 1 := by
  cases p <;> first | (cases h; done) | skip
  case first _ => cases j <;> cases e
  case second _ => cases j <;> cases e
  case escape _ _ => cases j <;> cases e
  case apply _ _ => match j, e with | 0, e => cases e; show (2 : Int) ≠ 1; decide
  case case _ _ _ _ => match j, e with
    | 0, e => cases e; show (2 : Int) ≠ 1; decide
    | 1, e => cases e; show (3 : Int) ≠ 1; decide
def sp_law_here (K : PySem.W.Frag) (n : Nat) : Sp := fun vs H Q _ => ∃ (i : Int) (v : V) (p : Pp), vs = [.int i, v] ∧ IsPp K H v p ∧ p.Jo1 ∧ p.nn ≤ n ∧ ∀ H' v', Same H H' → OptV K H' v' (p.stepped i) → Q v' H'
set_option maxHeartbeats 2000000 in
theorem ok_law_here (T : Txt w K mg) (cr__law_put : ∀ n, ClR P w K mg base 10 n "_law_put" (sp_law_put K n)) (c__law_borne : Cl P w K mg base 1 "_law_borne" (sp_law_borne K)) (c__law_with : Cl P w K mg base 1 "_law_with" (sp_law_with K)) (c__law_spots : Cl P w K mg base 1 "_law_spots" (sp_law_spots K)) (cr__law_moved : ∀ n, ClR P w K mg base 10 n "_law_moved" (sp_law_moved K n)) : ∀ n : Nat, ClR P w K mg base 11 n "_law_here" (sp_law_here K n)
  | 0 => T.d_law_here.noneR fun vs H Q E h => by
    obtain ⟨_, _, p, _, _, _, h, _⟩ := h
    have := ht_nn p
    omega
  | n + 1 => by
    have c__law_put := cr__law_put n
    have c__law_moved := cr__law_moved n
    refine T.d_law_here.okR sc_law_here (fun vs H Q E h => ?_) (fun f cdv A outer s H vs Q E hrR h => ?_)
    · obtain ⟨i, v, p, rfl, _⟩ := h
      rfl
    have hr := hrR.room
    obtain ⟨i, v, p, rfl, hp, hj, hn, q⟩ := h
    refine ⟨_, (pss_cons (ps_if (pt_cmpR (r := rIn K true) op_notIn_seq (pe_ix (r := rIxT K) ix_tup (pv 1) pe_int (fun _ _ => rfl)) (pe_tup (pa_cons pe_str (pa_cons pe_str (pa_cons pe_str (pa_cons pe_str (pa_cons pe_str pa_nil)))))) (by rfl))
      (pss_one (ps_ret pe_non))
      pss_nil)
    (pss_cutO (ps_asg (pe_slice (r := rSlA K) sl_tupA (pv 1) po_none (po_some pe_int)) (pg_tup rfl (pgs_cons (pg_name (i := 2) sc_law_here.nd rfl (Or.inl rfl)) (pgs_cons (pg_name (i := 3) sc_law_here.nd rfl (Or.inl rfl)) pgs_nil))))
    (pss_cons (ps_set (i := 4) sc_law_here.nd rfl (Or.inl rfl) (pe_tup (pa_cons (pv 2) (pa_cons (pe_ix (r := rIxT K) ix_tup (pv 3) pe_int (fun _ _ => rfl)) pa_nil))))
    (pss_cons (ps_if (pt_cmpR (r := rInDT K) (op_inDT hr) (pv 4) (pe_tup (pa_cons (pe_tup (pa_cons pe_str (pa_cons pe_str pa_nil))) (pa_cons (pe_tup (pa_cons pe_str (pa_cons pe_str pa_nil))) pa_nil))) (by rfl))
      (pss_one (ps_ret (pe_ix (r := rIxT K) ix_tup (pv 3) (pe_op op_add pe_int (pe_callTy call_int1 rfl T.n_int (by decide +kernel) (pa_cons (pe_cmpR op_eq (pv 2) pe_str (nomark _)) pa_nil))) (fun _ _ => rfl))))
      pss_nil)
    (pss_cons (ps_if (pt_cmpR (r := rEqE K) (op_eqE hr.units) (pv 4) (pe_tup (pa_cons pe_str (pa_cons pe_str pa_nil))) (nomark _))
      (pss_one (ps_ret (pe_kR c__law_put hrR (by omega) (by omega) rfl (pa_cons (pe_ix (r := rIxT K) ix_tup (pv 3) pe_int (fun _ _ => rfl)) (pa_cons (pv 0) (pa_cons (pe_ix (r := rIxT K) ix_tup (pv 1) pe_int (fun _ _ => rfl)) (pa_cons pe_int pa_nil)))))))
      pss_nil)
    (pss_cons (ps_if (pt_cmpR (r := rEqE K) (op_eqE hr.units) (pv 4) (pe_tup (pa_cons pe_str (pa_cons pe_str pa_nil))) (nomark _))
      (pss_one (ps_ret (pe_kR c__law_put hrR (by omega) (by omega) rfl (pa_cons (pe_ix (r := rIxT K) ix_tup (pv 1) pe_int (fun _ _ => rfl)) (pa_cons (pv 0) (pa_cons (pe_ix (r := rIxT K) ix_tup (pv 3) pe_int (fun _ _ => rfl)) (pa_cons pe_int pa_nil)))))))
      pss_nil)
    (pss_cons (ps_if (pt_cmpR (r := rEqE K) (op_eqE hr.units) (pv 4) (pe_tup (pa_cons pe_str (pa_cons pe_str pa_nil))) (nomark _))
      (pss_one (ps_ret (pe_kR c__law_put hrR (by omega) (by omega) rfl (pa_cons (pe_ix (r := rIxT K) ix_tup (pv 1) pe_int (fun _ _ => rfl)) (pa_cons (pv 0) (pa_cons (pe_ix (r := rIxT K) ix_tup (pv 3) pe_int (fun _ _ => rfl)) (pa_cons pe_int pa_nil)))))))
      pss_nil)
    (pss_cons (ps_if (pt_cmpR op_eq (pe_ix (r := rIxT K) ix_tup (pv 3) pe_int (fun _ _ => rfl)) pe_str (nomark _))
      (pss_one (ps_ret (pe_tup (pa_cons pe_str (pa_cons (pe_ix (r := rIxT K) ix_tup (pv 3) pe_int (fun _ _ => rfl)) (pa_cons (pe_k c__law_borne hr (by omega) rfl (pa_cons (pv 1) (pa_cons (pe_ix (r := rIxT K) ix_tup (pv 3) pe_int (fun _ _ => rfl)) pa_nil))) pa_nil))))))
      pss_nil)
    (pss_cons (ps_if (pt_cmpR op_ne (pe_ix (r := rIxT K) ix_tup (pv 3) pe_int (fun _ _ => rfl)) pe_str (nomark _))
      (pss_one (ps_ret pe_non))
      pss_nil)
    (pss_cons (ps_set (i := 5) sc_law_here.nd rfl (Or.inl rfl) (pe_lst pa_nil))
    (pss_cons (ps_for PassesOwn.never rfl (pi_tupK (K := K) (pe_slice (r := rSlT K) sl_tup (pv 3) (po_some pe_int) (po_some pe_int))) (pg_name (i := 6) sc_law_here.nd rfl (Or.inl rfl))
      (pss_cons (ps_set (i := 7) sc_law_here.nd rfl (Or.inl rfl) (pe_k c__law_with hr (by omega) rfl (pa_cons (pv 1) (pa_cons pe_int (pa_cons (pv 6) pa_nil)))))
        (pss_cons (ps_for PassesOwn.never rfl (pi_listK (K := K) (pe_slice (r := rSlL K) sl_list (pe_k c__law_spots hr (by omega) rfl (pa_cons (pv 1) pa_nil)) (po_some pe_int) po_none)) (pg_name (i := 8) sc_law_here.nd rfl (Or.inl rfl))
          (pss_one (ps_set (i := 7) sc_law_here.nd rfl (Or.inl rfl) (pe_k c__law_with hr (by omega) rfl (pa_cons (pv 7) (pa_cons (pv 8) (pa_cons (pe_kR c__law_moved hrR (by omega) (by omega) rfl (pa_cons (pe_ix (r := rIxT K) ix_tup (pv 1) (pv 8) (fun _ _ => rfl)) (pa_cons (pv 0) (pa_cons pe_int pa_nil)))) pa_nil)))))))
        (pss_one (ps_expr (pe_bm PySem.F.plainAttrs_list PySem.F.slot_list_append PySem.F.type_list_append mt_append (pv 5) (pa_cons (pv 7) pa_nil)))))))
    (pss_one (ps_ret (pe_tup (pa_cons pe_str (pa_cons (pe_ix (r := rIxT K) ix_tup (pv 3) pe_int (fun _ _ => rfl)) (pa_cons (pe_ix (r := rIxL K) ix_list (pv 5) pe_int (fun _ _ => rfl)) (pa_cons (pe_ix (r := rIxL K) ix_list (pv 5) pe_int (fun _ _ => rfl)) (pa_cons (pe_k c__law_borne hr (by omega) rfl (pa_cons (pv 1) (pa_cons (pe_ix (r := rIxT K) ix_tup (pv 3) pe_int (fun _ _ => rfl)) pa_nil))) pa_nil))))))))))))))))))), ?_⟩
    obtain ⟨a, pts, rfl, hP, lp, h0, hcs, hes⟩ := pp_row hp
    refine ⟨_, rfl, a, _, _, _, rfl, rfl, hP, h0, (by show 5 ≤ sizeLine; decide), fun t0 nt0 => ?_⟩
    have s1 : Same H (upd H t0 (.tup [.str "first", .str "second", .str "apply", .str "case", .str "escape"])) := same_new nt0
    refine ⟨t0, _, rfl, .inr (.inl (.inl upd_same)), rfl, rfl, ?_⟩
    have eb : inV (.str p.wd.s) [.str PW.first.s, .str PW.second.s, .str PW.apply.s, .str PW.case.s, .str PW.escape.s] = p.chf.isSome := (chf_row p.wd).trans (chf_wd p).symm
    refine ⟨_, rfl, ?_⟩
    cases e : p.chf with
    | none => exact iteT' (by show (!inV (.str p.wd.s) [.str PW.first.s, .str PW.second.s, .str PW.apply.s, .str PW.case.s, .str PW.escape.s]) = true; rw [eb, e]; rfl) (q _ .non s1 (.inl ⟨stepped_none e, rfl⟩))
    | some c =>
    refine iteF' (by show (!inV (.str p.wd.s) [.str PW.first.s, .str PW.second.s, .str PW.apply.s, .str PW.case.s, .str PW.escape.s]) = false; rw [eb, e]; rfl) ?_
    generalize upd H t0 (.tup [V.str "first", .str "second", .str "apply", .str "case", .str "escape"]) = H1 at s1 ⊢
    obtain ⟨a', xs, x, ea, ha, ix⟩ := hp.chief e
    cases ea
    refine ⟨fun σ' H' => σ' = [some (.int i), some (.ref a), some (.str p.wd.s), some x, none, none, none, none, none] ∧ Same H H', ?_, fun σ' H2 hm => ?_⟩
    · refine ⟨_, rfl, 2, rfl, a, _, rfl, seqT s1 ha, fun hw => ?_, fun hw t nt => ?_⟩
      · have h2 := hw.2
        rw [show (2 : Int) = ((2 : Nat) : Int) from rfl, HT.sIx_nat] at h2
        have exs : xs = [] := List.length_eq_zero_iff.mp (by simp only [List.length_cons] at h2; omega)
        subst exs
        exact ⟨a, _, rfl, seqT s1 ha, rfl, _, _, rfl, _, _, rfl, rfl, rfl, s1⟩
      · have ec : cutV (.str p.wd.s :: x :: xs) none (some 2) = [.str p.wd.s, x] := cut_to _ 2
        rw [ec]
        exact ⟨t, _, rfl, .inl (.inl upd_same), rfl, _, _, rfl, _, _, rfl, rfl, rfl, s1.trans (same_new nt)⟩
    obtain ⟨rfl, s2⟩ := hm
    obtain ⟨o, its, rfl, ho, hkk⟩ := ix.kid
    clear hkk
    refine ⟨_, rfl, _, rfl, o, _, _, _, rfl, rfl, seqT s2 ho, at0, sz2, fun tb ntb => ?_⟩
    have s3 : Same H2 (upd H2 tb (.tup [.str p.wd.s, .str c.wd.s])) := same_new ntb
    have htb : (upd H2 tb (.tup [.str p.wd.s, .str c.wd.s])) tb = some (.tup [.str p.wd.s, .str c.wd.s]) := upd_same
    generalize upd H2 tb (.tup [.str p.wd.s, .str c.wd.s]) = H3 at s3 htb ⊢
    have s03 := s2.trans s3
    clear s1 s2 s3
    have tk_ : p.taken i ≠ none → p.stepped i = p.taken i := fun h => by
      unfold Pp.stepped
      cases e2 : p.taken i with
      | none => exact absurd e2 h
      | some _ => rfl
    refine condI (σ := [some (.int i), some (.ref a), some (.str p.wd.s), some (.ref o), some (.ref tb), none, none, none, none]) .first .pair .second .pair rfl (.inl (.inl htb)) fun H4 s4 => ?_
    have s04 := s03.trans s4
    have hB4 : SqT K H4 tb [.str p.wd.s, .str c.wd.s] := .inl (.inl (s4 _ _ htb))
    cases h1 : (decide (p.wd = .first) && decide (c.wd = .pair) || decide (p.wd = .second) && decide (c.wd = .pair)) with
    | true =>
      refine iteT' rfl ?_
      rcases Bool.or_eq_true_iff.mp h1 with h1 | h1
      · obtain ⟨e1, e2⟩ := and_wd h1
        cases p <;> first | exact PW.noConfusion e1 | skip
        cases e
        cases c <;> first | exact PW.noConfusion e2 | skip
        cases ix with
        | @pair _ x1 x2 _ _ hk i1 i2 =>
          have AT : atI [.str PW.pair.s, x1, x2] (1 + (if decide (V.str PW.first.s = V.str (Str.ofString "second")) = true then 1 else 0)) = some x1 := by
            rw [show decide (V.str PW.first.s = V.str (Str.ofString "second")) = false from by decide +kernel]
            exact at1
          exact ⟨_, rfl, _, rfl, rfl, .inr ⟨_, rfl, _, _, rfl, rfl, o, _, _, _, rfl, rfl, seqT s04 hk, AT, q _ _ s04 (.inr ⟨_, rfl, i1.same s04⟩)⟩⟩
      · obtain ⟨e1, e2⟩ := and_wd h1
        cases p <;> first | exact PW.noConfusion e1 | skip
        cases e
        cases c <;> first | exact PW.noConfusion e2 | skip
        cases ix with
        | @pair _ x1 x2 _ _ hk i1 i2 =>
          have AT : atI [.str PW.pair.s, x1, x2] (1 + (if decide (V.str PW.second.s = V.str (Str.ofString "second")) = true then 1 else 0)) = some x2 := by
            rw [show decide (V.str PW.second.s = V.str (Str.ofString "second")) = true from by decide +kernel]
            exact at2
          exact ⟨_, rfl, _, rfl, rfl, .inr ⟨_, rfl, _, _, rfl, rfl, o, _, _, _, rfl, rfl, seqT s04 hk, AT, q _ _ s04 (.inr ⟨_, rfl, i2.same s04⟩)⟩⟩
    | false =>
    obtain ⟨n1, n2⟩ := Bool.or_eq_false_iff.mp h1
    refine iteF' rfl ?_
    refine condP (σ := [some (.int i), some (.ref a), some (.str p.wd.s), some (.ref o), some (.ref tb), none, none, none, none]) .apply .make rfl hB4 fun H5 s5 => ?_
    have s05 := s04.trans s5
    have hB5 := seqT s5 hB4
    cases n3 : (decide (p.wd = .apply) && decide (c.wd = .make)) with
    | true =>
      obtain ⟨e1, e2⟩ := and_wd n3
      refine iteT' rfl ?_
      cases p <;> first | exact PW.noConfusion e1 | skip
      cases e
      cases c <;> first | exact PW.noConfusion e2 | skip
      cases ix with
      | make hk i1 _ =>
        cases hp with
        | apply h' _ iq =>
          simp only [Pp.nn] at hn
          have l1 := htn i1
          have l2 := htn iq
          exact ⟨_, rfl, o, _, _, _, rfl, rfl, seqT s05 hk, at2, _, rfl, _, rfl, a, _, _, _, rfl, rfl, seqT s05 h', at2, _, _, i, 0, _, _, rfl, i1.same s05, iq.same s05, by omega, fun H6 v6 s6 i6 => q H6 v6 (s05.trans s6) (.inr ⟨_, rfl, i6⟩)⟩
    | false =>
    refine iteF' rfl ?_
    refine condP (σ := [some (.int i), some (.ref a), some (.str p.wd.s), some (.ref o), some (.ref tb), none, none, none, none]) .case .left rfl hB5 fun H6 s6 => ?_
    have s06 := s05.trans s6
    have hB6 := seqT s6 hB5
    cases n4 : (decide (p.wd = .case) && decide (c.wd = .left)) with
    | true =>
      obtain ⟨e1, e2⟩ := and_wd n4
      refine iteT' rfl ?_
      cases p <;> first | exact PW.noConfusion e1 | skip
      cases e
      cases c <;> first | exact PW.noConfusion e2 | skip
      cases ix with
      | left hk i1 _ =>
        cases hp with
        | case h' _ iq ir _ =>
          simp only [Pp.nn] at hn
          have l1 := htn i1
          have l2 := htn iq
          exact ⟨_, rfl, a, _, _, _, rfl, rfl, seqT s06 h', at2, _, rfl, _, rfl, o, _, _, _, rfl, rfl, seqT s06 hk, at1, _, _, i, 0, _, _, rfl, iq.same s06, i1.same s06, by omega, fun H7 v7 s7 i7 => q H7 v7 (s06.trans s7) (.inr ⟨_, rfl, i7⟩)⟩
    | false =>
    refine iteF' rfl ?_
    refine condP (σ := [some (.int i), some (.ref a), some (.str p.wd.s), some (.ref o), some (.ref tb), none, none, none, none]) .case .right rfl hB6 fun H7 s7 => ?_
    have s07 := s06.trans s7
    cases n5 : (decide (p.wd = .case) && decide (c.wd = .right)) with
    | true =>
      obtain ⟨e1, e2⟩ := and_wd n5
      refine iteT' rfl ?_
      cases p <;> first | exact PW.noConfusion e1 | skip
      cases e
      cases c <;> first | exact PW.noConfusion e2 | skip
      cases ix with
      | right hk i1 _ =>
        cases hp with
        | case h' _ iq ir _ =>
          simp only [Pp.nn] at hn
          have l1 := htn i1
          have l2 := htn ir
          have l3 := htn iq
          exact ⟨_, rfl, a, _, _, _, rfl, rfl, seqT s07 h', at3, _, rfl, _, rfl, o, _, _, _, rfl, rfl, seqT s07 hk, at2, _, _, i, 0, _, _, rfl, ir.same s07, i1.same s07, by omega, fun H8 v8 s8 i8 => q H8 v8 (s07.trans s8) (.inr ⟨_, rfl, i8⟩)⟩
    | false =>
    refine iteF' rfl ?_
    have tn := taken_none (n := i) e n1 n2 n3 n4 n5
    have es : p.stepped i = p.lifted i := by unfold Pp.stepped; rw [tn]
    rw [es] at q
    clear tk_ n1 n2 n3 n4 n5 h1 hB4 hB5 hB6 htb es tn
    by_cases w1 : c.wd = .escape
    · refine ⟨_, rfl, o, _, _, _, rfl, rfl, seqT s07 ho, at0, rfl, _, rfl, iteT' ((PW.s_eq c.wd .escape).trans (decide_eq_true w1)) ?_⟩
      cases c <;> first | exact PW.noConfusion w1 | skip
      rename_i c0 b0
      obtain ⟨s0, hs0⟩ := Option.isSome_iff_exists.mp (hj c0 b0 (.inl e))
      cases ix with
      | @escape _ x1 _ _ _ hq i1 is =>
        refine ⟨_, rfl, o, _, _, _, rfl, rfl, seqT s07 hq, at1, _, rfl, _, rfl, o, _, _, _, rfl, rfl, seqT s07 hq, at2, .ref a, _, p, b0, s0, rfl, hp.same s07, is.same s07, hs0, fun H8 v8 s8 j8 => ⟨sz3, fun t nt => ?_⟩⟩
        have s9 := same_new (o := .tup [.str "escape", x1, v8]) nt
        have s09 := (s07.trans s8).trans s9
        refine q _ _ s09 (.inr ⟨.escape c0 s0, ?_, .escape (.inl (.inl upd_same)) (i1.same s09) (j8.same s9)⟩)
        rw [liftC_lifted (c := s0) (.inl ⟨c0, b0, e, hs0⟩)]
        unfold liftC
        rw [e]
    refine ⟨_, rfl, o, _, _, _, rfl, rfl, seqT s07 ho, at0, rfl, _, rfl, iteF' ((PW.s_eq c.wd .escape).trans (decide_eq_false w1)) ?_⟩
    by_cases w2 : c.wd = .case
    · refine ⟨_, rfl, o, _, _, _, rfl, rfl, seqT s07 ho, at0, rfl, _, rfl, iteF' (by rw [show (c.wd) = PW.case from w2]; decide +kernel) ?_⟩
      cases c <;> first | exact PW.noConfusion w2 | skip
      rename_i c0 c1 c2 b0
      obtain ⟨s0, hs0⟩ := Option.isSome_iff_exists.mp (hj c0 b0 (.inr ⟨c1, c2, e⟩))
      cases ix with
      | @case _ y0 y1 y2 ys _ _ _ _ hq i0 i1 i2 is =>
        refine ⟨sz0, fun la nla => ?_⟩
        have s8 : Same H7 (upd H7 la (.lst [])) := same_new nla
        have hla : (upd H7 la (.lst [])) la = some (.lst []) := upd_same
        generalize upd H7 la (.lst []) = H8 at s8 hla ⊢
        have s08 := s07.trans s8
        have hsl : ¬ (HT.sIx 5 0 (some 2) = 0 ∧ HT.sIx 5 5 (some 4) = 5) := by decide
        refine ⟨_, rfl, 2, rfl, 4, rfl, o, _, rfl, seqT s08 hq, hsl, fun t nt => ?_⟩
        rw [show cutV [V.str "case", y0, y1, y2, ys] (some 2) (some 4) = [y1, y2] from cut_nat _ 2 4]
        have s9 : Same H8 (upd H8 t (.tup [y1, y2])) := same_new nt
        have ht : (upd H8 t (.tup [y1, y2])) t = some (.tup [y1, y2]) := upd_same
        have hla9 := s9 _ _ hla
        generalize upd H8 t (.tup [y1, y2]) = H9 at s9 ht hla9 ⊢
        have s09 := s08.trans s9
        have nlaH : H la = none := s07.free nla
        obtain ⟨a2, bts, ea, hbT, b5, _, hbk⟩ := hp.st1
        cases ea
        obtain ⟨_, kl1, _, hset1⟩ := hbk (1, .case c0 c1 c2 b0) (List.mem_of_getElem? (chf_kid e))
        have hk0 := chf_kid e
        have epl : p.wd.pl.length = p.kids.length := by rw [Pp.kids_pl, List.length_map]
        have k3 := p.kids_le
        have kp : 1 ≤ p.kids.length := by
          have := (List.getElem?_eq_some_iff.mp hk0).1
          omega
        refine ⟨t, rfl, ⟨_, .inl (.inl ht)⟩, for_tup (K := K) (a := t) (xs := [y1, y2]) (fun m σ H' => ∃ (y6 y7 y8 : Option V) (us : List V), σ = [some (.int i), some (.ref a), some (.str p.wd.s), some (.ref o), some (.ref tb), some (.ref la), y6, y7, y8] ∧ H' la = some (.lst us) ∧ Paired (IsPp K H') us (([p.wch i c1, p.wch i c2]).take m) ∧ Same H H' ∧ TK K H9 H') ?_ ?_ ?_ ?_⟩
        · exact ⟨_, _, _, [], rfl, hla9, .nil, s09, fun _ _ h => h⟩
        · rintro m σ H' _ ⟨_, _, _, _, _, _, _, _, tk⟩
          exact tk _ _ (.inl (.inl ht))
        · rintro m z σ HA hz ⟨y6, y7, y8, us, rfl, hlaA, pus, sA, tkA⟩
          obtain ⟨qi, hqi, iz⟩ : ∃ qi, [c1, c2][m]? = some qi ∧ IsPp K H z qi := by
            match m, hz with
            | 0, hz => cases hz; exact ⟨_, rfl, i1⟩
            | 1, hz => cases hz; exact ⟨_, rfl, i2⟩
          have hi2 : m < 2 := (List.getElem?_eq_some_iff.mp hqi).1
          have ewch : [p.wch i c1, p.wch i c2][m]? = some (p.wch i qi) := by
            match m, hqi with
            | 0, hqi => cases hqi; rfl
            | 1, hqi => cases hqi; rfl
          obtain ⟨F, eF⟩ : ∃ F : Int × Pp → Pp, F = (fun k => if k.1 = 1 then qi else k.2.mv i 1) := ⟨_, rfl⟩
          have kf1 : kfold F p 1 = p.set1 1 qi := by
            rw [kfold_succ (j := 0) hk0, kfold_zero, eF]
            rfl
          refine ⟨_, rfl, _, rfl, a, bts, 1, z, rfl, seqT sA hbT, Nat.le_refl _, kl1, b5, fun HB tB sB hB => ?_⟩
          have sAB := sA.trans sB
          have iB : IsPp K HB (.ref tB) (kfold F p 1) := by
            rw [kf1]
            exact hset1 HB tB z qi (Same.tk sAB) (iz.same sAB) hB
          have hlaB := sB _ _ hlaA
          refine ⟨_, rfl, .ref a, p, rfl, hp.same sAB, fun HC l sC nl hl => ⟨1, rfl, l, _, rfl, SqL.of hl, fun l2 nl2 => ?_⟩⟩
          have sD : Same HC (upd HC l2 (.lst (cutV (p.wd.pl.map V.int) (some 1) none))) := same_new nl2
          have ec : cutV (p.wd.pl.map V.int) (some 1) none = (p.wd.pl.map V.int).drop 1 := cut_from _ 1
          rw [ec] at sD ⊢
          have hl2 : (upd HC l2 (.lst ((p.wd.pl.map V.int).drop 1))) l2 = some (.lst ((p.wd.pl.map V.int).drop 1)) := upd_same
          generalize upd HC l2 (.lst ((p.wd.pl.map V.int).drop 1)) = HD at sD hl2 ⊢
          have sBD := sC.trans sD
          have sHD := sAB.trans sBD
          have hlaD := sBD _ _ hlaB
          refine ⟨l2, rfl, ⟨_, SqL.of hl2⟩, for_list (K := K) (a := l2) (xs := (p.wd.pl.map V.int).drop 1) (fun j σ H' => ∃ (u : V) (y8 : Option V), σ = [some (.int i), some (.ref a), some (.str p.wd.s), some (.ref o), some (.ref tb), some (.ref la), some z, some u, y8] ∧ IsPp K H' u (kfold F p (j + 1)) ∧ Same HD H') ?_ ?_ ?_ ?_⟩
          · exact ⟨.ref tB, _, rfl, iB.same sBD, Same.refl _⟩
          · rintro j σ H' _ ⟨_, _, _, _, s3⟩
            exact SqL.of (s3 _ _ hl2)
          · rintro j x0 σ HE hx ⟨u, y8, rfl, iu, sE⟩
            rw [List.getElem?_drop, List.getElem?_map] at hx
            obtain ⟨pl, hpl, rfl⟩ := Option.map_eq_some_iff.mp hx
            rw [Pp.kids_pl, List.getElem?_map] at hpl
            obtain ⟨k, hk2, ek⟩ := Option.map_eq_some_iff.mp hpl
            subst ek
            rw [Nat.add_comm] at hk2
            have mk := kfold_kid (F := F) hk2
            have mk0 := List.mem_of_getElem? hk2
            have hkt := kid_ht mk0
            have hpn := ht_nn p
            obtain ⟨k1, kl, ⟨x0, hx0, ix0⟩, _⟩ := hbk k mk0
            obtain ⟨b, uts, rfl, hU, u5, _, huk⟩ := iu.st1
            obtain ⟨_, ul, _, hset⟩ := huk k mk
            obtain ⟨kn, ekn⟩ : ∃ kn : Nat, k.1 = (kn : Int) := ⟨k.1.toNat, by omega⟩
            have etn : k.1.toNat = kn := by omega
            rw [etn] at ul hx0 hset
            have sHE := sHD.trans sE
            refine ⟨_, rfl, _, rfl, _, rfl, _, rfl, a, _, _, _, rfl, rfl, seqT sHE hbT, by rw [ekn]; exact atI_nat hx0, _, rfl, x0, i, 1, k.2, rfl, ix0.same sHE, by omega, fun HF vF sF iF => ?_⟩
            refine ⟨b, uts, kn, vF, by rw [ekn]; rfl, seqT sF hU, by omega, ul, u5, fun HG tG sG hG => ?_⟩
            refine ⟨.ref tG, _, rfl, ?_, sE.trans (sF.trans sG)⟩
            rw [kfold_succ hk2]
            refine hset HG tG vF _ (Same.tk (sF.trans sG)) ?_ hG
            rw [eF]
            show IsPp K HG vF (if k.1 = 1 then qi else k.2.mv i 1)
            rw [if_neg (drop_kid e hk2)]
            exact iF.same sG
          · rintro σ HE ⟨u, y8', rfl, iu, sE⟩
            rw [List.length_drop, List.length_map, epl, show p.kids.length - 1 + 1 = p.kids.length by omega, eF, kfold_wch i qi e] at iu
            have sHE := sHD.trans sE
            have sAE := (sB.trans sBD).trans sE
            have hlaE := sE _ _ hlaD
            have lus := pair_len pus
            rw [List.length_take] at lus
            refine ⟨_, rfl, tyL hlaE, _, rfl, la, us, u, rfl, rfl, hlaE, small (by simp only [List.length_cons, List.length_nil] at lus; omega), ?_⟩
            have tkl : TK K HE (upd HE la (.lst (us ++ [u]))) := TK.lst hlaE
            refine ⟨_, _, _, us ++ [u], rfl, upd_same, ?_, same_put sHE nlaH, (tkA.trans (Same.tk sAE)).trans tkl⟩
            rw [List.take_succ, ewch]
            exact pair_app (pair_map (fun _ _ h => (IsPp.same sAE h).tk tkl) pus) (.cons (iu.tk tkl) .nil)
        · rintro σ HA ⟨y6, y7, y8, us, rfl, hlaA, pus, sA, tkA⟩
          match us, pus with
          | [u1, u2], .cons j1 (.cons j2 .nil) =>
            refine ⟨_, rfl, o, _, _, _, rfl, rfl, seqT sA hq, at1, _, rfl, la, _, _, _, rfl, rfl, SqL.of hlaA, at0, _, rfl, la, _, _, _, rfl, rfl, SqL.of hlaA, at1, _, rfl, _, rfl, o, _, _, _, rfl, rfl, seqT sA hq, atI_nat (j := 4) rfl, .ref a, ys, p, b0, s0, rfl, hp.same sA, is.same sA, hs0, fun HB vB sB jB => ⟨(by show 5 ≤ sizeLine; decide), fun t9 nt9 => ?_⟩⟩
            have s10 := same_new (o := .tup [.str "case", y0, u1, u2, vB]) nt9
            have sB9 := sB.trans s10
            have sH9 := sA.trans sB9
            refine q _ (.ref t9) sH9 (.inr ⟨.case c0 (p.wch i c1) (p.wch i c2) s0, ?_, .case (.inl (.inl upd_same)) (i0.same sH9) (j1.same sB9) (j2.same sB9) (jB.same s10)⟩)
            rw [liftC_lifted (c := s0) (.inr ⟨c0, c1, c2, b0, e, hs0⟩)]
            unfold liftC
            rw [e]
    · refine ⟨_, rfl, o, _, _, _, rfl, rfl, seqT s07 ho, at0, rfl, _, rfl, iteT' (by have z := (PW.s_eq c.wd .case).trans (decide_eq_false w2); show (!decide (V.str c.wd.s = V.str PW.case.s)) = true; rw [z]; rfl) (q H7 .non s07 (.inl ⟨?_, rfl⟩))⟩
      unfold Pp.lifted
      rw [e]
      cases c <;> first | rfl | exact absurd rfl w1 | exact absurd rfl w2
/-! ### _law_step -/
theorem find_fm : ∀ l : List SI, (l.flatMap SI.pre).findSome? stepAt = l.findSome? fun z => (SI.pre z).findSome? stepAt
  | [] => rfl
  | x :: l => by
    rw [List.flatMap_cons, find_app, find_fm l, List.findSome?_cons]
    cases (SI.pre x).findSome? stepAt <;> rfl
/-- what the parts' own steps come to, the first that has one -/
def kidStep (n : Int) (p : Pp) (ks : List (Int × Pp)) : Option Pp := ks.findSome? fun k => (k.2.step (n + ((p.inc k.1 : Nat) : Int))).map (p.set1 k.1)
theorem step_rec (n : Int) (p : Pp) : p.step n = (p.stepped n).or (kidStep n p p.kids) := by
  unfold Pp.step
  rw [pre2_kids, find_cons]
  have e : stepAt (n, p, [], []) = p.stepped n := by
    show (p.stepped n).map _ = _
    cases p.stepped n <;> rfl
  rw [e, find_fm]
  have e2 : (kidI (n, p, [], [])).findSome? (fun z => (SI.pre z).findSome? stepAt) = kidStep n p p.kids := by
    show (p.kids.map fun k => ((n + ((p.inc k.1 : Nat) : Int), k.2, [k.1], [p]) : SI)).findSome? _ = _
    rw [List.findSome?_map]
    unfold kidStep
    congr 1
    funext k
    exact pre2_one p k.2 (n + ((p.inc k.1 : Nat) : Int)) k.1
  rw [e2]
def sp_law_step (K : PySem.W.Frag) (n : Nat) : Sp := fun vs H Q _ => ∃ (i : Int) (v : V) (p : Pp), vs = [.int i, v] ∧ IsPp K H v p ∧ p.Joa ∧ p.nn < n ∧ ∀ H' v', Same H H' → OptV K H' v' (p.step i) → Q v' H'
theorem ok_law_step (T : Txt w K mg) (cr__law_here : ∀ n, ClR P w K mg base 11 n "_law_here" (sp_law_here K n)) (c__law_spots : Cl P w K mg base 1 "_law_spots" (sp_law_spots K)) (c__law_assumed : Cl P w K mg base 1 "_law_assumed" (sp_law_assumed K)) (c__law_with : Cl P w K mg base 1 "_law_with" (sp_law_with K)) : ∀ n : Nat, ClR P w K mg base 12 n "_law_step" (sp_law_step K n)
  | 0 => T.d_law_step.noneR fun vs H Q E h => by
    obtain ⟨_, _, _, _, _, _, h, _⟩ := h
    omega
  | n + 1 => by
    have c__law_step : ClR P w K mg base 12 n "_law_step" (sp_law_step K n) := ok_law_step T cr__law_here c__law_spots c__law_assumed c__law_with n
    have c__law_here := cr__law_here n
    refine T.d_law_step.okR sc_law_step (fun vs H Q E h => ?_) (fun f cdv A outer s H vs Q E hrR h => ?_)
    · obtain ⟨i, v, p, rfl, _⟩ := h
      rfl
    have hr := hrR.room
    obtain ⟨i, v, p, rfl, hp, hj, hn, q⟩ := h
    refine ⟨_, (pss_cons (ps_set (i := 2) sc_law_step.nd rfl (Or.inl rfl) (pe_kR c__law_here hrR (by omega) (by omega) rfl (pa_cons (pv 0) (pa_cons (pv 1) pa_nil))))
    (pss_cons (ps_if (pt_cmpR op_notN (pv 2) pe_non (nomark _))
      (pss_one (ps_ret (pv 2)))
      pss_nil)
    (pss_cons (ps_for PassesOwn.never rfl (pi_listK (K := K) (pe_k c__law_spots hr (by omega) rfl (pa_cons (pv 1) pa_nil))) (pg_name (i := 3) sc_law_step.nd rfl (Or.inl rfl))
      (pss_cons (ps_set (i := 4) sc_law_step.nd rfl (Or.inl rfl) (pe_kR c__law_step hrR (by omega) (by omega) rfl (pa_cons (pe_op op_add (pv 0) (pe_k c__law_assumed hr (by omega) rfl (pa_cons (pv 1) (pa_cons (pv 3) pa_nil)))) (pa_cons (pe_ix (r := rIxT K) ix_tup (pv 1) (pv 3) (fun _ _ => rfl)) pa_nil))))
        (pss_one (ps_if (pt_cmpR op_notN (pv 4) pe_non (nomark _))
          (pss_one (ps_ret (pe_k c__law_with hr (by omega) rfl (pa_cons (pv 1) (pa_cons (pv 3) (pa_cons (pv 4) pa_nil))))))
          pss_nil))))
    (pss_one (ps_ret pe_non))))), ?_⟩
    rw [step_rec] at q
    refine ⟨_, rfl, _, rfl, i, v, p, rfl, hp, hj.jo1, by omega, fun H1 v1 s1 o1 => ?_⟩
    rcases o1 with ⟨e, rfl⟩ | ⟨q1, e, i1⟩
    · rw [e] at q
      refine ⟨_, rfl, rfl, _, rfl, iteF' (by decide) ?_⟩
      refine ⟨_, rfl, v, p, rfl, hp.same s1, fun H2 l s2 nl hl => ⟨l, rfl, ⟨_, SqL.of hl⟩, ?_⟩⟩
      have s12 := s1.trans s2
      have epl : p.wd.pl.length = p.kids.length := by rw [Pp.kids_pl, List.length_map]
      obtain ⟨a, bts, rfl, hbT, b5, _, hbk⟩ := hp.st1
      refine for_list (K := K) (a := l) (xs := p.wd.pl.map V.int) (fun m σ H' => ∃ (y3 y4 : Option V), σ = [some (.int i), some (.ref a), some .non, y3, y4] ∧ kidStep i p p.kids = kidStep i p (p.kids.drop m) ∧ Same H2 H') ?_ ?_ ?_ ?_
      · exact ⟨_, _, rfl, rfl, Same.refl _⟩
      · rintro m σ H' _ ⟨_, _, _, _, s3⟩
        exact SqL.of (s3 _ _ hl)
      · rintro m x σ H3 hx ⟨y3, y4, rfl, ek, s3⟩
        rw [List.getElem?_map] at hx
        obtain ⟨pl, hpl, rfl⟩ := Option.map_eq_some_iff.mp hx
        rw [Pp.kids_pl, List.getElem?_map] at hpl
        obtain ⟨k, hk2, ekk⟩ := Option.map_eq_some_iff.mp hpl
        subst ekk
        have mk := List.mem_of_getElem? hk2
        have knn := kid_nn mk
        obtain ⟨k1, kl, ⟨x, hx, ix⟩, hset⟩ := hbk k mk
        obtain ⟨kn, ekn⟩ : ∃ kn : Nat, k.1 = (kn : Int) := ⟨k.1.toNat, by omega⟩
        have etn : k.1.toNat = kn := by omega
        rw [etn] at kl hx hset
        have s13 := s12.trans s3
        have ed : p.kids.drop m = k :: p.kids.drop (m + 1) := by
          obtain ⟨hlt, hke⟩ := List.getElem?_eq_some_iff.mp hk2
          rw [← hke]
          exact List.drop_eq_getElem_cons hlt
        have ekm : kidStep i p p.kids = ((k.2.step (i + ((p.inc k.1 : Nat) : Int))).map (p.set1 k.1)).or (kidStep i p (p.kids.drop (m + 1))) := by
          rw [ek, ed]
          unfold kidStep
          rw [List.findSome?_cons]
          cases k.2.step (i + ((p.inc k.1 : Nat) : Int)) <;> rfl
        refine ⟨_, rfl, _, rfl, _, rfl, .ref a, p, k.1, rfl, hp.same s13, ⟨k.2, mk⟩, _, _, rfl, rfl, _, rfl, _, rfl, a, _, _, _, rfl, rfl, seqT s13 hbT, by rw [ekn]; exact atI_nat hx, i + ((p.inc k.1 : Nat) : Int), x, k.2, rfl, ix.same s13, kid_joa hj mk, by omega, fun H4 v4 s4 o4 => ?_⟩
        have s14 := s13.trans s4
        rcases o4 with ⟨e4, rfl⟩ | ⟨q4, e4, i4⟩
        · rw [e4] at ekm
          exact ⟨_, rfl, rfl, _, rfl, iteF' (by decide) ⟨_, _, rfl, ekm, s3.trans s4⟩⟩
        · rw [e4] at ekm
          obtain ⟨qa, xs, rfl, _, _⟩ := i4.kid
          refine ⟨_, rfl, rfl, _, rfl, iteT' (by rw [decide_eq_false (fun z => nomatch z)]; rfl) ?_⟩
          refine ⟨_, rfl, _, rfl, _, rfl, a, bts, kn, .ref qa, by rw [ekn]; rfl, seqT s14 hbT, by omega, kl, b5, fun H5 t s5 ht => ?_⟩
          have s15 := s14.trans s5
          refine q H5 (.ref t) s15 (.inr ⟨p.set1 k.1 q4, ?_, hset H5 t (.ref qa) q4 (Same.tk s15) (i4.same s5) ht⟩)
          rw [ekm]
          rfl
      · rintro σ H3 ⟨y3, y4, rfl, ek, s3⟩
        rw [List.length_map, epl, List.drop_length] at ek
        refine q H3 .non (s12.trans s3) (.inl ⟨?_, rfl⟩)
        rw [ek]
        rfl
    · rw [e] at q
      obtain ⟨qa, xs, rfl, _, _⟩ := i1.kid
      exact ⟨_, rfl, rfl, _, rfl, iteT' (by rw [decide_eq_false (fun z => nomatch z)]; rfl) ⟨_, rfl, q H1 (.ref qa) s1 (.inr ⟨q1, rfl, i1⟩)⟩⟩
/-! ### _law_size -/
def sp_law_size (K : PySem.W.Frag) (n : Nat) : Sp := fun vs H Q _ => ∃ (v : V) (p : Pp), vs = [v] ∧ IsPp K H v p ∧ p.ht < n ∧ ∀ H', Same H H' → Q (.int (p.nn : Nat)) H'
theorem nn_kids (p : Pp) : p.nn = 1 + (p.kids.map fun k => k.2.nn).sum := by
  cases p <;> simp [Pp.nn, Pp.kids] <;> omega
theorem ok_law_size (T : Txt w K mg) (c__law_spots : Cl P w K mg base 1 "_law_spots" (sp_law_spots K)) : ∀ n : Nat, ClR P w K mg base 10 n "_law_size" (sp_law_size K n)
  | 0 => T.d_law_size.noneR fun vs H Q E h => by
    obtain ⟨_, _, _, _, h, _⟩ := h
    omega
  | n + 1 => by
    have c__law_size : ClR P w K mg base 10 n "_law_size" (sp_law_size K n) := ok_law_size T c__law_spots n
    refine T.d_law_size.okR sc_law_size (fun vs H Q E h => ?_) (fun f cdv A outer s H vs Q E hrR h => ?_)
    · obtain ⟨v, p, rfl, _⟩ := h
      rfl
    have hr := hrR.room
    obtain ⟨v, p, rfl, hp, hh, q⟩ := h
    refine ⟨_, (pss_one (ps_ret (pe_op op_add pe_int (pe_callB (r := rSum K) (cr_sum rfl) rfl T.n_sum (by decide +kernel) (pa_cons (pe_lc (own := [("_law_spot", 1)]) rfl sc_law_size.nd (pi_listK (K := K) (pe_k c__law_spots hr (by omega) rfl (pa_cons (pv 0) pa_nil))) (blkOk_by (N := sc_law_sizeN) (sc := defScope s_law_size) (by decide +kernel)) (fun _ _ _ _ _ => (pg_name (i := 1) sc_law_size.nd rfl (Or.inl rfl))) (fun _ _ _ _ _ => pts_nil) (fun _ _ _ _ _ => (pe_kR c__law_size hrR (by omega) (by omega) rfl (pa_cons (pe_ix (r := rIxT K) ix_tup (pv 0) (pv 1) (fun _ _ => rfl)) pa_nil)))) pa_nil))))), ?_⟩
    refine ⟨_, rfl, v, p, rfl, hp, fun H2 l s2 nl hl => ⟨l, rfl, ⟨_, SqL.of hl⟩, fun D nD => ?_⟩⟩
    have epl : p.wd.pl.length = p.kids.length := by rw [Pp.kids_pl, List.length_map]
    have k3 := p.kids_le
    obtain ⟨a, bts, rfl, hbT, b5, _, hbk⟩ := hp.st1
    refine lc_list (K := K) (a := l) (xs := p.wd.pl.map V.int) (fun m H' => H' D = some (.lst (((p.kids.take m).map fun k => ((k.2.nn : Nat) : Int)).map V.int)) ∧ Same H2 H') ?_ ?_ ?_ ?_
    · exact ⟨upd_same, same_new nD⟩
    · rintro m H' _ ⟨_, s3⟩
      exact SqL.of (s3 _ _ hl)
    · rintro m x H3 hx ⟨hD, s3⟩
      rw [List.getElem?_map] at hx
      obtain ⟨pl, hpl, rfl⟩ := Option.map_eq_some_iff.mp hx
      rw [Pp.kids_pl, List.getElem?_map] at hpl
      obtain ⟨k, hk2, ekk⟩ := Option.map_eq_some_iff.mp hpl
      subst ekk
      have mk := List.mem_of_getElem? hk2
      have hkt := kid_ht mk
      obtain ⟨k1, kl, ⟨x, hx, ix⟩, _⟩ := hbk k mk
      obtain ⟨kn, ekn⟩ : ∃ kn : Nat, k.1 = (kn : Int) := ⟨k.1.toNat, by omega⟩
      have etn : k.1.toNat = kn := by omega
      rw [etn] at kl hx
      have s23 := s2.trans s3
      refine ⟨rfl, _, rfl, _, rfl, a, _, _, _, rfl, rfl, seqT s23 hbT, by rw [ekn]; exact atI_nat hx, x, k.2, rfl, ix.same s23, by omega, fun H4 s4 => ?_⟩
      have hD4 := s4 _ _ hD
      refine ⟨_, hD4, small' (by rw [List.length_map, List.length_map, List.length_take]; omega), ?_, same_put (s3.trans s4) nD⟩
      rw [upd_same, List.take_succ, hk2, List.map_append, List.map_append]
      rfl
    · rintro H3 ⟨hD, s3⟩
      rw [List.length_map, epl, List.take_length] at hD
      refine ⟨D, _, rfl, SqL.of hD, _, _, rfl, rfl, ?_⟩
      have e : V.int (1 + (p.kids.map fun k => ((k.2.nn : Nat) : Int)).sum) = V.int (p.nn : Nat) := by
        rw [nn_kids p]
        congr 1
        have : ∀ l : List (Int × Pp), (l.map fun k => ((k.2.nn : Nat) : Int)).sum = (((l.map fun k => k.2.nn).sum : Nat) : Int) := fun l => by
          induction l with
          | nil => rfl
          | cons x r ih => simp only [List.map_cons, List.sum_cons, ih]; omega
        rw [this]
        omega
      show Q (V.int (1 + (p.kids.map fun k => ((k.2.nn : Nat) : Int)).sum)) H3
      rw [e]
      exact q H3 (s2.trans s3)
/-! ### _law_alike -/
/-- told alike: the same data -/
def sp_law_alike (K : PySem.W.Frag) (n : Nat) : Sp := fun vs H Q _ => ∃ (x y : V) (d : PyData), vs = [x, y] ∧ Dp K H x d ∧ Dp K H y d ∧ Pd d ∧ d.depth + 1 ≤ n ∧ ∀ H', Same H H' → Q (.bl true) H'
theorem dpAll_len {H : Hp} : ∀ {xs : List V} {ds : List PyData}, DpAll K H xs ds → xs.length = ds.length
  | _, _, .nil => rfl
  | _, _, .cons _ t => by rw [List.length_cons, List.length_cons, dpAll_len t]
theorem dpAll_at {H : Hp} : ∀ {xs : List V} {ds : List PyData} {j : Nat} {x : V}, DpAll K H xs ds → xs[j]? = some x → ∃ d, ds[j]? = some d ∧ Dp K H x d
  | y :: xs, d :: ds, 0, x, .cons h _, e => by cases e; exact ⟨_, rfl, h⟩
  | y :: xs, d :: ds, j + 1, x, .cons _ t, e => dpAll_at (xs := xs) (ds := ds) (j := j) t e
theorem dep_in {d : PyData} : ∀ {ds : List PyData}, d ∈ ds → d.depth ≤ PyData.depthAll ds
  | e :: r, h => by
    rw [PyData.depthAll]
    rcases List.mem_cons.mp h with rfl | h
    · omega
    · have := dep_in h
      omega
theorem ok_law_alike (T : Txt w K mg) : ∀ n, ClR P w K mg base 10 n "_law_alike" (sp_law_alike K n)
  | 0 => T.d_law_alike.noneR fun vs H Q E h => by
    obtain ⟨x, y, d, _, _, _, _, e, _⟩ := h
    omega
  | n + 1 => by
    have c__law_alike : ClR P w K mg base 10 n "_law_alike" (sp_law_alike K n) := ok_law_alike T n
    refine T.d_law_alike.okR sc_law_alike (fun vs H Q E h => ?_) (fun f cdv A outer s H vs Q E hrR h => ?_)
    · obtain ⟨x, y, d, rfl, _⟩ := h
      rfl
    · have hr := hrR.room
      obtain ⟨x, y, d, rfl, hx, hy, hp, hn, q⟩ := h
      refine ⟨_, (pss_cons (ps_if (pt_val (pe_callB (r := rIsi K) call_isi rfl T.n_isinstance (by decide +kernel) (pa_cons (pv 1) (pa_cons (pe_bltn (v := .ty "tuple") rfl T.n_tuple (by decide +kernel) rfl) pa_nil))))
      (pss_cons (ps_if (PW.pt (pw_or (pt_not (pt_val (pe_callB (r := rIsi K) call_isi rfl T.n_isinstance (by decide +kernel) (pa_cons (pv 0) (pa_cons (pe_bltn (v := .ty "tuple") rfl T.n_tuple (by decide +kernel) rfl) pa_nil))))) (pw_or1 (pt_cmpR op_ne (pe_callB (r := rLenK K) call_len_seq rfl T.n_len (by decide +kernel) (pa_cons (pv 0) pa_nil)) (pe_callB (r := rLenK K) call_len_seq rfl T.n_len (by decide +kernel) (pa_cons (pv 1) pa_nil)) (nomark _)))))
          (pss_one (ps_ret pe_bl))
          pss_nil)
        (pss_one (ps_ret (pe_callB (r := rAll K) (cr_all rfl) rfl T.n_all (by decide +kernel) (pa_cons (pe_lc (own := [("_law_one", 2), ("_law_two", 3)]) rfl sc_law_alike.nd (RZ.pi_zipA rfl T.n_zip (pa_cons (pv 0) (pa_cons (pv 1) pa_nil))) (blkOk_by (N := sc_law_alikeN) (sc := defScope s_law_alike) (by decide +kernel)) (fun _ _ _ _ _ => (pg_tupK (K := K) (n := 2) rfl (pgs_cons (pg_name (i := 2) sc_law_alike.nd rfl (Or.inl rfl)) (pgs_cons (pg_name (i := 3) sc_law_alike.nd rfl (Or.inl rfl)) pgs_nil)))) (fun _ _ _ _ _ => pts_nil) (fun _ _ _ _ _ => (pe_kR c__law_alike hrR (by omega) (by omega) rfl (pa_cons (pv 2) (pa_cons (pv 3) pa_nil))))) pa_nil)))))
      pss_nil)
    (pss_cons (ps_if (pt_val (pe_callB (r := rIsi K) call_isi rfl T.n_isinstance (by decide +kernel) (pa_cons (pv 1) (pa_cons (pe_bltn (v := .ty "str") rfl T.n_str (by decide +kernel) rfl) pa_nil))))
      (pss_one (ps_ret (pe_and (pe_callB (r := rIsi K) call_isi rfl T.n_isinstance (by decide +kernel) (pa_cons (pv 0) (pa_cons (pe_bltn (v := .ty "str") rfl T.n_str (by decide +kernel) rfl) pa_nil))) (pe_one (pe_cmpR op_eq (pv 0) (pv 1) (nomark _))))))
      pss_nil)
    (pss_one (ps_ret (pe_and (pe_callB (r := rIsi K) call_isi rfl T.n_isinstance (by decide +kernel) (pa_cons (pv 0) (pa_cons (pe_bltn (v := .ty "int") rfl T.n_int (by decide +kernel) rfl) pa_nil))) (pe_and (pe_not (pe_callB (r := rIsi K) call_isi rfl T.n_isinstance (by decide +kernel) (pa_cons (pv 0) (pa_cons (pe_bltn (v := .ty "bool") rfl T.n_bool (by decide +kernel) rfl) pa_nil)))) (pe_one (pe_cmpR op_eq (pv 0) (pv 1) (nomark _))))))))), ?_⟩
      cases hp with
      | int i =>
        cases hx
        cases hy
        refine ⟨_, rfl, _, _, _, _, false, rfl, .ty _, .base (.int _), kit_ty (by decide +kernel), _, rfl, iteF ?_⟩
        refine ⟨_, rfl, _, _, _, _, false, rfl, .ty _, .base (.int _), kit_ty (by decide +kernel), _, rfl, iteF ?_⟩
        refine ⟨_, rfl, _, _, _, _, true, rfl, .ty _, .base (.int _), kit_ty (by decide +kernel), _, rfl, iteT ?_⟩
        refine ⟨_, rfl, _, _, _, _, false, rfl, .ty _, .base (.int _), kit_ty (by decide +kernel), _, rfl, _, rfl, iteT ⟨_, rfl, _, rfl, rfl, ?_⟩⟩
        show Q (.bl (decide (V.int i = V.int i))) H
        rw [decide_eq_true rfl]
        exact q _ (Same.refl _)
      | str t =>
        cases hx
        cases hy
        refine ⟨_, rfl, _, _, _, _, false, rfl, .ty _, .base (.str _), kit_ty (by decide +kernel), _, rfl, iteF ?_⟩
        refine ⟨_, rfl, _, _, _, _, true, rfl, .ty _, .base (.str _), kit_ty (by decide +kernel), _, rfl, iteT ?_⟩
        refine ⟨_, rfl, _, _, _, _, true, rfl, .ty _, .base (.str _), kit_ty (by decide +kernel), _, rfl, iteT ?_⟩
        refine ⟨_, rfl, _, rfl, rfl, ?_⟩
        show Q (.bl (decide (V.str t = V.str t))) H
        rw [decide_eq_true rfl]
        exact q _ (Same.refl _)
      | @tup ds hds hl5 =>
        cases hx with
        | @tup a xs _ t1 d1 =>
          cases hy with
          | @tup b ys _ t2 d2 =>
            have lx := dpAll_len d1
            have ly := dpAll_len d2
            have el : xs.length = ys.length := by omega
            refine ⟨_, rfl, _, _, _, _, true, rfl, .ty _, tyx_tup t2, kit_ty (by decide +kernel), _, rfl, iteT ?_⟩
            refine ⟨_, rfl, _, _, _, _, true, rfl, .ty _, tyx_tup t1, kit_ty (by decide +kernel), _, rfl, iteF ?_⟩
            refine ⟨_, rfl, a, xs, rfl, .inr t1, _, rfl, b, ys, rfl, .inr t2, rfl, _, rfl, iteF' (by rw [el]; simp) ?_⟩
            refine ⟨_, rfl, _, rfl, a, b, xs, ys, rfl, .inr ⟨t1, t2, fun D nD => ?_⟩⟩
            refine lc_it (walk_zipTT (K := K) (a := a) (b := b) el) (fun j H6 => H6 D = some (.lst ((List.replicate j true).map V.bl)) ∧ Same H H6) ?_ ?_ ?_ ?_
            · exact ⟨upd_same, same_new nD⟩
            · rintro j H6 _ ⟨_, s6⟩
              exact ⟨seqT s6 t1, seqT s6 t2⟩
            · rintro j z H6 H7 hj ⟨hD, s6⟩ ⟨t, u, v, rfl, nt, rfl, hu, hv⟩
              have st := same_new (o := .tup [u, v]) nt
              have ht : (upd H6 t (.tup [u, v])) t = some (.tup [u, v]) := upd_same
              have hD7 := st _ _ hD
              generalize upd H6 t (.tup [u, v]) = H7 at st ht hD7 ⊢
              have s7 := s6.trans st
              obtain ⟨d, hd, dx⟩ := dpAll_at d1 hu
              obtain ⟨d', hd', dy⟩ := dpAll_at d2 hv
              rw [hd] at hd'
              cases hd'
              have md := List.mem_of_getElem? hd
              have dd := dep_in md
              rw [PyData.depth] at hn
              refine ⟨t, _, rfl, .inl (.inl ht), rfl, _, _, rfl, _, _, rfl, rfl, rfl, _, rfl, _, rfl, u, v, d, rfl, Dp.sm s7 dx, Dp.sm s7 dy, hds d md, by omega, fun H8 s8 => ⟨_, s8 _ _ hD7, small (by rw [List.length_map, List.length_replicate]; omega), ?_, same_put (s7.trans s8) nD⟩⟩
              rw [upd_same, List.replicate_succ', List.map_append]
              rfl
            · rintro H6 ⟨hD, s6⟩
              refine ⟨D, _, rfl, SqL.of hD, ?_⟩
              rw [show (List.replicate xs.length true).all id = true by simp]
              exact q _ s6
/-! ### _law_wrapped -/
def sp_law_wrapped (K : PySem.W.Frag) : Sp := fun vs H Q _ => ∃ (st : Addr) (vp va : V) (p : Pp) (a : Sm) (g : List Sm), vs = [.ref st, .int 1, vp, va] ∧ StW H st ∧ IsPp K H vp p ∧ IsSm K H va a ∧ g[0]? = some (.lt [101]) ∧ Ty BK g p a ∧ a.joints ≤ 24 ∧ p.Bd 30 ∧ p.nn ≤ 260 ∧ p.ht ≤ 12 ∧
  ∀ H' v' p' a', Wd st H H' → IsPp K H' v' p' → Ty BK g p' a' → p'.Bd 30 → p'.nn ≤ 400 → p'.ht ≤ 60 → Q v' H'
theorem and_jt {σ : L2.St} {H : Hp} {Q : Bool → Hp → Prop} {w : Int} {a : Sm} {va : V} {K : PySem.W.Frag} (x : Int) (h5 : σ[5]? = some (some (.int w))) (h3 : σ[3]? = some (some va)) (ia : IsSm K H va a) (hd : a.dp < 32) (ht : a.joints < 30 → Q true H) (hf : Q false H) :
    tAnd (tTest (tOp rEq (tVar 5) (tC (.int x)))) (tTest (tOp (rI0 fun i j => V.bl (decide (i < j))) (tCall (sp_law_joints K 32) [] E0 (tCons (tVar 3) tNil)) (tC (.int 30)))) σ H Q := by
  by_cases h : w = x
  · subst h
    refine ⟨_, h5, rfl, _, rfl, iteT' (decide_eq_true rfl) ?_⟩
    refine ⟨_, h3, va, a, rfl, ia, hd, _, _, rfl, rfl, _, rfl, ?_⟩
    by_cases hj : a.joints < 30
    · rw [show decide (((a.joints : Nat) : Int) < 30) = true from decide_eq_true (by omega)]
      exact ht hj
    · rw [show decide (((a.joints : Nat) : Int) < 30) = false from decide_eq_false (by omega)]
      exact hf
  · exact ⟨_, h5, rfl, _, rfl, iteF' (decide_eq_false fun e => h (by injection e)) hf⟩
theorem ok_law_wrapped (T : Txt w K mg) (c__law_draw : Cl P w K mg base 1 "_law_draw" (sp_draw K)) (c__law_joints : Cl P w K mg base 32 "_law_joints" (sp_law_joints K 32)) : Cl P w K mg base 33 "_law_wrapped" (sp_law_wrapped K) := by
  refine T.d_law_wrapped.ok sc_law_wrapped (fun vs H Q E h => ?_) (fun f cdv A outer s H vs Q E hr h => ?_)
  · obtain ⟨st, vp, va, p, a, g, rfl, _⟩ := h
    rfl
  · obtain ⟨st, vp, va, p, a, g, rfl, hw, hp, ha, hg, ty, ja, bd, nn, ht, q⟩ := h
    refine ⟨_, (pss_cons (ps_for PassesOwn.never rfl (pi_range1 rfl T.n_range (pa_cons (pe_k c__law_draw hr (by omega) rfl (pa_cons (pv 0) (pa_cons pe_int pa_nil))) pa_nil)) (pg_name (i := 4) sc_law_wrapped.nd rfl (Or.inl rfl))
      (pss_cons (ps_set (i := 5) sc_law_wrapped.nd rfl (Or.inl rfl) (pe_k c__law_draw hr (by omega) rfl (pa_cons (pv 0) (pa_cons pe_int pa_nil))))
        (pss_cons (ps_set (i := 6) sc_law_wrapped.nd rfl (Or.inl rfl) (pe_tup (pa_cons pe_str (pa_cons pe_str pa_nil))))
        (pss_one (ps_if (PW.pt (pw_and (pt_cmpR op_eq (pv 5) pe_int (nomark _)) (pw_and1 (pt_cmpR op_lt (pe_k c__law_joints hr (by omega) rfl (pa_cons (pv 3) pa_nil)) pe_int (nomark _)))))
          (pss_one (ps_par (i := 2) (j := 3) rfl sc_law_wrapped.nd rfl rfl (by decide) rfl rfl (pa_cons (pe_tup (pa_cons pe_str (pa_cons (pv 2) (pa_cons (pv 6) pa_nil)))) (pa_cons (pe_tup (pa_cons pe_str (pa_cons (pv 3) (pa_cons (pv 6) pa_nil)))) pa_nil)) rfl))
          (pss_one (ps_if (PW.pt (pw_and (pt_cmpR op_eq (pv 5) pe_int (nomark _)) (pw_and1 (pt_cmpR op_lt (pe_k c__law_joints hr (by omega) rfl (pa_cons (pv 3) pa_nil)) pe_int (nomark _)))))
              (pss_one (ps_par (i := 2) (j := 3) rfl sc_law_wrapped.nd rfl rfl (by decide) rfl rfl (pa_cons (pe_tup (pa_cons pe_str (pa_cons (pv 6) (pa_cons (pv 2) pa_nil)))) (pa_cons (pe_tup (pa_cons pe_str (pa_cons (pv 6) (pa_cons (pv 3) pa_nil)))) pa_nil)) rfl))
              (pss_one (ps_if (PW.pt (pw_and (pt_cmpR op_eq (pv 5) pe_int (nomark _)) (pw_and1 (pt_cmpR op_lt (pe_k c__law_joints hr (by omega) rfl (pa_cons (pv 3) pa_nil)) pe_int (nomark _)))))
                  (pss_one (ps_par (i := 2) (j := 3) rfl sc_law_wrapped.nd rfl rfl (by decide) rfl rfl (pa_cons (pe_tup (pa_cons pe_str (pa_cons (pe_tup (pa_cons pe_str (pa_cons (pe_k c__law_draw hr (by omega) rfl (pa_cons (pv 0) (pa_cons (pv 1) pa_nil))) pa_nil))) (pa_cons (pv 2) pa_nil)))) (pa_cons (pe_tup (pa_cons pe_str (pa_cons (pv 6) (pa_cons (pv 3) pa_nil)))) pa_nil)) rfl))
                  pss_nil)))))))))
    (pss_one (ps_ret (pv 2)))), ?_⟩
    refine ⟨_, rfl, st, 41, rfl, hw, by decide, by decide, fun H1 z w1 z0 z1 => ?_⟩
    obtain ⟨k, rfl, hk⟩ := nat_lt (n := 41) z0 z1
    refine ⟨(k : Int), rfl, by omega, by omega, for_range (lo := 0) (n := k) (fun i σ H' => ∃ (u ua : V) (y4 y5 y6 : Option V) (p' : Pp) (a' : Sm), σ = [some (.ref st), some (.int 1), some u, some ua, y4, y5, y6] ∧ Wd st H1 H' ∧ IsPp K H' u p' ∧ IsSm K H' ua a' ∧ Ty BK g p' a' ∧ a'.joints ≤ 30 ∧ a'.dp ≤ 30 ∧ p'.Bd 30 ∧ p'.nn ≤ 260 + 2 * i ∧ p'.ht ≤ 12 + i) ?_ ?_ ?_⟩
    · exact ⟨vp, va, _, _, _, p, a, rfl, Wd.refl w1.w1, hp.tk w1.tk, ha.tk w1.tk, ty, by omega, by have := Sm.dp_joints a; omega, bd, by omega, by omega⟩
    · rintro i σ H2 hi ⟨u, ua, y4, y5, y6, p', a', rfl, w2, ip, ia, ty2, j2, d2, bd2, nn2, ht2⟩
      refine ⟨_, rfl, st, 4, rfl, w2.w1, by decide, by decide, fun H3 r w3 r0 r1 => ⟨sz2, fun te nte => ?_⟩⟩
      have s4 : Same H3 (upd H3 te (.tup [.str "letter", .str "e"])) := same_new nte
      have ie : IsSm K (upd H3 te (.tup [.str "letter", .str "e"])) (.ref te) (.lt [101]) := .lt (.inl (.inl upd_same))
      have w24 := (w2.trans w3).then s4
      have ip4 := (ip.tk w3.tk).same s4
      have ia4 := (ia.tk w3.tk).same s4
      generalize upd H3 te (.tup [V.str "letter", .str "e"]) = H4 at s4 ie w24 ip4 ia4 ⊢
      have be : (Sm.lt [101]).Bd 30 := ⟨Nat.zero_le _, fun c hc => by rw [List.mem_singleton.mp hc]; decide⟩
      have dpj : ∀ x : Sm, x.joints ≤ 30 → x.dp ≤ 30 := fun x h => Nat.le_trans (Sm.dp_joints x) h
      refine and_jt (w := r) 0 rfl rfl ia4 (by omega) (fun hj => iteT ?_) (iteF ?_)
      · refine ⟨_, rfl, _, rfl, sz3, fun t1 n1 => ⟨_, rfl, _, rfl, sz3, fun t2 n2 => ?_⟩⟩
        have k1 := same_new (o := .tup [.str "left", u, .ref te]) n1
        have k2 := same_new (o := .tup [.str "or", ua, .ref te]) n2
        have k12 := k1.trans k2
        have hj1 : (Sm.bin .or a' (.lt [101])).joints ≤ 30 := by show a'.joints + 0 + 1 ≤ 30; omega
        exact ⟨_, _, rfl, .ref t1, .ref t2, _, _, _, .left p' (.lt [101]), .bin .or a' (.lt [101]), rfl, w24.then k12, .left (.inl (.inl (k2 _ _ upd_same))) (ip4.same k12) (ie.same k12), .bin (.inl (.inl upd_same)) (ia4.same k12) (ie.same k12), .left ty2, hj1, dpj _ hj1, ⟨bd2, be⟩, by show p'.nn + 1 ≤ _; omega, by show p'.ht + 1 ≤ _; omega⟩
      refine and_jt (w := r) 1 rfl rfl ia4 (by omega) (fun hj => iteT ?_) (iteF ?_)
      · refine ⟨_, rfl, _, rfl, sz3, fun t1 n1 => ⟨_, rfl, _, rfl, sz3, fun t2 n2 => ?_⟩⟩
        have k1 := same_new (o := .tup [.str "right", .ref te, u]) n1
        have k2 := same_new (o := .tup [.str "or", .ref te, ua]) n2
        have k12 := k1.trans k2
        have hj1 : (Sm.bin .or (.lt [101]) a').joints ≤ 30 := by show 0 + a'.joints + 1 ≤ 30; omega
        exact ⟨_, _, rfl, .ref t1, .ref t2, _, _, _, .right (.lt [101]) p', .bin .or (.lt [101]) a', rfl, w24.then k12, .right (.inl (.inl (k2 _ _ upd_same))) (ip4.same k12) (ie.same k12), .bin (.inl (.inl upd_same)) (ie.same k12) (ia4.same k12), .right ty2, hj1, dpj _ hj1, ⟨bd2, be⟩, by show p'.nn + 1 ≤ _; omega, by show p'.ht + 1 ≤ _; omega⟩
      refine and_jt (w := r) 2 rfl rfl ia4 (by omega) (fun hj => iteT ?_) (iteF ?_)
      · refine ⟨_, rfl, _, rfl, st, 1, rfl, w24.w1, by decide, by decide, fun H5 z w5 z0 z1 => ?_⟩
        have ez : z = 0 := by omega
        subst ez
        have w25 := w24.trans w5
        refine ⟨sz2, fun tu ntu => ⟨_, rfl, sz3, fun t1 n1 => ⟨_, rfl, _, rfl, sz3, fun t2 n2 => ?_⟩⟩⟩
        have k0 := same_new (o := .tup [.str "use", .int 0]) ntu
        have k1 := same_new (o := .tup [.str "pair", .ref tu, u]) n1
        have k2 := same_new (o := .tup [.str "and", .ref te, ua]) n2
        have k12 := k1.trans k2
        have k02 := k0.trans k12
        have hj1 : (Sm.bin .and (.lt [101]) a').joints ≤ 30 := by show 0 + a'.joints + 1 ≤ 30; omega
        exact ⟨_, _, rfl, .ref t1, .ref t2, _, _, _, .pair (.use ((0 : Nat) : Int)) p', .bin .and (.lt [101]) a', rfl, w25.then k02, .pair (.inl (.inl (k2 _ _ upd_same))) (.use (.inl (.inl (k12 _ _ upd_same)))) ((ip4.tk w5.tk).same k02), .bin (.inl (.inl upd_same)) ((ie.tk w5.tk).same k02) ((ia4.tk w5.tk).same k02), .pair (.use hg) ty2, hj1, dpj _ hj1, ⟨True.intro, bd2⟩, by show 1 + p'.nn + 1 ≤ _; omega, by show max 0 p'.ht + 1 ≤ _; omega⟩
      · exact ⟨u, ua, _, _, _, p', a', rfl, w24, ip4, ia4, ty2, j2, d2, bd2, by omega, by omega⟩
    · rintro σ H2 ⟨u, ua, y4, y5, y6, p', a', rfl, w2, ip, ia, ty2, j2, d2, bd2, nn2, ht2⟩
      exact ⟨_, rfl, q H2 u p' a' (w1.trans w2) ip ty2 bd2 (by omega) (by omega)⟩
/-! ### _law_drawn -/
def sp_law_drawn (K : PySem.W.Frag) : Sp := fun vs H Q _ => ∃ (st pg : Addr) (gs : List V) (g : List Sm), vs = [.ref st, .ref pg] ∧ StW H st ∧ Gv K H st pg gs g ∧ g.length ≤ 900 ∧
  ∀ H' v' p' a', Wd st H H' → IsPp K H' v' p' → Ty BK g p' a' → p'.Bd 30 → p'.nn ≤ 400 → p'.ht ≤ 60 → Q v' H'
theorem ok_law_drawn (T : Txt w K mg) (c__law_draw : Cl P w K mg base 1 "_law_draw" (sp_draw K)) (c__law_grown : Cl P w K mg base 55 "_law_grown" (sp_law_grown K BK 4)) (c__law_wrapped : Cl P w K mg base 33 "_law_wrapped" (sp_law_wrapped K)) : Cl P w K mg base 56 "_law_drawn" (sp_law_drawn K) := by
  refine T.d_law_drawn.ok sc_law_drawn (fun vs H Q E h => ?_) (fun f cdv A outer s H vs Q E hr h => ?_)
  · obtain ⟨st, pg, gs, g, rfl, _⟩ := h
    rfl
  · obtain ⟨st, pg, gs, g, rfl, hw, hg, hl, q⟩ := h
    refine ⟨_, (pss_cons (ps_set (i := 2) sc_law_drawn.nd rfl (Or.inl rfl) (pe_callB (r := rLenK K) call_len_seq rfl T.n_len (by decide +kernel) (pa_cons (pv 1) pa_nil)))
    (pss_cutO (ps_if (PW.pt (pw_and (pt_cmpR op_gt (pv 2) pe_int (nomark _)) (pw_and (pt_cmpR (r := rEqE K) (op_eqE hr.units) (pe_ix (r := rIxL K) ix_list (pv 1) pe_int (fun _ _ => rfl)) (pe_tup (pa_cons pe_str (pa_cons pe_str pa_nil))) (nomark _)) (pw_and1 (pt_cmpR op_gt (pe_k c__law_draw hr (by omega) rfl (pa_cons (pv 0) (pa_cons pe_int pa_nil))) pe_int (nomark _))))))
      (pss_cons (ps_asg (pe_k c__law_grown hr (by omega) rfl (pa_cons (pv 0) (pa_cons (pv 1) (pa_cons pe_int pa_nil)))) (pg_tup rfl (pgs_cons (pg_name (i := 3) sc_law_drawn.nd rfl (Or.inl rfl)) (pgs_cons (pg_name (i := 4) sc_law_drawn.nd rfl (Or.inl rfl)) pgs_nil))))
        (pss_one (ps_ret (pe_k c__law_wrapped hr (by omega) rfl (pa_cons (pv 0) (pa_cons pe_int (pa_cons (pv 3) (pa_cons (pv 4) pa_nil))))))))
      pss_nil)
    (pss_one (ps_ret (pe_ix (r := rIxT K) ix_tup (pe_k c__law_grown hr (by omega) rfl (pa_cons (pv 0) (pa_cons (pv 1) (pa_cons (pe_op op_add pe_int (pe_k c__law_draw hr (by omega) rfl (pa_cons (pv 0) (pa_cons pe_int pa_nil)))) pa_nil)))) pe_int (fun _ _ => rfl)))))), ?_⟩
    have hln := hg.ln
    have w3 : nB 3 = 252 := rfl
    have h3 : hB 3 = 11 := rfl
    refine ⟨_, rfl, pg, gs, rfl, .inl (SqL.of hg.at_), ?_⟩
    refine ⟨fun σ' H' => σ' = [some (.ref st), some (.ref pg), some (.int (gs.length : Int)), none, none] ∧ Wd st H H', ?_, fun σ' H1 hm => ?_⟩
    · cases gs with
      | nil => exact ⟨_, rfl, _, _, rfl, rfl, _, rfl, iteF' (by decide) (iteF ⟨rfl, Wd.refl hw⟩)⟩
      | cons x r =>
        obtain ⟨at_, ne, ps, ok⟩ := hg
        cases ps with
        | @cons _ s0 _ g' ix pr =>
          have hg : Gv K H st pg (x :: r) (s0 :: g') := ⟨at_, ne, .cons ix pr, ok⟩
          refine ⟨_, rfl, _, _, rfl, rfl, _, rfl, iteT' (decide_eq_true (by rw [List.length_cons]; omega)) ?_⟩
          refine ⟨_, rfl, pg, _, _, _, rfl, rfl, SqL.of hg.at_, at0, sz2, fun u nu => ?_⟩
          have s1 : Same H (upd H u (.tup [.str "letter", .str "e"])) := same_new nu
          have iu : IsSm K (upd H u (.tup [.str "letter", .str "e"])) (.ref u) (.lt [101]) := .lt (.inl (.inl upd_same))
          have ix1 := ix.same s1
          generalize upd H u (.tup [V.str "letter", .str "e"]) = H1 at s1 iu ix1 ⊢
          have w1 := Wd.of hw s1
          have ce : (Sm.lt [101]).In Ch := fun c hc => by rw [List.mem_singleton.mp hc]; decide
          have ok0 := ok s0 List.mem_cons_self
          refine ⟨_, _, ix1.dp, iu.dp, Sm.lay ok0.2, Sm.lay ce, ?_, ?_⟩
          · have h1 := (Sm.lt [101]).depth_dp
            exact Nat.le_trans (Nat.min_le_right _ _) (Nat.le_trans h1 (by decide))
          rw [Sm.eqv]
          refine ⟨_, rfl, ?_⟩
          by_cases e : s0 = .lt [101]
          · subst e
            refine iteT' (decide_eq_true rfl) ?_
            refine ⟨_, rfl, st, 3, rfl, w1.w1, by decide, by decide, fun H2 z w2 z0 z1 => ⟨_, _, rfl, rfl, _, rfl, ite2 (fun _ => ?_) (fun _ => ?_)⟩⟩
            · have w02 := w1.trans w2
              refine ⟨_, rfl, _, rfl, st, pg, _, _, 3, rfl, w02.w1, hg.wd w02, by omega, by omega, fun H3 t w3' d => ?_⟩
              obtain ⟨vp, va, p, a, hT, ip, ia, ty, hW, hh, hb, ca, ja⟩ := d
              refine ⟨t, _, rfl, hT, rfl, _, _, rfl, _, _, rfl, rfl, ?_⟩
              have w03 := w02.trans w3'
              exact ⟨_, rfl, _, rfl, _, rfl, st, vp, va, p, a, .lt [101] :: g', rfl, w3'.w1, ip, ia, rfl, ty, ja, hb, by omega, by omega, fun H4 v' p' a' w4 i4 t4 b4 n4 h4 => q H4 v' p' a' (w03.trans w4) i4 t4 b4 n4 h4⟩
            · exact ⟨rfl, w1.trans w2⟩
          · exact iteF' (decide_eq_false e) (iteF ⟨rfl, w1⟩)
    obtain ⟨rfl, w1⟩ := hm
    refine ⟨_, rfl, _, rfl, _, rfl, st, 3, rfl, w1.w1, by decide, by decide, fun H2 z w2 z0 z1 => ?_⟩
    obtain ⟨k, rfl, hk⟩ := nat_lt (n := 3) z0 z1
    have w02 := w1.trans w2
    have wm := nB_mono (f := 1 + k) (m := 3) (by omega)
    have hm3 : hB (1 + k) ≤ 11 := by unfold hB; omega
    refine ⟨_, _, rfl, rfl, st, pg, gs, g, 1 + k, ?_, w02.w1, hg.wd w02, by omega, by omega, fun H3 t w3' d => ?_⟩
    · show [V.ref st, V.ref pg, V.int (1 + (k : Int))] = [V.ref st, V.ref pg, V.int ((1 + k : Nat) : Int)]
      rw [show ((1 + k : Nat) : Int) = 1 + (k : Int) by omega]
    obtain ⟨vp, va, p, a, hT, ip, ia, ty, hW, hh, hb, ca, ja⟩ := d
    exact ⟨t, _, _, _, rfl, rfl, hT, at0, q H3 vp p a (w02.trans w3') ip ty hb (by omega) (by omega)⟩
/-! ### law -/
def sp_law (K : PySem.W.Frag) : Sp := fun vs H Q _ => ∃ (a : Addr) (ns : List Int), vs = [.ref a] ∧ SqL K H a (ns.map V.int) ∧ ns.length ≤ 63 ∧ (∃ c PT, PySem.W.tabIn K "moved" = some (c, PT) ∧ LamX.TabS H PT mvQ) ∧ (∃ c PT, PySem.W.tabIn K "put_in" = some (c, PT) ∧ LamX.TabS H PT piQ) ∧ ∀ H', Q (.bl true) H'
theorem ne_opt {K : PySem.W.Frag} {H : Hp} {x y : V} {o : Option Pp} {M n : Nat} {Q : VK} (hx : OptV K H x o) (hy : OptV K H y o) (hb : ∀ p, o = some p → p.Bd M ∧ p.ht + M + 2 ≤ n) (q : Q (.bl false) H) : rNeN K n x y H Q := by
  rcases hx with ⟨rfl, rfl⟩ | ⟨p, rfl, ip⟩
  · rcases hy with ⟨_, rfl⟩ | ⟨p, e, _⟩
    · exact ⟨.none, .none, .non, .non, rfl, rfl, Nat.le_trans (Nat.min_le_left _ _) (Nat.zero_le _), q⟩
    · cases e
  · rcases hy with ⟨e, _⟩ | ⟨p2, e, ip2⟩
    · cases e
    · cases e
      obtain ⟨b, h⟩ := hb p rfl
      have l := Pp.Bd.lay b
      refine ⟨p.data, p.data, ip.dp, ip2.dp, l, l, ?_, ?_⟩
      · have := Pp.Bd.dep b
        exact Nat.le_trans (Nat.min_le_left _ _) (by omega)
      · rw [eqv_self _ l]
        exact q
set_option maxHeartbeats 4000000 in
theorem ok_law (T : Txt w K mg) (c__law_cell_at : Cl P w K mg base 1 "_law_cell_at" (sp_law_cell_at K)) (c__law_well : Cl P w K mg base 1 "_law_well" (sp_law_well K)) (c__law_draw : Cl P w K mg base 1 "_law_draw" (sp_draw K)) (c__law_givens : Cl P w K mg base 4 "_law_givens" (sp_law_givens K)) (c__law_drawn : Cl P w K mg base 56 "_law_drawn" (sp_law_drawn K)) (cr__law_size : ∀ n, ClR P w K mg base 10 n "_law_size" (sp_law_size K n)) (cr__law_step : ∀ n, ClR P w K mg base 12 n "_law_step" (sp_law_step K n)) (c_step : Cl P w K mg base 7 "step" (sp_step K)) (ck_step : ClK P w K mg base 7 "step" (sp_step K) ["many", "paper"] kwId) (cr__law_alike : ∀ n, ClR P w K mg base 10 n "_law_alike" (sp_law_alike K n))
    {f : Addr} {fd : FuncData} (F : Fun K "law" "law" s_law f fd) : FnOk P w K mg base CX0 215 f fd ["_law_script"] (sp_law K) := by
  have c__law_size := (cr__law_size 401).cl (m := 214) (by omega)
  have c__law_step := (cr__law_step 300).cl (m := 214) (by omega)
  have c__law_alike := (cr__law_alike 400).cl (m := 214) (by omega)
  refine F.ok sc_law (fun vs H Q E h => ?_) (fun cdv A outer s H vs Q E hr h => ?_)
  · obtain ⟨a, ns, rfl, _⟩ := h
    rfl
  · obtain ⟨a, ns, rfl, hS, hlen, ⟨c2, PM, eM, tbM⟩, ⟨c, PT, eT, tbP⟩, q⟩ := h
    refine ⟨_, (pss_cons (ps_for PassesOwn.never rfl (pi_listK (K := K) (pe_op op_cat (pe_lst (pa_cons (pe_k c__law_cell_at hr (by omega) rfl (pa_cons (pv 0) (pa_cons pe_int pa_nil))) pa_nil)) (pe_slice (r := rSlL K) sl_list (pv 0) (po_some pe_int) (po_some pe_int)))) (pg_name (i := 1) sc_law.nd rfl (Or.inl rfl))
      (pss_cons (ps_set (i := 2) sc_law.nd rfl (Or.inl rfl) (pe_k c__law_well hr (by omega) rfl (pa_cons (pv 1) pa_nil)))
        (pss_cons (ps_set (i := 3) sc_law.nd rfl (Or.inl rfl) (pe_k c__law_givens hr (by omega) rfl (pa_cons (pv 2) pa_nil)))
        (pss_cutO (ps_if (pt_cmpR op_eq (pe_k c__law_draw hr (by omega) rfl (pa_cons (pv 2) (pa_cons pe_int pa_nil))) pe_int (nomark _))
          (pss_one (ps_set (i := 3) sc_law.nd rfl (Or.inl rfl) (pe_op op_cat (pe_lst (pa_cons (pe_tup (pa_cons pe_str (pa_cons pe_str pa_nil))) pa_nil)) (pv 3))))
          pss_nil)
        (pss_cons (ps_set (i := 4) sc_law.nd rfl (Or.inl rfl) (pe_k c__law_drawn hr (by omega) rfl (pa_cons (pv 2) (pa_cons (pv 3) pa_nil))))
        (pss_one (ps_for PassesOwn.never rfl (pi_range1 rfl T.n_range (pa_cons pe_int pa_nil)) (pg_name (i := 5) sc_law.nd rfl (Or.inl rfl))
          (pss_one (ps_if (PW.pt (pw_and (pt_cmpR op_notN (pv 4) pe_non (nomark _)) (pw_and1 (pt_cmpR op_lt (pe_k c__law_size hr (by omega) rfl (pa_cons (pv 4) pa_nil)) pe_int (nomark _)))))
              (pss_cons (ps_set (i := 6) sc_law.nd rfl (Or.inl rfl) (pe_k c__law_step hr (by omega) rfl (pa_cons (pe_callB (r := rLenK K) call_len_seq rfl T.n_len (by decide +kernel) (pa_cons (pv 3) pa_nil)) (pa_cons (pv 4) pa_nil))))
                (pss_cons (ps_set (i := 7) sc_law.nd rfl (Or.inl rfl) (pe_k c_step hr (by omega) rfl (pa_cons (pe_callB (r := rLenK K) call_len_seq rfl T.n_len (by decide +kernel) (pa_cons (pv 3) pa_nil)) (pa_cons (pv 4) pa_nil))))
                (pss_cons (ps_if (PW.pt (pw_or (pt_cmpR op_isN (pv 7) pe_non (nomark _)) (pw_or1 (pt_cmpR op_isN (pv 6) pe_non (nomark _)))))
                  (pss_one (ps_if (PW.pt (pw_or (pt_cmpR op_notN (pv 7) pe_non (nomark _)) (pw_or1 (pt_cmpR op_notN (pv 6) pe_non (nomark _)))))
                      (pss_one (ps_ret pe_bl))
                      pss_nil))
                  (pss_one (ps_if (pt_not (pt_val (pe_k c__law_alike hr (by omega) rfl (pa_cons (pv 7) (pa_cons (pv 6) pa_nil)))))
                      (pss_one (ps_ret pe_bl))
                      pss_nil)))
                (pss_cons (ps_if (pt_cmpR (r := rNeN K 1000) (op_neN (roomN hr (by omega))) (pe_kK0 ck_step hr (by omega) rfl (pk_cons (pe_callB (r := rLenK K) call_len_seq rfl T.n_len (by decide +kernel) (pa_cons (pv 3) pa_nil)) (pk_cons (pv 4) pk_nil))) (pv 6) (nomark _))
                  (pss_one (ps_ret pe_bl))
                  pss_nil)
                (pss_one (ps_set (i := 4) sc_law.nd rfl (Or.inl rfl) (pv 6)))))))
              pss_nil)))))))))
    (pss_one (ps_ret pe_bl))), ?_⟩
    have ap : PM ≠ PT := T.t_moved_put_in _ _ _ _ eM eT
    obtain ⟨TT, eTT⟩ : ∃ TT : List (Addr × Str), [(PT, piQ), (PM, mvQ)] = TT := ⟨_, rfl⟩
    have tbb : Tb K TT := by
      refine ⟨⟨c, PT, eT, by rw [← eTT]; exact List.mem_cons_self .., fun z hz e => ?_⟩, c2, PM, eM, by rw [← eTT]; exact List.mem_cons_of_mem _ (List.mem_singleton.mpr rfl), fun z hz e => ?_⟩
      · rw [← eTT] at hz
        rcases List.mem_cons.mp hz with rfl | hz
        · rfl
        · rw [List.mem_singleton.mp hz] at e
          exact absurd e ap
      · rw [← eTT] at hz
        rcases List.mem_cons.mp hz with rfl | hz
        · exact absurd e.symm ap
        · rw [List.mem_singleton.mp hz]
    have tb : LamX.Tabs TT H := fun z hz => by
      rw [← eTT] at hz
      rcases List.mem_cons.mp hz with rfl | hz
      · exact tbP
      · rw [List.mem_singleton.mp hz]; exact tbM
    clear eTT
    obtain ⟨_, cM, PM', eM', mM, uM⟩ := id tbb
    refine ⟨_, rfl, a, ns, 0, rfl, hS, fun c8 => ⟨sz1, fun p1 n1 => ⟨_, rfl, 1, rfl, 5, rfl, a, _, rfl, (same_new n1).seq hS, fun p2 n2 => ?_⟩⟩⟩
    have ec : cutV (ns.map V.int) (some 1) (some 5) = ((ns.drop 1).take 4).map V.int := by
      rw [show cutV (ns.map V.int) (some 1) (some 5) = ((ns.map V.int).drop 1).take (5 - 1) from cut_nat _ 1 5, List.map_take, List.map_drop]
    rw [ec] at *
    have r1 : Same H (upd H p1 (.lst [.int c8])) := same_new n1
    have h1 : (upd H p1 (.lst [V.int c8])) p1 = some (.lst [.int c8]) := upd_same
    have r2 : Same (upd H p1 (.lst [.int c8])) (upd (upd H p1 (.lst [.int c8])) p2 (.lst (((ns.drop 1).take 4).map V.int))) := same_new n2
    have h2 : (upd (upd H p1 (.lst [V.int c8])) p2 (.lst (((ns.drop 1).take 4).map V.int))) p2 = some (.lst (((ns.drop 1).take 4).map V.int)) := upd_same
    have h1' := r2 _ _ h1
    have r12 := r1.trans r2
    generalize upd (upd H p1 (.lst [.int c8])) p2 (.lst (((ns.drop 1).take 4).map V.int)) = H5 at r12 h1' h2 ⊢
    refine ⟨p1, p2, _, _, rfl, rfl, h1', h2, small' (by simp only [List.length_map, List.length_take, List.length_cons, List.length_nil]; omega), fun pc npc => ?_⟩
    obtain ⟨cs, ecs⟩ : ∃ cs : List Int, [V.int c8] ++ ((ns.drop 1).take 4).map V.int = cs.map V.int := ⟨c8 :: (ns.drop 1).take 4, rfl⟩
    rw [ecs]
    have s6 : Same H5 (upd H5 pc (.lst (cs.map V.int))) := same_new npc
    have hpc : (upd H5 pc (.lst (cs.map V.int))) pc = some (.lst (cs.map V.int)) := upd_same
    have tb6 := Tabs.same tb (r12.trans s6)
    generalize upd H5 pc (.lst (cs.map V.int)) = H6 at hpc tb6 s6 ⊢
    refine ⟨pc, rfl, ⟨_, SqL.of hpc⟩, for_list (K := K) (a := pc) (xs := cs.map V.int) (fun i σ H7 => ∃ y1 y2 y3 y4 y5 y6 y7 : Option V, σ = [some (.ref a), y1, y2, y3, y4, y5, y6, y7] ∧ LamX.ExtN H6 H7 ∧ LamX.Tabs TT H7) ?_ ?_ ?_ ?_⟩
    · exact ⟨_, _, _, _, _, _, _, rfl, LamX.ExtN.refl _, tb6⟩
    · rintro i σ H7 _ ⟨_, _, _, _, _, _, _, _, s7, _⟩
      exact SqL.of (s7 _ _ hpc (fun _ z => nomatch z))
    · rintro i x σ H7 hx ⟨y1, y2, y3, y4, y5, y6, y7, rfl, x7, tb7⟩
      rw [List.getElem?_map] at hx
      obtain ⟨z, _, rfl⟩ := Option.map_eq_some_iff.mp hx
      refine ⟨_, rfl, z, rfl, fun H8 st s8 nst hw8 => ?_⟩
      refine ⟨_, rfl, st, rfl, hw8, fun H9 pg gs g w9 npg hg hl4 => ?_⟩
      refine ⟨fun σ' H' => ∃ (pg' : Addr) (gs' : List V) (g' : List Sm), σ' = [some (.ref a), some (.int z), some (.ref st), some (.ref pg'), y4, y5, y6, y7] ∧ Wd st H8 H' ∧ Gv K H' st pg' gs' g' ∧ g'.length ≤ 5, ?_, fun σ' HA hm => ?_⟩
      · refine ⟨_, rfl, st, 2, rfl, w9.w1, by decide, by decide, fun HA r wA _ _ => ⟨rfl, _, rfl, ite2 (fun _ => ?_) (fun _ => ?_)⟩⟩
        · have w8A := w9.trans wA
          refine ⟨sz2, fun t nt => ⟨sz1, fun l nl => ?_⟩⟩
          have k1 := same_new (o := .tup [.str "letter", .str "e"]) nt
          have k2 := same_new (o := .lst [.ref t]) nl
          have k12 := k1.trans k2
          have ie : IsSm K (upd (upd HA t (.tup [.str "letter", .str "e"])) l (.lst [.ref t])) (.ref t) (.lt [101]) := .lt (.inl (.inl (k2 _ _ upd_same)))
          have hl : (upd (upd HA t (.tup [V.str "letter", .str "e"])) l (.lst [.ref t])) l = some (.lst [.ref t]) := upd_same
          have g2 := (hg.wd wA).same k12
          have w2 := w8A.then k12
          generalize upd (upd HA t (.tup [V.str "letter", .str "e"])) l (.lst [.ref t]) = HB at k12 ie hl g2 w2 ⊢
          have hln := g2.ln
          refine ⟨_, rfl, l, pg, _, _, rfl, rfl, hl, g2.at_, small' (by rw [List.length_singleton]; omega), fun p2 np2 => ?_⟩
          have k3 := same_new (o := .lst ([.ref t] ++ gs)) np2
          have ce : (Sm.lt [101]).In Ch := fun c hc => by rw [List.mem_singleton.mp hc]; decide
          exact ⟨p2, _, .lt [101] :: g, rfl, w2.then k3, ⟨upd_same, Wd.ne w2.w1 np2, .cons (ie.same k3) (pair_map (fun _ _ h => IsSm.same k3 h) g2.ps), fun s hs => by
            rcases List.mem_cons.mp hs with rfl | hs
            · exact ⟨Nat.zero_le _, ce⟩
            · exact hg.ok s hs⟩, by rw [List.length_cons]; omega⟩
        · exact ⟨pg, gs, g, rfl, w9.trans wA, hg.wd wA, by omega⟩
      obtain ⟨pg', gs', g', rfl, w8A, gA, lgA⟩ := hm
      refine ⟨_, rfl, _, rfl, st, pg', gs', g', rfl, w8A.w1, gA, by omega, fun HB vp p0 s0 wB' ip0 ty0 bd0 nn0 ht0 => ?_⟩
      have w8B := w8A.trans wB'
      have gB := gA.wd wB'
      have hln := gB.ln
      have wtB : Wt st TT H8 HB := Wt.of (Tabs.same tb7 s8) w8B
      refine ⟨7, rfl, by decide, by decide, for_range (lo := 0) (n := 7) (fun i σ H1 => ∃ (v y5 y6 y7 : Option V) (u : V), σ = [some (.ref a), some (.int z), some (.ref st), some (.ref pg'), some u, y5, y6, y7] ∧ LamX.ExtN HB H1 ∧ LamX.Tabs TT H1 ∧ (u = .non ∨ ∃ p s, IsPp K H1 u p ∧ Ty BK g' p s ∧ p.Bd 30 ∧ p.nn ≤ 90000 ∧ p.ht ≤ 400)) ?_ ?_ ?_⟩
      · exact ⟨none, _, _, _, vp, rfl, LamX.ExtN.refl _, wtB.tb, .inr ⟨p0, s0, ip0, ty0, bd0, by omega, by omega⟩⟩
      · rintro i σ H1 hi ⟨_, y5, y6, y7, u, rfl, x1, tb1, hu⟩
        rcases hu with rfl | ⟨p, s, ip, ty, bd, nn, ht⟩
        · exact ⟨_, rfl, rfl, _, rfl, iteF' (by decide) (iteF ⟨none, _, _, _, _, rfl, x1, tb1, .inl rfl⟩)⟩
        obtain ⟨qa, xs, rfl, _, _⟩ := ip.kid
        refine ⟨_, rfl, rfl, _, rfl, iteT' (by rw [decide_eq_false (fun z => nomatch z)]; rfl) ?_⟩
        refine ⟨_, rfl, .ref qa, p, rfl, ip, by omega, fun H2 s2 => ⟨_, _, rfl, rfl, _, rfl, ite2 (fun hlt => ?_) (fun hge => ?_)⟩⟩
        · have hlt : p.nn < 300 := by
            have : ((p.nn : Nat) : Int) < 300 := of_decide_eq_true hlt
            omega
          have hg1 := x1 _ _ gB.at_ (fun _ z => nomatch z)
          have hg2 := s2 _ _ hg1
          have hw := wt_nn p
          have ha := ad_ht p
          have hh := ht_nn p
          refine ⟨_, rfl, pg', gs', rfl, .inl (SqL.of hg2), _, rfl, _, .ref qa, p, rfl, ip.same s2, ty.joa, hlt, fun H3 v6 s3 o6 => ?_⟩
          rw [hln] at o6
          have hg3 := s3 _ _ hg2
          have ip3 := (ip.same s2).same s3
          have tb3 := Tabs.same (Tabs.same tb1 s2) s3
          refine ⟨_, rfl, pg', gs', rfl, .inl (SqL.of hg3), _, rfl, _, .ref qa, p, TT, rfl, ip3, ty.joa, by omega, by omega, tbb, tb3, fun H4 v7 e4 t4 o7 => ?_⟩
          rw [hln] at o7
          have hg4 := e4 _ _ hg3 (fun _ z => nomatch z)
          have k4 : TK K H3 H4 := ExtN.tk e4
          have ip4 := ip3.tk k4
          have x4 : LamX.ExtN HB H4 := (ExtN.same (ExtN.same x1 s2) s3).trans e4
          cases eo : p.step (g'.length : Nat) with
          | none =>
            rw [eo] at o6 o7
            rcases o6 with ⟨_, rfl⟩ | ⟨_, e, _⟩
            rotate_left
            · cases e
            rcases o7 with ⟨_, rfl⟩ | ⟨_, e, _⟩
            rotate_left
            · cases e
            refine ⟨_, rfl, rfl, _, rfl, iteT' (by decide) (iteT ?_)⟩
            refine ⟨_, rfl, rfl, _, rfl, iteF' (by decide) ⟨_, rfl, rfl, _, rfl, iteF' (by decide) ?_⟩⟩
            refine ⟨_, rfl, pg', gs', rfl, .inl (SqL.of hg4), _, rfl, _, .ref qa, p, TT, rfl, ip4, ty.joa, by omega, by omega, tbb, t4, fun H6 v8 e6 t6 o8 => ?_⟩
            rw [hln, eo] at o8
            refine ⟨_, rfl, ne_opt (M := 30) o8 (.inl ⟨rfl, rfl⟩) (fun _ z => nomatch z) ⟨_, rfl, iteF ?_⟩⟩
            exact ⟨_, rfl, none, _, _, _, _, rfl, x4.trans e6, t6, .inl rfl⟩
          | some q1 =>
            rw [eo] at o6 o7
            rcases o6 with ⟨e, _⟩ | ⟨_, e, i6⟩
            · cases e
            cases e
            rcases o7 with ⟨e, _⟩ | ⟨_, e, i7⟩
            · cases e
            cases e
            have bh := Ty.bh 401 (by omega) ty rfl eo
            have tq := Ty.step 401 (by omega) ty eo
            have b1 := bh.ht
            have b2 := bh.nn
            have b3 : p.nn * p.nn ≤ 299 * 299 := Nat.mul_le_mul (by omega) (by omega)
            have bq := bh.bd 30 bd
            have dq := Pp.Bd.dep bq
            have i64 := i6.tk k4
            obtain ⟨qb, _, rfl, _, _⟩ := i64.kid
            obtain ⟨qc, _, rfl, _, _⟩ := i7.kid
            refine ⟨_, rfl, rfl, _, rfl, iteF' (decide_eq_false fun z => nomatch z) ⟨_, rfl, rfl, _, rfl, iteF' (decide_eq_false fun z => nomatch z) ?_⟩⟩
            refine ⟨_, rfl, _, rfl, .ref qc, .ref qb, q1.data, rfl, i7.dp, i64.dp, Pd.pp q1, by omega, fun H5 s5 => ⟨_, rfl, iteF ?_⟩⟩
            refine ⟨_, rfl, pg', gs', rfl, .inl (SqL.of (s5 _ _ hg4)), _, rfl, _, .ref qa, p, TT, rfl, ip4.same s5, ty.joa, by omega, by omega, tbb, Tabs.same t4 s5, fun H6 v8 e6 t6 o8 => ?_⟩
            rw [hln, eo] at o8
            have k46 : TK K H4 H6 := (Same.tk s5).trans (ExtN.tk e6)
            have i66 := i64.tk k46
            refine ⟨_, rfl, ne_opt (M := 30) o8 (.inr ⟨q1, rfl, i66⟩) (fun p2 z => by cases z; exact ⟨bq, by omega⟩) ⟨_, rfl, iteF ?_⟩⟩
            exact ⟨_, rfl, none, _, _, _, _, rfl, (ExtN.same x4 s5).trans e6, t6, .inr ⟨q1, s, i66, tq, bq, by omega, by omega⟩⟩
        · exact ⟨none, _, _, _, _, rfl, ExtN.same x1 s2, Tabs.same tb1 s2, .inr ⟨p, s, ip.same s2, ty, bd, nn, ht⟩⟩
      · rintro σ H1 ⟨_, y5, y6, y7, u, rfl, x1, tb1, _⟩
        have outB : LamX.ExtN H7 HB := ext_out (LamX.ExtN.refl _) nst s8 wtB.bt
        exact ⟨_, _, _, _, _, _, _, rfl, x7.trans (outB.trans x1), tb1⟩
    · rintro σ H7 ⟨_, _, _, _, _, _, _, rfl, _, _⟩
      exact q H7
end
theorem all_law {P : Program} {w : World} {K : PySem.W.Frag} {mg : Str → Option Value} (T : Txt w K mg) {f : Addr} {fd : FuncData} (F : Fun K "law" "law" s_law f fd) (base : Heap) (tb_moved : ∀ c PT, PySem.W.tabIn K "moved" = some (c, PT) → LamX.TabB base mg c PT) (tb_put_in : ∀ c PT, PySem.W.tabIn K "put_in" = some (c, PT) → LamX.TabB base mg c PT) :
    FnOk P w K mg base CX0 215 f fd ["_law_script"] (sp_law K) := by
  have c_levels := ok_levels (P := P) (w := w) (base := base) T
  have c_rebuilt := ok_rebuilt (P := P) (w := w) (base := base) T
  have c_remade := ok_remade (P := P) (w := w) (base := base) T c_levels c_rebuilt
  have c_moved := ok_moved (P := P) (w := w) (base := base) T c_remade tb_moved
  have c_put_in := ok_put_in (P := P) (w := w) (base := base) T c_levels c_moved c_remade tb_put_in
  have c__taken := ok_taken (P := P) (w := w) (base := base) T c_put_in
  have c__shown := ok_shown (P := P) (w := w) (base := base) T
  have c__with_chief := ok_with_chief (P := P) (w := w) (base := base) T c_moved c_rebuilt
  have c__lifted := ok_lifted (P := P) (w := w) (base := base) T c__shown c__with_chief
  have c__stepped := ok_stepped (P := P) (w := w) (base := base) T c__taken c__lifted
  have c__with_at := ok_with_at (P := P) (w := w) (base := base) T
  have ck_step := ok_step (P := P) (w := w) (base := base) T c__stepped c__with_at
  have c_step := ck_step.cl
  have c__law_cell_at := ok_law_cell_at (P := P) (w := w) (base := base) T
  have c__law_well := ok_law_well (P := P) (w := w) (base := base) T
  have c__law_draw := ok_law_draw (P := P) (w := w) (base := base) T
  have c__law_plain := ok_law_plain (P := P) (w := w) (base := base) T c__law_draw
  have c__law_statement := ok_law_statement (P := P) (w := w) (base := base) T c__law_draw c__law_plain
  have c__law_joints := ok_law_joints (P := P) (w := w) (base := base) T  32
  have c__law_least := ok_law_least (P := P) (w := w) (base := base) T
  have c__law_small := ok_law_small (P := P) (w := w) (base := base) T c__law_draw c__law_statement c__law_least
  have c__law_grown := ok_law_grown (P := P) (w := w) (base := base) T c__law_draw c__law_small c__law_joints c__law_plain c__law_statement c__law_least 4
  have c__law_givens := ok_law_givens (P := P) (w := w) (base := base) T c__law_draw c__law_statement
  have c__law_spots := ok_law_spots (P := P) (w := w) (base := base) T
  have c__law_assumed := ok_law_assumed (P := P) (w := w) (base := base) T
  have c__law_with := ok_law_with (P := P) (w := w) (base := base) T
  have c__law_moved := ok_law_moved (P := P) (w := w) (base := base) T c__law_spots c__law_with
  have c__law_put := ok_law_put (P := P) (w := w) (base := base) T c__law_moved c__law_spots c__law_assumed c__law_with
  have c__law_borne := ok_law_borne (P := P) (w := w) (base := base) T
  have c__law_here := ok_law_here (P := P) (w := w) (base := base) T c__law_put c__law_borne c__law_with c__law_spots c__law_moved
  have c__law_step := ok_law_step (P := P) (w := w) (base := base) T c__law_here c__law_spots c__law_assumed c__law_with
  have c__law_size := ok_law_size (P := P) (w := w) (base := base) T c__law_spots
  have c__law_alike := ok_law_alike (P := P) (w := w) (base := base) T
  have c__law_wrapped := ok_law_wrapped (P := P) (w := w) (base := base) T c__law_draw c__law_joints
  have c__law_drawn := ok_law_drawn (P := P) (w := w) (base := base) T c__law_draw c__law_grown c__law_wrapped
  exact ok_law T c__law_cell_at c__law_well c__law_draw c__law_givens c__law_drawn c__law_size c__law_step c_step ck_step c__law_alike F
set_option maxHeartbeats 2000000 in
theorem all_mk {l : PySem.W.OpenLaw} {w : World} {K : PySem.W.Frag} {h : Heap} {mg : Str → Option Value} {fa f0 f1 f2 f3 f4 f5 f6 f7 f8 f9 f10 f11 f12 f13 f14 f15 f16 f17 f18 f19 f20 f21 f22 f23 f24 f25 f26 f27 f28 f29 f30 f31 f32 f33 f34 f35 f36 f37 f38 f39 f40 : Addr} (X : K.In h) (G : h.Ns mainGlobals mg) (hfa : mg "law" = some (.ref fa))
    {od0 an0 od1 an1 od2 an2 od3 an3 od4 an4 od5 an5 od6 an6 od7 an7 od8 an8 od9 an9 od10 an10 od11 an11 od12 an12 od13 an13 od14 an14 od15 an15 od16 an16 od17 an17 od18 an18 od19 an19 od20 an20 od21 an21 od22 an22 od23 an23 od24 an24 od25 an25 od26 an26 od27 an27 od28 an28 od29 an29 od30 an30 od31 an31 od32 an32 od33 an33 od34 an34 od35 an35 od36 an36 od37 an37 od38 an38 od39 an39 od40 an40 : Option Addr} {sl0 sl1 sl2 sl3 sl4 sl5 sl6 sl7 sl8 sl9 sl10 sl11 sl12 sl13 sl14 sl15 sl16 sl17 sl18 sl19 sl20 sl21 sl22 sl23 sl24 sl25 sl26 sl27 sl28 sl29 sl30 sl31 sl32 sl33 sl34 sl35 sl36 sl37 sl38 sl39 sl40 : Array (Option Value)} {oc0 kV0 dc0 pm0 cd0 ct0 oc1 kV1 dc1 pm1 cd1 ct1 oc2 kV2 dc2 pm2 cd2 ct2 oc3 kV3 dc3 pm3 cd3 ct3 oc4 kV4 dc4 pm4 cd4 ct4 oc5 kV5 dc5 pm5 cd5 ct5 oc6 kV6 dc6 pm6 cd6 ct6 oc7 kV7 dc7 pm7 cd7 ct7 oc8 kV8 dc8 pm8 cd8 ct8 oc9 kV9 dc9 pm9 cd9 ct9 oc10 kV10 dc10 pm10 cd10 ct10 oc11 kV11 dc11 pm11 cd11 ct11 oc12 kV12 dc12 pm12 cd12 ct12 oc13 kV13 dc13 pm13 cd13 ct13 oc14 kV14 dc14 pm14 cd14 ct14 oc15 kV15 dc15 pm15 cd15 ct15 oc16 kV16 dc16 pm16 cd16 ct16 oc17 kV17 dc17 pm17 cd17 ct17 oc18 kV18 dc18 pm18 cd18 ct18 oc19 kV19 dc19 pm19 cd19 ct19 oc20 kV20 dc20 pm20 cd20 ct20 oc21 kV21 dc21 pm21 cd21 ct21 oc22 kV22 dc22 pm22 cd22 ct22 oc23 kV23 dc23 pm23 cd23 ct23 oc24 kV24 dc24 pm24 cd24 ct24 oc25 kV25 dc25 pm25 cd25 ct25 oc26 kV26 dc26 pm26 cd26 ct26 oc27 kV27 dc27 pm27 cd27 ct27 oc28 kV28 dc28 pm28 cd28 ct28 oc29 kV29 dc29 pm29 cd29 ct29 oc30 kV30 dc30 pm30 cd30 ct30 oc31 kV31 dc31 pm31 cd31 ct31 oc32 kV32 dc32 pm32 cd32 ct32 oc33 kV33 dc33 pm33 cd33 ct33 oc34 kV34 dc34 pm34 cd34 ct34 oc35 kV35 dc35 pm35 cd35 ct35 oc36 kV36 dc36 pm36 cd36 ct36 oc37 kV37 dc37 pm37 cd37 ct37 oc38 kV38 dc38 pm38 cd38 ct38 oc39 kV39 dc39 pm39 cd39 ct39 oc40 kV40 dc40 pm40 cd40 ct40 : Value}
    (a0 : PySem.W.nsIn K mainGlobals "levels" = some (some (.ref f0))) (l0 : K.lookup f0 = some ⟨oc0, od0, .func (PySem.W.fnOf "levels" "levels" (defArgs s_levels) (defBody s_levels) (defScope s_levels) .none kV0 dc0 pm0 an0 cd0 ct0), sl0⟩) (c0 : PySem.W.codeIn K cd0 "levels" = true) (k0 : PySem.W.keepIn K (.ref f0) = true)
    (a1 : PySem.W.nsIn K mainGlobals "rebuilt" = some (some (.ref f1))) (l1 : K.lookup f1 = some ⟨oc1, od1, .func (PySem.W.fnOf "rebuilt" "rebuilt" (defArgs s_rebuilt) (defBody s_rebuilt) (defScope s_rebuilt) .none kV1 dc1 pm1 an1 cd1 ct1), sl1⟩) (c1 : PySem.W.codeIn K cd1 "rebuilt" = true) (k1 : PySem.W.keepIn K (.ref f1) = true)
    (a2 : PySem.W.nsIn K mainGlobals "remade" = some (some (.ref f2))) (l2 : K.lookup f2 = some ⟨oc2, od2, .func (PySem.W.fnOf "remade" "remade" (defArgs s_remade) (defBody s_remade) (defScope s_remade) .none kV2 dc2 pm2 an2 cd2 ct2), sl2⟩) (c2 : PySem.W.codeIn K cd2 "remade" = true) (k2 : PySem.W.keepIn K (.ref f2) = true)
    (a3 : PySem.W.nsIn K mainGlobals "moved" = some (some (.ref f3))) (l3 : K.lookup f3 = some ⟨oc3, od3, .func (PySem.W.fnOf "moved" "moved" (defArgs s_moved) (defBody s_moved) (defScope s_moved) .none kV3 dc3 pm3 an3 cd3 ct3), sl3⟩) (c3 : PySem.W.codeIn K cd3 "moved" = true) (k3 : PySem.W.keepIn K (.ref f3) = true)
    (a4 : PySem.W.nsIn K mainGlobals "put_in" = some (some (.ref f4))) (l4 : K.lookup f4 = some ⟨oc4, od4, .func (PySem.W.fnOf "put_in" "put_in" (defArgs s_put_in) (defBody s_put_in) (defScope s_put_in) .none kV4 dc4 pm4 an4 cd4 ct4), sl4⟩) (c4 : PySem.W.codeIn K cd4 "put_in" = true) (k4 : PySem.W.keepIn K (.ref f4) = true)
    (a5 : PySem.W.nsIn K mainGlobals "_taken" = some (some (.ref f5))) (l5 : K.lookup f5 = some ⟨oc5, od5, .func (PySem.W.fnOf "_taken" "_taken" (defArgs s_taken) (defBody s_taken) (defScope s_taken) .none kV5 dc5 pm5 an5 cd5 ct5), sl5⟩) (c5 : PySem.W.codeIn K cd5 "_taken" = true) (k5 : PySem.W.keepIn K (.ref f5) = true)
    (a6 : PySem.W.nsIn K mainGlobals "_shown" = some (some (.ref f6))) (l6 : K.lookup f6 = some ⟨oc6, od6, .func (PySem.W.fnOf "_shown" "_shown" (defArgs s_shown) (defBody s_shown) (defScope s_shown) .none kV6 dc6 pm6 an6 cd6 ct6), sl6⟩) (c6 : PySem.W.codeIn K cd6 "_shown" = true) (k6 : PySem.W.keepIn K (.ref f6) = true)
    (a7 : PySem.W.nsIn K mainGlobals "_with_chief" = some (some (.ref f7))) (l7 : K.lookup f7 = some ⟨oc7, od7, .func (PySem.W.fnOf "_with_chief" "_with_chief" (defArgs s_with_chief) (defBody s_with_chief) (defScope s_with_chief) .none kV7 dc7 pm7 an7 cd7 ct7), sl7⟩) (c7 : PySem.W.codeIn K cd7 "_with_chief" = true) (k7 : PySem.W.keepIn K (.ref f7) = true)
    (a8 : PySem.W.nsIn K mainGlobals "_lifted" = some (some (.ref f8))) (l8 : K.lookup f8 = some ⟨oc8, od8, .func (PySem.W.fnOf "_lifted" "_lifted" (defArgs s_lifted) (defBody s_lifted) (defScope s_lifted) .none kV8 dc8 pm8 an8 cd8 ct8), sl8⟩) (c8 : PySem.W.codeIn K cd8 "_lifted" = true) (k8 : PySem.W.keepIn K (.ref f8) = true)
    (a9 : PySem.W.nsIn K mainGlobals "_stepped" = some (some (.ref f9))) (l9 : K.lookup f9 = some ⟨oc9, od9, .func (PySem.W.fnOf "_stepped" "_stepped" (defArgs s_stepped) (defBody s_stepped) (defScope s_stepped) .none kV9 dc9 pm9 an9 cd9 ct9), sl9⟩) (c9 : PySem.W.codeIn K cd9 "_stepped" = true) (k9 : PySem.W.keepIn K (.ref f9) = true)
    (a10 : PySem.W.nsIn K mainGlobals "_with_at" = some (some (.ref f10))) (l10 : K.lookup f10 = some ⟨oc10, od10, .func (PySem.W.fnOf "_with_at" "_with_at" (defArgs s_with_at) (defBody s_with_at) (defScope s_with_at) .none kV10 dc10 pm10 an10 cd10 ct10), sl10⟩) (c10 : PySem.W.codeIn K cd10 "_with_at" = true) (k10 : PySem.W.keepIn K (.ref f10) = true)
    (a11 : PySem.W.nsIn K mainGlobals "step" = some (some (.ref f11))) (l11 : K.lookup f11 = some ⟨oc11, od11, .func (PySem.W.fnOf "step" "step" (defArgs s_step) (defBody s_step) (defScope s_step) .none kV11 dc11 pm11 an11 cd11 ct11), sl11⟩) (c11 : PySem.W.codeIn K cd11 "step" = true) (k11 : PySem.W.keepIn K (.ref f11) = true)
    (a12 : PySem.W.nsIn K mainGlobals "_law_cell_at" = some (some (.ref f12))) (l12 : K.lookup f12 = some ⟨oc12, od12, .func (PySem.W.fnOf "_law_cell_at" "_law_cell_at" (defArgs s_law_cell_at) (defBody s_law_cell_at) (defScope s_law_cell_at) .none kV12 dc12 pm12 an12 cd12 ct12), sl12⟩) (c12 : PySem.W.codeIn K cd12 "_law_cell_at" = true) (k12 : PySem.W.keepIn K (.ref f12) = true)
    (a13 : PySem.W.nsIn K mainGlobals "_law_well" = some (some (.ref f13))) (l13 : K.lookup f13 = some ⟨oc13, od13, .func (PySem.W.fnOf "_law_well" "_law_well" (defArgs s_law_well) (defBody s_law_well) (defScope s_law_well) .none kV13 dc13 pm13 an13 cd13 ct13), sl13⟩) (c13 : PySem.W.codeIn K cd13 "_law_well" = true) (k13 : PySem.W.keepIn K (.ref f13) = true)
    (a14 : PySem.W.nsIn K mainGlobals "_law_draw" = some (some (.ref f14))) (l14 : K.lookup f14 = some ⟨oc14, od14, .func (PySem.W.fnOf "_law_draw" "_law_draw" (defArgs s_law_draw) (defBody s_law_draw) (defScope s_law_draw) .none kV14 dc14 pm14 an14 cd14 ct14), sl14⟩) (c14 : PySem.W.codeIn K cd14 "_law_draw" = true) (k14 : PySem.W.keepIn K (.ref f14) = true)
    (a15 : PySem.W.nsIn K mainGlobals "_law_plain" = some (some (.ref f15))) (l15 : K.lookup f15 = some ⟨oc15, od15, .func (PySem.W.fnOf "_law_plain" "_law_plain" (defArgs s_law_plain) (defBody s_law_plain) (defScope s_law_plain) .none kV15 dc15 pm15 an15 cd15 ct15), sl15⟩) (c15 : PySem.W.codeIn K cd15 "_law_plain" = true) (k15 : PySem.W.keepIn K (.ref f15) = true)
    (a16 : PySem.W.nsIn K mainGlobals "_law_statement" = some (some (.ref f16))) (l16 : K.lookup f16 = some ⟨oc16, od16, .func (PySem.W.fnOf "_law_statement" "_law_statement" (defArgs s_law_statement) (defBody s_law_statement) (defScope s_law_statement) .none kV16 dc16 pm16 an16 cd16 ct16), sl16⟩) (c16 : PySem.W.codeIn K cd16 "_law_statement" = true) (k16 : PySem.W.keepIn K (.ref f16) = true)
    (a17 : PySem.W.nsIn K mainGlobals "_law_joints" = some (some (.ref f17))) (l17 : K.lookup f17 = some ⟨oc17, od17, .func (PySem.W.fnOf "_law_joints" "_law_joints" (defArgs s_law_joints) (defBody s_law_joints) (defScope s_law_joints) .none kV17 dc17 pm17 an17 cd17 ct17), sl17⟩) (c17 : PySem.W.codeIn K cd17 "_law_joints" = true) (k17 : PySem.W.keepIn K (.ref f17) = true)
    (a18 : PySem.W.nsIn K mainGlobals "_law_least" = some (some (.ref f18))) (l18 : K.lookup f18 = some ⟨oc18, od18, .func (PySem.W.fnOf "_law_least" "_law_least" (defArgs s_law_least) (defBody s_law_least) (defScope s_law_least) .none kV18 dc18 pm18 an18 cd18 ct18), sl18⟩) (c18 : PySem.W.codeIn K cd18 "_law_least" = true) (k18 : PySem.W.keepIn K (.ref f18) = true)
    (a19 : PySem.W.nsIn K mainGlobals "_law_small" = some (some (.ref f19))) (l19 : K.lookup f19 = some ⟨oc19, od19, .func (PySem.W.fnOf "_law_small" "_law_small" (defArgs s_law_small) (defBody s_law_small) (defScope s_law_small) .none kV19 dc19 pm19 an19 cd19 ct19), sl19⟩) (c19 : PySem.W.codeIn K cd19 "_law_small" = true) (k19 : PySem.W.keepIn K (.ref f19) = true)
    (a20 : PySem.W.nsIn K mainGlobals "_law_never" = some (some (.ref f20))) (l20 : K.lookup f20 = some ⟨oc20, od20, .func (PySem.W.fnOf "_law_never" "_law_never" (defArgs s_law_never) (defBody s_law_never) (defScope s_law_never) .none kV20 dc20 pm20 an20 cd20 ct20), sl20⟩) (c20 : PySem.W.codeIn K cd20 "_law_never" = true) (k20 : PySem.W.keepIn K (.ref f20) = true)
    (a21 : PySem.W.nsIn K mainGlobals "_law_arms" = some (some (.ref f21))) (l21 : K.lookup f21 = some ⟨oc21, od21, .func (PySem.W.fnOf "_law_arms" "_law_arms" (defArgs s_law_arms) (defBody s_law_arms) (defScope s_law_arms) .none kV21 dc21 pm21 an21 cd21 ct21), sl21⟩) (c21 : PySem.W.codeIn K cd21 "_law_arms" = true) (k21 : PySem.W.keepIn K (.ref f21) = true)
    (a22 : PySem.W.nsIn K mainGlobals "_law_straight" = some (some (.ref f22))) (l22 : K.lookup f22 = some ⟨oc22, od22, .func (PySem.W.fnOf "_law_straight" "_law_straight" (defArgs s_law_straight) (defBody s_law_straight) (defScope s_law_straight) .none kV22 dc22 pm22 an22 cd22 ct22), sl22⟩) (c22 : PySem.W.codeIn K cd22 "_law_straight" = true) (k22 : PySem.W.keepIn K (.ref f22) = true)
    (a23 : PySem.W.nsIn K mainGlobals "_law_shaped" = some (some (.ref f23))) (l23 : K.lookup f23 = some ⟨oc23, od23, .func (PySem.W.fnOf "_law_shaped" "_law_shaped" (defArgs s_law_shaped) (defBody s_law_shaped) (defScope s_law_shaped) .none kV23 dc23 pm23 an23 cd23 ct23), sl23⟩) (c23 : PySem.W.codeIn K cd23 "_law_shaped" = true) (k23 : PySem.W.keepIn K (.ref f23) = true)
    (a24 : PySem.W.nsIn K mainGlobals "_law_shaped_by" = some (some (.ref f24))) (l24 : K.lookup f24 = some ⟨oc24, od24, .func (PySem.W.fnOf "_law_shaped_by" "_law_shaped_by" (defArgs s_law_shaped_by) (defBody s_law_shaped_by) (defScope s_law_shaped_by) .none kV24 dc24 pm24 an24 cd24 ct24), sl24⟩) (c24 : PySem.W.codeIn K cd24 "_law_shaped_by" = true) (k24 : PySem.W.keepIn K (.ref f24) = true)
    (a25 : PySem.W.nsIn K mainGlobals "_law_way" = some (some (.ref f25))) (l25 : K.lookup f25 = some ⟨oc25, od25, .func (PySem.W.fnOf "_law_way" "_law_way" (defArgs s_law_way) (defBody s_law_way) (defScope s_law_way) .none kV25 dc25 pm25 an25 cd25 ct25), sl25⟩) (c25 : PySem.W.codeIn K cd25 "_law_way" = true) (k25 : PySem.W.keepIn K (.ref f25) = true)
    (a26 : PySem.W.nsIn K mainGlobals "_law_grown" = some (some (.ref f26))) (l26 : K.lookup f26 = some ⟨oc26, od26, .func (PySem.W.fnOf "_law_grown" "_law_grown" (defArgs s_law_grown) (defBody s_law_grown) (defScope s_law_grown) .none kV26 dc26 pm26 an26 cd26 ct26), sl26⟩) (c26 : PySem.W.codeIn K cd26 "_law_grown" = true) (k26 : PySem.W.keepIn K (.ref f26) = true)
    (a27 : PySem.W.nsIn K mainGlobals "_law_givens" = some (some (.ref f27))) (l27 : K.lookup f27 = some ⟨oc27, od27, .func (PySem.W.fnOf "_law_givens" "_law_givens" (defArgs s_law_givens) (defBody s_law_givens) (defScope s_law_givens) .none kV27 dc27 pm27 an27 cd27 ct27), sl27⟩) (c27 : PySem.W.codeIn K cd27 "_law_givens" = true) (k27 : PySem.W.keepIn K (.ref f27) = true)
    (a28 : PySem.W.nsIn K mainGlobals "_law_spots" = some (some (.ref f28))) (l28 : K.lookup f28 = some ⟨oc28, od28, .func (PySem.W.fnOf "_law_spots" "_law_spots" (defArgs s_law_spots) (defBody s_law_spots) (defScope s_law_spots) .none kV28 dc28 pm28 an28 cd28 ct28), sl28⟩) (c28 : PySem.W.codeIn K cd28 "_law_spots" = true) (k28 : PySem.W.keepIn K (.ref f28) = true)
    (a29 : PySem.W.nsIn K mainGlobals "_law_assumed" = some (some (.ref f29))) (l29 : K.lookup f29 = some ⟨oc29, od29, .func (PySem.W.fnOf "_law_assumed" "_law_assumed" (defArgs s_law_assumed) (defBody s_law_assumed) (defScope s_law_assumed) .none kV29 dc29 pm29 an29 cd29 ct29), sl29⟩) (c29 : PySem.W.codeIn K cd29 "_law_assumed" = true) (k29 : PySem.W.keepIn K (.ref f29) = true)
    (a30 : PySem.W.nsIn K mainGlobals "_law_with" = some (some (.ref f30))) (l30 : K.lookup f30 = some ⟨oc30, od30, .func (PySem.W.fnOf "_law_with" "_law_with" (defArgs s_law_with) (defBody s_law_with) (defScope s_law_with) .none kV30 dc30 pm30 an30 cd30 ct30), sl30⟩) (c30 : PySem.W.codeIn K cd30 "_law_with" = true) (k30 : PySem.W.keepIn K (.ref f30) = true)
    (a31 : PySem.W.nsIn K mainGlobals "_law_moved" = some (some (.ref f31))) (l31 : K.lookup f31 = some ⟨oc31, od31, .func (PySem.W.fnOf "_law_moved" "_law_moved" (defArgs s_law_moved) (defBody s_law_moved) (defScope s_law_moved) .none kV31 dc31 pm31 an31 cd31 ct31), sl31⟩) (c31 : PySem.W.codeIn K cd31 "_law_moved" = true) (k31 : PySem.W.keepIn K (.ref f31) = true)
    (a32 : PySem.W.nsIn K mainGlobals "_law_put" = some (some (.ref f32))) (l32 : K.lookup f32 = some ⟨oc32, od32, .func (PySem.W.fnOf "_law_put" "_law_put" (defArgs s_law_put) (defBody s_law_put) (defScope s_law_put) .none kV32 dc32 pm32 an32 cd32 ct32), sl32⟩) (c32 : PySem.W.codeIn K cd32 "_law_put" = true) (k32 : PySem.W.keepIn K (.ref f32) = true)
    (a33 : PySem.W.nsIn K mainGlobals "_law_borne" = some (some (.ref f33))) (l33 : K.lookup f33 = some ⟨oc33, od33, .func (PySem.W.fnOf "_law_borne" "_law_borne" (defArgs s_law_borne) (defBody s_law_borne) (defScope s_law_borne) .none kV33 dc33 pm33 an33 cd33 ct33), sl33⟩) (c33 : PySem.W.codeIn K cd33 "_law_borne" = true) (k33 : PySem.W.keepIn K (.ref f33) = true)
    (a34 : PySem.W.nsIn K mainGlobals "_law_here" = some (some (.ref f34))) (l34 : K.lookup f34 = some ⟨oc34, od34, .func (PySem.W.fnOf "_law_here" "_law_here" (defArgs s_law_here) (defBody s_law_here) (defScope s_law_here) .none kV34 dc34 pm34 an34 cd34 ct34), sl34⟩) (c34 : PySem.W.codeIn K cd34 "_law_here" = true) (k34 : PySem.W.keepIn K (.ref f34) = true)
    (a35 : PySem.W.nsIn K mainGlobals "_law_step" = some (some (.ref f35))) (l35 : K.lookup f35 = some ⟨oc35, od35, .func (PySem.W.fnOf "_law_step" "_law_step" (defArgs s_law_step) (defBody s_law_step) (defScope s_law_step) .none kV35 dc35 pm35 an35 cd35 ct35), sl35⟩) (c35 : PySem.W.codeIn K cd35 "_law_step" = true) (k35 : PySem.W.keepIn K (.ref f35) = true)
    (a36 : PySem.W.nsIn K mainGlobals "_law_size" = some (some (.ref f36))) (l36 : K.lookup f36 = some ⟨oc36, od36, .func (PySem.W.fnOf "_law_size" "_law_size" (defArgs s_law_size) (defBody s_law_size) (defScope s_law_size) .none kV36 dc36 pm36 an36 cd36 ct36), sl36⟩) (c36 : PySem.W.codeIn K cd36 "_law_size" = true) (k36 : PySem.W.keepIn K (.ref f36) = true)
    (a37 : PySem.W.nsIn K mainGlobals "_law_alike" = some (some (.ref f37))) (l37 : K.lookup f37 = some ⟨oc37, od37, .func (PySem.W.fnOf "_law_alike" "_law_alike" (defArgs s_law_alike) (defBody s_law_alike) (defScope s_law_alike) .none kV37 dc37 pm37 an37 cd37 ct37), sl37⟩) (c37 : PySem.W.codeIn K cd37 "_law_alike" = true) (k37 : PySem.W.keepIn K (.ref f37) = true)
    (a38 : PySem.W.nsIn K mainGlobals "_law_wrapped" = some (some (.ref f38))) (l38 : K.lookup f38 = some ⟨oc38, od38, .func (PySem.W.fnOf "_law_wrapped" "_law_wrapped" (defArgs s_law_wrapped) (defBody s_law_wrapped) (defScope s_law_wrapped) .none kV38 dc38 pm38 an38 cd38 ct38), sl38⟩) (c38 : PySem.W.codeIn K cd38 "_law_wrapped" = true) (k38 : PySem.W.keepIn K (.ref f38) = true)
    (a39 : PySem.W.nsIn K mainGlobals "_law_drawn" = some (some (.ref f39))) (l39 : K.lookup f39 = some ⟨oc39, od39, .func (PySem.W.fnOf "_law_drawn" "_law_drawn" (defArgs s_law_drawn) (defBody s_law_drawn) (defScope s_law_drawn) .none kV39 dc39 pm39 an39 cd39 ct39), sl39⟩) (c39 : PySem.W.codeIn K cd39 "_law_drawn" = true) (k39 : PySem.W.keepIn K (.ref f39) = true)
    (a40 : PySem.W.nsIn K mainGlobals "law" = some (some (.ref f40))) (l40 : K.lookup f40 = some ⟨oc40, od40, .func (PySem.W.fnOf "law" "law" (defArgs s_law) (defBody s_law) (defScope s_law) .none kV40 dc40 pm40 an40 cd40 ct40), sl40⟩) (c40 : PySem.W.codeIn K cd40 "law" = true) (k40 : PySem.W.keepIn K (.ref f40) = true)
    (z0 : PySem.W.nsIn K mainGlobals "all" = some none)
    (z1 : PySem.W.nsIn K mainGlobals "bool" = some none)
    (z2 : PySem.W.nsIn K mainGlobals "enumerate" = some none)
    (z3 : PySem.W.nsIn K mainGlobals "int" = some none)
    (z4 : PySem.W.nsIn K mainGlobals "isinstance" = some none)
    (z5 : PySem.W.nsIn K mainGlobals "len" = some none)
    (z6 : PySem.W.nsIn K mainGlobals "list" = some none)
    (z7 : PySem.W.nsIn K mainGlobals "max" = some none)
    (z8 : PySem.W.nsIn K mainGlobals "range" = some none)
    (z9 : PySem.W.nsIn K mainGlobals "repr" = some none)
    (z10 : PySem.W.nsIn K mainGlobals "reversed" = some none)
    (z11 : PySem.W.nsIn K mainGlobals "sorted" = some none)
    (z12 : PySem.W.nsIn K mainGlobals "str" = some none)
    (z13 : PySem.W.nsIn K mainGlobals "sum" = some none)
    (z14 : PySem.W.nsIn K mainGlobals "tuple" = some none)
    (z15 : PySem.W.nsIn K mainGlobals "zip" = some none)
    {aPa : Addr} {esPa : Array DictEntry} {nPa : Nat} {tPause : Addr} {dPause : Option Addr} {nPause : Nat} {sPause : Array (Option Value)} {tPaname : Addr} {dPaname : Option Addr} {nPaname : Nat} {sPaname : Array (Option Value)} {tPapair : Addr} {dPapair : Option Addr} {nPapair : Nat} {sPapair : Array (Option Value)} {kPapair1 kPapair2 : Tok} {tPafirst : Addr} {dPafirst : Option Addr} {nPafirst : Nat} {sPafirst : Array (Option Value)} {kPafirst1 : Tok} {tPasecond : Addr} {dPasecond : Option Addr} {nPasecond : Nat} {sPasecond : Array (Option Value)} {kPasecond1 : Tok} {tPaleft : Addr} {dPaleft : Option Addr} {nPaleft : Nat} {sPaleft : Array (Option Value)} {kPaleft1 : Tok} {tParight : Addr} {dParight : Option Addr} {nParight : Nat} {sParight : Array (Option Value)} {kParight2 : Tok} {tPacase : Addr} {dPacase : Option Addr} {nPacase : Nat} {sPacase : Array (Option Value)} {kPacase1 kPacase2 kPacase3 : Tok} {tPamake : Addr} {dPamake : Option Addr} {nPamake : Nat} {sPamake : Array (Option Value)} {kPamake2 : Tok} {tPaapply : Addr} {dPaapply : Option Addr} {nPaapply : Nat} {sPaapply : Array (Option Value)} {kPaapply1 kPaapply2 : Tok} {tPaescape : Addr} {dPaescape : Option Addr} {nPaescape : Nat} {sPaescape : Array (Option Value)} {kPaescape1 : Tok}
    (hPa0 : PySem.W.nsIn K mainGlobals "PAPERS" = some (some (.ref aPa)))
    (hPa1 : K.lookup aPa = some ⟨.type "dict", none, .dict esPa nPa, #[]⟩)
    (hPa2 : PySem.W.KeysLit w.params esPa.toList)
    (hPbuse : PySem.W.nsIn K aPa "use" = some (some (.ref tPause)))
    (hPcuse : K.lookup tPause = some ⟨.type "tuple", dPause, .seq #[] nPause, sPause⟩)
    (hPbname : PySem.W.nsIn K aPa "name" = some (some (.ref tPaname)))
    (hPcname : K.lookup tPaname = some ⟨.type "tuple", dPaname, .seq #[] nPaname, sPaname⟩)
    (hPbpair : PySem.W.nsIn K aPa "pair" = some (some (.ref tPapair)))
    (hPcpair : K.lookup tPapair = some ⟨.type "tuple", dPapair, .seq #[.int 1 kPapair1, .int 2 kPapair2] nPapair, sPapair⟩)
    (hPbfirst : PySem.W.nsIn K aPa "first" = some (some (.ref tPafirst)))
    (hPcfirst : K.lookup tPafirst = some ⟨.type "tuple", dPafirst, .seq #[.int 1 kPafirst1] nPafirst, sPafirst⟩)
    (hPbsecond : PySem.W.nsIn K aPa "second" = some (some (.ref tPasecond)))
    (hPcsecond : K.lookup tPasecond = some ⟨.type "tuple", dPasecond, .seq #[.int 1 kPasecond1] nPasecond, sPasecond⟩)
    (hPbleft : PySem.W.nsIn K aPa "left" = some (some (.ref tPaleft)))
    (hPcleft : K.lookup tPaleft = some ⟨.type "tuple", dPaleft, .seq #[.int 1 kPaleft1] nPaleft, sPaleft⟩)
    (hPbright : PySem.W.nsIn K aPa "right" = some (some (.ref tParight)))
    (hPcright : K.lookup tParight = some ⟨.type "tuple", dParight, .seq #[.int 2 kParight2] nParight, sParight⟩)
    (hPbcase : PySem.W.nsIn K aPa "case" = some (some (.ref tPacase)))
    (hPccase : K.lookup tPacase = some ⟨.type "tuple", dPacase, .seq #[.int 1 kPacase1, .int 2 kPacase2, .int 3 kPacase3] nPacase, sPacase⟩)
    (hPbmake : PySem.W.nsIn K aPa "make" = some (some (.ref tPamake)))
    (hPcmake : K.lookup tPamake = some ⟨.type "tuple", dPamake, .seq #[.int 2 kPamake2] nPamake, sPamake⟩)
    (hPbapply : PySem.W.nsIn K aPa "apply" = some (some (.ref tPaapply)))
    (hPcapply : K.lookup tPaapply = some ⟨.type "tuple", dPaapply, .seq #[.int 1 kPaapply1, .int 2 kPaapply2] nPaapply, sPaapply⟩)
    (hPbescape : PySem.W.nsIn K aPa "escape" = some (some (.ref tPaescape)))
    (hPcescape : K.lookup tPaescape = some ⟨.type "tuple", dPaescape, .seq #[.int 1 kPaescape1] nPaescape, sPaescape⟩)
    {aAs : Addr} {esAs : Array DictEntry} {nAs : Nat} {tAscase : Addr} {dAscase : Option Addr} {nAscase : Nat} {sAscase : Array (Option Value)} {kAscase2 kAscase3 : Tok} {tAsmake : Addr} {dAsmake : Option Addr} {nAsmake : Nat} {sAsmake : Array (Option Value)} {kAsmake2 : Tok}
    (hAs0 : PySem.W.nsIn K mainGlobals "ASSUMES" = some (some (.ref aAs)))
    (hAs1 : K.lookup aAs = some ⟨.type "dict", none, .dict esAs nAs, #[]⟩)
    (hAs2 : PySem.W.KeysLit w.params esAs.toList)
    (hAs3 : (aAs == sysModules) = false)
    (hAscaseb : PySem.W.nsIn K aAs "case" = some (some (.ref tAscase)))
    (hAscasec : K.lookup tAscase = some ⟨.type "tuple", dAscase, .seq #[.int 2 kAscase2, .int 3 kAscase3] nAscase, sAscase⟩)
    (hAsmakeb : PySem.W.nsIn K aAs "make" = some (some (.ref tAsmake)))
    (hAsmakec : K.lookup tAsmake = some ⟨.type "tuple", dAsmake, .seq #[.int 2 kAsmake2] nAsmake, sAsmake⟩)
    (hAsuse : PySem.W.nsIn K aAs "use" = some none)
    (hAsname : PySem.W.nsIn K aAs "name" = some none)
    (hAspair : PySem.W.nsIn K aAs "pair" = some none)
    (hAsfirst : PySem.W.nsIn K aAs "first" = some none)
    (hAssecond : PySem.W.nsIn K aAs "second" = some none)
    (hAsleft : PySem.W.nsIn K aAs "left" = some none)
    (hAsright : PySem.W.nsIn K aAs "right" = some none)
    (hAsapply : PySem.W.nsIn K aAs "apply" = some none)
    (hAsescape : PySem.W.nsIn K aAs "escape" = some none)
    {aWc : Addr} {dWc : Option Addr} {nWc : Nat} {sWc : Array (Option Value)} {kWc1 kWc2 kWc3 kWc4 kWc5 : Tok}
    (hWc0 : PySem.W.nsIn K mainGlobals "WITH_CHIEF" = some (some (.ref aWc)))
    (hWc1 : K.lookup aWc = some ⟨.type "tuple", dWc, .seq #[.str "first" kWc1, .str "second" kWc2, .str "apply" kWc3, .str "case" kWc4, .str "escape" kWc5] nWc, sWc⟩)
    {cTmoved PTmoved : Addr}
    (hTmoved : PySem.W.tabIn K "moved" = some (cTmoved, PTmoved))
    (hLmoved : K.lookup PTmoved = none)
    (hHmoved : PySem.W.codeHdIn K cTmoved PTmoved = true)
    (hOmoved : h.get? PTmoved = some { cls := .none, data := .fields #[] })
    {cTput_in PTput_in : Addr}
    (hTput_in : PySem.W.tabIn K "put_in" = some (cTput_in, PTput_in))
    (hLput_in : K.lookup PTput_in = none)
    (hHput_in : PySem.W.codeHdIn K cTput_in PTput_in = true)
    (hOput_in : h.get? PTput_in = some { cls := .none, data := .fields #[] })
    (hNemovedput_in : PTmoved ≠ PTput_in)
    : LamX.LawAtS l w K CX0 215 63 "_law_script" mg fa h := by
  have F0 := fun_mk (st := s_levels) l0 c0 k0
  have b0 := F0.binds (ps := ["paper"]) fun _ _ _ _ _ _ us hl => match us, hl with | [_], _ => rfl
  have F1 := fun_mk (st := s_rebuilt) l1 c1 k1
  have b1 := F1.binds (ps := ["paper", "papers"]) fun _ _ _ _ _ _ us hl => match us, hl with | [_, _], _ => rfl
  have F2 := fun_mk (st := s_remade) l2 c2 k2
  have b2 := F2.binds (ps := ["paper", "change"]) fun _ _ _ _ _ _ us hl => match us, hl with | [_, _], _ => rfl
  have F3 := fun_mk (st := s_moved) l3 c3 k3
  have b3 := F3.binds (ps := ["paper", "at", "by"]) fun _ _ _ _ _ _ us hl => match us, hl with | [_, _, _], _ => rfl
  have F4 := fun_mk (st := s_put_in) l4 c4 k4
  have b4 := F4.binds (ps := ["paper", "at", "other"]) fun _ _ _ _ _ _ us hl => match us, hl with | [_, _, _], _ => rfl
  have F5 := fun_mk (st := s_taken) l5 c5 k5
  have b5 := F5.binds (ps := ["n", "paper"]) fun _ _ _ _ _ _ us hl => match us, hl with | [_, _], _ => rfl
  have F6 := fun_mk (st := s_shown) l6 c6 k6
  have b6 := F6.binds (ps := ["paper", "a"]) fun _ _ _ _ _ _ us hl => match us, hl with | [_, _], _ => rfl
  have F7 := fun_mk (st := s_with_chief) l7 c7 k7
  have b7 := F7.binds (ps := ["n", "paper", "chief"]) fun _ _ _ _ _ _ us hl => match us, hl with | [_, _, _], _ => rfl
  have F8 := fun_mk (st := s_lifted) l8 c8 k8
  have b8 := F8.binds (ps := ["n", "paper"]) fun _ _ _ _ _ _ us hl => match us, hl with | [_, _], _ => rfl
  have F9 := fun_mk (st := s_stepped) l9 c9 k9
  have b9 := F9.binds (ps := ["n", "paper"]) fun _ _ _ _ _ _ us hl => match us, hl with | [_, _], _ => rfl
  have F10 := fun_mk (st := s_with_at) l10 c10 k10
  have b10 := F10.binds (ps := ["paper", "road", "part"]) fun _ _ _ _ _ _ us hl => match us, hl with | [_, _, _], _ => rfl
  have F11 := fun_mk (st := s_step) l11 c11 k11
  have b11 := F11.binds (ps := ["many", "paper"]) fun _ _ _ _ _ _ us hl => match us, hl with | [_, _], _ => rfl
  have F12 := fun_mk (st := s_law_cell_at) l12 c12 k12
  have b12 := F12.binds (ps := ["_law_script", "_law_k"]) fun _ _ _ _ _ _ us hl => match us, hl with | [_, _], _ => rfl
  have F13 := fun_mk (st := s_law_well) l13 c13 k13
  have b13 := F13.binds (ps := ["_law_cell"]) fun _ _ _ _ _ _ us hl => match us, hl with | [_], _ => rfl
  have F14 := fun_mk (st := s_law_draw) l14 c14 k14
  have b14 := F14.binds (ps := ["_law_well_here", "_law_wide"]) fun _ _ _ _ _ _ us hl => match us, hl with | [_, _], _ => rfl
  have F15 := fun_mk (st := s_law_plain) l15 c15 k15
  have b15 := F15.binds (ps := ["_law_well_here"]) fun _ _ _ _ _ _ us hl => match us, hl with | [_], _ => rfl
  have F16 := fun_mk (st := s_law_statement) l16 c16 k16
  have b16 := F16.binds (ps := ["_law_well_here"]) fun _ _ _ _ _ _ us hl => match us, hl with | [_], _ => rfl
  have F17 := fun_mk (st := s_law_joints) l17 c17 k17
  have b17 := F17.binds (ps := ["_law_a"]) fun _ _ _ _ _ _ us hl => match us, hl with | [_], _ => rfl
  have F18 := fun_mk (st := s_law_least) l18 c18 k18
  have b18 := F18.binds (ps := ["_law_givens_here", "_law_word"]) fun _ _ _ _ _ _ us hl => match us, hl with | [_, _], _ => rfl
  have F19 := fun_mk (st := s_law_small) l19 c19 k19
  have b19 := F19.binds (ps := ["_law_well_here", "_law_givens_here"]) fun _ _ _ _ _ _ us hl => match us, hl with | [_, _], _ => rfl
  have F20 := fun_mk (st := s_law_never) l20 c20 k20
  have b20 := F20.binds (ps := ["_law_well_here", "_law_givens_here", "_law_far"]) fun _ _ _ _ _ _ us hl => match us, hl with | [_, _, _], _ => rfl
  have F21 := fun_mk (st := s_law_arms) l21 c21 k21
  have b21 := F21.binds (ps := ["_law_well_here", "_law_givens_here", "_law_far", "_law_a", "_law_word", "_law_e"]) fun _ _ _ _ _ _ us hl => match us, hl with | [_, _, _, _, _, _], _ => rfl
  have F22 := fun_mk (st := s_law_straight) l22 c22 k22
  have b22 := F22.binds (ps := ["_law_well_here", "_law_givens_here", "_law_far", "_law_word"]) fun _ _ _ _ _ _ us hl => match us, hl with | [_, _, _, _], _ => rfl
  have F23 := fun_mk (st := s_law_shaped) l23 c23 k23
  have b23 := F23.binds (ps := ["_law_well_here", "_law_givens_here", "_law_far", "_law_word"]) fun _ _ _ _ _ _ us hl => match us, hl with | [_, _, _, _], _ => rfl
  have F24 := fun_mk (st := s_law_shaped_by) l24 c24 k24
  have b24 := F24.binds (ps := ["_law_well_here", "_law_givens_here", "_law_far", "_law_word", "_law_way_here"]) fun _ _ _ _ _ _ us hl => match us, hl with | [_, _, _, _, _], _ => rfl
  have F25 := fun_mk (st := s_law_way) l25 c25 k25
  have b25 := F25.binds (ps := ["_law_well_here", "_law_givens_here", "_law_far", "_law_a"]) fun _ _ _ _ _ _ us hl => match us, hl with | [_, _, _, _], _ => rfl
  have F26 := fun_mk (st := s_law_grown) l26 c26 k26
  have b26 := F26.binds (ps := ["_law_well_here", "_law_givens_here", "_law_far"]) fun _ _ _ _ _ _ us hl => match us, hl with | [_, _, _], _ => rfl
  have F27 := fun_mk (st := s_law_givens) l27 c27 k27
  have b27 := F27.binds (ps := ["_law_well_here"]) fun _ _ _ _ _ _ us hl => match us, hl with | [_], _ => rfl
  have F28 := fun_mk (st := s_law_spots) l28 c28 k28
  have b28 := F28.binds (ps := ["_law_p"]) fun _ _ _ _ _ _ us hl => match us, hl with | [_], _ => rfl
  have F29 := fun_mk (st := s_law_assumed) l29 c29 k29
  have b29 := F29.binds (ps := ["_law_p", "_law_spot"]) fun _ _ _ _ _ _ us hl => match us, hl with | [_, _], _ => rfl
  have F30 := fun_mk (st := s_law_with) l30 c30 k30
  have b30 := F30.binds (ps := ["_law_p", "_law_spot", "_law_piece"]) fun _ _ _ _ _ _ us hl => match us, hl with | [_, _, _], _ => rfl
  have F31 := fun_mk (st := s_law_moved) l31 c31 k31
  have b31 := F31.binds (ps := ["_law_p", "_law_at", "_law_by"]) fun _ _ _ _ _ _ us hl => match us, hl with | [_, _, _], _ => rfl
  have F32 := fun_mk (st := s_law_put) l32 c32 k32
  have b32 := F32.binds (ps := ["_law_p", "_law_at", "_law_other", "_law_within"]) fun _ _ _ _ _ _ us hl => match us, hl with | [_, _, _, _], _ => rfl
  have F33 := fun_mk (st := s_law_borne) l33 c33 k33
  have b33 := F33.binds (ps := ["_law_p", "_law_d"]) fun _ _ _ _ _ _ us hl => match us, hl with | [_, _], _ => rfl
  have F34 := fun_mk (st := s_law_here) l34 c34 k34
  have b34 := F34.binds (ps := ["_law_n", "_law_p"]) fun _ _ _ _ _ _ us hl => match us, hl with | [_, _], _ => rfl
  have F35 := fun_mk (st := s_law_step) l35 c35 k35
  have b35 := F35.binds (ps := ["_law_n", "_law_p"]) fun _ _ _ _ _ _ us hl => match us, hl with | [_, _], _ => rfl
  have F36 := fun_mk (st := s_law_size) l36 c36 k36
  have b36 := F36.binds (ps := ["_law_p"]) fun _ _ _ _ _ _ us hl => match us, hl with | [_], _ => rfl
  have F37 := fun_mk (st := s_law_alike) l37 c37 k37
  have b37 := F37.binds (ps := ["_law_found", "_law_due"]) fun _ _ _ _ _ _ us hl => match us, hl with | [_, _], _ => rfl
  have F38 := fun_mk (st := s_law_wrapped) l38 c38 k38
  have b38 := F38.binds (ps := ["_law_well_here", "_law_n", "_law_p", "_law_a"]) fun _ _ _ _ _ _ us hl => match us, hl with | [_, _, _, _], _ => rfl
  have F39 := fun_mk (st := s_law_drawn) l39 c39 k39
  have b39 := F39.binds (ps := ["_law_well_here", "_law_givens_here"]) fun _ _ _ _ _ _ us hl => match us, hl with | [_, _], _ => rfl
  have F40 := fun_mk (st := s_law) l40 c40 k40
  have b40 := F40.binds (ps := ["_law_script"]) fun _ _ _ _ _ _ us hl => match us, hl with | [_], _ => rfl
  have T : Txt w K mg := {
    g_PAPERS := ⟨_, PySem.W.mg_of X G hPa0, fun wd => match wd with | .use => ⟨_, ⟨_, _, _, hPa1, hPa2, hPbuse, rfl⟩, kt_of hPcuse .nil (by show 0 ≤ sizeLine; decide)⟩ | .name => ⟨_, ⟨_, _, _, hPa1, hPa2, hPbname, rfl⟩, kt_of hPcname .nil (by show 0 ≤ sizeLine; decide)⟩ | .pair => ⟨_, ⟨_, _, _, hPa1, hPa2, hPbpair, rfl⟩, kt_of hPcpair (.cons ⟨_, rfl⟩ (.cons ⟨_, rfl⟩ .nil)) (by show 2 ≤ sizeLine; decide)⟩ | .first => ⟨_, ⟨_, _, _, hPa1, hPa2, hPbfirst, rfl⟩, kt_of hPcfirst (.cons ⟨_, rfl⟩ .nil) (by show 1 ≤ sizeLine; decide)⟩ | .second => ⟨_, ⟨_, _, _, hPa1, hPa2, hPbsecond, rfl⟩, kt_of hPcsecond (.cons ⟨_, rfl⟩ .nil) (by show 1 ≤ sizeLine; decide)⟩ | .left => ⟨_, ⟨_, _, _, hPa1, hPa2, hPbleft, rfl⟩, kt_of hPcleft (.cons ⟨_, rfl⟩ .nil) (by show 1 ≤ sizeLine; decide)⟩ | .right => ⟨_, ⟨_, _, _, hPa1, hPa2, hPbright, rfl⟩, kt_of hPcright (.cons ⟨_, rfl⟩ .nil) (by show 1 ≤ sizeLine; decide)⟩ | .case => ⟨_, ⟨_, _, _, hPa1, hPa2, hPbcase, rfl⟩, kt_of hPccase (.cons ⟨_, rfl⟩ (.cons ⟨_, rfl⟩ (.cons ⟨_, rfl⟩ .nil))) (by show 3 ≤ sizeLine; decide)⟩ | .make => ⟨_, ⟨_, _, _, hPa1, hPa2, hPbmake, rfl⟩, kt_of hPcmake (.cons ⟨_, rfl⟩ .nil) (by show 1 ≤ sizeLine; decide)⟩ | .apply => ⟨_, ⟨_, _, _, hPa1, hPa2, hPbapply, rfl⟩, kt_of hPcapply (.cons ⟨_, rfl⟩ (.cons ⟨_, rfl⟩ .nil)) (by show 2 ≤ sizeLine; decide)⟩ | .escape => ⟨_, ⟨_, _, _, hPa1, hPa2, hPbescape, rfl⟩, kt_of hPcescape (.cons ⟨_, rfl⟩ .nil) (by show 1 ≤ sizeLine; decide)⟩⟩,
    g_ASSUMES := ⟨_, PySem.W.mg_of X G hAs0, ⟨_, _, hAs1, hAs2⟩, ⟨_, ⟨_, _, _, hAs1, hAs2, hAs3, hAscaseb, rfl⟩, kt_of hAscasec (.cons ⟨_, rfl⟩ (.cons ⟨_, rfl⟩ .nil)) (by show 2 ≤ sizeLine; decide)⟩, ⟨_, ⟨_, _, _, hAs1, hAs2, hAs3, hAsmakeb, rfl⟩, kt_of hAsmakec (.cons ⟨_, rfl⟩ .nil) (by show 1 ≤ sizeLine; decide)⟩, fun wd h1 h2 => match wd, h1, h2 with | .case, h, _ => absurd rfl h | .make, _, h => absurd rfl h | .use, _, _ => ⟨_, _, _, hAs1, hAs2, hAs3, hAsuse, True.intro⟩ | .name, _, _ => ⟨_, _, _, hAs1, hAs2, hAs3, hAsname, True.intro⟩ | .pair, _, _ => ⟨_, _, _, hAs1, hAs2, hAs3, hAspair, True.intro⟩ | .first, _, _ => ⟨_, _, _, hAs1, hAs2, hAs3, hAsfirst, True.intro⟩ | .second, _, _ => ⟨_, _, _, hAs1, hAs2, hAs3, hAssecond, True.intro⟩ | .left, _, _ => ⟨_, _, _, hAs1, hAs2, hAs3, hAsleft, True.intro⟩ | .right, _, _ => ⟨_, _, _, hAs1, hAs2, hAs3, hAsright, True.intro⟩ | .apply, _, _ => ⟨_, _, _, hAs1, hAs2, hAs3, hAsapply, True.intro⟩ | .escape, _, _ => ⟨_, _, _, hAs1, hAs2, hAs3, hAsescape, True.intro⟩⟩,
    g_WITH := ⟨_, PySem.W.mg_of X G hWc0, kt_of hWc1 (.cons ⟨_, rfl⟩ (.cons ⟨_, rfl⟩ (.cons ⟨_, rfl⟩ (.cons ⟨_, rfl⟩ (.cons ⟨_, rfl⟩ .nil))))) (by show 5 ≤ sizeLine; decide)⟩,
    t_moved := ⟨_, _, hTmoved, cd_of X G hTmoved⟩,
    t_put_in := ⟨_, _, hTput_in, cd_of X G hTput_in⟩,
    t_moved_put_in := fun c PT c2 PT2 h1 h2 => by rw [hTmoved] at h1; rw [hTput_in] at h2; cases h1; cases h2; exact hNemovedput_in,
    n_all := PySem.W.mg_none_of X G z0,
    n_bool := PySem.W.mg_none_of X G z1,
    n_enumerate := PySem.W.mg_none_of X G z2,
    n_int := PySem.W.mg_none_of X G z3,
    n_isinstance := PySem.W.mg_none_of X G z4,
    n_len := PySem.W.mg_none_of X G z5,
    n_list := PySem.W.mg_none_of X G z6,
    n_max := PySem.W.mg_none_of X G z7,
    n_range := PySem.W.mg_none_of X G z8,
    n_repr := PySem.W.mg_none_of X G z9,
    n_reversed := PySem.W.mg_none_of X G z10,
    n_sorted := PySem.W.mg_none_of X G z11,
    n_str := PySem.W.mg_none_of X G z12,
    n_sum := PySem.W.mg_none_of X G z13,
    n_tuple := PySem.W.mg_none_of X G z14,
    n_zip := PySem.W.mg_none_of X G z15,
    d_levels := ⟨_, _, F0, PySem.W.mg_of X G a0, b0⟩,
    d_rebuilt := ⟨_, _, F1, PySem.W.mg_of X G a1, b1⟩,
    d_remade := ⟨_, _, F2, PySem.W.mg_of X G a2, b2⟩,
    d_moved := ⟨_, _, F3, PySem.W.mg_of X G a3, b3⟩,
    d_put_in := ⟨_, _, F4, PySem.W.mg_of X G a4, b4⟩,
    d_taken := ⟨_, _, F5, PySem.W.mg_of X G a5, b5⟩,
    d_shown := ⟨_, _, F6, PySem.W.mg_of X G a6, b6⟩,
    d_with_chief := ⟨_, _, F7, PySem.W.mg_of X G a7, b7⟩,
    d_lifted := ⟨_, _, F8, PySem.W.mg_of X G a8, b8⟩,
    d_stepped := ⟨_, _, F9, PySem.W.mg_of X G a9, b9⟩,
    d_with_at := ⟨_, _, F10, PySem.W.mg_of X G a10, b10⟩,
    d_step := ⟨_, _, kwId, F11, PySem.W.mg_of X G a11, b11, ⟨fun s us ws _ hl => by
      rcases us with _ | ⟨u, us⟩
      · rcases ws with _ | ⟨a2, _ | ⟨a1, _ | ⟨a0, _⟩⟩⟩
        all_goals first | (simp [kwId] at hl; done) | exact .of_eq rfl
      · simp [kwId] at hl, kwId_rel⟩⟩,
    d_law_cell_at := ⟨_, _, F12, PySem.W.mg_of X G a12, b12⟩,
    d_law_well := ⟨_, _, F13, PySem.W.mg_of X G a13, b13⟩,
    d_law_draw := ⟨_, _, F14, PySem.W.mg_of X G a14, b14⟩,
    d_law_plain := ⟨_, _, F15, PySem.W.mg_of X G a15, b15⟩,
    d_law_statement := ⟨_, _, F16, PySem.W.mg_of X G a16, b16⟩,
    d_law_joints := ⟨_, _, F17, PySem.W.mg_of X G a17, b17⟩,
    d_law_least := ⟨_, _, F18, PySem.W.mg_of X G a18, b18⟩,
    d_law_small := ⟨_, _, F19, PySem.W.mg_of X G a19, b19⟩,
    d_law_never := ⟨_, _, F20, PySem.W.mg_of X G a20, b20⟩,
    d_law_arms := ⟨_, _, F21, PySem.W.mg_of X G a21, b21⟩,
    d_law_straight := ⟨_, _, F22, PySem.W.mg_of X G a22, b22⟩,
    d_law_shaped := ⟨_, _, F23, PySem.W.mg_of X G a23, b23⟩,
    d_law_shaped_by := ⟨_, _, F24, PySem.W.mg_of X G a24, b24⟩,
    d_law_way := ⟨_, _, F25, PySem.W.mg_of X G a25, b25⟩,
    d_law_grown := ⟨_, _, F26, PySem.W.mg_of X G a26, b26⟩,
    d_law_givens := ⟨_, _, F27, PySem.W.mg_of X G a27, b27⟩,
    d_law_spots := ⟨_, _, F28, PySem.W.mg_of X G a28, b28⟩,
    d_law_assumed := ⟨_, _, F29, PySem.W.mg_of X G a29, b29⟩,
    d_law_with := ⟨_, _, F30, PySem.W.mg_of X G a30, b30⟩,
    d_law_moved := ⟨_, _, F31, PySem.W.mg_of X G a31, b31⟩,
    d_law_put := ⟨_, _, F32, PySem.W.mg_of X G a32, b32⟩,
    d_law_borne := ⟨_, _, F33, PySem.W.mg_of X G a33, b33⟩,
    d_law_here := ⟨_, _, F34, PySem.W.mg_of X G a34, b34⟩,
    d_law_step := ⟨_, _, F35, PySem.W.mg_of X G a35, b35⟩,
    d_law_size := ⟨_, _, F36, PySem.W.mg_of X G a36, b36⟩,
    d_law_alike := ⟨_, _, F37, PySem.W.mg_of X G a37, b37⟩,
    d_law_wrapped := ⟨_, _, F38, PySem.W.mg_of X G a38, b38⟩,
    d_law_drawn := ⟨_, _, F39, PySem.W.mg_of X G a39, b39⟩,
    d_law := ⟨_, _, F40, PySem.W.mg_of X G a40, b40⟩ }
  have e := hfa.symm.trans (PySem.W.mg_of X G a40)
  cases e
  refine ⟨PySem.W.fnOf "law" "law" (defArgs s_law) (defBody s_law) (defScope s_law) .none kV40 dc40 pm40 an40 cd40 ct40, [(cTmoved, PTmoved), (cTput_in, PTput_in)], sp_law K, (List.forall_mem_cons.mpr ⟨hOmoved, List.forall_mem_cons.mpr ⟨hOput_in, fun _ z => nomatch z⟩⟩), (List.forall_mem_cons.mpr ⟨hLmoved, List.forall_mem_cons.mpr ⟨hLput_in, fun _ z => nomatch z⟩⟩), (List.forall_mem_cons.mpr ⟨PySem.W.codeHd_of_K X hHmoved, List.forall_mem_cons.mpr ⟨PySem.W.codeHd_of_K X hHput_in, fun _ z => nomatch z⟩⟩), fun s v => .of_eq rfl, fun H a ns hl _ hT hS => ⟨a, ns, rfl, hS, hl, ⟨_, _, hTmoved, LamX.TabS.nil (hT (cTmoved, PTmoved) (by simp))⟩, ⟨_, _, hTput_in, LamX.TabS.nil (hT (cTput_in, PTput_in) (by simp))⟩, fun _ => rfl⟩, fun base _ _ hB => all_law T F40 base (fun c PT e => by have e2 := hTmoved.symm.trans e; cases e2; exact hB (cTmoved, PTmoved) (by simp)) (fun c PT e => by have e2 := hTput_in.symm.trans e; cases e2; exact hB (cTput_in, PTput_in) (by simp))⟩
end Ob
open PySem PySem.W PyProof.Rows
set_option maxRecDepth 100000 in
set_option maxHeartbeats 0 in
theorem PySem.Challenge.cw_onlybuilt_k36_which_step_holds : PySem.Challenge.rw_onlybuilt_k36_which_step.Holds := by
  w_on; o_law; k_head; (case hw => w_witness2)
  k_fill
  refine LamX.walk_ofTs (l := PySem.Challenge.rw_onlybuilt_k36_which_step) (n := 63) (k := 215) (x := "_law_script") (CX := fun _ => L2.CX0) rfl (by decide) rfl ⟨rfl, by decide, by decide⟩ (fun w h Y => PySem.W.km_in_of Y) ?F (fun _ _ _ _ _ h => h)
  case F =>
    intro w mg fa h Y KX G hmg
    refine' Ob.all_mk KX G hmg ?a0 ?l0 ?c0 ?k0 ?a1 ?l1 ?c1 ?k1 ?a2 ?l2 ?c2 ?k2 ?a3 ?l3 ?c3 ?k3 ?a4 ?l4 ?c4 ?k4 ?a5 ?l5 ?c5 ?k5 ?a6 ?l6 ?c6 ?k6 ?a7 ?l7 ?c7 ?k7 ?a8 ?l8 ?c8 ?k8 ?a9 ?l9 ?c9 ?k9 ?a10 ?l10 ?c10 ?k10 ?a11 ?l11 ?c11 ?k11 ?a12 ?l12 ?c12 ?k12 ?a13 ?l13 ?c13 ?k13 ?a14 ?l14 ?c14 ?k14 ?a15 ?l15 ?c15 ?k15 ?a16 ?l16 ?c16 ?k16 ?a17 ?l17 ?c17 ?k17 ?a18 ?l18 ?c18 ?k18 ?a19 ?l19 ?c19 ?k19 ?a20 ?l20 ?c20 ?k20 ?a21 ?l21 ?c21 ?k21 ?a22 ?l22 ?c22 ?k22 ?a23 ?l23 ?c23 ?k23 ?a24 ?l24 ?c24 ?k24 ?a25 ?l25 ?c25 ?k25 ?a26 ?l26 ?c26 ?k26 ?a27 ?l27 ?c27 ?k27 ?a28 ?l28 ?c28 ?k28 ?a29 ?l29 ?c29 ?k29 ?a30 ?l30 ?c30 ?k30 ?a31 ?l31 ?c31 ?k31 ?a32 ?l32 ?c32 ?k32 ?a33 ?l33 ?c33 ?k33 ?a34 ?l34 ?c34 ?k34 ?a35 ?l35 ?c35 ?k35 ?a36 ?l36 ?c36 ?k36 ?a37 ?l37 ?c37 ?k37 ?a38 ?l38 ?c38 ?k38 ?a39 ?l39 ?c39 ?k39 ?a40 ?l40 ?c40 ?k40 ?z0 ?z1 ?z2 ?z3 ?z4 ?z5 ?z6 ?z7 ?z8 ?z9 ?z10 ?z11 ?z12 ?z13 ?z14 ?z15 ?hPa0 ?hPa1 ?hPa2 ?hPbuse ?hPcuse ?hPbname ?hPcname ?hPbpair ?hPcpair ?hPbfirst ?hPcfirst ?hPbsecond ?hPcsecond ?hPbleft ?hPcleft ?hPbright ?hPcright ?hPbcase ?hPccase ?hPbmake ?hPcmake ?hPbapply ?hPcapply ?hPbescape ?hPcescape ?hAs0 ?hAs1 ?hAs2 ?hAs3 ?hAscaseb ?hAscasec ?hAsmakeb ?hAsmakec ?hAsuse ?hAsname ?hAspair ?hAsfirst ?hAssecond ?hAsleft ?hAsright ?hAsapply ?hAsescape ?hWc0 ?hWc1 ?hTmoved ?hLmoved ?hHmoved ?hOmoved ?hTput_in ?hLput_in ?hHput_in ?hOput_in ?hNemovedput_in
    (case a0 => k_is); (case l0 => k_is); (case c0 => k_is); (case k0 => k_is)
    (case a1 => k_is); (case l1 => k_is); (case c1 => k_is); (case k1 => k_is)
    (case a2 => k_is); (case l2 => k_is); (case c2 => k_is); (case k2 => k_is)
    (case a3 => k_is); (case l3 => k_is); (case c3 => k_is); (case k3 => k_is)
    (case a4 => k_is); (case l4 => k_is); (case c4 => k_is); (case k4 => k_is)
    (case a5 => k_is); (case l5 => k_is); (case c5 => k_is); (case k5 => k_is)
    (case a6 => k_is); (case l6 => k_is); (case c6 => k_is); (case k6 => k_is)
    (case a7 => k_is); (case l7 => k_is); (case c7 => k_is); (case k7 => k_is)
    (case a8 => k_is); (case l8 => k_is); (case c8 => k_is); (case k8 => k_is)
    (case a9 => k_is); (case l9 => k_is); (case c9 => k_is); (case k9 => k_is)
    (case a10 => k_is); (case l10 => k_is); (case c10 => k_is); (case k10 => k_is)
    (case a11 => k_is); (case l11 => k_is); (case c11 => k_is); (case k11 => k_is)
    (case a12 => k_is); (case l12 => k_is); (case c12 => k_is); (case k12 => k_is)
    (case a13 => k_is); (case l13 => k_is); (case c13 => k_is); (case k13 => k_is)
    (case a14 => k_is); (case l14 => k_is); (case c14 => k_is); (case k14 => k_is)
    (case a15 => k_is); (case l15 => k_is); (case c15 => k_is); (case k15 => k_is)
    (case a16 => k_is); (case l16 => k_is); (case c16 => k_is); (case k16 => k_is)
    (case a17 => k_is); (case l17 => k_is); (case c17 => k_is); (case k17 => k_is)
    (case a18 => k_is); (case l18 => k_is); (case c18 => k_is); (case k18 => k_is)
    (case a19 => k_is); (case l19 => k_is); (case c19 => k_is); (case k19 => k_is)
    (case a20 => k_is); (case l20 => k_is); (case c20 => k_is); (case k20 => k_is)
    (case a21 => k_is); (case l21 => k_is); (case c21 => k_is); (case k21 => k_is)
    (case a22 => k_is); (case l22 => k_is); (case c22 => k_is); (case k22 => k_is)
    (case a23 => k_is); (case l23 => k_is); (case c23 => k_is); (case k23 => k_is)
    (case a24 => k_is); (case l24 => k_is); (case c24 => k_is); (case k24 => k_is)
    (case a25 => k_is); (case l25 => k_is); (case c25 => k_is); (case k25 => k_is)
    (case a26 => k_is); (case l26 => k_is); (case c26 => k_is); (case k26 => k_is)
    (case a27 => k_is); (case l27 => k_is); (case c27 => k_is); (case k27 => k_is)
    (case a28 => k_is); (case l28 => k_is); (case c28 => k_is); (case k28 => k_is)
    (case a29 => k_is); (case l29 => k_is); (case c29 => k_is); (case k29 => k_is)
    (case a30 => k_is); (case l30 => k_is); (case c30 => k_is); (case k30 => k_is)
    (case a31 => k_is); (case l31 => k_is); (case c31 => k_is); (case k31 => k_is)
    (case a32 => k_is); (case l32 => k_is); (case c32 => k_is); (case k32 => k_is)
    (case a33 => k_is); (case l33 => k_is); (case c33 => k_is); (case k33 => k_is)
    (case a34 => k_is); (case l34 => k_is); (case c34 => k_is); (case k34 => k_is)
    (case a35 => k_is); (case l35 => k_is); (case c35 => k_is); (case k35 => k_is)
    (case a36 => k_is); (case l36 => k_is); (case c36 => k_is); (case k36 => k_is)
    (case a37 => k_is); (case l37 => k_is); (case c37 => k_is); (case k37 => k_is)
    (case a38 => k_is); (case l38 => k_is); (case c38 => k_is); (case k38 => k_is)
    (case a39 => k_is); (case l39 => k_is); (case c39 => k_is); (case k39 => k_is)
    (case a40 => k_is); (case l40 => k_is); (case c40 => k_is); (case k40 => k_is)
    (case z0 => k_is)
    (case z1 => k_is)
    (case z2 => k_is)
    (case z3 => k_is)
    (case z4 => k_is)
    (case z5 => k_is)
    (case z6 => k_is)
    (case z7 => k_is)
    (case z8 => k_is)
    (case z9 => k_is)
    (case z10 => k_is)
    (case z11 => k_is)
    (case z12 => k_is)
    (case z13 => k_is)
    (case z14 => k_is)
    (case z15 => k_is)
    (case hPa0 => k_is)
    (case hPa1 => k_is)
    (case hPa2 => k_keys)
    (case hPbuse => k_is)
    (case hPcuse => k_is)
    (case hPbname => k_is)
    (case hPcname => k_is)
    (case hPbpair => k_is)
    (case hPcpair => k_is)
    (case hPbfirst => k_is)
    (case hPcfirst => k_is)
    (case hPbsecond => k_is)
    (case hPcsecond => k_is)
    (case hPbleft => k_is)
    (case hPcleft => k_is)
    (case hPbright => k_is)
    (case hPcright => k_is)
    (case hPbcase => k_is)
    (case hPccase => k_is)
    (case hPbmake => k_is)
    (case hPcmake => k_is)
    (case hPbapply => k_is)
    (case hPcapply => k_is)
    (case hPbescape => k_is)
    (case hPcescape => k_is)
    (case hAs0 => k_is)
    (case hAs1 => k_is)
    (case hAs2 => k_keys)
    (case hAs3 => decide +kernel)
    (case hAscaseb => k_is)
    (case hAscasec => k_is)
    (case hAsmakeb => k_is)
    (case hAsmakec => k_is)
    (case hAsuse => k_is)
    (case hAsname => k_is)
    (case hAspair => k_is)
    (case hAsfirst => k_is)
    (case hAssecond => k_is)
    (case hAsleft => k_is)
    (case hAsright => k_is)
    (case hAsapply => k_is)
    (case hAsescape => k_is)
    (case hWc0 => k_is)
    (case hWc1 => k_is)
    (case hTmoved => rfl)
    (case hLmoved => rfl)
    (case hHmoved => kernel_rfl)
    (case hOmoved => exact PySem.W.km_tabs_of Y _ (by simp))
    (case hTput_in => rfl)
    (case hLput_in => rfl)
    (case hHput_in => kernel_rfl)
    (case hOput_in => exact PySem.W.km_tabs_of Y _ (by simp))
    (case hNemovedput_in => decide)
