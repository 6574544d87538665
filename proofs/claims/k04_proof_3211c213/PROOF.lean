import PyProof.Rows.All
import Wide.All
import OpenK.AllK
import Wide.FinOn
import HandS.ForMost
import HandS.ForExc
import HandS.ExcInit
import HandS.ExcField
import HandS.Evl
import HandS.IsInst
import HandS.Wide
import HandS.Flow
import HandS.Style
import HandS.More
import HandS.SetFor
import HandS.SortInts
import HandS.ListItems
import HandS.Conv
import HandS.Defaults
import HandS.Codes
import HandS.TupAny
import HandS.SortOrd
import HandS.CallSlots
import PySem.Challenge.RW_stubbornest_k04_whole_layers_windows_spr
import KE.DataMinMax
import HandS.SortRule
import HandS.Walk
/-! ## B0 -/
set_option Elab.async false
set_option linter.all false
set_option maxRecDepth 100000
set_option maxHeartbeats 4000000
namespace K04
open PySem L2 Evl
def top (i : Nat) : Stmt := PySem.Challenge.pw_stubbornest_k04_whole_layers_windows_spr.main.body.getD i (.Pass ⟨0, 0, 0, 0⟩)
/-- the names of Python's own that the text leaves alone -/
structure Txt (mg : Str → Option Value) : Prop where
  len : mg "len" = none
  range : mg "range" = none
  sum : mg "sum" = none
  max : mg "max" = none
  min : mg "min" = none
  isinstance : mg "isinstance" = none
  sorted : mg "sorted" = none
  tuple : mg "tuple" = none
  list : mg "list" = none
  int : mg "int" = none
  bool : mg "bool" = none
  str : mg "str" = none
  enumerate : mg "enumerate" = none
/-- a def of the text that keeps a promise -/
structure Dn (P : Program) (w : World) (K : PySem.W.Frag) (mg : Str → Option Value) (base : Heap) (CX : CXT) (k : Nat) (x : Str) (ps : List Str) (sp : Sp) where
  f : Addr
  fd : FuncData
  ok : FnOk P w K mg base CX k f fd ps sp
  g : mg x = some (.ref f)
  kp : PySem.W.keepIn K (.ref f) = true
  b : Binds K fd ps []
/-! ### the bag -/
structure BG (G H : Hp) (b w : Addr) (N : Nat) : Prop where
  ex : Ex G H
  gb : G b = none
  gw : G w = none
  ne : b ≠ w
  at_ : ∃ (s0 s1 : Int) (cs : List Int), H b = some (.lst [.int s0, .int s1, .ref w]) ∧ H w = some (.lst (cs.map V.int)) ∧ (0 ≤ s0 ∧ s0 < 2147483648) ∧ (0 ≤ s1 ∧ s1 ≤ N) ∧ cs.length ≤ 63
theorem BG.mono {G H : Hp} {b w : Addr} {N M : Nat} (h : BG G H b w N) (le : N ≤ M) : BG G H b w M := by
  obtain ⟨a, c, d, e, s0, s1, cs, h1, h2, h3, h4, h5⟩ := h
  exact ⟨a, c, d, e, s0, s1, cs, h1, h2, h3, ⟨h4.1, by omega⟩, h5⟩
/-- less is kept -/
theorem BG.less {G G0 H : Hp} {b w : Addr} {N : Nat} (h : BG G H b w N) (e : Ex G0 G) : BG G0 H b w N :=
  ⟨e.trans h.ex, fresh_back e h.gb, fresh_back e h.gw, h.ne, h.at_⟩
theorem BG.fresh {G H : Hp} {b w p : Addr} {N : Nat} (h : BG G H b w N) (hp : H p = none) : p ≠ b ∧ p ≠ w := by
  obtain ⟨_, _, _, _, s0, s1, cs, h1, h2, _⟩ := h
  exact ⟨fun z => (by rw [z, h1] at hp; cases hp), fun z => (by rw [z, h2] at hp; cases hp)⟩
/-- the heap grows by what is known to be kept -/
theorem BG.grow {G H H' : Hp} {b w : Addr} {N : Nat} (h : BG G H b w N) (e : Ex H H') : BG G H' b w N := by
  obtain ⟨a, c, d, n, s0, s1, cs, h1, h2, r⟩ := h
  exact ⟨a.trans e, c, d, n, s0, s1, cs, e _ _ h1, e _ _ h2, r⟩
/-- an object other than the bag's two is laid down, or changed where G does not know it -/
theorem BG.put {G H : Hp} {b w p : Addr} {o : HO} {N : Nat} (h : BG G H b w N) (hb : p ≠ b) (hw : p ≠ w) (hp : G p = none) : BG G (upd H p o) b w N := by
  obtain ⟨a, c, d, n, s0, s1, cs, h1, h2, r⟩ := h
  exact ⟨a.mut hp, c, d, n, s0, s1, cs, by rw [upd_ne hb.symm]; exact h1, by rw [upd_ne hw.symm]; exact h2, r⟩
/-- from now on the object at p is to be kept, too -/
theorem BG.hold {G H : Hp} {b w p : Addr} {o : HO} {N : Nat} (h : BG G H b w N) (hb : p ≠ b) (hw : p ≠ w) (hp : H p = some o) : BG (upd G p o) H b w N := by
  obtain ⟨a, c, d, n, r⟩ := h
  refine ⟨fun x u e => ?_, by rw [upd_ne hb.symm]; exact c, by rw [upd_ne hw.symm]; exact d, n, r⟩
  by_cases z : x = p
  · subst z; rw [upd_same] at e; cases e; exact hp
  · rw [upd_ne z] at e; exact a x u e
theorem ex_upd {G H : Hp} {p : Addr} {o : HO} (h : G p = none) (e : Ex (upd G p o) H) : Ex G H := (Ex.new h).trans e
end K04
/-! ## Evx -/
set_option Elab.async false
set_option linter.all false
set_option maxRecDepth 100000
set_option maxHeartbeats 4000000
namespace Evl
open PySem L2
section
variable {K : PySem.W.Frag} {σ : L2.St} {H H' : Hp} {ta tb te tx : TE} {t u : TT} {x y z v : V} {r : R2}
theorem et_yes : EvT tYes σ H true := fun H1 _ _ q => q H1 (Ex.refl H1)
theorem given_is {n : Nat} {ys : List V} (h : ys.length = n) (d : V) : given n (fun _ => true) (fun i => ys.getD i d) = ys := by
  unfold given
  have e : List.filter (fun _ => true) (List.range n) = List.range n := List.filter_eq_self.mpr (by simp)
  rw [e]
  apply List.ext_getElem?
  intro i
  rw [List.getElem?_map]
  by_cases c : i < n
  · rw [List.getElem?_range c]
    show some (ys.getD i d) = ys[i]?
    rw [List.getD_eq_getElem?_getD, List.getElem?_eq_getElem (by omega)]
    rfl
  · rw [List.getElem?_eq_none (by simp; omega), List.getElem?_eq_none (by omega)]
    rfl
theorem getD_of {ys : List V} {i : Nat} {y d : V} (h : ys[i]? = some y) : ys.getD i d = y := by
  rw [List.getD_eq_getElem?_getD, h]; rfl
theorem el_is {xs ys : List V} (h : EvL te σ H xs) (e : xs = ys) : EvL te σ H ys := e ▸ h
/-- [e for x in tuple], all of it -/
theorem el_lcT {a : Addr} {xs ys : List V} {tl : TE} {j : Nat} {vs : List Nat} (h : Ev tl σ H (.ref a)) (hx : SqT K H a xs) (hz : xs.length ≤ 40000) (hl : ys.length = xs.length) (hw : ∀ x, wipe ((wipe σ vs).set j (some x)) vs = wipe σ vs)
    (he : ∀ (i : Nat) (x : V) H1, Ex H H1 → xs[i]? = some x → ∃ y, ys[i]? = some y ∧ Ev te ((wipe σ vs).set j (some x)) H1 y) :
    EvL (tLc (iTup K tl) (gName j) tYes te vs) σ H ys := by
  rw [← given_is hl .non]
  exact fun H0 e Q q => h H0 e _ fun H1 e1 => ⟨a, rfl, ⟨xs, ex_t (e.trans e1) hx⟩, fun Dl hD =>
    lc_tup (xs := xs) (Cw H1 (fun _ => true) (fun i => ys.getD i .non) Dl) ⟨hD, Ex.new hD, upd_same⟩ (fun i H' _ p => ex_t ((e.trans e1).trans p.2.1) hx)
      (fun i x H' hi p => ⟨hw x, cw_turn p (by have := (List.getElem?_eq_some_iff.mp hi).1; omega) et_yes (fun hf => by
        obtain ⟨y, hy, ev⟩ := he i x H1 (e.trans e1) hi
        have e := getD_of (d := V.non) hy
        show Ev te _ H1 (ys.getD i .non)
        rw [e]
        exact ev)⟩)
      (fun H' p => q Dl H' (fresh_back e1 p.1) (e1.trans p.2.1) p.2.2)⟩
theorem el_lcLa {a : Addr} {xs ys : List V} {tl : TE} {j : Nat} {vs : List Nat} (h : Ev tl σ H (.ref a)) (hx : SqL K H a xs) (hz : xs.length ≤ 40000) (hl : ys.length = xs.length) (hw : ∀ x, wipe ((wipe σ vs).set j (some x)) vs = wipe σ vs)
    (he : ∀ (i : Nat) (x : V) H1, Ex H H1 → xs[i]? = some x → ∃ y, ys[i]? = some y ∧ Ev te ((wipe σ vs).set j (some x)) H1 y) :
    EvL (tLc (iList K tl) (gName j) tYes te vs) σ H ys := by
  rw [← given_is hl .non]
  refine el_lcL _ _ h hx hz hw (fun _ _ _ _ _ => et_yes) fun i x H1 e hi _ => ?_
  obtain ⟨y, hy, ev⟩ := he i x H1 e hi
  rw [getD_of hy]
  exact ev
theorem el_lcRa {ta : TA} {j : Nat} {vs : List Nat} {n : Int} {ys : List V} (h : EvA ta σ H [.int n]) (hn : 0 ≤ n ∧ n ≤ 40000) (hl : ys.length = n.toNat) (hw : ∀ x, wipe ((wipe σ vs).set j (some x)) vs = wipe σ vs)
    (he : ∀ (i : Nat) H1, Ex H H1 → (i : Int) < n → ∃ y, ys[i]? = some y ∧ Ev te ((wipe σ vs).set j (some (.int (i : Int)))) H1 y) :
    EvL (tLc (iRng1 ta) (gName j) tYes te vs) σ H ys := by
  rw [← given_is hl .non]
  refine el_lcR1 _ _ h hn hw (fun _ _ _ _ => et_yes) fun i H1 e hi _ => ?_
  obtain ⟨y, hy, ev⟩ := he i H1 e hi
  rw [getD_of hy]
  exact ev
theorem ev_sumN {ns : List Int} (ha : EvL ta σ H (ns.map V.int)) : Ev (tCB (rSum K) (tCons ta tNil)) σ H (.int ns.sum) := fun H1 e Q q =>
  ha H1 e _ fun p H2 _ e2 h2 => ⟨p, ns, rfl, sq_of h2, q H2 e2⟩
theorem ev_maxN {ns : List Int} {m : Int} (ha : EvL ta σ H (ns.map V.int)) (hm : m ∈ ns) (hle : ∀ y ∈ ns, y ≤ m) : Ev (tCB (rMax K) (tCons ta tNil)) σ H (.int m) := fun H1 e Q q =>
  ha H1 e _ fun p H2 _ e2 h2 => ⟨p, ns, rfl, sq_of h2, List.length_pos_of_mem hm, fun k hk hk2 => by
    have e1 : k = m := Int.le_antisymm (hle k hk) (hk2 m hm)
    rw [e1]
    exact q H2 e2⟩
/-- max(xs) of a standing list -/
theorem ev_maxL {a : Addr} {ns : List Int} {m : Int} (ha : Ev ta σ H (.ref a)) (hx : SqL K H a (ns.map V.int)) (hm : m ∈ ns) (hle : ∀ y ∈ ns, y ≤ m) : Ev (tCB (rMax K) (tCons ta tNil)) σ H (.int m) := fun H1 e Q q =>
  ha H1 e _ fun H2 e2 => ⟨a, ns, rfl, ex_l (e.trans e2) hx, List.length_pos_of_mem hm, fun k hk hk2 => by
    have e1 : k = m := Int.le_antisymm (hle k hk) (hk2 m hm)
    rw [e1]
    exact q H2 e2⟩
theorem ev_lenT {p : Addr} {xs : List V} (ha : Ev ta σ H (.ref p)) (h : SqT K H p xs) : Ev (tCB (rLenS K) (tCons ta tNil)) σ H (.int (xs.length : Int)) := fun H1 e Q q =>
  ha H1 e _ fun H2 e2 => ⟨p, xs, rfl, Or.inr (ex_t (e.trans e2) h), q H2 e2⟩
def rMin2 : List V → Hp → VK → Prop := fun xs H Q => ∃ i j, xs = [.int i, .int j] ∧ Q (.int (if j < i then j else i)) H
theorem ev_min2 {i j : Int} (ha : Ev ta σ H (.int i)) (hb : Ev tb σ H (.int j)) : Ev (tCB rMin2 (tCons ta (tCons tb tNil))) σ H (.int (min i j)) := fun H1 e Q q =>
  ha H1 e _ fun H2 e2 => hb H2 (e.trans e2) _ fun H3 e3 => ⟨i, j, rfl, by
    have z := q H3 (e2.trans e3)
    have w : (if j < i then j else i) = min i j := by omega
    rw [w]
    exact z⟩
theorem ev_max2' {i j : Int} (ha : Ev ta σ H (.int i)) (hb : Ev tb σ H (.int j)) : Ev (tCB rMax2 (tCons ta (tCons tb tNil))) σ H (.int (max i j)) := fun H1 e Q q =>
  ha H1 e _ fun H2 e2 => hb H2 (e.trans e2) _ fun H3 e3 => ⟨i, j, rfl, by
    have z := q H3 (e2.trans e3)
    have w : (if j > i then j else i) = max i j := by omega
    rw [w]
    exact z⟩
theorem ev_int1 {i : Int} (ha : Ev ta σ H (.int i)) : Ev (tCB (fun xs H Q => (∃ i, xs = [.int i] ∧ Q (.int i) H) ∨ ∃ k, xs = [.bl k] ∧ Q (.int (if k then 1 else 0)) H) (tCons ta tNil)) σ H (.int i) := fun H1 e Q q =>
  ha H1 e _ fun H2 e2 => .inl ⟨i, rfl, q H2 e2⟩
/-- tuple(list) -/
def rTupOf (K : PySem.W.Frag) : List V → Hp → VK → Prop := fun xs H Q => ∃ p ys, xs = [.ref p] ∧ ((SqL K H p ys ∧ ∀ l, H l = none → Q (.ref l) (upd H l (.tup ys))) ∨ (SqT K H p ys ∧ Q (.ref p) H))
theorem eu_tupleN {xs : List V} (ha : EvL ta σ H xs) : EvU (tCB (rTupOf K) (tCons ta tNil)) σ H xs := fun H1 e Q q =>
  ha H1 e _ fun p H2 hp e2 h2 => ⟨p, xs, rfl, .inl ⟨sq_of h2, fun l hl => q l _ (fresh_back e2 hl) (e2.trans (Ex.new hl)) upd_same⟩⟩
theorem eu_tupleL {a : Addr} {xs : List V} (ha : Ev ta σ H (.ref a)) (hx : SqL K H a xs) : EvU (tCB (rTupOf K) (tCons ta tNil)) σ H xs := fun H1 e Q q =>
  ha H1 e _ fun H2 e2 => ⟨a, xs, rfl, .inl ⟨ex_l (e.trans e2) hx, fun l hl => q l _ (fresh_back e2 hl) (e2.trans (Ex.new hl)) upd_same⟩⟩
/-- xs + ys of two lists, xs * k -/
theorem el_cat {xs ys : List V} (ha : EvL ta σ H xs) (hb : EvL tb σ H ys) (hz : xs.length + ys.length ≤ 100000) : EvL (tOp rCat ta tb) σ H (xs ++ ys) := fun H1 e Q k =>
  ha H1 e _ fun p H2 hp0 e2 hp => hb H2 (e.trans e2) _ fun q H3 _ e3 hq => ⟨p, q, xs, ys, rfl, rfl, e3 p _ hp, hq, sz_of hz, fun l hl => k l _ (fresh_back (e2.trans e3) hl) ((e2.trans e3).trans (Ex.new hl)) upd_same⟩
theorem el_catL {a : Addr} {xs ys : List V} (ha : Ev ta σ H (.ref a)) (hx : H a = some (.lst xs)) (hb : EvL tb σ H ys) (hz : xs.length + ys.length ≤ 100000) : EvL (tOp rCat ta tb) σ H (xs ++ ys) := fun H1 e Q k =>
  ha H1 e _ fun H2 e2 => hb H2 (e.trans e2) _ fun q H3 _ e3 hq => ⟨a, q, xs, ys, rfl, rfl, ((e.trans e2).trans e3) a _ hx, hq, sz_of hz, fun l hl => k l _ (fresh_back (e2.trans e3) hl) ((e2.trans e3).trans (Ex.new hl)) upd_same⟩
theorem ev_ixL {p : Addr} {xs : List V} {i : Int} (ha : Ev ta σ H (.ref p)) (hi : Ev tb σ H (.int i)) (h : SqL K H p xs) (he : atI xs i = some v) : Ev (tOp (rIxL K) ta tb) σ H v := ev_op ha hi (rv_ixL h he)
theorem ev_ixT {p : Addr} {xs : List V} {i : Int} (ha : Ev ta σ H (.ref p)) (hi : Ev tb σ H (.int i)) (h : SqT K H p xs) (he : atI xs i = some v) : Ev (tOp (rIxT K) ta tb) σ H v := ev_op ha hi (rv_ixT h he)
theorem rv_eqI {i j : Int} : RV rEq (.int i) (.int j) H (.bl (decide (i = j))) := fun H1 _ Q q => ⟨rfl, by
  have e : decide (V.int i = V.int j) = decide (i = j) := by
    by_cases c : i = j
    · subst c; simp
    · rw [decide_eq_false c, decide_eq_false fun z => c (V.int.inj z)]
  rw [e]
  exact q H1 (Ex.refl H1)⟩
theorem rv_neI {i j : Int} : RV rNe (.int i) (.int j) H (.bl (!decide (i = j))) := fun H1 _ Q q => ⟨rfl, by
  have e : decide (V.int i = V.int j) = decide (i = j) := by
    by_cases c : i = j
    · subst c; simp
    · rw [decide_eq_false c, decide_eq_false fun z => c (V.int.inj z)]
  rw [e]
  exact q H1 (Ex.refl H1)⟩
end

/-! ### rules with the written part told (within a comprehension the frame is another) -/
section
variable {X : Cx} (K : PySem.W.Frag)
theorem cLen (h : X.K = K := by rfl) : CallR X (.builtin "len") (rLenS K) := h ▸ call_len_seq
theorem cSum (h : X.K = K := by rfl) (hc : X.calm = true := by rfl) : CallR X (.builtin "sum") (rSum K) := h ▸ cr_sum hc
theorem cMax (h : X.K = K := by rfl) (hc : X.calm = true := by rfl) : CallR X (.builtin "max") (rMax K) := h ▸ cr_max hc
theorem cMin (h : X.K = K := by rfl) (hc : X.calm = true := by rfl) : CallR X (.builtin "min") (rMin K) := h ▸ cr_min hc
theorem iL (h : X.K = K := by rfl) : IxR X (rIxL K) := h ▸ ix_list
theorem iT (h : X.K = K := by rfl) : IxR X (rIxT K) := h ▸ ix_tup
theorem cTup (h : X.K = K := by rfl) : CallR X (.type "tuple") (rTupOf K) := h ▸ call_tuple_of
theorem cList (h : X.K = K := by rfl) : CallR X (.type "list") (rListS K) := h ▸ call_list_of
theorem slL (h : X.K = K := by rfl) : SlR X (rSlL K) := h ▸ sl_list
theorem slT (h : X.K = K := by rfl) : SlR X (rSlA K) := h ▸ sl_tupA
theorem mCount (h : X.K = K := by rfl) : MtR X "list.count" (rCntI K) := h ▸ mt_lcount
theorem cIsi (h : X.K = K := by rfl) : CallR X (.builtin "isinstance") (rIsi K) := h ▸ call_isi
theorem cMax2 (hc : X.calm = true := by rfl) : CallR X (.builtin "max") rMax2 := call_max2 hc
theorem cMin2 (hc : X.calm = true := by rfl) : CallR X (.builtin "min") rMin2 := call_min2 hc
end
section
open PySem.Spec PyProof.Rows
variable {X : Cx} {T id : String} {name : Str} {r : V → List V → Hp → VK → Prop} {o e : Expr} {es : List Expr} {to : TE} {t : TA} {apos cpos : Pos}
/-- a built-in method, the written part told -/
theorem pe_bmK (K : PySem.W.Frag) (pa : PlainAttrs T) (slot : Slot T name id) (hty : typeOf (.builtin id) = pure (.type "method_descriptor")) (hm : MtR X id r) (ho : PE X o to) (ha : PA X (e :: es) t)
    (hK : X.K = K := by rfl) (hbase : attributeBase o name X.env (eval o X.env) = eval o X.env := by rfl)
    (hfew : ((backTo cpos (starEach (e :: es) X.env)).all (fun x => !x.1) && (backToKw cpos (keywordEach [] X.env)).all (fun x => x.1.isSome)
      && decide ((e :: es).length + ([] : List Keyword).length + (if ([] : List Keyword).isEmpty then 0 else 1) < 30)) = true := by rfl)
    (hline : (apos.endLine == cpos.line) = true := by rfl) (hs : starEach (e :: es) X.env = (false, eval e X.env) :: starEach es X.env := by rfl) (hplain : (backTo cpos (starEach es X.env)).any (·.1) = false := by rfl) :
    PE X (.Call (.Attribute o name apos) (e :: es) [] cpos) (tBM K T r to t) := hK ▸ pe_bm pa slot hty hm ho ha hbase hfew hline hs hplain
end
end Evl
/-! ## SumT -/
set_option Elab.async false
set_option linter.all false
set_option maxRecDepth 100000
set_option maxHeartbeats 4000000
namespace Evl
open PySem PySem.Spec PyProof.Rows L2
section
variable {prog : Program} {w : World} {A : Around} {E : Value → Shared → Prop} {s : Shared} {l : Addr} {its : List Value} {ns : List Int} {Q : Value → Shared → Prop}
/-- sum of a tuple of ints -/
theorem sum_rawT (hh : A.handled = none) (hl : IsTup s.heap l its.toArray) (hi : IntsAre its ns)
    (h : ∀ h' tk t', (∀ b o, s.heap.get? b = some o → h'.get? b = some o) → Q (.int ns.sum t') { s with heap := h', toks := tk }) : wpAny (model prog w) A (call (.builtin "sum") [.ref l]) Q E s := by
  obtain ⟨xs, e⟩ := hi.allInts.items
  have hn : numsOf (intItems xs).toList = ns := by rw [← e]; exact hi.numsOf
  rw [nums_intItems] at hn
  rw [e] at hl
  have hlt : l < s.heap.objs.size := hl.lt
  refine call_sum_walkG (wpAny_pyIter_tuple hl ⟨_, _, _, _, _, _, numAt xs, rfl, Walks.tuple (A := A.in1) hh _ l (Nat.ne_of_lt hlt) (intItems xs), ⟨⟨_, Heap.get?_push_size _ rfl, rfl, rfl⟩, hl.push _⟩, fun b hb => ?_, (fun _ _ => intItems_at), fun h' tk t' hk => ?_⟩)
  · show b < (s.heap.push _).objs.size
    rw [Heap.size_push]
    rcases List.mem_cons.mp hb with rfl | hb
    · exact Nat.lt_succ_self _
    · rcases List.mem_cons.mp hb with rfl | hb
      · exact Nat.lt_succ_of_lt hlt
      · cases hb
  · have old : ∀ b o, s.heap.get? b = some o → h'.get? b = some o := fun b o eb => hk b o (fun hm => by
      have := List.mem_singleton.mp hm
      subst this
      exact absurd (Heap.lt_size eb) (Nat.lt_irrefl _)) (Heap.get?_push_of_some _ eb)
    have := h h' tk t' old
    have e2 : preSum (numAt xs) (intItems xs).size = ns.sum := by
      rw [show (intItems xs).size = xs.size by simp [intItems], preSum_eq, List.take_of_length_le (by simp), hn]
    rw [e2]
    exact this
end
def rSumT (K : PySem.W.Frag) : List V → Hp → VK → Prop := fun vs H Q => ∃ (a : Addr) (ns : List Int), vs = [V.ref a] ∧ SqT K H a (ns.map V.int) ∧ Q (.int ns.sum) H
section
variable {X : Cx}
theorem cr_sumT (hc : X.calm = true) : CallR X (.builtin "sum") (rSumT X.K) := by
  intro pins s σ H vs us Q I r h
  obtain ⟨a, ns, rfl, hs, q⟩ := h
  obtain ⟨its, rv, hl, _⟩ := I.tuple hs
  rw [Vals.ref1 r]
  exact sum_rawT (I.ok.hd hc) hl rv.ints fun h' tk t' hk => ⟨.int _, H, I.kept hk, ⟨_, rfl⟩, q⟩
theorem cSumT (K : PySem.W.Frag) (h : X.K = K := by rfl) (hc : X.calm = true := by rfl) : CallR X (.builtin "sum") (rSumT K) := h ▸ cr_sumT hc
end
section
variable {K : PySem.W.Frag} {σ : L2.St} {H H' : Hp} {ta tb te tx : TE} {t u : TT} {x y z v : V} {r : R2}
/-- te gives a tuple of xs, new or standing -/
def EvT' (te : TE) (σ : L2.St) (H : Hp) (xs : List V) : Prop := ∀ H1, Ex H H1 → ∀ Q : VK, (∀ p H2, Ex H1 H2 → H2 p = some (.tup xs) → Q (.ref p) H2) → te σ H1 Q
theorem EvU.weak {xs : List V} (h : EvU te σ H xs) : EvT' te σ H xs := fun H1 e Q q => h H1 e Q fun p H2 _ e2 h2 => q p H2 e2 h2
theorem ev_sumT {ns : List Int} (ha : EvT' ta σ H (ns.map V.int)) : Ev (tCB (rSumT K) (tCons ta tNil)) σ H (.int ns.sum) := fun H1 e Q q =>
  ha H1 e _ fun p H2 e2 h2 => ⟨p, ns, rfl, st_of h2, q H2 e2⟩
/-- t[lo:hi] of a tuple -/
theorem et_slT {xs : List V} {tl th : TO} {lo hi : Option Int} (h : EvT' te σ H xs) (h1 : EvO tl σ H lo) (h2 : EvO th σ H hi) : EvT' (tSl (rSlA K) te tl th) σ H (cutV xs lo hi) := fun H1 e Q q =>
  h H1 e _ fun p H2 e2 hp => h1 H2 (e.trans e2) _ fun H3 e3 => h2 H3 ((e.trans e2).trans e3) _ fun H4 e4 => by
    have hp4 : H4 p = some (.tup xs) := e4 _ _ (e3 _ _ hp)
    refine ⟨p, xs, rfl, st_of hp4, fun hw => ?_, fun _ l hl => q l _ (((e2.trans e3).trans e4).trans (Ex.new hl)) upd_same⟩
    have ec : cutV xs lo hi = xs := by
      unfold cutV
      rw [hw.1, hw.2]
      simp
    exact q p H4 ((e2.trans e3).trans e4) (by rw [ec]; exact hp4)
theorem et_var {i : Nat} {a : Addr} {xs : List V} (h : σ[i]? = some (some (.ref a))) (hx : H a = some (.tup xs)) : EvT' (tVar i) σ H xs := fun H1 e Q q => ⟨_, h, q a H1 (Ex.refl H1) (e _ _ hx)⟩
end
end Evl
/-! ## SortTI -/
set_option Elab.async false
set_option linter.all false
set_option maxRecDepth 100000
set_option maxHeartbeats 4000000
/-! sorted(xs), xs a list of nonempty tuples of ints of any lengths. -/
namespace SrtTI
open PySem PyProof.Rows Srt SrtO
theorem lexLt_asym : ∀ x y : List Int, HT.lexLt x y = true → HT.lexLt y x = false
  | [], [], h => by cases h
  | [], _ :: _, _ => rfl
  | _ :: _, [], h => by cases h
  | a :: x, b :: y, h => by
    rw [HT.lexLt_cons] at h ⊢
    by_cases e : a = b
    · rw [if_pos e] at h
      rw [if_pos e.symm]
      exact lexLt_asym x y h
    · rw [if_neg e] at h
      rw [if_neg fun z => e z.symm]
      have := of_decide_eq_true h
      exact decide_eq_false (by omega)
theorem lexLt_tr : ∀ x y z : List Int, HT.lexLt y x = false → HT.lexLt z y = false → HT.lexLt z x = false
  | [], [], _, _, h => h
  | [], b :: y, [], h1, h2 => by cases h2
  | [], b :: y, c :: z, _, _ => rfl
  | a :: x, [], _, h1, _ => by cases h1
  | a :: x, b :: y, [], _, h2 => by cases h2
  | a :: x, b :: y, c :: z, h1, h2 => by
    rw [HT.lexLt_cons] at h1 h2 ⊢
    by_cases e1 : b = a
    · by_cases e2 : c = b
      · rw [if_pos e1] at h1
        rw [if_pos e2] at h2
        rw [if_pos (e2.trans e1)]
        exact lexLt_tr x y z h1 h2
      · rw [if_neg e2] at h2
        have := of_decide_eq_false h2
        rw [if_neg (by omega)]
        exact decide_eq_false (by omega)
    · rw [if_neg e1] at h1
      have h3 := of_decide_eq_false h1
      by_cases e2 : c = b
      · rw [if_neg (by omega)]
        exact decide_eq_false (by omega)
      · rw [if_neg e2] at h2
        have := of_decide_eq_false h2
        rw [if_neg (by omega)]
        exact decide_eq_false (by omega)
theorem swo_ti (k : Value → List Int) : Swo fun v u => HT.lexLt (k v) (k u) := ⟨fun x y h => lexLt_asym _ _ h, fun x y z h1 h2 => lexLt_tr _ _ _ h1 h2⟩
def lexZ : List Int → List Int → Bool → Bool
  | x :: xs, y :: ys, f => if x = y then lexZ xs ys f else decide (x < y)
  | _, _, f => f
theorem lexZ_is : ∀ x y : List Int, lexZ x y (decide (x.length < y.length)) = HT.lexLt x y
  | [], [] => by simp [lexZ, HT.lexLt]
  | [], _ :: _ => by simp [lexZ, HT.lexLt]
  | _ :: _, [] => by simp [lexZ, HT.lexLt]
  | a :: x, b :: y => by
    rw [HT.lexLt_cons]
    show (if a = b then lexZ x y _ else decide (a < b)) = _
    rw [← lexZ_is x y]
    simp only [List.length_cons, Nat.add_lt_add_iff_right]
/-- v is a nonempty tuple of the ints ns -/
def IsTI (h : Heap) (v : Value) (ns : List Int) : Prop := ∃ (a : Addr) (o : Obj) (its : List Value) (n : Nat), v = .ref a ∧ h.get? a = some o ∧ o.cls = .type "tuple" ∧ o.data = .seq its.toArray n ∧ IntsAre its ns ∧ ns ≠ []
theorem IsTI.keeps {h h' : Heap} {v : Value} {ns : List Int} (p : IsTI h v ns) (k : ∀ b o, h.get? b = some o → o.cls = .type "tuple" → h'.get? b = some o) : IsTI h' v ns := by
  obtain ⟨a, o, its, n, e, ho, hc, r⟩ := p
  exact ⟨a, o, its, n, e, k _ _ ho hc, hc, r⟩
section
variable {prog : Program} {w : World} {A : Around} {E : Value → Shared → Prop} {s : Shared}
theorem lex_walk (fin : Bool) {Q : Bool → Shared → Prop} : ∀ (its its' : List Value) (ns ms : List Int) (i : Nat), IntsAre its ns → IntsAre its' ms → Q (lexZ ns ms fin) s → PySem.W.KatLex prog w A true fin Q (its.zip its') i s
  | _, _, [], _, i, .nil, _, q => by
    refine PySem.W.kat_nil ?_
    unfold lexZ at q
    exact q
  | _, _, _ :: _, [], i, .cons _ _ _, .nil, q => by
    refine PySem.W.kat_nil ?_
    unfold lexZ at q
    exact q
  | _, _, x :: ns, y :: ms, i, .cons _ t t1, .cons _ u t2, q => by
    refine PySem.W.kat_cons (SeqAt.EqAt.int_int x t y u prog w _ _ ?_)
    refine PySem.W.kat_go (fun e1 => ?_) (fun e1 => ?_)
    · have ex : x = y := by simpa using e1
      refine PySem.W.kat_yes (lex_walk fin _ _ ns ms (i + 1) t1 t2 ?_)
      have e3 : lexZ (x :: ns) (y :: ms) fin = lexZ ns ms fin := if_pos ex
      rw [e3] at q
      exact q
    · have ex : ¬ x = y := by simpa using e1
      refine PySem.W.kat_no (TS.oneLt_ints _ ?_)
      have e3 : lexZ (x :: ns) (y :: ms) fin = decide (x < y) := if_neg ex
      rw [e3] at q
      exact q
theorem ti_cmp {vs : List Value} {k : Value → List Int} (hp : ∀ v ∈ vs, IsTI s.heap v (k v)) : SrtO.Cmp prog w A s (tuples' true) (fun p => p.1 ∈ vs) (lt2 fun v u => HT.lexLt (k v) (k u)) := by
  intro p q hm hm'
  obtain ⟨a, o, its, n, e, ho, hc, hd, hi, hne⟩ := hp _ hm
  obtain ⟨a', o', its', n', e', ho', hc', hd', hi', hne'⟩ := hp _ hm'
  show wpAny (model prog w) A (keyLt' (tuples' true) p.1 q.1) (fun r s' => s' = s ∧ r = HT.lexLt (k p.1) (k q.1)) (fun _ _ => False) s
  rw [e, e']
  refine PySem.W.kat_lt ho hd ho' hd' ?_
  refine lex_walk _ its its' (k p.1) (k q.1) 0 hi hi' ?_
  refine ⟨rfl, ?_⟩
  rw [← e, ← e', ← lexZ_is]
  have l1 : its.toArray.size = (k p.1).length := by rw [List.size_toArray]; exact hi.length
  have l2 : its'.toArray.size = (k q.1).length := by rw [List.size_toArray]; exact hi'.length
  rw [l1, l2]
theorem ti_firsts {h : Heap} {k : Value → List Int} : ∀ {vs : List Value}, (∀ v ∈ vs, IsTI h v (k v)) → ∃ fs : List Value, PySem.W.KatTups h vs fs ∧ fs.length = vs.length ∧ ∀ f ∈ fs, ∃ x t, f = Value.int x t
  | [], _ => ⟨[], PySem.W.KatTups.nil, rfl, fun _ hm => by simp at hm⟩
  | v :: vs, hp => by
    obtain ⟨fs, h1, h2, h3⟩ := ti_firsts (vs := vs) fun v' hm => hp v' (List.mem_cons_of_mem _ hm)
    obtain ⟨a, o, its, n, e, ho, hc, hd, hi, hne⟩ := hp v (List.mem_cons_self ..)
    generalize k v = ns at hi hne
    subst e
    cases hi with
    | nil => exact absurd rfl hne
    | cons x tk t =>
      refine ⟨_ :: fs, PySem.W.KatTups.cons ho hc hd rfl h1, by rw [List.length_cons, List.length_cons, h2], fun f hm => ?_⟩
      rcases List.mem_cons.mp hm with rfl | hm
      · exact ⟨_, _, rfl⟩
      · exact h3 f hm
theorem ti_sortable {a : Addr} {vs : List Value} {k : Value → List Int} (h0 : 0 < vs.length) (hp : ∀ v ∈ vs, IsTI s.heap v (k v)) (ha : ∀ o, s.heap.get? a = some o → o.cls ≠ .type "tuple") : SortableO prog w A s a vs fun v u => HT.lexLt (k v) (k u) := by
  intro h' keep
  have hp' : ∀ v ∈ vs, IsTI h' v (k v) := fun v hm => (hp v hm).keeps fun b o e c => keep b o (fun z => by subst z; exact ha o e c) e
  obtain ⟨fs, h1, h2, h3⟩ := ti_firsts hp'
  refine ⟨tuples' true, fun Q E hq => ?_, ti_cmp hp'⟩
  refine PySem.W.kat_kind (T := .type "int") h1 (by omega) (fun f hm => ?_) (by rfl) ?_
  · obtain ⟨x, t, rfl⟩ := h3 f hm
    exact PySem.W.Looks.now
  · have e : (Value.type "int" != Value.type "tuple") = true := by first | decide +kernel | rfl | decide
    rw [e]
    exact hq
theorem sorted_ti {l : Addr} {vs : List Value} {k : Value → List Int} {Q : Value → Shared → Prop} (hl : s.heap.IsList l vs.toArray) (hz : vs.length ≤ sizeLine) (hp : ∀ v ∈ vs, IsTI s.heap v (k v))
    (h : ∀ (h' : Heap) (d : Addr) (out : List Value), Srtd (fun v u => HT.lexLt (k v) (k u)) out → Stb (fun v u => HT.lexLt (k v) (k u)) out vs → (∀ b o, s.heap.get? b = some o → h'.get? b = some o) → s.heap.objs.size ≤ d → (∃ n, h'.get? d = some (seqObj "list" out.toArray n)) → Q (.ref d) { s with heap := h' }) :
    wpAny (model prog w) A (call (.builtin "sorted") [.ref l]) Q E s := by
  refine sorted_ord (swo_ti k) hl hz (fun h2 h₁ a ha kk => ?_) fun out hs hb => ?_
  · refine ti_sortable (s := { s with heap := h₁ }) (by omega) (fun v hm => (hp v hm).keeps fun b o e _ => (kk b o e).2) fun o e => ?_
    have e' : some o = some (seqObj "list" vs.toArray 0) := e.symm.trans ha
    cases e'
    intro c
    exact absurd (Value.type.inj c) (by decide)
  · exact h _ _ out hs hb (fun b o e => sortedAll_old e) (Nat.le_succ _) (sortedAll_at s.heap vs out.toArray)
end
end SrtTI
namespace Evl
open PySem PySem.Spec PyProof.Rows L2
abbrev ltTI (k : V → List Int) (x y : V) : Bool := HT.lexLt (k x) (k y)
theorem ltTI_swo (k : V → List Int) : SrtO.Swo (ltTI k) := ⟨fun x y h => SrtTI.lexLt_asym _ _ h, fun x y z h1 h2 => SrtTI.lexLt_tr _ _ _ h1 h2⟩
/-- sorted(xs), xs a list of nonempty tuples of ints (k says which) -/
def rSortedTI (K : PySem.W.Frag) : List V → Hp → VK → Prop := fun vs H Q => ∃ (a : Addr) (xs : List V) (k : V → List Int), vs = [V.ref a] ∧ SqL K H a xs ∧ (∀ x ∈ xs, ∃ t, x = V.ref t ∧ H t = some (.tup ((k x).map V.int)) ∧ k x ≠ []) ∧
  ∀ ys p, SrtO.Srtd (ltTI k) ys → SrtO.Stb (ltTI k) ys xs → H p = none → Q (.ref p) (upd H p (.lst ys))
section
variable {X : Cx}
theorem cr_sortedTI : CallR X (.builtin "sorted") (rSortedTI X.K) := by
  intro pins s σ H vs us Q I r h
  obtain ⟨a, xs, k, rfl, hs, hx, q⟩ := h
  obtain ⟨its, rv, hl, hz⟩ := I.list hs
  obtain ⟨u, rfl, ru⟩ := vals1 r
  obtain rfl : u = Value.ref a := ru
  obtain ⟨e1, e2⟩ := refs_back rv fun x m => by
    obtain ⟨t, e, _⟩ := hx x m
    exact ⟨t, e⟩
  refine SrtTI.sorted_ti (k := fun u => k (backV u)) hl.isList (by rw [← rv.length]; exact hz) (fun v hv => ?_) fun h' d out h1 h2 kp hd hn => ?_
  · obtain ⟨t, rfl⟩ := e2 v hv
    have hm : V.ref t ∈ xs := by rw [e1]; exact List.mem_map.mpr ⟨_, hv, rfl⟩
    obtain ⟨t', e, ht, hne⟩ := hx _ hm
    cases e
    obtain ⟨_, its2, r2, o, ho, hc, n, hd⟩ := I.hok _ _ ht
    exact ⟨t, o, its2, n, rfl, ho, hc, hd, r2.ints, hne⟩
  · have h3 : ∀ u ∈ out, ∃ a, u = Value.ref a := fun u hu => e2 u (h2.perm.mem_iff.mp hu)
    obtain ⟨n, hn⟩ := hn
    have hb : SrtO.Stb (ltTI k) (out.map backV) xs := by
      rw [e1]
      exact SrtO.Stb.map (ltTI_swo k) backV h2
    refine ⟨.ref d, upd H d (.lst (out.map backV)), I.laid (t' := s.toks) kp hd ⟨?_, out, n, vals_back h3, hn⟩, rfl, q _ d (SrtO.srtd_map h1) hb (I.hok.fresh hd)⟩
    rw [hb.len]
    exact Nat.le_trans (Nat.le_of_eq rv.length) (by rw [← rv.length]; exact hz)
theorem cSortedTI (K : PySem.W.Frag) (h : X.K = K := by rfl) : CallR X (.builtin "sorted") (rSortedTI K) := h ▸ cr_sortedTI
end
end Evl
/-! ## M1 -/
set_option autoImplicit false
namespace K04
/-! ### sums -/
def win (z : Nat) (f : Int → Int) (r : Int) : Int := ((List.range z).map fun (j : Nat) => f (r - (j : Int))).sum
theorem win_zero (f : Int → Int) (r : Int) : win 0 f r = 0 := rfl
theorem win_succ (z : Nat) (f : Int → Int) (r : Int) : win (z + 1) f r = win z f r + f (r - (z : Int)) := by
  unfold win
  rw [List.range_succ, List.map_append, List.sum_append]
  simp
/-- the other end -/
theorem win_step (z : Nat) (f : Int → Int) (r : Int) : win z f r = win z f (r - 1) + f r - f (r - (z : Int)) := by
  induction z with
  | zero => simp [win_zero]
  | succ z ih =>
    rw [win_succ, win_succ, ih]
    have e : r - 1 - (z : Int) = r - ((z + 1 : Nat) : Int) := by omega
    rw [e]
    omega
structure U (f : Int → Int) (h : Int) : Prop where
  mono : ∀ a b : Int, (2 * a - h).natAbs ≤ (2 * b - h).natAbs → f b ≤ f a
  zero : ∀ r : Int, r < 0 → f r = 0
theorem U.sym {f : Int → Int} {h : Int} (u : U f h) (r : Int) : f (h - r) = f r := by
  have h1 := u.mono (h - r) r (by omega)
  have h2 := u.mono r (h - r) (by omega)
  omega
theorem U.far {f : Int → Int} {h : Int} (u : U f h) (r : Int) (hr : h < r) : f r = 0 := by
  have := u.sym r
  rw [← this]
  exact u.zero _ (by omega)
theorem U.nonneg {f : Int → Int} {h : Int} (u : U f h) (r : Int) : 0 ≤ f r := by
  have h1 := u.mono r (-1 - (2 * r - h).natAbs - h.natAbs) (by omega)
  rw [u.zero _ (by omega)] at h1
  exact h1
/-- from steps and symmetry -/
theorem U.of {f : Int → Int} {h : Int} (hs : ∀ r, f (h - r) = f r) (hm : ∀ r, 2 * r ≤ h + 1 → f (r - 1) ≤ f r) (hz : ∀ r, r < 0 → f r = 0) : U f h := by
  have left : ∀ (n : Nat) (a : Int), 2 * a ≤ h + 1 → f (a - (n : Int)) ≤ f a := by
    intro n
    induction n with
    | zero => intro a _; simp
    | succ n ih =>
      intro a ha
      have h1 := ih a ha
      have h2 := hm (a - (n : Int)) (by omega)
      have e : a - ((n + 1 : Nat) : Int) = a - (n : Int) - 1 := by omega
      rw [e]
      omega
  have left2 : ∀ a b : Int, 2 * a ≤ h + 1 → b ≤ a → f b ≤ f a := by
    intro a b ha hb
    have := left (a - b).toNat a ha
    have e : a - ((a - b).toNat : Int) = b := by omega
    rw [e] at this
    exact this
  refine ⟨fun a b hab => ?_, hz⟩
  have fold : ∀ x : Int, ∃ y : Int, f y = f x ∧ 2 * y ≤ h ∧ ((2 * x - h).natAbs : Int) = h - 2 * y := by
    intro x
    by_cases c : 2 * x ≤ h
    · exact ⟨x, rfl, c, by omega⟩
    · exact ⟨h - x, hs x, by omega, by omega⟩
  obtain ⟨a', ea, la, da⟩ := fold a
  obtain ⟨b', eb, lb, db⟩ := fold b
  rw [← ea, ← eb]
  exact left2 a' b' (by omega) (by omega)
/-! ### one chart: the chains' sizes -/
def st (Z z : Nat) : Int := ((Z : Int) - (z : Int)) / 2
def cv (Z : Nat) (lens : List Nat) (f : Int → Int) : Int → Int := fun r => (lens.map fun z => win z f (r - st Z z)).sum
structure Lens (Z : Nat) (lens : List Nat) : Prop where
  mem : Z ∈ lens
  pos : ∀ z ∈ lens, 1 ≤ z
  le : ∀ z ∈ lens, z ≤ Z
  par : ∀ z ∈ lens, (Z - z) % 2 = 0
theorem win_sym {f : Int → Int} {h : Int} (hf : ∀ r, f (h - r) = f r) (z : Nat) : ∀ r : Int, win z f (h + (z : Int) - 1 - r) = win z f r := by
  induction z with
  | zero => intro r; simp [win_zero]
  | succ z ih =>
    intro r
    rw [win_step, win_succ z f r]
    have e1 : h + ((z + 1 : Nat) : Int) - 1 - r - 1 = h + (z : Int) - 1 - r := by omega
    rw [e1, win_succ, ih r]
    have e2 : h + ((z + 1 : Nat) : Int) - 1 - r - ((z + 1 : Nat) : Int) = h - 1 - r := by omega
    have e3 : h + (z : Int) - 1 - r - (z : Int) = h - 1 - r := by omega
    have e4 : h + ((z + 1 : Nat) : Int) - 1 - r = h - (r - (z : Int)) := by omega
    rw [e2, e3, e4, hf]
    omega
theorem win_U {f : Int → Int} {h : Int} (u : U f h) {Z z : Nat} (hz : z ≤ Z) (hp : (Z - z) % 2 = 0) : U (fun r => win z f (r - st Z z)) (h + (Z : Int) - 1) := by
  have hst : 2 * st Z z = (Z : Int) - (z : Int) := by unfold st; omega
  refine U.of (fun r => ?_) (fun r hr => ?_) (fun r hr => ?_)
  · show win z f (h + (Z : Int) - 1 - r - st Z z) = win z f (r - st Z z)
    have e : h + (Z : Int) - 1 - r - st Z z = h + (z : Int) - 1 - (r - st Z z) := by omega
    rw [e]
    exact win_sym u.sym z _
  · show win z f (r - 1 - st Z z) ≤ win z f (r - st Z z)
    have e : r - 1 - st Z z = r - st Z z - 1 := by omega
    rw [e, win_step z f (r - st Z z)]
    have := u.mono (r - st Z z) (r - st Z z - (z : Int)) (by omega)
    omega
  · show win z f (r - st Z z) = 0
    have : ∀ (n : Nat) (x : Int), x < 0 → win n f x = 0 := by
      intro n
      induction n with
      | zero => intro x _; rfl
      | succ n ih => intro x hx; rw [win_succ, ih x hx, u.zero _ (by omega)]; rfl
    exact this z _ (by omega)
theorem U.add {f g : Int → Int} {h : Int} (u : U f h) (v : U g h) : U (fun r => f r + g r) h :=
  ⟨fun a b x => by have := u.mono a b x; have := v.mono a b x; show f b + g b ≤ f a + g a; omega, fun r x => by show f r + g r = 0; rw [u.zero r x, v.zero r x]; rfl⟩
theorem U.nil {h : Int} : U (fun _ => 0) h := ⟨fun _ _ _ => Int.le_refl _, fun _ _ => rfl⟩
theorem cv_U {f : Int → Int} {h : Int} (u : U f h) {Z : Nat} : ∀ {lens : List Nat}, (∀ z ∈ lens, z ≤ Z) → (∀ z ∈ lens, (Z - z) % 2 = 0) → U (cv Z lens f) (h + (Z : Int) - 1)
  | [], _, _ => U.nil
  | z :: r, h1, h2 => by
    have a := win_U u (h1 z (by simp)) (h2 z (by simp))
    have b := cv_U u (lens := r) (fun x hx => h1 x (by simp [hx])) (fun x hx => h2 x (by simp [hx]))
    have e : cv Z (z :: r) f = fun x => win z f (x - st Z z) + cv Z r f x := by
      funext x
      simp [cv]
    rw [e]
    exact a.add b
def one : Int → Int := fun r => if r = 0 then 1 else 0
theorem one_U : U one 0 := by
  refine ⟨fun a b h => ?_, fun r h => ?_⟩
  · unfold one
    split
    · rename_i e
      rw [if_pos (by omega)]
      exact Int.le_refl _
    · split <;> decide
  · unfold one
    rw [if_neg (by omega)]
/-! ### lists as functions -/
def ix (L : List Int) (k : Int) : Int := if 0 ≤ k then L.getD k.toNat 0 else 0
theorem ix_nat (L : List Int) (k : Nat) : ix L (k : Int) = L.getD k 0 := by
  unfold ix
  rw [if_pos (by omega)]
  simp
theorem ix_neg (L : List Int) (k : Int) (h : k < 0) : ix L k = 0 := if_neg (by omega)
theorem ix_far (L : List Int) (k : Int) (h : (L.length : Int) ≤ k) : ix L k = 0 := by
  unfold ix
  rw [if_pos (by omega), List.getD_eq_getElem?_getD, List.getElem?_eq_none (by omega)]
  rfl
/-- a list is the function f on 0 .. n - 1 -/
def tab (n : Nat) (f : Int → Int) : List Int := (List.range n).map fun (k : Nat) => f (k : Int)
theorem tab_len (n : Nat) (f : Int → Int) : (tab n f).length = n := by simp [tab]
theorem tab_get {n : Nat} {f : Int → Int} {k : Nat} (h : k < n) : (tab n f)[k]? = some (f (k : Int)) := by
  simp [tab, h]
theorem ix_tab {f : Int → Int} {h : Int} (u : U f h) (n : Nat) (hn : (n : Int) = h + 1) (k : Int) : ix (tab n f) k = f k := by
  by_cases c : k < 0
  · rw [ix_neg _ _ c, u.zero _ c]
  · by_cases d : h < k
    · rw [ix_far _ _ (by rw [tab_len]; omega), u.far _ d]
    · have e : k = (k.toNat : Int) := by omega
      have g : k.toNat < n := by omega
      rw [e, ix_nat, List.getD_eq_getElem?_getD, tab_get g]
      rfl
theorem tab_rev {f : Int → Int} {h : Int} (u : U f h) (n : Nat) (hn : (n : Int) = h + 1) : (tab n f).reverse = tab n f := by
  apply List.ext_getElem?
  intro i
  by_cases c : i < n
  · rw [List.getElem?_reverse (by rw [tab_len]; exact c), tab_len, tab_get (by omega), tab_get c]
    have := u.sym (i : Int)
    have e : ((n - 1 - i : Nat) : Int) = h - (i : Int) := by omega
    rw [e, this]
  · rw [List.getElem?_eq_none (by rw [List.length_reverse, tab_len]; omega), List.getElem?_eq_none (by rw [tab_len]; omega)]
end K04
/-! ## M2 -/
set_option autoImplicit false
namespace K04
/-! ### slid -/
def slidL (L : List Int) (s : Nat) (n : Nat) : List Int := tab n fun k => win s (ix L) k
/-- the running total -/
theorem slid_step (L : List Int) (s : Nat) (k : Nat) :
    win s (ix L) (k : Int) = win s (ix L) ((k : Int) - 1) + (if k < L.length then L.getD k 0 else 0) - (if s ≤ k then L.getD (k - s) 0 else 0) := by
  rw [win_step]
  have e1 : ix L (k : Int) = if k < L.length then L.getD k 0 else 0 := by
    rw [ix_nat]
    split
    · rfl
    · rw [List.getD_eq_getElem?_getD, List.getElem?_eq_none (by omega)]; rfl
  have e2 : ix L ((k : Int) - (s : Int)) = if s ≤ k then L.getD (k - s) 0 else 0 := by
    split
    · have e : (k : Int) - (s : Int) = ((k - s : Nat) : Int) := by omega
      rw [e, ix_nat]
    · rw [ix_neg _ _ (by omega)]
  rw [e1, e2]
/-! ### windows -/
def wsize (low high many : Int) : Int := min many (high - low + 1)
def wleast (h low high many : Int) : Int := max low (min ((h + 1 - wsize low high many) / 2) (high + 1 - wsize low high many))
def wgreat (h low high many : Int) : Int := wleast h low high many + wsize low high many - 1
structure Rng (h low high : Int) : Prop where
  l : 0 ≤ low
  m : low ≤ high
  u : high ≤ h
theorem w_in {h low high many : Int} (r : Rng h low high) (hm : 1 ≤ many) : low ≤ wleast h low high many ∧ wleast h low high many ≤ wgreat h low high many ∧ wgreat h low high many ≤ high := by
  obtain ⟨a, b, c⟩ := r
  unfold wgreat wleast wsize
  omega
theorem w_near {h low high many : Int} (r : Rng h low high) (hm : 1 ≤ many) (a b : Int) (ha : wleast h low high many ≤ a) (ha' : a ≤ wgreat h low high many) (hb : low ≤ b) (hb' : b ≤ high)
    (ho : b < wleast h low high many ∨ wgreat h low high many < b) : (2 * a - h).natAbs ≤ (2 * b - h).natAbs := by
  obtain ⟨x, y, z⟩ := r
  unfold wgreat wleast wsize at *
  omega
/-- sums over an interval lo .. hi -/
def sumI (lo hi : Int) (f : Int → Int) : Int := ((List.range (hi - lo + 1).toNat).map fun (j : Nat) => f (lo + (j : Int))).sum
theorem sumI_empty {lo hi : Int} (h : hi < lo) (f : Int → Int) : sumI lo hi f = 0 := by
  unfold sumI
  have : (hi - lo + 1).toNat = 0 := by omega
  rw [this]; rfl
theorem sumI_last {lo hi : Int} (h : lo ≤ hi) (f : Int → Int) : sumI lo hi f = sumI lo (hi - 1) f + f hi := by
  unfold sumI
  have e : (hi - lo + 1).toNat = (hi - 1 - lo + 1).toNat + 1 := by omega
  rw [e, List.range_succ, List.map_append, List.sum_append]
  have e2 : lo + ((hi - 1 - lo + 1).toNat : Int) = hi := by omega
  simp only [List.map_cons, List.map_nil, List.sum_cons, List.sum_nil, e2]
  omega
theorem sumI_split {lo mid hi : Int} (f : Int → Int) (h1 : lo ≤ mid + 1) (h2 : mid ≤ hi) : sumI lo hi f = sumI lo mid f + sumI (mid + 1) hi f := by
  have : ∀ (n : Nat) (hi : Int), hi - mid = n → sumI lo hi f = sumI lo mid f + sumI (mid + 1) hi f := by
    intro n
    induction n with
    | zero =>
      intro hi e
      have : hi = mid := by omega
      rw [this, sumI_empty (lo := mid + 1) (by omega)]; simp
    | succ n ih =>
      intro hi e
      rw [sumI_last (lo := lo) (hi := hi) (by omega), sumI_last (lo := mid + 1) (hi := hi) (by omega), ih (hi - 1) (by omega)]
      omega
  exact this (hi - mid).toNat hi (by omega)
theorem sumI_congr {lo hi : Int} {f g : Int → Int} (h : ∀ r, lo ≤ r → r ≤ hi → f r = g r) : sumI lo hi f = sumI lo hi g := by
  unfold sumI
  congr 1
  apply List.map_congr_left
  intro j hj
  have := List.mem_range.mp hj
  exact h _ (by omega) (by omega)
theorem sumI_add {lo hi : Int} (f g : Int → Int) : sumI lo hi (fun r => f r + g r) = sumI lo hi f + sumI lo hi g := by
  unfold sumI
  induction (List.range (hi - lo + 1).toNat) with
  | nil => rfl
  | cons a t ih => simp only [List.map_cons, List.sum_cons, ih]; omega
theorem sumI_zero {lo hi : Int} {f : Int → Int} (h : ∀ r, lo ≤ r → r ≤ hi → f r = 0) : sumI lo hi f = 0 := by
  rw [sumI_congr h]
  unfold sumI
  induction (List.range (hi - lo + 1).toNat) with
  | nil => rfl
  | cons a t ih => simp only [List.map_cons, List.sum_cons, ih]; omega
theorem sumI_mul {lo hi : Int} (c : Int) (f : Int → Int) : sumI lo hi (fun r => c * f r) = c * sumI lo hi f := by
  unfold sumI
  induction (List.range (hi - lo + 1).toNat) with
  | nil => simp
  | cons a t ih => simp only [List.map_cons, List.sum_cons, ih, Int.mul_add]
/-! ### by chains -/
def memb (h low high a : Int) : Int := min (h - a) high - max a low + 1
/-- how many of the window are on the chain that begins at a -/
theorem w_meet {h low high many : Int} (r : Rng h low high) (hm : 1 ≤ many) (a : Int) (ha : 0 ≤ a) (ha' : 2 * a ≤ h) :
    max 0 (min (memb h low high a) many) = max 0 (min (wgreat h low high many) (h - a) - max (wleast h low high many) a + 1) := by
  obtain ⟨x, y, z⟩ := r
  unfold wgreat wleast wsize memb
  omega
def ind (p : Prop) [Decidable p] : Int := if p then 1 else 0
theorem sum_ind (lo hi a b : Int) : sumI lo hi (fun r => ind (a ≤ r ∧ r ≤ b)) = max 0 (min hi b - max lo a + 1) := by
  by_cases c : lo ≤ hi + 1
  · have : ∀ (n : Nat) (hi : Int), hi + 1 - lo = n → sumI lo hi (fun r => ind (a ≤ r ∧ r ≤ b)) = max 0 (min hi b - max lo a + 1) := by
      intro n
      induction n with
      | zero => intro hi e; rw [sumI_empty (by omega)]; omega
      | succ n ih =>
        intro hi e
        rw [sumI_last (by omega), ih (hi - 1) (by omega)]
        unfold ind
        split <;> omega
    exact this (hi + 1 - lo).toNat hi (by omega)
  · rw [sumI_empty (by omega)]
    omega
/-- exchange of two sums -/
theorem sumI_swap (lo hi lo' hi' : Int) (F : Int → Int → Int) : sumI lo hi (fun a => sumI lo' hi' (fun b => F a b)) = sumI lo' hi' (fun b => sumI lo hi (fun a => F a b)) := by
  have : ∀ (n : Nat) (hi : Int), (hi + 1 - lo).toNat = n → sumI lo hi (fun a => sumI lo' hi' (fun b => F a b)) = sumI lo' hi' (fun b => sumI lo hi (fun a => F a b)) := by
    intro n
    induction n with
    | zero =>
      intro hi e
      rw [sumI_empty (by omega), sumI_zero]
      intro r _ _
      exact sumI_empty (by omega) _
    | succ n ih =>
      intro hi e
      rw [sumI_last (by omega), ih (hi - 1) (by omega), ← sumI_add]
      apply sumI_congr
      intro r _ _
      rw [sumI_last (lo := lo) (hi := hi) (by omega)]
  exact this _ hi rfl
/-- telescope -/
theorem tele (f : Int → Int) (m : Int) (hm : -1 ≤ m) : sumI 0 m (fun a => f a - f (a - 1)) = f m - f (-1) := by
  have : ∀ (n : Nat) (m : Int), m + 1 = n → sumI 0 m (fun a => f a - f (a - 1)) = f m - f (-1) := by
    intro n
    induction n with
    | zero => intro m e; rw [sumI_empty (by omega)]; have : m = -1 := by omega
              rw [this]; omega
    | succ n ih =>
      intro m e
      rw [sumI_last (by omega), ih (m - 1) (by omega)]
      omega
  exact this (m + 1).toNat m (by omega)
theorem by_chains {f : Int → Int} {h : Int} (u : U f h) (h0 : 0 ≤ h) {low high many : Int} (r : Rng h low high) (hm : 1 ≤ many) :
    sumI 0 (h / 2) (fun a => (f a - f (a - 1)) * max 0 (min (memb h low high a) many)) = sumI (wleast h low high many) (wgreat h low high many) f := by
  have e1 : sumI 0 (h / 2) (fun a => (f a - f (a - 1)) * max 0 (min (memb h low high a) many)) =
      sumI 0 (h / 2) (fun a => sumI (wleast h low high many) (wgreat h low high many) (fun q => (f a - f (a - 1)) * ind (a ≤ q ∧ q ≤ h - a))) := by
    apply sumI_congr
    intro a h1 h2
    rw [sumI_mul, sum_ind, w_meet r hm a h1 (by omega)]
  rw [e1, sumI_swap]
  apply sumI_congr
  intro q h1 h2
  have hw := w_in r hm
  obtain ⟨x, y, z⟩ := r
  -- split at min q (h - q)
  rw [sumI_split (mid := min q (h - q)) _ (by omega) (by omega)]
  rw [sumI_zero (lo := min q (h - q) + 1) (fun a ha hb => by unfold ind; rw [if_neg (by omega)]; omega)]
  have e2 : sumI 0 (min q (h - q)) (fun a => (f a - f (a - 1)) * ind (a ≤ q ∧ q ≤ h - a)) = sumI 0 (min q (h - q)) (fun a => f a - f (a - 1)) := by
    apply sumI_congr
    intro a ha hb
    unfold ind
    rw [if_pos (by omega)]
    omega
  rw [e2, tele _ _ (by omega), u.zero (-1) (by omega)]
  have hs := u.sym q
  by_cases c : q ≤ h - q
  · rw [Int.min_eq_left c]; omega
  · rw [Int.min_eq_right (by omega)]; omega
end K04
/-! ## M3 -/
set_option autoImplicit false
set_option linter.all false
namespace K04
theorem perm_sum {a b : List Int} (p : a.Perm b) : a.sum = b.sum := by
  induction p with
  | nil => rfl
  | cons x _ ih => rw [List.sum_cons, List.sum_cons, ih]
  | swap x y l => simp only [List.sum_cons]; omega
  | trans _ _ i1 i2 => exact i1.trans i2
theorem top_sum {ys A B : List Int} (hp : ys.Perm (A ++ B)) (hs : ys.Pairwise (· ≤ ·)) (hab : ∀ a ∈ A, ∀ b ∈ B, a ≤ b) : (ys.drop A.length).sum = B.sum := by
  have mA := List.mergeSort_perm A (fun a b => decide (a ≤ b))
  have mB := List.mergeSort_perm B (fun a b => decide (a ≤ b))
  have srt : ∀ l : List Int, (l.mergeSort (fun a b => decide (a ≤ b))).Pairwise (· ≤ ·) := fun l => by
    have := List.pairwise_mergeSort (le := fun a b : Int => decide (a ≤ b)) (fun a b c h1 h2 => by simp at *; omega) (fun a b => by simp; omega) l
    exact this.imp (fun h => of_decide_eq_true h)
  have e : ys = A.mergeSort (fun a b => decide (a ≤ b)) ++ B.mergeSort (fun a b => decide (a ≤ b)) := by
    refine List.Perm.eq_of_pairwise (fun x y _ _ h1 h2 => Int.le_antisymm h1 h2) hs ?_ (hp.trans (mA.symm.append mB.symm))
    rw [List.pairwise_append]
    exact ⟨srt A, srt B, fun a ha b hb => hab a (mA.mem_iff.mp ha) b (mB.mem_iff.mp hb)⟩
  rw [e, List.drop_append, mA.length_eq]
  have : (A.mergeSort (fun a b => decide (a ≤ b))).drop A.length = [] := List.drop_eq_nil_of_le (by rw [mA.length_eq]; exact Nat.le_refl _)
  rw [this, Nat.sub_self, List.drop_zero, List.nil_append]
  exact perm_sum mB
/-- the items lo .. hi of f's table -/
def rowI (lo hi : Int) (f : Int → Int) : List Int := (List.range (hi - lo + 1).toNat).map fun (j : Nat) => f (lo + (j : Int))
theorem rowI_sum (lo hi : Int) (f : Int → Int) : (rowI lo hi f).sum = sumI lo hi f := rfl
theorem rowI_len (lo hi : Int) (f : Int → Int) : (rowI lo hi f).length = (hi - lo + 1).toNat := by simp [rowI]
theorem rowI_mem {lo hi : Int} {f : Int → Int} {x : Int} (h : x ∈ rowI lo hi f) : ∃ r, lo ≤ r ∧ r ≤ hi ∧ x = f r := by
  obtain ⟨j, hj, e⟩ := List.mem_map.mp h
  have := List.mem_range.mp hj
  exact ⟨lo + (j : Int), by omega, by omega, e.symm⟩
theorem rowI_split {lo hi : Int} (mid : Int) (f : Int → Int) (h1 : lo ≤ mid + 1) (h2 : mid ≤ hi) : rowI lo hi f = rowI lo mid f ++ rowI (mid + 1) hi f := by
  apply List.ext_getElem?
  intro i
  rw [List.getElem?_append, rowI_len]
  unfold rowI
  by_cases c : i < (mid - lo + 1).toNat
  · rw [if_pos c, List.getElem?_map, List.getElem?_map, List.getElem?_range c, List.getElem?_range (by omega)]
  · rw [if_neg c, List.getElem?_map, List.getElem?_map]
    by_cases d : i < (hi - lo + 1).toNat
    · rw [List.getElem?_range d, List.getElem?_range (by omega)]
      show some (f (lo + (i : Int))) = some (f (mid + 1 + ((i - (mid - lo + 1).toNat : Nat) : Int)))
      congr 2
      omega
    · rw [List.getElem?_eq_none (by simp; omega), List.getElem?_eq_none (by simp; omega)]
      rfl
/-- the spread, by a height and a table -/
def spr (f : Int → Int) (h low high many : Int) : Int := if many = 0 then 0 else sumI (wleast h low high many) (wgreat h low high many) f
theorem greatest_spr {f : Int → Int} {h : Int} (u : U f h) {low high many : Int} (r : Rng h low high) (hm : 0 ≤ many) {ys : List Int} (hp : ys.Perm (rowI low high f)) (hs : ys.Pairwise (· ≤ ·)) :
    (ys.drop (max 0 ((ys.length : Int) - many)).toNat).sum = spr f h low high many := by
  have hlen : (ys.length : Int) = high - low + 1 := by
    rw [hp.length_eq, rowI_len]
    have := r.m
    omega
  unfold spr
  by_cases h0 : many = 0
  · rw [if_pos h0, List.drop_eq_nil_of_le (by omega)]
    rfl
  · rw [if_neg h0]
    have hw := w_in r (by omega : 1 ≤ many)
    have hp2 : ys.Perm ((rowI low (wleast h low high many - 1) f ++ rowI (wgreat h low high many + 1) high f) ++ rowI (wleast h low high many) (wgreat h low high many) f) := by
      refine hp.trans ?_
      rw [rowI_split (lo := low) (hi := high) (wleast h low high many - 1) f (by omega) (by omega)]
      have e : wleast h low high many - 1 + 1 = wleast h low high many := by omega
      rw [e, rowI_split (lo := wleast h low high many) (hi := high) (wgreat h low high many) f (by omega) (by omega), List.append_assoc]
      exact List.Perm.append_left _ List.perm_append_comm
    have hA : (rowI low (wleast h low high many - 1) f ++ rowI (wgreat h low high many + 1) high f).length = (max 0 ((ys.length : Int) - many)).toNat := by
      rw [List.length_append, rowI_len, rowI_len, hlen]
      have : wgreat h low high many = wleast h low high many + wsize low high many - 1 := rfl
      have : wsize low high many = min many (high - low + 1) := rfl
      omega
    rw [← hA, ← rowI_sum]
    refine top_sum hp2 hs fun a ha b hb => ?_
    obtain ⟨rb, b1, b2, rfl⟩ := rowI_mem hb
    rcases List.mem_append.mp ha with ha | ha
    · obtain ⟨ra, a1, a2, rfl⟩ := rowI_mem ha
      exact u.mono _ _ (w_near r (by omega) rb ra b1 b2 a1 (by omega) (.inl (by omega)))
    · obtain ⟨ra, a1, a2, rfl⟩ := rowI_mem ha
      exact u.mono _ _ (w_near r (by omega) rb ra b1 b2 (by omega) a2 (.inr (by omega)))
theorem chains_spr {f : Int → Int} {h : Int} (u : U f h) (h0 : 0 ≤ h) {low high many : Int} (r : Rng h low high) (hm : 0 ≤ many) :
    sumI 0 (h / 2) (fun a => (f a - f (a - 1)) * max 0 (min (memb h low high a) many)) = spr f h low high many := by
  unfold spr
  by_cases c : many = 0
  · rw [if_pos c]
    apply sumI_zero
    intro a _ _
    have : max 0 (min (memb h low high a) many) = 0 := by omega
    rw [this, Int.mul_zero]
  · rw [if_neg c, by_chains u h0 r (by omega)]
/-! ### the window, rank by rank -/
def WI (h low high many A B least greatest m : Int) : Prop :=
  (min high B < max low A ∧ least = 0 ∧ greatest = -1 ∧ m = many) ∨ (max low A ≤ min high B ∧ m = many - (min high B - max low A + 1) ∧ 0 ≤ m ∧ least = max low A ∧ greatest = min high B) ∨
    (m = 0 ∧ least = wleast h low high many ∧ greatest = wgreat h low high many)
structure St3 where
  l : Int
  g : Int
  m : Int
/-- one rank is looked at: twice it is v -/
def wstep (low high v : Int) (s : St3) : St3 :=
  if v % 2 = 0 ∧ (low ≤ v / 2 ∧ v / 2 ≤ high) ∧ 0 < s.m then ⟨if s.g < 0 then v / 2 else min s.l (v / 2), max s.g (v / 2), s.m - 1⟩ else s
theorem wstep_low {h low high many G : Int} (r : Rng h low high) (hm : 1 ≤ many) (hG : 1 ≤ G) (hG' : G ≤ h) {s : St3} (w : WI h low high many ((h - G + 2) / 2) ((h + G - 1) / 2) s.l s.g s.m) :
    WI h low high many ((h - G + 1) / 2) ((h + G - 1) / 2) (wstep low high (h - G) s).l (wstep low high (h - G) s).g (wstep low high (h - G) s).m := by
  obtain ⟨l, g, m⟩ := s
  obtain ⟨x, y, z⟩ := r
  unfold WI at *
  unfold wgreat wleast wsize at *
  unfold wstep
  simp only at *
  by_cases c : (h - G) % 2 = 0 ∧ (low ≤ (h - G) / 2 ∧ (h - G) / 2 ≤ high) ∧ 0 < m
  · rw [if_pos c]
    simp only
    rcases w with w | w | w
    · right; left; rw [if_pos (by omega)]; omega
    · right; left; rw [if_neg (by omega)]; omega
    · omega
  · rw [if_neg c]
    simp only
    rcases w with w | w | w
    · left; omega
    · by_cases hm0 : m = 0
      · right; right; omega
      · right; left; omega
    · right; right; omega
theorem wstep_high {h low high many G : Int} (r : Rng h low high) (hm : 1 ≤ many) (hG : 0 ≤ G) (hG' : G ≤ h) {s : St3} (w : WI h low high many ((h - G + 1) / 2) ((h + G - 1) / 2) s.l s.g s.m) (h0 : G = 0 → s.g = -1 ∧ s.m = many ∧ s.l = 0) :
    WI h low high many ((h - G + 1) / 2) ((h + G) / 2) (wstep low high (h + G) s).l (wstep low high (h + G) s).g (wstep low high (h + G) s).m := by
  obtain ⟨l, g, m⟩ := s
  obtain ⟨x, y, z⟩ := r
  unfold WI at *
  unfold wgreat wleast wsize at *
  unfold wstep
  simp only at *
  by_cases c : (h + G) % 2 = 0 ∧ (low ≤ (h + G) / 2 ∧ (h + G) / 2 ≤ high) ∧ 0 < m
  · rw [if_pos c]
    simp only
    rcases w with w | w | w
    · right; left; rw [if_pos (by omega)]; omega
    · right; left; rw [if_neg (by omega)]; omega
    · omega
  · rw [if_neg c]
    simp only
    rcases w with w | w | w
    · left; omega
    · by_cases hm0 : m = 0
      · right; right; omega
      · right; left; omega
    · right; right; omega
theorem w_begin {h low high many : Int} (r : Rng h low high) : WI h low high many ((h - 0 + 2) / 2) ((h + 0 - 1) / 2) 0 (-1) many := by
  unfold WI
  left
  omega
theorem w_begin0 {h low high many : Int} (r : Rng h low high) : WI h low high many ((h - 0 + 1) / 2) ((h + 0 - 1) / 2) 0 (-1) many := by
  unfold WI
  left
  omega
theorem w_end {h low high many l g m : Int} (r : Rng h low high) (hm : 1 ≤ many) (w : WI h low high many ((h - (h + 1) + 2) / 2) ((h + (h + 1) - 1) / 2) l g m) : l = wleast h low high many ∧ g = wgreat h low high many := by
  obtain ⟨x, y, z⟩ := r
  unfold WI at w
  unfold wgreat wleast wsize at *
  omega
end K04
/-! ## M4 -/
set_option autoImplicit false
set_option linter.all false
namespace K04
/-- the spots of the first n chains: (chain, rank) -/
def SPf (Z : Nat) (szs : List Nat) (n : Nat) : List (Int × Int) := (List.range n).flatMap fun c => (List.range (szs.getD c 0)).map fun (p : Nat) => ((c : Int), st Z (szs.getD c 0) + (p : Int))
theorem SPf_succ (Z : Nat) (szs : List Nat) (n : Nat) : SPf Z szs (n + 1) = SPf Z szs n ++ (List.range (szs.getD n 0)).map fun (p : Nat) => ((n : Int), st Z (szs.getD n 0) + (p : Int)) := by
  unfold SPf
  rw [List.range_succ, List.flatMap_append]
  simp
theorem SPf_len (Z : Nat) (szs : List Nat) (n : Nat) : (SPf Z szs n).length = ((List.range n).map fun c => szs.getD c 0).sum := by
  induction n with
  | zero => rfl
  | succ n ih => rw [SPf_succ, List.length_append, ih, List.range_succ, List.map_append, List.sum_append]; simp
theorem SPf_count (Z : Nat) (szs : List Nat) (c : Nat) : ∀ n, (SPf Z szs n).countP (fun q => decide (q.1 = (c : Int))) = if c < n then szs.getD c 0 else 0 := by
  intro n
  induction n with
  | zero => rfl
  | succ n ih =>
    rw [SPf_succ, List.countP_append, ih, List.countP_map]
    by_cases h : c < n
    · rw [if_pos h, if_pos (by omega)]
      have : List.countP ((fun q : Int × Int => decide (q.1 = (c : Int))) ∘ fun (p : Nat) => ((n : Int), st Z (szs.getD n 0) + (p : Int))) (List.range (szs.getD n 0)) = 0 := by
        rw [List.countP_eq_zero]
        intro a _
        simp
        omega
      rw [this]
      rfl
    · rw [if_neg h]
      by_cases e : c = n
      · subst e
        rw [if_pos (by omega)]
        have : List.countP ((fun q : Int × Int => decide (q.1 = (c : Int))) ∘ fun (p : Nat) => ((c : Int), st Z (szs.getD c 0) + (p : Int))) (List.range (szs.getD c 0)) = (List.range (szs.getD c 0)).length := by
          rw [List.countP_eq_length]
          intro a _
          simp
        rw [this, List.length_range]
        omega
      · rw [if_neg (by omega)]
        have : List.countP ((fun q : Int × Int => decide (q.1 = (c : Int))) ∘ fun (p : Nat) => ((n : Int), st Z (szs.getD n 0) + (p : Int))) (List.range (szs.getD n 0)) = 0 := by
          rw [List.countP_eq_zero]
          intro a _
          simp
          omega
        rw [this]
theorem range_getD {α β : Type} (l : List α) (d : α) (g : α → β) : ((List.range l.length).map fun c => g (l.getD c d)) = l.map g := by
  apply List.ext_getElem?
  intro i
  rw [List.getElem?_map, List.getElem?_map]
  by_cases h : i < l.length
  · rw [List.getElem?_range h, List.getElem?_eq_getElem h]
    show some (g (l.getD i d)) = some (g l[i])
    rw [List.getD_eq_getElem?_getD, List.getElem?_eq_getElem h]
    rfl
  · rw [List.getElem?_eq_none (by simp; omega), List.getElem?_eq_none (by omega)]
    rfl
theorem SPf_sum (Z : Nat) (szs : List Nat) (f : Int → Int) (r : Int) : ((SPf Z szs szs.length).map fun q => f (r - q.2)).sum = cv Z szs f r := by
  have : ∀ n, ((SPf Z szs n).map fun q => f (r - q.2)).sum = ((List.range n).map fun c => win (szs.getD c 0) f (r - st Z (szs.getD c 0))).sum := by
    intro n
    induction n with
    | zero => rfl
    | succ n ih =>
      rw [SPf_succ, List.map_append, List.sum_append, ih, List.range_succ, List.map_append, List.sum_append]
      congr 1
      rw [List.map_map]
      show _ = win (szs.getD n 0) f (r - st Z (szs.getD n 0)) + 0
      rw [Int.add_zero]
      unfold win
      congr 1
      apply List.map_congr_left
      intro p _
      show f (r - (st Z (szs.getD n 0) + (p : Int))) = f (r - st Z (szs.getD n 0) - (p : Int))
      congr 1
      omega
  rw [this, range_getD szs 0 (fun z => win z f (r - st Z z))]
  rfl
theorem SPf_mem {Z : Nat} {szs : List Nat} {n : Nat} {q : Int × Int} (h : q ∈ SPf Z szs n) : ∃ (c p : Nat), c < n ∧ p < szs.getD c 0 ∧ q = ((c : Int), st Z (szs.getD c 0) + (p : Int)) := by
  obtain ⟨c, hc, hq⟩ := List.mem_flatMap.mp h
  obtain ⟨p, hp, e⟩ := List.mem_map.mp hq
  exact ⟨c, p, List.mem_range.mp hc, List.mem_range.mp hp, e.symm⟩
theorem filter_count (l : List (Int × Int)) (d : Int × Int) (c : Int) : ((List.range l.length).filter fun k => decide ((l.getD k d).1 = c)).length = l.countP (fun q => decide (q.1 = c)) := by
  rw [← List.countP_eq_length_filter]
  have e := range_getD l d (fun q => q)
  rw [List.map_id'] at e
  conv => rhs; rw [← e]
  rw [List.countP_map]
  rfl
/-- what the ranks of the spots are, in any sequence, for chains of sizes in any sequence -/
theorem rk_of {Z : Nat} {szs lens : List Nat} {R : List Int} (ok : Lens Z szs) (hl : lens.Perm szs) (hR : R.Perm ((SPf Z szs szs.length).map (·.2))) :
    (∀ (f : Int → Int) (r : Int), (R.map fun m => f (r - m)).sum = cv Z lens f r) ∧ ((Z : Int) - 1) ∈ R ∧ (∀ m ∈ R, 0 ≤ m ∧ m ≤ (Z : Int) - 1) ∧ Lens Z lens := by
  refine ⟨fun f r => ?_, ?_, fun m hm => ?_, ⟨hl.mem_iff.mpr ok.mem, fun z hz => ok.pos z (hl.mem_iff.mp hz), fun z hz => ok.le z (hl.mem_iff.mp hz), fun z hz => ok.par z (hl.mem_iff.mp hz)⟩⟩
  · rw [perm_sum (hR.map fun m => f (r - m)), List.map_map]
    show ((SPf Z szs szs.length).map fun q => f (r - q.2)).sum = _
    rw [SPf_sum]
    unfold cv
    exact (perm_sum (hl.map fun z => win z f (r - st Z z))).symm
  · refine hR.mem_iff.mpr ?_
    obtain ⟨i, hi⟩ := List.mem_iff_getElem?.mp ok.mem
    have hil := (List.getElem?_eq_some_iff.mp hi).1
    have hp := ok.pos Z ok.mem
    have hd : szs.getD i 0 = Z := by rw [List.getD_eq_getElem?_getD, hi]; rfl
    refine List.mem_map.mpr ⟨((i : Int), st Z Z + ((Z - 1 : Nat) : Int)), ?_, ?_⟩
    · refine List.mem_flatMap.mpr ⟨i, List.mem_range.mpr hil, List.mem_map.mpr ⟨Z - 1, List.mem_range.mpr (by omega), ?_⟩⟩
      show ((i : Int), st Z (szs.getD i 0) + _) = _
      rw [hd]
    · show st Z Z + ((Z - 1 : Nat) : Int) = _
      unfold st
      omega
  · obtain ⟨q, hq, rfl⟩ := List.mem_map.mp (hR.mem_iff.mp hm)
    obtain ⟨c, p, hc, hp, rfl⟩ := SPf_mem hq
    have hmem : szs.getD c 0 ∈ szs := by
      rw [List.getD_eq_getElem?_getD, List.getElem?_eq_getElem hc]
      exact List.getElem_mem hc
    have h1 := ok.le _ hmem
    have h2 := ok.par _ hmem
    show 0 ≤ st Z _ + (p : Int) ∧ st Z _ + (p : Int) ≤ _
    unfold st
    omega
theorem sizes_len {Z : Nat} : ∀ {szs : List Nat}, (∀ z ∈ szs, z ≤ Z) → ((List.range szs.length).map fun c => szs.getD c 0).sum ≤ szs.length * Z := by
  intro szs h
  have e := range_getD szs 0 (fun z => z)
  rw [List.map_id'] at e
  rw [e]
  induction szs with
  | nil => simp
  | cons z r ih =>
    have h1 := h z (by simp)
    have e2 := range_getD r 0 (fun z => z)
    rw [List.map_id'] at e2
    have h2 := ih (fun x hx => h x (by simp [hx])) e2
    rw [List.sum_cons, List.length_cons, Nat.add_mul]
    omega
end K04
/-! ## D1 -/
set_option Elab.async false
set_option linter.all false
set_option maxRecDepth 100000
set_option maxHeartbeats 4000000
namespace K04
open PySem L2 Evl
abbrev s__law_draw : Stmt := top 25
abbrev N__law_draw : List Str := ["_law_bag_here", "_law_many", "_law_wide", "_law_cell", "_law_mixed"]
theorem sc__law_draw : FnScope N__law_draw ["_law_bag_here", "_law_many"] (defScope s__law_draw) := ⟨rfl, rfl, rfl, by decide +kernel, rfl, by decide +kernel, by decide +kernel⟩
theorem seqIx0 {n : Nat} : seqIndex? 0 (n + 1) = some 0 := (ixN_seq (ixN_nat (n := n + 1) (j := 0) (by omega))).1
/-- a number below many, the bag goes on -/
def spDraw : Sp := fun vs H Q _ => ∃ (G : Hp) (b w : Addr) (N : Nat) (m : Int), vs = [.ref b, .int m] ∧ BG G H b w N ∧ N < 1000000 ∧ (1 ≤ m ∧ m < 1000000000) ∧
  ∀ (v : Int) (H' : Hp), 0 ≤ v → v < m → BG G H' b w (N + 1) → Q (.int v) H'
section
variable {P : Program} {w : World} {K : PySem.W.Frag} {mg : Str → Option Value} {base : Heap}
theorem ok_draw {f : Addr} {fd : FuncData} (F : Fun K "_law_draw" "_law_draw" s__law_draw f fd) (T : Txt mg) : FnOk P w K mg base CX0 1 f fd ["_law_bag_here", "_law_many"] spDraw := by
  refine F.ok sc__law_draw (fun vs H Q E h => ?_) (fun cdv A outer s H vs Q E hr h => ?_)
  · obtain ⟨_, _, _, _, _, rfl, _⟩ := h
    rfl
  · obtain ⟨G, b, wd, N, m, rfl, bg, hN, hm, k⟩ := h
    refine ⟨_, pss_cons (ps_set (i := 2) sc__law_draw.nd rfl (Or.inl rfl) (pe_ix ix_list (pv 0) pe_int (fun _ _ => rfl)))
    (pss_cons (ps_if (pt_truth (pv 2) (by intro _; rfl))
       (pss_cons (ps_set (i := 3) sc__law_draw.nd rfl (Or.inl rfl) (pe_ix ix_list (pv 2) pe_int (fun _ _ => rfl)))
      (pss_cons (ps_asg (pe_op op_fdiv (pv 3) (pv 1)) (pg_sub (pv 2) pe_int set_list))
      (pss_cons (ps_if (pt_cmpR op_eq (pe_ix ix_list (pv 2) pe_int (fun _ _ => rfl)) pe_int (nomark _))
         (pss_one (ps_expr (pe_bm PySem.F.plainAttrs_list PySem.F.slot_list_pop PySem.F.type_list_pop mt_popAt (pv 2) (pa_cons pe_int pa_nil))))
         pss_nil)
      (pss_one (ps_ret (pe_op op_mod (pe_callTy call_int1 (by rfl) T.int (by decide +kernel) (pa_cons (pv 3) pa_nil)) (pv 1)))))))
       pss_nil)
    (pss_cons (ps_asg (pe_op op_mod (pe_callTy call_int1 (by rfl) T.int (by decide +kernel) (pa_cons (pe_op op_add (pe_op op_add (pe_op op_mul (pe_ix ix_list (pv 0) pe_int (fun _ _ => rfl)) pe_int) (pe_op op_mul (pe_ix ix_list (pv 0) pe_int (fun _ _ => rfl)) pe_int)) pe_int) pa_nil)) pe_int) (pg_sub (pv 0) pe_int set_list))
    (pss_cons (ps_asg (pe_op op_add (pe_ix ix_list (pv 0) pe_int (fun _ _ => rfl)) pe_int) (pg_sub (pv 0) pe_int set_list))
    (pss_cons (ps_set (i := 4) sc__law_draw.nd rfl (Or.inl rfl) (pe_op op_mod (pe_callTy call_int1 (by rfl) T.int (by decide +kernel) (pa_cons (pe_op op_add (pe_op op_mul (pe_ix ix_list (pv 0) pe_int (fun _ _ => rfl)) pe_int) (pe_op op_mul (pe_ix ix_list (pv 0) pe_int (fun _ _ => rfl)) (pe_ix ix_list (pv 0) pe_int (fun _ _ => rfl)))) pa_nil)) pe_int))
    (pss_one (ps_ret (pe_op op_mod (pe_callTy call_int1 (by rfl) T.int (by decide +kernel) (pa_cons (pe_op op_fdiv (pv 4) pe_int) pa_nil)) (pv 1)))))))), ?_⟩
    obtain ⟨ex, gb, gw, ne, s0, s1, cs, hb, hw, h0, h1, hl⟩ := id bg
    refine ⟨_, rfl, b, _, 2, _, rfl, rfl, SqL.of hb, rfl, ?_⟩
    refine ⟨_, rfl, !(cs.map V.int).isEmpty, .inl ⟨_, SqL.of hw, rfl⟩, ?_⟩
    cases cs with
    | cons c cs =>
      refine iteT ?_
      refine ⟨_, rfl, wd, _, 0, .int c, rfl, rfl, SqL.of hw, atI_nat (j := 0) rfl, ?_⟩
      refine ⟨_, rfl, _, rfl, c, m, rfl, rfl, ⟨by omega, by omega⟩, _, rfl, wd, _, 0, 0, rfl, rfl, hw, ixN_nat (j := 0) (by simp), ?_⟩
      have b1 : BG G (upd H wd (.lst (.int (c / m) :: cs.map V.int))) b wd N := by
        obtain ⟨a1, a2, a3, a4, _⟩ := bg
        exact ⟨a1.mut gw, a2, a3, a4, s0, s1, (c / m) :: cs, by rw [upd_ne ne]; exact hb, upd_same, h0, h1, hl⟩
      refine ⟨_, rfl, wd, _, 0, .int (c / m), rfl, rfl, SqL.of upd_same, atI_nat (j := 0) rfl, rfl, _, rfl, ?_⟩
      refine ite2 (fun _ => ?_) (fun _ => ?_)
      · refine ⟨_, rfl, .inl ⟨rfl, _, SqL.of upd_same⟩, wd, _, 0, 0, .int (c / m), rfl, rfl, upd_same, by decide, by decide, seqIx0, rfl, ?_⟩
        refine ⟨_, rfl, .inl ⟨c, rfl, _, rfl, c, m, rfl, rfl, by omega, ?_⟩⟩
        refine k _ _ (Int.emod_nonneg _ (by omega)) (Int.emod_lt_of_pos _ (by omega)) ?_
        obtain ⟨a1, a2, a3, a4, _⟩ := bg
        refine ⟨(a1.mut gw).mut gw, a2, a3, a4, s0, s1, cs, by rw [upd_ne ne, upd_ne ne]; exact hb, upd_same, h0, ⟨h1.1, by omega⟩, ?_⟩
        simp at hl
        omega
      · refine ⟨_, rfl, .inl ⟨c, rfl, _, rfl, c, m, rfl, rfl, by omega, ?_⟩⟩
        exact k _ _ (Int.emod_nonneg _ (by omega)) (Int.emod_lt_of_pos _ (by omega)) (b1.mono (Nat.le_succ _))
    | nil =>
      refine iteF ?_
      refine ⟨_, rfl, b, _, 0, .int s0, rfl, rfl, SqL.of hb, rfl, s0, _, rfl, rfl, .inl ⟨by omega, by omega⟩, ?_⟩
      refine ⟨_, rfl, b, _, 1, .int s1, rfl, rfl, SqL.of hb, rfl, s1, _, rfl, rfl, .inl ⟨by omega, by omega⟩, _, _, rfl, rfl, _, _, rfl, rfl, ?_⟩
      refine .inl ⟨_, rfl, _, _, rfl, rfl, (by show (0 : Int) < _; decide), _, rfl, b, _, 0, 0, rfl, rfl, hb, rfl, ?_⟩
      obtain ⟨t0, ht0⟩ : ∃ t0 : Int, t0 = (s0 * 39373 + s1 * 4241 + 31) % 2147483563 := ⟨_, rfl⟩
      have g0 : 0 ≤ t0 ∧ t0 < 2147483648 := by omega
      rw [show (fun i j : Int => V.int (i % j)) (s0 * 39373 + s1 * 4241 + 31) 2147483563 = V.int t0 from congrArg V.int ht0.symm]
      refine ⟨_, rfl, b, _, 1, .int s1, rfl, rfl, SqL.of upd_same, rfl, s1, 1, rfl, rfl, _, rfl, b, _, 1, 1, rfl, rfl, upd_same, rfl, ?_⟩
      rw [upd_upd]
      refine ⟨_, rfl, b, _, 0, .int t0, rfl, rfl, SqL.of upd_same, rfl, t0, _, rfl, rfl, .inl ⟨by omega, by omega⟩, ?_⟩
      refine ⟨_, rfl, b, _, 1, .int (s1 + 1), rfl, rfl, SqL.of upd_same, rfl, _, rfl, b, _, 1, .int (s1 + 1), rfl, rfl, SqL.of upd_same, rfl, s1 + 1, s1 + 1, rfl, rfl, .inl ⟨by omega, by omega⟩, _, _, rfl, rfl, ?_⟩
      refine .inl ⟨_, rfl, _, _, rfl, rfl, (by show (0 : Int) < _; decide), ?_⟩
      refine ⟨_, rfl, _, _, rfl, rfl, ⟨by decide, by decide⟩, .inl ⟨_, rfl, _, rfl, _, m, rfl, rfl, by omega, ?_⟩⟩
      refine k _ _ (Int.emod_nonneg _ (by omega)) (Int.emod_lt_of_pos _ (by omega)) ?_
      obtain ⟨a1, a2, a3, a4, _⟩ := bg
      exact ⟨a1.mut gb, a2, a3, a4, t0, s1 + 1, [], upd_same, by rw [upd_ne ne.symm]; exact hw, g0, ⟨by omega, by omega⟩, hl⟩
end
end K04
/-! ## D2 -/
set_option Elab.async false
set_option linter.all false
set_option maxRecDepth 100000
set_option maxHeartbeats 4000000
namespace K04
open PySem L2 Evl
/-- a value of a kind that isinstance is asked of -/
inductive Any (H : Hp) : V → Prop where
  | non : Any H .non
  | bl (b : Bool) : Any H (.bl b)
  | int (i : Int) : Any H (.int i)
  | str (s : Str) : Any H (.str s)
  | lst {a : Addr} {xs : List V} (h : H a = some (.lst xs)) : Any H (.ref a)
  | tup {a : Addr} {xs : List V} (h : H a = some (.tup xs)) : Any H (.ref a)
theorem Any.mono {H H' : Hp} {x : V} (e : Ex H H') (h : Any H x) : Any H' x := by
  cases h with
  | non => exact .non
  | bl b => exact .bl b
  | int i => exact .int i
  | str s => exact .str s
  | lst h => exact .lst (e _ _ h)
  | tup h => exact .tup (e _ _ h)
def isI : V → Bool
  | .int _ => true
  | _ => false
def isB : V → Bool
  | .bl _ => true
  | _ => false
def isS : V → Bool
  | .str _ => true
  | _ => false
/-- isinstance(thing, int), isinstance(thing, bool) -/
theorem isi_int {K : PySem.W.Frag} {H : Hp} {x : V} {Q : VK} (h : Any H x) (q : Q (.bl (isI x || (isB x))) H) : rIsi K [x, .ty "int"] H Q := by
  cases h with
  | non => exact ⟨_, _, _, _, false, rfl, .ty "int", .base .non, kit_ty (by decide +kernel), q⟩
  | bl b => exact ⟨_, _, _, _, true, rfl, .ty "int", .base (.bl b), kit_ty (by decide +kernel), q⟩
  | int i => exact ⟨_, _, _, _, true, rfl, .ty "int", .base (.int i), kit_ty (by decide +kernel), q⟩
  | str s => exact ⟨_, _, _, _, false, rfl, .ty "int", .base (.str s), kit_ty (by decide +kernel), q⟩
  | lst h => exact ⟨_, _, _, _, false, rfl, .ty "int", .base (.lst h), kit_ty (by decide +kernel), q⟩
  | tup h => exact ⟨_, _, _, _, false, rfl, .ty "int", .base (.tup h), kit_ty (by decide +kernel), q⟩
theorem isi_bool {K : PySem.W.Frag} {H : Hp} {x : V} {Q : VK} (h : Any H x) (q : Q (.bl (isB x)) H) : rIsi K [x, .ty "bool"] H Q := by
  cases h with
  | non => exact ⟨_, _, _, _, false, rfl, .ty "bool", .base .non, kit_ty (by decide +kernel), q⟩
  | bl b => exact ⟨_, _, _, _, true, rfl, .ty "bool", .base (.bl b), kit_ty (by decide +kernel), q⟩
  | int i => exact ⟨_, _, _, _, false, rfl, .ty "bool", .base (.int i), kit_ty (by decide +kernel), q⟩
  | str s => exact ⟨_, _, _, _, false, rfl, .ty "bool", .base (.str s), kit_ty (by decide +kernel), q⟩
  | lst h => exact ⟨_, _, _, _, false, rfl, .ty "bool", .base (.lst h), kit_ty (by decide +kernel), q⟩
  | tup h => exact ⟨_, _, _, _, false, rfl, .ty "bool", .base (.tup h), kit_ty (by decide +kernel), q⟩
theorem isi_str {K : PySem.W.Frag} {H : Hp} {x : V} {Q : VK} (h : Any H x) (q : Q (.bl (isS x)) H) : rIsi K [x, .ty "str"] H Q := by
  cases h with
  | non => exact ⟨_, _, _, _, false, rfl, .ty "str", .base .non, kit_ty (by decide +kernel), q⟩
  | bl b => exact ⟨_, _, _, _, false, rfl, .ty "str", .base (.bl b), kit_ty (by decide +kernel), q⟩
  | int i => exact ⟨_, _, _, _, false, rfl, .ty "str", .base (.int i), kit_ty (by decide +kernel), q⟩
  | str s => exact ⟨_, _, _, _, true, rfl, .ty "str", .base (.str s), kit_ty (by decide +kernel), q⟩
  | lst h => exact ⟨_, _, _, _, false, rfl, .ty "str", .base (.lst h), kit_ty (by decide +kernel), q⟩
  | tup h => exact ⟨_, _, _, _, false, rfl, .ty "str", .base (.tup h), kit_ty (by decide +kernel), q⟩
/-- the type's name as a value -/
theorem pe_ty_int {X : Cx} {mg : Str → Option Value} (T : Txt mg) {pos : Pos} (hg : Gl X "int" := by rfl) (hm : X.mg = mg := by rfl) : PE X (.Name "int" pos) (tC (.ty "int")) := pe_bltn hg (hm ▸ T.int) (by decide +kernel) rfl
theorem pe_ty_bool {X : Cx} {mg : Str → Option Value} (T : Txt mg) {pos : Pos} (hg : Gl X "bool" := by rfl) (hm : X.mg = mg := by rfl) : PE X (.Name "bool" pos) (tC (.ty "bool")) := pe_bltn hg (hm ▸ T.bool) (by decide +kernel) rfl
theorem pe_ty_str {X : Cx} {mg : Str → Option Value} (T : Txt mg) {pos : Pos} (hg : Gl X "str" := by rfl) (hm : X.mg = mg := by rfl) : PE X (.Name "str" pos) (tC (.ty "str")) := pe_bltn hg (hm ▸ T.str) (by decide +kernel) rfl
theorem pe_ty_tuple {X : Cx} {mg : Str → Option Value} (T : Txt mg) {pos : Pos} (hg : Gl X "tuple" := by rfl) (hm : X.mg = mg := by rfl) : PE X (.Name "tuple" pos) (tC (.ty "tuple")) := pe_bltn hg (hm ▸ T.tuple) (by decide +kernel) rfl

abbrev s_is_integer : Stmt := top 7
abbrev N_is_integer : List Str := ["thing"]
theorem sc_is_integer : FnScope N_is_integer ["thing"] (defScope s_is_integer) := ⟨rfl, rfl, rfl, by decide +kernel, rfl, by decide +kernel, by decide +kernel⟩
def spIsInteger : Sp := fun vs H Q _ => ∃ x, vs = [x] ∧ Any H x ∧ Q (.bl (isI x)) H
abbrev s_is_number : Stmt := top 8
abbrev N_is_number : List Str := ["thing"]
theorem sc_is_number : FnScope N_is_number ["thing"] (defScope s_is_number) := ⟨rfl, rfl, rfl, by decide +kernel, rfl, by decide +kernel, by decide +kernel⟩
def isN : V → Bool
  | .int i => decide (0 ≤ i)
  | _ => false
def spIsNumber : Sp := fun vs H Q _ => ∃ x, vs = [x] ∧ Any H x ∧ Q (.bl (isN x)) H
section
variable {P : Program} {w : World} {K : PySem.W.Frag} {mg : Str → Option Value} {base : Heap}
theorem ok_is_integer {f : Addr} {fd : FuncData} (F : Fun K "is_integer" "is_integer" s_is_integer f fd) (T : Txt mg) : FnOk P w K mg base CX0 1 f fd ["thing"] spIsInteger := by
  refine F.ok sc_is_integer (fun vs H Q E h => ?_) (fun cdv A outer s H vs Q E hr h => ?_)
  · obtain ⟨_, rfl, _⟩ := h
    rfl
  · obtain ⟨x, rfl, hx, k⟩ := h
    refine ⟨_, (pss_one (ps_ret (pe_and (pe_callB call_isi (by rfl) T.isinstance (by decide +kernel) (pa_cons (pv 0) (pa_cons (pe_ty_int T) pa_nil))) (pe_one (pe_not (pe_callB call_isi (by rfl) T.isinstance (by decide +kernel) (pa_cons (pv 0) (pa_cons (pe_ty_bool T) pa_nil)))))))), ?_⟩
    refine ⟨_, rfl, ?_⟩
    dsimp only [tCons, tNil, tC]
    refine isi_int hx ⟨_, rfl, ?_⟩
    have key : ∀ (b : Bool), b = (isI x || (isB x)) → if b = true then ((tNotV (tCB (rIsi K) (tCons (tVar 0) (tCons (tC (.ty "bool")) tNil)))) (start N_is_integer [x]) H Q) else Q (.bl false) H := by
      intro b hb
      cases b with
      | false =>
        refine iteF ?_
        cases x <;> simp [isI, isB] at hb <;> exact k
      | true =>
        refine iteT ?_
        refine ⟨_, rfl, ?_⟩
        dsimp only [tCons, tNil, tC]
        refine isi_bool hx ⟨_, rfl, ?_⟩
        cases x <;> simp [isI, isB] at hb <;> exact k
    exact key _ rfl
theorem ok_is_number {f : Addr} {fd : FuncData} (F : Fun K "is_number" "is_number" s_is_number f fd) (T : Txt mg) (D_is_integer : Dn P w K mg base CX0 1 "is_integer" ["thing"] spIsInteger) : FnOk P w K mg base CX0 2 f fd ["thing"] spIsNumber := by
  refine F.ok sc_is_number (fun vs H Q E h => ?_) (fun cdv A outer s H vs Q E hr h => ?_)
  · obtain ⟨_, rfl, _⟩ := h
    rfl
  · obtain ⟨x, rfl, hx, k⟩ := h
    refine ⟨_, (pss_one (ps_ret (pe_and (pe_call D_is_integer.ok (hr.mono (by decide)) (by rfl) D_is_integer.g D_is_integer.kp D_is_integer.b .nil pass0 (pa_cons (pv 0) pa_nil)) (pe_one (pe_cmpR op_ge (pv 0) pe_int (nomark _)))))), ?_⟩
    refine ⟨_, rfl, x, rfl, hx, _, rfl, ?_⟩
    cases x with
    | int i => exact iteT ⟨_, rfl, _, _, rfl, rfl, k⟩
    | _ => exact iteF k
end
end K04
/-! ## D3 -/
set_option Elab.async false
set_option linter.all false
set_option maxRecDepth 100000
set_option maxHeartbeats 4000000
namespace K04
open PySem L2 Evl
/-! ### charts and benches as they stand -/
def Rows (H : Hp) (rows : List V) (lens : List Nat) : Prop := rows.length = lens.length ∧ ∀ (i : Nat) (x : V), rows[i]? = some x → ∃ (p : Addr) (xs : List V), x = .ref p ∧ H p = some (.tup xs) ∧ lens[i]? = some xs.length
structure Cht (H : Hp) (x : V) (Z : Nat) (lens : List Nat) : Prop where
  at_ : ∃ (a c : Addr) (l : V) (rows : List V), x = .ref a ∧ H a = some (.tup [l, .ref c]) ∧ H c = some (.tup rows) ∧ Rows H rows lens
  ok : Lens Z lens
  few : lens.length ≤ 3
  low : Z ≤ 20
theorem Rows.mono {H H' : Hp} {rows : List V} {lens : List Nat} (e : Ex H H') (h : Rows H rows lens) : Rows H' rows lens :=
  ⟨h.1, fun i x hi => by obtain ⟨p, xs, a, b, c⟩ := h.2 i x hi; exact ⟨p, xs, a, e _ _ b, c⟩⟩
theorem Cht.mono {H H' : Hp} {x : V} {Z : Nat} {lens : List Nat} (e : Ex H H') (h : Cht H x Z lens) : Cht H' x Z lens := by
  obtain ⟨⟨a, c, l, rows, h1, h2, h3, h4⟩, r1, r2, r3⟩ := h
  exact ⟨⟨a, c, l, rows, h1, e _ _ h2, e _ _ h3, h4.mono e⟩, r1, r2, r3⟩
abbrev Ch := Nat × List Nat
def Chts (H : Hp) (vs : List V) (cs : List Ch) : Prop := vs.length = cs.length ∧ ∀ (i : Nat) (v : V), vs[i]? = some v → ∃ q, cs[i]? = some q ∧ Cht H v q.1 q.2
theorem Chts.mono {H H' : Hp} {vs : List V} {cs : List Ch} (e : Ex H H') (h : Chts H vs cs) : Chts H' vs cs :=
  ⟨h.1, fun i v hi => by obtain ⟨q, a, b⟩ := h.2 i v hi; exact ⟨q, a, b.mono e⟩⟩
structure Bnch (H : Hp) (x : V) (cs : List Ch) (low high top : Int) : Prop where
  at_ : ∃ (a c : Addr) (vs : List V), x = .ref a ∧ H a = some (.tup [.ref c, .int low, .int high, .int top]) ∧ H c = some (.tup vs) ∧ Chts H vs cs
  few : cs.length ≤ 60
theorem Bnch.mono {H H' : Hp} {x : V} {cs : List Ch} {low high top : Int} (e : Ex H H') (h : Bnch H x cs low high top) : Bnch H' x cs low high top := by
  obtain ⟨⟨a, c, vs, h1, h2, h3, h4⟩, r⟩ := h
  exact ⟨⟨a, c, vs, h1, e _ _ h2, e _ _ h3, h4.mono e⟩, r⟩
/-- the height -/
def hgt (cs : List Ch) : Int := (cs.map fun c => (c.1 : Int) - 1).sum
def lay (cs : List Ch) : Int → Int := cs.foldl (fun f c => cv c.1 c.2 f) one
def GoodC (cs : List Ch) : Prop := ∀ c ∈ cs, Lens c.1 c.2 ∧ c.2.length ≤ 3 ∧ c.1 ≤ 20
theorem Chts.good {H : Hp} {vs : List V} {cs : List Ch} (h : Chts H vs cs) : GoodC cs := fun c hc => by
  obtain ⟨i, hi⟩ := List.mem_iff_getElem?.mp hc
  have hl : i < vs.length := by rw [h.1]; exact (List.getElem?_eq_some_iff.mp hi).1
  obtain ⟨q, a, b⟩ := h.2 i vs[i] (List.getElem?_eq_getElem hl)
  rw [hi] at a
  cases a
  exact ⟨b.ok, b.few, b.low⟩
theorem lay_snoc (cs : List Ch) (c : Ch) : lay (cs ++ [c]) = cv c.1 c.2 (lay cs) := by
  unfold lay
  rw [List.foldl_append]
  rfl
theorem hgt_snoc (cs : List Ch) (c : Ch) : hgt (cs ++ [c]) = hgt cs + ((c.1 : Int) - 1) := by
  unfold hgt
  rw [List.map_append, List.sum_append]
  simp
theorem lens_pos {Z : Nat} {l : List Nat} (h : Lens Z l) : 1 ≤ Z := h.pos Z h.mem
theorem hgt_bd : ∀ {cs : List Ch}, GoodC cs → 0 ≤ hgt cs ∧ hgt cs ≤ 19 * cs.length
  | [], _ => by simp [hgt]
  | c :: r, h => by
    have ih := hgt_bd (cs := r) fun x hx => h x (by simp [hx])
    have hc := h c (by simp)
    have := lens_pos hc.1
    unfold hgt at ih ⊢
    simp only [List.map_cons, List.sum_cons, List.length_cons]
    omega
theorem lay_U {cs : List Ch} (h : GoodC cs) : U (lay cs) (hgt cs) := by
  have : ∀ (n : Nat), n ≤ cs.length → U (lay (cs.take n)) (hgt (cs.take n)) := by
    intro n
    induction n with
    | zero => intro _; exact one_U
    | succ n ih =>
      intro hn
      have hlt : n < cs.length := by omega
      have e : cs.take (n + 1) = cs.take n ++ [cs[n]] := by rw [List.take_add_one, List.getElem?_eq_getElem hlt]; rfl
      rw [e, lay_snoc, hgt_snoc]
      have hc := h cs[n] (List.getElem_mem hlt)
      have u := cv_U (Z := (cs[n]).1) (ih (by omega)) (lens := (cs[n]).2) hc.1.le hc.1.par
      have z : hgt (cs.take n) + (((cs[n]).1 : Int)) - 1 = hgt (cs.take n) + ((((cs[n]).1 : Int)) - 1) := by omega
      rw [z] at u
      exact u
  have z := this cs.length (Nat.le_refl _)
  rw [List.take_length] at z
  exact z

abbrev s_height_of : Stmt := top 10
abbrev N_height_of : List Str := ["chart", "row"]
theorem sc_height_of : FnScope N_height_of ["chart"] (defScope s_height_of) := ⟨rfl, rfl, rfl, by decide +kernel, rfl, by decide +kernel, by decide +kernel⟩
def spHeightOf : Sp := fun vs H Q _ => ∃ (x : V) (Z : Nat) (lens : List Nat), vs = [x] ∧ Cht H x Z lens ∧ ∀ H', Ex H H' → Q (.int ((Z : Int) - 1)) H'
theorem spv_heightOf {H : Hp} {x : V} {Z : Nat} {lens : List Nat} (h : Cht H x Z lens) : SpV spHeightOf [x] H (.int ((Z : Int) - 1)) := fun H1 e Q q E => ⟨x, Z, lens, rfl, h.mono e, q⟩
abbrev s_height_sum : Stmt := top 11
abbrev N_height_sum : List Str := ["charts", "chart"]
theorem sc_height_sum : FnScope N_height_sum ["charts"] (defScope s_height_sum) := ⟨rfl, rfl, rfl, by decide +kernel, rfl, by decide +kernel, by decide +kernel⟩
def spHeightSum : Sp := fun vs H Q _ => ∃ (c : Addr) (ws : List V) (cs : List Ch), vs = [.ref c] ∧ H c = some (.tup ws) ∧ Chts H ws cs ∧ cs.length ≤ 60 ∧ ∀ H', Ex H H' → Q (.int (hgt cs)) H'
abbrev s_height : Stmt := top 13
abbrev N_height : List Str := ["bench"]
theorem sc_height : FnScope N_height ["bench"] (defScope s_height) := ⟨rfl, rfl, rfl, by decide +kernel, rfl, by decide +kernel, by decide +kernel⟩
def spHeight : Sp := fun vs H Q _ => ∃ (x : V) (cs : List Ch) (low high top : Int), vs = [x] ∧ Bnch H x cs low high top ∧ ∀ H', Ex H H' → Q (.int (hgt cs)) H'
section
variable {P : Program} {w : World} {K : PySem.W.Frag} {mg : Str → Option Value} {base : Heap}
theorem ok_height_of {f : Addr} {fd : FuncData} (F : Fun K "height_of" "height_of" s_height_of f fd) (T : Txt mg) : FnOk P w K mg base CX0 1 f fd ["chart"] spHeightOf := by
  refine F.ok sc_height_of (fun vs H Q E h => ?_) (fun cdv A outer s H vs Q E hr h => ?_)
  · obtain ⟨_, _, _, rfl, _⟩ := h
    rfl
  · obtain ⟨x, Z, lens, rfl, hx, k⟩ := h
    refine ⟨_, (pss_one (ps_ret (pe_op op_sub (pe_callB (cMax K) (by rfl) T.max (by decide +kernel) (pa_cons (pe_lc (own := [("row", 1)]) (g := (gName 1)) (tt := tYes) rfl sc_height_of.nd (pi_tup (pe_ix (iT K) (pv 0) pe_int (fun _ _ => rfl))) (blkOk_by (own := [("row", 1)]) (N := N_height_of) (sc := defScope s_height_of) (by decide +kernel)) (fun _ _ _ _ _ => pg_name (i := 1) sc_height_of.nd rfl (Or.inl rfl)) (fun _ _ _ _ _ => pts_nil) (fun _ _ _ _ _ => (pe_callB (cLen K) (by rfl) T.len PySem.boot_len (pa_cons (pv 1) pa_nil)))) pa_nil)) pe_int))), ?_⟩
    obtain ⟨⟨a, c, l, rows, rfl, ha, hc, hrw⟩, ok, few, low⟩ := hx
    refine s_ret (ev_op (ev_maxN (ns := lens.map fun (z : Nat) => (z : Int)) (m := (Z : Int)) (el_lcT (xs := rows) (a := c) (ev_ixT (ev_var rfl) ev_c (st_of ha) rfl) (st_of hc) ?_ ?_ (fun x => rfl) ?_) ?_ ?_) ev_c rv_I0) fun H1 e => k H1 e
    · rw [hrw.1]; omega
    · rw [hrw.1]; simp
    · intro i x H1 e hi
      obtain ⟨p, xs, rfl, hp, hz⟩ := hrw.2 i x hi
      refine ⟨.int xs.length, ?_, ev_lenT (ev_var rfl) (st_of (e _ _ hp))⟩
      rw [List.getElem?_map, List.getElem?_map, hz]
      rfl
    · exact List.mem_map.mpr ⟨Z, ok.mem, rfl⟩
    · intro y hy
      obtain ⟨z, hz, rfl⟩ := List.mem_map.mp hy
      have := ok.le z hz
      omega
theorem ok_height_sum {f : Addr} {fd : FuncData} (F : Fun K "height_sum" "height_sum" s_height_sum f fd) (T : Txt mg) (D_height_of : Dn P w K mg base CX0 1 "height_of" ["chart"] spHeightOf) : FnOk P w K mg base CX0 2 f fd ["charts"] spHeightSum := by
  refine F.ok sc_height_sum (fun vs H Q E h => ?_) (fun cdv A outer s H vs Q E hr h => ?_)
  · obtain ⟨_, _, _, rfl, _⟩ := h
    rfl
  · obtain ⟨c, ws, cs, rfl, hc, hcs, few, k⟩ := h
    refine ⟨_, (pss_one (ps_ret (pe_callB (cSum K) (by rfl) T.sum (by decide +kernel) (pa_cons (pe_lc (own := [("chart", 1)]) (g := (gName 1)) (tt := tYes) rfl sc_height_sum.nd (pi_tup (pv 0)) (blkOk_by (own := [("chart", 1)]) (N := N_height_sum) (sc := defScope s_height_sum) (by decide +kernel)) (fun _ _ _ _ _ => pg_name (i := 1) sc_height_sum.nd rfl (Or.inl rfl)) (fun _ _ _ _ _ => pts_nil) (fun _ _ _ _ _ => (pe_call D_height_of.ok (hr.mono (by decide)) (by rfl) D_height_of.g D_height_of.kp D_height_of.b .nil pass0 (pa_cons (pv 1) pa_nil)))) pa_nil)))), ?_⟩
    refine s_ret (ev_sumN (ns := cs.map fun (c : Ch) => (c.1 : Int) - 1) (el_lcT (xs := ws) (a := c) (ev_var rfl) (st_of hc) ?_ ?_ (fun x => rfl) ?_)) fun H1 e => k H1 e
    · rw [hcs.1]; omega
    · rw [hcs.1]; simp
    · intro i x H1 e hi
      obtain ⟨q, hq, hv⟩ := hcs.2 i x hi
      refine ⟨.int ((q.1 : Int) - 1), ?_, ev_call (ea_cons (ev_var rfl) ea_nil) (spv_heightOf (hv.mono e))⟩
      rw [List.getElem?_map, List.getElem?_map, hq]
      rfl
theorem ok_height {f : Addr} {fd : FuncData} (F : Fun K "height" "height" s_height f fd) (T : Txt mg) (D_height_sum : Dn P w K mg base CX0 2 "height_sum" ["charts"] spHeightSum) : FnOk P w K mg base CX0 3 f fd ["bench"] spHeight := by
  refine F.ok sc_height (fun vs H Q E h => ?_) (fun cdv A outer s H vs Q E hr h => ?_)
  · obtain ⟨_, _, _, _, _, rfl, _⟩ := h
    rfl
  · obtain ⟨x, cs, lo, hi, tp, rfl, hx, k⟩ := h
    refine ⟨_, (pss_one (ps_ret (pe_call D_height_sum.ok (hr.mono (by decide)) (by rfl) D_height_sum.g D_height_sum.kp D_height_sum.b .nil pass0 (pa_cons (pe_ix (iT K) (pv 0) pe_int (fun _ _ => rfl)) pa_nil)))), ?_⟩
    obtain ⟨⟨a, c, vs, rfl, ha, hc, hcs⟩, few⟩ := hx
    refine s_ret (ev_call (ea_cons (ev_ixT (ev_var rfl) ev_c (st_of ha) rfl) ea_nil) (fun H1 e Q q E => ⟨c, vs, cs, rfl, e _ _ hc, hcs.mono e, few, q⟩)) fun H1 e => k H1 e
end
end K04
/-! ## D4 -/
set_option Elab.async false
set_option linter.all false
set_option maxRecDepth 100000
set_option maxHeartbeats 4000000
namespace K04
open PySem L2 Evl
/-! ### counting sizes in a dict -/
def kf (q : Nat × Nat) : Key × V := (Sum.inl (q.1 : Int), V.int (q.2 : Int))
def getc : List (Nat × Nat) → Nat → Nat
  | [], _ => 0
  | q :: r, z => if q.1 = z then q.2 else getc r z
def bump : List (Nat × Nat) → Nat → List (Nat × Nat)
  | [], z => [(z, 1)]
  | q :: r, z => if q.1 = z then (q.1, q.2 + 1) :: r else q :: bump r z
theorem key_eq (a b : Nat) : ((Sum.inl (a : Int) : Key) = Sum.inl (b : Int)) ↔ a = b := ⟨fun h => by have := Sum.inl.inj h; omega, fun h => by rw [h]⟩
theorem getc_val (L : List (Nat × Nat)) (z : Nat) : (valV (L.map kf) (Sum.inl (z : Int) : Key)).getD (.int 0) = .int (getc L z : Int) := by
  induction L with
  | nil => rfl
  | cons q r ih =>
    rw [List.map_cons]
    by_cases c : q.1 = z
    · rw [valV_pos (p := kf q) ((key_eq _ _).mpr c)]
      show V.int (q.2 : Int) = _
      unfold getc
      rw [if_pos c]
    · rw [valV_neg (p := kf q) (fun h => c ((key_eq _ _).mp h)), ih]
      conv => rhs; unfold getc
      rw [if_neg c]
theorem bump_keys (L : List (Nat × Nat)) (z : Nat) : ∀ a ∈ (bump L z).map (·.1), a ∈ L.map (·.1) ∨ a = z := by
  induction L with
  | nil => intro a h; simp [bump] at h; exact .inr h
  | cons q r ih =>
    intro a h
    unfold bump at h
    by_cases c : q.1 = z
    · rw [if_pos c] at h
      left; simpa using h
    · rw [if_neg c, List.map_cons] at h
      rcases List.mem_cons.mp h with e | e
      · left; rw [e]; simp
      · rcases ih a e with e | e
        · left; rw [List.map_cons]; exact List.mem_cons_of_mem _ e
        · exact .inr e
theorem bump_nd {L : List (Nat × Nat)} (z : Nat) (h : (L.map (·.1)).Nodup) : ((bump L z).map (·.1)).Nodup := by
  induction L with
  | nil => simp [bump]
  | cons q r ih =>
    rw [List.map_cons, List.nodup_cons] at h
    unfold bump
    by_cases c : q.1 = z
    · rw [if_pos c, List.map_cons, List.nodup_cons]; exact h
    · rw [if_neg c, List.map_cons, List.nodup_cons]
      refine ⟨fun hm => ?_, ih h.2⟩
      rcases bump_keys r z _ hm with e | e
      · exact h.1 e
      · exact c e
theorem valV_none {L : List (Nat × Nat)} {z : Nat} (h : z ∉ L.map (·.1)) : valV (L.map kf) (Sum.inl (z : Int) : Key) = none := by
  induction L with
  | nil => rfl
  | cons q r ih =>
    rw [List.map_cons, List.mem_cons] at h
    rw [List.map_cons, valV_neg (p := kf q) (fun e => h (.inl ((key_eq _ _).mp e).symm)), ih (fun e => h (.inr e))]
theorem putK_bump {L : List (Nat × Nat)} (z : Nat) (nd : (L.map (·.1)).Nodup) : putK (L.map kf) (Sum.inl (z : Int) : Key) (.int ((getc L z : Int) + 1)) = (bump L z).map kf := by
  by_cases hz : z ∈ L.map (·.1)
  · have hany : ((L.map kf).any fun kv => decide (kv.1 = (Sum.inl (z : Int) : Key))) = true := by
      obtain ⟨q, hq, e⟩ := List.mem_map.mp hz
      rw [List.any_eq_true]
      exact ⟨kf q, List.mem_map.mpr ⟨q, hq, rfl⟩, decide_eq_true ((key_eq _ _).mpr e)⟩
    unfold putK
    rw [if_pos hany]
    clear hany
    induction L with
    | nil => simp at hz
    | cons q r ih =>
      rw [List.map_cons, List.nodup_cons] at nd
      by_cases c : q.1 = z
      · have hr : ∀ p ∈ r.map kf, (if p.1 = (Sum.inl (z : Int) : Key) then (p.1, V.int ((getc (q :: r) z : Int) + 1)) else p) = p := by
          intro p hp
          obtain ⟨u, hu, rfl⟩ := List.mem_map.mp hp
          rw [if_neg]
          intro e
          have := (key_eq _ _).mp e
          exact nd.1 (by rw [c, ← this]; exact List.mem_map.mpr ⟨u, hu, rfl⟩)
        rw [List.map_cons, List.map_cons, List.map_congr_left hr, List.map_id']
        unfold bump getc
        rw [if_pos c, if_pos c, List.map_cons]
        show (if (Sum.inl (q.1 : Int) : Key) = Sum.inl (z : Int) then _ else _) :: _ = _
        rw [if_pos ((key_eq _ _).mpr c)]
        rfl
      · have hz' : z ∈ r.map (·.1) := by
          rw [List.map_cons, List.mem_cons] at hz
          rcases hz with e | e
          · exact absurd e.symm c
          · exact e
        have := ih nd.2 hz'
        have e1 : getc (q :: r) z = getc r z := by
          conv => lhs; unfold getc
          rw [if_neg c]
        rw [e1, List.map_cons, List.map_cons, this]
        conv => rhs; unfold bump
        rw [if_neg c, List.map_cons]
        congr 1
        show (if (Sum.inl (q.1 : Int) : Key) = Sum.inl (z : Int) then _ else _) = _
        rw [if_neg fun e => c ((key_eq _ _).mp e)]
  · rw [putK_new _ (valV_none hz)]
    have e0 : getc L z = 0 := by
      clear nd
      induction L with
      | nil => rfl
      | cons q r ih =>
        rw [List.map_cons, List.mem_cons] at hz
        unfold getc
        rw [if_neg (fun e => hz (.inl e.symm)), ih (fun e => hz (.inr e))]
    have e1 : bump L z = L ++ [(z, 1)] := by
      clear nd e0
      induction L with
      | nil => rfl
      | cons q r ih =>
        rw [List.map_cons, List.mem_cons] at hz
        unfold bump
        rw [if_neg (fun e => hz (.inl e.symm)), ih (fun e => hz (.inr e))]
        rfl
    rw [e0, e1, List.map_append]
    rfl
/-- L counts the sizes of l -/
structure Cnt (L : List (Nat × Nat)) (l : List Nat) : Prop where
  nd : (L.map (·.1)).Nodup
  sum : ∀ F : Nat → Int, (L.map fun q => (q.2 : Int) * F q.1).sum = (l.map F).sum
  mem : ∀ q ∈ L, q.1 ∈ l ∧ q.2 ≤ l.length
  len : L.length ≤ l.length
theorem bump_sum (L : List (Nat × Nat)) (z : Nat) (F : Nat → Int) : ((bump L z).map fun q => (q.2 : Int) * F q.1).sum = (L.map fun q => (q.2 : Int) * F q.1).sum + F z := by
  induction L with
  | nil => simp [bump]
  | cons q r ih =>
    unfold bump
    by_cases c : q.1 = z
    · rw [if_pos c, List.map_cons, List.map_cons, List.sum_cons, List.sum_cons]
      show ((q.2 + 1 : Nat) : Int) * F q.1 + _ = _
      rw [c]
      have : ((q.2 + 1 : Nat) : Int) * F z = (q.2 : Int) * F z + F z := by rw [Int.natCast_add, Int.add_mul]; simp
      rw [this]
      omega
    · rw [if_neg c, List.map_cons, List.map_cons, List.sum_cons, List.sum_cons, ih]
      omega
theorem bump_mem (L : List (Nat × Nat)) (z : Nat) : ∀ q ∈ bump L z, (q.1 = z ∨ ∃ p ∈ L, p.1 = q.1) ∧ (q.2 = 1 ∨ ∃ p ∈ L, q.2 ≤ p.2 + 1) := by
  induction L with
  | nil => intro q h; simp [bump] at h; subst h; exact ⟨.inl rfl, .inl rfl⟩
  | cons a r ih =>
    intro q h
    unfold bump at h
    by_cases c : a.1 = z
    · rw [if_pos c] at h
      rcases List.mem_cons.mp h with e | e
      · subst e; exact ⟨.inl c, .inr ⟨a, by simp, Nat.le_refl _⟩⟩
      · exact ⟨.inr ⟨q, by simp [e], rfl⟩, .inr ⟨q, by simp [e], by omega⟩⟩
    · rw [if_neg c] at h
      rcases List.mem_cons.mp h with e | e
      · subst e; exact ⟨.inr ⟨q, by simp, rfl⟩, .inr ⟨q, by simp, by omega⟩⟩
      · obtain ⟨h1, h2⟩ := ih q e
        refine ⟨?_, ?_⟩
        · rcases h1 with h1 | ⟨p, hp, e⟩
          · exact .inl h1
          · exact .inr ⟨p, by simp [hp], e⟩
        · rcases h2 with h1 | ⟨p, hp, e⟩
          · exact .inl h1
          · exact .inr ⟨p, by simp [hp], e⟩
theorem bump_len (L : List (Nat × Nat)) (z : Nat) : (bump L z).length ≤ L.length + 1 := by
  induction L with
  | nil => simp [bump]
  | cons a r ih =>
    unfold bump
    split
    · simp
    · simp; omega
theorem Cnt.nil : Cnt [] [] := ⟨by simp, fun F => rfl, fun q h => by simp at h, Nat.le_refl _⟩
theorem Cnt.bump {L : List (Nat × Nat)} {l : List Nat} (c : Cnt L l) (z : Nat) : Cnt (bump L z) (l ++ [z]) := by
  refine ⟨bump_nd z c.nd, fun F => ?_, fun q hq => ?_, ?_⟩
  · rw [bump_sum, c.sum, List.map_append, List.sum_append]; simp
  · obtain ⟨h1, h2⟩ := bump_mem L z q hq
    refine ⟨?_, ?_⟩
    · rcases h1 with e | ⟨p, hp, e⟩
      · rw [e]; simp
      · rw [← e]; have := (c.mem p hp).1; simp [this]
    · rw [List.length_append, List.length_singleton]
      rcases h2 with e | ⟨p, hp, e⟩
      · omega
      · have := (c.mem p hp).2; omega
  · have := bump_len L z
    have := c.len
    rw [List.length_append, List.length_singleton]
    omega
abbrev s_chain_sizes : Stmt := top 15
abbrev N_chain_sizes : List Str := ["chart", "counts", "row"]
theorem sc_chain_sizes : FnScope N_chain_sizes ["chart"] (defScope s_chain_sizes) := ⟨rfl, rfl, rfl, by decide +kernel, rfl, by decide +kernel, by decide +kernel⟩
/-- a list of pairs (size, many) -/
def Prs (H : Hp) (xs : List V) (L : List (Nat × Nat)) : Prop := xs.length = L.length ∧ ∀ (i : Nat) (x : V), xs[i]? = some x → ∃ (t : Addr) (q : Nat × Nat), x = .ref t ∧ L[i]? = some q ∧ H t = some (.tup [.int q.1, .int q.2])
def spChainSizes : Sp := fun vs H Q _ => ∃ (x : V) (Z : Nat) (lens : List Nat), vs = [x] ∧ Cht H x Z lens ∧
  ∀ (L : List (Nat × Nat)) (p : Addr) (xs : List V) (H' : Hp), Cnt L lens → Ex H H' → H p = none → H' p = some (.lst xs) → Prs H' xs L → Q (.ref p) H'
section
variable {P : Program} {w : World} {K : PySem.W.Frag} {mg : Str → Option Value} {base : Heap}
theorem ok_chain_sizes {f : Addr} {fd : FuncData} (F : Fun K "chain_sizes" "chain_sizes" s_chain_sizes f fd) (T : Txt mg) : FnOk P w K mg base CX0 1 f fd ["chart"] spChainSizes := by
  refine F.ok sc_chain_sizes (fun vs H Q E h => ?_) (fun cdv A outer s H vs Q E hr h => ?_)
  · obtain ⟨_, _, _, rfl, _⟩ := h
    rfl
  · obtain ⟨x, Z, lens, rfl, hx, k⟩ := h
    have hu := hu_of hr
    refine ⟨_, (pss_cons (ps_set (i := 1) sc_chain_sizes.nd rfl (Or.inl rfl) pe_dnewK)
    (pss_cons (ps_for PassesOwn.never rfl (pi_tup (pe_ix (iT K) (pv 0) pe_int (fun _ _ => rfl))) (pg_name (i := 2) sc_chain_sizes.nd rfl (Or.inl rfl))
       (pss_one (ps_dput hu (pv 1) (pe_callB (cLen K) (by rfl) T.len PySem.boot_len (pa_cons (pv 2) pa_nil)) (pe_op op_add (pe_dget2 hu (pv 1) (pe_callB (cLen K) (by rfl) T.len PySem.boot_len (pa_cons (pv 2) pa_nil)) pe_int ⟨by rfl, by rfl, by rfl, by rfl⟩) pe_int) rfl)))
    (pss_one (ps_ret (LiI.pe_listItems rfl (pv 1) (by rfl) T.list (by decide +kernel)))))), ?_⟩
    obtain ⟨⟨a, c, l, rows, rfl, ha, hc, hrw⟩, ok, few, low⟩ := hx
    intro d hd
    refine s_forT (a := c) (xs := rows) (ev_ixT (ev_var rfl) ev_c (st_of (Ex.new hd _ _ ha)) rfl) (st_of (Ex.new hd _ _ hc)) (fun i σ H' => ∃ (L : List (Nat × Nat)) (v : Option V), σ = [some (.ref a), some (.ref d), v] ∧ Cnt L (lens.take i) ∧ Ex H H' ∧ H' d = some (.dK (L.map kf)))
      (fun H1 e => ⟨[], none, rfl, Cnt.nil, (Ex.new hd).trans e, e _ _ upd_same⟩) ?_ ?_ ?_
    · rintro i σ H' _ ⟨L, v, rfl, _, e, _⟩
      exact st_of (e _ _ hc)
    · rintro i x σ H' hi ⟨L, v, rfl, hL, e, hD⟩
      obtain ⟨p, xs, rfl, hp, hz⟩ := hrw.2 i x hi
      have hLl : L.length < sizeLine := by
        have := hL.len
        rw [List.length_take] at this
        exact sz_lt (by omega)
      -- counts[len(row)] = counts.get(len(row), 0) + 1
      refine ⟨_, rfl, d, rfl, .inl ⟨_, .inl hD⟩, _, rfl, p, xs, rfl, .inr (st_of (e _ _ hp)), _, DGet.k (k := Sum.inl (xs.length : Int)) hD, ?_⟩
      rw [getc_val]
      refine ⟨_, _, rfl, rfl, _, rfl, _, rfl, p, xs, rfl, .inr (st_of (e _ _ hp)), d, _, rfl, DPut.k (k := Sum.inl (xs.length : Int)) hD (by rw [List.length_map]; exact hLl), ?_⟩
      refine ⟨bump L xs.length, _, rfl, ?_, e.mut hd, ?_⟩
      · have e1 : lens.take (i + 1) = lens.take i ++ [xs.length] := by rw [List.take_add_one, hz]; rfl
        rw [e1]
        exact hL.bump _
      · rw [upd_same]
        exact congrArg (fun z => some (HO.dK z)) (putK_bump xs.length hL.nd)
    · rintro σ H' ⟨L, v, rfl, hL, e, hD⟩
      rw [hrw.1, List.take_length] at hL
      refine ⟨_, rfl, d, _, rfl, hD, fun H2 p ts e2 hp hts hpt hl hpr => ?_⟩
      refine k L p _ H2 hL (e.trans e2) (fresh_back e hp) hl ?_
      have hlen : ts.length = L.length := by
        have := hpr.length
        rw [List.length_map] at this
        exact this
      refine ⟨by rw [List.length_map]; exact hlen, fun i x hi => ?_⟩
      rw [List.getElem?_map] at hi
      cases ht : ts[i]? with
      | none => rw [ht] at hi; cases hi
      | some t =>
        rw [ht] at hi
        obtain ⟨y, hy, hq⟩ := LiI.paired_get hpr ht
        rw [List.getElem?_map] at hy
        cases hq' : L[i]? with
        | none => rw [hq'] at hy; cases hy
        | some q =>
          rw [hq'] at hy
          cases hy
          exact ⟨t, q, (Option.some.inj hi).symm, rfl, hq⟩
end
end K04
/-! ## D5 -/
set_option Elab.async false
set_option linter.all false
set_option maxRecDepth 100000
set_option maxHeartbeats 4000000
namespace K04
open PySem L2 Evl
abbrev tabV (n : Nat) (f : Int → Int) : List V := (tab n f).map V.int
theorem tab_succ (n : Nat) (f : Int → Int) : tab (n + 1) f = tab n f ++ [f (n : Int)] := by
  unfold tab
  rw [List.range_succ, List.map_append]
  rfl
theorem tabV_succ (n : Nat) (f : Int → Int) : tabV (n + 1) f = tabV n f ++ [.int (f (n : Int))] := by
  unfold tabV
  rw [tab_succ, List.map_append]
  rfl
theorem tabV_len (n : Nat) (f : Int → Int) : (tabV n f).length = n := by rw [List.length_map, tab_len]
theorem tabV_get {n : Nat} {f : Int → Int} {k : Nat} (h : k < n) : (tabV n f)[k]? = some (.int (f (k : Int))) := by
  rw [List.getElem?_map, tab_get h]
  rfl
theorem win_neg (z : Nat) (L : List Int) : win z (ix L) (-1) = 0 := by
  induction z with
  | zero => rfl
  | succ z ih => rw [win_succ, ih, ix_neg _ _ (by omega)]; rfl
theorem get_D {L : List Int} {i : Nat} (h : i < L.length) : (L.map V.int)[i]? = some (.int (L.getD i 0)) := by
  rw [List.getElem?_map, List.getElem?_eq_getElem h, List.getD_eq_getElem?_getD, List.getElem?_eq_getElem h]
  rfl
abbrev s_slid : Stmt := top 16
abbrev N_slid : List Str := ["layers", "size", "out", "total", "rank"]
theorem sc_slid : FnScope N_slid ["layers", "size"] (defScope s_slid) := ⟨rfl, rfl, rfl, by decide +kernel, rfl, by decide +kernel, by decide +kernel⟩
def spSlid : Sp := fun vs H Q _ => ∃ (a : Addr) (z : Nat) (L : List Int), vs = [.ref a, .int z] ∧ H a = some (.tup (L.map V.int)) ∧ (1 ≤ z ∧ z ≤ 20) ∧ L.length ≤ 2000 ∧
  ∀ (p : Addr) (H' : Hp), Ex H H' → H p = none → H' p = some (.lst (tabV (L.length + z - 1) (win z (ix L)))) → Q (.ref p) H'
section
variable {P : Program} {w : World} {K : PySem.W.Frag} {mg : Str → Option Value} {base : Heap}
theorem ok_slid {f : Addr} {fd : FuncData} (F : Fun K "slid" "slid" s_slid f fd) (T : Txt mg) : FnOk P w K mg base CX0 1 f fd ["layers", "size"] spSlid := by
  refine F.ok sc_slid (fun vs H Q E h => ?_) (fun cdv A outer s H vs Q E hr h => ?_)
  · obtain ⟨_, _, _, rfl, _⟩ := h
    rfl
  · obtain ⟨a, z, L, rfl, ha, hz, hl, k⟩ := h
    refine ⟨_, (pss_cons (ps_set (i := 2) sc_slid.nd rfl (Or.inl rfl) (pe_lst pa_nil))
    (pss_cons (ps_set (i := 3) sc_slid.nd rfl (Or.inl rfl) pe_int)
    (pss_cons (ps_for PassesOwn.never rfl (pi_range1 (by rfl) T.range (pa_cons (pe_op op_sub (pe_op op_add (pe_callB (cLen K) (by rfl) T.len PySem.boot_len (pa_cons (pv 0) pa_nil)) (pv 1)) pe_int) pa_nil)) (pg_name (i := 4) sc_slid.nd rfl (Or.inl rfl))
       (pss_cons (ps_if (pt_cmpR op_lt (pv 4) (pe_callB (cLen K) (by rfl) T.len PySem.boot_len (pa_cons (pv 0) pa_nil)) (nomark _))
         (pss_one (ps_set (i := 3) sc_slid.nd rfl (Or.inl rfl) (pe_op op_add (pv 3) (pe_ix (iT K) (pv 0) (pv 4) (fun _ _ => rfl)))))
         pss_nil)
      (pss_cons (ps_if (pt_cmpR op_ge (pv 4) (pv 1) (nomark _))
         (pss_one (ps_set (i := 3) sc_slid.nd rfl (Or.inl rfl) (pe_op op_sub (pv 3) (pe_ix (iT K) (pv 0) (pe_op op_sub (pv 4) (pv 1)) (fun _ _ => rfl)))))
         pss_nil)
      (pss_one (ps_expr (pe_bm PySem.F.plainAttrs_list PySem.F.slot_list_append PySem.F.type_list_append mt_append (pv 2) (pa_cons (pv 3) pa_nil)))))))
    (pss_one (ps_ret (pv 2)))))), ?_⟩
    refine ⟨Nat.zero_le _, fun o ho => ?_⟩
    have ha1 : ∀ {H' : Hp}, Ex H H' → H' a = some (.tup (L.map V.int)) := fun e => e _ _ ha
    refine s_forR1 (n := (L.length : Int) + (z : Int) - 1) (ea_cons (ev_op (ev_op (ev_is (ev_lenT (ev_var rfl) (st_of (Ex.new ho _ _ ha))) (by rw [List.length_map])) (ev_var rfl) rv_I0) ev_c rv_I0) ea_nil) (by omega)
      (fun i σ H' => ∃ v : Option V, σ = [some (.ref a), some (.int z), some (.ref o), some (.int (win z (ix L) ((i : Int) - 1))), v] ∧ Ex H H' ∧ H' o = some (.lst (tabV i (win z (ix L)))))
      (fun H1 e => ⟨none, ?_, (Ex.new ho).trans e, e _ _ upd_same⟩) ?_ ?_
    · rw [show ((0 : Nat) : Int) - 1 = -1 by rfl, win_neg]; rfl
    · rintro i σ H' hi ⟨v, rfl, e, hO⟩
      have hst := slid_step L z i
      -- if rank < len(layers)
      refine q_ifAsg (b := decide (i < L.length)) (v := .int (win z (ix L) ((i : Int) - 1) + (if i < L.length then L.getD i 0 else 0))) (i := 3) ?_ ?_ ?_ ?_
      · refine et_test (ev_is (ev_op (ev_var rfl) (ev_lenT (ev_var rfl) (st_of (ha1 e))) rv_I0) ?_)
        rw [List.length_map]
        simp
      · intro hb
        have hb' : i < L.length := of_decide_eq_true hb
        refine ev_is (ev_op (ev_var rfl) (ev_ixT (ev_var rfl) (ev_var rfl) (st_of (ha1 e)) (atI_nat (get_D hb'))) rv_I0) ?_
        rw [if_pos hb']
      · intro hb
        rw [if_neg (of_decide_eq_false hb)]
        simp
      · intro H1 e1
        refine q_ifAsg (b := decide (z ≤ i)) (v := .int (win z (ix L) (i : Int))) (i := 3) ?_ ?_ ?_ ?_
        · refine et_test (ev_is (ev_op (ev_var rfl) (ev_var rfl) rv_I0) ?_)
          simp
        · intro hb
          have hb' : z ≤ i := of_decide_eq_true hb
          have hlt : i - z < L.length := by omega
          refine ev_is (ev_op (ev_var rfl) (ev_ixT (i := ((i - z : Nat) : Int)) (ev_var rfl) (ev_is (ev_op (ev_var rfl) (ev_var rfl) rv_I0) ?_) (st_of (ha1 (e.trans e1))) (atI_nat (get_D hlt))) rv_I0) ?_
          · show V.int ((i : Int) - (z : Int)) = _
            rw [show ((i - z : Nat) : Int) = (i : Int) - (z : Int) by omega]
          · rw [hst, if_pos hb']
        · intro hb
          rw [hst, if_neg (of_decide_eq_false hb)]
          simp
        · intro H2 e2
          refine s_app (l := o) (xs := tabV i (win z (ix L))) (e2 _ _ (e1 _ _ hO)) (ev_var rfl) (ev_var rfl) (by rw [tabV_len]; omega) fun H3 e3 => ?_
          refine ⟨some (.int (i : Int)), ?_, (((e.trans e1).trans e2).trans e3).mut ho, ?_⟩
          · have e9 : ((i + 1 : Nat) : Int) - 1 = (i : Int) := by omega
            rw [e9]
            rfl
          · rw [upd_same, tabV_succ]
    · rintro σ H' ⟨v, rfl, e, hO⟩
      refine s_ret (ev_var rfl) fun H1 e1 => ?_
      refine k o H1 (e.trans e1) ho ?_
      have e9 : ((L.length : Int) + (z : Int) - 1).toNat = L.length + z - 1 := by omega
      rw [e9] at hO
      exact e1 _ _ hO
end
end K04
/-! ## D6 -/
set_option Elab.async false
set_option linter.all false
set_option maxRecDepth 100000
set_option maxHeartbeats 4000000
namespace K04
open PySem L2 Evl
theorem tab_congr {n : Nat} {f g : Int → Int} (h : ∀ r : Int, 0 ≤ r → r < n → f r = g r) : tab n f = tab n g := by
  unfold tab
  apply List.map_congr_left
  intro k hk
  have := List.mem_range.mp hk
  exact h _ (by omega) (by omega)
theorem tab_set {n : Nat} {f : Int → Int} {k : Nat} (hk : k < n) (v : Int) : (tab n f).set k v = tab n (fun r => if r = (k : Int) then v else f r) := by
  apply List.ext_getElem?
  intro i
  rw [List.getElem?_set]
  by_cases c : i < n
  · rw [tab_get c, tab_get c, tab_len]
    by_cases e : k = i
    · subst e
      rw [if_pos rfl, if_pos hk, if_pos rfl]
    · rw [if_neg e, if_neg (by omega)]
  · rw [List.getElem?_eq_none (by rw [tab_len]; omega), List.getElem?_eq_none (by rw [tab_len]; omega)]
    by_cases e : k = i
    · omega
    · rw [if_neg e]
theorem tabV_set {n : Nat} {f : Int → Int} {k : Nat} (hk : k < n) (v : Int) : (tabV n f).set k (.int v) = tabV n (fun r => if r = (k : Int) then v else f r) := by
  unfold tabV
  rw [← tab_set hk, List.map_set]
theorem tabV_congr {n : Nat} {f g : Int → Int} (h : ∀ r : Int, 0 ≤ r → r < n → f r = g r) : tabV n f = tabV n g := by
  unfold tabV
  rw [tab_congr h]
theorem tabV_zero (n : Nat) : (List.replicate n ([V.int 0] : List V)).flatten = tabV n (fun _ => 0) := by
  induction n with
  | zero => rfl
  | succ n ih =>
    rw [tabV_succ, ← ih, List.replicate_succ']
    simp
theorem win_out {n : Nat} {L : List Int} (hL : L.length = n) (z : Nat) (r : Int) (h : r < 0 ∨ (n : Int) + (z : Int) - 1 ≤ r) : win z (ix L) r = 0 := by
  have : ∀ (j : Nat), j ≤ z → win j (ix L) r = 0 := by
    intro j
    induction j with
    | zero => intro _; rfl
    | succ j ih =>
      intro hj
      rw [win_succ, ih (by omega)]
      have : ix L (r - (j : Int)) = 0 := by
        rcases h with h | h
        · exact ix_neg _ _ (by omega)
        · exact ix_far _ _ (by omega)
      rw [this]; rfl
  exact this z (Nat.le_refl _)
theorem sum_take {α : Type} (L : List α) (g : α → Int) (i : Nat) (q : α) (h : L[i]? = some q) : ((L.take (i + 1)).map g).sum = ((L.take i).map g).sum + g q := by
  rw [List.take_add_one, h, List.map_append, List.sum_append]
  simp
theorem Prs.mono {H H' : Hp} {xs : List V} {L : List (Nat × Nat)} (e : Ex H H') (h : Prs H xs L) : Prs H' xs L :=
  ⟨h.1, fun i x hi => by obtain ⟨t, q, a, b, c⟩ := h.2 i x hi; exact ⟨t, q, a, b, e _ _ c⟩⟩
abbrev s_with_slot : Stmt := top 17
abbrev N_with_slot : List Str := ["layers", "chart", "tall", "out", "size", "many", "start", "rank", "count"]
theorem sc_with_slot : FnScope N_with_slot ["layers", "chart"] (defScope s_with_slot) := ⟨rfl, rfl, rfl, by decide +kernel, rfl, by decide +kernel, by decide +kernel⟩
/-- layers given by f on 0 .. n - 1 -/
def spWithSlot : Sp := fun vs H Q _ => ∃ (a : Addr) (x : V) (n Z : Nat) (lens : List Nat) (f : Int → Int), vs = [.ref a, x] ∧ H a = some (.tup (tabV n f)) ∧ Cht H x Z lens ∧ (1 ≤ n ∧ n ≤ 1500) ∧
  ∀ (p : Addr) (H' : Hp), Ex H H' → H p = none → H' p = some (.tup (tabV (n + Z - 1) (cv Z lens (ix (tab n f))))) → Q (.ref p) H'
section
variable {P : Program} {w : World} {K : PySem.W.Frag} {mg : Str → Option Value} {base : Heap}
theorem ok_with_slot {f : Addr} {fd : FuncData} (F : Fun K "with_slot" "with_slot" s_with_slot f fd) (T : Txt mg) (D_height_of : Dn P w K mg base CX0 1 "height_of" ["chart"] spHeightOf)
    (D_chain_sizes : Dn P w K mg base CX0 1 "chain_sizes" ["chart"] spChainSizes) (D_slid : Dn P w K mg base CX0 1 "slid" ["layers", "size"] spSlid) : FnOk P w K mg base CX0 2 f fd ["layers", "chart"] spWithSlot := by
  refine F.ok sc_with_slot (fun vs H Q E h => ?_) (fun cdv A outer s H vs Q E hr h => ?_)
  · obtain ⟨_, _, _, _, _, _, rfl, _⟩ := h
    rfl
  · obtain ⟨a, x, n, Z, lens, f, rfl, ha, hx, hn, k⟩ := h
    refine ⟨_, (pss_cons (ps_set (i := 2) sc_with_slot.nd rfl (Or.inl rfl) (pe_call D_height_of.ok (hr.mono (by decide)) (by rfl) D_height_of.g D_height_of.kp D_height_of.b .nil pass0 (pa_cons (pv 1) pa_nil)))
    (pss_cons (ps_set (i := 3) sc_with_slot.nd rfl (Or.inl rfl) (pe_op op_rep (pe_lst (pa_cons pe_int pa_nil)) (pe_op op_add (pe_callB (cLen K) (by rfl) T.len PySem.boot_len (pa_cons (pv 0) pa_nil)) (pv 2))))
    (pss_cons (ps_for PassesOwn.never rfl (pi_list (pe_call D_chain_sizes.ok (hr.mono (by decide)) (by rfl) D_chain_sizes.g D_chain_sizes.kp D_chain_sizes.b .nil pass0 (pa_cons (pv 1) pa_nil))) (pg_tup rfl (pgs_cons (pg_name (i := 4) sc_with_slot.nd rfl (Or.inl rfl)) (pgs_cons (pg_name (i := 5) sc_with_slot.nd rfl (Or.inl rfl)) pgs_nil)))
       (pss_cons (ps_set (i := 6) sc_with_slot.nd rfl (Or.inl rfl) (pe_op op_fdiv (pe_op op_sub (pe_op op_add (pv 2) pe_int) (pv 4)) pe_int))
      (pss_one (ps_for PassesOwn.never rfl (pi_enum (by rfl) T.enumerate (pa_cons (pe_call D_slid.ok (hr.mono (by decide)) (by rfl) D_slid.g D_slid.kp D_slid.b .nil pass0 (pa_cons (pv 0) (pa_cons (pv 4) pa_nil))) pa_nil)) (pg_tup rfl (pgs_cons (pg_name (i := 7) sc_with_slot.nd rfl (Or.inl rfl)) (pgs_cons (pg_name (i := 8) sc_with_slot.nd rfl (Or.inl rfl)) pgs_nil)))
         (pss_one (ps_asg (pe_op op_add (pe_ix (iL K) (pv 3) (pe_op op_add (pv 6) (pv 7)) (fun _ _ => rfl)) (pe_op op_mul (pv 5) (pv 8))) (pg_sub (pv 3) (pe_op op_add (pv 6) (pv 7)) set_list)))))))
    (pss_one (ps_ret (pe_callTy (cTup K) (by rfl) T.tuple (by decide +kernel) (pa_cons (pv 3) pa_nil))))))), ?_⟩
    have hZ := lens_pos hx.ok
    have hZ20 := hx.low
    have hlm : (tabV n f).length = n := tabV_len n f
    refine s_asg (ev_call (ea_cons (ev_var rfl) ea_nil) (spv_heightOf hx)) fun H1 e1 => ?_
    -- out = [0] * (len(layers) + tall)
    refine ⟨by show 1 ≤ sizeLine; decide, fun q hq => ?_⟩
    refine ⟨_, rfl, a, _, rfl, .inr (st_of (Ex.new hq _ _ (e1 _ _ ha))), _, rfl, _, _, rfl, rfl, q, _, _, rfl, rfl, upd_same, by rw [hlm]; omega, by rw [hlm]; omega, ?_, fun o ho => ?_⟩
    · show 1 * _ ≤ _
      rw [hlm]
      exact sz_of (by omega)
    have eN : (((tabV n f).length : Int) + ((Z : Int) - 1)).toNat = n + Z - 1 := by rw [hlm]; omega
    rw [eN, tabV_zero]
    have ho0 : H o = none := fresh_back (e1.trans (Ex.new hq)) ho
    have e2 : Ex H (upd (upd H1 q (.lst [.int 0])) o (.lst (tabV (n + Z - 1) fun _ => 0))) := (e1.trans (Ex.new hq)).mut ho0
    generalize hH2 : upd (upd H1 q (.lst [.int 0])) o (.lst (tabV (n + Z - 1) fun _ => 0)) = H2
    rw [hH2] at e2
    have hO2 : H2 o = some (.lst (tabV (n + Z - 1) fun _ => 0)) := by rw [← hH2]; exact upd_same
    -- for size, many in chain_sizes(chart)
    refine ⟨_, rfl, x, Z, lens, rfl, hx.mono e2, fun L p xs H3 hL e3 hp hpl hpr => ⟨p, rfl, ⟨_, sq_of hpl⟩, ?_⟩⟩
    have hop : o ≠ p := ne_of_none hO2 hp
    have hp0 : H p = none := fresh_back e2 hp
    refine for_list (K := K) (a := p) (xs := xs) (fun i σ H' => ∃ (g : Int → Int) (v4 v5 v6 v7 v8 : Option V), σ = [some (.ref a), some x, some (.int ((Z : Int) - 1)), some (.ref o), v4, v5, v6, v7, v8] ∧ Ex H H' ∧ H' p = some (.lst xs) ∧ Prs H' xs L ∧
        H' o = some (.lst (tabV (n + Z - 1) g)) ∧ ∀ r : Int, g r = ((L.take i).map fun q => (q.2 : Int) * win q.1 (ix (tab n f)) (r - st Z q.1)).sum)
      ⟨fun _ => 0, none, none, none, none, none, rfl, e2.trans e3, hpl, hpr, e3 _ _ hO2, fun r => rfl⟩ (fun i σ H' _ ⟨_, _, _, _, _, _, _, _, h, _⟩ => sq_of h) ?_ ?_
    · rintro i y σ H' hi ⟨g, v4, v5, v6, v7, v8, rfl, e, hpl', hpr', hO, hg⟩
      obtain ⟨t, qq, rfl, hq2, ht⟩ := hpr'.2 i y hi
      obtain ⟨z, m⟩ := qq
      have hmem := hL.mem _ (List.mem_of_getElem? hq2)
      have hz1 := hx.ok.pos z hmem.1
      have hz2 := hx.ok.le z hmem.1
      have hzp := hx.ok.par z hmem.1
      have hm3 : m ≤ 3 := Nat.le_trans hmem.2 hx.few
      refine ⟨t, _, rfl, st_of ht, rfl, _, _, rfl, _, _, rfl, rfl, ?_⟩
      -- start = (tall + 1 - size) // 2
      have est : ((Z : Int) - 1 + 1 - (z : Int)) / 2 = st Z z := by unfold st; congr 1; omega
      refine q_asg (v := .int (st Z z)) (ev_is (ev_op (ev_op (ev_op (ev_var rfl) ev_c rv_I0) (ev_var rfl) rv_I0) ev_c (rv_I ⟨by omega, by omega⟩)) (congrArg V.int est)) fun H'' e'' => ?_
      replace e := e.trans e''
      replace hpl' := e'' _ _ hpl'
      replace hpr' := hpr'.mono e''
      replace hO := e'' _ _ hO
      clear e'' ht
      have hst : 0 ≤ st Z z ∧ 2 * st Z z = (Z : Int) - (z : Int) := by unfold st; omega
      -- for rank, count in enumerate(slid(layers, size))
      refine ⟨_, rfl, _, rfl, a, z, tab n f, rfl, e _ _ ha, ⟨by omega, by omega⟩, by rw [tab_len]; omega, fun u H4 e4 hu hu4 => ⟨u, _, rfl, sq_of hu4, ?_⟩⟩
      have huo : u ≠ o := (ne_of_none hO hu).symm
      have hup : u ≠ p := (ne_of_none hpl' hu).symm
      rw [tab_len] at hu4
      refine for_it (walk_enum (xs := tabV (n + z - 1) (win z (ix (tab n f))))) (fun j σ H' => ∃ (g' : Int → Int) (v7 v8 : Option V), σ = [some (.ref a), some x, some (.int ((Z : Int) - 1)), some (.ref o), some (.int z), some (.int m), some (.int (st Z z)), v7, v8] ∧ Ex H H' ∧ H' p = some (.lst xs) ∧ Prs H' xs L ∧
          H' u = some (.lst (tabV (n + z - 1) (win z (ix (tab n f))))) ∧ H' o = some (.lst (tabV (n + Z - 1) g')) ∧ ∀ r : Int, g' r = g r + if st Z z ≤ r ∧ r < st Z z + (j : Int) then (m : Int) * win z (ix (tab n f)) (r - st Z z) else 0)
        ⟨g, _, _, rfl, e.trans e4, e4 _ _ hpl', hpr'.mono e4, hu4, e4 _ _ hO, fun r => by rw [if_neg (by omega)]; simp⟩
        (fun j σ H' _ ⟨_, _, _, _, _, _, _, h, _⟩ => sq_of h) ?_ ?_
      · rintro j y σ H5 H6 hj ⟨g', v7, v8, rfl, e5, hpl5, hpr5, hu5, hO5, hg5⟩ ⟨t2, xx, yy, rfl, ht2, rfl, hxx, hyy⟩
        rw [tabV_len] at hj
        cases hxx
        have hyy2 := (tabV_get (f := win z (ix (tab n f))) hj).symm.trans hyy
        cases hyy2
        have hto : t2 ≠ o := (ne_of_none hO5 ht2).symm
        have htp : t2 ≠ p := (ne_of_none hpl5 ht2).symm
        have htu : t2 ≠ u := (ne_of_none hu5 ht2).symm
        refine ⟨t2, _, rfl, st_of upd_same, rfl, _, _, rfl, _, _, rfl, rfl, ?_⟩
        have hk : (st Z z + (j : Int)).toNat < n + Z - 1 := by omega
        have hkI : (((st Z z + (j : Int)).toNat : Nat) : Int) = st Z z + (j : Int) := by omega
        -- out[start + rank] = out[start + rank] + many * count
        refine ⟨_, rfl, _, rfl, _, rfl, _, _, rfl, rfl, o, _, st Z z + (j : Int), .int (g' (st Z z + (j : Int))), rfl, rfl, sq_of (by rw [upd_ne hto.symm]; exact hO5), ?_, ?_⟩
        · rw [← hkI]
          exact atI_nat (tabV_get hk)
        refine ⟨_, rfl, _, rfl, (m : Int), _, rfl, rfl, .inl ⟨by omega, by omega⟩, _, _, rfl, rfl, ?_⟩
        refine ⟨_, rfl, _, rfl, _, rfl, _, _, rfl, rfl, o, _, _, (st Z z + (j : Int)).toNat, rfl, rfl, (by rw [upd_ne hto.symm]; exact hO5), ?_, ?_⟩
        · rw [tabV_len]
          show ixN _ (st Z z + (j : Int)) = _
          have h := ixN_nat hk
          rw [hkI] at h
          exact h
        refine ⟨fun r => if r = st Z z + (j : Int) then g' (st Z z + (j : Int)) + (m : Int) * win z (ix (tab n f)) (j : Int) else g' r, _, _, rfl, ?_, ?_, ?_, ?_, ?_, fun r => ?_⟩
        · exact (e5.mut (fresh_back e5 ht2)).mut ho0
        · rw [upd_ne hop.symm, upd_ne htp.symm]; exact hpl5
        · refine ⟨hpr5.1, fun i x hi => ?_⟩
          obtain ⟨t, q, a1, a2, a3⟩ := hpr5.2 i x hi
          refine ⟨t, q, a1, a2, ?_⟩
          rw [upd_ne (ne_of a3 hO5 (by intro z; cases z)), upd_ne (ne_of_none a3 ht2)]
          exact a3
        · rw [upd_ne huo, upd_ne htu.symm]; exact hu5
        · rw [upd_same]
          refine congrArg (fun l => some (HO.lst l)) ?_
          show (tabV (n + Z - 1) g').set _ (V.int (g' (st Z z + (j : Int)) + (m : Int) * win z (ix (tab n f)) (j : Int))) = _
          rw [tabV_set hk, hkI]
        · show (if r = st Z z + (j : Int) then g' (st Z z + (j : Int)) + (m : Int) * win z (ix (tab n f)) (j : Int) else g' r) = _
          by_cases c : r = st Z z + (j : Int)
          · rw [if_pos c, if_pos (by omega), hg5, if_neg (by omega), c]
            have : st Z z + (j : Int) - st Z z = (j : Int) := by omega
            rw [this]
            omega
          · rw [if_neg c, hg5]
            by_cases c2 : st Z z ≤ r ∧ r < st Z z + (j : Int)
            · rw [if_pos c2, if_pos (by omega)]
            · rw [if_neg c2, if_neg (by omega)]
      · rintro σ H5 ⟨g', v7, v8, rfl, e5, hpl5, hpr5, hu5, hO5, hg5⟩
        refine ⟨g', _, _, _, _, _, rfl, e5, hpl5, hpr5, hO5, fun r => ?_⟩
        rw [sum_take _ _ i _ hq2, hg5, hg]
        congr 1
        rw [tabV_len]
        by_cases c : st Z z ≤ r ∧ r < st Z z + ((n + z - 1 : Nat) : Int)
        · rw [if_pos c]
        · rw [if_neg c]
          show 0 = (m : Int) * win z (ix (tab n f)) (r - st Z z)
          rw [win_out (tab_len n f) z _ (by omega)]
          simp
    · rintro σ H' ⟨g, v4, v5, v6, v7, v8, rfl, e, hpl', hpr', hO, hg⟩
      refine s_retU (eu_tupleL (ev_var rfl) (sq_of hO)) fun r H4 hr4 e4 h4 => ?_
      refine k r H4 (e.trans e4) (fresh_back e hr4) ?_
      rw [h4]
      refine congrArg (fun l => some (HO.tup l)) (tabV_congr fun r _ _ => ?_)
      rw [hg, hpr.1, List.take_length, hL.sum fun z => win z (ix (tab n f)) (r - st Z z)]
      rfl
end
end K04
/-! ## D7 -/
set_option Elab.async false
set_option linter.all false
set_option maxRecDepth 100000
set_option maxHeartbeats 4000000
namespace K04
open PySem L2 Evl
def nOf (cs : List Ch) : Nat := (hgt cs).toNat + 1
abbrev s_layers_of : Stmt := top 18
abbrev N_layers_of : List Str := ["bench", "layers", "chart"]
theorem sc_layers_of : FnScope N_layers_of ["bench"] (defScope s_layers_of) := ⟨rfl, rfl, rfl, by decide +kernel, rfl, by decide +kernel, by decide +kernel⟩
def spLayersOf : Sp := fun vs H Q _ => ∃ (x : V) (cs : List Ch) (low high top : Int), vs = [x] ∧ Bnch H x cs low high top ∧
  ∀ (p : Addr) (H' : Hp), Ex H H' → H p = none → H' p = some (.tup (tabV (nOf cs) (lay cs))) → Q (.ref p) H'
section
variable {P : Program} {w : World} {K : PySem.W.Frag} {mg : Str → Option Value} {base : Heap}
theorem ok_layers_of {f : Addr} {fd : FuncData} (F : Fun K "layers_of" "layers_of" s_layers_of f fd) (T : Txt mg) (D_with_slot : Dn P w K mg base CX0 2 "with_slot" ["layers", "chart"] spWithSlot) : FnOk P w K mg base CX0 3 f fd ["bench"] spLayersOf := by
  refine F.ok sc_layers_of (fun vs H Q E h => ?_) (fun cdv A outer s H vs Q E hr h => ?_)
  · obtain ⟨_, _, _, _, _, rfl, _⟩ := h
    rfl
  · obtain ⟨x, cs, lo, hi, tp, rfl, ⟨⟨a, c, ws, rfl, ha, hc, hcs⟩, few⟩, k⟩ := h
    refine ⟨_, (pss_cons (ps_set (i := 1) sc_layers_of.nd rfl (Or.inl rfl) (pe_tup (pa_cons pe_int pa_nil)))
    (pss_cons (ps_for PassesOwn.never rfl (pi_tup (pe_ix (iT K) (pv 0) pe_int (fun _ _ => rfl))) (pg_name (i := 2) sc_layers_of.nd rfl (Or.inl rfl))
       (pss_one (ps_set (i := 1) sc_layers_of.nd rfl (Or.inl rfl) (pe_call D_with_slot.ok (hr.mono (by decide)) (by rfl) D_with_slot.g D_with_slot.kp D_with_slot.b .nil pass0 (pa_cons (pv 1) (pa_cons (pv 2) pa_nil))))))
    (pss_one (ps_ret (pv 1))))), ?_⟩
    have good := hcs.good
    refine q_asgU (xs := tabV 1 one) (eu_tup (vs := [.int 1]) (ea_cons ev_c ea_nil) (by decide)) fun p0 H1 hp0 e1 h1 => ?_
    refine s_forT (a := c) (xs := ws) (ev_ixT (ev_var rfl) ev_c (st_of (e1 _ _ ha)) rfl) (st_of (e1 _ _ hc)) (fun i σ H' => ∃ (p : Addr) (v : Option V), σ = [some (.ref a), some (.ref p), v] ∧ Ex H H' ∧ H p = none ∧ H' p = some (.tup (tabV (nOf (cs.take i)) (lay (cs.take i)))))
      (fun H2 e2 => ⟨p0, none, rfl, e1.trans e2, hp0, e2 _ _ h1⟩) ?_ ?_ ?_
    · rintro i σ H' _ ⟨p, v, rfl, e, _⟩
      exact st_of (e _ _ hc)
    · rintro i x σ H' hi ⟨p, v, rfl, e, hp, hL⟩
      obtain ⟨q, hq, hv⟩ := hcs.2 i x hi
      have gi : GoodC (cs.take i) := fun z hz => good z (List.mem_of_mem_take hz)
      have hb := hgt_bd gi
      have hlt : (cs.take i).length ≤ 60 := by rw [List.length_take]; omega
      have hZ := lens_pos hv.ok
      refine ⟨_, rfl, _, rfl, p, x, nOf (cs.take i), q.1, q.2, lay (cs.take i), rfl, hL, hv.mono e, by unfold nOf; omega, fun p' H2 e2 hp' h2 => ?_⟩
      refine ⟨p', _, rfl, e.trans e2, fresh_back e hp', ?_⟩
      have et : cs.take (i + 1) = cs.take i ++ [q] := by rw [List.take_add_one, hq]; rfl
      have en : nOf (cs.take i) + q.1 - 1 = nOf (cs.take (i + 1)) := by
        rw [et]
        unfold nOf
        rw [hgt_snoc]
        omega
      have ef : ix (tab (nOf (cs.take i)) (lay (cs.take i))) = lay (cs.take i) := by
        funext r
        exact ix_tab (lay_U gi) _ (by unfold nOf; omega) r
      rw [en, ef, ← lay_snoc, ← et] at h2
      exact h2
    · rintro σ H' ⟨p, v, rfl, e, hp, hL⟩
      rw [hcs.1, List.take_length] at hL
      refine s_ret (ev_var rfl) fun H2 e2 => ?_
      exact k p H2 (e.trans e2) hp (e2 _ _ hL)
end
end K04
/-! ## D8 -/
set_option Elab.async false
set_option linter.all false
set_option maxRecDepth 100000
set_option maxHeartbeats 4000000
namespace K04
open PySem L2 Evl
/-! ### the error -/
abbrev s_nu_init : Stmt := inClass (top 3) 0
abbrev N_nu_init : List Str := ["self", "word", "at"]
theorem sc_nu_init : FnScope N_nu_init ["self", "word", "at"] (defScope s_nu_init) := ⟨rfl, rfl, rfl, by decide +kernel, rfl, by decide +kernel, by decide +kernel⟩
/-- what the top has of the class NotUsable, at C, its __init__ at fI -/
structure Nu (K : PySem.W.Frag) (mg : Str → Option Value) (C fI : Addr) : Prop where
  oex : OexC K C
  xf : XfC K C
  iC : PySem.W.findIn K (.ref C) "__init__" = some (some (.ref fI))
  tI : PySem.W.typeIn K (.ref fI) = some (.type "function")
  nw : PySem.W.findIn K (.ref C) "word" = some none
  na : PySem.W.findIn K (.ref C) "at" = some none
  gC : mg "NotUsable" = some (.ref C)
  te : PySem.W.exmOne K (.ref C) (.ref C) = some true
def spNuInit (K : PySem.W.Frag) (C : Addr) : Sp := fun vs H Q _ => ∃ (a : Addr) (x y : V), vs = [.ref a, x, y] ∧ OexC K C ∧ PySem.W.findIn K (.ref C) "word" = some none ∧ PySem.W.findIn K (.ref C) "at" = some none ∧ H a = some (exo a C none) ∧
  ∀ dx, H dx = none → dx ≠ a → Q .non (upd (upd (upd H dx (exd dx [("word", x)])) a (exo a C (some dx))) dx (exd dx [("at", y), ("word", x)]))
abbrev s_require : Stmt := top 5
abbrev N_require : List Str := ["good", "word"]
theorem sc_require : FnScope N_require ["good", "word"] (defScope s_require) := ⟨rfl, rfl, rfl, by decide +kernel, rfl, by decide +kernel, by decide +kernel⟩
/-- the error's own dict -/
abbrev nuD (x : Str) : HO := .xd [("at", .int (-1)), ("word", .str x)]
def spRequire (C : Addr) : Sp := fun vs H Q E => ∃ (g : Bool) (x : Str), vs = [.bl g, .str x] ∧ (g = true → Q .non H) ∧ (g = false → ∀ d H', Ex H H' → H' d = some (nuD x) → E (.ref C) (some d) H')
section
variable {P : Program} {w : World} {K : PySem.W.Frag} {mg : Str → Option Value} {base : Heap}
theorem ok_nu_init {f C : Addr} {fd : FuncData} (F : Fun K "__init__" "NotUsable.__init__" s_nu_init f fd) : FnOk P w K mg base CX0 1 f fd ["self", "word", "at"] (spNuInit K C) := by
  refine F.ok sc_nu_init (fun vs H Q E h => ?_) (fun cdv A outer s H vs Q E hr h => ?_)
  · obtain ⟨_, _, _, rfl, _⟩ := h
    rfl
  · obtain ⟨a, x, y, rfl, T, nw, na, ha, k⟩ := h
    refine ⟨_, pss_cons (ps_ost (pv 0) (pv 1)) (pss_one (ps_ost (pv 0) (pv 2))), ?_⟩
    refine ⟨_, rfl, _, rfl, a, C, rfl, T, nw, .inl ⟨ha, fun dx hdx ne => ?_⟩⟩
    refine ⟨_, rfl, _, rfl, a, C, rfl, T, na, .inr ⟨dx, [("word", x)], upd_same, by rw [upd_ne ne, upd_same], (by show 1 ≤ 900; decide), ?_⟩⟩
    exact k dx hdx ne
theorem ok_require {f C fI : Addr} {fd fdI : FuncData} (F : Fun K "require" "require" s_require f fd) (N : Nu K mg C fI) (FI : Fun K "__init__" "NotUsable.__init__" s_nu_init fI fdI) (bI : Binds K fdI ["self", "word", "at"] []) :
    FnOk P w K mg base (L2.CX P w) 3 f fd ["good", "word"] (spRequire C) := by
  have GI : FnOk P w K mg base CX0 1 fI fdI ["self", "word", "at"] (spNuInit K C) := ok_nu_init FI
  refine F.okX sc_require (fun vs H Q E h => ?_) (fun cdv A outer s H vs Q E hr h => ?_)
  · obtain ⟨_, _, rfl, _⟩ := h
    rfl
  · obtain ⟨g, x, rfl, kT, kF⟩ := h
    refine ⟨_, pss_one (ps_if (pt_not (pt_val (pv 0))) (pss_one (ps_raise (W := fun cls d _ H => E cls d H) rfl (takes_of rfl rfl rfl rfl) (pmk_oex N.oex N.iC N.tI GI hr bI .nil pass0 (by rfl) N.gC (pa_cons (pv 1) (pa_cons (pe_un un_neg pe_int) pa_nil))))) pss_nil), ?_⟩
    refine ⟨_, rfl, _, rfl, ?_⟩
    cases g with
    | true => exact iteF (kT rfl)
    | false =>
      refine iteT ?_
      refine ⟨_, rfl, _, rfl, by show 2 ≤ 1000; decide, fun a ha => ?_⟩
      refine ⟨a, _, _, rfl, N.oex, N.nw, N.na, upd_same, fun dx hdx ne => ⟨rfl, dx, _, ?_, upd_same, ?_, ?_⟩⟩
      · rw [upd_ne ne.symm, upd_same]
      · rw [upd_ne ne] at hdx
        exact hdx
      · refine kF rfl dx _ (fun b o e => ?_) upd_same
        have hdx0 : H dx = none := by rw [upd_ne ne] at hdx; exact hdx
        rw [upd_ne (ne_of_none e hdx0), del_ne (ne_of_none e ha), upd_ne (ne_of_none e hdx0), upd_ne (ne_of_none e ha), upd_ne (ne_of_none e hdx0), upd_ne (ne_of_none e ha)]
        exact e
end
end K04
/-! ## D9 -/
set_option Elab.async false
set_option linter.all false
set_option maxRecDepth 100000
set_option maxHeartbeats 4000000
namespace K04
open PySem L2 Evl
theorem sIx_int {n : Nat} {d : Nat} {v : Int} (h : 0 ≤ v) (h2 : v ≤ n) : HT.sIx n d (some v) = v.toNat := by
  show (if v < 0 then _ else min v.toNat n) = _
  rw [if_neg (by omega)]
  omega
theorem cut_tab {n : Nat} {f : Int → Int} {lo hi : Int} (h0 : 0 ≤ lo) (h1 : lo ≤ hi + 1) (h2 : hi + 1 ≤ n) : cutV (tabV n f) (some lo) (some (hi + 1)) = (rowI lo hi f).map V.int := by
  unfold cutV
  rw [tabV_len, sIx_int h0 (by omega), sIx_int (by omega) (by omega)]
  unfold tabV
  rw [← List.map_drop, ← List.map_take]
  congr 1
  apply List.ext_getElem?
  intro i
  rw [List.getElem?_take]
  unfold rowI
  by_cases c : i < (hi + 1).toNat - lo.toNat
  · rw [if_pos c, List.getElem?_drop, tab_get (by omega), List.getElem?_map, List.getElem?_range (by omega)]
    show some (f ((lo.toNat + i : Nat) : Int)) = some (f (lo + (i : Int)))
    congr 2
    omega
  · rw [if_neg c, List.getElem?_eq_none (by simp; omega)]
abbrev s_how_many : Stmt := top 19
abbrev N_how_many : List Str := ["bench", "low", "high"]
theorem sc_how_many : FnScope N_how_many ["bench"] (defScope s_how_many) := ⟨rfl, rfl, rfl, by decide +kernel, rfl, by decide +kernel, by decide +kernel⟩
structure Bn (H : Hp) (x : V) (cs : List Ch) (low high top : Int) : Prop where
  b : Bnch H x cs low high top
  r : Rng (hgt cs) low high
  t : 1 ≤ top
theorem Bn.mono {H H' : Hp} {x : V} {cs : List Ch} {low high top : Int} (e : Ex H H') (h : Bn H x cs low high top) : Bn H' x cs low high top := ⟨h.b.mono e, h.r, h.t⟩
theorem Bn.good {H : Hp} {x : V} {cs : List Ch} {low high top : Int} (h : Bn H x cs low high top) : GoodC cs := by
  obtain ⟨_, _, _, _, _, _, h4⟩ := h.b.at_
  exact h4.good
theorem Bn.n {H : Hp} {x : V} {cs : List Ch} {low high top : Int} (h : Bn H x cs low high top) : (nOf cs : Int) = hgt cs + 1 ∧ hgt cs ≤ 1140 := by
  have h1 := hgt_bd h.good
  have h2 := h.b.few
  unfold nOf
  omega
theorem et_layers {K : PySem.W.Frag} {te : TE} {σ : L2.St} {H : Hp} {x : V} {cs : List Ch} {low high top : Int} {E : XK} (h : Ev te σ H x) (hb : Bnch H x cs low high top) : EvT' (tCall spLayersOf [] E (tCons te tNil)) σ H (tabV (nOf cs) (lay cs)) := fun H1 e Q q =>
  h H1 e _ fun H2 e2 => ⟨x, cs, low, high, top, rfl, hb.mono (e.trans e2), fun p H' e3 _ h3 => q p H' (e2.trans e3) h3⟩
def spHowMany : Sp := fun vs H Q _ => ∃ (x : V) (cs : List Ch) (low high top : Int), vs = [x] ∧ Bn H x cs low high top ∧ ∀ H', Ex H H' → Q (.int (sumI low high (lay cs))) H'
abbrev s_window_of : Stmt := top 20
abbrev N_window_of : List Str := ["bench", "many", "low", "high", "size", "middle", "least"]
theorem sc_window_of : FnScope N_window_of ["bench", "many"] (defScope s_window_of) := ⟨rfl, rfl, rfl, by decide +kernel, rfl, by decide +kernel, by decide +kernel⟩
def isP : V → Bool
  | .int i => decide (1 ≤ i)
  | _ => false
def spWindowOf (C : Addr) : Sp := fun vs H Q E => ∃ (x y : V) (cs : List Ch) (low high top : Int), vs = [x, y] ∧ Bn H x cs low high top ∧ Any H y ∧
  (∀ many : Int, y = .int many → 1 ≤ many → ∀ p H', Ex H H' → H p = none → H' p = some (.tup [.int (wleast (hgt cs) low high many), .int (wgreat (hgt cs) low high many)]) → Q (.ref p) H') ∧
  (isP y = false → ∀ d H', Ex H H' → H' d = some (nuD "many") → E (.ref C) (some d) H')
abbrev s_spread_of : Stmt := top 21
abbrev N_spread_of : List Str := ["bench", "many", "least", "greatest"]
theorem sc_spread_of : FnScope N_spread_of ["bench", "many"] (defScope s_spread_of) := ⟨rfl, rfl, rfl, by decide +kernel, rfl, by decide +kernel, by decide +kernel⟩
def spreadI (cs : List Ch) (low high many : Int) : Int := if many = 0 then 0 else sumI (wleast (hgt cs) low high many) (wgreat (hgt cs) low high many) (lay cs)
def spSpreadOf (C : Addr) : Sp := fun vs H Q E => ∃ (x y : V) (cs : List Ch) (low high top : Int), vs = [x, y] ∧ Bn H x cs low high top ∧ Any H y ∧
  (∀ many : Int, y = .int many → 0 ≤ many → ∀ H', Ex H H' → Q (.int (spreadI cs low high many)) H') ∧
  (isN y = false → ∀ d H', Ex H H' → H' d = some (nuD "many") → E (.ref C) (some d) H')
abbrev s_weight_of : Stmt := top 22
abbrev N_weight_of : List Str := ["bench"]
theorem sc_weight_of : FnScope N_weight_of ["bench"] (defScope s_weight_of) := ⟨rfl, rfl, rfl, by decide +kernel, rfl, by decide +kernel, by decide +kernel⟩
def spWeightOf : Sp := fun vs H Q _ => ∃ (x : V) (cs : List Ch) (low high top : Int), vs = [x] ∧ Bn H x cs low high top ∧ ∀ H', Ex H H' → Q (.int (spreadI cs low high (2 * top))) H'
section
variable {P : Program} {w : World} {K : PySem.W.Frag} {mg : Str → Option Value} {base : Heap}
theorem ok_how_many {f : Addr} {fd : FuncData} (F : Fun K "how_many" "how_many" s_how_many f fd) (T : Txt mg) (D_layers_of : Dn P w K mg base CX0 3 "layers_of" ["bench"] spLayersOf) : FnOk P w K mg base CX0 4 f fd ["bench"] spHowMany := by
  refine F.ok sc_how_many (fun vs H Q E h => ?_) (fun cdv A outer s H vs Q E hr h => ?_)
  · obtain ⟨_, _, _, _, _, rfl, _⟩ := h
    rfl
  · obtain ⟨x, cs, lo, hi, tp, rfl, B, k⟩ := h
    refine ⟨_, (pss_cons (ps_asg (pe_slice (slT K) (pv 0) (po_some pe_int) (po_some pe_int)) (pg_tup rfl (pgs_cons (pg_name (i := 1) sc_how_many.nd rfl (Or.inl rfl)) (pgs_cons (pg_name (i := 2) sc_how_many.nd rfl (Or.inl rfl)) pgs_nil))))
    (pss_one (ps_ret (pe_callB (cSumT K) (by rfl) T.sum (by decide +kernel) (pa_cons (pe_slice (slT K) (pe_call D_layers_of.ok (hr.mono (by decide)) (by rfl) D_layers_of.g D_layers_of.kp D_layers_of.b .nil pass0 (pa_cons (pv 0) pa_nil)) (po_some (pv 1)) (po_some (pe_op op_add (pv 2) pe_int))) pa_nil))))), ?_⟩
    have hn := B.n
    obtain ⟨r1, r2, r3⟩ := B.r
    obtain ⟨a, c, ws, rfl, ha, hc, hcs⟩ := B.b.at_
    refine et_slT (lo := some 1) (hi := some 3) (et_var (i := 0) rfl ha) (eo_some ev_c) (eo_some ev_c) H (Ex.refl H) _ fun p H1 e1 hp => ?_
    refine ⟨p, _, rfl, st_of hp, rfl, _, _, rfl, _, _, rfl, rfl, ?_⟩
    dsimp only
    refine s_ret (ev_is (ev_sumT (ns := rowI lo hi (lay cs)) ?_) (congrArg V.int (rowI_sum _ _ _))) fun H2 e2 => ?_
    · rw [← cut_tab (n := nOf cs) (by omega) (by omega) (by omega)]
      exact et_slT (et_layers (K := K) (ev_var rfl) (B.b.mono e1)) (eo_some (ev_var rfl)) (eo_some (ev_op (ev_var rfl) ev_c rv_I0))
    · exact k H2 (e1.trans e2)
theorem ok_window_of {f C : Addr} {fd : FuncData} (F : Fun K "window_of" "window_of" s_window_of f fd) (T : Txt mg) (D_require : Dn P w K mg base (L2.CX P w) 3 "require" ["good", "word"] (spRequire C))
    (D_is_number : Dn P w K mg base CX0 2 "is_number" ["thing"] spIsNumber) (D_height : Dn P w K mg base CX0 3 "height" ["bench"] spHeight) : FnOk P w K mg base (L2.CX P w) 4 f fd ["bench", "many"] (spWindowOf C) := by
  refine F.okX sc_window_of (fun vs H Q E h => ?_) (fun cdv A outer s H vs Q E hr h => ?_)
  · obtain ⟨_, _, _, _, _, _, rfl, _⟩ := h
    rfl
  · obtain ⟨x, y, cs, lo, hi, tp, rfl, B, hy, k, kE⟩ := h
    refine ⟨_, (pss_cons (ps_expr (pe_call D_require.ok (hr.mono (by decide)) (by rfl) D_require.g D_require.kp D_require.b .nil (passes_call (takes_of rfl rfl rfl rfl) fun _ _ _ _ h => h) (pa_cons (pe_and (pe_call D_is_number.ok (hr.mono (by decide)) (by rfl) D_is_number.g D_is_number.kp D_is_number.b .nil pass0 (pa_cons (pv 1) pa_nil)) (pe_one (pe_cmpR op_ge (pv 1) pe_int (nomark _)))) (pa_cons pe_str pa_nil))))
    (pss_cons (ps_asg (pe_slice (slT K) (pv 0) (po_some pe_int) (po_some pe_int)) (pg_tup rfl (pgs_cons (pg_name (i := 2) sc_window_of.nd rfl (Or.inl rfl)) (pgs_cons (pg_name (i := 3) sc_window_of.nd rfl (Or.inl rfl)) pgs_nil))))
    (pss_cons (ps_set (i := 4) sc_window_of.nd rfl (Or.inl rfl) (pe_callB cMin2 (by rfl) T.min (by decide +kernel) (pa_cons (pv 1) (pa_cons (pe_op op_add (pe_op op_sub (pv 3) (pv 2)) pe_int) pa_nil))))
    (pss_cons (ps_set (i := 5) sc_window_of.nd rfl (Or.inl rfl) (pe_op op_fdiv (pe_op op_sub (pe_op op_add (pe_call D_height.ok (hr.mono (by decide)) (by rfl) D_height.g D_height.kp D_height.b .nil pass0 (pa_cons (pv 0) pa_nil)) pe_int) (pv 4)) pe_int))
    (pss_cons (ps_set (i := 6) sc_window_of.nd rfl (Or.inl rfl) (pe_callB cMax2 (by rfl) T.max (by decide +kernel) (pa_cons (pv 2) (pa_cons (pe_callB cMin2 (by rfl) T.min (by decide +kernel) (pa_cons (pv 5) (pa_cons (pe_op op_sub (pe_op op_add (pv 3) pe_int) (pv 4)) pa_nil))) pa_nil))))
    (pss_one (ps_ret (pe_tup (pa_cons (pv 6) (pa_cons (pe_op op_sub (pe_op op_add (pv 6) (pv 4)) pe_int) pa_nil)))))))))), ?_⟩
    -- require(is_number(many) and many >= 1, "many")
    refine ⟨_, rfl, y, rfl, hy, isN y, rfl, ?_⟩
    have bad : isP y = false → spRequire C [.bl false, .str "many"] H (fun _ H' => tSeq (tAsg (tSl (rSlA K) (tVar 0) (tPart (tC (.int 1))) (tPart (tC (.int 3)))) (gTup K 2 (gCons (gName 2) (gCons (gName 3) gNil)))) tNext { nx := fun _ H' => Q .non H', rt := Q } (start N_window_of [x, y]) H') E → False → False := fun _ _ z => z
    clear bad
    have fin : ∀ {G : Hp → Prop}, isP y = false → spRequire C [.bl false, .str "many"] H (fun _ H' => G H') E := fun hp => ⟨false, "many", rfl, fun z => (Bool.noConfusion z), fun _ => kE hp⟩
    cases y with
    | int many =>
      by_cases h0 : 0 ≤ many
      · rw [show isN (.int many) = true from decide_eq_true h0]
        refine iteT ⟨_, rfl, _, _, rfl, rfl, ?_⟩
        by_cases h1 : 1 ≤ many
        · refine ⟨decide (1 ≤ many), "many", rfl, fun _ => ?_, fun z => absurd z (by rw [decide_eq_true h1]; decide)⟩
          have hn := B.n
          obtain ⟨r1, r2, r3⟩ := B.r
          obtain ⟨a, c, ws, rfl, ha, hc, hcs⟩ := B.b.at_
          refine et_slT (lo := some 1) (hi := some 3) (et_var (i := 0) rfl ha) (eo_some ev_c) (eo_some ev_c) H (Ex.refl H) _ fun p H1 e1 hp => ?_
          refine ⟨p, _, rfl, st_of hp, rfl, _, _, rfl, _, _, rfl, rfl, ?_⟩
          refine q_asg (v := .int (wsize lo hi many)) (ev_min2 (ev_var rfl) (ev_op (ev_op (ev_var rfl) (ev_var rfl) rv_I0) ev_c rv_I0)) fun H2 e2 => ?_
          refine q_asg (v := .int ((hgt cs + 1 - wsize lo hi many) / 2)) (ev_op (ev_op (ev_op (ev_call (ea_cons (ev_var rfl) ea_nil) fun H3 e3 Q' q' _ => ⟨_, cs, lo, hi, tp, rfl, B.b.mono ((e1.trans e2).trans e3), q'⟩) ev_c rv_I0) (ev_var rfl) rv_I0) ev_c (rv_I ⟨by omega, by omega⟩)) fun H3 e3 => ?_
          refine q_asg (v := .int (wleast (hgt cs) lo hi many)) (ev_max2' (ev_var rfl) (ev_min2 (ev_var rfl) (ev_op (ev_op (ev_var rfl) ev_c rv_I0) (ev_var rfl) rv_I0))) fun H4 e4 => ?_
          refine s_retU (eu_tup (ea_cons (ev_var rfl) (ea_cons (ev_op (ev_op (ev_var rfl) (ev_var rfl) rv_I0) ev_c rv_I0) ea_nil)) (by show 2 ≤ _; decide)) fun q H5 hq e5 h5 => ?_
          have eAll := (((e1.trans e2).trans e3).trans e4)
          exact k many rfl h1 q H5 (eAll.trans e5) (fresh_back eAll hq) h5
        · refine ⟨decide (1 ≤ many), "many", rfl, fun z => absurd (of_decide_eq_true z) h1, fun _ => kE (decide_eq_false h1)⟩
      · rw [show isN (.int many) = false from decide_eq_false h0]
        exact iteF (fin (decide_eq_false (by omega)))
    | non => exact iteF (fin rfl)
    | bl b => exact iteF (fin rfl)
    | str b => exact iteF (fin rfl)
    | ref b => exact iteF (fin rfl)
    | byt b => exact iteF (fin rfl)
    | flt b => exact iteF (fin rfl)
    | ty b => exact iteF (fin rfl)
theorem ok_spread_of {f C : Addr} {fd : FuncData} (F : Fun K "spread_of" "spread_of" s_spread_of f fd) (T : Txt mg) (D_require : Dn P w K mg base (L2.CX P w) 3 "require" ["good", "word"] (spRequire C))
    (D_is_number : Dn P w K mg base CX0 2 "is_number" ["thing"] spIsNumber) (D_window_of : Dn P w K mg base (L2.CX P w) 4 "window_of" ["bench", "many"] (spWindowOf C)) (D_layers_of : Dn P w K mg base CX0 3 "layers_of" ["bench"] spLayersOf) :
    FnOk P w K mg base (L2.CX P w) 5 f fd ["bench", "many"] (spSpreadOf C) := by
  refine F.okX sc_spread_of (fun vs H Q E h => ?_) (fun cdv A outer s H vs Q E hr h => ?_)
  · obtain ⟨_, _, _, _, _, _, rfl, _⟩ := h
    rfl
  · obtain ⟨x, y, cs, lo, hi, tp, rfl, B, hy, k, kE⟩ := h
    refine ⟨_, (pss_cons (ps_expr (pe_call D_require.ok (hr.mono (by decide)) (by rfl) D_require.g D_require.kp D_require.b .nil (passes_call (takes_of rfl rfl rfl rfl) fun _ _ _ _ h => h) (pa_cons (pe_call D_is_number.ok (hr.mono (by decide)) (by rfl) D_is_number.g D_is_number.kp D_is_number.b .nil pass0 (pa_cons (pv 1) pa_nil)) (pa_cons pe_str pa_nil))))
    (pss_cons (ps_if (pt_cmpR op_eq (pv 1) pe_int (nomark _))
       (pss_one (ps_ret pe_int))
       pss_nil)
    (pss_cons (ps_asg (pe_call D_window_of.ok (hr.mono (by decide)) (by rfl) D_window_of.g D_window_of.kp D_window_of.b .nil (passes_call (takes_of rfl rfl rfl rfl) fun _ _ _ _ h => h) (pa_cons (pv 0) (pa_cons (pv 1) pa_nil))) (pg_tup rfl (pgs_cons (pg_name (i := 2) sc_spread_of.nd rfl (Or.inl rfl)) (pgs_cons (pg_name (i := 3) sc_spread_of.nd rfl (Or.inl rfl)) pgs_nil))))
    (pss_one (ps_ret (pe_callB (cSumT K) (by rfl) T.sum (by decide +kernel) (pa_cons (pe_slice (slT K) (pe_call D_layers_of.ok (hr.mono (by decide)) (by rfl) D_layers_of.g D_layers_of.kp D_layers_of.b .nil pass0 (pa_cons (pv 0) pa_nil)) (po_some (pv 2)) (po_some (pe_op op_add (pv 3) pe_int))) pa_nil))))))), ?_⟩
    refine ⟨_, rfl, y, rfl, hy, isN y, "many", rfl, fun hN => ?_, fun hN => kE hN⟩
    obtain ⟨many, rfl, h0⟩ : ∃ many : Int, y = .int many ∧ 0 ≤ many := by
      cases y with
      | int i => exact ⟨i, rfl, of_decide_eq_true hN⟩
      | _ => cases hN
    refine ⟨_, rfl, rfl, _, rfl, ?_⟩
    by_cases hz : many = 0
    · refine ite2 (fun _ => ?_) (fun z => absurd (by rw [hz]; exact decide_eq_true rfl) z)
      have := k many rfl h0 H (Ex.refl H)
      unfold spreadI at this
      rw [if_pos hz] at this
      exact this
    · refine ite2 (fun z => absurd (V.int.inj (of_decide_eq_true z)) hz) (fun _ => ?_)
      refine ⟨_, rfl, _, rfl, x, .int many, cs, lo, hi, tp, rfl, B, hy, fun m2 e2 h1 p H1 e1 hp0 hp => ?_, fun hP => absurd hP (by show ¬ decide (1 ≤ many) = false; rw [decide_eq_true (by omega)]; decide)⟩
      cases e2
      refine ⟨p, _, rfl, st_of hp, rfl, _, _, rfl, _, _, rfl, rfl, ?_⟩
      have hn := B.n
      have hw := w_in B.r (by omega : 1 ≤ many)
      obtain ⟨r1, r2, r3⟩ := B.r
      have hfin := fun H' e' => k many rfl h0 H' e'
      unfold spreadI at hfin
      rw [if_neg hz] at hfin
      dsimp only
      refine s_ret (ev_is (ev_sumT (ns := rowI (wleast (hgt cs) lo hi many) (wgreat (hgt cs) lo hi many) (lay cs)) ?_) (congrArg V.int (rowI_sum _ _ _))) fun H2 e2 => ?_
      · rw [← cut_tab (n := nOf cs) (by omega) (by omega) (by omega)]
        exact et_slT (et_layers (K := K) (ev_var rfl) (B.b.mono e1)) (eo_some (ev_var rfl)) (eo_some (ev_op (ev_var rfl) ev_c rv_I0))
      · exact hfin H2 (e1.trans e2)
theorem ok_weight_of {f C : Addr} {fd : FuncData} (F : Fun K "weight_of" "weight_of" s_weight_of f fd) (T : Txt mg) (D_spread_of : Dn P w K mg base (L2.CX P w) 5 "spread_of" ["bench", "many"] (spSpreadOf C)) : FnOk P w K mg base (L2.CX P w) 6 f fd ["bench"] spWeightOf := by
  refine F.okX sc_weight_of (fun vs H Q E h => ?_) (fun cdv A outer s H vs Q E hr h => ?_)
  · obtain ⟨_, _, _, _, _, rfl, _⟩ := h
    rfl
  · obtain ⟨x, cs, lo, hi, tp, rfl, B, k⟩ := h
    refine ⟨_, (pss_one (ps_ret (pe_call D_spread_of.ok (hr.mono (by decide)) (by rfl) D_spread_of.g D_spread_of.kp D_spread_of.b .nil (passes_call (takes_of rfl rfl rfl rfl) fun _ _ _ _ h => h) (pa_cons (pv 0) (pa_cons (pe_op op_mul pe_int (pe_ix (iT K) (pv 0) pe_int (fun _ _ => rfl))) pa_nil))))), ?_⟩
    have ht := B.t
    obtain ⟨a, c, ws, rfl, ha, hc, hcs⟩ := B.b.at_
    refine ⟨_, rfl, _, rfl, a, _, 3, .int tp, rfl, rfl, st_of ha, rfl, 2, tp, rfl, rfl, .inl ⟨by decide, by decide⟩, _, _, cs, lo, hi, tp, rfl, B, .int _, fun m e h0 H' e' => ?_, fun z => absurd z (by show ¬ decide ((0 : Int) ≤ 2 * tp) = false; rw [decide_eq_true (by omega)]; decide)⟩
    cases e
    exact k H' e'
end
end K04
/-! ## D10 -/
set_option Elab.async false
set_option linter.all false
set_option maxRecDepth 100000
set_option maxHeartbeats 4000000
namespace K04
open PySem L2 Evl
abbrev s__law_by_chains : Stmt := top 35
abbrev N__law_by_chains : List Str := ["_law_layers_here", "_law_low", "_law_high", "_law_many", "_law_total", "_law_height", "_law_a", "_law_count", "_law_members"]
theorem sc__law_by_chains : FnScope N__law_by_chains ["_law_layers_here", "_law_low", "_law_high", "_law_many"] (defScope s__law_by_chains) := ⟨rfl, rfl, rfl, by decide +kernel, rfl, by decide +kernel, by decide +kernel⟩
abbrev s__law_greatest : Stmt := top 34
abbrev N__law_greatest : List Str := ["_law_layers_here", "_law_low", "_law_high", "_law_many", "_law_rows"]
theorem sc__law_greatest : FnScope N__law_greatest ["_law_layers_here", "_law_low", "_law_high", "_law_many"] (defScope s__law_greatest) := ⟨rfl, rfl, rfl, by decide +kernel, rfl, by decide +kernel, by decide +kernel⟩
abbrev s__law_window : Stmt := top 33
abbrev N__law_window : List Str := ["_law_height", "_law_low", "_law_high", "_law_many", "_law_least", "_law_greatest_here", "_law_gap", "_law_rank"]
theorem sc__law_window : FnScope N__law_window ["_law_height", "_law_low", "_law_high", "_law_many"] (defScope s__law_window) := ⟨rfl, rfl, rfl, by decide +kernel, rfl, by decide +kernel, by decide +kernel⟩
/-- the row of layers as a list -/
structure Lay (H : Hp) (a : Addr) (f : Int → Int) (h : Int) (n : Nat) : Prop where
  at_ : H a = some (.lst (tabV n f))
  n : (n : Int) = h + 1
  h0 : 0 ≤ h ∧ h ≤ 1140
  u : U f h
theorem Lay.mono {H H' : Hp} {a : Addr} {f : Int → Int} {h : Int} {n : Nat} (e : Ex H H') (l : Lay H a f h n) : Lay H' a f h n := ⟨e _ _ l.at_, l.n, l.h0, l.u⟩
/-- _law_greatest and _law_by_chains hand back the same -/
def spSpr : Sp := fun vs H Q _ => ∃ (a : Addr) (f : Int → Int) (h : Int) (n : Nat) (low high many : Int), vs = [.ref a, .int low, .int high, .int many] ∧ Lay H a f h n ∧ Rng h low high ∧ 0 ≤ many ∧
  ∀ H', Ex H H' → Q (.int (spr f h low high many)) H'
def spLawWindow : Sp := fun vs H Q _ => ∃ (h low high many : Int), vs = [.int h, .int low, .int high, .int many] ∧ (0 ≤ h ∧ h ≤ 1140) ∧ Rng h low high ∧ 1 ≤ many ∧
  ∀ p H', Ex H H' → H p = none → H' p = some (.tup [.int (wleast h low high many), .int (wgreat h low high many)]) → Q (.ref p) H'
section
variable {P : Program} {w : World} {K : PySem.W.Frag} {mg : Str → Option Value} {base : Heap}
theorem ok_by_chains {f : Addr} {fd : FuncData} (F : Fun K "_law_by_chains" "_law_by_chains" s__law_by_chains f fd) (T : Txt mg) : FnOk P w K mg base CX0 1 f fd ["_law_layers_here", "_law_low", "_law_high", "_law_many"] spSpr := by
  refine F.ok sc__law_by_chains (fun vs H Q E h => ?_) (fun cdv A outer s H vs Q E hr h => ?_)
  · obtain ⟨_, _, _, _, _, _, _, rfl, _⟩ := h
    rfl
  · obtain ⟨a, g, h, n, lo, hi, many, rfl, L, R, hm, k⟩ := h
    refine ⟨_, (pss_cons (ps_set (i := 4) sc__law_by_chains.nd rfl (Or.inl rfl) pe_int)
    (pss_cons (ps_set (i := 5) sc__law_by_chains.nd rfl (Or.inl rfl) (pe_op op_sub (pe_callB (cLen K) (by rfl) T.len PySem.boot_len (pa_cons (pv 0) pa_nil)) pe_int))
    (pss_cons (ps_for PassesOwn.never rfl (pi_range1 (by rfl) T.range (pa_cons (pe_op op_add (pe_op op_fdiv (pv 5) pe_int) pe_int) pa_nil)) (pg_name (i := 6) sc__law_by_chains.nd rfl (Or.inl rfl))
       (pss_cons (ps_set (i := 7) sc__law_by_chains.nd rfl (Or.inl rfl) (pe_op op_sub (pe_ix (iL K) (pv 0) (pv 6) (fun _ _ => rfl)) (pe_ifExp (pt_cmpR op_gt (pv 6) pe_int (nomark _)) (pe_ix (iL K) (pv 0) (pe_op op_sub (pv 6) pe_int) (fun _ _ => rfl)) pe_int)))
      (pss_cons (ps_set (i := 8) sc__law_by_chains.nd rfl (Or.inl rfl) (pe_op op_add (pe_op op_sub (pe_callB cMin2 (by rfl) T.min (by decide +kernel) (pa_cons (pe_op op_sub (pv 5) (pv 6)) (pa_cons (pv 2) pa_nil))) (pe_callB cMax2 (by rfl) T.max (by decide +kernel) (pa_cons (pv 6) (pa_cons (pv 1) pa_nil)))) pe_int))
      (pss_one (ps_set (i := 4) sc__law_by_chains.nd rfl (Or.inl rfl) (pe_op op_add (pv 4) (pe_op op_mul (pv 7) (pe_callB cMax2 (by rfl) T.max (by decide +kernel) (pa_cons pe_int (pa_cons (pe_callB cMin2 (by rfl) T.min (by decide +kernel) (pa_cons (pv 8) (pa_cons (pv 3) pa_nil))) pa_nil))))))))))
    (pss_one (ps_ret (pv 4)))))), ?_⟩
    obtain ⟨ha, hn, hh, hu⟩ := L
    obtain ⟨r1, r2, r3⟩ := id R
    refine q_asg ev_c fun H1 e1 => ?_
    refine q_asg (v := .int h) (ev_is (ev_op (ev_len (ev_var rfl) (sq_of (e1 _ _ ha))) ev_c rv_I0) (by rw [tabV_len]; congr 1; omega)) fun H2 e2 => ?_
    refine s_forR1 (n := h / 2 + 1) (ea_cons (ev_op (ev_op (ev_var rfl) ev_c (rv_I ⟨by omega, by omega⟩)) ev_c rv_I0) ea_nil) (by omega)
      (fun i σ H' => ∃ v6 v7 v8 : Option V, σ = [some (.ref a), some (.int lo), some (.int hi), some (.int many), some (.int (sumI 0 ((i : Int) - 1) (fun a => (g a - g (a - 1)) * max 0 (min (memb h lo hi a) many)))), some (.int h), v6, v7, v8] ∧ Ex H H')
      (fun H3 e3 => ⟨none, none, none, by rw [sumI_empty (by omega)]; rfl, (e1.trans e2).trans e3⟩) ?_ ?_
    · rintro i σ H' hi2 ⟨v6, v7, v8, rfl, e⟩
      have hlt : i < n := by omega
      refine q_asg (v := .int (g (i : Int) - g ((i : Int) - 1))) (ev_op (z := .int (g (i : Int) - g ((i : Int) - 1))) (ev_ixL (ev_var rfl) (ev_var rfl) (sq_of (e _ _ ha)) (atI_nat (tabV_get hlt))) (ev_if (v := .int (g ((i : Int) - 1))) (b := decide (0 < (i : Int))) (et_test (ev_op (ev_var rfl) ev_c rv_I0)) ?_ ?_) rv_I0) fun H3 e3 => ?_
      · intro hb
        have hb' : 0 < (i : Int) := of_decide_eq_true hb
        have e9 : (i : Int) - 1 = ((i - 1 : Nat) : Int) := by omega
        refine ev_ixL (i := ((i - 1 : Nat) : Int)) (ev_var rfl) (ev_is (ev_op (ev_var rfl) ev_c rv_I0) (congrArg V.int e9)) (sq_of (e _ _ ha)) ?_
        rw [e9]
        exact atI_nat (tabV_get (by omega))
      · intro hb
        have hb' := of_decide_eq_false hb
        refine ev_is ev_c ?_
        rw [hu.zero _ (by omega)]
      refine q_asg (v := .int (memb h lo hi (i : Int))) (ev_op (ev_op (ev_min2 (ev_op (ev_var rfl) (ev_var rfl) rv_I0) (ev_var rfl)) (ev_max2' (ev_var rfl) (ev_var rfl)) rv_I0) ev_c rv_I0) fun H4 e4 => ?_
      have hmb : memb h lo hi (i : Int) ≤ 1141 := by unfold memb; omega
      refine s_asg (ev_op (ev_var rfl) (ev_op (ev_var rfl) (ev_max2' ev_c (ev_min2 (ev_var rfl) (ev_var rfl))) (rv_I (.inr ⟨by omega, by omega⟩))) rv_I0) fun H5 e5 => ?_
      refine ⟨some (.int (i : Int)), some (.int (g (i : Int) - g ((i : Int) - 1))), some (.int (memb h lo hi (i : Int))), ?_, ((e.trans e3).trans e4).trans e5⟩
      have e9 : ((i + 1 : Nat) : Int) - 1 = (i : Int) := by omega
      rw [e9, sumI_last (lo := 0) (hi := (i : Int)) (by omega)]
      rfl
    · rintro σ H' ⟨v6, v7, v8, rfl, e⟩
      have e9 : (((h / 2 + 1).toNat : Nat) : Int) - 1 = h / 2 := by omega
      rw [e9]
      refine s_ret (ev_var rfl) fun H3 e3 => ?_
      rw [chains_spr hu hh.1 R hm]
      exact k H3 (e.trans e3)
theorem ok_greatest {f : Addr} {fd : FuncData} (F : Fun K "_law_greatest" "_law_greatest" s__law_greatest f fd) (T : Txt mg) : FnOk P w K mg base CX0 1 f fd ["_law_layers_here", "_law_low", "_law_high", "_law_many"] spSpr := by
  refine F.ok sc__law_greatest (fun vs H Q E h => ?_) (fun cdv A outer s H vs Q E hr h => ?_)
  · obtain ⟨_, _, _, _, _, _, _, rfl, _⟩ := h
    rfl
  · obtain ⟨a, g, h, n, lo, hi, many, rfl, L, R, hm, k⟩ := h
    refine ⟨_, (pss_cons (ps_set (i := 4) sc__law_greatest.nd rfl (Or.inl rfl) (pe_callB cr_sortedI (by rfl) T.sorted (by decide +kernel) (pa_cons (pe_slice (slL K) (pv 0) (po_some (pv 1)) (po_some (pe_op op_add (pv 2) pe_int))) pa_nil)))
    (pss_one (ps_ret (pe_callB (cSum K) (by rfl) T.sum (by decide +kernel) (pa_cons (pe_slice (slL K) (pv 4) (po_some (pe_callB cMax2 (by rfl) T.max (by decide +kernel) (pa_cons pe_int (pa_cons (pe_op op_sub (pe_callB (cLen K) (by rfl) T.len PySem.boot_len (pa_cons (pv 4) pa_nil)) (pv 3)) pa_nil)))) po_none) pa_nil))))), ?_⟩
    obtain ⟨ha, hn, hh, hu⟩ := L
    obtain ⟨r1, r2, r3⟩ := id R
    refine ⟨_, rfl, _, rfl, lo, rfl, _, rfl, _, _, rfl, rfl, _, rfl, a, _, rfl, sq_of ha, fun p hp => ?_⟩
    refine ⟨p, rowI lo hi g, rfl, sq_of ?_, fun ys q hperm hsrt hq => ?_⟩
    · rw [upd_same]
      exact congrArg (fun l => some (HO.lst l)) (cut_tab (n := n) (by omega) (by omega) (by omega))
    have hq0 : H q = none := fresh_back (Ex.new hp) hq
    have hlen : (ys.length : Int) = hi - lo + 1 := by rw [hperm.length_eq, rowI_len]; omega
    dsimp only
    refine s_ret (v := .int (spr g h lo hi many)) (ev_is (ev_sumN (ns := ys.drop (max 0 ((ys.length : Int) - many)).toNat) (el_is (el_sl (xs := ys.map V.int) (a := q) (lo := some (max 0 ((ys.length : Int) - many))) (hi := none) (ev_var rfl) (eo_some (ev_max2' ev_c (ev_op (ev_is (ev_len (ev_var rfl) (sq_of upd_same)) (by rw [List.length_map])) (ev_var rfl) rv_I0))) eo_none (sq_of upd_same)) ?_)) (congrArg V.int (greatest_spr hu R hm hperm hsrt))) fun H3 e3 => ?_
    · unfold cutV
      rw [List.length_map, sIx_int (by omega) (by omega), HT.sIx_none, ← List.map_drop, ← List.map_take, List.take_of_length_le (by rw [List.length_drop]; exact Nat.le_refl _)]
    · exact k H3 (((Ex.new hp).trans (Ex.new hq)).trans e3)
end
end K04
/-! ## D11 -/
set_option Elab.async false
set_option linter.all false
set_option maxRecDepth 100000
set_option maxHeartbeats 4000000
namespace K04
open PySem L2 Evl
theorem sz_small {n : Nat} (h : n ≤ 1000) : n ≤ sizeLine := sz_of (by omega)
section
variable {P : Program} {w : World} {K : PySem.W.Frag} {mg : Str → Option Value} {base : Heap}
/-- the slots: height low high many least greatest gap rank -/
def wslots (h lo hi : Int) (s : St3) (v6 v7 : Option V) : L2.St := [some (.int h), some (.int lo), some (.int hi), some (.int s.m), some (.int s.l), some (.int s.g), v6, v7]
theorem ok_window {f : Addr} {fd : FuncData} (F : Fun K "_law_window" "_law_window" s__law_window f fd) (T : Txt mg) : FnOk P w K mg base CX0 1 f fd ["_law_height", "_law_low", "_law_high", "_law_many"] spLawWindow := by
  refine F.ok sc__law_window (fun vs H Q E h => ?_) (fun cdv A outer s H vs Q E hr h => ?_)
  · obtain ⟨_, _, _, _, rfl, _⟩ := h
    rfl
  · obtain ⟨h, lo, hi, many, rfl, hh, R, hm, k⟩ := h
    refine ⟨_, (pss_cons (ps_set (i := 4) sc__law_window.nd rfl (Or.inl rfl) pe_int)
    (pss_cons (ps_set (i := 5) sc__law_window.nd rfl (Or.inl rfl) (pe_un un_neg pe_int))
    (pss_cons (ps_for PassesOwn.never rfl (pi_range1 (by rfl) T.range (pa_cons (pe_op op_add (pv 0) pe_int) pa_nil)) (pg_name (i := 6) sc__law_window.nd rfl (Or.inl rfl))
       (pss_one (ps_for PassesOwn.never rfl (pi_list (pe_ifExp (pt_cmpR op_gt (pv 6) pe_int (nomark _)) (pe_lst (pa_cons (pe_op op_sub (pv 0) (pv 6)) (pa_cons (pe_op op_add (pv 0) (pv 6)) pa_nil))) (pe_lst (pa_cons (pv 0) pa_nil)))) (pg_name (i := 7) sc__law_window.nd rfl (Or.inl rfl))
         (pss_one (ps_if (PW.pt (pw_and (pt_cmpR op_eq (pe_op op_mod (pe_callTy call_int1 (by rfl) T.int (by decide +kernel) (pa_cons (pv 7) pa_nil)) pe_int) pe_int (nomark _)) (pw_and (pt_chain op_le op_le (pv 1) (pe_op op_fdiv (pv 7) pe_int) (pv 2)) (pw_and1 (pt_cmpR op_gt (pv 3) pe_int (nomark _))))))
           (pss_cons (ps_set (i := 4) sc__law_window.nd rfl (Or.inl rfl) (pe_ifExp (pt_cmpR op_lt (pv 5) pe_int (nomark _)) (pe_op op_fdiv (pv 7) pe_int) (pe_callB cMin2 (by rfl) T.min (by decide +kernel) (pa_cons (pv 4) (pa_cons (pe_op op_fdiv (pv 7) pe_int) pa_nil)))))
          (pss_cons (ps_set (i := 5) sc__law_window.nd rfl (Or.inl rfl) (pe_callB cMax2 (by rfl) T.max (by decide +kernel) (pa_cons (pv 5) (pa_cons (pe_op op_fdiv (pv 7) pe_int) pa_nil))))
          (pss_one (ps_set (i := 3) sc__law_window.nd rfl (Or.inl rfl) (pe_op op_sub (pv 3) pe_int)))))
           pss_nil)))))
    (pss_one (ps_ret (pe_tup (pa_cons (pv 4) (pa_cons (pv 5) pa_nil)))))))), ?_⟩
    obtain ⟨r1, r2, r3⟩ := id R
    refine q_asg ev_c fun H1 e1 => ?_
    refine q_asg (ev_un ev_c ru_neg) fun H2 e2 => ?_
    refine s_forR1 (n := h + 1) (ea_cons (ev_op (ev_var rfl) ev_c rv_I0) ea_nil) (by omega)
      (fun i σ H' => ∃ (s : St3) (v6 v7 : Option V), σ = wslots h lo hi s v6 v7 ∧ Ex H H' ∧ WI h lo hi many ((h - (i : Int) + 2) / 2) ((h + (i : Int) - 1) / 2) s.l s.g s.m ∧ (i = 0 → s = ⟨0, -1, many⟩))
      (fun H3 e3 => ⟨⟨0, -1, many⟩, none, none, rfl, (e1.trans e2).trans e3, w_begin R, fun _ => rfl⟩) ?_ ?_
    · rintro i σ H' hi2 ⟨s, v6, v7, rfl, e, hw, h0⟩
      -- the ranks at this distance
      have hrow : ∃ xs : List Int, xs = (if 0 < (i : Int) then [h - (i : Int), h + (i : Int)] else [h]) := ⟨_, rfl⟩
      obtain ⟨xs, hxs⟩ := hrow
      have turn : ∀ (s : St3) (v : Int) (v6 v7 : Option V) (H' : Hp) (D : Ends) (tu : TS), True → True := fun _ _ _ _ _ _ _ _ => trivial
      clear turn
      refine s_forNL (xs := xs.map V.int) (fun H3 e3 Q' q' => ?_)
        (fun p j σ H' => ∃ (s' : St3) (v7 : Option V), σ = wslots h lo hi s' (some (.int (i : Int))) v7 ∧ Ex H H' ∧ H' p = some (.lst (xs.map V.int)) ∧ s' = (xs.take j).foldl (fun s v => wstep lo hi v s) s)
        (fun p H3 hp e3 h3 => ⟨s, v7, rfl, e.trans e3, h3, rfl⟩) (fun p j σ H' _ ⟨_, _, _, _, h, _⟩ => sq_of h) ?_ ?_
      · -- the list itself
        refine ⟨_, rfl, _, _, rfl, rfl, decide (0 < (i : Int)), rfl, ?_⟩
        by_cases c : 0 < (i : Int)
        · rw [if_pos c] at hxs
          rw [decide_eq_true c]
          refine iteT ?_
          refine ⟨_, rfl, _, rfl, _, _, rfl, rfl, _, rfl, _, rfl, _, _, rfl, rfl, sz_small (by show 2 ≤ 1000; decide), fun p hp => ?_⟩
          rw [hxs] at q'
          exact q' p _ hp (Ex.new hp) upd_same
        · rw [if_neg c] at hxs
          rw [decide_eq_false c]
          refine iteF ?_
          refine ⟨_, rfl, sz_small (by show 1 ≤ 1000; decide), fun p hp => ?_⟩
          rw [hxs] at q'
          exact q' p _ hp (Ex.new hp) upd_same
      · rintro p j x σ H3 hx ⟨s', v7, rfl, e3, hp, rfl⟩
        obtain ⟨v, hv, rfl⟩ : ∃ v, xs[j]? = some v ∧ x = .int v := by
          rw [List.getElem?_map] at hx
          cases hq : xs[j]? with
          | none => rw [hq] at hx; cases hx
          | some v => rw [hq] at hx; exact ⟨v, rfl, (Option.some.inj hx).symm⟩
        have hvb : -3000 ≤ v ∧ v ≤ 3000 := by
          have hmem := List.mem_of_getElem? hv
          rw [hxs] at hmem
          split at hmem <;> simp at hmem <;> omega
        generalize hs' : (xs.take j).foldl (fun s v => wstep lo hi v s) s = s'
        have enext : (xs.take (j + 1)).foldl (fun s v => wstep lo hi v s) s = wstep lo hi v s' := by
          rw [List.take_add_one, hv, List.foldl_append, hs']
          rfl
        have skip : ¬ (v % 2 = 0 ∧ (lo ≤ v / 2 ∧ v / 2 ≤ hi) ∧ 0 < s'.m) → ∃ (s'' : St3) (v7 : Option V), wslots h lo hi s' (some (.int (i : Int))) (some (.int v)) = wslots h lo hi s'' (some (.int (i : Int))) v7 ∧ Ex H H3 ∧ H3 p = some (.lst (xs.map V.int)) ∧ s'' = (xs.take (j + 1)).foldl (fun s v => wstep lo hi v s) s := fun hc =>
          ⟨s', _, rfl, e3, hp, by rw [enext]; unfold wstep; rw [if_neg hc]⟩
        -- the test
        refine ⟨_, rfl, .inl ⟨_, rfl, _, _, rfl, rfl, (by show (0 : Int) < 2; decide), rfl, _, rfl, ?_⟩⟩
        refine ite2 (fun z1 => ?_) (fun z1 => iteF ?_)
        · have y1 : v % 2 = 0 := V.int.inj (of_decide_eq_true z1)
          refine ⟨_, rfl, _, rfl, _, _, rfl, rfl, ⟨by decide, by decide⟩, _, _, rfl, rfl, _, rfl, ?_⟩
          by_cases c1 : lo ≤ v / 2
          · rw [decide_eq_true c1]
            refine iteT ?_
            refine ⟨_, rfl, _, _, rfl, rfl, _, rfl, ?_⟩
            by_cases c2 : v / 2 ≤ hi
            · rw [decide_eq_true c2]
              refine iteT ?_
              refine ⟨_, rfl, _, _, rfl, rfl, _, rfl, ?_⟩
              by_cases c3 : 0 < s'.m
              · rw [decide_eq_true c3]
                refine iteT ?_
                have hc : v % 2 = 0 ∧ (lo ≤ v / 2 ∧ v / 2 ≤ hi) ∧ 0 < s'.m := ⟨y1, ⟨c1, c2⟩, c3⟩
                refine q_asg (v := .int (if s'.g < 0 then v / 2 else min s'.l (v / 2))) (ev_if (b := decide (s'.g < 0)) (et_test (ev_op (ev_var rfl) ev_c rv_I0)) (fun hb => ?_) (fun hb => ?_)) fun H4 e4 => ?_
                · rw [if_pos (of_decide_eq_true hb)]
                  exact ev_op (ev_var rfl) ev_c (rv_I ⟨by decide, by decide⟩)
                · rw [if_neg (of_decide_eq_false hb)]
                  exact ev_min2 (ev_var rfl) (ev_op (ev_var rfl) ev_c (rv_I ⟨by decide, by decide⟩))
                refine q_asg (v := .int (max s'.g (v / 2))) (ev_max2' (ev_var rfl) (ev_op (ev_var rfl) ev_c (rv_I ⟨by decide, by decide⟩))) fun H5 e5 => ?_
                refine s_asg (v := .int (s'.m - 1)) (ev_op (ev_var rfl) ev_c rv_I0) fun H6 e6 => ?_
                refine ⟨⟨if s'.g < 0 then v / 2 else min s'.l (v / 2), max s'.g (v / 2), s'.m - 1⟩, some (.int v), rfl, ((e3.trans e4).trans e5).trans e6, e6 _ _ (e5 _ _ (e4 _ _ hp)), ?_⟩
                rw [enext]
                unfold wstep
                rw [if_pos hc]
              · rw [decide_eq_false c3]
                exact iteF (skip fun z => c3 z.2.2)
            · rw [decide_eq_false c2]
              exact iteF (skip fun z => c2 z.2.1.2)
          · rw [decide_eq_false c1]
            exact iteF ⟨_, rfl, iteF (skip fun z => c1 z.2.1.1)⟩
        · exact skip fun z => z1 (decide_eq_true (congrArg V.int z.1))
      · rintro p σ H3 ⟨s', v7, rfl, e3, hp, hs⟩
        rw [List.length_map, List.take_length] at hs
        refine ⟨s', _, _, rfl, e3, ?_, fun z => by omega⟩
        have eA : (h - ((i + 1 : Nat) : Int) + 2) / 2 = (h - (i : Int) + 1) / 2 := by congr 1; omega
        have eB : (h + ((i + 1 : Nat) : Int) - 1) / 2 = (h + (i : Int)) / 2 := by congr 1; omega
        rw [eA, eB]
        by_cases c : 0 < (i : Int)
        · rw [if_pos c] at hxs
          rw [hs, hxs]
          have w1 := wstep_low R hm (by omega) (by omega) hw
          exact wstep_high R hm (by omega) (by omega) w1 (fun z => by omega)
        · have hi0 : i = 0 := by omega
          rw [if_neg c] at hxs
          have es := h0 hi0
          subst hi0
          rw [hs, hxs, es]
          have w1 := wstep_high (G := 0) (s := ⟨0, -1, many⟩) R hm (by omega) (by omega) (w_begin0 R) (fun _ => ⟨rfl, rfl, rfl⟩)
          have e9 : h + 0 = h := by omega
          rw [e9] at w1
          have e8 : h - ((0 : Nat) : Int) + 1 = h - 0 + 1 := by omega
          have e7 : h + ((0 : Nat) : Int) = h := by omega
          rw [e8, e7]
          exact w1
    · rintro σ H' ⟨s, v6, v7, rfl, e, hw, _⟩
      have e9 : (((h + 1).toNat : Nat) : Int) = h + 1 := by omega
      rw [e9] at hw
      obtain ⟨hl, hg⟩ := w_end R hm hw
      refine s_retU (eu_tup (vs := [.int s.l, .int s.g]) (ea_cons (ev_var rfl) (ea_cons (ev_var rfl) ea_nil)) (by show 2 ≤ _; decide)) fun p H3 hp e3 h3 => ?_
      rw [hl, hg] at h3
      exact k p H3 (e.trans e3) (fresh_back e hp) h3
end
end K04
/-! ## D12 -/
set_option Elab.async false
set_option linter.all false
set_option maxRecDepth 100000
set_option maxHeartbeats 4000000
namespace K04
open PySem L2 Evl
abbrev s__law_number : Stmt := top 26
abbrev N__law_number : List Str := ["_law_thing"]
theorem sc__law_number : FnScope N__law_number ["_law_thing"] (defScope s__law_number) := ⟨rfl, rfl, rfl, by decide +kernel, rfl, by decide +kernel, by decide +kernel⟩
abbrev s__law_same : Stmt := top 27
abbrev N__law_same : List Str := ["_law_heard", "_law_due", "_law_k"]
theorem sc__law_same : FnScope N__law_same ["_law_heard", "_law_due"] (defScope s__law_same) := ⟨rfl, rfl, rfl, by decide +kernel, rfl, by decide +kernel, by decide +kernel⟩
/-- the same data, tuples within tuples to the depth n -/
inductive Sm (H : Hp) : Nat → V → V → Prop where
  | non {n : Nat} : Sm H n .non .non
  | bl {n : Nat} (b : Bool) : Sm H n (.bl b) (.bl b)
  | int {n : Nat} (i : Int) : Sm H n (.int i) (.int i)
  | str {n : Nat} (s : Str) : Sm H n (.str s) (.str s)
  | tup {n : Nat} {a b : Addr} {xs ys : List V} (ha : H a = some (.tup xs)) (hb : H b = some (.tup ys)) (hl : xs.length = ys.length) (hz : ys.length ≤ 2000)
      (h : ∀ (i : Nat) (x y : V), xs[i]? = some x → ys[i]? = some y → Sm H n x y) : Sm H (n + 1) (.ref a) (.ref b)
theorem Sm.mono {H H' : Hp} {n : Nat} {x y : V} (e : Ex H H') (h : Sm H n x y) : Sm H' n x y := by
  induction h with
  | non => exact .non
  | bl b => exact .bl b
  | int i => exact .int i
  | str s => exact .str s
  | tup ha hb hl hz _ ih => exact .tup (e _ _ ha) (e _ _ hb) hl hz ih
def spSame (n : Nat) : Sp := fun vs H Q _ => ∃ x y, vs = [x, y] ∧ Sm H n x y ∧ ∀ H', Ex H H' → Q (.bl true) H'
theorem isi_tuple {K : PySem.W.Frag} {H : Hp} {x : V} {Q : VK} (h : Any H x) (b : Bool) (hb : (∀ a xs, x = .ref a → H a = some (.tup xs) → b = true) ∧ ((∀ a xs, x = .ref a → H a = some (.tup xs) → False) → b = false)) (q : Q (.bl b) H) : rIsi K [x, .ty "tuple"] H Q := by
  cases h with
  | non => rw [hb.2 (fun _ _ z => nomatch z)] at q; exact ⟨_, _, _, _, false, rfl, .ty "tuple", .base .non, kit_ty (by decide +kernel), q⟩
  | bl b => rw [hb.2 (fun _ _ z => nomatch z)] at q; exact ⟨_, _, _, _, false, rfl, .ty "tuple", .base (.bl b), kit_ty (by decide +kernel), q⟩
  | int i => rw [hb.2 (fun _ _ z => nomatch z)] at q; exact ⟨_, _, _, _, false, rfl, .ty "tuple", .base (.int i), kit_ty (by decide +kernel), q⟩
  | str s => rw [hb.2 (fun _ _ z => nomatch z)] at q; exact ⟨_, _, _, _, false, rfl, .ty "tuple", .base (.str s), kit_ty (by decide +kernel), q⟩
  | lst h => rw [hb.2 (fun a xs e h2 => by cases e; rw [h] at h2; cases h2)] at q; exact ⟨_, _, _, _, false, rfl, .ty "tuple", .base (.lst h), kit_ty (by decide +kernel), q⟩
  | tup h => rw [hb.1 _ _ rfl h] at q; exact ⟨_, _, _, _, true, rfl, .ty "tuple", .base (.tup h), kit_ty (by decide +kernel), q⟩
section
variable {P : Program} {w : World} {K : PySem.W.Frag} {mg : Str → Option Value} {base : Heap}
theorem ok_number {f : Addr} {fd : FuncData} (F : Fun K "_law_number" "_law_number" s__law_number f fd) (T : Txt mg) : FnOk P w K mg base CX0 1 f fd ["_law_thing"] spIsInteger := by
  refine F.ok sc__law_number (fun vs H Q E h => ?_) (fun cdv A outer s H vs Q E hr h => ?_)
  · obtain ⟨_, rfl, _⟩ := h
    rfl
  · obtain ⟨x, rfl, hx, k⟩ := h
    refine ⟨_, (pss_one (ps_ret (pe_and (pe_callB (cIsi K) (by rfl) T.isinstance (by decide +kernel) (pa_cons (pv 0) (pa_cons (pe_ty_int T) pa_nil))) (pe_one (pe_not (pe_callB (cIsi K) (by rfl) T.isinstance (by decide +kernel) (pa_cons (pv 0) (pa_cons (pe_ty_bool T) pa_nil)))))))), ?_⟩
    refine ⟨_, rfl, ?_⟩
    dsimp only [tCons, tNil, tC]
    refine isi_int hx ⟨_, rfl, ?_⟩
    have key : ∀ (b : Bool), b = (isI x || isB x) → if b = true then ((tNotV (tCB (rIsi K) (tCons (tVar 0) (tCons (tC (.ty "bool")) tNil)))) (start N__law_number [x]) H Q) else Q (.bl false) H := by
      intro b hb
      cases b with
      | false =>
        refine iteF ?_
        cases x <;> simp [isI, isB] at hb <;> exact k
      | true =>
        refine iteT ?_
        refine ⟨_, rfl, ?_⟩
        dsimp only [tCons, tNil, tC]
        refine isi_bool hx ⟨_, rfl, ?_⟩
        cases x <;> simp [isI, isB] at hb <;> exact k
    exact key _ rfl
/-- one depth over the one before -/
theorem same_step {f : Addr} {fd : FuncData} (F : Fun K "_law_same" "_law_same" s__law_same f fd) (T : Txt mg) (D__law_number : Dn P w K mg base CX0 1 "_law_number" ["_law_thing"] spIsInteger) (gS : mg "_law_same" = some (.ref f)) (bS : Binds K fd ["_law_heard", "_law_due"] [])
    (k : Nat) (hk : 1 ≤ k) (n : Nat) (sp0 : Sp) (G : FnOk P w K mg base CX0 k f fd ["_law_heard", "_law_due"] sp0) (h0 : ∀ m, n = m + 1 → ∀ vs H Q E, spSame m vs H Q E → sp0 vs H Q E) :
    FnOk P w K mg base CX0 (k + 1) f fd ["_law_heard", "_law_due"] (spSame n) := by
  refine F.ok sc__law_same (fun vs H Q E h => ?_) (fun cdv A outer s H vs Q E hr h => ?_)
  · obtain ⟨_, _, rfl, _⟩ := h
    rfl
  · obtain ⟨x, y, rfl, hs, kk⟩ := h
    refine ⟨_, (pss_cons (ps_if (pt_val (pe_callB (cIsi K) (by rfl) T.isinstance (by decide +kernel) (pa_cons (pv 1) (pa_cons (pe_ty_tuple T) pa_nil))))
       (pss_cons (ps_if (PW.pt (pw_or (pt_not (pt_val (pe_callB (cIsi K) (by rfl) T.isinstance (by decide +kernel) (pa_cons (pv 0) (pa_cons (pe_ty_tuple T) pa_nil))))) (pw_or1 (pt_cmpR op_ne (pe_callB (cLen K) (by rfl) T.len PySem.boot_len (pa_cons (pv 0) pa_nil)) (pe_callB (cLen K) (by rfl) T.len PySem.boot_len (pa_cons (pv 1) pa_nil)) (nomark _)))))
         (pss_one (ps_ret pe_bl))
         pss_nil)
      (pss_cons (ps_for PassesOwn.never rfl (pi_range1 (by rfl) T.range (pa_cons (pe_callB (cLen K) (by rfl) T.len PySem.boot_len (pa_cons (pv 1) pa_nil)) pa_nil)) (pg_name (i := 2) sc__law_same.nd rfl (Or.inl rfl))
         (pss_one (ps_if (pt_not (pt_val (pe_call G hr (by rfl) gS F.kp bS .nil pass0 (pa_cons (pe_ix (iT K) (pv 0) (pv 2) (fun _ _ => rfl)) (pa_cons (pe_ix (iT K) (pv 1) (pv 2) (fun _ _ => rfl)) pa_nil)))))
           (pss_one (ps_ret pe_bl))
           pss_nil)))
      (pss_one (ps_ret pe_bl))))
       pss_nil)
    (pss_cons (ps_if (pt_cmpR op_isN (pv 1) pe_non (nomark _))
       (pss_one (ps_ret (pe_cmpR op_isN (pv 0) pe_non (nomark _))))
       pss_nil)
    (pss_cons (ps_if (pt_val (pe_callB (cIsi K) (by rfl) T.isinstance (by decide +kernel) (pa_cons (pv 1) (pa_cons (pe_ty_bool T) pa_nil))))
       (pss_one (ps_ret (pe_and (pe_callB (cIsi K) (by rfl) T.isinstance (by decide +kernel) (pa_cons (pv 0) (pa_cons (pe_ty_bool T) pa_nil))) (pe_one (pe_cmpR op_eq (pv 0) (pv 1) (nomark _))))))
       pss_nil)
    (pss_cons (ps_if (pt_val (pe_callB (cIsi K) (by rfl) T.isinstance (by decide +kernel) (pa_cons (pv 1) (pa_cons (pe_ty_int T) pa_nil))))
       (pss_one (ps_ret (pe_and (pe_call D__law_number.ok (hr.mono hk) (by rfl) D__law_number.g D__law_number.kp D__law_number.b .nil pass0 (pa_cons (pv 0) pa_nil)) (pe_one (pe_cmpR op_eq (pv 0) (pv 1) (nomark _))))))
       pss_nil)
    (pss_one (ps_ret (pe_and (pe_callB (cIsi K) (by rfl) T.isinstance (by decide +kernel) (pa_cons (pv 0) (pa_cons (pe_ty_str T) pa_nil))) (pe_one (pe_cmpR op_eq (pv 0) (pv 1) (nomark _)))))))))), ?_⟩
    have k1 := kk H (Ex.refl H)
    refine ⟨_, rfl, ?_⟩
    dsimp only [tCons, tNil, tC]
    have nt : ∀ z : V, (∀ a, z ≠ .ref a) → ((∀ a xs, z = .ref a → H a = some (.tup xs) → false = true) ∧ ((∀ a xs, z = .ref a → H a = some (.tup xs) → False) → false = false)) := fun z hz => ⟨fun a xs e => absurd e (hz a), fun _ => rfl⟩
    cases hs with
    | non =>
      refine isi_tuple .non false (nt _ fun a z => nomatch z) ⟨_, rfl, iteF ?_⟩
      refine ⟨_, rfl, rfl, _, rfl, iteT ?_⟩
      exact ⟨_, rfl, rfl, k1⟩
    | bl b =>
      refine isi_tuple (.bl b) false (nt _ fun a z => nomatch z) ⟨_, rfl, iteF ?_⟩
      refine ⟨_, rfl, rfl, _, rfl, iteF ?_⟩
      refine ⟨_, rfl, ?_⟩
      dsimp only [tCons, tNil, tC]
      refine isi_bool (.bl b) ⟨_, rfl, iteT ?_⟩
      refine ⟨_, rfl, ?_⟩
      dsimp only [tCons, tNil, tC]
      refine isi_bool (.bl b) ⟨_, rfl, iteT ?_⟩
      refine ⟨_, rfl, _, rfl, rfl, ?_⟩
      rw [decide_eq_true rfl]
      exact k1
    | int b =>
      refine isi_tuple (.int b) false (nt _ fun a z => nomatch z) ⟨_, rfl, iteF ?_⟩
      refine ⟨_, rfl, rfl, _, rfl, iteF ?_⟩
      refine ⟨_, rfl, ?_⟩
      dsimp only [tCons, tNil, tC]
      refine isi_bool (.int b) ⟨_, rfl, iteF ?_⟩
      refine ⟨_, rfl, ?_⟩
      dsimp only [tCons, tNil, tC]
      refine isi_int (.int b) ⟨_, rfl, iteT ?_⟩
      refine ⟨_, rfl, _, rfl, .int b, _, rfl, iteT ?_⟩
      refine ⟨_, rfl, _, rfl, rfl, ?_⟩
      rw [decide_eq_true rfl]
      exact k1
    | str b =>
      refine isi_tuple (.str b) false (nt _ fun a z => nomatch z) ⟨_, rfl, iteF ?_⟩
      refine ⟨_, rfl, rfl, _, rfl, iteF ?_⟩
      refine ⟨_, rfl, ?_⟩
      dsimp only [tCons, tNil, tC]
      refine isi_bool (.str b) ⟨_, rfl, iteF ?_⟩
      refine ⟨_, rfl, ?_⟩
      dsimp only [tCons, tNil, tC]
      refine isi_int (.str b) ⟨_, rfl, iteF ?_⟩
      refine ⟨_, rfl, ?_⟩
      dsimp only [tCons, tNil, tC]
      refine isi_str (.str b) ⟨_, rfl, iteT ?_⟩
      refine ⟨_, rfl, _, rfl, rfl, ?_⟩
      rw [decide_eq_true rfl]
      exact k1
    | @tup m a b xs ys ha hb hl hz h =>
      refine isi_tuple (.tup hb) true ⟨fun _ _ _ _ => rfl, fun z => (z _ _ rfl hb).elim⟩ ⟨_, rfl, iteT ?_⟩
      refine ⟨_, rfl, ?_⟩
      dsimp only [tCons, tNil, tC]
      refine isi_tuple (.tup ha) true ⟨fun _ _ _ _ => rfl, fun z => (z _ _ rfl ha).elim⟩ ⟨_, rfl, iteF ?_⟩
      refine ⟨_, rfl, a, xs, rfl, .inr (st_of ha), _, rfl, b, ys, rfl, .inr (st_of hb), rfl, _, rfl, ?_⟩
      rw [hl, decide_eq_true rfl]
      refine iteF ?_
      refine s_forR1 (n := (ys.length : Int)) (ea_cons (ev_lenT (ev_var rfl) (st_of hb)) ea_nil) (by omega) (fun i σ H' => ∃ v, σ = [some (.ref a), some (.ref b), v] ∧ Ex H H') (fun H1 e1 => ⟨none, rfl, e1⟩) ?_ ?_
      · rintro i σ H' hi ⟨v, rfl, e⟩
        have hyl : i < ys.length := by omega
        have hxl : i < xs.length := by omega
        refine ⟨_, rfl, _, rfl, a, xs, i, xs[i], rfl, rfl, st_of (e _ _ ha), atI_nat (List.getElem?_eq_getElem hxl), _, rfl, _, rfl, b, ys, i, ys[i], rfl, rfl, st_of (e _ _ hb), atI_nat (List.getElem?_eq_getElem hyl), ?_⟩
        refine h0 m rfl _ _ _ _ ⟨_, _, rfl, (h i _ _ (List.getElem?_eq_getElem hxl) (List.getElem?_eq_getElem hyl)).mono e, fun H2 e2 => ?_⟩
        exact ⟨true, rfl, iteF ⟨_, rfl, e.trans e2⟩⟩
      · rintro σ H' ⟨v, rfl, e⟩
        exact kk H' e
theorem ok_same {f : Addr} {fd : FuncData} (F : Fun K "_law_same" "_law_same" s__law_same f fd) (T : Txt mg) (D__law_number : Dn P w K mg base CX0 1 "_law_number" ["_law_thing"] spIsInteger) (gS : mg "_law_same" = some (.ref f)) (bS : Binds K fd ["_law_heard", "_law_due"] []) :
    ∀ n, FnOk P w K mg base CX0 (n + 2) f fd ["_law_heard", "_law_due"] (spSame n) := by
  intro n
  induction n with
  | zero => exact same_step F T D__law_number gS bS 1 (Nat.le_refl _) 0 (fun _ _ _ _ => False) ⟨fun _ _ _ _ z => z.elim, fun _ _ _ _ _ _ _ _ _ _ _ _ _ z => z.elim⟩ (fun m z => nomatch z)
  | succ n ih => exact same_step F T D__law_number gS bS (n + 2) (by omega) (n + 1) (spSame n) ih (fun m e vs H Q E h => by cases e; exact h)
end
end K04
/-! ## D13 -/
set_option Elab.async false
set_option linter.all false
set_option maxRecDepth 100000
set_option maxHeartbeats 4000000
namespace K04
open PySem L2 Evl
/-- the ranks R of the levels of a chart with chains of these sizes -/
structure Rk (Z : Nat) (lens : List Nat) (R : List Int) : Prop where
  sum : ∀ (f : Int → Int) (r : Int), (R.map fun m => f (r - m)).sum = cv Z lens f r
  top : ((Z : Int) - 1) ∈ R
  bd : ∀ m ∈ R, 0 ≤ m ∧ m ≤ (Z : Int) - 1
structure PartAt (M : Nat) (H : Hp) (x : V) (q : Ch) : Prop where
  at_ : ∃ (t r : Addr) (c : V) (R : List Int), x = .ref t ∧ H t = some (.tup [c, .ref r]) ∧ Cht H c q.1 q.2 ∧ H r = some (.lst (R.map V.int)) ∧ Rk q.1 q.2 R ∧ R.length ≤ M
theorem PartAt.mono {M : Nat} {H H' : Hp} {x : V} {q : Ch} (e : Ex H H') (h : PartAt M H x q) : PartAt M H' x q := by
  obtain ⟨t, r, c, R, a1, a2, a3, a4, a5⟩ := h.at_
  exact ⟨t, r, c, R, a1, e _ _ a2, a3.mono e, e _ _ a4, a5⟩
def Parts (M : Nat) (H : Hp) (xs : List V) (cs : List Ch) : Prop := xs.length = cs.length ∧ ∀ (i : Nat) (x : V), xs[i]? = some x → ∃ q, cs[i]? = some q ∧ PartAt M H x q
theorem Parts.mono {M : Nat} {H H' : Hp} {xs : List V} {cs : List Ch} (e : Ex H H') (h : Parts M H xs cs) : Parts M H' xs cs :=
  ⟨h.1, fun i x hi => by obtain ⟨q, a, b⟩ := h.2 i x hi; exact ⟨q, a, b.mono e⟩⟩
theorem Parts.good {M : Nat} {H : Hp} {xs : List V} {cs : List Ch} (h : Parts M H xs cs) : GoodC cs := fun c hc => by
  obtain ⟨i, hi⟩ := List.mem_iff_getElem?.mp hc
  have hl : i < xs.length := by rw [h.1]; exact (List.getElem?_eq_some_iff.mp hi).1
  obtain ⟨q, a, b⟩ := h.2 i xs[i] (List.getElem?_eq_getElem hl)
  rw [hi] at a
  cases a
  obtain ⟨_, _, _, _, _, _, b3, _⟩ := b.at_
  exact ⟨b3.ok, b3.few, b3.low⟩
abbrev s__law_layers : Stmt := top 31
abbrev N__law_layers : List Str := ["_law_parts_here", "_law_layers_here", "_law_part_here", "_law_longer", "_law_rank", "_law_k"]
theorem sc__law_layers : FnScope N__law_layers ["_law_parts_here"] (defScope s__law_layers) := ⟨rfl, rfl, rfl, by decide +kernel, rfl, by decide +kernel, by decide +kernel⟩
def spLawLayers : Sp := fun vs H Q _ => ∃ (a : Addr) (M : Nat) (xs : List V) (cs : List Ch), vs = [.ref a] ∧ H a = some (.lst xs) ∧ Parts M H xs cs ∧ M ≤ 100 ∧ cs.length ≤ 60 ∧
  ∀ (p : Addr) (H' : Hp), Ex H H' → H p = none → H' p = some (.lst (tabV (nOf cs) (lay cs))) → Q (.ref p) H'
section
variable {P : Program} {w : World} {K : PySem.W.Frag} {mg : Str → Option Value} {base : Heap}
theorem ok_law_layers {f : Addr} {fd : FuncData} (F : Fun K "_law_layers" "_law_layers" s__law_layers f fd) (T : Txt mg) : FnOk P w K mg base CX0 1 f fd ["_law_parts_here"] spLawLayers := by
  refine F.ok sc__law_layers (fun vs H Q E h => ?_) (fun cdv A outer s H vs Q E hr h => ?_)
  · obtain ⟨_, _, _, _, rfl, _⟩ := h
    rfl
  · obtain ⟨a, M, xs, cs, rfl, ha, hps, hM, few, k⟩ := h
    refine ⟨_, (pss_cons (ps_set (i := 1) sc__law_layers.nd rfl (Or.inl rfl) (pe_lst (pa_cons pe_int pa_nil)))
    (pss_cons (ps_for PassesOwn.never rfl (pi_list (pv 0)) (pg_name (i := 2) sc__law_layers.nd rfl (Or.inl rfl))
       (pss_cons (ps_setLc (i := 3) (own := [("_law_k", 5)]) (g := (gName 5)) (tt := tYes) rfl sc__law_layers.nd rfl rfl (sw_true rfl rfl rfl (by decide +kernel)) (pi_range1 (by rfl) T.range (pa_cons (pe_op op_add (pe_callB (cLen K) (by rfl) T.len PySem.boot_len (pa_cons (pv 1) pa_nil)) (pe_callB (cMax K) (by rfl) T.max (by decide +kernel) (pa_cons (pe_ix (iT K) (pv 2) pe_int (fun _ _ => rfl)) pa_nil))) pa_nil)) (blkOk_by (own := [("_law_k", 5)]) (N := N__law_layers) (sc := defScope s__law_layers) (by decide +kernel)) (fun _ _ _ _ _ => pg_name (i := 5) sc__law_layers.nd rfl (Or.inl rfl)) (fun _ _ _ _ _ => pts_nil) (fun _ _ _ _ _ => pe_int))
      (pss_cons (ps_for PassesOwn.never rfl (pi_list (pe_ix (iT K) (pv 2) pe_int (fun _ _ => rfl))) (pg_name (i := 4) sc__law_layers.nd rfl (Or.inl rfl))
         (pss_one (ps_for PassesOwn.never rfl (pi_range1 (by rfl) T.range (pa_cons (pe_callB (cLen K) (by rfl) T.len PySem.boot_len (pa_cons (pv 1) pa_nil)) pa_nil)) (pg_name (i := 5) sc__law_layers.nd rfl (Or.inl rfl))
           (pss_one (ps_asg (pe_op op_add (pe_ix (iL K) (pv 3) (pe_op op_add (pv 5) (pv 4)) (fun _ _ => rfl)) (pe_ix (iL K) (pv 1) (pv 5) (fun _ _ => rfl))) (pg_sub (pv 3) (pe_op op_add (pv 5) (pv 4)) set_list))))))
      (pss_one (ps_set (i := 1) sc__law_layers.nd rfl (Or.inl rfl) (pv 3))))))
    (pss_one (ps_ret (pv 1))))), ?_⟩
    have good := hps.good
    refine q_asgL (xs := tabV 1 one) (el_lst (vs := [.int 1]) (ea_cons ev_c ea_nil) (by decide)) fun p0 H1 hp0 e1 h1 => ?_
    refine s_forL (a := a) (xs := xs) (ev_var rfl) (sq_of (e1 _ _ ha)) (fun i σ H' => ∃ (p : Addr) (v2 v3 v4 v5 : Option V), σ = [some (.ref a), some (.ref p), v2, v3, v4, v5] ∧ Ex H H' ∧ H p = none ∧ H' p = some (.lst (tabV (nOf (cs.take i)) (lay (cs.take i)))))
      (fun H2 e2 => ⟨p0, none, none, none, none, rfl, e1.trans e2, hp0, e2 _ _ h1⟩) ?_ ?_ ?_
    · rintro i σ H' _ ⟨p, _, _, _, _, rfl, e, _⟩
      exact sq_of (e _ _ ha)
    · rintro i x σ H' hi ⟨p, v2, v3, v4, v5, rfl, e, hp, hL⟩
      obtain ⟨q, hq, hv⟩ := hps.2 i x hi
      obtain ⟨t, r, c, R, rfl, ht, hc, hr2, hR, hRl⟩ := (hv.mono e).at_
      have gi : GoodC (cs.take i) := fun z hz => good z (List.mem_of_mem_take hz)
      have hb := hgt_bd gi
      have hlt : (cs.take i).length ≤ 60 := by rw [List.length_take]; omega
      have hZ := lens_pos hc.ok
      have hZ20 := hc.low
      have u := lay_U gi
      generalize hf : lay (cs.take i) = fl at *
      have hnI : ((nOf (cs.take i) : Nat) : Int) = hgt (cs.take i) + 1 := by unfold nOf; omega
      generalize hn : nOf (cs.take i) = n at *
      -- longer = [0 for ..]
      refine q_asgL (xs := tabV (n + q.1 - 1) (fun _ => 0)) (el_lcRa (n := (n : Int) + ((q.1 : Int) - 1)) (ea_cons (ev_op (ev_is (ev_len (ev_var rfl) (sq_of hL)) (by rw [tabV_len])) (ev_maxL (ns := R) (m := (q.1 : Int) - 1) (ev_ixT (ev_var rfl) ev_c (st_of ht) rfl) (sq_of hr2) hR.top fun y hy => (hR.bd y hy).2) rv_I0) ea_nil) (by omega) (by rw [tabV_len]; omega) (fun x => rfl) fun j H2 e2 hj => ⟨.int 0, tabV_get (by omega), ev_c⟩) fun o H2 ho e2 hO => ?_
      have ho0 : H o = none := fresh_back e ho
      have hop : o ≠ p := (ne_of_none hL ho).symm
      have hor : o ≠ r := (ne_of_none hr2 ho).symm
      have hot : o ≠ t := (ne_of_none ht ho).symm
      refine q_forL (a := r) (xs := R.map V.int) (ev_ixT (ev_var rfl) ev_c (st_of (e2 _ _ ht)) rfl) (sq_of (e2 _ _ hr2)) (fun j σ H' => ∃ (g : Int → Int) (v4 v5 : Option V), σ = [some (.ref a), some (.ref p), some (.ref t), some (.ref o), v4, v5] ∧ Ex H H' ∧ H' p = some (.lst (tabV n fl)) ∧ H' r = some (.lst (R.map V.int)) ∧
          H' o = some (.lst (tabV (n + q.1 - 1) g)) ∧ ∀ s : Int, g s = ((R.take j).map fun m => fl (s - m)).sum)
        (fun H3 e3 => ⟨fun _ => 0, v4, v5, rfl, (e.trans e2).trans e3, e3 _ _ (e2 _ _ hL), e3 _ _ (e2 _ _ hr2), e3 _ _ hO, fun s => rfl⟩) (fun j σ H' _ ⟨_, _, _, _, _, _, h, _⟩ => sq_of h) ?_ ?_
      · rintro j y σ H3 hj ⟨g, v4, v5, rfl, e3, hp3, hr3, hO3, hg⟩
        obtain ⟨m, hm, rfl⟩ : ∃ m, R[j]? = some m ∧ y = .int m := by
          rw [List.getElem?_map] at hj
          cases hq : R[j]? with
          | none => rw [hq] at hj; cases hj
          | some v => rw [hq] at hj; exact ⟨v, rfl, (Option.some.inj hj).symm⟩
        have hmb := hR.bd m (List.mem_of_getElem? hm)
        refine s_forR1 (n := (n : Int)) (ea_cons (ev_is (ev_len (ev_var rfl) (sq_of hp3)) (by rw [tabV_len])) ea_nil) (by omega)
          (fun l σ H' => ∃ (g' : Int → Int) (v5 : Option V), σ = [some (.ref a), some (.ref p), some (.ref t), some (.ref o), some (.int m), v5] ∧ Ex H H' ∧ H' p = some (.lst (tabV n fl)) ∧ H' r = some (.lst (R.map V.int)) ∧
            H' o = some (.lst (tabV (n + q.1 - 1) g')) ∧ ∀ s : Int, g' s = g s + if m ≤ s ∧ s < m + (l : Int) then fl (s - m) else 0)
          (fun H4 e4 => ⟨g, v5, rfl, e3.trans e4, e4 _ _ hp3, e4 _ _ hr3, e4 _ _ hO3, fun s => by rw [if_neg (by omega)]; omega⟩) ?_ ?_
        · rintro l σ H4 hl ⟨g', v5, rfl, e4, hp4, hr4, hO4, hg'⟩
          have hk : ((l : Int) + m).toNat < n + q.1 - 1 := by omega
          have hkI : ((((l : Int) + m).toNat : Nat) : Int) = (l : Int) + m := by omega
          -- longer[k + rank] = longer[k + rank] + layers[k]
          refine ⟨_, rfl, _, rfl, _, rfl, _, _, rfl, rfl, o, _, (l : Int) + m, .int (g' ((l : Int) + m)), rfl, rfl, sq_of hO4, ?_, _, rfl, _, rfl, p, _, (l : Int), .int (fl (l : Int)), rfl, rfl, sq_of hp4, atI_nat (tabV_get (by omega)), _, _, rfl, rfl, ?_⟩
          · rw [← hkI]
            exact atI_nat (tabV_get hk)
          refine ⟨_, rfl, _, rfl, _, rfl, _, _, rfl, rfl, o, _, _, ((l : Int) + m).toNat, rfl, rfl, hO4, ?_, ?_⟩
          · rw [tabV_len]
            show ixN _ ((l : Int) + m) = _
            have h := ixN_nat hk
            rw [hkI] at h
            exact h
          refine ⟨fun s => if s = (l : Int) + m then g' ((l : Int) + m) + fl (l : Int) else g' s, _, rfl, e4.mut ho0, by rw [upd_ne hop.symm]; exact hp4, by rw [upd_ne hor.symm]; exact hr4, ?_, fun s => ?_⟩
          · rw [upd_same]
            refine congrArg (fun l => some (HO.lst l)) ?_
            show (tabV (n + q.1 - 1) g').set _ (V.int (g' ((l : Int) + m) + fl (l : Int))) = _
            rw [tabV_set hk, hkI]
          · show (if s = (l : Int) + m then g' ((l : Int) + m) + fl (l : Int) else g' s) = _
            by_cases c1 : s = (l : Int) + m
            · rw [if_pos c1, if_pos (by omega), hg', if_neg (by omega), c1]
              have : (l : Int) + m - m = (l : Int) := by omega
              rw [this]
              omega
            · rw [if_neg c1, hg']
              by_cases c2 : m ≤ s ∧ s < m + (l : Int)
              · rw [if_pos c2, if_pos (by omega)]
              · rw [if_neg c2, if_neg (by omega)]
        · rintro σ H4 ⟨g', v5, rfl, e4, hp4, hr4, hO4, hg'⟩
          refine ⟨g', _, _, rfl, e4, hp4, hr4, hO4, fun s => ?_⟩
          rw [sum_take _ _ j _ hm, hg', hg]
          congr 1
          by_cases c1 : m ≤ s ∧ s < m + (((n : Int).toNat : Nat) : Int)
          · rw [if_pos c1]
          · rw [if_neg c1]
            by_cases c2 : s - m < 0
            · rw [u.zero _ c2]
            · rw [u.far _ (by omega)]
      · rintro σ H3 ⟨g, v4, v5, rfl, e3, hp3, hr3, hO3, hg⟩
        rw [List.length_map, List.take_length] at hg
        refine s_asg (ev_var rfl) fun H4 e4 => ?_
        refine ⟨o, _, _, _, _, rfl, e3.trans e4, ho0, ?_⟩
        have et : cs.take (i + 1) = cs.take i ++ [q] := by rw [List.take_add_one, hq]; rfl
        have en : nOf (cs.take (i + 1)) = n + q.1 - 1 := by
          rw [et]
          unfold nOf
          rw [hgt_snoc]
          omega
        rw [e4 _ _ hO3, en, et, lay_snoc, hf]
        refine congrArg (fun l => some (HO.lst l)) (tabV_congr fun s _ _ => ?_)
        rw [hg, hR.sum]
    · rintro σ H' ⟨p, v2, v3, v4, v5, rfl, e, hp, hL⟩
      rw [hps.1, List.take_length] at hL
      refine s_ret (ev_var rfl) fun H2 e2 => ?_
      exact k p H2 (e.trans e2) hp (e2 _ _ hL)
end
end K04
/-! ## D14 -/
set_option Elab.async false
set_option linter.all false
set_option maxRecDepth 100000
set_option maxHeartbeats 4000000
namespace K04
open PySem L2 Evl
/-! ### two lists of ints compared -/
theorem dp_ints {K : PySem.W.Frag} {H : Hp} : ∀ ns : List Int, DpAll K H (ns.map V.int) (ns.map PyData.int)
  | [] => .nil
  | n :: r => .cons (.int n) (dp_ints r)
theorem lay_ints : ∀ ns : List Int, PyData.canLayAll0 (ns.map PyData.int) = true
  | [] => by simp [PyData.canLayAll0]
  | n :: r => by simp [PyData.canLayAll0, PyData.canLay0]; exact lay_ints r
theorem dep_ints : ∀ ns : List Int, PyData.depthAll (ns.map PyData.int) ≤ 1
  | [] => by simp [PyData.depthAll]
  | n :: r => by have := dep_ints r; simp [PyData.depthAll, PyData.depth] ; omega
theorem shaped_ints (ns : List Int) : SeqAt.shaped (.list (ns.map PyData.int)) = true := by
  unfold SeqAt.shaped
  rw [Bool.and_eq_true]
  refine ⟨?_, ?_⟩
  · show PyData.canLay0 (.list _) = true
    unfold PyData.canLay0
    exact lay_ints ns
  · have := dep_ints ns
    have e : PyData.depth (.list (ns.map PyData.int)) = PyData.depthAll (ns.map PyData.int) + 1 := by simp [PyData.depth]
    rw [e]
    exact decide_eq_true (by omega)
theorem eqv_ints (ns : List Int) : PyData.eqv (.list (ns.map PyData.int)) (.list (ns.map PyData.int)) = true := SeqAt.eqv_refl _ (by have := shaped_ints ns; unfold SeqAt.shaped at this; exact (Bool.and_eq_true_iff.mp this).1)
theorem rEqD_same {K : PySem.W.Frag} {H : Hp} {a b : Addr} {ns : List Int} {Q : VK} (ha : SqL K H a (ns.map V.int)) (hb : SqL K H b (ns.map V.int)) (q : Q (.bl true) H) : rEqD K (.ref a) (.ref b) H Q :=
  ⟨_, _, .lst ha (dp_ints ns), .lst hb (dp_ints ns), shaped_ints ns, shaped_ints ns, by rw [eqv_ints]; exact q⟩
theorem rNeD_same {K : PySem.W.Frag} {H : Hp} {a b : Addr} {ns : List Int} {Q : VK} (ha : SqL K H a (ns.map V.int)) (hb : SqL K H b (ns.map V.int)) (q : Q (.bl false) H) : rNeD K (.ref a) (.ref b) H Q :=
  ⟨_, _, .lst ha (dp_ints ns), .lst hb (dp_ints ns), shaped_ints ns, shaped_ints ns, by rw [eqv_ints]; exact q⟩
end K04
/-! ## D15 -/
set_option Elab.async false
set_option linter.all false
set_option maxRecDepth 100000
set_option maxHeartbeats 4000000
namespace K04
open PySem L2 Evl
/-! ### counting the ranks of all full points -/
def cnt (l : List Int) (k : Int) : Int := (l.count k : Int)
theorem cnt_nil (k : Int) : cnt [] k = 0 := rfl
theorem cnt_app (l m : List Int) (k : Int) : cnt (l ++ m) k = cnt l k + cnt m k := by unfold cnt; rw [List.count_append]; omega
theorem cnt_shift (R : List Int) (r k : Int) : cnt (R.map fun m => r + m) k = (R.map fun m => if r = k - m then (1 : Int) else 0).sum := by
  induction R with
  | nil => rfl
  | cons m t ih =>
    rw [List.map_cons, List.map_cons, List.sum_cons, ← ih]
    unfold cnt
    rw [List.count_cons]
    by_cases c : r = k - m
    · rw [if_pos c, if_pos (by simp; omega)]; omega
    · rw [if_neg c, if_neg (by simp; omega)]; omega
theorem cnt_one (r k : Int) : cnt [r] k = if r = k then 1 else 0 := by
  unfold cnt
  rw [List.count_singleton]
  by_cases c : r = k
  · rw [if_pos c, if_pos (by simp [c])]; rfl
  · rw [if_neg c, if_neg (by simp [c])]; rfl
def grow (l R : List Int) : List Int := l.flatMap fun r => R.map fun m => r + m
theorem cnt_grow (l R : List Int) (k : Int) : cnt (grow l R) k = (R.map fun m => cnt l (k - m)).sum := by
  induction l with
  | nil =>
    show cnt [] k = _
    have : (R.map fun m => cnt [] (k - m)) = R.map fun _ => (0 : Int) := List.map_congr_left fun _ _ => rfl
    rw [this, cnt_nil]
    clear this
    induction R with
    | nil => rfl
    | cons a t ih => rw [List.map_cons, List.sum_cons, ← ih]; rfl
  | cons r t ih =>
    have e : grow (r :: t) R = (R.map fun m => r + m) ++ grow t R := rfl
    rw [e, cnt_app, ih, cnt_shift]
    have e2 : ∀ S : List Int, (S.map fun m => if r = k - m then (1 : Int) else 0).sum + (S.map fun m => cnt t (k - m)).sum = (S.map fun m => cnt (r :: t) (k - m)).sum := by
      intro S
      induction S with
      | nil => rfl
      | cons m S ih2 =>
        simp only [List.map_cons, List.sum_cons]
        rw [← ih2]
        have : cnt (r :: t) (k - m) = (if r = k - m then (1 : Int) else 0) + cnt t (k - m) := by
          rw [show r :: t = [r] ++ t from rfl, cnt_app, cnt_one]
        rw [this]
        omega
    exact e2 R
theorem grow_len (l R : List Int) : (grow l R).length = l.length * R.length := by
  induction l with
  | nil => simp [grow]
  | cons r t ih =>
    have e : grow (r :: t) R = (R.map fun m => r + m) ++ grow t R := rfl
    rw [e, List.length_append, ih, List.length_map, List.length_cons, Nat.add_mul]
    omega
theorem grow_take (l R : List Int) (j : Nat) (r : Int) (h : l[j]? = some r) : grow (l.take (j + 1)) R = grow (l.take j) R ++ R.map fun m => r + m := by
  unfold grow
  rw [List.take_add_one, h, List.flatMap_append]
  simp
abbrev s__law_counted : Stmt := top 32
abbrev N__law_counted : List Str := ["_law_parts_here", "_law_layers_here", "_law_ranks", "_law_part_here", "_law_longer", "_law_rank", "_law_more", "_law_k"]
theorem sc__law_counted : FnScope N__law_counted ["_law_parts_here", "_law_layers_here"] (defScope s__law_counted) := ⟨rfl, rfl, rfl, by decide +kernel, rfl, by decide +kernel, by decide +kernel⟩
def spLawCounted : Sp := fun vs H Q _ => ∃ (a b : Addr) (xs : List V) (cs : List Ch), vs = [.ref a, .ref b] ∧ H a = some (.lst xs) ∧ Parts 12 H xs cs ∧ cs.length ≤ 3 ∧ H b = some (.lst (tabV (nOf cs) (lay cs))) ∧
  ∀ (H' : Hp), Ex H H' → Q (.bl true) H'
section
variable {P : Program} {w : World} {K : PySem.W.Frag} {mg : Str → Option Value} {base : Heap}
theorem ok_law_counted {f : Addr} {fd : FuncData} (F : Fun K "_law_counted" "_law_counted" s__law_counted f fd) (T : Txt mg) : FnOk P w K mg base CX0 1 f fd ["_law_parts_here", "_law_layers_here"] spLawCounted := by
  refine F.ok sc__law_counted (fun vs H Q E h => ?_) (fun cdv A outer s H vs Q E hr h => ?_)
  · obtain ⟨_, _, _, _, rfl, _⟩ := h
    rfl
  · obtain ⟨a, b, xs, cs, rfl, ha, hps, few, hb, k⟩ := h
    refine ⟨_, (pss_cons (ps_set (i := 2) sc__law_counted.nd rfl (Or.inr rfl) (pe_lst (pa_cons pe_int pa_nil)))
    (pss_cons (ps_for PassesOwn.never rfl (pi_list (pv 0)) (pg_name (i := 3) sc__law_counted.nd rfl (Or.inl rfl))
       (pss_cons (ps_set (i := 4) sc__law_counted.nd rfl (Or.inl rfl) (pe_lst pa_nil))
      (pss_cons (ps_for PassesOwn.never rfl (pi_list (pv 2)) (pg_name (i := 5) sc__law_counted.nd rfl (Or.inr rfl))
         (pss_one (ps_set (i := 4) sc__law_counted.nd rfl (Or.inl rfl) (pe_op op_cat (pv 4) (pe_lc (own := [("_law_more", 6)]) (g := (gName 6)) (tt := tYes) rfl sc__law_counted.nd (pi_list (pe_ix (iT K) (pv 3) pe_int (fun _ _ => rfl))) (blkOk_by (own := [("_law_more", 6)]) (N := N__law_counted) (sc := defScope s__law_counted) (by decide +kernel)) (fun _ _ _ _ _ => pg_name (i := 6) sc__law_counted.nd rfl (Or.inl rfl)) (fun _ _ _ _ _ => pts_nil) (fun _ _ _ _ _ => (pe_op op_add (pv 5) (pv 6))))))))
      (pss_one (ps_set (i := 2) sc__law_counted.nd rfl (Or.inr rfl) (pv 4))))))
    (pss_one (ps_ret (pe_cmpR (op_eqD hr.units) (pe_lc (own := [("_law_k", 7)]) (g := (gName 7)) (tt := tYes) rfl sc__law_counted.nd (pi_range1 (by rfl) T.range (pa_cons (pe_callB (cLen K) (by rfl) T.len PySem.boot_len (pa_cons (pv 1) pa_nil)) pa_nil)) (blkOk_by (own := [("_law_k", 7)]) (N := N__law_counted) (sc := defScope s__law_counted) (by decide +kernel)) (fun _ _ _ _ _ => pg_name (i := 7) sc__law_counted.nd rfl (Or.inl rfl)) (fun _ _ _ _ _ => pts_nil) (fun _ _ _ _ _ => (pe_bmK K PySem.F.plainAttrs_list PySem.F.slot_list_count PySem.F.type_list_count (mCount K) (pv 2) (pa_cons (pv 7) pa_nil)))) (pv 1) (nomark _)))))), ?_⟩
    have good := hps.good
    have hn := hgt_bd good
    refine q_asgL (xs := [V.int 0]) (el_lst (vs := [.int 0]) (ea_cons ev_c ea_nil) (by decide)) fun p0 H1 hp0 e1 h1 => ?_
    refine q_forL (a := a) (xs := xs) (ev_var rfl) (sq_of (e1 _ _ ha)) (fun i σ H' => ∃ (p : Addr) (l : List Int) (v3 v4 v5 v6 v7 : Option V), σ = [some (.ref a), some (.ref b), some (.ref p), v3, v4, v5, v6, v7] ∧ Ex H H' ∧ H p = none ∧ H' p = some (.lst (l.map V.int)) ∧ l.length ≤ 12 ^ i ∧ ∀ k : Int, cnt l k = lay (cs.take i) k)
      (fun H2 e2 => ⟨p0, [0], none, none, none, none, none, rfl, e1.trans e2, hp0, e2 _ _ h1, by decide, fun k => by
        rw [cnt_one]
        show _ = one k
        unfold one
        by_cases c : (0 : Int) = k
        · rw [if_pos c, if_pos c.symm]
        · rw [if_neg c, if_neg (fun z => c z.symm)]⟩) ?_ ?_ ?_
    · rintro i σ H' _ ⟨p, _, _, _, _, _, _, rfl, e, _⟩
      exact sq_of (e _ _ ha)
    · rintro i x σ H' hi ⟨p, l, v3, v4, v5, v6, v7, rfl, e, hp, hL, hll, hcl⟩
      obtain ⟨q, hq, hv⟩ := hps.2 i x hi
      obtain ⟨t, r, c, R, rfl, ht, hc, hr2, hR, hRl⟩ := (hv.mono e).at_
      have hi3 : i < 3 := by have := (List.getElem?_eq_some_iff.mp hq).1; omega
      have hl144 : l.length ≤ 144 := by
        refine Nat.le_trans hll ?_
        have : i ≤ 2 := by omega
        exact Nat.le_trans (Nat.pow_le_pow_right (by decide) this) (by decide)
      refine q_asgL (xs := []) (el_lst ea_nil (by decide)) fun o H2 ho e2 hO => ?_
      refine q_forL (a := p) (xs := l.map V.int) (ev_var rfl) (sq_of (e2 _ _ hL)) (fun j σ H' => ∃ (o : Addr) (v5 : Option V), σ = [some (.ref a), some (.ref b), some (.ref p), some (.ref t), some (.ref o), v5, v6, v7] ∧ Ex H H' ∧ H o = none ∧ H' p = some (.lst (l.map V.int)) ∧ H' t = some (.tup [c, .ref r]) ∧ H' r = some (.lst (R.map V.int)) ∧ H' o = some (.lst ((grow (l.take j) R).map V.int)))
        (fun H3 e3 => ⟨o, v5, rfl, (e.trans e2).trans e3, fresh_back e ho, e3 _ _ (e2 _ _ hL), e3 _ _ (e2 _ _ ht), e3 _ _ (e2 _ _ hr2), e3 _ _ hO⟩) (fun j σ H' _ ⟨_, _, _, _, _, h, _⟩ => sq_of h) ?_ ?_
      · rintro j y σ H3 hj ⟨o, v5, rfl, e3, ho0, hp3, ht3, hr3, hO3⟩
        obtain ⟨m, hm, rfl⟩ : ∃ m, l[j]? = some m ∧ y = .int m := by
          rw [List.getElem?_map] at hj
          cases hq : l[j]? with
          | none => rw [hq] at hj; cases hj
          | some v => rw [hq] at hj; exact ⟨v, rfl, (Option.some.inj hj).symm⟩
        have hjl : j < l.length := (List.getElem?_eq_some_iff.mp hm).1
        refine s_asgL (xs := (grow (l.take j) R).map V.int ++ (R.map fun z => m + z).map V.int) (el_catL (a := o) (ev_var rfl) hO3 (el_lcLa (a := r) (xs := R.map V.int) (ev_ixT (ev_var rfl) ev_c (st_of ht3) rfl) (sq_of hr3) (by rw [List.length_map]; omega) (by simp) (fun x => rfl) fun z x H4 e4 hz => ?_) ?_) fun o2 H4 ho2 e4 hO4 => ?_
        · rw [List.getElem?_map] at hz
          cases hz2 : R[z]? with
          | none => rw [hz2] at hz; cases hz
          | some v =>
            rw [hz2] at hz
            cases hz
            refine ⟨.int (m + v), ?_, ev_op (ev_var rfl) (ev_var rfl) rv_I0⟩
            rw [List.getElem?_map, List.getElem?_map, hz2]
            rfl
        · rw [List.length_map, List.length_map, List.length_map, grow_len, List.length_take]
          have : min j l.length * R.length ≤ 144 * 12 := Nat.mul_le_mul (by omega) hRl
          omega
        · refine ⟨o2, _, rfl, e3.trans e4, fresh_back e3 ho2, e4 _ _ hp3, e4 _ _ ht3, e4 _ _ hr3, ?_⟩
          rw [hO4, ← List.map_append, grow_take l R j m hm]
      · rintro σ H3 ⟨o, v5, rfl, e3, ho0, hp3, ht3, hr3, hO3⟩
        rw [List.length_map, List.take_length] at hO3
        refine s_asg (ev_var rfl) fun H4 e4 => ?_
        refine ⟨o, grow l R, _, _, _, _, _, rfl, e3.trans e4, ho0, e4 _ _ hO3, ?_, fun k => ?_⟩
        · rw [grow_len, Nat.pow_succ]
          exact Nat.mul_le_mul hll hRl
        · have et : cs.take (i + 1) = cs.take i ++ [q] := by rw [List.take_add_one, hq]; rfl
          rw [cnt_grow, et, lay_snoc, ← hR.sum]
          congr 1
          exact List.map_congr_left fun m _ => hcl _
    · rintro σ H' ⟨p, l, v3, v4, v5, v6, v7, rfl, e, hp, hL, hll, hcl⟩
      rw [hps.1, List.take_length] at hcl
      have hb' := e _ _ hb
      refine s_ret (v := .bl true) (ev_opL1 (xs := tabV (nOf cs) (lay cs)) (el_lcRa (n := (nOf cs : Int)) (ea_cons (ev_is (ev_len (ev_var rfl) (sq_of hb')) (by rw [tabV_len])) ea_nil) (by unfold nOf; omega) (by rw [tabV_len]; omega) (fun x => rfl) fun j H2 e2 hj => ⟨.int (lay cs (j : Int)), tabV_get (by omega), ?_⟩) (fun H2 e2 => ev_var rfl) fun p2 H2 hp2 e2 => ?_) fun H2 e2 => k H2 (e.trans e2)
      · intro H3 e3 Q' q'
        refine ⟨_, rfl, .inl ⟨rfl, _, sq_of (e3 _ _ (e2 _ _ hL))⟩, _, rfl, p, l, _, rfl, rfl, sq_of (e3 _ _ (e2 _ _ hL)), ?_⟩
        have := q' H3 (Ex.refl H3)
        rw [← hcl] at this
        exact this
      · intro H3 e3 Q' q'
        exact rEqD_same (sq_of (e3 _ _ hp2)) (sq_of (e3 _ _ (e2 _ _ hb'))) (q' H3 (Ex.refl H3))
end
end K04
/-! ## D16 -/
set_option Elab.async false
set_option linter.all false
set_option maxRecDepth 100000
set_option maxHeartbeats 4000000
namespace K04
open PySem L2 Evl
abbrev s__law_bag : Stmt := top 24
abbrev N__law_bag : List Str := ["_law_script", "_law_state", "_law_k", "_law_cell"]
theorem sc__law_bag : FnScope N__law_bag ["_law_script"] (defScope s__law_bag) := ⟨rfl, rfl, rfl, by decide +kernel, rfl, by decide +kernel, by decide +kernel⟩
def spBag (K : PySem.W.Frag) : Sp := fun vs H Q _ => ∃ (a : Addr) (ns : List Int), vs = [.ref a] ∧ SqL K H a (ns.map V.int) ∧ ns.length ≤ 63 ∧ ∀ (b wd : Addr) (H' : Hp), BG H H' b wd 10 → Q (.ref b) H'
theorem given_ints (n : Nat) (f : Nat → Bool) (g : Nat → Int) : ∃ cs : List Int, given n f (fun i => .int (g i)) = cs.map V.int ∧ cs.length ≤ n := by
  refine ⟨((List.range n).filter f).map g, ?_, ?_⟩
  · unfold given
    rw [List.map_map]
    rfl
  · rw [List.length_map]
    have := List.length_filter_le f (List.range n)
    rw [List.length_range] at this
    exact this
section
variable {P : Program} {w : World} {K : PySem.W.Frag} {mg : Str → Option Value} {base : Heap}
theorem ok_bag {f : Addr} {fd : FuncData} (F : Fun K "_law_bag" "_law_bag" s__law_bag f fd) (T : Txt mg) : FnOk P w K mg base CX0 1 f fd ["_law_script"] (spBag K) := by
  refine F.ok sc__law_bag (fun vs H Q E h => ?_) (fun cdv A outer s H vs Q E hr h => ?_)
  · obtain ⟨_, _, rfl, _⟩ := h
    rfl
  · obtain ⟨a, ns, rfl, ha, hl, k⟩ := h
    refine ⟨_, (pss_cons (ps_set (i := 1) sc__law_bag.nd rfl (Or.inl rfl) pe_int)
    (pss_cons (ps_for PassesOwn.never rfl (pi_range1 (by rfl) T.range (pa_cons (pe_callB (cLen K) (by rfl) T.len PySem.boot_len (pa_cons (pv 0) pa_nil)) pa_nil)) (pg_name (i := 2) sc__law_bag.nd rfl (Or.inl rfl))
       (pss_one (ps_set (i := 1) sc__law_bag.nd rfl (Or.inl rfl) (pe_op op_mod (pe_callTy call_int1 (by rfl) T.int (by decide +kernel) (pa_cons (pe_op op_add (pe_op op_add (pe_op op_mul (pv 1) pe_int) (pe_op op_mul (pe_ix (iL K) (pv 0) (pv 2) (fun _ _ => rfl)) (pe_op op_add (pe_op op_mul pe_int (pv 2)) pe_int))) pe_int) pa_nil)) pe_int))))
    (pss_one (ps_ret (pe_lst (pa_cons (pv 1) (pa_cons pe_int (pa_cons (pe_lc (own := [("_law_cell", 3)]) (g := (gName 3)) rfl sc__law_bag.nd (pi_list (pv 0)) (blkOk_by (own := [("_law_cell", 3)]) (N := N__law_bag) (sc := defScope s__law_bag) (by decide +kernel)) (fun _ _ _ _ _ => pg_name (i := 3) sc__law_bag.nd rfl (Or.inl rfl)) (fun _ _ _ _ _ => pts_one (pt_cmpR op_ge (pv 3) (pe_op op_pow pe_int pe_int) (nomark _))) (fun _ _ _ _ _ => (pv 3))) pa_nil)))))))), ?_⟩
    refine q_asg ev_c fun H1 e1 => ?_
    refine q_forR1 (n := (ns.length : Int)) (ea_cons (ev_is (ev_len (ev_var rfl) (ex_l e1 ha)) (by rw [List.length_map])) ea_nil) (by omega)
      (fun i σ H' => ∃ (z : Int) (v2 v3 : Option V), σ = [some (.ref a), some (.int z), v2, v3] ∧ Ex H H' ∧ (0 ≤ z ∧ z < 2147483648)) (fun H2 e2 => ⟨60607, none, none, rfl, e1.trans e2, by decide⟩) ?_ ?_
    · rintro i σ H' hi ⟨z, v2, v3, rfl, e, hz⟩
      have hlt : i < ns.length := by omega
      refine s_asg (ev_op (ev_int1 (ev_op (ev_op (ev_op (ev_var rfl) ev_c (rv_I (.inl ⟨by omega, by omega⟩))) (ev_op (ev_ixL (ev_var rfl) (ev_var rfl) (ex_l e ha) (atI_nat (get_D hlt))) (ev_op (ev_op ev_c (ev_var rfl) (rv_I (.inl ⟨by decide, by decide⟩))) ev_c rv_I0) (rv_I (.inr ⟨by omega, by omega⟩))) rv_I0) ev_c rv_I0)) ev_c (rv_I (by decide))) fun H2 e2 => ?_
      exact ⟨_, _, _, rfl, e.trans e2, by omega⟩
    · rintro σ H' ⟨z, v2, v3, rfl, e, hz⟩
      -- [state, 10, [cell for cell in script if cell >= 10 ** 18]]
      obtain ⟨cs, hcs, hcl⟩ := given_ints (ns.map V.int).length (fun i => decide (10 ^ 18 ≤ ns.getD i 0)) (fun i => ns.getD i 0)
      refine ⟨_, rfl, ?_⟩
      have hlc : EvL (tLc (iList K (tVar 0)) (gName 3) (tTest (tOp (rI0 fun i j => .bl (decide (j ≤ i))) (tVar 3) (tOp (rI CPow fun i j => .int (i ^ j.toNat)) (tC (.int 10)) (tC (.int 18))))) (tVar 3) [3]) [some (.ref a), some (.int z), v2, v3] H' (cs.map V.int) := by
        rw [← hcs]
        refine el_lcL _ _ (ev_var rfl) (ex_l e ha) (by rw [List.length_map]; omega) (fun x => rfl) (fun i x H3 e3 hx => ?_) (fun i x H3 e3 hx hf => ?_)
        · have hil : i < ns.length := by have := (List.getElem?_eq_some_iff.mp hx).1; rw [List.length_map] at this; exact this
          rw [get_D hil] at hx
          cases hx
          exact et_test (ev_op (ev_var rfl) (ev_op ev_c ev_c (rv_I ⟨by decide, by decide, by decide⟩)) rv_I0)
        · have hil : i < ns.length := by have := (List.getElem?_eq_some_iff.mp hx).1; rw [List.length_map] at this; exact this
          rw [get_D hil] at hx
          cases hx
          exact ev_var rfl
      dsimp only [tCons, tNil, tC, List.map]
      refine hlc H' (Ex.refl H') _ fun wd H2 hwd e2 hw => ?_
      refine ⟨by show 3 ≤ sizeLine; decide, fun b hb => ?_⟩
      have hbw : b ≠ wd := (ne_of_none hw hb).symm
      rw [List.length_map] at hcl
      refine k b wd _ ⟨(e.trans e2).trans (Ex.new hb), fresh_back (e.trans e2) hb, fresh_back e hwd, hbw, z, 10, cs, upd_same, by rw [upd_ne hbw.symm]; exact hw, hz, by decide, by omega⟩
end
theorem lens_one {n : Nat} (h : 1 ≤ n) : Lens n [n] := ⟨by simp, fun z hz => by simp at hz; omega, fun z hz => by simp at hz; omega, fun z hz => by simp at hz; subst hz; simp⟩
theorem rk_one {n : Nat} (h : 1 ≤ n) : Rk n [n] ((List.range n).map fun (i : Nat) => (i : Int)) := by
  refine ⟨fun f r => ?_, List.mem_map.mpr ⟨n - 1, List.mem_range.mpr (by omega), by omega⟩, fun m hm => ?_⟩
  · have e : st n n = 0 := by unfold st; omega
    show _ = ([n].map fun z => win z f (r - st n z)).sum
    rw [List.map_cons, List.map_nil, e, List.map_map]
    show _ = win n f (r - 0) + 0
    unfold win
    rw [show r - 0 = r by omega]
    show _ = _
    rw [Int.add_zero]
    rfl
  · obtain ⟨i, hi, rfl⟩ := List.mem_map.mp hm
    have := List.mem_range.mp hi
    omega
theorem rgV_nat (n : Nat) : rgV 0 (n : Int) = ((List.range n).map fun (i : Nat) => (i : Int)).map V.int := by
  unfold rgV
  rw [List.map_map]
  have e : ((n : Int) - 0).toNat = n := by omega
  rw [e]
  apply List.map_congr_left
  intro i _
  show V.int (0 + (i : Int)) = V.int (i : Int)
  rw [Int.zero_add]
end K04
/-! ## D17 -/
set_option Elab.async false
set_option linter.all false
set_option maxRecDepth 100000
set_option maxHeartbeats 4000000
namespace K04
open PySem L2 Evl
/-! ### heaps without the bag -/
def hid (b wd : Addr) (H : Hp) : Hp := fun c => if c = b ∨ c = wd then none else H c
theorem hid_ne {b wd c : Addr} {H : Hp} (h1 : c ≠ b) (h2 : c ≠ wd) : hid b wd H c = H c := if_neg (by simp [h1, h2])
theorem hid_b {b wd : Addr} {H : Hp} : hid b wd H b = none := if_pos (.inl rfl)
theorem hid_w {b wd : Addr} {H : Hp} : hid b wd H wd = none := if_pos (.inr rfl)
theorem hid_ex {b wd : Addr} {H : Hp} : Ex (hid b wd H) H := fun a o e => by
  unfold hid at e
  split at e
  · cases e
  · exact e
theorem BG.hid {G H : Hp} {b wd : Addr} {N : Nat} (h : BG G H b wd N) : BG (hid b wd H) H b wd N := ⟨hid_ex, hid_b, hid_w, h.ne, h.at_⟩
/-- what is no list at the bag's two places stands in the rest -/
theorem BG.keeps {G H : Hp} {b wd : Addr} {N : Nat} (h : BG G H b wd N) {c : Addr} {o : HO} (hc : H c = some o) (h1 : c ≠ b) (h2 : c ≠ wd) : K04.hid b wd H c = some o := by rw [hid_ne h1 h2]; exact hc
theorem BG.tup_ne {G H : Hp} {b wd c : Addr} {N : Nat} {xs : List V} (h : BG G H b wd N) (hc : H c = some (.tup xs)) : c ≠ b ∧ c ≠ wd := by
  obtain ⟨_, _, _, _, s0, s1, cs, h1, h2, _⟩ := h
  exact ⟨fun z => (by rw [z, h1] at hc; cases hc), fun z => (by rw [z, h2] at hc; cases hc)⟩
theorem BG.up {G G' H : Hp} {b wd : Addr} {N : Nat} (h : BG G H b wd N) (e : Ex G G') (e' : Ex G' H) (h1 : G' b = none) (h2 : G' wd = none) : BG G' H b wd N := ⟨e', h1, h2, h.ne, h.at_⟩
theorem BG.hidG {G H : Hp} {b wd : Addr} {N : Nat} (h : BG G H b wd N) : Ex G (K04.hid b wd H) := fun c o e => by
  rw [hid_ne (ne_of_none e h.gb) (ne_of_none e h.gw)]
  exact h.ex c o e
/-! ### spots -/
def Spots (H : Hp) (xs : List V) (SP : List (Int × Int)) : Prop := xs.length = SP.length ∧ ∀ (i : Nat) (x : V), xs[i]? = some x → ∃ (t : Addr) (q : Int × Int), x = .ref t ∧ SP[i]? = some q ∧ H t = some (.tup [.int q.1, .int q.2])
theorem Spots.mono {H H' : Hp} {xs : List V} {SP : List (Int × Int)} (e : ∀ t ys, H t = some (.tup ys) → H' t = some (.tup ys)) (h : Spots H xs SP) : Spots H' xs SP :=
  ⟨h.1, fun i x hi => by obtain ⟨t, q, a, b, c⟩ := h.2 i x hi; exact ⟨t, q, a, b, e _ _ c⟩⟩
theorem Spots.nil (H : Hp) : Spots H [] [] := ⟨rfl, fun i x h => by simp at h⟩
theorem Spots.app {H : Hp} {xs ys : List V} {SP SQ : List (Int × Int)} (h : Spots H xs SP) (g : Spots H ys SQ) : Spots H (xs ++ ys) (SP ++ SQ) := by
  refine ⟨by rw [List.length_append, List.length_append, h.1, g.1], fun i x hi => ?_⟩
  rw [List.getElem?_append] at hi
  split at hi
  · rename_i hlt
    obtain ⟨t, q, a, b, c⟩ := h.2 i x hi
    exact ⟨t, q, a, by rw [List.getElem?_append_left (by rw [← h.1]; exact hlt)]; exact b, c⟩
  · rename_i hlt
    obtain ⟨t, q, a, b, c⟩ := g.2 _ x hi
    exact ⟨t, q, a, by rw [List.getElem?_append_right (by rw [← h.1]; omega), ← h.1]; exact b, c⟩
theorem Spots.one {H : Hp} {t : Addr} {q : Int × Int} (h : H t = some (.tup [.int q.1, .int q.2])) : Spots H [.ref t] [q] := ⟨rfl, fun i x hi => by
  match i, hi with
  | 0, hi =>
    have := Option.some.inj hi
    exact ⟨t, q, this.symm, rfl, h⟩⟩
theorem Spots.rev {H : Hp} {xs : List V} {SP : List (Int × Int)} (h : Spots H xs SP) : Spots H xs.reverse SP.reverse := by
  refine ⟨by rw [List.length_reverse, List.length_reverse, h.1], fun i x hi => ?_⟩
  have hl : i < xs.length := by have := (List.getElem?_eq_some_iff.mp hi).1; rw [List.length_reverse] at this; exact this
  rw [List.getElem?_reverse hl] at hi
  obtain ⟨t, q, a, b, c⟩ := h.2 _ x hi
  exact ⟨t, q, a, by rw [List.getElem?_reverse (by rw [← h.1]; exact hl), ← h.1]; exact b, c⟩
/-- a list's object is changed: tuples stay -/
theorem tup_upd {H : Hp} {p : Addr} {l : List V} {o : HO} (hp : H p = some (.lst l)) : ∀ t ys, H t = some (.tup ys) → upd H p o t = some (.tup ys) := fun t ys h => by
  rw [upd_ne (ne_of h hp (by intro z; cases z))]
  exact h
theorem ex_tup {H H' : Hp} (e : Ex H H') : ∀ t ys, H t = some (.tup ys) → H' t = some (.tup ys) := fun t ys h => e _ _ h
/-- spots[k] -/
theorem Spots.at_ {H : Hp} {xs : List V} {SP : List (Int × Int)} (h : Spots H xs SP) {i : Nat} (hi : i < SP.length) : ∃ t, xs[i]? = some (.ref t) ∧ H t = some (.tup [.int (SP.getD i (0, 0)).1, .int (SP.getD i (0, 0)).2]) := by
  have hl : i < xs.length := by rw [h.1]; exact hi
  obtain ⟨t, q, a, b, c⟩ := h.2 i xs[i] (List.getElem?_eq_getElem hl)
  refine ⟨t, by rw [List.getElem?_eq_getElem hl, a], ?_⟩
  have e : SP.getD i (0, 0) = q := by rw [List.getD_eq_getElem?_getD, b]; rfl
  rw [e]
  exact c
section
variable {K : PySem.W.Frag} {σ : L2.St} {H : Hp} {D : Ends} {rest : TS} {te to : TE}
/-- if backwards: xs.reverse() -/
theorem q_ifrev {bw : Bool} {p : Addr} {xs : List V} {i j : Nat} (hb : σ[i]? = some (some (.bl bw))) (hp : σ[j]? = some (some (.ref p))) (hx : H p = some (.lst xs))
    (k : ∀ H', (bw = false → H' = H) → (bw = true → H' = upd H p (.lst xs.reverse)) → rest D σ H') : tSeq (tIfS (tB (tVar i)) (tDrop (tBM0 K "list" rReverse (tVar j))) tNext) rest D σ H := by
  refine ⟨_, hb, bw, rfl, ?_⟩
  cases bw with
  | true => exact iteT ⟨_, hp, .inl ⟨rfl, _, sq_of hx⟩, p, xs, rfl, rfl, hx, k _ (fun z => by cases z) (fun _ => rfl)⟩
  | false => exact iteF (k H (fun _ => rfl) (fun z => by cases z))
end
/-- a bool's decide -/
theorem decide_int (a b : Int) : decide (V.int a = V.int b) = decide (a = b) := by
  by_cases c : a = b
  · subst c; simp
  · rw [decide_eq_false c, decide_eq_false fun z => c (V.int.inj z)]
/-- the ints of a tuple at a place -/
def intOf : V → Int
  | .int i => i
  | _ => 0
def keyAt (H : Hp) : V → List Int
  | .ref t => (match H t with
    | some (.tup ys) => ys.map intOf
    | _ => [])
  | _ => []
theorem keyAt_of {H : Hp} {t : Addr} {ns : List Int} (h : H t = some (.tup (ns.map V.int))) : keyAt H (.ref t) = ns := by
  show (match H t with
    | some (.tup ys) => ys.map intOf
    | _ => []) = ns
  rw [h]
  show (ns.map V.int).map intOf = ns
  rw [List.map_map]
  have : (intOf ∘ V.int) = id := rfl
  rw [this, List.map_id]
end K04
/-! ## D18 -/
set_option Elab.async false
set_option linter.all false
set_option maxRecDepth 100000
set_option maxHeartbeats 4000000
namespace K04
open PySem L2 Evl
abbrev s__law_part : Stmt := top 28
abbrev N__law_part : List Str := ["_law_bag_here", "_law_most", "_law_longest", "_law_sizes", "_law_k", "_law_backwards", "_law_dense", "_law_spots", "_law_c", "_law_lowers", "_law_high", "_law_row_here", "_law_chains", "_law_p", "_law_spot"]
theorem sc__law_part : FnScope N__law_part ["_law_bag_here", "_law_most"] (defScope s__law_part) := ⟨rfl, rfl, rfl, by decide +kernel, rfl, by decide +kernel, by decide +kernel⟩
/-- a part, kept from now on; the bag goes on -/
def spPart : Sp := fun vs H Q _ => ∃ (G : Hp) (b wd : Addr) (N : Nat) (most : Nat), vs = [.ref b, .int most] ∧ BG G H b wd N ∧ N + 2000 < 1000000 ∧ (1 ≤ most ∧ most ≤ 4) ∧
  ∀ (p : Addr) (q : Ch) (G' H' : Hp), Ex G G' → BG G' H' b wd (N + 2000) → G p = none → PartAt (3 * most) G' (.ref p) q → Q (.ref p) H'
section
variable {P : Program} {w : World} {K : PySem.W.Frag} {mg : Str → Option Value} {base : Heap}
theorem ok_part {f : Addr} {fd : FuncData} (F : Fun K "_law_part" "_law_part" s__law_part f fd) (T : Txt mg) (D__law_draw : Dn P w K mg base CX0 1 "_law_draw" ["_law_bag_here", "_law_many"] spDraw) : FnOk P w K mg base CX0 2 f fd ["_law_bag_here", "_law_most"] spPart := by
  refine F.ok sc__law_part (fun vs H Q E h => ?_) (fun cdv A outer s H vs Q E hr h => ?_)
  · obtain ⟨_, _, _, _, _, rfl, _⟩ := h
    rfl
  · obtain ⟨G, b, wd, N, most, rfl, bg, hN, hm, k⟩ := h
    refine ⟨_, (pss_cons (ps_set (i := 2) sc__law_part.nd rfl (Or.inr rfl) (pe_op op_add pe_int (pe_call D__law_draw.ok (hr.mono (by decide)) (by rfl) D__law_draw.g D__law_draw.kp D__law_draw.b .nil pass0 (pa_cons (pv 0) (pa_cons (pv 1) pa_nil)))))
    (pss_cons (ps_set (i := 3) sc__law_part.nd rfl (Or.inr rfl) (pe_lst (pa_cons (pv 2) pa_nil)))
    (pss_cons (ps_for PassesOwn.never rfl (pi_range1 (by rfl) T.range (pa_cons (pe_call D__law_draw.ok (hr.mono (by decide)) (by rfl) D__law_draw.g D__law_draw.kp D__law_draw.b .nil pass0 (pa_cons (pv 0) (pa_cons pe_int pa_nil))) pa_nil)) (pg_name (i := 4) sc__law_part.nd rfl (Or.inl rfl))
       (pss_one (ps_expr (pe_bmK K PySem.F.plainAttrs_list PySem.F.slot_list_append PySem.F.type_list_append mt_append (pv 3) (pa_cons (pe_op op_sub (pv 2) (pe_op op_mul pe_int (pe_call D__law_draw.ok (hr.mono (by decide)) (by rfl) D__law_draw.g D__law_draw.kp D__law_draw.b .nil pass0 (pa_cons (pv 0) (pa_cons (pe_op op_fdiv (pe_op op_add (pv 2) pe_int) pe_int) pa_nil))))) pa_nil)))))
    (pss_cons (ps_set (i := 5) sc__law_part.nd rfl (Or.inl rfl) (pe_cmpR op_eq (pe_call D__law_draw.ok (hr.mono (by decide)) (by rfl) D__law_draw.g D__law_draw.kp D__law_draw.b .nil pass0 (pa_cons (pv 0) (pa_cons pe_int pa_nil))) pe_int (nomark _)))
    (pss_cons (ps_set (i := 6) sc__law_part.nd rfl (Or.inl rfl) (pe_call D__law_draw.ok (hr.mono (by decide)) (by rfl) D__law_draw.g D__law_draw.kp D__law_draw.b .nil pass0 (pa_cons (pv 0) (pa_cons pe_int pa_nil))))
    (pss_cons (ps_set (i := 7) sc__law_part.nd rfl (Or.inr rfl) (pe_lst pa_nil))
    (pss_cons (ps_for PassesOwn.never rfl (pi_range1 (by rfl) T.range (pa_cons (pe_callB (cLen K) (by rfl) T.len PySem.boot_len (pa_cons (pv 3) pa_nil)) pa_nil)) (pg_name (i := 8) sc__law_part.nd rfl (Or.inr rfl))
       (pss_one (ps_set (i := 7) sc__law_part.nd rfl (Or.inr rfl) (pe_op op_cat (pv 7) (pe_lc (own := [("_law_p", 13)]) (g := (gName 13)) (tt := tYes) rfl sc__law_part.nd (pi_range1 (by rfl) T.range (pa_cons (pe_ix (iL K) (pv 3) (pv 8) (fun _ _ => rfl)) pa_nil)) (blkOk_by (own := [("_law_p", 13)]) (N := N__law_part) (sc := defScope s__law_part) (by decide +kernel)) (fun _ _ _ _ _ => pg_name (i := 13) sc__law_part.nd rfl (Or.inl rfl)) (fun _ _ _ _ _ => pts_nil) (fun _ _ _ _ _ => (pe_tup (pa_cons (pv 8) (pa_cons (pe_op op_add (pe_op op_fdiv (pe_op op_sub (pv 2) (pe_ix (iL K) (pv 3) (pv 8) (fun _ _ => rfl))) pe_int) (pv 13)) pa_nil)))))))))
    (pss_cons (ps_if (pt_val (pv 5))
       (pss_one (ps_expr (pe_bm0 PySem.F.plainAttrs_list PySem.F.slot_list_reverse PySem.F.type_list_reverse mt_reverse (pv 7))))
       pss_nil)
    (pss_cons (ps_set (i := 9) sc__law_part.nd rfl (Or.inl rfl) (pe_lst pa_nil))
    (pss_cons (ps_for PassesOwn.never rfl (pi_list (pv 7)) (pg_name (i := 10) sc__law_part.nd rfl (Or.inl rfl))
       (pss_cons (ps_set (i := 11) sc__law_part.nd rfl (Or.inl rfl) (pe_lst pa_nil))
      (pss_cons (ps_for PassesOwn.never rfl (pi_range1 (by rfl) T.range (pa_cons (pe_callB (cLen K) (by rfl) T.len PySem.boot_len (pa_cons (pv 7) pa_nil)) pa_nil)) (pg_name (i := 4) sc__law_part.nd rfl (Or.inl rfl))
         (pss_one (ps_if (pt_cmpR op_eq (pe_op op_add (pe_ix (iT K) (pe_ix (iL K) (pv 7) (pv 4) (fun _ _ => rfl)) pe_int (fun _ _ => rfl)) pe_int) (pe_ix (iT K) (pv 10) pe_int (fun _ _ => rfl)) (nomark _))
           (pss_one (ps_if (PW.pt (pw_or (pt_cmpR op_eq (pe_ix (iT K) (pe_ix (iL K) (pv 7) (pv 4) (fun _ _ => rfl)) pe_int (fun _ _ => rfl)) (pe_ix (iT K) (pv 10) pe_int (fun _ _ => rfl)) (nomark _)) (pw_or (pt_cmpR op_eq (pv 6) pe_int (nomark _)) (pw_or1 (PW.pt (pw_and (pt_cmpR op_eq (pv 6) pe_int (nomark _)) (pw_and1 (pt_cmpR op_eq (pe_call D__law_draw.ok (hr.mono (by decide)) (by rfl) D__law_draw.g D__law_draw.kp D__law_draw.b .nil pass0 (pa_cons (pv 0) (pa_cons pe_int pa_nil))) pe_int (nomark _)))))))))
             (pss_one (ps_expr (pe_bmK K PySem.F.plainAttrs_list PySem.F.slot_list_append PySem.F.type_list_append mt_append (pv 11) (pa_cons (pv 4) pa_nil))))
             pss_nil))
           pss_nil)))
      (pss_one (ps_expr (pe_bmK K PySem.F.plainAttrs_list PySem.F.slot_list_append PySem.F.type_list_append mt_append (pv 9) (pa_cons (pe_callTy (cTup K) (by rfl) T.tuple (by decide +kernel) (pa_cons (pv 11) pa_nil)) pa_nil)))))))
    (pss_cons (ps_set (i := 12) sc__law_part.nd rfl (Or.inl rfl) (pe_lst pa_nil))
    (pss_cons (ps_for PassesOwn.never rfl (pi_range1 (by rfl) T.range (pa_cons (pe_callB (cLen K) (by rfl) T.len PySem.boot_len (pa_cons (pv 3) pa_nil)) pa_nil)) (pg_name (i := 8) sc__law_part.nd rfl (Or.inr rfl))
       (pss_cons (ps_setLc (i := 11) (own := [("_law_k", 4)]) (g := (gName 4)) rfl sc__law_part.nd rfl rfl (sw_true rfl rfl rfl (by decide +kernel)) (pi_range1 (by rfl) T.range (pa_cons (pe_callB (cLen K) (by rfl) T.len PySem.boot_len (pa_cons (pv 7) pa_nil)) pa_nil)) (blkOk_by (own := [("_law_k", 4)]) (N := N__law_part) (sc := defScope s__law_part) (by decide +kernel)) (fun _ _ _ _ _ => pg_name (i := 4) sc__law_part.nd rfl (Or.inl rfl)) (fun _ _ _ _ _ => pts_one (pt_cmpR op_eq (pe_ix (iT K) (pe_ix (iL K) (pv 7) (pv 4) (fun _ _ => rfl)) pe_int (fun _ _ => rfl)) (pv 8) (nomark _))) (fun _ _ _ _ _ => (pv 4)))
      (pss_one (ps_expr (pe_bmK K PySem.F.plainAttrs_list PySem.F.slot_list_append PySem.F.type_list_append mt_append (pv 12) (pa_cons (pe_callTy (cTup K) (by rfl) T.tuple (by decide +kernel) (pa_cons (pe_ifExp (pt_val (pv 5)) (pe_revL (pv 11)) (pv 11)) pa_nil)) pa_nil))))))
    (pss_one (ps_ret (pe_tup (pa_cons (pe_tup (pa_cons (pe_callTy (cTup K) (by rfl) T.tuple (by decide +kernel) (pa_cons (pv 9) pa_nil)) (pa_cons (pe_callTy (cTup K) (by rfl) T.tuple (by decide +kernel) (pa_cons (pe_callB (cSortedTI K) (by rfl) T.sorted (by decide +kernel) (pa_cons (pv 12) pa_nil)) pa_nil)) pa_nil))) (pa_cons (pe_lc (own := [("_law_spot", 14)]) (g := (gName 14)) (tt := tYes) rfl sc__law_part.nd (pi_list (pv 7)) (blkOk_by (own := [("_law_spot", 14)]) (N := N__law_part) (sc := defScope s__law_part) (by decide +kernel)) (fun _ _ _ _ _ => pg_name (i := 14) sc__law_part.nd rfl (Or.inl rfl)) (fun _ _ _ _ _ => pts_nil) (fun _ _ _ _ _ => (pe_ix (iT K) (pv 14) pe_int (fun _ _ => rfl)))) pa_nil))))))))))))))))), ?_⟩
    -- longest = 1 + draw(bag, most)
    refine ⟨_, rfl, _, rfl, G, b, wd, N, most, rfl, bg, by omega, ⟨by omega, by omega⟩, fun d H1 hd0 hd1 bg1 => ⟨1, d, rfl, rfl, ?_⟩⟩
    obtain ⟨Z, hZ⟩ : ∃ Z : Nat, 1 + d = (Z : Int) := ⟨(1 + d).toNat, by omega⟩
    have hZ1 : 1 ≤ Z ∧ Z ≤ most := by omega
    rw [show (fun i j : Int => V.int (i + j)) 1 d = V.int (Z : Int) from congrArg V.int hZ]
    clear hd0 hd1 hZ d
    -- sizes = [longest]
    refine ⟨_, rfl, sz_of (by show 1 ≤ _; decide), fun s hs => ?_⟩
    obtain ⟨hsb, hsw⟩ := bg1.fresh hs
    have hsG : G s = none := fresh_back bg1.ex hs
    have bg2 := bg1.grow (Ex.new (o := .lst [.int (Z : Int)]) hs)
    -- for k in range(draw(bag, 3))
    refine ⟨_, rfl, _, b, wd, N + 1, 3, rfl, bg2.hold hsb hsw upd_same, by omega, ⟨by omega, by omega⟩, fun d H2 hd0 hd1 bg3 => ⟨d, rfl, by omega, by omega, ?_⟩⟩
    refine for_range (lo := 0) (n := d.toNat) (fun i σ H' => ∃ (szs : List Nat) (v4 : Option V), σ = [some (.ref b), some (.int most), some (.int Z), some (.ref s), v4, none, none, none, none, none, none, none, none, none, none] ∧ BG G H' b wd (N + 2 + i) ∧ H' s = some (.lst (szs.map fun (z : Nat) => V.int (z : Int))) ∧ Lens Z szs ∧ szs.length = i + 1)
      ⟨[Z], none, rfl, (bg3.less (Ex.new hsG)).mono (by omega), bg3.ex _ _ upd_same, lens_one hZ1.1, rfl⟩ ?_ ?_
    · rintro i σ H3 hi ⟨szs, v4, rfl, bg4, hS, hL, hl⟩
      refine ⟨_, rfl, .inl ⟨rfl, _, sq_of hS⟩, _, rfl, _, rfl, _, rfl, _, _, rfl, rfl, _, _, rfl, rfl, ⟨by decide, by decide⟩, ?_⟩
      refine ⟨_, b, wd, N + 2 + i, ((Z : Int) + 1) / 2, rfl, bg4.hold hsb hsw hS, by omega, ⟨by omega, by omega⟩, fun d2 H4 hd2 hd3 bg5 => ?_⟩
      have hS4 := bg5.ex _ _ upd_same
      refine ⟨2, d2, rfl, rfl, .inl ⟨by decide, by decide⟩, (Z : Int), 2 * d2, rfl, rfl, s, _, _, rfl, rfl, hS4, sz_lt (by rw [List.length_map]; omega), ?_⟩
      obtain ⟨z, hz⟩ : ∃ z : Nat, (Z : Int) - 2 * d2 = (z : Int) := ⟨((Z : Int) - 2 * d2).toNat, by omega⟩
      refine ⟨szs ++ [z], _, rfl, ((bg5.less (Ex.new hsG)).put hsb hsw hsG).mono (by omega), ?_, ⟨by simp [hL.mem], fun y hy => ?_, fun y hy => ?_, fun y hy => ?_⟩, by simp [hl]⟩
      · rw [upd_same, List.map_append]
        refine congrArg (fun l => some (HO.lst (_ ++ l))) ?_
        show [V.int ((Z : Int) - 2 * d2)] = _
        rw [hz]
        rfl
      · rcases List.mem_append.mp hy with h | h
        · exact hL.pos y h
        · simp at h; omega
      · rcases List.mem_append.mp hy with h | h
        · exact hL.le y h
        · simp at h; omega
      · rcases List.mem_append.mp hy with h | h
        · exact hL.par y h
        · simp at h; omega
    rintro σ H3 ⟨szs, v4, rfl, bg4, hS, hL, hl⟩
    have hl3 : szs.length ≤ 3 := by omega
    replace bg4 := bg4.mono (M := N + 10) (by omega)
    clear bg3 hd0 hd1 bg2 hs bg1 hl
    -- backwards = draw(bag, 2) == 1
    refine ⟨_, rfl, _, b, wd, N + 10, 2, rfl, bg4.hold hsb hsw hS, by omega, ⟨by omega, by omega⟩, fun d2 H4 _ _ bg5 => ⟨rfl, ?_⟩⟩
    generalize decide (V.int d2 = V.int 1) = bw
    -- dense = draw(bag, 3)
    refine ⟨_, rfl, _, b, wd, N + 11, 3, rfl, bg5.mono (by omega), by omega, ⟨by omega, by omega⟩, fun dn H5 _ _ bg6 => ?_⟩
    have hS5 := bg6.ex _ _ upd_same
    replace bg6 := (bg6.less (Ex.new hsG)).mono (M := N + 12) (by omega)
    clear bg5 bg4 hS
    -- spots = []
    refine ⟨sz_of (Nat.zero_le _), fun p0 hp0 => ?_⟩
    refine q_forR1 (n := (szs.length : Int)) (ea_cons (ev_is (ev_len (ev_var rfl) (sq_of (Ex.new hp0 _ _ hS5))) (by rw [List.length_map])) ea_nil) (by omega)
      (fun i σ H' => ∃ (p : Addr) (xs : List V) (v8 : Option V), σ = [some (.ref b), some (.int most), some (.int Z), some (.ref s), v4, some (.bl bw), some (.int dn), some (.ref p), v8, none, none, none, none, none, none] ∧ Ex H5 H' ∧ H5 p = none ∧ H' p = some (.lst xs) ∧ Spots H' xs (SPf Z szs i))
      (fun H6 e6 => ⟨p0, [], none, rfl, (Ex.new hp0).trans e6, hp0, e6 _ _ upd_same, Spots.nil _⟩) ?_ ?_
    · rintro i σ H6 hi ⟨p, xs, v8, rfl, e6, hp5, hP, hSp⟩
      have hil : i < szs.length := by omega
      have hget : (szs.map fun (z : Nat) => V.int (z : Int))[i]? = some (.int ((szs.getD i 0 : Nat) : Int)) := by
        rw [List.getElem?_map, List.getElem?_eq_getElem hil, List.getD_eq_getElem?_getD, List.getElem?_eq_getElem hil]
        rfl
      have hzm : szs.getD i 0 ∈ szs := by
        rw [List.getD_eq_getElem?_getD, List.getElem?_eq_getElem hil]
        exact List.getElem_mem hil
      have hzle := hL.le _ hzm
      have hxl : xs.length ≤ 100 := by
        rw [hSp.1, SPf_len]
        have h1 := sizes_len (Z := Z) (szs := szs.take i) fun z hz => hL.le z (List.mem_of_mem_take hz)
        have h2 : ∀ n, ((List.range n).map fun c => szs.getD c 0).sum ≤ n * Z := by
          intro n
          induction n with
          | zero => simp
          | succ n ih =>
            rw [List.range_succ, List.map_append, List.sum_append, Nat.succ_mul]
            have : szs.getD n 0 ≤ Z := by
              by_cases c : n < szs.length
              · rw [List.getD_eq_getElem?_getD, List.getElem?_eq_getElem c]; exact hL.le _ (List.getElem_mem c)
              · rw [List.getD_eq_getElem?_getD, List.getElem?_eq_none (by omega)]; exact Nat.zero_le _
            simp at *
            omega
        have h3 := h2 i
        have : i * Z ≤ 3 * 4 := Nat.mul_le_mul (by omega) (by omega)
        omega
      refine ⟨_, rfl, _, rfl, _, rfl, s, _, (i : Int), _, rfl, rfl, sq_of (e6 _ _ hS5), atI_nat hget, ((szs.getD i 0 : Nat) : Int), rfl, by omega, by omega, fun D hD => ?_⟩
      have hDp : D ≠ p := (ne_of_none hP hD).symm
      refine lc_range (lo := 0) (n := ((szs.getD i 0 : Nat) : Int).toNat) (fun j H' => ∃ ys : List V, Ex H6 H' ∧ H' D = some (.lst ys) ∧ Spots H' ys ((List.range j).map fun (p : Nat) => ((i : Int), st Z (szs.getD i 0) + (p : Int))))
        ⟨[], Ex.new hD, upd_same, Spots.nil _⟩ (fun j H' hj ⟨ys, e, hY, hYs⟩ => ⟨rfl, ?_⟩) (fun H' ⟨ys, e, hY, hYs⟩ => ?_)
      · dsimp only [tYes]
        rw [if_pos rfl]
        refine ⟨_, rfl, _, rfl, _, rfl, _, rfl, s, _, (i : Int), _, rfl, rfl, sq_of ((e6.trans e) _ _ hS5), atI_nat hget, _, _, rfl, rfl, _, _, rfl, rfl, ⟨by decide, by decide⟩, _, rfl, _, _, rfl, rfl, sz_of (by show 2 ≤ _; decide), fun t ht => ?_⟩
        have htD : t ≠ D := (ne_of_none hY ht).symm
        have hjl : ys.length = j := by rw [hYs.1]; simp
        refine ⟨ys, by rw [upd_ne htD.symm]; exact hY, sz_lt (by omega), ys ++ [.ref t], (e.trans (Ex.new ht)).mut hD, upd_same, ?_⟩
        rw [List.range_succ, List.map_append]
        refine Spots.app (hYs.mono fun t2 zs h2 => ?_) (Spots.one ?_)
        · rw [upd_ne (ne_of h2 hY (by intro z; cases z)), upd_ne (ne_of_none h2 ht)]
          exact h2
        · rw [upd_ne htD, upd_same]
          refine congrArg (fun z => some (HO.tup [V.int (i : Int), V.int z])) ?_
          show ((Z : Int) - ((szs.getD i 0 : Nat) : Int)) / 2 + (0 + (j : Int)) = st Z (szs.getD i 0) + (j : Int)
          rw [Int.zero_add]
          rfl
      · refine ⟨p, D, xs, ys, rfl, rfl, e _ _ hP, hY, ?_, fun q hq => ?_⟩
        · have hyl : ys.length = szs.getD i 0 := by rw [hYs.1]; simp
          exact sz_of (by omega)
        refine ⟨q, xs ++ ys, _, rfl, (e6.trans e).trans (Ex.new hq), fresh_back (e6.trans e) hq, upd_same, ?_⟩
        rw [SPf_succ]
        have hn : ((szs.getD i 0 : Nat) : Int).toNat = szs.getD i 0 := by omega
        rw [hn] at hYs
        exact Spots.app (hSp.mono fun t zs h2 => (e.trans (Ex.new hq)) _ _ h2) (hYs.mono fun t zs h2 => Ex.new hq _ _ h2)
    rintro σ H6 ⟨p, xs, v8, rfl, e6, hp5, hP, hSp⟩
    have hn : (szs.length : Int).toNat = szs.length := by omega
    rw [hn] at hSp
    obtain ⟨hpb, hpw⟩ := bg6.fresh hp5
    have hpG : G p = none := fresh_back bg6.ex hp5
    have hps : p ≠ s := (ne_of_none hS5 hp5).symm
    -- if backwards: spots.reverse()
    refine q_ifrev (bw := bw) rfl rfl hP fun H7 hf7 ht7 => ?_
    obtain ⟨xs', SP, hP7, hSp7, hperm, bg7, hS7⟩ : ∃ (xs' : List V) (SP : List (Int × Int)), H7 p = some (.lst xs') ∧ Spots H7 xs' SP ∧ SP.Perm (SPf Z szs szs.length) ∧ BG G H7 b wd (N + 12) ∧ H7 s = some (.lst (szs.map fun (z : Nat) => V.int (z : Int))) := by
      cases bw with
      | false =>
        rw [hf7 rfl]
        exact ⟨xs, _, hP, hSp, List.Perm.refl _, bg6.grow e6, e6 _ _ hS5⟩
      | true =>
        rw [ht7 rfl]
        refine ⟨xs.reverse, (SPf Z szs szs.length).reverse, upd_same, (hSp.mono (tup_upd hP)).rev, List.reverse_perm _, (bg6.grow e6).put hpb hpw hpG, ?_⟩
        rw [upd_ne hps.symm]
        exact e6 _ _ hS5
    clear hf7 ht7 hSp hP e6 hS5 bg6 hp5
    have hSPl : SP.length ≤ 3 * most := by
      rw [hperm.length_eq, SPf_len]
      refine Nat.le_trans (sizes_len hL.le) ?_
      exact Nat.mul_le_mul hl3 hZ1.2
    have hxl : xs'.length = SP.length := hSp7.1
    -- lowers = []
    refine ⟨sz_of (Nat.zero_le _), fun lw hlw => ?_⟩
    obtain ⟨hlb, hlwd⟩ := bg7.fresh hlw
    have hG2 : ∃ G2 : Hp, G2 = hid b wd H7 := ⟨_, rfl⟩
    obtain ⟨G2, eG2⟩ := hG2
    have bgh : BG G2 H7 b wd (N + 12) := by rw [eG2]; exact bg7.hid
    have eGG : Ex G G2 := by rw [eG2]; exact bg7.hidG
    have gP : G2 p = some (.lst xs') := by rw [eG2]; exact bg7.keeps hP7 hpb hpw
    have gS : G2 s = some (.lst (szs.map fun (z : Nat) => V.int (z : Int))) := by rw [eG2]; exact bg7.keeps hS7 hsb hsw
    have gSp : Spots G2 xs' SP := hSp7.mono fun t ys h => by
      rw [eG2]
      have := bg7.tup_ne h
      exact bg7.keeps h this.1 this.2
    have gL : G2 lw = none := fresh_back bgh.ex hlw
    have bg8 := bgh.grow (Ex.new (o := .lst []) hlw)
    have hL8 : upd H7 lw (.lst []) lw = some (.lst []) := upd_same
    generalize upd H7 lw (.lst []) = H8 at bg8 hL8
    clear hP7 hSp7 bg7 hS7 hlw bgh eG2
    refine q_forL (a := p) (xs := xs') (ev_var rfl) (sq_of (bg8.ex _ _ gP)) (fun i σ H' => ∃ (ls : List V) (v4 v10 v11 : Option V), σ = [some (.ref b), some (.int most), some (.int Z), some (.ref s), v4, some (.bl bw), some (.int dn), some (.ref p), v8, some (.ref lw), v10, v11, none, none, none] ∧ BG G2 H' b wd (N + 12 + i * 20) ∧ H' lw = some (.lst ls) ∧ ls.length ≤ i)
      (fun H9 e9 => ⟨[], v4, none, none, rfl, bg8.grow e9, e9 _ _ hL8, Nat.le_refl _⟩) (fun i σ H' _ ⟨_, _, _, _, _, h, _⟩ => sq_of (h.ex _ _ gP)) ?_ ?_
    · rintro i x σ H9 hi ⟨ls, v4, v10, v11, rfl, bg9, hLw, hll⟩
      have hi12 : i < xs'.length := (List.getElem?_eq_some_iff.mp hi).1
      obtain ⟨t0, q0, rfl, hq0, ht0⟩ := gSp.2 i x hi
      -- row = []
      refine ⟨sz_of (Nat.zero_le _), fun rw hrw => ?_⟩
      obtain ⟨hrb, hrwd⟩ := bg9.fresh hrw
      have gR : G2 rw = none := fresh_back bg9.ex hrw
      have hrl : rw ≠ lw := (ne_of_none hLw hrw).symm
      have bg10 := bg9.grow (Ex.new (o := .lst []) hrw)
      have hL10 : upd H9 rw (.lst []) lw = some (.lst ls) := by rw [upd_ne hrl.symm]; exact hLw
      have hR10 : upd H9 rw (.lst []) rw = some (.lst []) := upd_same
      generalize upd H9 rw (.lst []) = H10 at bg10 hL10 hR10
      refine q_forR1 (n := (xs'.length : Int)) (ea_cons (ev_len (ev_var rfl) (sq_of (bg10.ex _ _ gP))) ea_nil) (by omega)
        (fun j σ H' => ∃ (rs : List V) (v4 : Option V), σ = [some (.ref b), some (.int most), some (.int Z), some (.ref s), v4, some (.bl bw), some (.int dn), some (.ref p), v8, some (.ref lw), some (.ref t0), some (.ref rw), none, none, none] ∧ BG G2 H' b wd (N + 12 + i * 20 + j) ∧ H' lw = some (.lst ls) ∧ H' rw = some (.lst rs) ∧ rs.length ≤ j)
        (fun H11 e11 => ⟨[], v4, rfl, bg10.grow e11, e11 _ _ hL10, e11 _ _ hR10, Nat.le_refl _⟩) ?_ ?_
      · rintro j σ H11 hj ⟨rs, v4, rfl, bg11, hL11, hR11, hrs⟩
        have hjl : j < SP.length := by omega
        obtain ⟨tk, htk, gtk⟩ := gSp.at_ hjl
        have stay : ∀ (H' : Hp) (M : Nat), BG G2 H' b wd M → M ≤ N + 12 + i * 20 + (j + 1) → H' lw = some (.lst ls) → H' rw = some (.lst rs) →
            ∃ (rs' : List V) (v4 : Option V), ([some (.ref b), some (.int most), some (.int Z), some (.ref s), some (.int (j : Int)), some (.bl bw), some (.int dn), some (.ref p), v8, some (.ref lw), some (.ref t0), some (.ref rw), none, none, none] : L2.St) = [some (.ref b), some (.int most), some (.int Z), some (.ref s), v4, some (.bl bw), some (.int dn), some (.ref p), v8, some (.ref lw), some (.ref t0), some (.ref rw), none, none, none] ∧ BG G2 H' b wd (N + 12 + i * 20 + (j + 1)) ∧ H' lw = some (.lst ls) ∧ H' rw = some (.lst rs') ∧ rs'.length ≤ j + 1 :=
          fun H' M h1 h2 h3 h4 => ⟨rs, _, rfl, h1.mono h2, h3, h4, by omega⟩
        have app : ∀ (H' : Hp) (M : Nat), BG G2 H' b wd M → M ≤ N + 12 + i * 20 + (j + 1) → H' lw = some (.lst ls) → H' rw = some (.lst rs) →
            ∃ (rs' : List V) (v4 : Option V), ([some (.ref b), some (.int most), some (.int Z), some (.ref s), some (.int (j : Int)), some (.bl bw), some (.int dn), some (.ref p), v8, some (.ref lw), some (.ref t0), some (.ref rw), none, none, none] : L2.St) = [some (.ref b), some (.int most), some (.int Z), some (.ref s), v4, some (.bl bw), some (.int dn), some (.ref p), v8, some (.ref lw), some (.ref t0), some (.ref rw), none, none, none] ∧ BG G2 (upd H' rw (.lst (rs ++ [.int (j : Int)]))) b wd (N + 12 + i * 20 + (j + 1)) ∧ upd H' rw (.lst (rs ++ [.int (j : Int)])) lw = some (.lst ls) ∧ upd H' rw (.lst (rs ++ [.int (j : Int)])) rw = some (.lst rs') ∧ rs'.length ≤ j + 1 :=
          fun H' M h1 h2 h3 h4 => ⟨_, _, rfl, (h1.put hrb hrwd gR).mono h2, by rw [upd_ne hrl.symm]; exact h3, upd_same, by simp; omega⟩
        -- if spots[k][1] + 1 == high[1]
        refine s_when (et_test (ev_op (ev_op (ev_ixT (ev_ixL (ev_var rfl) (ev_var rfl) (sq_of (bg11.ex _ _ gP)) (atI_nat htk)) ev_c (st_of (bg11.ex _ _ gtk)) rfl) ev_c rv_I0) (ev_ixT (ev_var rfl) ev_c (st_of (bg11.ex _ _ ht0)) rfl) rv_eqI)) (fun _ H12 e12 => ?_) (fun _ H12 e12 => stay H12 _ (bg11.grow e12) (by omega) (e12 _ _ hL11) (e12 _ _ hR11))
        have bg12 := bg11.grow e12
        have hL12 := e12 _ _ hL11
        have hR12 := e12 _ _ hR11
        have hrsz : rs.length < sizeLine := sz_lt (by omega)
        -- if spots[k][0] == high[0] or dense == 0 or (dense == 1 and draw(bag, 2) == 0)
        refine (et_test (ev_op (ev_ixT (ev_ixL (ev_var rfl) (ev_var rfl) (sq_of (bg12.ex _ _ gP)) (atI_nat htk)) ev_c (st_of (bg12.ex _ _ gtk)) rfl) (ev_ixT (ev_var rfl) ev_c (st_of (bg12.ex _ _ ht0)) rfl) rv_eqI)) H12 (Ex.refl H12) _ fun H13 e13 => ?_
        have bg13 := bg12.grow e13
        have hL13 := e13 _ _ hL12
        have hR13 := e13 _ _ hR12
        generalize decide ((SP.getD j (0, 0)).1 = q0.1) = b1
        cases b1 with
        | true => exact iteT (iteT ⟨_, rfl, .inl ⟨rfl, _, sq_of hR13⟩, _, rfl, rw, rs, _, rfl, rfl, hR13, hrsz, app H13 _ bg13 (by omega) hL13 hR13⟩)
        | false =>
          refine iteF ?_
          refine ⟨_, rfl, rfl, _, rfl, ?_⟩
          generalize decide (V.int dn = V.int 0) = b2
          cases b2 with
          | true => exact iteT (iteT ⟨_, rfl, .inl ⟨rfl, _, sq_of hR13⟩, _, rfl, rw, rs, _, rfl, rfl, hR13, hrsz, app H13 _ bg13 (by omega) hL13 hR13⟩)
          | false =>
            refine iteF ?_
            refine ⟨_, rfl, rfl, _, rfl, ?_⟩
            generalize decide (V.int dn = V.int 1) = b3
            cases b3 with
            | false => exact iteF (iteF (stay H13 _ bg13 (by omega) hL13 hR13))
            | true =>
              refine iteT ?_
              refine ⟨_, rfl, _, b, wd, _, 2, rfl, (bg13.hold hlb hlwd hL13).hold hrb hrwd hR13, by omega, ⟨by omega, by omega⟩, fun d5 H14 _ _ bg14 => ⟨rfl, _, rfl, ?_⟩⟩
              have hR14 : H14 rw = some (.lst rs) := bg14.ex _ _ upd_same
              have hL14 : H14 lw = some (.lst ls) := bg14.ex _ _ (by rw [upd_ne hrl.symm]; exact upd_same)
              have bg15 : BG G2 H14 b wd (N + 12 + i * 20 + j + 1) := bg14.less ((Ex.new gL).trans (Ex.new (by rw [upd_ne hrl]; exact gR)))
              generalize decide (V.int d5 = V.int 0) = b4
              cases b4 with
              | true => exact iteT ⟨_, rfl, .inl ⟨rfl, _, sq_of hR14⟩, _, rfl, rw, rs, _, rfl, rfl, hR14, hrsz, app H14 _ bg15 (by omega) hL14 hR14⟩
              | false => exact iteF (stay H14 _ bg15 (by omega) hL14 hR14)
      · rintro σ H11 ⟨rs, v4, rfl, bg11, hL11, hR11, hrs⟩
        refine ⟨_, rfl, .inl ⟨rfl, _, sq_of hL11⟩, _, rfl, rw, rs, rfl, .inl ⟨sq_of hR11, fun t ht => ?_⟩⟩
        have htl : t ≠ lw := (ne_of_none hL11 ht).symm
        refine ⟨lw, ls, .ref t, rfl, rfl, by rw [upd_ne htl.symm]; exact hL11, sz_lt (by omega), ?_⟩
        refine ⟨ls ++ [.ref t], _, _, _, rfl, ?_, upd_same, by simp; omega⟩
        have hx20 : (xs'.length : Int).toNat ≤ 20 := by omega
        exact ((bg11.grow (Ex.new ht)).put hlb hlwd gL).mono (by rw [Nat.succ_mul]; omega)
    rintro σ H9 ⟨ls, v4, v10, v11, rfl, bg9, hLw, hll⟩
    replace bg9 := bg9.mono (M := N + 300) (by omega)
    -- chains = []
    refine ⟨sz_of (Nat.zero_le _), fun ch hch => ?_⟩
    obtain ⟨rowc, hrowc⟩ : ∃ rowc : Nat → List Int, rowc = fun (c : Nat) => ((List.range SP.length).filter fun k => decide ((SP.getD k (0, 0)).1 = (c : Int))).map fun (k : Nat) => (k : Int) := ⟨_, rfl⟩
    have hrowl : ∀ c, c < szs.length → (rowc c).length = szs.getD c 0 := fun c hc => by
      rw [hrowc]
      show (((List.range SP.length).filter fun k => decide ((SP.getD k (0, 0)).1 = (c : Int))).map fun (k : Nat) => (k : Int)).length = _
      rw [List.length_map, filter_count, hperm.countP_eq, SPf_count, if_pos hc]
    obtain ⟨rowN, hrowN⟩ : ∃ rowN : Nat → List Int, rowN = fun (c : Nat) => if bw = true then (rowc c).reverse else rowc c := ⟨_, rfl⟩
    have hrowNl : ∀ c, c < szs.length → (rowN c).length = szs.getD c 0 := fun c hc => by
      rw [hrowN]
      show (if bw = true then (rowc c).reverse else rowc c).length = _
      cases bw with
      | true => rw [if_pos rfl, List.length_reverse]; exact hrowl c hc
      | false => rw [if_neg (by decide)]; exact hrowl c hc
    refine q_forR1 (n := (szs.length : Int)) (ea_cons (ev_is (ev_len (ev_var rfl) (sq_of (Ex.new hch _ _ (bg9.ex _ _ gS)))) (by rw [List.length_map])) ea_nil) (by omega)
      (fun i σ H' => ∃ (zs : List V) (v4 v8 v11 : Option V), σ = [some (.ref b), some (.int most), some (.int Z), some (.ref s), v4, some (.bl bw), some (.int dn), some (.ref p), v8, some (.ref lw), v10, v11, some (.ref ch), none, none] ∧ Ex H9 H' ∧ H' ch = some (.lst zs) ∧ zs.length = i ∧ ∀ (c : Nat) (x : V), zs[c]? = some x → ∃ t, x = .ref t ∧ H' t = some (.tup ((rowN c).map V.int)))
      (fun H10 e10 => ⟨[], v4, v8, v11, rfl, (Ex.new hch).trans e10, e10 _ _ upd_same, rfl, fun c x h => by simp at h⟩) ?_ ?_
    · rintro i σ H10 hi ⟨zs, v4, v8, v11, rfl, e10, hC, hzl, hz⟩
      have hgP := e10 _ _ (bg9.ex _ _ gP)
      refine q_asgL (xs := (rowc i).map V.int) (el_is (el_lcR1 (n := (SP.length : Int)) (fun k => decide ((SP.getD k (0, 0)).1 = (i : Int))) (fun k => .int (k : Int)) (ea_cons (ev_is (ev_len (ev_var rfl) (sq_of hgP)) (by rw [hxl])) ea_nil) (by omega) (fun x => rfl) (fun k H11 e11 hk => ?_) (fun k H11 e11 hk _ => ev_var rfl)) ?_) fun r H11 hr11 e11 hR => ?_
      · obtain ⟨tk, htk, gtk⟩ := gSp.at_ (show k < SP.length by omega)
        exact et_test (ev_op (ev_ixT (ev_ixL (ev_var rfl) (ev_var rfl) (sq_of (e11 _ _ hgP)) (atI_nat htk)) ev_c (st_of (e11 _ _ (e10 _ _ (bg9.ex _ _ gtk)))) rfl) (ev_var rfl) rv_eqI)
      · rw [hrowc]
        unfold given
        have e9 : (SP.length : Int).toNat = SP.length := by omega
        rw [e9, List.map_map]
        rfl
      have hC11 := e11 _ _ hC
      have hrc : r ≠ ch := (ne_of_none hC hr11).symm
      have zsz : zs.length < sizeLine := sz_lt (by omega)
      have fin : ∀ (H' : Hp) (t : Addr), Ex H11 H' → H' t = none → rowN i = (if bw = true then (rowc i).reverse else rowc i) →
          ∃ (zs' : List V) (v4' v8' v11' : Option V), ([some (.ref b), some (.int most), some (.int Z), some (.ref s), v4, some (.bl bw), some (.int dn), some (.ref p), some (.int (i : Int)), some (.ref lw), v10, some (.ref r), some (.ref ch), none, none] : L2.St) = [some (.ref b), some (.int most), some (.int Z), some (.ref s), v4', some (.bl bw), some (.int dn), some (.ref p), v8', some (.ref lw), v10, v11', some (.ref ch), none, none] ∧
            Ex H9 (upd (upd H' t (.tup ((rowN i).map V.int))) ch (.lst (zs ++ [.ref t]))) ∧ upd (upd H' t (.tup ((rowN i).map V.int))) ch (.lst (zs ++ [.ref t])) ch = some (.lst zs') ∧ zs'.length = i + 1 ∧ ∀ (c : Nat) (x : V), zs'[c]? = some x → ∃ t', x = .ref t' ∧ upd (upd H' t (.tup ((rowN i).map V.int))) ch (.lst (zs ++ [.ref t])) t' = some (.tup ((rowN c).map V.int)) := fun H' t eH ht _ => by
        have htc : t ≠ ch := (ne_of_none (eH _ _ hC11) ht).symm
        refine ⟨zs ++ [.ref t], _, _, _, rfl, (((e10.trans e11).trans eH).trans (Ex.new ht)).mut hch, upd_same, by simp [hzl], fun c x hx => ?_⟩
        rw [List.getElem?_append] at hx
        split at hx
        · obtain ⟨t', a1, a2⟩ := hz c x hx
          refine ⟨t', a1, ?_⟩
          have a3 := eH _ _ (e11 _ _ a2)
          rw [upd_ne (ne_of a3 (eH _ _ hC11) (by intro z; cases z)), upd_ne (ne_of_none a3 ht)]
          exact a3
        · rename_i hge
          have hc : c = i := by
            have := (List.getElem?_eq_some_iff.mp hx).1
            simp at this
            omega
          subst hc
          rw [hzl, Nat.sub_self] at hx
          exact ⟨t, (Option.some.inj hx).symm, by rw [upd_ne htc, upd_same]⟩
      -- chains.append(tuple(row[::-1] if backwards else row))
      refine ⟨_, rfl, .inl ⟨rfl, _, sq_of hC11⟩, _, rfl, bw, rfl, ?_⟩
      cases bw with
      | true =>
        refine iteT ⟨_, rfl, r, _, rfl, sq_of hR, fun u hu => ⟨u, _, rfl, .inl ⟨sq_of upd_same, fun t ht => ?_⟩⟩⟩
        have htc : t ≠ ch := (ne_of_none (Ex.new hu _ _ hC11) ht).symm
        refine ⟨ch, zs, .ref t, rfl, rfl, by rw [upd_ne htc.symm]; exact Ex.new hu _ _ hC11, zsz, ?_⟩
        have h := fin _ t (Ex.new (o := .lst ((rowc i).map V.int).reverse) hu) ht (by rw [hrowN])
        have e7 : rowN i = (rowc i).reverse := by rw [hrowN]; exact if_pos rfl
        rw [e7, List.map_reverse] at h
        exact h
      | false =>
        refine iteF ⟨_, rfl, ⟨r, _, rfl, .inl ⟨sq_of hR, fun t ht => ?_⟩⟩⟩
        have htc : t ≠ ch := (ne_of_none hC11 ht).symm
        refine ⟨ch, zs, .ref t, rfl, rfl, by rw [upd_ne htc.symm]; exact hC11, zsz, ?_⟩
        have h := fin _ t (Ex.refl H11) ht (by rw [hrowN])
        have e7 : rowN i = rowc i := by rw [hrowN]; exact if_neg (by decide)
        rw [e7] at h
        exact h
    rintro σ H10 ⟨zs, v4, v8, v11, rfl, e10, hC, hzl, hz⟩
    rw [hn] at hzl
    -- (tuple(lowers), tuple(sorted(chains))), [spot[1] for spot in spots]
    have hmz : ∀ (c : Nat) (x : V), zs[c]? = some x → c < szs.length := fun c x hx => by have := (List.getElem?_eq_some_iff.mp hx).1; omega
    refine ⟨_, rfl, lw, ls, rfl, .inl ⟨sq_of (e10 _ _ hLw), fun a1 h1 => ?_⟩⟩
    have x1 : Ex H10 (upd H10 a1 (.tup ls)) := Ex.new h1
    refine ⟨_, rfl, ch, zs, keyAt H10, rfl, sq_of (x1 _ _ hC), fun x hx => ?_, fun ys d hsrt hstb hd => ?_⟩
    · obtain ⟨c, hc⟩ := List.mem_iff_getElem?.mp hx
      obtain ⟨t, rfl, ht⟩ := hz c x hc
      have hcl := hmz c _ hc
      have hzm : szs.getD c 0 ∈ szs := by
        rw [List.getD_eq_getElem?_getD, List.getElem?_eq_getElem hcl]
        exact List.getElem_mem hcl
      rw [keyAt_of ht]
      refine ⟨t, rfl, x1 _ _ ht, fun z => ?_⟩
      have h2 := hrowNl c hcl
      rw [z] at h2
      have := hL.pos _ hzm
      rw [← h2] at this
      exact absurd this (by decide)
    have x2 : Ex H10 (upd (upd H10 a1 (.tup ls)) d (.lst ys)) := x1.trans (Ex.new hd)
    refine ⟨d, ys, rfl, .inl ⟨sq_of upd_same, fun a2 h2 => ?_⟩⟩
    have x3 : Ex H10 (upd (upd (upd H10 a1 (.tup ls)) d (.lst ys)) a2 (.tup ys)) := x2.trans (Ex.new h2)
    have y2 : upd (upd (upd H10 a1 (.tup ls)) d (.lst ys)) a2 (.tup ys) a2 = some (.tup ys) := upd_same
    generalize upd (upd (upd H10 a1 (.tup ls)) d (.lst ys)) a2 (.tup ys) = H11 at x3 y2
    refine ⟨sz_of (by show 2 ≤ _; decide), fun a3 h3 => ?_⟩
    have x4 : Ex H10 (upd H11 a3 (.tup [.ref a1, .ref a2])) := x3.trans (Ex.new h3)
    have y3 : Ex H11 (upd H11 a3 (.tup [.ref a1, .ref a2])) := Ex.new h3
    have y4 : upd H11 a3 (.tup [.ref a1, .ref a2]) a3 = some (.tup [.ref a1, .ref a2]) := upd_same
    generalize upd H11 a3 (.tup [.ref a1, .ref a2]) = H12 at x4 y3 y4
    have hlc : EvL (tLc (iList K (tVar 7)) (gName 14) tYes (tOp (rIxT K) (tVar 14) (tC (.int 1))) [14]) [some (.ref b), some (.int most), some (.int Z), some (.ref s), v4, some (.bl bw), some (.int dn), some (.ref p), v8, some (.ref lw), v10, v11, some (.ref ch), none, none] H12 ((SP.map (·.2)).map V.int) := by
      refine el_lcLa (a := p) (xs := xs') (ev_var rfl) (sq_of (x4 _ _ (e10 _ _ (bg9.ex _ _ gP)))) (by omega) (by simp [hxl]) (fun x => rfl) fun i x H13 e13 hi => ?_
      obtain ⟨t, q, rfl, hq, ht⟩ := gSp.2 i x hi
      refine ⟨.int q.2, ?_, ev_ixT (ev_var rfl) ev_c (st_of (e13 _ _ (x4 _ _ (e10 _ _ (bg9.ex _ _ ht))))) rfl⟩
      rw [List.getElem?_map, List.getElem?_map, hq]
      rfl
    dsimp only [tCons, tNil, tC, List.map]
    refine hlc H12 (Ex.refl H12) _ fun r H13 hr13 e13 hR => ?_
    refine ⟨sz_of (by show 2 ≤ _; decide), fun a4 h4 => ?_⟩
    have x5 : Ex H10 (upd H13 a4 (.tup [.ref a3, .ref r])) := (x4.trans e13).trans (Ex.new h4)
    have y5 : Ex H13 (upd H13 a4 (.tup [.ref a3, .ref r])) := Ex.new h4
    have y6 : upd H13 a4 (.tup [.ref a3, .ref r]) a4 = some (.tup [.ref a3, .ref r]) := upd_same
    have bgE : BG G2 (upd H13 a4 (.tup [.ref a3, .ref r])) b wd (N + 2000) := (bg9.grow (e10.trans x5)).mono (by omega)
    have hG4 : G a4 = none := by
      have q1 : Ex G H13 := eGG.trans (bg9.ex.trans (e10.trans (x4.trans e13)))
      exact fresh_back q1 h4
    have hrb : r ≠ b ∧ r ≠ wd := by
      have q1 : BG G2 H12 b wd (N + 300) := bg9.grow (e10.trans x4)
      exact q1.fresh hr13
    have hR' := y5 _ _ hR
    generalize upd H13 a4 (.tup [.ref a3, .ref r]) = H14 at x5 y5 y6 bgE hR'
    have y7 : H14 a3 = some (.tup [.ref a1, .ref a2]) := y5 _ _ (e13 _ _ y4)
    have y8 : H14 a2 = some (.tup ys) := y5 _ _ (e13 _ _ (y3 _ _ y2))
    -- the sizes of the chains, sorted
    have hperm2 : (ys.map fun y => (keyAt H10 y).length).Perm szs := by
      refine (hstb.perm.map fun y => (keyAt H10 y).length).trans (List.Perm.of_eq ?_)
      apply List.ext_getElem?
      intro c
      rw [List.getElem?_map]
      by_cases hc : c < szs.length
      · have hcz : c < zs.length := by omega
        obtain ⟨t, e1, ht⟩ := hz c zs[c] (List.getElem?_eq_getElem hcz)
        rw [List.getElem?_eq_getElem hcz, e1, List.getElem?_eq_getElem hc]
        show some (keyAt H10 (.ref t)).length = _
        rw [keyAt_of ht, hrowNl c hc, List.getD_eq_getElem?_getD, List.getElem?_eq_getElem hc]
        rfl
      · rw [List.getElem?_eq_none (by omega), List.getElem?_eq_none (by omega)]
        rfl
    obtain ⟨k1, k2, k3, k4⟩ := rk_of (R := SP.map (·.2)) hL hperm2 (hperm.map (·.2))
    have kt : ∀ {c : Addr} {l : List V}, H14 c = some (.tup l) → hid b wd H14 c = some (.tup l) := fun h => by
      have := bgE.tup_ne h
      exact bgE.keeps h this.1 this.2
    refine k a4 (Z, ys.map fun y => (keyAt H10 y).length) (hid b wd H14) H14 (eGG.trans bgE.hidG) bgE.hid hG4 ⟨a4, r, .ref a3, SP.map (·.2), rfl, kt y6, ⟨⟨a3, a2, .ref a1, ys, rfl, kt y7, kt y8, by simp, fun i x hi => ?_⟩, k4, ?_, ?_⟩, bgE.keeps hR' hrb.1 hrb.2, ⟨k1, k2, k3⟩, ?_⟩
    · obtain ⟨c, hc⟩ := List.mem_iff_getElem?.mp (hstb.perm.mem_iff.mp (List.mem_of_getElem? hi))
      obtain ⟨t, rfl, ht⟩ := hz c x hc
      refine ⟨t, (rowN c).map V.int, rfl, kt (x5 _ _ ht), ?_⟩
      rw [List.getElem?_map, hi]
      show some (keyAt H10 (.ref t)).length = _
      rw [keyAt_of ht, List.length_map]
    · show (ys.map _).length ≤ 3
      rw [hperm2.length_eq]
      exact hl3
    · show Z ≤ 20
      omega
    · rw [List.length_map]
      exact hSPl
end
end K04
/-! ## D19 -/
set_option Elab.async false
set_option linter.all false
set_option maxRecDepth 100000
set_option maxHeartbeats 4000000
namespace K04
open PySem L2 Evl
abbrev s__law_row : Stmt := top 29
abbrev N__law_row : List Str := ["_law_many", "_law_k"]
theorem sc__law_row : FnScope N__law_row ["_law_many"] (defScope s__law_row) := ⟨rfl, rfl, rfl, by decide +kernel, rfl, by decide +kernel, by decide +kernel⟩
/-- a ladder with its ranks -/
def spRow : Sp := fun vs H Q _ => ∃ (n : Nat), vs = [.int n] ∧ (1 ≤ n ∧ n ≤ 20) ∧ ∀ (p : Addr) (H' : Hp), Ex H H' → H p = none → (∀ b wd : Addr, H b ≠ none → H wd ≠ none → PartAt 20 (hid b wd H') (.ref p) (n, [n])) → Q (.ref p) H'
section
variable {P : Program} {w : World} {K : PySem.W.Frag} {mg : Str → Option Value} {base : Heap}
theorem ok_row {f : Addr} {fd : FuncData} (F : Fun K "_law_row" "_law_row" s__law_row f fd) (T : Txt mg) : FnOk P w K mg base CX0 1 f fd ["_law_many"] spRow := by
  refine F.ok sc__law_row (fun vs H Q E h => ?_) (fun cdv A outer s H vs Q E hr h => ?_)
  · obtain ⟨_, rfl, _⟩ := h
    rfl
  · obtain ⟨n, rfl, hn, k⟩ := h
    refine ⟨_, (pss_one (ps_ret (pe_tup (pa_cons (pe_tup (pa_cons (pe_callTy (cTup K) (by rfl) T.tuple (by decide +kernel) (pa_cons (pe_lc (own := [("_law_k", 1)]) (g := (gName 1)) (tt := tYes) rfl sc__law_row.nd (pi_range1 (by rfl) T.range (pa_cons (pv 0) pa_nil)) (blkOk_by (own := [("_law_k", 1)]) (N := N__law_row) (sc := defScope s__law_row) (by decide +kernel)) (fun _ _ _ _ _ => pg_name (i := 1) sc__law_row.nd rfl (Or.inl rfl)) (fun _ _ _ _ _ => pts_nil) (fun _ _ _ _ _ => (pe_ifExp (pt_cmpR op_gt (pv 1) pe_int (nomark _)) (pe_tup (pa_cons (pe_op op_sub (pv 1) pe_int) pa_nil)) (pe_tup pa_nil)))) pa_nil)) (pa_cons (pe_tup (pa_cons (pe_tupRg rfl (by rfl) T.tuple (prg_1 (by rfl) T.range (pv 0))) pa_nil)) pa_nil))) (pa_cons (pe_listRg rfl (by rfl) T.list (prg_1 (by rfl) T.range (pv 0))) pa_nil))))), ?_⟩
    -- the first entry: whatever it holds
    refine ⟨_, rfl, n, rfl, by omega, by omega, fun D hD => ?_⟩
    refine lc_range (lo := 0) (n := (n : Int).toNat) (fun i H' => ∃ xs : List V, Ex H H' ∧ H' D = some (.lst xs) ∧ xs.length = i) ⟨[], Ex.new hD, upd_same, rfl⟩ (fun i H' hi ⟨xs, e, hx, hxl⟩ => ⟨rfl, ?_⟩) (fun H' ⟨xs, e, hx, hxl⟩ => ?_)
    · dsimp only [tYes]
      rw [if_pos rfl]
      refine ⟨_, rfl, _, _, rfl, rfl, _, rfl, ?_⟩
      have sz : xs.length < sizeLine := sz_lt (by omega)
      by_cases c : (0 : Int) < 0 + (i : Int)
      · rw [decide_eq_true c]
        refine iteT ⟨_, rfl, _, _, rfl, rfl, sz_of (by show 1 ≤ _; decide), fun p hp => ?_⟩
        have hpD : p ≠ D := (ne_of_none hx hp).symm
        exact ⟨xs, by rw [upd_ne hpD.symm]; exact hx, sz, xs ++ [.ref p], (e.trans (Ex.new hp)).mut hD, upd_same, by simp [hxl]⟩
      · rw [decide_eq_false c]
        refine iteF ⟨sz_of (by show 0 ≤ _; decide), fun p hp => ?_⟩
        have hpD : p ≠ D := (ne_of_none hx hp).symm
        exact ⟨xs, by rw [upd_ne hpD.symm]; exact hx, sz, xs ++ [.ref p], (e.trans (Ex.new hp)).mut hD, upd_same, by simp [hxl]⟩
    · -- tuple of it, (tuple(range(many)),), list(range(many))
      refine ⟨D, xs, rfl, .inl ⟨sq_of hx, fun l hl => ?_⟩⟩
      refine ⟨_, rfl, n, rfl, RgOk.of_le (by decide) (by omega) (by decide) (by omega), fun r hr' => ?_⟩
      refine ⟨sz_of (by show 1 ≤ _; decide), fun c hc => ?_⟩
      refine ⟨sz_of (by show 2 ≤ _; decide), fun ch hch => ?_⟩
      refine ⟨_, rfl, n, rfl, RgOk.of_le (by decide) (by omega) (by decide) (by omega), fun u hu => ?_⟩
      refine ⟨sz_of (by show 2 ≤ _; decide), fun p hp => ?_⟩
      have e1 := e.trans (Ex.new (o := .tup xs) hl)
      have e2 := e1.trans (Ex.new (o := .tup (rgV 0 (n : Int))) hr')
      have e3 := e2.trans (Ex.new (o := .tup [.ref r]) hc)
      have e4 := e3.trans (Ex.new (o := .tup [.ref l, .ref c]) hch)
      have e5 := e4.trans (Ex.new (o := .lst (rgV 0 (n : Int))) hu)
      refine k p _ (e5.trans (Ex.new hp)) (fresh_back e5 hp) fun b wd hb hwd => ?_
      have fr : ∀ c : Addr, H c = none → c ≠ b ∧ c ≠ wd := fun c hc => ⟨fun z => hb (by rw [← z]; exact hc), fun z => hwd (by rw [← z]; exact hc)⟩
      have kp : ∀ {c : Addr} {o : HO} {H9 : Hp}, H c = none → H9 c = some o → hid b wd H9 c = some o := fun hc h => by rw [hid_ne (fr _ hc).1 (fr _ hc).2]; exact h
      have fp := fresh_back e5 hp
      have fu := fresh_back e4 hu
      have fch := fresh_back e3 hch
      have fc := fresh_back e2 hc
      have fr2 := fresh_back e1 hr'
      have g5 := Ex.new (o := .tup [.ref ch, .ref u]) hp
      have g4 := (Ex.new (o := .lst (rgV 0 (n : Int))) hu).trans g5
      have g3 := (Ex.new (o := .tup [.ref l, .ref c]) hch).trans g4
      have g2 := (Ex.new (o := .tup [.ref r]) hc).trans g3
      refine ⟨p, u, .ref ch, (List.range n).map fun (i : Nat) => (i : Int), rfl, kp fp upd_same, ⟨⟨ch, c, .ref l, [.ref r], rfl, kp fch (g4 _ _ upd_same), kp fc (g3 _ _ upd_same), rfl, fun i x hi => ?_⟩, lens_one hn.1, by show 1 ≤ 3; decide, hn.2⟩, ?_, rk_one hn.1, by simp; omega⟩
      · match i, hi with
        | 0, hi =>
          have e9 := Option.some.inj hi
          subst e9
          exact ⟨r, rgV 0 (n : Int), rfl, kp fr2 (g2 _ _ upd_same), by rw [rgV_length]; simp⟩
      · rw [← rgV_nat]
        exact kp fu (g5 _ _ upd_same)
end
end K04
/-! ## D20 -/
set_option Elab.async false
set_option linter.all false
set_option maxRecDepth 100000
set_option maxHeartbeats 4000000
namespace K04
open PySem L2 Evl
theorem PartAt.le {M M' : Nat} {H : Hp} {x : V} {q : Ch} (h : PartAt M H x q) (l : M ≤ M') : PartAt M' H x q := by
  obtain ⟨t, r, c, R, a1, a2, a3, a4, a5, a6⟩ := h.at_
  exact ⟨t, r, c, R, a1, a2, a3, a4, a5, Nat.le_trans a6 l⟩
theorem Cht.tups {H H' : Hp} {x : V} {Z : Nat} {lens : List Nat} (e : ∀ t ys, H t = some (.tup ys) → H' t = some (.tup ys)) (h : Cht H x Z lens) : Cht H' x Z lens := by
  obtain ⟨⟨a, c, l, rows, h1, h2, h3, h4, h5⟩, r1, r2, r3⟩ := h
  exact ⟨⟨a, c, l, rows, h1, e _ _ h2, e _ _ h3, h4, fun i x hi => by obtain ⟨p, xs, a, b, c⟩ := h5 i x hi; exact ⟨p, xs, a, e _ _ b, c⟩⟩, r1, r2, r3⟩
def Refs (xs : List V) : Prop := ∀ x ∈ xs, ∃ a, x = V.ref a
/-- a list of refs is changed: no part is touched -/
theorem PartAt.upd_l {M : Nat} {H : Hp} {x : V} {q : Ch} {D : Addr} {l : List V} {o : HO} (h : PartAt M H x q) (hD : H D = some (.lst l)) (hr : Refs l) : PartAt M (upd H D o) x q := by
  obtain ⟨t, r, c, R, a1, a2, a3, a4, a5, a6⟩ := h.at_
  have hne : r ≠ D := fun z => by
    rw [z, hD] at a4
    have e := HO.lst.inj (Option.some.inj a4)
    have hm : V.int ((q.1 : Int) - 1) ∈ l := by rw [e]; exact List.mem_map.mpr ⟨_, a5.top, rfl⟩
    obtain ⟨a, ha⟩ := hr _ hm
    cases ha
  exact ⟨t, r, c, R, a1, tup_upd hD _ _ a2, a3.tups (tup_upd hD), by rw [upd_ne hne]; exact a4, a5, a6⟩
theorem Parts.refs {M : Nat} {H : Hp} {xs : List V} {cs : List Ch} (h : Parts M H xs cs) : Refs xs := fun x hx => by
  obtain ⟨i, hi⟩ := List.mem_iff_getElem?.mp hx
  obtain ⟨q, _, b⟩ := h.2 i x hi
  obtain ⟨t, _, _, _, a1, _⟩ := b.at_
  exact ⟨t, a1⟩
theorem Parts.upd_l {M : Nat} {H : Hp} {xs : List V} {cs : List Ch} {D : Addr} {l : List V} {o : HO} (h : Parts M H xs cs) (hD : H D = some (.lst l)) (hr : Refs l) : Parts M (upd H D o) xs cs :=
  ⟨h.1, fun i x hi => by obtain ⟨q, a, b⟩ := h.2 i x hi; exact ⟨q, a, b.upd_l hD hr⟩⟩
theorem Parts.nil {M : Nat} {H : Hp} : Parts M H [] [] := ⟨rfl, fun i x h => by simp at h⟩
theorem Parts.le {M M' : Nat} {H : Hp} {xs : List V} {cs : List Ch} (h : Parts M H xs cs) (l : M ≤ M') : Parts M' H xs cs := ⟨h.1, fun i x hi => by obtain ⟨q, a, b⟩ := h.2 i x hi; exact ⟨q, a, b.le l⟩⟩
theorem Parts.one {M : Nat} {H : Hp} {x : V} {q : Ch} (h : PartAt M H x q) : Parts M H [x] [q] := ⟨rfl, fun i y hi => by
  match i, hi with
  | 0, hi =>
    have := Option.some.inj hi
    subst this
    exact ⟨q, rfl, h⟩⟩
theorem Parts.app {M : Nat} {H : Hp} {xs ys : List V} {cs ds : List Ch} (h : Parts M H xs cs) (g : Parts M H ys ds) : Parts M H (xs ++ ys) (cs ++ ds) := by
  refine ⟨by rw [List.length_append, List.length_append, h.1, g.1], fun i x hi => ?_⟩
  rw [List.getElem?_append] at hi
  split at hi
  · rename_i hlt
    obtain ⟨q, b, c⟩ := h.2 i x hi
    exact ⟨q, by rw [List.getElem?_append_left (by rw [← h.1]; exact hlt)]; exact b, c⟩
  · rename_i hlt
    obtain ⟨q, b, c⟩ := g.2 _ x hi
    exact ⟨q, by rw [List.getElem?_append_right (by rw [← h.1]; omega), ← h.1]; exact b, c⟩
theorem Parts.take {M : Nat} {H : Hp} {xs : List V} {cs : List Ch} (h : Parts M H xs cs) (n : Nat) : Parts M H (xs.take n) (cs.take n) := by
  refine ⟨by rw [List.length_take, List.length_take, h.1], fun i x hi => ?_⟩
  rw [List.getElem?_take] at hi
  split at hi
  · rename_i hlt
    obtain ⟨q, b, c⟩ := h.2 i x hi
    exact ⟨q, by rw [List.getElem?_take, if_pos hlt]; exact b, c⟩
  · cases hi
theorem Parts.drop {M : Nat} {H : Hp} {xs : List V} {cs : List Ch} (h : Parts M H xs cs) (n : Nat) : Parts M H (xs.drop n) (cs.drop n) := by
  refine ⟨by rw [List.length_drop, List.length_drop, h.1], fun i x hi => ?_⟩
  rw [List.getElem?_drop] at hi
  obtain ⟨q, b, c⟩ := h.2 _ x hi
  exact ⟨q, by rw [List.getElem?_drop]; exact b, c⟩
theorem BG.both {G H : Hp} {b wd D : Addr} {N : Nat} {o : HO} (h : BG G H b wd N) (h1 : D ≠ b) (h2 : D ≠ wd) : BG (upd G D o) (upd H D o) b wd N := by
  obtain ⟨a, c, d, n, s0, s1, cs, h3, h4, r⟩ := h
  refine ⟨fun x u e => ?_, by rw [upd_ne h1.symm]; exact c, by rw [upd_ne h2.symm]; exact d, n, s0, s1, cs, by rw [upd_ne h1.symm]; exact h3, by rw [upd_ne h2.symm]; exact h4, r⟩
  by_cases z : x = D
  · subst z; rw [upd_same] at e ⊢; exact e
  · rw [upd_ne z] at e ⊢; exact a x u e
theorem ex_both {G G' : Hp} {D : Addr} {o : HO} (e : Ex G G') (h : G D = none) : Ex G (upd G' D o) := e.mut h
abbrev s__law_parts : Stmt := top 30
abbrev N__law_parts : List Str := ["_law_bag_here", "_law_size", "_law_kinds", "_law_parts_here", "_law_k"]
theorem sc__law_parts : FnScope N__law_parts ["_law_bag_here", "_law_size"] (defScope s__law_parts) := ⟨rfl, rfl, rfl, by decide +kernel, rfl, by decide +kernel, by decide +kernel⟩
def spParts : Sp := fun vs H Q _ => ∃ (G : Hp) (b wd : Addr) (N : Nat) (size : Int), vs = [.ref b, .int size] ∧ BG G H b wd N ∧ N + 100000 < 1000000 ∧ (0 ≤ size ∧ size ≤ 3) ∧
  ∀ (p : Addr) (xs : List V) (cs : List Ch) (G' H' : Hp), Ex G G' → BG G' H' b wd (N + 100000) → G' p = some (.lst xs) → Parts 20 G' xs cs → cs.length ≤ 60 → (size < 2 → cs.length ≤ 3 ∧ Parts 12 G' xs cs) → Q (.ref p) H'
section
variable {P : Program} {w : World} {K : PySem.W.Frag} {mg : Str → Option Value} {base : Heap}
/-- [part(bag, most) for k in range(n)], read at the comprehension -/
theorem parts_lc {σ : L2.St} {H : Hp} {Q : VK} {G : Hp} {b wd : Addr} {N n most : Nat} (h0 : (wipe σ [4])[0]? = some (some (.ref b))) (hw : ∀ x, wipe ((wipe σ [4]).set 4 (some x)) [4] = wipe σ [4]) (h04 : ∀ x : Option V, ((wipe σ [4]).set 4 x)[0]? = some (some (.ref b)))
    (bg : BG G H b wd N) (hN : N + 2000 * n + 2000 < 1000000) (hm : 1 ≤ most ∧ most ≤ 4)
    (k : ∀ (p : Addr) (xs : List V) (cs : List Ch) (G' H' : Hp), Ex G G' → BG G' H' b wd (N + 2000 * n) → G' p = some (.lst xs) → Parts (3 * most) G' xs cs → cs.length = n → Q (.ref p) H') :
    ∀ D, H D = none → ∃ W : Nat → Nat → Hp → Prop, (∃ m, W 0 m (upd H D (.lst []))) ∧ ∀ i m H, W i m H →
      ((Itr 0 n).stop i H ∧ Q (.ref D) H) ∨ ((Itr 0 n).go i H ∧ ∃ Nx : Hp → Prop, (∀ H', Nx H' → ∃ m', m' < m ∧ W (i + 1) m' H') ∧ ∀ x H', (Itr 0 n).yld i H x H' → gName 4 x (wipe σ [4]) H' fun σ2 H2 => wipe σ2 [4] = wipe σ [4] ∧ tYes σ2 H2 fun b H3 =>
        if b = true then (tCall spPart [] E0 (tCons (tVar 0) (tCons (tC (.int most)) tNil))) σ2 H3 fun y H4 => ∃ acc, H4 D = some (.lst acc) ∧ acc.length < sizeLine ∧ Nx (upd H4 D (.lst (acc ++ [y]))) else Nx H3) := by
  intro D hD
  obtain ⟨hDb, hDw⟩ := bg.fresh hD
  have hDG : G D = none := fresh_back bg.ex hD
  refine lc_range (lo := 0) (n := n) (fun i H' => ∃ (xs : List V) (cs : List Ch) (Gi : Hp), Ex G Gi ∧ BG Gi H' b wd (N + 2000 * i) ∧ Gi D = some (.lst xs) ∧ Parts (3 * most) Gi xs cs ∧ cs.length = i)
    ⟨[], [], upd G D (.lst []), Ex.new hDG, by rw [Nat.mul_zero]; exact bg.both hDb hDw, upd_same, Parts.nil, rfl⟩ (fun i H' hi ⟨xs, cs, Gi, e, bgi, hx, hp, hl⟩ => ⟨hw _, ?_⟩) (fun H' ⟨xs, cs, Gi, e, bgi, hx, hp, hl⟩ => k D xs cs Gi H' e bgi hx hp hl)
  dsimp only [tYes]
  rw [if_pos rfl]
  refine ⟨_, h04 _, Gi, b, wd, N + 2000 * i, most, rfl, bgi, ?_, hm, fun p q G' H2 eG bgq hpn hpart => ?_⟩
  · have : 2000 * i ≤ 2000 * n := Nat.mul_le_mul_left _ (by omega)
    omega
  have hx' := eG _ _ hx
  have hxl : xs.length = i := by rw [hp.1, hl]
  refine ⟨xs, bgq.ex _ _ hx', sz_lt ?_, xs ++ [.ref p], cs ++ [q], upd G' D (.lst (xs ++ [.ref p])), (e.trans eG).mut hDG, ?_, upd_same, ?_, by simp [hl]⟩
  · omega
  · have := bgq.both (o := .lst (xs ++ [.ref p])) hDb hDw
    rw [show N + 2000 * (i + 1) = N + 2000 * i + 2000 by omega]
    exact this
  · exact ((hp.mono eG).app (Parts.one hpart)).upd_l hx' hp.refs
theorem ok_parts {f : Addr} {fd : FuncData} (F : Fun K "_law_parts" "_law_parts" s__law_parts f fd) (T : Txt mg) (D__law_draw : Dn P w K mg base CX0 1 "_law_draw" ["_law_bag_here", "_law_many"] spDraw)
    (D__law_part : Dn P w K mg base CX0 2 "_law_part" ["_law_bag_here", "_law_most"] spPart) (D__law_row : Dn P w K mg base CX0 1 "_law_row" ["_law_many"] spRow) : FnOk P w K mg base CX0 3 f fd ["_law_bag_here", "_law_size"] spParts := by
  refine F.ok sc__law_parts (fun vs H Q E h => ?_) (fun cdv A outer s H vs Q E hr h => ?_)
  · obtain ⟨_, _, _, _, _, rfl, _⟩ := h
    rfl
  · obtain ⟨G, b, wd, N, size, rfl, bg, hN, hs, k⟩ := h
    refine ⟨_, (pss_cons (ps_if (pt_cmpR op_eq (pv 1) pe_int (nomark _))
       (pss_one (ps_ret (pe_lst pa_nil)))
       pss_nil)
    (pss_cons (ps_if (pt_cmpR op_eq (pv 1) pe_int (nomark _))
       (pss_one (ps_ret (pe_lc (own := [("_law_k", 4)]) (g := (gName 4)) (tt := tYes) rfl sc__law_parts.nd (pi_range1 (by rfl) T.range (pa_cons (pe_op op_add pe_int (pe_call D__law_draw.ok (hr.mono (by decide)) (by rfl) D__law_draw.g D__law_draw.kp D__law_draw.b .nil pass0 (pa_cons (pv 0) (pa_cons pe_int pa_nil)))) pa_nil)) (blkOk_by (own := [("_law_k", 4)]) (N := N__law_parts) (sc := defScope s__law_parts) (by decide +kernel)) (fun _ _ _ _ _ => pg_name (i := 4) sc__law_parts.nd rfl (Or.inl rfl)) (fun _ _ _ _ _ => pts_nil) (fun _ _ _ _ _ => (pe_call D__law_part.ok (hr.mono (by decide)) (by rfl) D__law_part.g D__law_part.kp D__law_part.b .nil pass0 (pa_cons (pv 0) (pa_cons pe_int pa_nil)))))))
       pss_nil)
    (pss_cons (ps_if (pt_cmpR op_eq (pv 1) pe_int (nomark _))
       (pss_one (ps_ret (pe_lc (own := [("_law_k", 4)]) (g := (gName 4)) (tt := tYes) rfl sc__law_parts.nd (pi_range1 (by rfl) T.range (pa_cons (pe_op op_add pe_int (pe_call D__law_draw.ok (hr.mono (by decide)) (by rfl) D__law_draw.g D__law_draw.kp D__law_draw.b .nil pass0 (pa_cons (pv 0) (pa_cons pe_int pa_nil)))) pa_nil)) (blkOk_by (own := [("_law_k", 4)]) (N := N__law_parts) (sc := defScope s__law_parts) (by decide +kernel)) (fun _ _ _ _ _ => pg_name (i := 4) sc__law_parts.nd rfl (Or.inl rfl)) (fun _ _ _ _ _ => pts_nil) (fun _ _ _ _ _ => (pe_call D__law_part.ok (hr.mono (by decide)) (by rfl) D__law_part.g D__law_part.kp D__law_part.b .nil pass0 (pa_cons (pv 0) (pa_cons pe_int pa_nil)))))))
       pss_nil)
    (pss_cons (ps_set (i := 2) sc__law_parts.nd rfl (Or.inr rfl) (pe_lst (pa_cons (pe_call D__law_part.ok (hr.mono (by decide)) (by rfl) D__law_part.g D__law_part.kp D__law_part.b .nil pass0 (pa_cons (pv 0) (pa_cons pe_int pa_nil))) (pa_cons (pe_call D__law_part.ok (hr.mono (by decide)) (by rfl) D__law_part.g D__law_part.kp D__law_part.b .nil pass0 (pa_cons (pv 0) (pa_cons pe_int pa_nil))) (pa_cons (pe_call D__law_row.ok (hr.mono (by decide)) (by rfl) D__law_row.g D__law_row.kp D__law_row.b .nil pass0 (pa_cons pe_int pa_nil)) (pa_cons (pe_call D__law_row.ok (hr.mono (by decide)) (by rfl) D__law_row.g D__law_row.kp D__law_row.b .nil pass0 (pa_cons pe_int pa_nil)) pa_nil))))))
    (pss_cons (ps_setLc (i := 3) (own := [("_law_k", 4)]) (g := (gName 4)) (tt := tYes) rfl sc__law_parts.nd rfl rfl (sw_true rfl rfl rfl (by decide +kernel)) (pi_range1 (by rfl) T.range (pa_cons pe_int pa_nil)) (blkOk_by (own := [("_law_k", 4)]) (N := N__law_parts) (sc := defScope s__law_parts) (by decide +kernel)) (fun _ _ _ _ _ => pg_name (i := 4) sc__law_parts.nd rfl (Or.inl rfl)) (fun _ _ _ _ _ => pts_nil) (fun _ _ _ _ _ => (pe_ix (iL K) (pv 2) (pe_call D__law_draw.ok (hr.mono (by decide)) (by rfl) D__law_draw.g D__law_draw.kp D__law_draw.b .nil pass0 (pa_cons (pv 0) (pa_cons pe_int pa_nil))) (fun _ _ => rfl))))
    (pss_cons (ps_expr (pe_bmK K PySem.F.plainAttrs_list PySem.F.slot_list_insert PySem.F.type_list_insert mt_insert (pv 3) (pa_cons (pe_call D__law_draw.ok (hr.mono (by decide)) (by rfl) D__law_draw.g D__law_draw.kp D__law_draw.b .nil pass0 (pa_cons (pv 0) (pa_cons pe_int pa_nil))) (pa_cons (pe_call D__law_row.ok (hr.mono (by decide)) (by rfl) D__law_row.g D__law_row.kp D__law_row.b .nil pass0 (pa_cons (pe_op op_add pe_int (pe_call D__law_draw.ok (hr.mono (by decide)) (by rfl) D__law_draw.g D__law_draw.kp D__law_draw.b .nil pass0 (pa_cons (pv 0) (pa_cons pe_int pa_nil)))) pa_nil)) pa_nil))))
    (pss_one (ps_ret (pv 3))))))))), ?_⟩
    -- if size == 0: return []
    refine ⟨_, rfl, rfl, _, rfl, ?_⟩
    rw [decide_int]
    refine ite2 (fun c0 => ?_) (fun c0 => ?_)
    · refine ⟨sz_of (Nat.zero_le _), fun p hp => ?_⟩
      obtain ⟨hpb, hpw⟩ := bg.fresh hp
      have hpG : G p = none := fresh_back bg.ex hp
      exact k p [] [] (upd G p (.lst [])) _ (Ex.new hpG) ((bg.both hpb hpw).mono (by omega)) upd_same Parts.nil (Nat.zero_le _) (fun _ => ⟨Nat.zero_le _, Parts.nil⟩)
    -- if size == 1
    refine ⟨_, rfl, rfl, _, rfl, ?_⟩
    rw [decide_int]
    refine ite2 (fun c1 => ?_) (fun c1 => ?_)
    · refine ⟨_, rfl, _, b, wd, N, 3, rfl, bg, by omega, ⟨by omega, by omega⟩, fun d H1 hd0 hd1 bg1 => ⟨1, d, rfl, rfl, 1 + d, rfl, by omega, by omega, ?_⟩⟩
      have e9 : (1 + d).toNat = (1 + d).toNat := rfl
      obtain ⟨n, hn⟩ : ∃ n : Nat, (1 + d).toNat = n := ⟨_, rfl⟩
      rw [hn]
      refine parts_lc (n := n) (most := 4) rfl (fun x => rfl) (fun x => rfl) bg1 (by omega) (by omega) fun p xs cs G' H' eG bgq hx hp hl => ?_
      have hp' : Parts 12 G' xs cs := hp
      exact k p xs cs G' H' eG (bgq.mono (by omega)) hx (hp'.le (by decide)) (by omega) (fun _ => ⟨by omega, hp'⟩)
    -- if size == 2
    refine ⟨_, rfl, rfl, _, rfl, ?_⟩
    rw [decide_int]
    have c1' : size ≠ 1 := fun z => c1 (decide_eq_true z)
    have c0' : size ≠ 0 := fun z => c0 (decide_eq_true z)
    refine ite2 (fun c2 => ?_) (fun c2 => ?_)
    · refine ⟨_, rfl, _, b, wd, N, 6, rfl, bg, by omega, ⟨by omega, by omega⟩, fun d H1 hd0 hd1 bg1 => ⟨4, d, rfl, rfl, 4 + d, rfl, by omega, by omega, ?_⟩⟩
      obtain ⟨n, hn⟩ : ∃ n : Nat, (4 + d).toNat = n := ⟨_, rfl⟩
      rw [hn]
      refine parts_lc (n := n) (most := 3) rfl (fun x => rfl) (fun x => rfl) bg1 (by omega) (by omega) fun p xs cs G' H' eG bgq hx hp hl => ?_
      have hp' : Parts 9 G' xs cs := hp
      exact k p xs cs G' H' eG (bgq.mono (by omega)) hx (hp'.le (by decide)) (by omega) (fun z => by omega)
    -- sixty slots
    refine ⟨_, rfl, G, b, wd, N, 3, rfl, bg, by omega, ⟨by omega, by omega⟩, fun p1 q1 G1 H1 e1 bg1 hn1 part1 => ?_⟩
    refine ⟨_, rfl, G1, b, wd, _, 3, rfl, bg1, by omega, ⟨by omega, by omega⟩, fun p2 q2 G2 H2 e2 bg2 hn2 part2 => ?_⟩
    refine ⟨2, rfl, ⟨by omega, by omega⟩, fun p3 H3 e3 hn3 part3 => ?_⟩
    refine ⟨3, rfl, ⟨by omega, by omega⟩, fun p4 H4 e4 hn4 part4 => ?_⟩
    have bg4 := (bg2.grow e3).grow e4
    have eH : Ex G2 H4 := (bg2.ex.trans e3).trans e4
    obtain ⟨_, _, _, nbw, s0, s1, cw, hb2, hw2, _⟩ := id bg2
    have kb2 : H2 b ≠ none := fun z => by rw [hb2] at z; cases z
    have kw2 : H2 wd ≠ none := fun z => by rw [hw2] at z; cases z
    have kb3 : H3 b ≠ none := fun z => by rw [e3 _ _ hb2] at z; cases z
    have kw3 : H3 wd ≠ none := fun z => by rw [e3 _ _ hw2] at z; cases z
    have hg : Ex G2 (hid b wd H4) := bg4.hidG
    have h34 : Ex (hid b wd H3) (hid b wd H4) := fun c o e => by
      by_cases z : c = b ∨ c = wd
      · rw [hid, if_pos z] at e; cases e
      · rw [hid, if_neg z] at e ⊢; exact e4 _ _ e
    have ps : Parts 20 (hid b wd H4) [.ref p1, .ref p2, .ref p3, .ref p4] [q1, q2, (2, [2]), (3, [3])] :=
      ((Parts.one ((part1.mono (e2.trans hg)).le (by decide))).app (Parts.one ((part2.mono hg).le (by decide)))).app ((Parts.one ((part3 b wd kb2 kw2).mono h34)).app (Parts.one (part4 b wd kb3 kw3)))
    refine ⟨sz_of (by show 4 ≤ _; decide), fun p5 hp5 => ?_⟩
    obtain ⟨h5b, h5w⟩ := bg4.fresh hp5
    have hp5h : hid b wd H4 p5 = none := by rw [hid_ne h5b h5w]; exact hp5
    obtain ⟨xs5, hxs5⟩ : ∃ xs5 : List V, xs5 = [.ref p1, .ref p2, .ref p3, .ref p4] := ⟨_, rfl⟩
    obtain ⟨cs5, hcs5⟩ : ∃ cs5 : List Ch, cs5 = [q1, q2, (2, [2]), (3, [3])] := ⟨_, rfl⟩
    rw [← hxs5, ← hcs5] at ps
    have hl5 : cs5.length = 4 := by rw [hcs5]; rfl
    dsimp only [tNil]
    rw [← hxs5]
    obtain ⟨G5, hG5⟩ : ∃ G5 : Hp, G5 = upd (hid b wd H4) p5 (.lst xs5) := ⟨_, rfl⟩
    have bg5 : BG G5 (upd H4 p5 (.lst xs5)) b wd (N + 4000) := by
      rw [hG5]
      exact (bg4.hid.mono (by omega)).both h5b h5w
    have ps5 : Parts 20 G5 xs5 cs5 := by rw [hG5]; exact ps.mono (Ex.new hp5h)
    have x5 : G5 p5 = some (.lst xs5) := by rw [hG5]; exact upd_same
    have e5 : Ex G G5 := by rw [hG5]; exact ((e1.trans e2).trans hg).trans (Ex.new hp5h)
    generalize upd H4 p5 (.lst xs5) = H5 at bg5
    dsimp only [gName]
    refine ⟨59, rfl, by omega, by omega, fun D hD => ?_⟩
    obtain ⟨hDb, hDw⟩ := bg5.fresh hD
    have hDG : G5 D = none := fresh_back bg5.ex hD
    refine lc_range (lo := 0) (n := 59) (fun i H' => ∃ (xs : List V) (cs : List Ch), BG (upd G5 D (.lst xs)) H' b wd (N + 4000 + i) ∧ Parts 20 G5 xs cs ∧ cs.length = i)
      ⟨[], [], bg5.both hDb hDw, Parts.nil, rfl⟩ (fun i H' hi ⟨xs, cs, bgi, hp, hl⟩ => ⟨rfl, ?_⟩) (fun H' ⟨xs, cs, bgi, hp, hl⟩ => ?_)
    · dsimp only [tYes]
      rw [if_pos rfl]
      refine ⟨_, rfl, _, rfl, _, b, wd, _, 4, rfl, bgi, by omega, ⟨by omega, by omega⟩, fun d H6 hd0 hd1 bg6 => ?_⟩
      obtain ⟨j, rfl⟩ : ∃ j : Nat, d = (j : Int) := ⟨d.toNat, by omega⟩
      have hj : j < xs5.length := by rw [ps5.1, hl5]; omega
      obtain ⟨q, hq, hv⟩ := ps5.2 j xs5[j] (List.getElem?_eq_getElem hj)
      have hpD : p5 ≠ D := ne_of_none x5 hDG
      have hx6 : H6 p5 = some (.lst xs5) := bg6.ex _ _ (by rw [upd_ne hpD]; exact x5)
      have hD6 : H6 D = some (.lst xs) := bg6.ex _ _ upd_same
      have hxl : xs.length = i := by rw [hp.1, hl]
      refine ⟨p5, xs5, j, xs5[j], rfl, rfl, sq_of hx6, atI_nat (List.getElem?_eq_getElem hj), xs, hD6, sz_lt (by omega), xs ++ [xs5[j]], cs ++ [q], ?_, hp.app (Parts.one hv), by simp [hl]⟩
      have := bg6.both (o := .lst (xs ++ [xs5[j]])) hDb hDw
      rw [upd_upd] at this
      rw [show N + 4000 + (i + 1) = N + 4000 + i + 1 by omega]
      exact this
    · -- the list of 59; a row is put in
      have hxl : xs.length = 59 := by rw [hp.1, hl]
      refine ⟨_, rfl, .inl ⟨rfl, _, sq_of (bgi.ex _ _ upd_same)⟩, _, rfl, _, b, wd, _, 60, rfl, bgi, by omega, ⟨by omega, by omega⟩, fun d H6 hd0 hd1 bg6 => ?_⟩
      refine ⟨_, rfl, _, b, wd, _, 20, rfl, bg6, by omega, ⟨by omega, by omega⟩, fun d2 H7 hd20 hd21 bg7 => ?_⟩
      obtain ⟨n, hn⟩ : ∃ n : Nat, 1 + d2 = (n : Int) := ⟨(1 + d2).toNat, by omega⟩
      refine ⟨1, d2, rfl, rfl, n, congrArg (fun z => [V.int z]) hn, ⟨by omega, by omega⟩, fun p8 H8 e8 hn8 part8 => ?_⟩
      have hD8 : H8 D = some (.lst xs) := e8 _ _ (bg7.ex _ _ upd_same)
      obtain ⟨_, _, _, _, s6, s7, cw7, hb7, hw7, _⟩ := id bg7
      have bg8 := bg7.grow e8
      have e9 : Ex G5 (hid b wd H8) := (Ex.new hDG).trans bg8.hidG
      have hD9 : hid b wd H8 D = some (.lst xs) := by rw [hid_ne hDb hDw]; exact hD8
      have hrow := part8 b wd (fun z => by rw [hb7] at z; cases z) (fun z => by rw [hw7] at z; cases z)
      have hp9 := hp.mono e9
      have hall := (((hp9.take d.toNat).app (Parts.one hrow)).app (hp9.drop d.toNat)).upd_l (o := .lst (xs.take d.toNat ++ [.ref p8] ++ xs.drop d.toNat)) hD9 hp9.refs
      refine ⟨D, xs, d, _, rfl, rfl, hD8, sz_lt (by omega), by omega, by omega, _, rfl, ?_⟩
      refine k D _ _ (upd (hid b wd H8) D (.lst (xs.take d.toNat ++ [.ref p8] ++ xs.drop d.toNat))) _ (e5.trans (e9.mut hDG)) ((bg8.hid.both hDb hDw).mono (by omega)) upd_same hall ?_ (fun z => by have := of_decide_eq_false (Bool.not_eq_true _ ▸ c2); omega)
      rw [List.length_append, List.length_append, List.length_take, List.length_drop, hl]
      show min d.toNat 59 + 1 + (59 - d.toNat) ≤ 60
      omega
end
end K04
/-! ## Kw -/
set_option Elab.async false
set_option linter.all false
set_option maxRecDepth 100000
set_option maxHeartbeats 4000000
namespace K04
open PySem L2 Evl
/-- f(e, .., k = v, ..), where the call may raise: n positional values, m keywords -/
def tCallNS (n m : Nat) (sp : Sp) (gV : List V → List V → List V) (E : L2.St → XK) (t tk : TA) : TE := fun σ H Q => t σ H fun vs H1 => tk σ H1 fun zs H2 => vs.length = n ∧ zs.length = m ∧ sp (gV vs zs) H2 Q (E σ)
section
variable {X : Cx} {CX : CXT} {k n : Nat} {f : Addr} {fd : FuncData} {ps ks : List Str} {sp : Sp} {E : L2.St → XK} {E0' : XK} {x : Str} {p pos : Pos} {e : Expr} {es : List Expr} {kws : List Keyword} {t tk : TA} {g : List Value → List Value → List Value} {gV : List V → List V → List V}
theorem run_fnNS {pins : List (Addr × Obj)} {σ : L2.St} {H : Hp} {s : Shared} {Q : VK} {us ws : List Value} {vs zs : List V} (F : FnOk X.prog X.w X.K X.mg X.base CX k f fd ps sp) (hr : Room k X.A) (hb : KBn X.K fd ps n ks g gV) (hx : PassesAt CX X σ (E σ))
    (I : Inv X pins σ H s) (r : Vals vs us) (rz : Vals zs ws) (l1 : vs.length = n) (l2 : zs.length = ks.length) (h : sp (gV vs zs) H Q (E σ)) : wpAny (model X.prog X.w) X.A (call (.ref f) us (ks.zip ws)) (EP X pins σ Q) X.xe s := by
  have r2 := hb.rel r rz
  refine wpAny_call (codeAny_mono (F.run X.A X.stack s H ⟨us, ks.zip ws⟩ (g us ws) (gV vs zs) Q (E σ) hr I.env0 (hb.to s us ws I.kIn (r.length.symm.trans l1) (rz.length.symm.trans l2)) r2 h) fun r s' hq => ?_)
  cases r with
  | error e => exact hx pins H s e s' I hq
  | ok fl =>
    cases fl with
    | ret u => exact I.after hq
    | next => exact False.elim hq
    | brk => exact False.elim hq
    | cont => exact False.elim hq
/-- f(e, .., k = v, ..) in a try -/
theorem pe_callNS (F : FnOk X.prog X.w X.K X.mg X.base CX k f fd ps sp) (hr : Room k X.A) (hg : Gl X x) (hm : X.mg x = some (.ref f)) (hk : PySem.W.keepIn X.K (.ref f) = true) (hb : KBn X.K fd ps n ks g gV) (hx : ∀ σ, PassesAt CX X σ (E σ))
    (ha : PA X (e :: es) t) (hkw : PK X kws tk) (hall : (backToKw pos (keywordEach kws X.env)).all (·.1.isSome) = true := by rfl) (hks : (backToKw pos (keywordEach kws X.env)).filterMap (·.1) = ks := by rfl)
    (hdb : (x == ("__debug__" : Str)) = false := by decide) (he : starEach (e :: es) X.env = (false, eval e X.env) :: starEach es X.env := by rfl)
    (hpl : ((backTo pos (starEach (e :: es) X.env)).any (·.1) || (backToKw pos (keywordEach kws X.env)).any (·.1.isNone)) = false := by rfl) :
    PE X (.Call (.Name x p) (e :: es) kws pos) (tCallNS n ks.length sp gV E t tk) := by
  refine ⟨fun pins s σ H Q I h => ?_⟩
  refine wpAny_Call_Name_kw (ld_glob I hg hm ?_ hdb)
  refine PySem.W.callWith_KW (h₀ := X.base) I.ok.mod.kin hk hall (thn (ha.run pos pins s σ H _ I h) fun us s1 ⟨vs, H1, I1, r, q⟩ => ?_) hpl he
  refine thn (hkw.run pos pins s1 σ H1 _ I1 q) fun ws s2 ⟨zs, H2, I2, rz, l1, l2, q2⟩ => ⟨I2.kIn, ?_⟩
  rw [hks]
  exact run_fnNS F hr hb (hx σ) I2 r rz l1 l2 q2
/-- f(k = v, ..) in a try -/
theorem pe_callNS0 (F : FnOk X.prog X.w X.K X.mg X.base CX k f fd ps sp) (hr : Room k X.A) (hg : Gl X x) (hm : X.mg x = some (.ref f)) (hk : PySem.W.keepIn X.K (.ref f) = true) (hb : KBn X.K fd ps 0 ks g gV) (hx : ∀ σ, PassesAt CX X σ (E σ))
    (hkw : PK X kws tk) (hall : (backToKw pos (keywordEach kws X.env)).all (·.1.isSome) = true := by rfl) (hks : (backToKw pos (keywordEach kws X.env)).filterMap (·.1) = ks := by rfl)
    (hdb : (x == ("__debug__" : Str)) = false := by decide)
    (hpl : ((backTo pos (starEach [] X.env)).any (·.1) || (backToKw pos (keywordEach kws X.env)).any (·.1.isNone)) = false := by rfl) :
    PE X (.Call (.Name x p) [] kws pos) (tCallNS 0 ks.length sp gV E tNil tk) := by
  refine ⟨fun pins s σ H Q I h => ?_⟩
  refine wpAny_Call_Name_kw (ld_glob I hg hm ?_ hdb)
  refine PySem.W.callWith_KW0 (h₀ := X.base) I.ok.mod.kin hk hall ?_ hpl
  refine thn (hkw.run pos pins s σ H _ I h) fun ws s2 ⟨zs, H2, I2, rz, l1, l2, q2⟩ => ⟨I2.kIn, ?_⟩
  rw [hks]
  exact run_fnNS (us := []) (vs := []) F hr hb (hx σ) I2 .nil rz rfl l2 q2
/-- f(k = v, ..) -/
theorem pe_callKw0 (F : FnOk X.prog X.w X.K X.mg X.base CX k f fd ps sp) (hr : Room k X.A) (hg : Gl X x) (hm : X.mg x = some (.ref f)) (hk : PySem.W.keepIn X.K (.ref f) = true) (hb : KBn X.K fd ps 0 ks g gV) (hx : Passes CX X E0')
    (hkw : PK X kws tk) (hall : (backToKw pos (keywordEach kws X.env)).all (·.1.isSome) = true := by rfl) (hks : (backToKw pos (keywordEach kws X.env)).filterMap (·.1) = ks := by rfl)
    (hdb : (x == ("__debug__" : Str)) = false := by decide)
    (hpl : ((backTo pos (starEach [] X.env)).any (·.1) || (backToKw pos (keywordEach kws X.env)).any (·.1.isNone)) = false := by rfl) :
    PE X (.Call (.Name x p) [] kws pos) (tCallN 0 ks.length sp gV E0' tNil tk) := by
  refine ⟨fun pins s σ H Q I h => ?_⟩
  refine wpAny_Call_Name_kw (ld_glob I hg hm ?_ hdb)
  refine PySem.W.callWith_KW0 (h₀ := X.base) I.ok.mod.kin hk hall ?_ hpl
  refine thn (hkw.run pos pins s σ H _ I h) fun ws s2 ⟨zs, H2, I2, rz, l1, l2, q2⟩ => ⟨I2.kIn, ?_⟩
  rw [hks]
  exact run_fnN (us := []) (vs := []) F hr hb hx I2 .nil rz rfl l2 q2
end
end K04
/-! ## D21 -/
set_option Elab.async false
set_option linter.all false
set_option maxRecDepth 100000
set_option maxHeartbeats 4000000
namespace K04
open PySem L2 Evl
abbrev s__law_ask : Stmt := top 36
abbrev N__law_ask : List Str := ["_law_word", "_law_bench", "_law_many", "e"]
theorem sc__law_ask : FnScope N__law_ask ["_law_word", "_law_bench", "_law_many"] (defScope s__law_ask) := ⟨rfl, rfl, rfl, by decide +kernel, rfl, by decide +kernel, by decide +kernel⟩
/-- how the two calls with keywords bind -/
theorem Fun.kbn_rev {K : PySem.W.Frag} {x qual : Str} {st : Stmt} {f : Addr} {fd : FuncData} {ps ks : List Str} (F : Fun K x qual st f fd)
    (h : ∀ (kV doc pm : Value) (an : Option Addr) (cdv ct : Value) (ws : List Value), ws.length = ks.length → bindArgs (PySem.W.fnOf x qual (defArgs st) (defBody st) (defScope st) .none kV doc pm an cdv ct) ⟨[], ks.zip ws⟩ = pure (ps.zip ws.reverse)) :
    KBn K fd ps 0 ks (fun _ ws => ws.reverse) (fun _ zs => zs.reverse) := by
  obtain ⟨oc, od, kV, doc, pm, an, cdv, ct, osl, rfl, lk, hcd⟩ := F.ex
  refine ⟨fun s us ws _ hu hw => ?_, fun {vs us zs ws} _ r => ?_⟩
  · have : us = [] := List.length_eq_zero_iff.mp hu
    subst this
    exact .of_eq (h kV doc pm an cdv ct ws hw)
  · exact r.reverse
theorem Fun.kbn_app {K : PySem.W.Frag} {x qual : Str} {st : Stmt} {f : Addr} {fd : FuncData} {ps ks : List Str} {n : Nat} (F : Fun K x qual st f fd)
    (h : ∀ (kV doc pm : Value) (an : Option Addr) (cdv ct : Value) (us ws : List Value), us.length = n → ws.length = ks.length → bindArgs (PySem.W.fnOf x qual (defArgs st) (defBody st) (defScope st) .none kV doc pm an cdv ct) ⟨us, ks.zip ws⟩ = pure (ps.zip (us ++ ws))) :
    KBn K fd ps n ks (fun us ws => us ++ ws) (fun vs zs => vs ++ zs) := by
  obtain ⟨oc, od, kV, doc, pm, an, cdv, ct, osl, rfl, lk, hcd⟩ := F.ex
  refine ⟨fun s us ws _ hu hw => .of_eq (h kV doc pm an cdv ct us ws hu hw), fun {vs us zs ws} r1 r2 => r1.append r2⟩
/-- ('is', answer) or ('no', word, at) -/
def spAsk : Sp := fun vs H Q _ => ∃ (word : Str) (x y : V) (cs : List Ch) (low high top : Int), vs = [.str word, x, y] ∧ Bn H x cs low high top ∧ Any H y ∧
  (word = "window" → (∀ many : Int, y = .int many → 1 ≤ many → ∀ p t H', Ex H H' → H' p = some (.tup [.str "is", .ref t]) → H' t = some (.tup [.int (wleast (hgt cs) low high many), .int (wgreat (hgt cs) low high many)]) → Q (.ref p) H') ∧
    (isP y = false → ∀ p H', Ex H H' → H' p = some (.tup [.str "no", .str "many", .int (-1)]) → Q (.ref p) H')) ∧
  (word ≠ "window" → (∀ many : Int, y = .int many → 0 ≤ many → ∀ p H', Ex H H' → H' p = some (.tup [.str "is", .int (spreadI cs low high many)]) → Q (.ref p) H') ∧
    (isN y = false → ∀ p H', Ex H H' → H' p = some (.tup [.str "no", .str "many", .int (-1)]) → Q (.ref p) H'))
section
variable {P : Program} {w : World} {K : PySem.W.Frag} {mg : Str → Option Value} {base : Heap}
theorem ok_ask {f C fI : Addr} {fd : FuncData} (F : Fun K "_law_ask" "_law_ask" s__law_ask f fd) (T : Txt mg) (N : Nu K mg C fI)
    (D_window_of : Dn P w K mg base (L2.CX P w) 4 "window_of" ["bench", "many"] (spWindowOf C)) (D_spread_of : Dn P w K mg base (L2.CX P w) 5 "spread_of" ["bench", "many"] (spSpreadOf C))
    (bW : KBn K D_window_of.fd ["bench", "many"] 0 ["many", "bench"] (fun _ ws => ws.reverse) (fun _ zs => zs.reverse))
    (bS : KBn K D_spread_of.fd ["bench", "many"] 1 ["many"] (fun us ws => us ++ ws) (fun vs zs => vs ++ zs)) :
    FnOk P w K mg base CX0 6 f fd ["_law_word", "_law_bench", "_law_many"] spAsk := by
  refine F.ok sc__law_ask (fun vs H Q E h => ?_) (fun cdv A outer s H vs Q E hr h => ?_)
  · obtain ⟨_, _, _, _, _, _, _, rfl, _⟩ := h
    rfl
  · obtain ⟨word, x, y, cs, lo, hi, tp, rfl, B, hy, kW, kS⟩ := h
    have hr4 : Room 4 _ := hr.mono (by decide)
    have hr5 : Room 5 _ := hr.mono (by decide)
    refine ⟨_, pss_one (ps_try_as (i := 3) (Wout := fun _ _ _ _ => False) rfl rfl sc__law_ask.nd rfl rfl ⟨rfl, by decide, Or.inl N.gC⟩ takes0
      (fun W pn xe tk _ => pss_cons (ps_if (pt_cmpR op_eq (pv 0) pe_str (nomark _))
          (pss_one (ps_ret (pe_tup (pa_cons pe_str (pa_cons (pe_callNS0 D_window_of.ok hr4 rfl D_window_of.g D_window_of.kp bW (fun σ => passAt tk σ) (pk_cons (pv 2) (pk_cons (pv 1) pk_nil))) pa_nil)))))
          pss_nil)
        (pss_one (ps_ret (pe_tup (pa_cons pe_str (pa_cons (pe_callNS D_spread_of.ok hr5 rfl D_spread_of.g D_spread_of.kp bS (fun σ => passAt tk σ) (pa_cons (pv 1) pa_nil) (pk_cons (pv 2) pk_nil)) pa_nil))))))
      (fun a oe cls d pn hz hf => pss_one (ps_ret (pe_tup (pa_cons pe_str (pa_cons (pe_xf N.xf N.nw hz hf (pv 3)) (pa_cons (pe_xf N.xf N.na hz hf (pv 3)) pa_nil))))))), ?_⟩
    have bad : ∀ (d : Addr) (H' : Hp), H' d = some (nuD "many") → (∀ p H'', Ex H' H'' → H'' p = some (.tup [.str "no", .str "many", .int (-1)]) → Q (.ref p) H'') →
        wAs K (Value.ref C) 3 (fun a cls d => tRet (tTup (tCons (tC (V.str "no")) (tCons (tXf a cls d C "word" (tVar 3)) (tCons (tXf a cls d C "at" (tVar 3)) tNil))))) (fun _ _ _ _ => False) { nx := fun x H' => Q V.non H', rt := Q } (.ref C) (some d) (start N__law_ask [V.str word, x, y]) H' := fun d H' hd q =>
      ⟨true, N.te, fun _ a0 _ => ⟨_, rfl, rfl, rfl, d, _, _, rfl, hd, rfl, _, rfl, rfl, rfl, d, _, _, rfl, hd, rfl, sz_of (by show 3 ≤ _; decide), fun p hp => q p _ (Ex.new hp) upd_same⟩, fun z => Bool.noConfusion z⟩
    refine ⟨_, rfl, rfl, _, rfl, ?_⟩
    refine ite2 (fun c => ?_) (fun c => ?_)
    · have ew : word = "window" := V.str.inj (of_decide_eq_true c)
      obtain ⟨k1, k2⟩ := kW ew
      refine ⟨_, rfl, _, rfl, rfl, rfl, x, y, cs, lo, hi, tp, rfl, B, hy, fun many e h1 t H' eH ht0 ht => ⟨sz_of (by show 2 ≤ _; decide), fun p hp => ?_⟩, fun hP d H' eH hd => bad d H' hd fun p H'' e' hp => k2 hP p H'' (eH.trans e') hp⟩
      exact k1 many e h1 p t _ (eH.trans (Ex.new hp)) upd_same (by rw [upd_ne (ne_of_none ht hp)]; exact ht)
    · have ew : word ≠ "window" := fun z => c (by rw [z]; exact decide_eq_true rfl)
      obtain ⟨k1, k2⟩ := kS ew
      refine ⟨_, rfl, _, rfl, rfl, rfl, x, y, cs, lo, hi, tp, rfl, B, hy, fun many e h1 H' eH => ⟨sz_of (by show 2 ≤ _; decide), fun p hp => ?_⟩, fun hP d H' eH hd => bad d H' hd fun p H'' e' hp => k2 hP p H'' (eH.trans e') hp⟩
      exact k1 many e h1 p _ (eH.trans (Ex.new hp)) upd_same
end
end K04
/-! ## D22 -/
set_option Elab.async false
set_option linter.all false
set_option maxRecDepth 100000
set_option maxHeartbeats 4000000
namespace K04
open PySem L2 Evl
/-- an expression that makes something with the property A -/
def EvW (te : TE) (σ : L2.St) (H : Hp) (A : V → Hp → Prop) : Prop := ∀ H1, Ex H H1 → ∀ Q : VK, (∀ v H2, Ex H1 H2 → A v H2 → Q v H2) → te σ H1 Q
def TupIs (xs : List V) : V → Hp → Prop := fun v H => ∃ p, v = .ref p ∧ H p = some (.tup xs)
section
variable {K : PySem.W.Frag} {σ : L2.St} {H : Hp} {ta tb : TE} {E : XK}
theorem ew_U {xs : List V} (h : EvU ta σ H xs) : EvW ta σ H (TupIs xs) := fun H1 e Q q => h H1 e Q fun p H2 _ e2 h2 => q _ H2 e2 ⟨p, rfl, h2⟩
theorem ew_V {v : V} (h : Ev ta σ H v) : EvW ta σ H (fun x _ => x = v) := fun H1 e Q q => h H1 e Q fun H2 e2 => q _ H2 e2 rfl
theorem EvW.mono {H' : Hp} {A : V → Hp → Prop} (e : Ex H H') (h : EvW ta σ H A) : EvW ta σ H' A := fun H1 e1 Q q => h H1 (e.trans e1) Q q
theorem ev_same {n : Nat} {A B : V → Hp → Prop} (h1 : EvW ta σ H A) (h2 : EvW tb σ H B) (hs : ∀ x y H1 H2, Ex H H1 → A x H1 → Ex H1 H2 → B y H2 → Sm H2 n x y) : Ev (tCall (spSame n) [] E (tCons ta (tCons tb tNil))) σ H (.bl true) := fun H1 e Q q =>
  h1 H1 e _ fun x H2 e2 hx => h2 H2 (e.trans e2) _ fun y H3 e3 hy => ⟨x, y, rfl, hs x y H2 H3 (e.trans e2) hx e3 hy, fun H4 e4 => q H4 ((e2.trans e3).trans e4)⟩
theorem ru_neg {i : Int} : RU (rU fun i => .int (-i)) (.int i) H (.int (-i)) := fun H1 _ Q q => ⟨i, rfl, q H1 (Ex.refl H1)⟩
/-- ask(word, bench, many): refused -/
theorem ew_ask_no {word : Str} {x y : V} {cs : List Ch} {lo hi tp : Int} {t1 t2 : TE} (h1 : Ev t1 σ H x) (h2 : Ev t2 σ H y) (B : Bn H x cs lo hi tp) (hy : Any H y) (hw : (word = "window" → isP y = false) ∧ (word ≠ "window" → isN y = false)) :
    EvW (tCall spAsk [] E (tCons (tC (.str word)) (tCons t1 (tCons t2 tNil)))) σ H (TupIs [.str "no", .str "many", .int (-1)]) := fun H1 e Q q =>
  h1 H1 e _ fun H2 e2 => h2 H2 (e.trans e2) _ fun H3 e3 => ⟨word, x, y, cs, lo, hi, tp, rfl, B.mono ((e.trans e2).trans e3), hy.mono ((e.trans e2).trans e3),
    fun ew => ⟨fun many e0 h0 => by
      have h := hw.1 ew
      rw [e0] at h
      exact absurd h (by show ¬ decide (1 ≤ many) = false; rw [decide_eq_true h0]; decide), fun _ p H4 e4 hp => q _ H4 ((e2.trans e3).trans e4) ⟨p, rfl, hp⟩⟩,
    fun ew => ⟨fun many e0 h0 => by
      have h := hw.2 ew
      rw [e0] at h
      exact absurd h (by show ¬ decide (0 ≤ many) = false; rw [decide_eq_true h0]; decide), fun _ p H4 e4 hp => q _ H4 ((e2.trans e3).trans e4) ⟨p, rfl, hp⟩⟩⟩
/-- ask("spread", bench, many): the number -/
theorem ew_ask_is {word : Str} {x : V} {cs : List Ch} {lo hi tp many : Int} {t1 t2 : TE} (h1 : Ev t1 σ H x) (h2 : Ev t2 σ H (.int many)) (B : Bn H x cs lo hi tp) (hw : word ≠ "window") (h0 : 0 ≤ many) :
    EvW (tCall spAsk [] E (tCons (tC (.str word)) (tCons t1 (tCons t2 tNil)))) σ H (TupIs [.str "is", .int (spreadI cs lo hi many)]) := fun H1 e Q q =>
  h1 H1 e _ fun H2 e2 => h2 H2 (e.trans e2) _ fun H3 e3 => ⟨word, x, .int many, cs, lo, hi, tp, rfl, B.mono ((e.trans e2).trans e3), .int many, fun ew => absurd ew hw,
    fun ew => ⟨fun m em h0 p H4 e4 hp => by
      cases em
      exact q _ H4 ((e2.trans e3).trans e4) ⟨p, rfl, hp⟩, fun hn => absurd hn (by show ¬ decide (0 ≤ many) = false; rw [decide_eq_true h0]; decide)⟩⟩
/-- ask("window", bench, many): the two ranks -/
def WinIs (a b : Int) : V → Hp → Prop := fun v H => ∃ p t, v = .ref p ∧ H p = some (.tup [.str "is", .ref t]) ∧ H t = some (.tup [.int a, .int b])
theorem ew_ask_win {x : V} {cs : List Ch} {lo hi tp many : Int} {t1 t2 : TE} (h1 : Ev t1 σ H x) (h2 : Ev t2 σ H (.int many)) (B : Bn H x cs lo hi tp) (h0 : 1 ≤ many) :
    EvW (tCall spAsk [] E (tCons (tC (.str "window")) (tCons t1 (tCons t2 tNil)))) σ H (WinIs (wleast (hgt cs) lo hi many) (wgreat (hgt cs) lo hi many)) := fun H1 e Q q =>
  h1 H1 e _ fun H2 e2 => h2 H2 (e.trans e2) _ fun H3 e3 => ⟨"window", x, .int many, cs, lo, hi, tp, rfl, B.mono ((e.trans e2).trans e3), .int many,
    fun _ => ⟨fun m em h0 p t H4 e4 hp ht => by
      cases em
      exact q _ H4 ((e2.trans e3).trans e4) ⟨p, t, rfl, hp, ht⟩, fun hn => absurd hn (by show ¬ decide (1 ≤ many) = false; rw [decide_eq_true h0]; decide)⟩, fun ew => absurd rfl ew⟩
theorem Ex.at_tup {H H' : Hp} {p : Addr} {xs : List V} (e : Ex H H') (h : H p = some (.tup xs)) : H' p = some (.tup xs) := e _ _ h
/-- flat tuples of the same are the same -/
theorem sm_flat {xs : List V} (hz : xs.length ≤ 2000) (hf : ∀ x ∈ xs, ∀ H, Sm H 0 x x) {x y : V} {H1 H2 : Hp} (hx : TupIs xs x H1) (e : Ex H1 H2) (hy : TupIs xs y H2) : Sm H2 1 x y := by
  obtain ⟨p, rfl, hp⟩ := hx
  obtain ⟨q, rfl, hq⟩ := hy
  refine .tup (e _ _ hp) hq rfl hz fun i a b ha hb => ?_
  rw [ha] at hb
  cases hb
  exact hf a (List.mem_of_getElem? ha) _
theorem ev_no {word : Str} {x y : V} {cs : List Ch} {lo hi tp : Int} {t1 t2 : TE} {E' : XK} (h1 : Ev t1 σ H x) (h2 : Ev t2 σ H y) (B : Bn H x cs lo hi tp) (hy : Any H y) (hw : (word = "window" → isP y = false) ∧ (word ≠ "window" → isN y = false)) :
    Ev (tCall (spSame 1) [] E' (tCons (tCall spAsk [] E (tCons (tC (.str word)) (tCons t1 (tCons t2 tNil)))) (tCons (tTup (tCons (tC (.str "no")) (tCons (tC (.str "many")) (tCons (tUn (rU fun i => .int (-i)) (tC (.int 1))) tNil)))) tNil))) σ H (.bl true) :=
  ev_same (ew_ask_no h1 h2 B hy hw) (ew_U (eu_tup (ea_cons ev_c (ea_cons ev_c (ea_cons (ev_un ev_c ru_neg) ea_nil))) (by show 3 ≤ _; decide))) fun x y H1 H2 _ hx e hy =>
    sm_flat (by show 3 ≤ _; decide) (fun v hv H => by
      rcases List.mem_cons.mp hv with rfl | hv
      · exact .str _
      · rcases List.mem_cons.mp hv with rfl | hv
        · exact .str _
        · rcases List.mem_cons.mp hv with rfl | hv
          · exact .int _
          · cases hv) hx e hy
theorem ev_isI {word : Str} {x : V} {cs : List Ch} {lo hi tp many d : Int} {t1 t2 t3 : TE} {E' : XK} (h1 : Ev t1 σ H x) (h2 : Ev t2 σ H (.int many)) (h3 : Ev t3 σ H (.int d)) (B : Bn H x cs lo hi tp) (hw : word ≠ "window") (h0 : 0 ≤ many) (hd : spreadI cs lo hi many = d) :
    Ev (tCall (spSame 1) [] E' (tCons (tCall spAsk [] E (tCons (tC (.str word)) (tCons t1 (tCons t2 tNil)))) (tCons (tTup (tCons (tC (.str "is")) (tCons t3 tNil))) tNil))) σ H (.bl true) := by
  subst hd
  exact ev_same (ew_ask_is h1 h2 B hw h0) (ew_U (eu_tup (ea_cons ev_c (ea_cons h3 ea_nil)) (by show 2 ≤ _; decide))) fun x y H1 H2 _ hx e hy =>
    sm_flat (by show 2 ≤ _; decide) (fun v hv H => by
      rcases List.mem_cons.mp hv with rfl | hv
      · exact .str _
      · rcases List.mem_cons.mp hv with rfl | hv
        · exact .int _
        · cases hv) hx e hy
theorem ev_win {x : V} {cs : List Ch} {lo hi tp many : Int} {t1 t2 t3 : TE} {E' : XK} {q : Addr} (h1 : Ev t1 σ H x) (h2 : Ev t2 σ H (.int many)) (h3 : Ev t3 σ H (.ref q)) (hq : H q = some (.tup [.int (wleast (hgt cs) lo hi many), .int (wgreat (hgt cs) lo hi many)])) (B : Bn H x cs lo hi tp) (h0 : 1 ≤ many) :
    Ev (tCall (spSame 2) [] E' (tCons (tCall spAsk [] E (tCons (tC (.str "window")) (tCons t1 (tCons t2 tNil)))) (tCons (tTup (tCons (tC (.str "is")) (tCons t3 tNil))) tNil))) σ H (.bl true) :=
  ev_same (ew_ask_win h1 h2 B h0) (ew_U (eu_tup (ea_cons ev_c (ea_cons h3 ea_nil)) (by show 2 ≤ _; decide))) fun x y H1 H2 e0 hx e hy => by
    obtain ⟨p, t, rfl, hp, ht⟩ := hx
    obtain ⟨p2, rfl, hp2⟩ := hy
    refine .tup (e _ _ hp) hp2 rfl (by show 2 ≤ _; decide) fun i a b ha hb => ?_
    match i, ha, hb with
    | 0, ha, hb =>
      cases ha; cases hb
      exact .str _
    | 1, ha, hb =>
      cases ha; cases hb
      refine .tup (e _ _ ht) ((e0.trans e) _ _ hq) rfl (by show 2 ≤ _; decide) fun i a b ha hb => ?_
      match i, ha, hb with
      | 0, ha, hb =>
        cases ha; cases hb
        exact .int _
      | 1, ha, hb =>
        cases ha; cases hb
        exact .int _
end
section
variable {K : PySem.W.Frag} {σ : L2.St} {H : Hp} {tl : TE} {g : TG} {tu tz : TS} {D : Ends}
theorem q_forW (Good : List V → Hp → Prop) (h : EvW tl σ H (fun v H' => ∃ p xs, v = .ref p ∧ H' p = some (.lst xs) ∧ Good xs H'))
    (k : ∀ p xs H1, Ex H H1 → H1 p = some (.lst xs) → Good xs H1 → ∃ Pv : Nat → L2.St → Hp → Prop, Pv 0 σ H1 ∧ (∀ i σ' H', i ≤ xs.length → Pv i σ' H' → SqL K H' p xs) ∧
      (∀ i x σ' H', xs[i]? = some x → Pv i σ' H' → g x σ' H' fun σ2 H2 => tu { D with nx := Pv (i + 1), ct := Pv (i + 1), bk := tz D } σ2 H2) ∧ (∀ σ' H', Pv xs.length σ' H' → tz D σ' H')) : tSeq (tFor (iList K tl) g tu) tz D σ H :=
  h H (Ex.refl H) _ fun v H1 e ⟨p, xs, ev, hp, hg⟩ => by
    subst ev
    obtain ⟨Pv, h0, hl, hs, hd⟩ := k p xs H1 e hp hg
    exact ⟨p, rfl, ⟨xs, sq_of hp⟩, for_list (D := { D with nx := tz D }) Pv h0 hl hs hd⟩
end
abbrev s__law_refused_right : Stmt := top 37
abbrev N__law_refused_right : List Str := ["_law_bench", "_law_bad"]
theorem sc__law_refused_right : FnScope N__law_refused_right ["_law_bench"] (defScope s__law_refused_right) := ⟨rfl, rfl, rfl, by decide +kernel, rfl, by decide +kernel, by decide +kernel⟩
def spRefused : Sp := fun vs H Q _ => ∃ (x : V) (cs : List Ch) (lo hi tp : Int), vs = [x] ∧ Bn H x cs lo hi tp ∧ ∀ H', Ex H H' → Q (.bl true) H'
section
variable {P : Program} {w : World} {K : PySem.W.Frag} {mg : Str → Option Value} {base : Heap}
theorem ok_refused {f : Addr} {fd : FuncData} (F : Fun K "_law_refused_right" "_law_refused_right" s__law_refused_right f fd) (T : Txt mg) (D__law_ask : Dn P w K mg base CX0 6 "_law_ask" ["_law_word", "_law_bench", "_law_many"] spAsk)
    (D__law_same : Dn P w K mg base CX0 3 "_law_same" ["_law_heard", "_law_due"] (spSame 1)) : FnOk P w K mg base CX0 7 f fd ["_law_bench"] spRefused := by
  refine F.ok sc__law_refused_right (fun vs H Q E h => ?_) (fun cdv A outer s H vs Q E hr h => ?_)
  · obtain ⟨_, _, _, _, _, rfl, _⟩ := h
    rfl
  · obtain ⟨x, cs, lo, hi, tp, rfl, B, k⟩ := h
    refine ⟨_, (pss_cons (ps_for PassesOwn.never rfl (pi_list (pe_lst (pa_cons (pe_un un_neg pe_int) (pa_cons pe_bl (pa_cons pe_bl (pa_cons pe_non (pa_cons pe_str (pa_cons (pe_tup (pa_cons pe_int pa_nil)) (pa_cons (pe_lst (pa_cons pe_int pa_nil)) (pa_cons (pe_un un_neg (pe_op op_pow pe_int pe_int)) pa_nil)))))))))) (pg_name (i := 1) sc__law_refused_right.nd rfl (Or.inl rfl))
       (pss_cons (ps_if (pt_not (pt_val (pe_call D__law_same.ok (hr.mono (by decide)) (by rfl) D__law_same.g D__law_same.kp D__law_same.b .nil pass0 (pa_cons (pe_call D__law_ask.ok (hr.mono (by decide)) (by rfl) D__law_ask.g D__law_ask.kp D__law_ask.b .nil pass0 (pa_cons pe_str (pa_cons (pv 0) (pa_cons (pv 1) pa_nil)))) (pa_cons (pe_tup (pa_cons pe_str (pa_cons pe_str (pa_cons (pe_un un_neg pe_int) pa_nil)))) pa_nil)))))
         (pss_one (ps_ret pe_bl))
         pss_nil)
      (pss_one (ps_if (pt_not (pt_val (pe_call D__law_same.ok (hr.mono (by decide)) (by rfl) D__law_same.g D__law_same.kp D__law_same.b .nil pass0 (pa_cons (pe_call D__law_ask.ok (hr.mono (by decide)) (by rfl) D__law_ask.g D__law_ask.kp D__law_ask.b .nil pass0 (pa_cons pe_str (pa_cons (pv 0) (pa_cons (pv 1) pa_nil)))) (pa_cons (pe_tup (pa_cons pe_str (pa_cons pe_str (pa_cons (pe_un un_neg pe_int) pa_nil)))) pa_nil)))))
         (pss_one (ps_ret pe_bl))
         pss_nil))))
    (pss_cons (ps_if (pt_not (pt_val (pe_call D__law_same.ok (hr.mono (by decide)) (by rfl) D__law_same.g D__law_same.kp D__law_same.b .nil pass0 (pa_cons (pe_call D__law_ask.ok (hr.mono (by decide)) (by rfl) D__law_ask.g D__law_ask.kp D__law_ask.b .nil pass0 (pa_cons pe_str (pa_cons (pv 0) (pa_cons pe_int pa_nil)))) (pa_cons (pe_tup (pa_cons pe_str (pa_cons pe_str (pa_cons (pe_un un_neg pe_int) pa_nil)))) pa_nil)))))
       (pss_one (ps_ret pe_bl))
       pss_nil)
    (pss_one (ps_ret (pe_call D__law_same.ok (hr.mono (by decide)) (by rfl) D__law_same.g D__law_same.kp D__law_same.b .nil pass0 (pa_cons (pe_call D__law_ask.ok (hr.mono (by decide)) (by rfl) D__law_ask.g D__law_ask.kp D__law_ask.b .nil pass0 (pa_cons pe_str (pa_cons (pv 0) (pa_cons pe_int pa_nil)))) (pa_cons (pe_tup (pa_cons pe_str (pa_cons pe_int pa_nil))) pa_nil))))))), ?_⟩
    refine q_forW (fun bads H' => ∀ y ∈ bads, Any H' y ∧ isP y = false ∧ isN y = false) ?_ ?_
    · intro H0 e0 Q0 q0
      refine ⟨_, rfl, sz_of (by show 1 ≤ _; decide), fun t ht => ⟨sz_of (by show 1 ≤ _; decide), fun l hl => ⟨10, 59, rfl, rfl, ⟨by decide, by decide, by decide⟩, _, rfl, sz_of (by show 8 ≤ _; decide), fun a ha => ?_⟩⟩⟩
      have e1 : Ex H0 (upd H0 t (.tup [.int 1])) := Ex.new ht
      have e2 := e1.trans (Ex.new (o := .lst [.int 1]) hl)
      have ht2 : upd (upd H0 t (.tup [.int 1])) l (.lst [.int 1]) t = some (.tup [.int 1]) := (Ex.new hl) _ _ upd_same
      have hl2 : upd (upd H0 t (.tup [.int 1])) l (.lst [.int 1]) l = some (.lst [.int 1]) := upd_same
      refine q0 _ _ (e2.trans (Ex.new ha)) ⟨a, _, rfl, upd_same, fun y hy => ?_⟩
      have hn := Ex.new (o := HO.lst [.int (-1), .bl true, .bl false, .non, .str "1", .ref t, .ref l, .int (-(10 ^ (59 : Int).toNat))]) ha
      rcases List.mem_cons.mp hy with rfl | hy
      · exact ⟨.int _, rfl, rfl⟩
      rcases List.mem_cons.mp hy with rfl | hy
      · exact ⟨.bl _, rfl, rfl⟩
      rcases List.mem_cons.mp hy with rfl | hy
      · exact ⟨.bl _, rfl, rfl⟩
      rcases List.mem_cons.mp hy with rfl | hy
      · exact ⟨.non, rfl, rfl⟩
      rcases List.mem_cons.mp hy with rfl | hy
      · exact ⟨.str _, rfl, rfl⟩
      rcases List.mem_cons.mp hy with rfl | hy
      · exact ⟨.tup (hn _ _ ht2), rfl, rfl⟩
      rcases List.mem_cons.mp hy with rfl | hy
      · exact ⟨.lst (hn _ _ hl2), rfl, rfl⟩
      rcases List.mem_cons.mp hy with rfl | hy
      · exact ⟨.int _, by decide +kernel, by decide +kernel⟩
      · cases hy
    intro a bads H2 e3 ha hbad
    refine ⟨fun i σ H' => ∃ v, σ = [some x, v] ∧ Ex H2 H', ⟨none, rfl, Ex.refl _⟩, ?_, ?_, ?_⟩
    · rintro i σ H' _ ⟨v, rfl, e⟩
      exact sq_of (e _ _ ha)
    · rintro i y σ H' hi ⟨v, rfl, e⟩
      obtain ⟨h1, h2, h3⟩ := hbad y (List.mem_of_getElem? hi)
      have B' := B.mono (e3.trans e)
      have hy := h1.mono e
      refine q_when (b := false) (et_is (et_not (et_B (ev_no (ev_var rfl) (ev_var rfl) B' hy ⟨fun _ => h2, fun _ => h3⟩))) rfl) (fun z => Bool.noConfusion z) fun _ H4 e4 => ?_
      refine s_when (b := false) (et_is (et_not (et_B (ev_no (ev_var rfl) (ev_var rfl) (B'.mono e4) (hy.mono e4) ⟨fun _ => h2, fun _ => h3⟩))) rfl) (fun z => Bool.noConfusion z) fun _ H5 e5 => ?_
      exact ⟨_, rfl, (e.trans e4).trans e5⟩
    · rintro σ H' ⟨v, rfl, e⟩
      have B' := B.mono (e3.trans e)
      refine q_when (b := false) (et_is (et_not (et_B (ev_no (ev_var rfl) ev_c B' (.int 0) ⟨fun _ => rfl, fun z => absurd rfl z⟩))) rfl) (fun z => Bool.noConfusion z) fun _ H4 e4 => ?_
      refine s_ret (ev_isI (ev_var rfl) ev_c ev_c (B'.mono e4) (by decide) (by decide) (if_pos rfl)) fun H5 e5 => ?_
      exact k H5 (((e3.trans e).trans e4).trans e5)
end
end K04
/-! ## D23 -/
set_option Elab.async false
set_option linter.all false
set_option maxRecDepth 100000
set_option maxHeartbeats 4000000
namespace K04
open PySem L2 Evl
abbrev s__law_numbers_right : Stmt := top 38
abbrev N__law_numbers_right : List Str := ["_law_bench", "_law_layers_here", "_law_low", "_law_high", "_law_numbers", "_law_many", "_law_due", "_law_window_here"]
theorem sc__law_numbers_right : FnScope N__law_numbers_right ["_law_bench", "_law_layers_here", "_law_low", "_law_high", "_law_numbers"] (defScope s__law_numbers_right) := ⟨rfl, rfl, rfl, by decide +kernel, rfl, by decide +kernel, by decide +kernel⟩
def spNumbers : Sp := fun vs H Q _ => ∃ (x : V) (cs : List Ch) (lo hi tp : Int) (a b : Addr) (nums : List Int), vs = [x, .ref a, .int lo, .int hi, .ref b] ∧ Bn H x cs lo hi tp ∧ Lay H a (lay cs) (hgt cs) (nOf cs) ∧ H b = some (.lst (nums.map V.int)) ∧ (∀ n ∈ nums, 0 ≤ n) ∧ ∀ H', Ex H H' → Q (.bl true) H'
section
variable {P : Program} {w : World} {K : PySem.W.Frag} {mg : Str → Option Value} {base : Heap}
theorem ok_numbers {f : Addr} {fd : FuncData} (F : Fun K "_law_numbers_right" "_law_numbers_right" s__law_numbers_right f fd) (T : Txt mg) (D__law_ask : Dn P w K mg base CX0 6 "_law_ask" ["_law_word", "_law_bench", "_law_many"] spAsk)
    (D__law_same : Dn P w K mg base CX0 3 "_law_same" ["_law_heard", "_law_due"] (spSame 1)) (D__law_same2 : Dn P w K mg base CX0 4 "_law_same" ["_law_heard", "_law_due"] (spSame 2))
    (D__law_greatest : Dn P w K mg base CX0 1 "_law_greatest" ["_law_layers_here", "_law_low", "_law_high", "_law_many"] spSpr) (D__law_by_chains : Dn P w K mg base CX0 1 "_law_by_chains" ["_law_layers_here", "_law_low", "_law_high", "_law_many"] spSpr)
    (D__law_window : Dn P w K mg base CX0 1 "_law_window" ["_law_height", "_law_low", "_law_high", "_law_many"] spLawWindow) :
    FnOk P w K mg base CX0 7 f fd ["_law_bench", "_law_layers_here", "_law_low", "_law_high", "_law_numbers"] spNumbers := by
  refine F.ok sc__law_numbers_right (fun vs H Q E h => ?_) (fun cdv A outer s H vs Q E hr h => ?_)
  · obtain ⟨_, _, _, _, _, _, _, _, rfl, _⟩ := h
    rfl
  · obtain ⟨x, cs, lo, hi, tp, a, b, nums, rfl, B, L, hb, hpos, k⟩ := h
    refine ⟨_, (pss_cons (ps_for PassesOwn.never rfl (pi_list (pv 4)) (pg_name (i := 5) sc__law_numbers_right.nd rfl (Or.inl rfl))
       (pss_cons (ps_set (i := 6) sc__law_numbers_right.nd rfl (Or.inl rfl) (pe_call D__law_greatest.ok (hr.mono (by decide)) (by rfl) D__law_greatest.g D__law_greatest.kp D__law_greatest.b .nil pass0 (pa_cons (pv 1) (pa_cons (pv 2) (pa_cons (pv 3) (pa_cons (pv 5) pa_nil))))))
      (pss_cons (ps_if (pt_cmpR op_ne (pv 6) (pe_call D__law_by_chains.ok (hr.mono (by decide)) (by rfl) D__law_by_chains.g D__law_by_chains.kp D__law_by_chains.b .nil pass0 (pa_cons (pv 1) (pa_cons (pv 2) (pa_cons (pv 3) (pa_cons (pv 5) pa_nil))))) (nomark _))
         (pss_one (ps_ret pe_bl))
         pss_nil)
      (pss_cons (ps_if (pt_not (pt_val (pe_call D__law_same.ok (hr.mono (by decide)) (by rfl) D__law_same.g D__law_same.kp D__law_same.b .nil pass0 (pa_cons (pe_call D__law_ask.ok (hr.mono (by decide)) (by rfl) D__law_ask.g D__law_ask.kp D__law_ask.b .nil pass0 (pa_cons pe_str (pa_cons (pv 0) (pa_cons (pv 5) pa_nil)))) (pa_cons (pe_tup (pa_cons pe_str (pa_cons (pv 6) pa_nil))) pa_nil)))))
         (pss_one (ps_ret pe_bl))
         pss_nil)
      (pss_one (ps_if (pt_cmpR op_gt (pv 5) pe_int (nomark _))
         (pss_cons (ps_set (i := 7) sc__law_numbers_right.nd rfl (Or.inl rfl) (pe_call D__law_window.ok (hr.mono (by decide)) (by rfl) D__law_window.g D__law_window.kp D__law_window.b .nil pass0 (pa_cons (pe_op op_sub (pe_callB (cLen K) (by rfl) T.len PySem.boot_len (pa_cons (pv 1) pa_nil)) pe_int) (pa_cons (pv 2) (pa_cons (pv 3) (pa_cons (pv 5) pa_nil))))))
        (pss_cons (ps_if (pt_not (pt_val (pe_call D__law_same2.ok (hr.mono (by decide)) (by rfl) D__law_same2.g D__law_same2.kp D__law_same2.b .nil pass0 (pa_cons (pe_call D__law_ask.ok (hr.mono (by decide)) (by rfl) D__law_ask.g D__law_ask.kp D__law_ask.b .nil pass0 (pa_cons pe_str (pa_cons (pv 0) (pa_cons (pv 5) pa_nil)))) (pa_cons (pe_tup (pa_cons pe_str (pa_cons (pv 7) pa_nil))) pa_nil)))))
           (pss_one (ps_ret pe_bl))
           pss_nil)
        (pss_one (ps_if (pt_cmpR op_ne (pe_callB (cSum K) (by rfl) T.sum (by decide +kernel) (pa_cons (pe_slice (slL K) (pv 1) (po_some (pe_ix (iT K) (pv 7) pe_int (fun _ _ => rfl))) (po_some (pe_op op_add (pe_ix (iT K) (pv 7) pe_int (fun _ _ => rfl)) pe_int))) pa_nil)) (pv 6) (nomark _))
           (pss_one (ps_ret pe_bl))
           pss_nil))))
         pss_nil))))))
    (pss_one (ps_ret pe_bl))), ?_⟩
    have hR := B.r
    refine q_forL (a := b) (xs := nums.map V.int) (ev_var rfl) (sq_of hb) (fun i σ H' => ∃ v5 v6 v7 : Option V, σ = [some x, some (.ref a), some (.int lo), some (.int hi), some (.ref b), v5, v6, v7] ∧ Ex H H') (fun H1 e1 => ⟨none, none, none, rfl, e1⟩) ?_ ?_ ?_
    · rintro i σ H' _ ⟨_, _, _, rfl, e⟩
      exact sq_of (e _ _ hb)
    · rintro i y σ H' hi2 ⟨v5, v6, v7, rfl, e⟩
      obtain ⟨many, hm, rfl⟩ : ∃ m : Int, nums[i]? = some m ∧ V.int m = y := by
        rw [List.getElem?_map] at hi2
        cases hq : nums[i]? with
        | none => rw [hq] at hi2; cases hi2
        | some m => rw [hq] at hi2; exact ⟨m, rfl, Option.some.inj hi2⟩
      have h0 : 0 ≤ many := hpos many (List.mem_of_getElem? hm)
      have B1 := B.mono e
      have L1 := L.mono e
      refine q_asg (v := .int (spr (lay cs) (hgt cs) lo hi many)) (ev_call (ea_cons (ev_var rfl) (ea_cons (ev_var rfl) (ea_cons (ev_var rfl) (ea_cons (ev_var rfl) ea_nil)))) fun H3 e3 Q' q' _ => ⟨a, lay cs, hgt cs, nOf cs, lo, hi, many, rfl, L1.mono e3, hR, h0, q'⟩) fun H2 e2 => ?_
      have La := L1.mono e2
      refine q_when (b := false) (et_is (et_test (ev_op (ev_var rfl) (ev_call (ea_cons (ev_var rfl) (ea_cons (ev_var rfl) (ea_cons (ev_var rfl) (ea_cons (ev_var rfl) ea_nil)))) fun H3 e3 Q' q' _ => ⟨a, lay cs, hgt cs, nOf cs, lo, hi, many, rfl, La.mono e3, hR, h0, q'⟩) rv_neI)) (by simp)) (fun z => Bool.noConfusion z) fun _ H3 e3 => ?_
      have B3 := (B1.mono e2).mono e3
      have L3 := La.mono e3
      refine q_when (b := false) (et_is (et_not (et_B (ev_isI (ev_var rfl) (ev_var rfl) (ev_var rfl) B3 (by decide) h0 rfl))) rfl) (fun z => Bool.noConfusion z) fun _ H4 e4 => ?_
      refine s_when (b := decide (0 < many)) (et_test (ev_op (ev_var rfl) ev_c rv_I0)) (fun c H5 e5 => ?_) (fun _ H5 e5 => ⟨_, _, _, rfl, (((e.trans e2).trans e3).trans e4).trans e5⟩)
      have h1 : 1 ≤ many := of_decide_eq_true c
      have L5 := (L3.mono e4).mono e5
      have B5 := (B3.mono e4).mono e5
      have hn := B.n
      have hg := hgt_bd B.good
      have ws : EvU (tCall spLawWindow [] E0 (tCons (tOp (rI0 fun i j => V.int (i - j)) (tCB (rLenS K) (tCons (tVar 1) tNil)) (tC (V.int 1))) (tCons (tVar 2) (tCons (tVar 3) (tCons (tVar 5) tNil))))) ([some x, some (.ref a), some (.int lo), some (.int hi), some (.ref b), some (.int many), some (.int (spr (lay cs) (hgt cs) lo hi many)), v7] : L2.St) H5 [.int (wleast (hgt cs) lo hi many), .int (wgreat (hgt cs) lo hi many)] := fun H6 e6 Q' q' =>
        ea_cons (ev_is (ev_op (ev_len (ev_var rfl) (ex_l (Ex.refl _) (sq_of L5.at_))) ev_c rv_I0) (w := .int (hgt cs)) (congrArg V.int (by rw [tabV_len]; omega))) (ea_cons (ev_var rfl) (ea_cons (ev_var rfl) (ea_cons (ev_var rfl) ea_nil))) H6 e6 _ fun H7 e7 => ⟨hgt cs, lo, hi, many, rfl, L.h0, hR, h1, fun p H8 e8 hp hp8 => q' p H8 (fresh_back e7 hp) (e7.trans e8) hp8⟩
      refine q_asgU ws fun q H6 hq e6 h6 => ?_
      have B6 := B5.mono e6
      refine q_when (b := false) (et_is (et_not (et_B (ev_win (ev_var rfl) (ev_var rfl) (ev_var rfl) h6 B6 h1))) rfl) (fun z => Bool.noConfusion z) fun _ H7 e7 => ?_
      have L7 := (L5.mono e6).mono e7
      have hw := w_in hR h1
      obtain ⟨r1, r2, r3⟩ := id hR
      have hq7 := e7 _ _ h6
      have hcut : EvL (tSl (rSlL K) (tVar 1) (tPart (tOp (rIxT K) (tVar 7) (tC (.int 0)))) (tPart (tOp (rI0 fun i j => .int (i + j)) (tOp (rIxT K) (tVar 7) (tC (.int 1))) (tC (.int 1))))) ([some x, some (.ref a), some (.int lo), some (.int hi), some (.ref b), some (.int many), some (.int (spr (lay cs) (hgt cs) lo hi many)), some (.ref q)] : L2.St) H7 ((rowI (wleast (hgt cs) lo hi many) (wgreat (hgt cs) lo hi many) (lay cs)).map V.int) := by
        rw [← cut_tab (n := nOf cs) (by omega) (by omega) (by omega)]
        exact el_sl (ev_var rfl) (eo_some (ev_ixT (ev_var rfl) ev_c (st_of hq7) rfl)) (eo_some (ev_op (ev_ixT (ev_var rfl) ev_c (st_of hq7) rfl) ev_c rv_I0)) (sq_of L7.at_)
      have hsum : (rowI (wleast (hgt cs) lo hi many) (wgreat (hgt cs) lo hi many) (lay cs)).sum = spr (lay cs) (hgt cs) lo hi many := by
        rw [rowI_sum]
        unfold spr
        rw [if_neg (by omega)]
      refine s_when (b := false) (et_is (et_test (ev_op (ev_sumN hcut) (ev_var rfl) rv_neI)) (by rw [hsum]; simp)) (fun z => Bool.noConfusion z) fun _ H8 e8 => ?_
      exact ⟨_, _, _, rfl, ((((((e.trans e2).trans e3).trans e4).trans e5).trans e6).trans e7).trans e8⟩
    · rintro σ H' ⟨v5, v6, v7, rfl, e⟩
      exact s_ret ev_c fun H1 e1 => k H1 (e.trans e1)
end
end K04
/-! ## D24 -/
set_option Elab.async false
set_option linter.all false
set_option maxRecDepth 100000
set_option maxHeartbeats 4000000
namespace K04
open PySem L2 Evl
abbrev s_law : Stmt := top 39
abbrev N_law : List Str := ["_law_script", "_law_bag_here", "_law_size", "_law_parts_here", "_law_layers_here", "_law_low", "_law_high", "_law_cut", "_law_top", "_law_bench", "_law_numbers", "_law_part_here"]
theorem sc_law : FnScope N_law ["_law_script"] (defScope s_law) := ⟨rfl, rfl, rfl, by decide +kernel, rfl, by decide +kernel, by decide +kernel⟩
def spLaw (K : PySem.W.Frag) : Sp := fun vs H Q _ => ∃ (a : Addr) (ns : List Int), vs = [.ref a] ∧ SqL K H a (ns.map V.int) ∧ ns.length ≤ 63 ∧ ∀ H', Q (.bl true) H'
structure LawG (G : Hp) (p a : Addr) (xs : List V) (cs : List Ch) (sz : Int) : Prop where
  px : G p = some (.lst xs)
  ps : Parts 20 G xs cs
  few : cs.length ≤ 60
  low : sz < 2 → cs.length ≤ 3 ∧ Parts 12 G xs cs
  L : Lay G a (lay cs) (hgt cs) (nOf cs)
theorem LawG.mono {G G' : Hp} {p a : Addr} {xs : List V} {cs : List Ch} {sz : Int} (e : Ex G G') (h : LawG G p a xs cs sz) : LawG G' p a xs cs sz := ⟨e _ _ h.px, h.ps.mono e, h.few, fun z => ⟨(h.low z).1, (h.low z).2.mono e⟩, h.L.mono e⟩
theorem ew_T {ta : TE} {σ : L2.St} {H : Hp} {xs : List V} (h : EvT' ta σ H xs) : EvW ta σ H (TupIs xs) := fun H1 e Q q => h H1 e Q fun p H2 e2 h2 => q _ H2 e2 ⟨p, rfl, h2⟩
theorem tabV_rev {f : Int → Int} {h : Int} {n : Nat} (u : U f h) (hn : (n : Int) = h + 1) : (tabV n f).reverse = tabV n f := by
  show ((tab n f).map V.int).reverse = _
  rw [← List.map_reverse, tab_rev u n hn]
def cOf (H : Hp) : V → V
  | .ref t => (match H t with
    | some (.tup (c :: _)) => c
    | _ => .non)
  | _ => .non
theorem Parts.firsts {M : Nat} {H : Hp} {xs : List V} {cs : List Ch} (h : Parts M H xs cs) : ∃ ws : List V, ws.length = xs.length ∧ Chts H ws cs ∧ ∀ (i : Nat) (x : V), xs[i]? = some x → ∃ (t r : Addr) (c : V), x = .ref t ∧ ws[i]? = some c ∧ H t = some (.tup [c, .ref r]) := by
  have key : ∀ (i : Nat) (x : V), xs[i]? = some x → ∃ (t r : Addr) (c : V) (q : Ch), x = .ref t ∧ cOf H x = c ∧ H t = some (.tup [c, .ref r]) ∧ cs[i]? = some q ∧ Cht H c q.1 q.2 := fun i x hi => by
    obtain ⟨q, hq, hv⟩ := h.2 i x hi
    obtain ⟨t, r, c, R, rfl, ht, hc, _⟩ := hv.at_
    refine ⟨t, r, c, q, rfl, ?_, ht, hq, hc⟩
    show (match H t with
    | some (.tup (c :: _)) => c
    | _ => .non) = c
    rw [ht]
  refine ⟨xs.map (cOf H), by simp, ⟨by rw [List.length_map, h.1], fun i v hi => ?_⟩, fun i x hi => ?_⟩
  · rw [List.getElem?_map] at hi
    cases hx : xs[i]? with
    | none => rw [hx] at hi; cases hi
    | some x =>
      rw [hx] at hi
      have e := Option.some.inj hi
      obtain ⟨t, r, c, q, _, h2, _, h4, h5⟩ := key i x hx
      rw [h2] at e
      subst e
      exact ⟨q, h4, h5⟩
  · obtain ⟨t, r, c, q, h1, h2, h3, _⟩ := key i x hi
    exact ⟨t, r, c, h1, by rw [List.getElem?_map, hi]; exact congrArg some h2, h3⟩
/-- the slots of law -/
def lslots (a0 b p a : Addr) (sz lo hi cut : Int) (v8 v9 v10 v11 : Option V) : L2.St := [some (.ref a0), some (.ref b), some (.int sz), some (.ref p), some (.ref a), some (.int lo), some (.int hi), some (.int cut), v8, v9, v10, v11]
structure St1 (G H : Hp) (b wd : Addr) (N : Nat) (sz : Int) (p a : Addr) (xs : List V) (cs : List Ch) (lo hi : Int) : Prop where
  bg : BG G H b wd N
  szb : 0 ≤ sz ∧ sz ≤ 3
  lg : LawG G p a xs cs sz
  r : Rng (hgt cs) lo hi
theorem St1.grow {G H H' : Hp} {b wd : Addr} {N : Nat} {sz : Int} {p a : Addr} {xs : List V} {cs : List Ch} {lo hi : Int} (h : St1 G H b wd N sz p a xs cs lo hi) (e : Ex H H') : St1 G H' b wd N sz p a xs cs lo hi := ⟨h.bg.grow e, h.szb, h.lg, h.r⟩
theorem St1.drawn {G H H' : Hp} {b wd : Addr} {N N' : Nat} {sz : Int} {p a : Addr} {xs : List V} {cs : List Ch} {lo hi : Int} (h : St1 G H b wd N sz p a xs cs lo hi) (bg : BG G H' b wd N') : St1 G H' b wd N' sz p a xs cs lo hi := ⟨bg, h.szb, h.lg, h.r⟩
theorem St1.lay {G H : Hp} {b wd : Addr} {N : Nat} {sz : Int} {p a : Addr} {xs : List V} {cs : List Ch} {lo hi : Int} (h : St1 G H b wd N sz p a xs cs lo hi) : Lay H a (lay cs) (hgt cs) (nOf cs) := h.lg.L.mono h.bg.ex
def Mid1 (a0 b wd : Addr) : L2.St → Hp → Prop := fun σ H => ∃ (G : Hp) (sz : Int), σ = [some (.ref a0), some (.ref b), some (.int sz), none, none, none, none, none, none, none, none, none] ∧ BG G H b wd 12 ∧ (0 ≤ sz ∧ sz ≤ 3)
def Mid2 (a0 b wd : Addr) : L2.St → Hp → Prop := fun σ H => ∃ (G : Hp) (p a : Addr) (xs : List V) (cs : List Ch) (sz lo hi cut : Int), σ = lslots a0 b p a sz lo hi cut none none none none ∧ St1 G H b wd 150000 sz p a xs cs lo hi
def Mid3 (a0 b wd : Addr) (N : Nat) : L2.St → Hp → Prop := fun σ H => ∃ (G : Hp) (p a : Addr) (xs : List V) (cs : List Ch) (sz lo hi cut tp : Int), σ = lslots a0 b p a sz lo hi cut (some (.int tp)) none none none ∧ St1 G H b wd N sz p a xs cs lo hi ∧ 1 ≤ tp
def Mid4 (a0 b wd : Addr) : L2.St → Hp → Prop := fun σ H => ∃ (G : Hp) (p a q : Addr) (xs : List V) (cs : List Ch) (sz lo hi cut tp : Int), σ = lslots a0 b p a sz lo hi cut (some (.int tp)) (some (.ref q)) none none ∧ St1 G H b wd 150020 sz p a xs cs lo hi ∧ Bn G (.ref q) cs lo hi tp
def Mid5 (a0 b : Addr) : L2.St → Hp → Prop := fun σ H => ∃ (p a q l : Addr) (cs : List Ch) (sz lo hi cut tp : Int) (nums : List Int), σ = lslots a0 b p a sz lo hi cut (some (.int tp)) (some (.ref q)) (some (.ref l)) none ∧ Lay H a (lay cs) (hgt cs) (nOf cs) ∧ Bn H (.ref q) cs lo hi tp ∧ H l = some (.lst (nums.map V.int)) ∧ (∀ n ∈ nums, 0 ≤ n)
theorem sizes8 {d : Nat} (h : d < 8) : ∃ z : Int, ([V.int 0, .int 1, .int 2, .int 1, .int 3, .int 2, .int 1, .int 1] : List V)[d]? = some (.int z) ∧ 0 ≤ z ∧ z ≤ 3 := by
  match d, h with
  | 0, _ => exact ⟨0, rfl, by decide, by decide⟩
  | 1, _ => exact ⟨1, rfl, by decide, by decide⟩
  | 2, _ => exact ⟨2, rfl, by decide, by decide⟩
  | 3, _ => exact ⟨1, rfl, by decide, by decide⟩
  | 4, _ => exact ⟨3, rfl, by decide, by decide⟩
  | 5, _ => exact ⟨2, rfl, by decide, by decide⟩
  | 6, _ => exact ⟨1, rfl, by decide, by decide⟩
  | 7, _ => exact ⟨1, rfl, by decide, by decide⟩
section
variable {P : Program} {w : World} {K : PySem.W.Frag} {mg : Str → Option Value} {base : Heap}
structure Defs (P : Program) (w : World) (K : PySem.W.Frag) (mg : Str → Option Value) (base : Heap) where
  bag : Dn P w K mg base CX0 1 "_law_bag" ["_law_script"] (spBag K)
  draw : Dn P w K mg base CX0 1 "_law_draw" ["_law_bag_here", "_law_many"] spDraw
  parts : Dn P w K mg base CX0 3 "_law_parts" ["_law_bag_here", "_law_size"] spParts
  layers : Dn P w K mg base CX0 1 "_law_layers" ["_law_parts_here"] spLawLayers
  layers_of : Dn P w K mg base CX0 3 "layers_of" ["bench"] spLayersOf
  how_many : Dn P w K mg base CX0 4 "how_many" ["bench"] spHowMany
  counted : Dn P w K mg base CX0 1 "_law_counted" ["_law_parts_here", "_law_layers_here"] spLawCounted
  numbers : Dn P w K mg base CX0 7 "_law_numbers_right" ["_law_bench", "_law_layers_here", "_law_low", "_law_high", "_law_numbers"] spNumbers
  refused : Dn P w K mg base CX0 7 "_law_refused_right" ["_law_bench"] spRefused
  weight_of : Dn P w K mg base (L2.CX P w) 6 "weight_of" ["bench"] spWeightOf
  greatest : Dn P w K mg base CX0 1 "_law_greatest" ["_law_layers_here", "_law_low", "_law_high", "_law_many"] spSpr
  same0 : Dn P w K mg base CX0 2 "_law_same" ["_law_heard", "_law_due"] (spSame 0)
  same1 : Dn P w K mg base CX0 3 "_law_same" ["_law_heard", "_law_due"] (spSame 1)
  kb : KBn K layers_of.fd ["bench"] 0 ["bench"] (fun us ws => us ++ ws) (fun vs zs => vs ++ zs)
theorem ok_law {f : Addr} {fd : FuncData} (F : Fun K "law" "law" s_law f fd) (T : Txt mg) (D : Defs P w K mg base) : FnOk P w K mg base CX0 8 f fd ["_law_script"] (spLaw K) := by
  refine F.ok sc_law (fun vs H Q E h => ?_) (fun cdv A outer s H vs Q E hr h => ?_)
  · obtain ⟨_, _, rfl, _⟩ := h
    rfl
  · obtain ⟨a, ns, rfl, ha, hns, k⟩ := h
    refine ⟨_, (pss_cons (ps_set (i := 1) sc_law.nd rfl (Or.inl rfl) (pe_call D.bag.ok (hr.mono (by decide)) (by rfl) D.bag.g D.bag.kp D.bag.b .nil pass0 (pa_cons (pv 0) pa_nil)))
    (pss_cons (ps_set (i := 2) sc_law.nd rfl (Or.inl rfl) (pe_ix (iL K) (pe_lst (pa_cons pe_int (pa_cons pe_int (pa_cons pe_int (pa_cons pe_int (pa_cons pe_int (pa_cons pe_int (pa_cons pe_int (pa_cons pe_int pa_nil))))))))) (pe_call D.draw.ok (hr.mono (by decide)) (by rfl) D.draw.g D.draw.kp D.draw.b .nil pass0 (pa_cons (pv 1) (pa_cons pe_int pa_nil))) (fun _ _ => rfl)))
    (Evl.pss_cut (ps_if (PW.pt (pw_and (pt_cmpR op_eq (pv 2) pe_int (nomark _)) (pw_and1 (pt_cmpR op_eq (pe_call D.draw.ok (hr.mono (by decide)) (by rfl) D.draw.g D.draw.kp D.draw.b .nil pass0 (pa_cons (pv 1) (pa_cons pe_int pa_nil))) pe_int (nomark _)))))
       (pss_one (ps_set (i := 2) sc_law.nd rfl (Or.inl rfl) pe_int))
       pss_nil)
    (pss_cons (ps_set (i := 3) sc_law.nd rfl (Or.inl rfl) (pe_call D.parts.ok (hr.mono (by decide)) (by rfl) D.parts.g D.parts.kp D.parts.b .nil pass0 (pa_cons (pv 1) (pa_cons (pv 2) pa_nil))))
    (pss_cons (ps_set (i := 4) sc_law.nd rfl (Or.inl rfl) (pe_call D.layers.ok (hr.mono (by decide)) (by rfl) D.layers.g D.layers.kp D.layers.b .nil pass0 (pa_cons (pv 3) pa_nil)))
    (pss_cons (ps_set (i := 5) sc_law.nd rfl (Or.inl rfl) pe_int)
    (pss_cons (ps_set (i := 6) sc_law.nd rfl (Or.inl rfl) (pe_op op_sub (pe_callB (cLen K) (by rfl) T.len PySem.boot_len (pa_cons (pv 4) pa_nil)) pe_int))
    (pss_cons (ps_set (i := 7) sc_law.nd rfl (Or.inl rfl) (pe_call D.draw.ok (hr.mono (by decide)) (by rfl) D.draw.g D.draw.kp D.draw.b .nil pass0 (pa_cons (pv 1) (pa_cons pe_int pa_nil))))
    (Evl.pss_cut (ps_if (pt_cmpR op_lt (pv 7) pe_int (nomark _))
       (pss_cons (ps_set (i := 5) sc_law.nd rfl (Or.inl rfl) (pe_call D.draw.ok (hr.mono (by decide)) (by rfl) D.draw.g D.draw.kp D.draw.b .nil pass0 (pa_cons (pv 1) (pa_cons (pe_callB (cLen K) (by rfl) T.len PySem.boot_len (pa_cons (pv 4) pa_nil)) pa_nil))))
      (pss_one (ps_set (i := 6) sc_law.nd rfl (Or.inl rfl) (pe_op op_add (pv 5) (pe_call D.draw.ok (hr.mono (by decide)) (by rfl) D.draw.g D.draw.kp D.draw.b .nil pass0 (pa_cons (pv 1) (pa_cons (pe_op op_sub (pe_callB (cLen K) (by rfl) T.len PySem.boot_len (pa_cons (pv 4) pa_nil)) (pv 5)) pa_nil)))))))
       pss_nil)
    (Evl.pss_cut (ps_if (pt_cmpR op_eq (pv 7) pe_int (nomark _))
       (pss_one (ps_set (i := 6) sc_law.nd rfl (Or.inl rfl) (pv 5)))
       pss_nil)
    (Evl.pss_cut (ps_set (i := 8) sc_law.nd rfl (Or.inl rfl) (pe_ifExp (pt_cmpR op_eq (pe_call D.draw.ok (hr.mono (by decide)) (by rfl) D.draw.g D.draw.kp D.draw.b .nil pass0 (pa_cons (pv 1) (pa_cons pe_int pa_nil))) pe_int (nomark _)) (pe_op op_add pe_int (pe_call D.draw.ok (hr.mono (by decide)) (by rfl) D.draw.g D.draw.kp D.draw.b .nil pass0 (pa_cons (pv 1) (pa_cons pe_int pa_nil)))) (pe_op op_add pe_int (pe_call D.draw.ok (hr.mono (by decide)) (by rfl) D.draw.g D.draw.kp D.draw.b .nil pass0 (pa_cons (pv 1) (pa_cons pe_int pa_nil))))))
    (Evl.pss_cut (ps_if (pt_cmpR op_eq (pe_call D.draw.ok (hr.mono (by decide)) (by rfl) D.draw.g D.draw.kp D.draw.b .nil pass0 (pa_cons (pv 1) (pa_cons pe_int pa_nil))) pe_int (nomark _))
       (pss_one (ps_set (i := 8) sc_law.nd rfl (Or.inl rfl) (pe_op op_add (pe_op op_mulW (pe_op op_pow pe_int pe_int) (pe_ifExp (pt_cmpR op_eq (pe_call D.draw.ok (hr.mono (by decide)) (by rfl) D.draw.g D.draw.kp D.draw.b .nil pass0 (pa_cons (pv 1) (pa_cons pe_int pa_nil))) pe_int (nomark _)) (pe_op op_pow pe_int pe_int) pe_int)) pe_int)))
       pss_nil)
    (Evl.pss_cut (ps_set (i := 9) sc_law.nd rfl (Or.inl rfl) (pe_tup (pa_cons (pe_callTy (cTup K) (by rfl) T.tuple (by decide +kernel) (pa_cons (pe_lc (own := [("_law_part_here", 11)]) (g := (gName 11)) (tt := tYes) rfl sc_law.nd (pi_list (pv 3)) (blkOk_by (own := [("_law_part_here", 11)]) (N := N_law) (sc := defScope s_law) (by decide +kernel)) (fun _ _ _ _ _ => pg_name (i := 11) sc_law.nd rfl (Or.inl rfl)) (fun _ _ _ _ _ => pts_nil) (fun _ _ _ _ _ => (pe_ix (iT K) (pv 11) pe_int (fun _ _ => rfl)))) pa_nil)) (pa_cons (pv 5) (pa_cons (pv 6) (pa_cons (pv 8) pa_nil))))))
    (pss_cons (ps_if (PW.pt (pw_or (pt_not (pt_val (pe_call D.same1.ok (hr.mono (by decide)) (by rfl) D.same1.g D.same1.kp D.same1.b .nil pass0 (pa_cons (pe_call D.layers_of.ok (hr.mono (by decide)) (by rfl) D.layers_of.g D.layers_of.kp D.layers_of.b .nil pass0 (pa_cons (pv 9) pa_nil)) (pa_cons (pe_callTy (cTup K) (by rfl) T.tuple (by decide +kernel) (pa_cons (pv 4) pa_nil)) pa_nil))))) (pw_or1 (pt_cmpR (op_neD hr.units) (pv 4) (pe_revL (pv 4)) (nomark _)))))
       (pss_one (ps_ret pe_bl))
       pss_nil)
    (pss_cons (ps_if (pt_not (pt_val (pe_call D.same0.ok (hr.mono (by decide)) (by rfl) D.same0.g D.same0.kp D.same0.b .nil pass0 (pa_cons (pe_call D.how_many.ok (hr.mono (by decide)) (by rfl) D.how_many.g D.how_many.kp D.how_many.b .nil pass0 (pa_cons (pv 9) pa_nil)) (pa_cons (pe_callB (cSum K) (by rfl) T.sum (by decide +kernel) (pa_cons (pe_slice (slL K) (pv 4) (po_some (pv 5)) (po_some (pe_op op_add (pv 6) pe_int))) pa_nil)) pa_nil)))))
       (pss_one (ps_ret pe_bl))
       pss_nil)
    (pss_cons (ps_if (PW.pt (pw_and (pt_cmpR op_lt (pv 2) pe_int (nomark _)) (pw_and1 (pt_not (pt_val (pe_call D.counted.ok (hr.mono (by decide)) (by rfl) D.counted.g D.counted.kp D.counted.b .nil pass0 (pa_cons (pv 3) (pa_cons (pv 4) pa_nil))))))))
       (pss_one (ps_ret pe_bl))
       pss_nil)
    (pss_cons (ps_set (i := 10) sc_law.nd rfl (Or.inl rfl) (pe_lst (pa_cons pe_int (pa_cons (pe_op op_mul pe_int (pv 8)) (pa_cons (pe_op op_add pe_int (pe_call D.draw.ok (hr.mono (by decide)) (by rfl) D.draw.g D.draw.kp D.draw.b .nil pass0 (pa_cons (pv 1) (pa_cons (pe_op op_add (pe_callB (cLen K) (by rfl) T.len PySem.boot_len (pa_cons (pv 4) pa_nil)) pe_int) pa_nil)))) (pa_cons (pe_op op_add (pe_op op_sub (pv 6) (pv 5)) pe_int) (pa_cons (pe_op op_add (pe_op op_mulW (pe_op op_pow pe_int pe_int) (pe_op op_pow pe_int pe_int)) (pe_call D.draw.ok (hr.mono (by decide)) (by rfl) D.draw.g D.draw.kp D.draw.b .nil pass0 (pa_cons (pv 1) (pa_cons pe_int pa_nil)))) pa_nil)))))))
    (Evl.pss_cut (ps_if (pt_cmpR op_lt (pv 2) pe_int (nomark _))
       (pss_one (ps_set (i := 10) sc_law.nd rfl (Or.inl rfl) (pe_op op_cat (pv 10) (pe_listRg rfl (by rfl) T.list (prg_1 (by rfl) T.range (pe_callB cMin2 (by rfl) T.min (by decide +kernel) (pa_cons pe_int (pa_cons (pe_op op_add (pe_op op_sub (pv 6) (pv 5)) pe_int) pa_nil))))))))
       pss_nil)
    (pss_cons (ps_if (PW.pt (pw_or (pt_not (pt_val (pe_call D.numbers.ok hr (by rfl) D.numbers.g D.numbers.kp D.numbers.b .nil pass0 (pa_cons (pv 9) (pa_cons (pv 4) (pa_cons (pv 5) (pa_cons (pv 6) (pa_cons (pv 10) pa_nil)))))))) (pw_or1 (pt_not (pt_val (pe_call D.refused.ok hr (by rfl) D.refused.g D.refused.kp D.refused.b .nil pass0 (pa_cons (pv 9) pa_nil)))))))
       (pss_one (ps_ret pe_bl))
       pss_nil)
    (pss_cons (ps_if (pt_not (pt_val (pe_call D.same1.ok (hr.mono (by decide)) (by rfl) D.same1.g D.same1.kp D.same1.b .nil pass0 (pa_cons (pe_callKw0 D.layers_of.ok (hr.mono (by decide)) (by rfl) D.layers_of.g D.layers_of.kp D.kb pass0 (pk_cons (pv 9) pk_nil)) (pa_cons (pe_callTy (cTup K) (by rfl) T.tuple (by decide +kernel) (pa_cons (pv 4) pa_nil)) pa_nil)))))
       (pss_one (ps_ret pe_bl))
       pss_nil)
    (pss_one (ps_ret (pe_call D.same0.ok (hr.mono (by decide)) (by rfl) D.same0.g D.same0.kp D.same0.b .nil pass0 (pa_cons (pe_callS D.weight_of.ok (hr.mono (by decide)) (by rfl) D.weight_of.g D.weight_of.kp D.weight_of.b (fun σ => passAt takes0 σ) (pa_cons (pv 9) pa_nil)) (pa_cons (pe_call D.greatest.ok (hr.mono (by decide)) (by rfl) D.greatest.g D.greatest.kp D.greatest.b .nil pass0 (pa_cons (pv 4) (pa_cons (pv 5) (pa_cons (pv 6) (pa_cons (pe_op op_mul pe_int (pv 8)) pa_nil))))) pa_nil))))))))))))))))))))))))), ?_⟩
    refine ⟨_, rfl, a, ns, rfl, ha, hns, fun b wd H1 bg => ?_⟩
    refine ⟨sz_of (by show 8 ≤ _; decide), fun t ht => ?_⟩
    obtain ⟨htb, htw⟩ := bg.fresh ht
    refine ⟨_, rfl, _, b, wd, 10, 8, rfl, bg.both htb htw, by decide, by decide, fun d H2 hd0 hd1 bg2 => ?_⟩
    obtain ⟨j, rfl⟩ : ∃ j : Nat, d = (j : Int) := ⟨d.toNat, by omega⟩
    obtain ⟨sz, hz, hsz⟩ := sizes8 (d := j) (by omega)
    refine ⟨t, _, (j : Int), .int sz, rfl, rfl, sq_of (bg2.ex _ _ upd_same), atI_nat hz, ?_⟩
    clear hz
    -- if size == 0 and draw(bag, 2) == 0: size = 2
    refine Evl.q_cut (M := Mid1 a b wd) ?_ ?_
    · refine ⟨_, rfl, rfl, _, rfl, ?_⟩
      refine ite2 (fun c => ?_) (fun c => ?_)
      · refine ⟨_, rfl, _, b, wd, _, 2, rfl, bg2, by decide, by decide, fun d H3 _ _ bg3 => ⟨rfl, _, rfl, ?_⟩⟩
        refine ite2 (fun _ => ?_) (fun _ => ?_)
        · exact ⟨_, 2, rfl, bg3, by decide⟩
        · exact ⟨_, sz, rfl, bg3, hsz⟩
      · exact iteF ⟨_, sz, rfl, bg2.mono (by decide), hsz⟩
    rintro σ H3 ⟨G, sz, rfl, bg3, hsz⟩
    refine ⟨_, rfl, _, rfl, G, b, wd, 12, sz, rfl, bg3, by decide, hsz, fun p xs cs G1 H4 eG bg4 hx hps hfew hlow => ?_⟩
    refine ⟨_, rfl, p, 20, xs, cs, rfl, bg4.ex _ _ hx, hps.mono bg4.ex, by decide, hfew, fun y H5 e5 hy h5 => ?_⟩
    obtain ⟨hyb, hyw⟩ := bg4.fresh hy
    have hyG : G1 y = none := fresh_back bg4.ex hy
    have good := hps.good
    have hb := hgt_bd good
    have hn : (nOf cs : Int) = hgt cs + 1 := by unfold nOf; omega
    have bg5 : BG (upd G1 y (.lst (tabV (nOf cs) (lay cs)))) H5 b wd (12 + 100000) := (bg4.grow e5).hold hyb hyw h5
    have lg : LawG (upd G1 y (.lst (tabV (nOf cs) (lay cs)))) p y xs cs sz :=
      ⟨(Ex.new hyG) _ _ hx, hps.mono (Ex.new hyG), hfew, fun z => ⟨(hlow z).1, (hlow z).2.mono (Ex.new hyG)⟩, upd_same, hn, ⟨hb.1, by omega⟩, lay_U good⟩
    have s5 : St1 (upd G1 y (.lst (tabV (nOf cs) (lay cs)))) H5 b wd (12 + 100000) sz p y xs cs 0 (hgt cs) := ⟨bg5, hsz, lg, ⟨by omega, by omega, by omega⟩⟩
    generalize upd G1 y (.lst (tabV (nOf cs) (lay cs))) = G2 at s5
    clear lg bg5 hyG hyb hyw bg4 hx hps
    dsimp only [gName]
    refine q_asg ev_c fun H6 e6 => ?_
    refine q_asg (v := .int (hgt cs)) (ev_is (ev_op (ev_len (ev_var rfl) (sq_of (s5.grow e6).lay.at_)) ev_c rv_I0) (congrArg V.int (by rw [tabV_len]; omega))) fun H7 e7 => ?_
    have s7 := (s5.grow e6).grow e7
    refine ⟨_, rfl, _, b, wd, _, 8, rfl, s7.bg, by decide, by decide, fun cut H8 hc0 hc1 bg8 => ?_⟩
    have s8 := s7.drawn bg8
    refine Evl.q_cut (M := Mid2 a b wd) ?_ ?_
    · refine ⟨_, rfl, _, _, rfl, rfl, _, rfl, ?_⟩
      have hL := s8.lay
      have hnn := hL.n
      have hhh := hL.h0
      refine ite2 (fun _ => ?_) (fun _ => ?_)
      · refine ⟨_, rfl, _, rfl, y, _, rfl, .inl (sq_of hL.at_), _, b, wd, _, _, rfl, s8.bg, by decide, by rw [tabV_len]; omega, fun lo H9 hl0 hl1 bg9 => ?_⟩
        rw [tabV_len] at hl1
        have s9 := s8.drawn bg9
        refine ⟨_, rfl, _, rfl, _, rfl, y, _, rfl, .inl (sq_of s9.lay.at_), _, rfl, _, _, rfl, rfl, _, b, wd, _, _, rfl, s9.bg, by decide, by rw [tabV_len]; omega, fun d H10 hd0 hd1 bg10 => ⟨lo, d, rfl, rfl, ?_⟩⟩
        rw [tabV_len] at hd1
        have s10 := s9.drawn bg10
        exact ⟨_, p, y, xs, cs, sz, lo, lo + d, cut, rfl, s10.bg.mono (by decide), s10.szb, s10.lg, ⟨by omega, by omega, by omega⟩⟩
      · exact ⟨_, p, y, xs, cs, sz, 0, hgt cs, cut, rfl, s8.bg.mono (by decide), s8.szb, s8.lg, s8.r⟩
    rintro σ H9 ⟨G, p, y, xs, cs, sz, lo, hi, cut, rfl, s9⟩
    -- if cut == 3: high = low
    refine Evl.q_cut (M := Mid2 a b wd) ?_ ?_
    · refine ⟨_, rfl, rfl, _, rfl, ?_⟩
      refine ite2 (fun _ => ?_) (fun _ => ?_)
      · exact ⟨_, rfl, _, p, y, xs, cs, sz, lo, lo, cut, rfl, s9.bg, s9.szb, s9.lg, ⟨s9.r.1, Int.le_refl _, Int.le_trans s9.r.2 s9.r.3⟩⟩
      · exact ⟨_, p, y, xs, cs, sz, lo, hi, cut, rfl, s9⟩
    clear s9
    rintro σ H9 ⟨G, p, y, xs, cs, sz, lo, hi, cut, rfl, s9⟩
    -- top
    refine Evl.q_cut (M := Mid3 a b wd 150010) ?_ ?_
    · refine ⟨_, rfl, _, b, wd, _, 2, rfl, s9.bg, by decide, by decide, fun d H10 _ _ bg10 => ⟨rfl, _, rfl, ?_⟩⟩
      refine ite2 (fun _ => ?_) (fun _ => ?_)
      · refine ⟨_, rfl, _, b, wd, _, 9, rfl, bg10, by decide, by decide, fun d H11 h0 h1 bg11 => ⟨1, d, rfl, rfl, ?_⟩⟩
        exact ⟨_, p, y, xs, cs, sz, lo, hi, cut, 1 + d, rfl, s9.drawn (bg11.mono (by decide)), by omega⟩
      · refine ⟨_, rfl, _, b, wd, _, 2, rfl, bg10, by decide, by decide, fun d H11 h0 h1 bg11 => ⟨1, d, rfl, rfl, ?_⟩⟩
        exact ⟨_, p, y, xs, cs, sz, lo, hi, cut, 1 + d, rfl, s9.drawn (bg11.mono (by decide)), by omega⟩
    clear s9
    rintro σ H9 ⟨G, p, y, xs, cs, sz, lo, hi, cut, tp, rfl, s9, htp⟩
    refine Evl.q_cut (M := Mid3 a b wd 150020) ?_ ?_
    · refine ⟨_, rfl, _, b, wd, _, 8, rfl, s9.bg, by decide, by decide, fun d H10 _ _ bg10 => ⟨rfl, _, rfl, ?_⟩⟩
      refine ite2 (fun _ => ?_) (fun _ => ?_)
      · refine ⟨10, 49, rfl, rfl, ⟨by decide, by decide, by decide⟩, _, rfl, _, b, wd, _, 2, rfl, bg10, by decide, by decide, fun d H11 h0 h1 bg11 => ⟨rfl, _, rfl, ?_⟩⟩
        refine ite2 (fun _ => ?_) (fun _ => ?_)
        · refine ⟨10, 60, rfl, rfl, ⟨by decide, by decide, by decide⟩, _, _, rfl, rfl, by unfold CMulW; decide +kernel, _, _, rfl, rfl, ?_⟩
          exact ⟨_, p, y, xs, cs, sz, lo, hi, cut, _, rfl, s9.drawn (bg11.mono (by decide)), by decide +kernel⟩
        · refine ⟨_, _, rfl, rfl, by unfold CMulW; decide +kernel, _, _, rfl, rfl, ?_⟩
          exact ⟨_, p, y, xs, cs, sz, lo, hi, cut, _, rfl, s9.drawn (bg11.mono (by decide)), by decide +kernel⟩
      · exact ⟨_, p, y, xs, cs, sz, lo, hi, cut, tp, rfl, s9.drawn (bg10.mono (by decide)), htp⟩
    clear s9 htp
    rintro σ H9 ⟨G, p, y, xs, cs, sz, lo, hi, cut, tp, rfl, s9, htp⟩
    -- the bench
    refine Evl.q_cut (M := Mid4 a b wd) ?_ ?_
    · obtain ⟨ws, hwl, hch, hws⟩ := s9.lg.ps.firsts
      have hxl : xs.length ≤ 60 := by rw [s9.lg.ps.1]; exact s9.lg.few
      refine eu_tupleN (xs := ws) (el_lcLa (ev_var rfl) (sq_of (s9.bg.ex _ _ s9.lg.px)) (by omega) hwl (fun x => rfl) fun i x H1 e1 hi => ?_) H9 (Ex.refl H9) _ fun c H10 hc e10 h10 => ?_
      · obtain ⟨t, r, c, rfl, hwi, ht⟩ := hws i x hi
        exact ⟨c, hwi, ev_ixT (ev_var rfl) ev_c (st_of (e1 _ _ (s9.bg.ex _ _ ht))) rfl⟩
      · refine ⟨_, rfl, _, rfl, _, rfl, sz_of (by show 4 ≤ _; decide), fun q hq => ?_⟩
        obtain ⟨hcb, hcw⟩ := s9.bg.fresh hc
        have hcG : G c = none := fresh_back s9.bg.ex hc
        have bg10 := (s9.bg.grow e10).hold hcb hcw h10
        obtain ⟨hqb, hqw⟩ := bg10.fresh hq
        have hqG : upd G c (.tup ws) q = none := fresh_back bg10.ex hq
        have hcq : c ≠ q := ne_of_none h10 hq
        have eG : Ex G (upd (upd G c (.tup ws)) q (.tup [.ref c, .int lo, .int hi, .int tp])) := (Ex.new hcG).trans (Ex.new hqG)
        refine ⟨_, p, y, q, xs, cs, sz, lo, hi, cut, tp, rfl, ⟨bg10.both hqb hqw, s9.szb, s9.lg.mono eG, s9.r⟩, ⟨⟨⟨q, c, ws, rfl, upd_same, by rw [upd_ne hcq]; exact upd_same, hch.mono eG⟩, s9.lg.few⟩, s9.r, htp⟩⟩
    clear s9 htp
    rintro σ H9 ⟨G, p, y, q, xs, cs, sz, lo, hi, cut, tp, rfl, s9, hB⟩
    have B := hB.mono s9.bg.ex
    have Ly := s9.lay
    have hnn := Ly.n
    have hhh := Ly.h0
    have hr3 := s9.r
    -- layers_of, layers turned round
    have sm1 : ∀ x z H1 H2, Ex H9 H1 → TupIs (tabV (nOf cs) (lay cs)) x H1 → Ex H1 H2 → TupIs (tabV (nOf cs) (lay cs)) z H2 → Sm H2 1 x z := fun x z H1 H2 _ hx e hz =>
      sm_flat (by rw [tabV_len]; omega) (fun v hv H => by
        obtain ⟨i, _, rfl⟩ := List.mem_map.mp hv
        exact .int _) hx e hz
    refine q_when (b := false) ?_ (fun z => Bool.noConfusion z) fun _ H10 e10 => ?_
    · refine et_is (et_or (et_not (et_B (ev_same (ew_T (et_layers (K := K) (ev_var rfl) B.b)) (ew_U (eu_tupleL (ev_var rfl) (sq_of Ly.at_))) sm1))) fun _ => et_test (b := false) (fun H1 e1 Q' q' => ?_)) rfl
      refine ⟨_, rfl, _, rfl, y, _, rfl, sq_of (e1 _ _ Ly.at_), fun l hl => ?_⟩
      rw [tabV_rev Ly.u hnn]
      have hyl : y ≠ l := ne_of_none (e1 _ _ Ly.at_) hl
      exact rNeD_same (ns := tab (nOf cs) (lay cs)) (sq_of (by rw [upd_ne hyl]; exact e1 _ _ Ly.at_)) (sq_of upd_same) (q' _ (Ex.new hl))
    have s10 := s9.grow e10
    have B10 := B.mono e10
    have Ly10 := s10.lay
    -- how_many
    refine q_when (b := false) ?_ (fun z => Bool.noConfusion z) fun _ H11 e11 => ?_
    · have hcut : EvL (tSl (rSlL K) (tVar 4) (tPart (tVar 5)) (tPart (tOp (rI0 fun i j => .int (i + j)) (tVar 6) (tC (.int 1))))) (lslots a b p y sz lo hi cut (some (V.int tp)) (some (V.ref q)) none none) H10 ((rowI lo hi (lay cs)).map V.int) := by
        rw [← cut_tab (n := nOf cs) (by have := hr3.1; omega) (by have := hr3.2; omega) (by have := hr3.3; omega)]
        exact el_sl (ev_var rfl) (eo_some (ev_var rfl)) (eo_some (ev_op (ev_var rfl) ev_c rv_I0)) (sq_of Ly10.at_)
      refine et_is (et_not (et_B (ev_same (ew_V (ev_call (z := .int (sumI lo hi (lay cs))) (ea_cons (ev_var rfl) ea_nil) fun H1 e1 Q' q' _ => ⟨_, cs, lo, hi, tp, rfl, B10.mono e1, fun H2 e2 => q' H2 e2⟩)) (ew_V (ev_sumN hcut)) fun x z H1 H2 _ hx _ hz => ?_))) rfl
      rw [hx, hz, rowI_sum]
      exact .int _
    have s11 := s10.grow e11
    -- counted
    refine q_when (b := false) ?_ (fun z => Bool.noConfusion z) fun _ H12 e12 => ?_
    · refine et_is (et_and (et_test (ev_op (ev_var rfl) ev_c rv_I0)) (b := false) fun c => et_is (et_not (et_B (ev_call (z := .bl true) (ea_cons (ev_var rfl) (ea_cons (ev_var rfl) ea_nil)) fun H1 e1 Q' q' _ => ?_))) rfl) (by simp)
      obtain ⟨h1, h2⟩ := s11.lg.low (of_decide_eq_true c)
      exact ⟨p, y, xs, cs, rfl, e1 _ _ (s11.bg.ex _ _ s11.lg.px), h2.mono (s11.bg.ex.trans e1), h1, e1 _ _ s11.lay.at_, fun H2 e2 => q' H2 e2⟩
    have s12 := s11.grow e12
    clear s9 s10 s11 B B10 Ly Ly10 e10 e11 e12
    -- numbers
    have Ly := s12.lay
    have hnn := Ly.n
    have hhh := Ly.h0
    refine ⟨_, rfl, 2, tp, rfl, rfl, .inl ⟨by decide, by decide⟩, ?_⟩
    refine ⟨_, rfl, _, rfl, y, _, rfl, .inl (sq_of Ly.at_), _, _, rfl, rfl, _, b, wd, _, _, rfl, s12.bg, by decide, by rw [tabV_len]; omega, fun d1 H13 hd10 hd11 bg13 => ⟨1, d1, rfl, rfl, ?_⟩⟩
    refine ⟨_, rfl, _, rfl, hi, lo, rfl, rfl, _, _, rfl, rfl, 10, 60, rfl, rfl, ⟨by decide, by decide, by decide⟩, 10, 49, rfl, rfl, ⟨by decide, by decide, by decide⟩, _, _, rfl, rfl, by unfold CMulW; decide +kernel, ?_⟩
    refine ⟨_, rfl, _, b, wd, _, 7, rfl, bg13, by decide, by decide, fun d2 H14 hd20 hd21 bg14 => ⟨_, d2, rfl, rfl, sz_of (by show 5 ≤ _; decide), fun l hl => ?_⟩⟩
    obtain ⟨g, hg⟩ : ∃ g : Int, g = 10 ^ (60 : Int).toNat * 10 ^ (49 : Int).toNat := ⟨_, rfl⟩
    have hg0 : 0 ≤ g := by rw [hg]; decide +kernel
    dsimp only [gName, tNil]
    rw [← hg]
    have e14 : Ex G (upd H14 l (.lst [V.int 1, V.int (2 * tp), V.int (1 + d1), V.int (hi - lo + 1), V.int (g + d2)])) := bg14.ex.trans (Ex.new hl)
    have hl14 : upd H14 l (.lst [V.int 1, V.int (2 * tp), V.int (1 + d1), V.int (hi - lo + 1), V.int (g + d2)]) l = some (.lst (([1, 2 * tp, 1 + d1, hi - lo + 1, g + d2] : List Int).map V.int)) := upd_same
    have hpos : ∀ n ∈ ([1, 2 * tp, 1 + d1, hi - lo + 1, g + d2] : List Int), 0 ≤ n := by
      have := hr3.2
      have htp := hB.t
      intro n hn
      rcases List.mem_cons.mp hn with rfl | hn
      · omega
      rcases List.mem_cons.mp hn with rfl | hn
      · omega
      rcases List.mem_cons.mp hn with rfl | hn
      · omega
      rcases List.mem_cons.mp hn with rfl | hn
      · omega
      rcases List.mem_cons.mp hn with rfl | hn
      · omega
      · cases hn
    have hlen : ([1, 2 * tp, 1 + d1, hi - lo + 1, g + d2] : List Int).length = 5 := rfl
    have hB14 := hB.mono e14
    have hL14 := s12.lg.L.mono e14
    generalize upd H14 l (.lst [V.int 1, V.int (2 * tp), V.int (1 + d1), V.int (hi - lo + 1), V.int (g + d2)]) = H15 at hl14 hB14 hL14
    generalize ([1, 2 * tp, 1 + d1, hi - lo + 1, g + d2] : List Int) = nums at hl14 hpos hlen
    refine Evl.q_cut (M := Mid5 a b) ?_ ?_
    · refine ⟨_, rfl, _, _, rfl, rfl, _, rfl, ?_⟩
      refine ite2 (fun _ => ?_) (fun _ => ?_)
      · refine ⟨_, rfl, ?_⟩
        have := hr3.2
        obtain ⟨m, hm⟩ : ∃ m : Nat, min 12 (hi - lo + 3) = (m : Int) := ⟨(min 12 (hi - lo + 3)).toNat, by omega⟩
        refine (ev_is (ev_min2 ev_c (ev_op (ev_op (ev_var rfl) (ev_var rfl) rv_I0) ev_c rv_I0)) (congrArg V.int hm)) H15 (Ex.refl H15) _ fun H16 e16 => ⟨m, rfl, RgOk.of_le (by decide) (by omega) (by decide) (by omega), fun r hr' => ?_⟩
        have e17 := e16.trans (Ex.new (o := .lst (rgV 0 (m : Int))) hr')
        have hl17 := e17 _ _ hl14
        have hrl : (rgV 0 (m : Int)).length = m := by rw [rgV_length]; simp
        refine ⟨l, r, nums.map V.int, rgV 0 (m : Int), rfl, rfl, hl17, upd_same, sz_of (by rw [List.length_map, hlen, hrl]; omega), fun l2 hl2 => ?_⟩
        have e18 := e17.trans (Ex.new (o := .lst (nums.map V.int ++ rgV 0 (m : Int))) hl2)
        refine ⟨p, y, q, l2, cs, sz, lo, hi, cut, tp, nums ++ (List.range m).map fun (i : Nat) => (i : Int), rfl, hL14.mono e18, hB14.mono e18, ?_, ?_⟩
        · rw [List.map_append, ← rgV_nat]
          exact upd_same
        · intro n hn
          rcases List.mem_append.mp hn with hn | hn
          · exact hpos n hn
          · obtain ⟨i, _, rfl⟩ := List.mem_map.mp hn
            omega
      · exact ⟨p, y, q, l, cs, sz, lo, hi, cut, tp, nums, rfl, hL14, hB14, hl14, hpos⟩
    clear s12 hB hB14 hL14 hl14 hpos Ly
    rintro σ H9 ⟨p, y, q, l, cs, sz, lo, hi, cut, tp, nums, rfl, Ly, B, hl, hpos⟩
    have sm1 : ∀ x z H1 H2, Ex H9 H1 → TupIs (tabV (nOf cs) (lay cs)) x H1 → Ex H1 H2 → TupIs (tabV (nOf cs) (lay cs)) z H2 → Sm H2 1 x z := fun x z H1 H2 _ hx e hz =>
      sm_flat (by have := Ly.n; have := Ly.h0; rw [tabV_len]; omega) (fun v hv H => by
        obtain ⟨i, _, rfl⟩ := List.mem_map.mp hv
        exact .int _) hx e hz
    refine q_when (b := false) ?_ (fun z => Bool.noConfusion z) fun _ H10 e10 => ?_
    · refine et_is (et_or (et_not (et_B (ev_call (z := .bl true) (ea_cons (ev_var rfl) (ea_cons (ev_var rfl) (ea_cons (ev_var rfl) (ea_cons (ev_var rfl) (ea_cons (ev_var rfl) ea_nil))))) fun H1 e1 Q' q' _ => ?_))) fun _ => et_not (et_B (ev_call (z := .bl true) (ea_cons (ev_var rfl) ea_nil) fun H1 e1 Q' q' _ => ?_))) rfl
      · exact ⟨_, cs, lo, hi, tp, y, l, nums, rfl, B.mono e1, Ly.mono e1, e1 _ _ hl, hpos, q'⟩
      · exact ⟨_, cs, lo, hi, tp, rfl, B.mono e1, q'⟩
    refine q_when (b := false) ?_ (fun z => Bool.noConfusion z) fun _ H11 e11 => ?_
    · have h1 : EvT' (tCallN 0 1 spLayersOf (fun vs zs => vs ++ zs) E0 tNil (tCons (tVar 9) tNil)) (lslots a b p y sz lo hi cut (some (V.int tp)) (some (V.ref q)) (some (V.ref l)) none) H10 (tabV (nOf cs) (lay cs)) := fun H1 e1 Q' q' =>
        ⟨_, rfl, rfl, rfl, _, cs, lo, hi, tp, rfl, B.b.mono (e10.trans e1), fun p' H2 e2 _ h2 => q' p' H2 e2 h2⟩
      exact et_is (et_not (et_B (ev_same (ew_T h1) (ew_U (eu_tupleL (ev_var rfl) (sq_of (Ly.mono e10).at_))) fun x z H1 H2 e => sm1 x z H1 H2 (e10.trans e)))) rfl
    have B11 := (B.mono e10).mono e11
    have L11 := (Ly.mono e10).mono e11
    have hw : Ev (tCallS spWeightOf (WE fun _ _ _ _ => False) (tCons (tVar 9) tNil)) (lslots a b p y sz lo hi cut (some (V.int tp)) (some (V.ref q)) (some (V.ref l)) none) H11 (.int (spr (lay cs) (hgt cs) lo hi (2 * tp))) := fun H1 e1 Q' q' =>
      ⟨_, rfl, _, cs, lo, hi, tp, rfl, B11.mono e1, q'⟩
    have htp := B.t
    refine s_ret (ev_same (ew_V hw) (ew_V (ev_call (z := .int (spr (lay cs) (hgt cs) lo hi (2 * tp))) (ea_cons (ev_var rfl) (ea_cons (ev_var rfl) (ea_cons (ev_var rfl) (ea_cons (ev_op ev_c (ev_var rfl) (rv_I (.inl ⟨by decide, by decide⟩))) ea_nil)))) fun H1 e1 Q' q' _ => ⟨y, lay cs, hgt cs, nOf cs, lo, hi, 2 * tp, rfl, L11.mono e1, B.r, by omega, q'⟩)) fun x z H1 H2 _ hx _ hz => ?_) fun H12 e12 => k H12
    rw [hx, hz]
    exact .int _
end
end K04
/-! ## D25 -/
set_option Elab.async false
set_option linter.all false
set_option maxRecDepth 100000
set_option maxHeartbeats 4000000
namespace K04
open PySem L2 Evl PyProof.Rows
/-- a def as it stands behind the top -/
def Df (K : PySem.W.Frag) (x : Str) (st : Stmt) : Prop := ∃ (f : Addr) (oc : Value) (od an : Option Addr) (kV dc pm cd ct : Value) (sl : Array (Option Value)), PySem.W.nsIn K mainGlobals x = some (some (.ref f)) ∧
  K.lookup f = some ⟨oc, od, .func (PySem.W.fnOf x x (defArgs st) (defBody st) (defScope st) .none kV dc pm an cd ct), sl⟩ ∧ PySem.W.codeIn K cd x = true ∧ PySem.W.keepIn K (.ref f) = true
theorem Df.mk {K : PySem.W.Frag} {x : Str} {st : Stmt} {f : Addr} {oc : Value} {od an : Option Addr} {kV dc pm cd ct : Value} {sl : Array (Option Value)} (a : PySem.W.nsIn K mainGlobals x = some (some (.ref f)))
    (l : K.lookup f = some ⟨oc, od, .func (PySem.W.fnOf x x (defArgs st) (defBody st) (defScope st) .none kV dc pm an cd ct), sl⟩) (c : PySem.W.codeIn K cd x = true) (k : PySem.W.keepIn K (.ref f) = true) : Df K x st := ⟨f, oc, od, an, kV, dc, pm, cd, ct, sl, a, l, c, k⟩
theorem Df.use {K : PySem.W.Frag} {h : Heap} {mg : Str → Option Value} {x : Str} {st : Stmt} (d : Df K x st) (X : K.In h) (G : h.Ns mainGlobals mg) : ∃ (f : Addr) (fd : FuncData), mg x = some (.ref f) ∧ Fun K x x st f fd := by
  obtain ⟨f, oc, od, an, kV, dc, pm, cd, ct, sl, a, l, c, k⟩ := d
  exact ⟨f, _, PySem.W.mg_of X G a, fun_mk (st := st) l c k⟩
/-- an error of the class at S is what «except S» names -/
theorem exm_self {K : PySem.W.Frag} {S : Addr} (h1 : PySem.W.subIn K (.ref S) (.type "BaseException") = some true) (h2 : PySem.W.isClsIn K S = true) (h3 : PySem.W.typeIn K (.ref S) = some (.type "type")) (h4 : PySem.W.subIn K (.ref S) (.ref S) = some true) :
    PySem.W.exmOne K (.ref S) (.ref S) = some true := by
  have e1 : (PySem.W.subIn K (.ref S) (.type "BaseException") == some true) = true := by rw [h1] <;> rfl
  have e2 : ((PySem.W.clsIn K S).isSome && PySem.W.typeIn K (.ref S) == some (.type "type")) = true := by
    have h2' : (PySem.W.clsIn K S).isSome = true := h2
    rw [h2', h3] <;> rfl
  show (if (PySem.W.subIn K (.ref S) (.type "BaseException") == some true) = true then (if ((PySem.W.clsIn K S).isSome && PySem.W.typeIn K (.ref S) == some (.type "type")) = true then PySem.W.subIn K (.ref S) (.ref S) else none) else none) = some true
  rw [if_pos e1, if_pos e2]
  exact h4
/-- the class NotUsable and its __init__ -/
def NuAt (K : PySem.W.Frag) : Prop := ∃ (C fI : Addr) (nm q : Str) (N : Addr) (bs bm : List Value) (sn : List Str) (sub : List Value) (ab : Bool) (col : Option Bool) (dd : Option Addr) (m0 m1 m2 m3 m5 : Option Value) (oc : Value) (od an : Option Addr) (kV dc pm cd ct : Value) (sl : Array (Option Value)),
  PySem.W.nsIn K mainGlobals "NotUsable" = some (some (.ref C)) ∧ K.lookup C = some (excClassObj nm q C N bs bm true sn sub ab col dd m0 m1 m2 m3 m5 "ValueError.__new__") ∧ PySem.HandSPX.refsVE bm = true ∧
  PySem.W.findIn K (.ref C) "__setattr__" = some (some (.builtin "object.__setattr__")) ∧ PySem.W.findIn K (.ref C) "__getattribute__" = some (some (.builtin "BaseException.__getattribute__")) ∧ PySem.W.findIn K (.ref C) "__getattr__" = some none ∧
  PySem.W.findIn K (.ref C) "word" = some none ∧ PySem.W.findIn K (.ref C) "at" = some none ∧ PySem.W.findIn K (.ref C) "__init__" = some (some (.ref fI)) ∧ PySem.W.typeIn K (.ref fI) = some (.type "function") ∧
  K.lookup fI = some ⟨oc, od, .func (PySem.W.fnOf "__init__" "NotUsable.__init__" (defArgs s_nu_init) (defBody s_nu_init) (defScope s_nu_init) .none kV dc pm an cd ct), sl⟩ ∧ PySem.W.codeIn K cd "NotUsable.__init__" = true ∧ PySem.W.keepIn K (.ref fI) = true ∧
  PySem.W.keepIn K (.ref C) = true ∧ PySem.W.subIn K (.ref C) (.type "BaseException") = some true ∧ PySem.W.typeIn K (.ref C) = some (.type "type") ∧ PySem.W.hasDictIn K C = true ∧ PySem.W.isClsIn K C = true ∧ PySem.W.subIn K (.ref C) (.ref C) = some true
theorem NuAt.mk {K : PySem.W.Frag} {C fI : Addr} {nm q : Str} {N : Addr} {bs bm : List Value} {sn : List Str} {sub : List Value} {ab : Bool} {col : Option Bool} {dd : Option Addr} {m0 m1 m2 m3 m5 : Option Value} {oc : Value} {od an : Option Addr} {kV dc pm cd ct : Value} {sl : Array (Option Value)}
    (aC : PySem.W.nsIn K mainGlobals "NotUsable" = some (some (.ref C))) (xL : K.lookup C = some (excClassObj nm q C N bs bm true sn sub ab col dd m0 m1 m2 m3 m5 "ValueError.__new__")) (rv : PySem.HandSPX.refsVE bm = true)
    (sa : PySem.W.findIn K (.ref C) "__setattr__" = some (some (.builtin "object.__setattr__"))) (ga : PySem.W.findIn K (.ref C) "__getattribute__" = some (some (.builtin "BaseException.__getattribute__"))) (gg : PySem.W.findIn K (.ref C) "__getattr__" = some none)
    (nw : PySem.W.findIn K (.ref C) "word" = some none) (na : PySem.W.findIn K (.ref C) "at" = some none) (a1 : PySem.W.findIn K (.ref C) "__init__" = some (some (.ref fI))) (t1 : PySem.W.typeIn K (.ref fI) = some (.type "function"))
    (l1 : K.lookup fI = some ⟨oc, od, .func (PySem.W.fnOf "__init__" "NotUsable.__init__" (defArgs s_nu_init) (defBody s_nu_init) (defScope s_nu_init) .none kV dc pm an cd ct), sl⟩) (c1 : PySem.W.codeIn K cd "NotUsable.__init__" = true) (k1 : PySem.W.keepIn K (.ref fI) = true)
    (kC : PySem.W.keepIn K (.ref C) = true) (eC : PySem.W.subIn K (.ref C) (.type "BaseException") = some true) (tC : PySem.W.typeIn K (.ref C) = some (.type "type")) (hC : PySem.W.hasDictIn K C = true) (iC : PySem.W.isClsIn K C = true) (sC : PySem.W.subIn K (.ref C) (.ref C) = some true) : NuAt K :=
  ⟨C, fI, nm, q, N, bs, bm, sn, sub, ab, col, dd, m0, m1, m2, m3, m5, oc, od, an, kV, dc, pm, cd, ct, sl, aC, xL, rv, sa, ga, gg, nw, na, a1, t1, l1, c1, k1, kC, eC, tC, hC, iC, sC⟩
theorem NuAt.use {K : PySem.W.Frag} {h : Heap} {mg : Str → Option Value} (d : NuAt K) (X : K.In h) (G : h.Ns mainGlobals mg) : ∃ (C fI : Addr) (fdI : FuncData), Nu K mg C fI ∧ Fun K "__init__" "NotUsable.__init__" s_nu_init fI fdI := by
  obtain ⟨C, fI, nm, q, N, bs, bm, sn, sub, ab, col, dd, m0, m1, m2, m3, m5, oc, od, an, kV, dc, pm, cd, ct, sl, aC, xL, rv, sa, ga, gg, nw, na, a1, t1, l1, c1, k1, kC, eC, tC, hC, iC, sC⟩ := d
  exact ⟨C, fI, _, ⟨⟨⟨nm, q, N, bs, bm, sn, sub, ab, col, dd, m0, m1, m2, m3, m5, xL, rv⟩, sa, eC, tC, kC⟩, ⟨ga, gg, eC, hC⟩, a1, t1, nw, na, PySem.W.mg_of X G aC, exm_self eC iC tC sC⟩, fun_mk (st := s_nu_init) l1 c1 k1⟩
structure Free (K : PySem.W.Frag) : Prop where
  len : PySem.W.nsIn K mainGlobals "len" = some none
  range : PySem.W.nsIn K mainGlobals "range" = some none
  sum : PySem.W.nsIn K mainGlobals "sum" = some none
  max : PySem.W.nsIn K mainGlobals "max" = some none
  min : PySem.W.nsIn K mainGlobals "min" = some none
  isinstance : PySem.W.nsIn K mainGlobals "isinstance" = some none
  sorted : PySem.W.nsIn K mainGlobals "sorted" = some none
  tuple : PySem.W.nsIn K mainGlobals "tuple" = some none
  list : PySem.W.nsIn K mainGlobals "list" = some none
  int : PySem.W.nsIn K mainGlobals "int" = some none
  bool : PySem.W.nsIn K mainGlobals "bool" = some none
  str : PySem.W.nsIn K mainGlobals "str" = some none
  enumerate : PySem.W.nsIn K mainGlobals "enumerate" = some none
theorem Free.txt {K : PySem.W.Frag} {h : Heap} {mg : Str → Option Value} (z : Free K) (X : K.In h) (G : h.Ns mainGlobals mg) : Txt mg :=
  ⟨PySem.W.mg_none_of X G z.len, PySem.W.mg_none_of X G z.range, PySem.W.mg_none_of X G z.sum, PySem.W.mg_none_of X G z.max, PySem.W.mg_none_of X G z.min, PySem.W.mg_none_of X G z.isinstance, PySem.W.mg_none_of X G z.sorted, PySem.W.mg_none_of X G z.tuple,
   PySem.W.mg_none_of X G z.list, PySem.W.mg_none_of X G z.int, PySem.W.mg_none_of X G z.bool, PySem.W.mg_none_of X G z.str, PySem.W.mg_none_of X G z.enumerate⟩
structure Defs0 (K : PySem.W.Frag) : Prop where
  require : Df K "require" s_require
  is_integer : Df K "is_integer" s_is_integer
  is_number : Df K "is_number" s_is_number
  height_of : Df K "height_of" s_height_of
  height_sum : Df K "height_sum" s_height_sum
  height : Df K "height" s_height
  chain_sizes : Df K "chain_sizes" s_chain_sizes
  slid : Df K "slid" s_slid
  with_slot : Df K "with_slot" s_with_slot
  layers_of : Df K "layers_of" s_layers_of
  how_many : Df K "how_many" s_how_many
  window_of : Df K "window_of" s_window_of
  spread_of : Df K "spread_of" s_spread_of
  weight_of : Df K "weight_of" s_weight_of
  bag : Df K "_law_bag" s__law_bag
  draw : Df K "_law_draw" s__law_draw
  number : Df K "_law_number" s__law_number
  same : Df K "_law_same" s__law_same
  part : Df K "_law_part" s__law_part
  row : Df K "_law_row" s__law_row
  parts : Df K "_law_parts" s__law_parts
  layers : Df K "_law_layers" s__law_layers
  counted : Df K "_law_counted" s__law_counted
  window : Df K "_law_window" s__law_window
  greatest : Df K "_law_greatest" s__law_greatest
  by_chains : Df K "_law_by_chains" s__law_by_chains
  ask : Df K "_law_ask" s__law_ask
  refused : Df K "_law_refused_right" s__law_refused_right
  numbers : Df K "_law_numbers_right" s__law_numbers_right
  law : Df K "law" s_law
theorem all_mk {l : PySem.W.OpenLaw} {w : World} {K : PySem.W.Frag} {h : Heap} {mg : Str → Option Value} {fa : Addr} (X : K.In h) (G : h.Ns mainGlobals mg) (hfa : mg "law" = some (.ref fa)) (Z : Free K) (NN : NuAt K) (D : Defs0 K) :
    ∃ fd : FuncData, (∀ (s : Shared) (v : Value), BindsTo s fd ⟨[v], []⟩ [("_law_script", v)]) ∧ ∀ base : Heap, K.In base → base.Ns mainGlobals mg → FnOk l.prog w K mg base CX0 8 fa fd ["_law_script"] (spLaw K) := by
  have T := Z.txt X G
  obtain ⟨C, fI, fdI, N, FI⟩ := NN.use X G
  have bI := FI.binds (ps := ["self", "word", "at"]) fun _ _ _ _ _ _ us hl => match us, hl with | [_, _, _], _ => rfl
  obtain ⟨_, fd_require, g_require, F_require⟩ := D.require.use X G
  obtain ⟨_, fd_is_integer, g_is_integer, F_is_integer⟩ := D.is_integer.use X G
  obtain ⟨_, fd_is_number, g_is_number, F_is_number⟩ := D.is_number.use X G
  obtain ⟨_, fd_height_of, g_height_of, F_height_of⟩ := D.height_of.use X G
  obtain ⟨_, fd_height_sum, g_height_sum, F_height_sum⟩ := D.height_sum.use X G
  obtain ⟨_, fd_height, g_height, F_height⟩ := D.height.use X G
  obtain ⟨_, fd_chain_sizes, g_chain_sizes, F_chain_sizes⟩ := D.chain_sizes.use X G
  obtain ⟨_, fd_slid, g_slid, F_slid⟩ := D.slid.use X G
  obtain ⟨_, fd_with_slot, g_with_slot, F_with_slot⟩ := D.with_slot.use X G
  obtain ⟨_, fd_layers_of, g_layers_of, F_layers_of⟩ := D.layers_of.use X G
  obtain ⟨_, fd_how_many, g_how_many, F_how_many⟩ := D.how_many.use X G
  obtain ⟨_, fd_window_of, g_window_of, F_window_of⟩ := D.window_of.use X G
  obtain ⟨_, fd_spread_of, g_spread_of, F_spread_of⟩ := D.spread_of.use X G
  obtain ⟨_, fd_weight_of, g_weight_of, F_weight_of⟩ := D.weight_of.use X G
  obtain ⟨_, fd_bag, g_bag, F_bag⟩ := D.bag.use X G
  obtain ⟨_, fd_draw, g_draw, F_draw⟩ := D.draw.use X G
  obtain ⟨_, fd_number, g_number, F_number⟩ := D.number.use X G
  obtain ⟨_, fd_same, g_same, F_same⟩ := D.same.use X G
  obtain ⟨_, fd_part, g_part, F_part⟩ := D.part.use X G
  obtain ⟨_, fd_row, g_row, F_row⟩ := D.row.use X G
  obtain ⟨_, fd_parts, g_parts, F_parts⟩ := D.parts.use X G
  obtain ⟨_, fd_layers, g_layers, F_layers⟩ := D.layers.use X G
  obtain ⟨_, fd_counted, g_counted, F_counted⟩ := D.counted.use X G
  obtain ⟨_, fd_window, g_window, F_window⟩ := D.window.use X G
  obtain ⟨_, fd_greatest, g_greatest, F_greatest⟩ := D.greatest.use X G
  obtain ⟨_, fd_by_chains, g_by_chains, F_by_chains⟩ := D.by_chains.use X G
  obtain ⟨_, fd_ask, g_ask, F_ask⟩ := D.ask.use X G
  obtain ⟨_, fd_refused, g_refused, F_refused⟩ := D.refused.use X G
  obtain ⟨_, fd_numbers, g_numbers, F_numbers⟩ := D.numbers.use X G
  obtain ⟨f_law, oc, od, an, kV, dc, pm, cd, ct, sl, a_law, l_law, c_law, k_law⟩ := D.law
  have e := hfa.symm.trans (PySem.W.mg_of X G a_law)
  cases e
  have F_law := fun_mk (st := s_law) l_law c_law k_law
  refine ⟨PySem.W.fnOf "law" "law" (defArgs s_law) (defBody s_law) (defScope s_law) .none kV dc pm an cd ct, fun s v => .of_eq rfl, fun base _ _ => ?_⟩
  have d_is_integer : Dn l.prog w K mg base CX0 1 "is_integer" ["thing"] spIsInteger := ⟨_, _, ok_is_integer F_is_integer T, g_is_integer, F_is_integer.kp, F_is_integer.binds fun _ _ _ _ _ _ us hl => match us, hl with | [_], _ => rfl⟩
  have d_is_number : Dn l.prog w K mg base CX0 2 "is_number" ["thing"] spIsNumber := ⟨_, _, ok_is_number F_is_number T d_is_integer, g_is_number, F_is_number.kp, F_is_number.binds fun _ _ _ _ _ _ us hl => match us, hl with | [_], _ => rfl⟩
  have d_height_of : Dn l.prog w K mg base CX0 1 "height_of" ["chart"] spHeightOf := ⟨_, _, ok_height_of F_height_of T, g_height_of, F_height_of.kp, F_height_of.binds fun _ _ _ _ _ _ us hl => match us, hl with | [_], _ => rfl⟩
  have d_height_sum : Dn l.prog w K mg base CX0 2 "height_sum" ["charts"] spHeightSum := ⟨_, _, ok_height_sum F_height_sum T d_height_of, g_height_sum, F_height_sum.kp, F_height_sum.binds fun _ _ _ _ _ _ us hl => match us, hl with | [_], _ => rfl⟩
  have d_height : Dn l.prog w K mg base CX0 3 "height" ["bench"] spHeight := ⟨_, _, ok_height F_height T d_height_sum, g_height, F_height.kp, F_height.binds fun _ _ _ _ _ _ us hl => match us, hl with | [_], _ => rfl⟩
  have d_chain_sizes : Dn l.prog w K mg base CX0 1 "chain_sizes" ["chart"] spChainSizes := ⟨_, _, ok_chain_sizes F_chain_sizes T, g_chain_sizes, F_chain_sizes.kp, F_chain_sizes.binds fun _ _ _ _ _ _ us hl => match us, hl with | [_], _ => rfl⟩
  have d_slid : Dn l.prog w K mg base CX0 1 "slid" ["layers", "size"] spSlid := ⟨_, _, ok_slid F_slid T, g_slid, F_slid.kp, F_slid.binds fun _ _ _ _ _ _ us hl => match us, hl with | [_, _], _ => rfl⟩
  have d_with_slot : Dn l.prog w K mg base CX0 2 "with_slot" ["layers", "chart"] spWithSlot := ⟨_, _, ok_with_slot F_with_slot T d_height_of d_chain_sizes d_slid, g_with_slot, F_with_slot.kp, F_with_slot.binds fun _ _ _ _ _ _ us hl => match us, hl with | [_, _], _ => rfl⟩
  let d_layers_of : Dn l.prog w K mg base CX0 3 "layers_of" ["bench"] spLayersOf := ⟨_, _, ok_layers_of F_layers_of T d_with_slot, g_layers_of, F_layers_of.kp, F_layers_of.binds fun _ _ _ _ _ _ us hl => match us, hl with | [_], _ => rfl⟩
  have d_how_many : Dn l.prog w K mg base CX0 4 "how_many" ["bench"] spHowMany := ⟨_, _, ok_how_many F_how_many T d_layers_of, g_how_many, F_how_many.kp, F_how_many.binds fun _ _ _ _ _ _ us hl => match us, hl with | [_], _ => rfl⟩
  have d_require : Dn l.prog w K mg base (L2.CX l.prog w) 3 "require" ["good", "word"] (spRequire C) := ⟨_, _, ok_require F_require N FI bI, g_require, F_require.kp, F_require.binds fun _ _ _ _ _ _ us hl => match us, hl with | [_, _], _ => rfl⟩
  let d_window_of : Dn l.prog w K mg base (L2.CX l.prog w) 4 "window_of" ["bench", "many"] (spWindowOf C) := ⟨_, _, ok_window_of F_window_of T d_require d_is_number d_height, g_window_of, F_window_of.kp, F_window_of.binds fun _ _ _ _ _ _ us hl => match us, hl with | [_, _], _ => rfl⟩
  let d_spread_of : Dn l.prog w K mg base (L2.CX l.prog w) 5 "spread_of" ["bench", "many"] (spSpreadOf C) := ⟨_, _, ok_spread_of F_spread_of T d_require d_is_number d_window_of d_layers_of, g_spread_of, F_spread_of.kp, F_spread_of.binds fun _ _ _ _ _ _ us hl => match us, hl with | [_, _], _ => rfl⟩
  have d_weight_of : Dn l.prog w K mg base (L2.CX l.prog w) 6 "weight_of" ["bench"] spWeightOf := ⟨_, _, ok_weight_of F_weight_of T d_spread_of, g_weight_of, F_weight_of.kp, F_weight_of.binds fun _ _ _ _ _ _ us hl => match us, hl with | [_], _ => rfl⟩
  have d_bag : Dn l.prog w K mg base CX0 1 "_law_bag" ["_law_script"] (spBag K) := ⟨_, _, ok_bag F_bag T, g_bag, F_bag.kp, F_bag.binds fun _ _ _ _ _ _ us hl => match us, hl with | [_], _ => rfl⟩
  have d_draw : Dn l.prog w K mg base CX0 1 "_law_draw" ["_law_bag_here", "_law_many"] spDraw := ⟨_, _, ok_draw F_draw T, g_draw, F_draw.kp, F_draw.binds fun _ _ _ _ _ _ us hl => match us, hl with | [_, _], _ => rfl⟩
  have d_number : Dn l.prog w K mg base CX0 1 "_law_number" ["_law_thing"] spIsInteger := ⟨_, _, ok_number F_number T, g_number, F_number.kp, F_number.binds fun _ _ _ _ _ _ us hl => match us, hl with | [_], _ => rfl⟩
  have b_same : Binds K fd_same ["_law_heard", "_law_due"] [] := F_same.binds fun _ _ _ _ _ _ us hl => match us, hl with | [_, _], _ => rfl
  have d_same0 : Dn l.prog w K mg base CX0 2 "_law_same" ["_law_heard", "_law_due"] (spSame 0) := ⟨_, _, ok_same F_same T d_number g_same b_same 0, g_same, F_same.kp, F_same.binds fun _ _ _ _ _ _ us hl => match us, hl with | [_, _], _ => rfl⟩
  have d_same1 : Dn l.prog w K mg base CX0 3 "_law_same" ["_law_heard", "_law_due"] (spSame 1) := ⟨_, _, ok_same F_same T d_number g_same b_same 1, g_same, F_same.kp, F_same.binds fun _ _ _ _ _ _ us hl => match us, hl with | [_, _], _ => rfl⟩
  have d_same2 : Dn l.prog w K mg base CX0 4 "_law_same" ["_law_heard", "_law_due"] (spSame 2) := ⟨_, _, ok_same F_same T d_number g_same b_same 2, g_same, F_same.kp, F_same.binds fun _ _ _ _ _ _ us hl => match us, hl with | [_, _], _ => rfl⟩
  have d_part : Dn l.prog w K mg base CX0 2 "_law_part" ["_law_bag_here", "_law_most"] spPart := ⟨_, _, ok_part F_part T d_draw, g_part, F_part.kp, F_part.binds fun _ _ _ _ _ _ us hl => match us, hl with | [_, _], _ => rfl⟩
  have d_row : Dn l.prog w K mg base CX0 1 "_law_row" ["_law_many"] spRow := ⟨_, _, ok_row F_row T, g_row, F_row.kp, F_row.binds fun _ _ _ _ _ _ us hl => match us, hl with | [_], _ => rfl⟩
  have d_parts : Dn l.prog w K mg base CX0 3 "_law_parts" ["_law_bag_here", "_law_size"] spParts := ⟨_, _, ok_parts F_parts T d_draw d_part d_row, g_parts, F_parts.kp, F_parts.binds fun _ _ _ _ _ _ us hl => match us, hl with | [_, _], _ => rfl⟩
  have d_layers : Dn l.prog w K mg base CX0 1 "_law_layers" ["_law_parts_here"] spLawLayers := ⟨_, _, ok_law_layers F_layers T, g_layers, F_layers.kp, F_layers.binds fun _ _ _ _ _ _ us hl => match us, hl with | [_], _ => rfl⟩
  have d_counted : Dn l.prog w K mg base CX0 1 "_law_counted" ["_law_parts_here", "_law_layers_here"] spLawCounted := ⟨_, _, ok_law_counted F_counted T, g_counted, F_counted.kp, F_counted.binds fun _ _ _ _ _ _ us hl => match us, hl with | [_, _], _ => rfl⟩
  have d_window : Dn l.prog w K mg base CX0 1 "_law_window" ["_law_height", "_law_low", "_law_high", "_law_many"] spLawWindow := ⟨_, _, ok_window F_window T, g_window, F_window.kp, F_window.binds fun _ _ _ _ _ _ us hl => match us, hl with | [_, _, _, _], _ => rfl⟩
  have d_greatest : Dn l.prog w K mg base CX0 1 "_law_greatest" ["_law_layers_here", "_law_low", "_law_high", "_law_many"] spSpr := ⟨_, _, ok_greatest F_greatest T, g_greatest, F_greatest.kp, F_greatest.binds fun _ _ _ _ _ _ us hl => match us, hl with | [_, _, _, _], _ => rfl⟩
  have d_by_chains : Dn l.prog w K mg base CX0 1 "_law_by_chains" ["_law_layers_here", "_law_low", "_law_high", "_law_many"] spSpr := ⟨_, _, ok_by_chains F_by_chains T, g_by_chains, F_by_chains.kp, F_by_chains.binds fun _ _ _ _ _ _ us hl => match us, hl with | [_, _, _, _], _ => rfl⟩
  have kW : KBn K d_window_of.fd ["bench", "many"] 0 ["many", "bench"] (fun _ ws => ws.reverse) (fun _ zs => zs.reverse) := Fun.kbn_rev F_window_of fun _ _ _ _ _ _ ws hl => match ws, hl with | [_, _], _ => rfl
  have kS : KBn K d_spread_of.fd ["bench", "many"] 1 ["many"] (fun us ws => us ++ ws) (fun vs zs => vs ++ zs) := Fun.kbn_app F_spread_of fun _ _ _ _ _ _ us ws hu hl => match us, ws, hu, hl with | [_], [_], _, _ => rfl
  have kL : KBn K d_layers_of.fd ["bench"] 0 ["bench"] (fun us ws => us ++ ws) (fun vs zs => vs ++ zs) := Fun.kbn_app F_layers_of fun _ _ _ _ _ _ us ws hu hl => match us, ws, hu, hl with | [], [_], _, _ => rfl
  have d_ask : Dn l.prog w K mg base CX0 6 "_law_ask" ["_law_word", "_law_bench", "_law_many"] spAsk := ⟨_, _, ok_ask F_ask T N d_window_of d_spread_of kW kS, g_ask, F_ask.kp, F_ask.binds fun _ _ _ _ _ _ us hl => match us, hl with | [_, _, _], _ => rfl⟩
  have d_refused : Dn l.prog w K mg base CX0 7 "_law_refused_right" ["_law_bench"] spRefused := ⟨_, _, ok_refused F_refused T d_ask d_same1, g_refused, F_refused.kp, F_refused.binds fun _ _ _ _ _ _ us hl => match us, hl with | [_], _ => rfl⟩
  have d_numbers : Dn l.prog w K mg base CX0 7 "_law_numbers_right" ["_law_bench", "_law_layers_here", "_law_low", "_law_high", "_law_numbers"] spNumbers := ⟨_, _, ok_numbers F_numbers T d_ask d_same1 d_same2 d_greatest d_by_chains d_window, g_numbers, F_numbers.kp, F_numbers.binds fun _ _ _ _ _ _ us hl => match us, hl with | [_, _, _, _, _], _ => rfl⟩
  exact ok_law F_law T ⟨d_bag, d_draw, d_parts, d_layers, d_layers_of, d_how_many, d_counted, d_numbers, d_refused, d_weight_of, d_greatest, d_same0, d_same1, kL⟩
theorem walk {l : PySem.W.OpenLaw} {q : Program} {loose : List Str} {XP : (Str → Option Value) → Heap → Prop} {YP : World → Heap → Prop} {d : DefRec} {K : Params → PySem.W.Frag} (hn : l.most = some 63) (hdf : d.params.defaults = [])
    (hY : ∀ (w : World) (h : Heap), YP w h → (K w.params).In h)
    (F : ∀ (w : World) (mg : Str → Option Value) (fa : Addr) (h : Heap), (K w.params).In h → h.Ns mainGlobals mg → mg d.name = some (.ref fa) →
      ∃ fd : FuncData, (∀ (s : Shared) (u : Value), BindsTo s fd ⟨[u], []⟩ [("_law_script", u)]) ∧ ∀ base : Heap, (K w.params).In base → base.Ns mainGlobals mg → FnOk l.prog w (K w.params) mg base CX0 8 fa fd ["_law_script"] (spLaw (K w.params))) :
    PySem.W.WalkO q loose XP YP l.row.toRowW d [] (fun f vs => PySem.call f vs) :=
  L2.walk_of (n := 63) (k := 8) (x := "_law_script") (CX := fun _ => CX0) (sp := fun w => spLaw (K w.params)) hn (by decide) hdf ⟨rfl, by decide, by decide⟩ hY F (fun _ _ a ns hl _ hS => ⟨a, ns, rfl, hS, hl, fun _ => rfl⟩) fun _ _ _ _ _ z => z
end K04
/-! ## Fin -/
set_option Elab.async false
open PySem PySem.W PyProof.Rows
set_option maxRecDepth 100000 in
set_option maxHeartbeats 0 in
theorem PySem.Challenge.cw_stubbornest_k04_whole_layers_windows_spr_holds : PySem.Challenge.rw_stubbornest_k04_whole_layers_windows_spr.Holds := by
  w_on; o_law; k_head; (case hw => w_witness2)
  k_fill
  refine K04.walk (l := PySem.Challenge.rw_stubbornest_k04_whole_layers_windows_spr) rfl rfl (fun w h Y => PySem.W.kIn_of Y) ?F
  case F =>
    intro w mg fa h KX G hmg
    refine' K04.all_mk KX G hmg ?zFree ?zNu ?zDefs
    case zFree => exact ⟨by k_is, by k_is, by k_is, by k_is, by k_is, by k_is, by k_is, by k_is, by k_is, by k_is, by k_is, by k_is, by k_is⟩
    case zNu =>
      refine' K04.NuAt.mk ?aC ?xL ?rv ?sa ?ga ?gg ?nw ?na ?a1 ?t1 ?l1 ?c1 ?k1 ?kC ?eC ?tC ?hC ?iC ?sC
      (case aC => k_is); (case xL => k_is); (case rv => decide +kernel); (case sa => k_is); (case ga => k_is); (case gg => k_is); (case nw => k_is); (case na => k_is)
      (case a1 => k_is); (case t1 => k_is); (case l1 => k_is); (case c1 => k_is); (case k1 => k_is)
      (case kC => k_is); (case eC => k_is); (case tC => k_is); (case hC => k_is); (case iC => k_is); (case sC => first | rfl | k_is)
    case zDefs =>
      exact ⟨(by refine' K04.Df.mk ?a ?l ?c ?k; (case a => k_is); (case l => k_is); (case c => k_is); (case k => k_is)),
        (by refine' K04.Df.mk ?a ?l ?c ?k; (case a => k_is); (case l => k_is); (case c => k_is); (case k => k_is)),
        (by refine' K04.Df.mk ?a ?l ?c ?k; (case a => k_is); (case l => k_is); (case c => k_is); (case k => k_is)),
        (by refine' K04.Df.mk ?a ?l ?c ?k; (case a => k_is); (case l => k_is); (case c => k_is); (case k => k_is)),
        (by refine' K04.Df.mk ?a ?l ?c ?k; (case a => k_is); (case l => k_is); (case c => k_is); (case k => k_is)),
        (by refine' K04.Df.mk ?a ?l ?c ?k; (case a => k_is); (case l => k_is); (case c => k_is); (case k => k_is)),
        (by refine' K04.Df.mk ?a ?l ?c ?k; (case a => k_is); (case l => k_is); (case c => k_is); (case k => k_is)),
        (by refine' K04.Df.mk ?a ?l ?c ?k; (case a => k_is); (case l => k_is); (case c => k_is); (case k => k_is)),
        (by refine' K04.Df.mk ?a ?l ?c ?k; (case a => k_is); (case l => k_is); (case c => k_is); (case k => k_is)),
        (by refine' K04.Df.mk ?a ?l ?c ?k; (case a => k_is); (case l => k_is); (case c => k_is); (case k => k_is)),
        (by refine' K04.Df.mk ?a ?l ?c ?k; (case a => k_is); (case l => k_is); (case c => k_is); (case k => k_is)),
        (by refine' K04.Df.mk ?a ?l ?c ?k; (case a => k_is); (case l => k_is); (case c => k_is); (case k => k_is)),
        (by refine' K04.Df.mk ?a ?l ?c ?k; (case a => k_is); (case l => k_is); (case c => k_is); (case k => k_is)),
        (by refine' K04.Df.mk ?a ?l ?c ?k; (case a => k_is); (case l => k_is); (case c => k_is); (case k => k_is)),
        (by refine' K04.Df.mk ?a ?l ?c ?k; (case a => k_is); (case l => k_is); (case c => k_is); (case k => k_is)),
        (by refine' K04.Df.mk ?a ?l ?c ?k; (case a => k_is); (case l => k_is); (case c => k_is); (case k => k_is)),
        (by refine' K04.Df.mk ?a ?l ?c ?k; (case a => k_is); (case l => k_is); (case c => k_is); (case k => k_is)),
        (by refine' K04.Df.mk ?a ?l ?c ?k; (case a => k_is); (case l => k_is); (case c => k_is); (case k => k_is)),
        (by refine' K04.Df.mk ?a ?l ?c ?k; (case a => k_is); (case l => k_is); (case c => k_is); (case k => k_is)),
        (by refine' K04.Df.mk ?a ?l ?c ?k; (case a => k_is); (case l => k_is); (case c => k_is); (case k => k_is)),
        (by refine' K04.Df.mk ?a ?l ?c ?k; (case a => k_is); (case l => k_is); (case c => k_is); (case k => k_is)),
        (by refine' K04.Df.mk ?a ?l ?c ?k; (case a => k_is); (case l => k_is); (case c => k_is); (case k => k_is)),
        (by refine' K04.Df.mk ?a ?l ?c ?k; (case a => k_is); (case l => k_is); (case c => k_is); (case k => k_is)),
        (by refine' K04.Df.mk ?a ?l ?c ?k; (case a => k_is); (case l => k_is); (case c => k_is); (case k => k_is)),
        (by refine' K04.Df.mk ?a ?l ?c ?k; (case a => k_is); (case l => k_is); (case c => k_is); (case k => k_is)),
        (by refine' K04.Df.mk ?a ?l ?c ?k; (case a => k_is); (case l => k_is); (case c => k_is); (case k => k_is)),
        (by refine' K04.Df.mk ?a ?l ?c ?k; (case a => k_is); (case l => k_is); (case c => k_is); (case k => k_is)),
        (by refine' K04.Df.mk ?a ?l ?c ?k; (case a => k_is); (case l => k_is); (case c => k_is); (case k => k_is)),
        (by refine' K04.Df.mk ?a ?l ?c ?k; (case a => k_is); (case l => k_is); (case c => k_is); (case k => k_is)),
        (by refine' K04.Df.mk ?a ?l ?c ?k; (case a => k_is); (case l => k_is); (case c => k_is); (case k => k_is))⟩
