import PyProof.Rows.All
import Wide.All
import OpenK.AllK
import Wide.FinOn
import KE.DataMinMax
import KE.DataFind
import KE.KExcIs
import HandS.ForMost
import HandS.ForExc
import HandS.ExcInit
import HandS.ExcField
import HandS.ExcIs
import HandS.ExcCtx
import HandS.HotCalls
import HandS.ExcInitHot
import HandS.WordsExc
import HandS.TryMany
import HandS.Evl
import HandS.IsInst
import HandS.Wide
import HandS.Flow
import HandS.Style
import HandS.More
import HandS.SetFor
import HandS.SortInts
import HandS.SortKw
import HandS.ListItems
import HandS.Conv
import HandS.Defaults
import HandS.Codes
import HandS.TupAny
import HandS.SortOrd
import HandS.CallSlots
import PySem.Challenge.RW_stubbornest_k27_grades_left
/-! ## B0 -/
set_option Elab.async false
set_option linter.all false
set_option maxRecDepth 100000
set_option maxHeartbeats 4000000
namespace K27
open PySem L2 Evl
def top (i : Nat) : Stmt := PySem.Challenge.pw_stubbornest_k27_grades_left.main.body.getD i (.Pass ⟨0, 0, 0, 0⟩)
/-- the names of Python's own that the text leaves alone -/
structure Txt (mg : Str → Option Value) : Prop where
  len : mg "len" = none
  range : mg "range" = none
  max : mg "max" = none
  min : mg "min" = none
  isinstance : mg "isinstance" = none
  tuple : mg "tuple" = none
  int : mg "int" = none
  bool : mg "bool" = none
  str : mg "str" = none
  abs : mg "abs" = none
  all : mg "all" = none
  ValueError : mg "ValueError" = none
/-- a def of the text that keeps a promise -/
structure Dn (P : Program) (w : World) (K : PySem.W.Frag) (mg : Str → Option Value) (base : Heap) (CX : CXT) (k : Nat) (x : Str) (ps : List Str) (sp : Sp) where
  f : Addr
  fd : FuncData
  ok : FnOk P w K mg base CX k f fd ps sp
  g : mg x = some (.ref f)
  kp : PySem.W.keepIn K (.ref f) = true
  b : Binds K fd ps []
theorem ex_upd {G H : Hp} {p : Addr} {o : HO} (h : G p = none) (e : Ex (upd G p o) H) : Ex G H := (Ex.new h).trans e
/-! ### the feed: one list of ints -/
abbrev iv (ns : List Int) : List V := ns.map V.int
structure FG (G H : Hp) (b : Addr) : Prop where
  ex : Ex G H
  gb : G b = none
  at_ : ∃ (z0 z1 z2 : Int) (cs : List Int), H b = some (.lst (iv (z0 :: z1 :: z2 :: cs))) ∧ 0 ≤ z0 ∧ (0 ≤ z1 ∧ z1 < 2147483648) ∧ 0 ≤ z2 ∧ cs.length ≤ 63 ∧ ∀ c ∈ cs, 0 ≤ c ∧ c < 70001
/-- less is kept -/
theorem FG.less {G G0 H : Hp} {b : Addr} (h : FG G H b) (e : Ex G0 G) : FG G0 H b := ⟨e.trans h.ex, fresh_back e h.gb, h.at_⟩
theorem FG.fresh {G H : Hp} {b p : Addr} (h : FG G H b) (hp : H p = none) : p ≠ b := by
  obtain ⟨_, _, z0, z1, z2, cs, h1, _⟩ := h
  exact fun z => (by rw [z, h1] at hp; cases hp)
theorem FG.other {G H : Hp} {b p : Addr} {xs : List V} (h : FG G H b) (hp : H p = some (.tup xs)) : p ≠ b := by
  obtain ⟨_, _, z0, z1, z2, cs, h1, _⟩ := h
  exact fun z => (by rw [z, h1] at hp; cases hp)
/-- the heap grows by what is known to be kept -/
theorem FG.grow {G H H' : Hp} {b : Addr} (h : FG G H b) (e : Ex H H') : FG G H' b := by
  obtain ⟨a, c, z0, z1, z2, cs, h1, r⟩ := h
  exact ⟨a.trans e, c, z0, z1, z2, cs, e _ _ h1, r⟩
/-- an object other than the feed is laid down, or changed where G does not know it -/
theorem FG.put {G H : Hp} {b p : Addr} {o : HO} (h : FG G H b) (hb : p ≠ b) (hp : G p = none) : FG G (upd H p o) b := by
  obtain ⟨a, c, z0, z1, z2, cs, h1, r⟩ := h
  exact ⟨a.mut hp, c, z0, z1, z2, cs, by rw [upd_ne hb.symm]; exact h1, r⟩
/-- from now on the object at p is to be kept, too -/
theorem FG.hold {G H : Hp} {b p : Addr} {o : HO} (h : FG G H b) (hb : p ≠ b) (hp : H p = some o) : FG (upd G p o) H b := by
  obtain ⟨a, c, r⟩ := h
  refine ⟨fun x u e => ?_, by rw [upd_ne hb.symm]; exact c, r⟩
  by_cases z : x = p
  · subst z; rw [upd_same] at e; cases e; exact hp
  · rw [upd_ne z] at e; exact a x u e
theorem FG.both {G H : Hp} {b p : Addr} {o : HO} (h : FG G H b) (hp : H p = none) : FG (upd G p o) (upd H p o) b :=
  (h.put (h.fresh hp) (fresh_back h.ex hp)).hold (h.fresh hp) upd_same
end K27
/-! ## Evx -/
set_option Elab.async false
set_option linter.all false
set_option maxRecDepth 100000
set_option maxHeartbeats 4000000
namespace Evl
open PySem L2
section
variable {K : PySem.W.Frag} {σ : L2.St} {H H' : Hp} {ta tb te tx : TE} {t u : TT} {x y z v : V} {r : R2}
theorem et_yes : EvT tYes σ H true := fun H1 _ _ q => q H1 (Ex.refl H1)
theorem given_is {n : Nat} {ys : List V} (h : ys.length = n) (d : V) : given n (fun _ => true) (fun i => ys.getD i d) = ys := by
  unfold given
  have e : List.filter (fun _ => true) (List.range n) = List.range n := List.filter_eq_self.mpr (by simp)
  rw [e]
  apply List.ext_getElem?
  intro i
  rw [List.getElem?_map]
  by_cases c : i < n
  · rw [List.getElem?_range c]
    show some (ys.getD i d) = ys[i]?
    rw [List.getD_eq_getElem?_getD, List.getElem?_eq_getElem (by omega)]
    rfl
  · rw [List.getElem?_eq_none (by simp; omega), List.getElem?_eq_none (by omega)]
    rfl
theorem getD_of {ys : List V} {i : Nat} {y d : V} (h : ys[i]? = some y) : ys.getD i d = y := by
  rw [List.getD_eq_getElem?_getD, h]; rfl
theorem el_is {xs ys : List V} (h : EvL te σ H xs) (e : xs = ys) : EvL te σ H ys := e ▸ h
/-- [e for x in tuple], all of it -/
theorem el_lcT {a : Addr} {xs ys : List V} {tl : TE} {j : Nat} {vs : List Nat} (h : Ev tl σ H (.ref a)) (hx : SqT K H a xs) (hz : xs.length ≤ 40000) (hl : ys.length = xs.length) (hw : ∀ x, wipe ((wipe σ vs).set j (some x)) vs = wipe σ vs)
    (he : ∀ (i : Nat) (x : V) H1, Ex H H1 → xs[i]? = some x → ∃ y, ys[i]? = some y ∧ Ev te ((wipe σ vs).set j (some x)) H1 y) :
    EvL (tLc (iTup K tl) (gName j) tYes te vs) σ H ys := by
  rw [← given_is hl .non]
  exact fun H0 e Q q => h H0 e _ fun H1 e1 => ⟨a, rfl, ⟨xs, ex_t (e.trans e1) hx⟩, fun Dl hD =>
    lc_tup (xs := xs) (Cw H1 (fun _ => true) (fun i => ys.getD i .non) Dl) ⟨hD, Ex.new hD, upd_same⟩ (fun i H' _ p => ex_t ((e.trans e1).trans p.2.1) hx)
      (fun i x H' hi p => ⟨hw x, cw_turn p (by have := (List.getElem?_eq_some_iff.mp hi).1; omega) et_yes (fun hf => by
        obtain ⟨y, hy, ev⟩ := he i x H1 (e.trans e1) hi
        have e := getD_of (d := V.non) hy
        show Ev te _ H1 (ys.getD i .non)
        rw [e]
        exact ev)⟩)
      (fun H' p => q Dl H' (fresh_back e1 p.1) (e1.trans p.2.1) p.2.2)⟩
theorem el_lcLa {a : Addr} {xs ys : List V} {tl : TE} {j : Nat} {vs : List Nat} (h : Ev tl σ H (.ref a)) (hx : SqL K H a xs) (hz : xs.length ≤ 40000) (hl : ys.length = xs.length) (hw : ∀ x, wipe ((wipe σ vs).set j (some x)) vs = wipe σ vs)
    (he : ∀ (i : Nat) (x : V) H1, Ex H H1 → xs[i]? = some x → ∃ y, ys[i]? = some y ∧ Ev te ((wipe σ vs).set j (some x)) H1 y) :
    EvL (tLc (iList K tl) (gName j) tYes te vs) σ H ys := by
  rw [← given_is hl .non]
  refine el_lcL _ _ h hx hz hw (fun _ _ _ _ _ => et_yes) fun i x H1 e hi _ => ?_
  obtain ⟨y, hy, ev⟩ := he i x H1 e hi
  rw [getD_of hy]
  exact ev
theorem el_lcRa {ta : TA} {j : Nat} {vs : List Nat} {n : Int} {ys : List V} (h : EvA ta σ H [.int n]) (hn : 0 ≤ n ∧ n ≤ 40000) (hl : ys.length = n.toNat) (hw : ∀ x, wipe ((wipe σ vs).set j (some x)) vs = wipe σ vs)
    (he : ∀ (i : Nat) H1, Ex H H1 → (i : Int) < n → ∃ y, ys[i]? = some y ∧ Ev te ((wipe σ vs).set j (some (.int (i : Int)))) H1 y) :
    EvL (tLc (iRng1 ta) (gName j) tYes te vs) σ H ys := by
  rw [← given_is hl .non]
  refine el_lcR1 _ _ h hn hw (fun _ _ _ _ => et_yes) fun i H1 e hi _ => ?_
  obtain ⟨y, hy, ev⟩ := he i H1 e hi
  rw [getD_of hy]
  exact ev
theorem ev_sumN {ns : List Int} (ha : EvL ta σ H (ns.map V.int)) : Ev (tCB (rSum K) (tCons ta tNil)) σ H (.int ns.sum) := fun H1 e Q q =>
  ha H1 e _ fun p H2 _ e2 h2 => ⟨p, ns, rfl, sq_of h2, q H2 e2⟩
theorem ev_maxN {ns : List Int} {m : Int} (ha : EvL ta σ H (ns.map V.int)) (hm : m ∈ ns) (hle : ∀ y ∈ ns, y ≤ m) : Ev (tCB (rMax K) (tCons ta tNil)) σ H (.int m) := fun H1 e Q q =>
  ha H1 e _ fun p H2 _ e2 h2 => ⟨p, ns, rfl, sq_of h2, List.length_pos_of_mem hm, fun k hk hk2 => by
    have e1 : k = m := Int.le_antisymm (hle k hk) (hk2 m hm)
    rw [e1]
    exact q H2 e2⟩
/-- max(xs) of a standing list -/
theorem ev_maxL {a : Addr} {ns : List Int} {m : Int} (ha : Ev ta σ H (.ref a)) (hx : SqL K H a (ns.map V.int)) (hm : m ∈ ns) (hle : ∀ y ∈ ns, y ≤ m) : Ev (tCB (rMax K) (tCons ta tNil)) σ H (.int m) := fun H1 e Q q =>
  ha H1 e _ fun H2 e2 => ⟨a, ns, rfl, ex_l (e.trans e2) hx, List.length_pos_of_mem hm, fun k hk hk2 => by
    have e1 : k = m := Int.le_antisymm (hle k hk) (hk2 m hm)
    rw [e1]
    exact q H2 e2⟩
theorem ev_lenT {p : Addr} {xs : List V} (ha : Ev ta σ H (.ref p)) (h : SqT K H p xs) : Ev (tCB (rLenS K) (tCons ta tNil)) σ H (.int (xs.length : Int)) := fun H1 e Q q =>
  ha H1 e _ fun H2 e2 => ⟨p, xs, rfl, Or.inr (ex_t (e.trans e2) h), q H2 e2⟩
def rMin2 : List V → Hp → VK → Prop := fun xs H Q => ∃ i j, xs = [.int i, .int j] ∧ Q (.int (if j < i then j else i)) H
theorem ev_min2 {i j : Int} (ha : Ev ta σ H (.int i)) (hb : Ev tb σ H (.int j)) : Ev (tCB rMin2 (tCons ta (tCons tb tNil))) σ H (.int (min i j)) := fun H1 e Q q =>
  ha H1 e _ fun H2 e2 => hb H2 (e.trans e2) _ fun H3 e3 => ⟨i, j, rfl, by
    have z := q H3 (e2.trans e3)
    have w : (if j < i then j else i) = min i j := by omega
    rw [w]
    exact z⟩
theorem ev_max2' {i j : Int} (ha : Ev ta σ H (.int i)) (hb : Ev tb σ H (.int j)) : Ev (tCB rMax2 (tCons ta (tCons tb tNil))) σ H (.int (max i j)) := fun H1 e Q q =>
  ha H1 e _ fun H2 e2 => hb H2 (e.trans e2) _ fun H3 e3 => ⟨i, j, rfl, by
    have z := q H3 (e2.trans e3)
    have w : (if j > i then j else i) = max i j := by omega
    rw [w]
    exact z⟩
theorem ev_int1 {i : Int} (ha : Ev ta σ H (.int i)) : Ev (tCB (fun xs H Q => (∃ i, xs = [.int i] ∧ Q (.int i) H) ∨ ∃ k, xs = [.bl k] ∧ Q (.int (if k then 1 else 0)) H) (tCons ta tNil)) σ H (.int i) := fun H1 e Q q =>
  ha H1 e _ fun H2 e2 => .inl ⟨i, rfl, q H2 e2⟩
/-- tuple(list) -/
def rTupOf (K : PySem.W.Frag) : List V → Hp → VK → Prop := fun xs H Q => ∃ p ys, xs = [.ref p] ∧ ((SqL K H p ys ∧ ∀ l, H l = none → Q (.ref l) (upd H l (.tup ys))) ∨ (SqT K H p ys ∧ Q (.ref p) H))
theorem eu_tupleN {xs : List V} (ha : EvL ta σ H xs) : EvU (tCB (rTupOf K) (tCons ta tNil)) σ H xs := fun H1 e Q q =>
  ha H1 e _ fun p H2 hp e2 h2 => ⟨p, xs, rfl, .inl ⟨sq_of h2, fun l hl => q l _ (fresh_back e2 hl) (e2.trans (Ex.new hl)) upd_same⟩⟩
theorem eu_tupleL {a : Addr} {xs : List V} (ha : Ev ta σ H (.ref a)) (hx : SqL K H a xs) : EvU (tCB (rTupOf K) (tCons ta tNil)) σ H xs := fun H1 e Q q =>
  ha H1 e _ fun H2 e2 => ⟨a, xs, rfl, .inl ⟨ex_l (e.trans e2) hx, fun l hl => q l _ (fresh_back e2 hl) (e2.trans (Ex.new hl)) upd_same⟩⟩
/-- xs + ys of two lists, xs * k -/
theorem el_cat {xs ys : List V} (ha : EvL ta σ H xs) (hb : EvL tb σ H ys) (hz : xs.length + ys.length ≤ 100000) : EvL (tOp rCat ta tb) σ H (xs ++ ys) := fun H1 e Q k =>
  ha H1 e _ fun p H2 hp0 e2 hp => hb H2 (e.trans e2) _ fun q H3 _ e3 hq => ⟨p, q, xs, ys, rfl, rfl, e3 p _ hp, hq, sz_of hz, fun l hl => k l _ (fresh_back (e2.trans e3) hl) ((e2.trans e3).trans (Ex.new hl)) upd_same⟩
theorem el_catL {a : Addr} {xs ys : List V} (ha : Ev ta σ H (.ref a)) (hx : H a = some (.lst xs)) (hb : EvL tb σ H ys) (hz : xs.length + ys.length ≤ 100000) : EvL (tOp rCat ta tb) σ H (xs ++ ys) := fun H1 e Q k =>
  ha H1 e _ fun H2 e2 => hb H2 (e.trans e2) _ fun q H3 _ e3 hq => ⟨a, q, xs, ys, rfl, rfl, ((e.trans e2).trans e3) a _ hx, hq, sz_of hz, fun l hl => k l _ (fresh_back (e2.trans e3) hl) ((e2.trans e3).trans (Ex.new hl)) upd_same⟩
theorem ev_ixL {p : Addr} {xs : List V} {i : Int} (ha : Ev ta σ H (.ref p)) (hi : Ev tb σ H (.int i)) (h : SqL K H p xs) (he : atI xs i = some v) : Ev (tOp (rIxL K) ta tb) σ H v := ev_op ha hi (rv_ixL h he)
theorem ev_ixT {p : Addr} {xs : List V} {i : Int} (ha : Ev ta σ H (.ref p)) (hi : Ev tb σ H (.int i)) (h : SqT K H p xs) (he : atI xs i = some v) : Ev (tOp (rIxT K) ta tb) σ H v := ev_op ha hi (rv_ixT h he)
theorem rv_eqI {i j : Int} : RV rEq (.int i) (.int j) H (.bl (decide (i = j))) := fun H1 _ Q q => ⟨rfl, by
  have e : decide (V.int i = V.int j) = decide (i = j) := by
    by_cases c : i = j
    · subst c; simp
    · rw [decide_eq_false c, decide_eq_false fun z => c (V.int.inj z)]
  rw [e]
  exact q H1 (Ex.refl H1)⟩
theorem rv_neI {i j : Int} : RV rNe (.int i) (.int j) H (.bl (!decide (i = j))) := fun H1 _ Q q => ⟨rfl, by
  have e : decide (V.int i = V.int j) = decide (i = j) := by
    by_cases c : i = j
    · subst c; simp
    · rw [decide_eq_false c, decide_eq_false fun z => c (V.int.inj z)]
  rw [e]
  exact q H1 (Ex.refl H1)⟩
end

/-! ### rules with the written part told (within a comprehension the frame is another) -/
section
variable {X : Cx} (K : PySem.W.Frag)
theorem cLen (h : X.K = K := by rfl) : CallR X (.builtin "len") (rLenS K) := h ▸ call_len_seq
theorem cSum (h : X.K = K := by rfl) (hc : X.calm = true := by rfl) : CallR X (.builtin "sum") (rSum K) := h ▸ cr_sum hc
theorem cMax (h : X.K = K := by rfl) (hc : X.calm = true := by rfl) : CallR X (.builtin "max") (rMax K) := h ▸ cr_max hc
theorem cMin (h : X.K = K := by rfl) (hc : X.calm = true := by rfl) : CallR X (.builtin "min") (rMin K) := h ▸ cr_min hc
theorem iL (h : X.K = K := by rfl) : IxR X (rIxL K) := h ▸ ix_list
theorem iT (h : X.K = K := by rfl) : IxR X (rIxT K) := h ▸ ix_tup
theorem cTup (h : X.K = K := by rfl) : CallR X (.type "tuple") (rTupOf K) := h ▸ call_tuple_of
theorem cList (h : X.K = K := by rfl) : CallR X (.type "list") (rListS K) := h ▸ call_list_of
theorem slL (h : X.K = K := by rfl) : SlR X (rSlL K) := h ▸ sl_list
theorem slT (h : X.K = K := by rfl) : SlR X (rSlA K) := h ▸ sl_tupA
theorem mCount (h : X.K = K := by rfl) : MtR X "list.count" (rCntI K) := h ▸ mt_lcount
theorem cIsi (h : X.K = K := by rfl) : CallR X (.builtin "isinstance") (rIsi K) := h ▸ call_isi
theorem cMax2 (hc : X.calm = true := by rfl) : CallR X (.builtin "max") rMax2 := call_max2 hc
theorem cMin2 (hc : X.calm = true := by rfl) : CallR X (.builtin "min") rMin2 := call_min2 hc
end
section
open PySem.Spec PyProof.Rows
variable {X : Cx} {T id : String} {name : Str} {r : V → List V → Hp → VK → Prop} {o e : Expr} {es : List Expr} {to : TE} {t : TA} {apos cpos : Pos}
/-- a built-in method, the written part told -/
theorem pe_bmK (K : PySem.W.Frag) (pa : PlainAttrs T) (slot : Slot T name id) (hty : typeOf (.builtin id) = pure (.type "method_descriptor")) (hm : MtR X id r) (ho : PE X o to) (ha : PA X (e :: es) t)
    (hK : X.K = K := by rfl) (hbase : attributeBase o name X.env (eval o X.env) = eval o X.env := by rfl)
    (hfew : ((backTo cpos (starEach (e :: es) X.env)).all (fun x => !x.1) && (backToKw cpos (keywordEach [] X.env)).all (fun x => x.1.isSome)
      && decide ((e :: es).length + ([] : List Keyword).length + (if ([] : List Keyword).isEmpty then 0 else 1) < 30)) = true := by rfl)
    (hline : (apos.endLine == cpos.line) = true := by rfl) (hs : starEach (e :: es) X.env = (false, eval e X.env) :: starEach es X.env := by rfl) (hplain : (backTo cpos (starEach es X.env)).any (·.1) = false := by rfl) :
    PE X (.Call (.Attribute o name apos) (e :: es) [] cpos) (tBM K T r to t) := hK ▸ pe_bm pa slot hty hm ho ha hbase hfew hline hs hplain
end
end Evl
/-! ## ExN -/
set_option Elab.async false
set_option linter.all false
set_option maxRecDepth 100000
set_option maxHeartbeats 4000000
/-! ### errors whose context is None: raised where nothing is handled -/
namespace K27
open PySem L2 Evl
open PySem.Spec PyProof.Rows
theorem takes0N {X : Cx} : L2N.Takes X (fun _ _ _ _ => False) := fun _ _ z => by
  obtain ⟨_, _, _, _, _, _, _, _, _, _, _, _, _, _, _, _, no⟩ := z
  exact no.elim
section
variable {P : Program} {w : World} {K : PySem.W.Frag} {mg : Str → Option Value} {base : Heap}
/-- a def that may raise such an error -/
theorem okN {x qual : Str} {st : Stmt} {f : Addr} {fd : FuncData} {N ps : List Str} {k : Nat} {sp : Sp} (F : Fun K x qual st f fd) (S : FnScope N ps (defScope st)) (len : ∀ vs H Q E, sp vs H Q E → vs.length = ps.length)
    (body : ∀ (cdv : Value) (A : Around) (outer : List Env) (s : Shared) (H : Hp) (vs : List V) (Q : VK) (E : XK), Room k (A.deeper (envOfC qual (defScope st) s.heap.objs.size f cdv)) → sp vs H Q E →
      ∃ t, PSs (cxOf (L2N.CX P w) P w K mg base N qual (defScope st) f cdv A outer s H E) (defBody st) t ∧ t { nx := fun _ G => Q .non G, rt := Q } (start N vs) H) : FnOk P w K mg base (L2N.CX P w) (k + 1) f fd ps sp := by
  obtain ⟨c1, c2, c3, c4, c5, c6, c7, c8, c9, rfl, a1, a2⟩ := F.ex
  exact fn_of a1 a2 S len fun A outer s H vs Q E hr hs => body c7 A outer s H vs Q E hr hs
/-- a def that is called while an error is handled -/
theorem okH {x qual : Str} {st : Stmt} {f : Addr} {fd : FuncData} {N ps : List Str} {k : Nat} {sp : Sp} (F : Fun K x qual st f fd) (S : FnScope N ps (defScope st)) (len : ∀ vs H Q E, sp vs H Q E → vs.length = ps.length)
    (body : ∀ (cdv : Value) (A : Around) (outer : List Env) (s : Shared) (H : Hp) (vs : List V) (Q : VK) (E : XK) (p : Addr × Obj), L2H.RoomH k (A.deeper (envOfC qual (defScope st) s.heap.objs.size f cdv)) → sp vs H Q E →
      ∃ t, PSs (L2H.cxH CX0 P w K mg base N qual (defScope st) f cdv A outer s H E p) (defBody st) t ∧ t { nx := fun _ G => Q .non G, rt := Q } (start N vs) H) : L2H.FnH P w K mg base CX0 (k + 1) f fd ps sp := by
  obtain ⟨c1, c2, c3, c4, c5, c6, c7, c8, c9, rfl, a1, a2⟩ := F.ex
  exact L2H.fn_ofH a1 a2 S len fun A outer s H vs Q E p _ hr hs => body c7 A outer s H vs Q E p hr hs
end
/-- C(e, ..), C with an own __init__ -/
theorem mkN {X : Cx} {CX : CXT} {x : Str} {e : Expr} {es : List Expr} {ta : TA} {p1 p2 : Pos} {C fI : Addr} {k : Nat} {fd : FuncData} {ps : List Str} {sp : Sp} (T : OexC X.K C) (i1 : PySem.W.findIn X.K (.ref C) "__init__" = some (some (.ref fI))) (i2 : PySem.W.typeIn X.K (.ref fI) = some (.type "function"))
    (F : FnOk X.prog X.w X.K X.mg X.base CX k fI fd ps sp) (hr : Room (k + 1) X.A) (hb : Binds X.K fd ps []) (hx : Passes CX X (fun _ _ _ => False)) (g1 : Gl X x) (g2 : X.mg x = some (.ref C)) (ha : PA X (e :: es) ta) (g3 : (x == ("__debug__" : Str)) = false := by decide)
    (g4 : starEach (e :: es) X.env = (false, eval e X.env) :: starEach es X.env := by rfl) (g5 : (backTo p2 (starEach es X.env)).any (·.1) = false := by rfl) : L2N.PMk X (.Call (.Name x p1) (e :: es) [] p2) (tMkO C sp [] ta) := by
  intro pins s σ H Q I h
  obtain ⟨n1, n2, n3, n4, n5, n6, n7, n8, n9, m0, m1, m2, m3, m4, m5, lC, lb⟩ := T.cls
  refine wpAny_Call_Name_kw (ld_glob I g1 g2 ?_ g3)
  refine PySem.W.callWith_K (h₀ := X.base) I.ok.mod.kin T.kC (thn (ha.run p2 pins s σ H _ I h) fun us z ⟨vs, G, J, rv, few, q⟩ => ⟨J.kIn, ?_⟩) g4 g5
  show wpAny _ _ (call (.ref C) us) _ _ _
  obtain ⟨hp, g, dr, tk, os⟩ := z
  have le1 : hp.objs.size ≤ hp.objs.size + 1 := Nat.le_succ _
  have free : G (hp.objs.size + 1) = none := J.hok.fresh le1
  have wish := q (hp.objs.size + 1) free
  rw [List.append_nil] at wish
  have keep : ∀ b o, hp.get? b = some o → ((hp.push (PySem.W.kdv_tup us)).push (PySem.HandSPX.excO C hp.objs.size)).get? b = some o := fun b o y => Heap.get?_push_of_some _ (Heap.get?_push_of_some _ y)
  have there : ((hp.push (PySem.W.kdv_tup us)).push (PySem.HandSPX.excO C hp.objs.size)).get? (hp.objs.size + 1) = some (PySem.HandSPX.excO C hp.objs.size) := by heap_get
  have J2 : Inv X pins σ (upd G (hp.objs.size + 1) (exo (hp.objs.size + 1) C none)) ⟨(hp.push (PySem.W.kdv_tup us)).push (PySem.HandSPX.excO C hp.objs.size), g, dr, tk, os⟩ :=
    J.laid (t' := tk) (a := hp.objs.size + 1) (o := exo (hp.objs.size + 1) C none) (h' := (hp.push (PySem.W.kdv_tup us)).push (PySem.HandSPX.excO C hp.objs.size)) keep le1 (exo_ok there)
  have rv2 : Vals (V.ref (hp.objs.size + 1) :: vs) (Value.ref (hp.objs.size + 1) :: us) := .cons rfl rv
  have ln : (Value.ref (hp.objs.size + 1) :: us ++ []).length = ps.length := by
    have y := rv2.length
    rw [F.len _ _ _ _ wish] at y
    rw [List.append_nil]
    exact y.symm
  have fit : us.length ≤ sizeLine := by
    rw [← Paired.length rv, sizeLine_eq]
    omega
  have bb := hb _ (Value.ref (hp.objs.size + 1) :: us) J2.kIn ln
  rw [List.append_nil] at bb
  refine wpAny_call (PySem.HandSPX.call_own PySem.F.excBase_ValueError (fun Y => PySem.HandSPX.refsVE_contains Y n5 lb) (J.kIn _ _ lC) (PySem.W.looks_findIn J.kIn i1) (fun me => PySem.W.bind_fn J.kIn me i2) fit
    (codeAny_mono (F.run _ X.stack _ _ ⟨Value.ref (hp.objs.size + 1) :: us, []⟩ (Value.ref (hp.objs.size + 1) :: us) _ _ (fun _ _ _ => False) (hr.make C us []) (J2.env0.make C us []) bb rv2 wish) fun r y hq => ?_))
  cases r with
  | error er => exact hx pins σ _ _ er y J2 hq
  | ok fl =>
    cases fl with
    | ret u =>
      obtain ⟨v, G2, os2, bare2, un2, hok2, rw2, ev, d, fs, ea, ed, hd1, q2⟩ := hq
      subst ev
      obtain ⟨h2, gg, d2, t2, os3⟩ := y
      obtain ⟨t0, B, JB, kB, ge, hoe, na⟩ := mk_end0 (d2 := d2) (t2 := t2) J le1 keep un2 hok2 os2 bare2 ea ed hd1
      refine ⟨rw2, ⟨hp.objs.size + 1, _, _, ⟨B, gg, d2, t2, os3⟩, _, .ref C, some d, rfl, JB, kB, ge, hoe, ⟨rfl, rfl, fun as has => ?_⟩, rfl, rfl, na, rfl, bare2, raises_own T.exC T.tyC, q2⟩⟩
      cases has
      rfl
    | next => exact False.elim hq
    | brk => exact False.elim hq
    | cont => exact False.elim hq
/-- the suite bears the error that is handled -/
theorem hotS {X : Cx} {a : Addr} {oe : Obj} {cls : Value} {d : Option Addr} {pn : List (Addr × Obj)} (hz : L2N.Zn cls d oe) (hf : ∃ vs, oe.data = .fields vs) : L2H.HotC (X.suite a ((a, oe) :: pn)) := by
  obtain ⟨vs, hv⟩ := hf
  exact ⟨(a, oe), ⟨rfl, vs, hv, hz.2.2 vs hv⟩, List.mem_cons_self⟩
end K27
/-! ## Rul -/
set_option Elab.async false
set_option linter.all false
set_option maxRecDepth 100000
set_option maxHeartbeats 4000000
namespace K27
open PySem L2 Evl
open PySem.Spec PyProof.Rows
/-! ### new tuples that have no dict of their own: their count may be asked -/
def TupN (H : Hp) (p : Addr) (xs : List V) : Prop := ∃ o : Obj, o.dict = none ∧ H p = some (.frz o (.tup xs))
theorem TupN.sq {K : PySem.W.Frag} {H : Hp} {p : Addr} {xs : List V} (h : TupN H p xs) : SqT K H p xs := by
  obtain ⟨o, _, e⟩ := h
  exact Or.inl (Or.inr ⟨o, e⟩)
theorem TupN.mono {H H' : Hp} {p : Addr} {xs : List V} (e : Ex H H') (h : TupN H p xs) : TupN H' p xs := by
  obtain ⟨o, d, a⟩ := h
  exact ⟨o, d, e _ _ a⟩
def newT (its : List Value) : Obj := { cls := .type "tuple", data := .seq its.toArray }
/-- tuple(list) -/
def rTupF (K : PySem.W.Frag) : List V → Hp → VK → Prop := fun xs H Q => ∃ p ys, xs = [.ref p] ∧ SqL K H p ys ∧ ∀ l H', Ex H H' → H l = none → TupN H' l ys → Q (.ref l) H'
theorem call_tupF {X : Cx} : CallR X (.type "tuple") (rTupF X.K) := by
  intro pins s σ H xs us Q I r h
  obtain ⟨p, ys, rfl, hq, q⟩ := h
  obtain ⟨u, rfl, rx⟩ := vals1 r
  cases rx
  obtain ⟨its, rl, pl, hz⟩ := I.list hq
  have hlen := rl.length
  refine call_tuple_list pl.isList (fun g kp => ?_) (by simp only [List.size_toArray]; omega)
  have J : Inv X pins σ H { s with heap := g } := I.kept (t' := s.toks) kp
  have fr : H g.objs.size = none := J.hok.fresh (Nat.le_refl _)
  have ok : ObjOk X.prog X.w (upd H g.objs.size (.frz (newT its) (.tup ys))) (g.push (newT its)) g.objs.size (.frz (newT its) (.tup ys)) :=
    ⟨Heap.get?_push_size _ rfl, hz, its, rl, IsTup.new _ _⟩
  exact ⟨.ref g.objs.size, _, J.laid (t' := s.toks) (fun b o e => Heap.get?_push_of_some _ e) (Nat.le_refl _) ok, rfl, q _ _ (Ex.new fr) fr ⟨_, rfl, upd_same⟩⟩
theorem cTupF {X : Cx} (K : PySem.W.Frag) (h : X.K = K := by rfl) : CallR X (.type "tuple") (rTupF K) := h ▸ call_tupF
/-- (a, b, ..) -/
def tTupF (t : TA) : TE := fun σ H Q => t σ H fun xs H1 => xs.length ≤ sizeLine ∧ ∀ p H', Ex H1 H' → H1 p = none → TupN H' p xs → Q (.ref p) H'
theorem pe_tupF {X : Cx} {es : List Expr} {pos : Pos} {t : TA} {c} (h : PA X es t) : PE X (.Tuple es c pos) (tTupF t) := by
  refine ⟨fun pins s σ H Q I hq => ?_⟩
  refine wpAny_Tuple_spliced (thn (h.run pos pins s σ H _ I hq) fun us g ⟨xs, G, J, r, z, q⟩ => ⟨by rw [← r.length]; exact z, ?_⟩)
  have fr : G g.heap.objs.size = none := J.hok.fresh (Nat.le_refl _)
  exact ⟨.ref g.heap.objs.size, upd G g.heap.objs.size (.frz (newT us) (.tup xs)), J.laid (t' := g.toks) (fun b u e => Heap.get?_push_of_some _ e) (Nat.le_refl _) ⟨Heap.get?_push_size _ rfl, z, us, r, ⟨_, Heap.get?_push_size _ rfl, rfl, _, rfl⟩⟩, rfl, q _ _ (Ex.new fr) fr ⟨_, rfl, upd_same⟩⟩
theorem oIn {X : Cx} (K : PySem.W.Frag) (h : X.K = K := by rfl) : OpR X (compareOp .In) (rIn K false) := h ▸ op_in_seq
theorem oNi {X : Cx} (K : PySem.W.Frag) (h : X.K = K := by rfl) : OpR X (compareOp .NotIn) (rIn K true) := h ▸ op_notIn_seq
/-- a method of such a tuple -/
def tBMT (r : V → List V → Hp → VK → Prop) (to : TE) (t : TA) : TE := fun σ H Q => to σ H fun x H1 => (∃ p ys, x = .ref p ∧ TupN H1 p ys) ∧ t σ H1 fun xs H2 => r x xs H2 Q
section
variable {X : Cx} {id : String} {nm : Str} {r : V → List V → Hp → VK → Prop} {a b : Expr} {bs : List Expr} {ta : TE} {tb : TA} {p1 p2 : Pos}
theorem pe_bmT (sl : Slot "tuple" nm id) (ty : typeOf (.builtin id) = pure (.type "method_descriptor")) (hm : MtR X id r) (ha : PE X a ta) (hb : PA X (b :: bs) tb) (h1 : attributeBase a nm X.env (eval a X.env) = eval a X.env := by rfl)
    (h2 : ((backTo p2 (starEach (b :: bs) X.env)).all (fun x => !x.1) && (backToKw p2 (keywordEach [] X.env)).all (fun x => x.1.isSome) && decide ((b :: bs).length + ([] : List Keyword).length + (if ([] : List Keyword).isEmpty then 0 else 1) < 30)) = true := by rfl)
    (h3 : (p1.endLine == p2.line) = true := by rfl) (h4 : starEach (b :: bs) X.env = (false, eval b X.env) :: starEach bs X.env := by rfl) (h5 : (backTo p2 (starEach bs X.env)).any (·.1) = false := by rfl) :
    PE X (.Call (.Attribute a nm p1) (b :: bs) [] p2) (tBMT r ta tb) := by
  refine ⟨fun pins s σ H Q I h => ?_⟩
  refine wpAny_Call_method_late h1 h2 h3 rfl (thn (ha.run pins s σ H _ I h) fun v g ⟨x, G, J, rx, ⟨p, ys, ex, o0, hd, hp⟩, q⟩ => ?_)
  subst ex
  cases rx
  obtain ⟨hg, _, _, _, o2, k2, hcl, _⟩ := J.hok p _ hp
  have hc0 : o0.cls = .type "tuple" := by rw [hg] at k2; cases k2; exact hcl
  refine ⟨"tuple", id, PySem.F.plainAttrs_tuple, sl, ty, ⟨o0, hg, hc0⟩, fun d ed => (by cases ed; exact ⟨o0, hg, hd⟩), ?_⟩
  have hA := hb.run p2 pins g σ G _ J q
  rw [h4] at hA ⊢
  exact Calls.callWith_builtin (by show (false || (backTo p2 (starEach bs X.env)).any (·.1)) = false; rw [h5]; rfl) (Calls.evalArgs_plain (thn hA fun us z ⟨vs, G2, J2, r2, q2⟩ => hm pins z σ G2 (.ref p) vs (.ref p) us Q J2 rfl r2 q2))
end
/-- t.count(k), ints -/
def rCntT (K : PySem.W.Frag) : V → List V → Hp → VK → Prop := fun x xs H Q => ∃ (p : Addr) (ns : List Int) (k : Int), x = .ref p ∧ xs = [.int k] ∧ SqT K H p (iv ns) ∧ Q (.int ((ns.count k : Nat) : Int)) H
theorem mt_tcnt {X : Cx} : MtR X "tuple.count" (rCntT X.K) := by
  intro pins s σ H x xs v us Q I rx rxs h
  obtain ⟨p, ns, k, rfl, rfl, hs, q⟩ := h
  cases rx
  obtain ⟨u, rfl, t, rfl⟩ := vals1 rxs
  obtain ⟨its, rl, ⟨⟨oc, od, oda, osl⟩, ho, h1, n, h2⟩, hz⟩ := I.tuple hs
  simp only at h1 h2
  subst h1 h2
  have hi := ints_of_vals rl
  refine call_meets PySem.F.slot_tuple_count ⟨_, ho, rfl⟩ PySem.F.entry_tuple_count (PySem.F.args_tuple_count_2 _ _) (SeqAt.tuple_countAt p its.toArray n od osl (.int k t) (eqk k)) ⟨ho, fun y hy => (eqk_gives hi y (by simpa using hy)).at _ _, ?_⟩
  refine ⟨.int ((ns.count k : Nat) : Int), H, I.tok _, ⟨s.toks, ?_⟩, q⟩
  show Value.int ((its.toArray.toList.countP (eqk k) : Nat) : Int) s.toks = _
  rw [show its.toArray.toList.countP (eqk k) = ns.count k from eqk_count hi]
theorem mCntT {X : Cx} (K : PySem.W.Frag) (h : X.K = K := by rfl) : MtR X "tuple.count" (rCntT K) := h ▸ mt_tcnt
/-- max(t, default=d), a tuple of ints -/
def mxd (d : Int) : List Int → Int
  | [] => d
  | n :: r => r.foldl max n
theorem foldl_max_le (g : Int) : ∀ (r : List Int) (n : Int), r.foldl max n ≤ g ↔ n ≤ g ∧ ∀ x ∈ r, x ≤ g
  | [], n => by simp
  | y :: r, n => by
    rw [List.foldl_cons, foldl_max_le g r (max n y)]
    constructor
    · rintro ⟨a, b⟩
      exact ⟨by omega, fun x hx => (List.mem_cons.mp hx).elim (fun e => by subst e; omega) (b x)⟩
    · rintro ⟨a, b⟩
      exact ⟨by have := b y (by simp); omega, fun x hx => b x (by simp [hx])⟩
theorem mxd_le {g : Int} (h : 0 ≤ g) (ns : List Int) : mxd 0 ns ≤ g ↔ ∀ x ∈ ns, x ≤ g := by
  cases ns with
  | nil => simp [mxd, h]
  | cons n r =>
    show r.foldl max n ≤ g ↔ _
    rw [foldl_max_le]
    simp
def rMaxD (K : PySem.W.Frag) : List V → List V → Hp → VK → Prop := fun xs zs H Q => ∃ (p : Addr) (ns : List Int) (d : Int), xs = [.ref p] ∧ zs = [.int d] ∧ SqT K H p (iv ns) ∧ Q (.int (mxd d ns)) H
theorem intsRead {h : Heap} : ∀ {ns : List Int} {us : List Value}, Vals (iv ns) us → ∃ as, ReadsAll h us (ns.map .int) as
  | [], _, .nil => ⟨_, .nil⟩
  | n :: r, _, .cons e t => by
    obtain ⟨k, rfl⟩ := e
    obtain ⟨as, b⟩ := intsRead t
    exact ⟨_, .cons (.int n k) b⟩
theorem alikeInts (ns : List Int) : PySem.W.AlikeAll (ns.map PyData.int) := by
  refine ⟨fun x hx y hy => ?_, fun x hx => ?_⟩
  · obtain ⟨i, _, rfl⟩ := List.mem_map.mp hx
    obtain ⟨j, _, rfl⟩ := List.mem_map.mp hy
    rfl
  · obtain ⟨i, _, rfl⟩ := List.mem_map.mp hx
    exact fun z => nomatch z
theorem depthInts : ∀ ns : List Int, PyData.depthAll (ns.map PyData.int) ≤ 1
  | [] => by simp [PyData.depthAll]
  | n :: r => by
    have := depthInts r
    rw [List.map_cons]
    unfold PyData.depthAll
    show max _ _ ≤ 1
    have e : (PyData.int n).depth ≤ 1 := Nat.le_of_ble_eq_true rfl
    omega
theorem cr_maxD {X : Cx} (hr : X.A.units + 2 < cLine) (hc : X.calm = true) : CallRK X (.builtin "max") [Str.ofString "default"] (rMaxD X.K) := by
  intro pins s σ H vs zs us ws Q I r rz h
  obtain ⟨p, ns, d, rfl, rfl, hs, q⟩ := h
  obtain rfl := Vals.ref1 r
  obtain ⟨w1, rfl, t, rfl⟩ := vals1 rz
  obtain ⟨its, rl, it, hz⟩ := I.tuple hs
  obtain ⟨as, ra⟩ := intsRead (h := s.heap) rl
  have hu : X.A.units + 1 + PyData.depthAll (ns.map PyData.int) < cLine := by
    have := depthInts ns
    omega
  refine PySem.W.max_tuple_default (vs := its.toArray) (I.ok.hd hc) ?_ (by simpa using ra) (alikeInts ns) hu (fun e g tk k => ?_) fun y ys i v g tk bs e hi rv k => ?_
  · exact it
  · have e2 : ns = [] := List.map_eq_nil_iff.mp e
    subst e2
    exact ⟨.int d, H, I.kept k, ⟨t, rfl⟩, q⟩
  · cases ns with
    | nil => cases e
    | cons n r =>
      rw [List.map_cons] at e
      injection e with e1 e2
      subst e1
      subst e2
      rw [PySem.W.maxD_ints] at rv
      cases rv
      exact ⟨.int (mxd d (n :: r)), H, I.kept k, ⟨_, rfl⟩, q⟩
section
variable {K : PySem.W.Frag} {σ : L2.St} {H : Hp} {ta tb : TE} {t u : TT}
theorem et_orT (h : EvT t σ H true) : EvT (tOr t u) σ H true := fun H1 e Q q => h H1 e _ fun H2 e2 => q H2 e2
theorem et_andF (h : EvT t σ H false) : EvT (tAnd t u) σ H false := fun H1 e Q q => h H1 e _ fun H2 e2 => q H2 e2
theorem ev_andF (h : Ev ta σ H (.bl false)) : Ev (tAndV ta tb) σ H (.bl false) := fun H1 e Q q => h H1 e _ fun H2 e2 => ⟨false, rfl, q H2 e2⟩
theorem ev_orVT (h : Ev ta σ H (.bl true)) : Ev (tOrV ta tb) σ H (.bl true) := fun H1 e Q q => h H1 e _ fun H2 e2 => ⟨true, rfl, q H2 e2⟩
theorem ev_all {bs : List Bool} (h : EvL ta σ H (bs.map V.bl)) : Ev (tCB (rAll K) (tCons ta tNil)) σ H (.bl (bs.all id)) := fun H1 e Q q => h H1 e _ fun p H2 _ e2 hp => ⟨p, bs, rfl, sq_of hp, q H2 e2⟩
/-- a tuple made new, its own dict none -/
def EvF (te : TE) (σ : L2.St) (H : Hp) (xs : List V) : Prop := ∀ H1, Ex H H1 → ∀ Q : VK, (∀ p H2, H1 p = none → Ex H1 H2 → TupN H2 p xs → Q (.ref p) H2) → te σ H1 Q
theorem ef_tup {ta : TA} {xs : List V} (h : EvA ta σ H xs) (hz : xs.length ≤ 100000) : EvF (tTupF ta) σ H xs := fun H1 e Q q => h H1 e _ fun H2 e2 => ⟨sz_of hz, fun p H3 e3 hp h3 => q p H3 (fresh_back e2 hp) (e2.trans e3) h3⟩
theorem ef_list {xs : List V} {a : Addr} (h : Ev ta σ H (.ref a)) (hx : SqL K H a xs) : EvF (tCB (rTupF K) (tCons ta tNil)) σ H xs := fun H1 e Q q =>
  h H1 e _ fun H2 e2 => ⟨a, xs, rfl, ex_l (e.trans e2) hx, fun l H3 e3 hl h3 => q l H3 (fresh_back e2 hl) (e2.trans e3) h3⟩
theorem ef_listN {xs : List V} (h : EvL ta σ H xs) : EvF (tCB (rTupF K) (tCons ta tNil)) σ H xs := fun H1 e Q q =>
  h H1 e _ fun p H2 hp e2 h2 => ⟨p, xs, rfl, sq_of h2, fun l H3 e3 hl h3 => q l H3 (fresh_back e2 hl) (e2.trans e3) h3⟩
theorem EvF.mono {H' : Hp} {te : TE} {xs : List V} (e : Ex H H') (h : EvF te σ H xs) : EvF te σ H' xs := fun H1 e1 Q q => h H1 (e.trans e1) Q q
theorem ef_is {te : TE} {xs ys : List V} (h : EvF te σ H xs) (e : xs = ys) : EvF te σ H ys := e ▸ h
end
section
variable {K : PySem.W.Frag} {σ : L2.St} {H : Hp} {te : TE} {t : L2.TT} {D : Ends} {tz : TS}
/-- [e for k in range(lo, n) if t] -/
theorem el_lcR2 {ta : TA} {j : Nat} {vs : List Nat} {lo n : Int} (f : Nat → Bool) (v : Nat → V) (h : EvA ta σ H [.int lo, .int n]) (hn : 0 ≤ lo ∧ lo ≤ 40000 ∧ -40000 ≤ n ∧ n ≤ 40000) (hw : ∀ x, wipe ((wipe σ vs).set j (some x)) vs = wipe σ vs)
    (ht : ∀ (i : Nat) H1, Ex H H1 → lo + (i : Int) < n → EvT t ((wipe σ vs).set j (some (.int (lo + (i : Int))))) H1 (f i)) (he : ∀ (i : Nat) H1, Ex H H1 → lo + (i : Int) < n → f i = true → Ev te ((wipe σ vs).set j (some (.int (lo + (i : Int))))) H1 (v i)) :
    EvL (tLc (iRng2 ta) (gName j) t te vs) σ H (given (n - lo).toNat f v) := fun H0 e Q q => h H0 e _ fun H1 e1 => ⟨lo, n, rfl, ⟨by omega, by omega, by omega, by omega⟩, fun Dl hD =>
  lc_range (lo := lo) (n := (n - lo).toNat) (Cw H1 f v Dl) ⟨hD, Ex.new hD, upd_same⟩ (fun i H' hi p => ⟨hw _, cw_turn p (by omega) (ht i H1 (e.trans e1) (by omega)) (fun hf => he i H1 (e.trans e1) (by omega) hf)⟩) (fun H' p => q Dl H' (fresh_back e1 p.1) (e1.trans p.2.1) p.2.2)⟩
theorem s_retF {xs : List V} (h : EvF te σ H xs) (k : ∀ p H1, H p = none → Ex H H1 → TupN H1 p xs → D.rt (.ref p) H1) : tRet te D σ H := h H (Ex.refl H) _ k
theorem q_asgF {i : Nat} {xs : List V} (h : EvF te σ H xs) (k : ∀ p H1, H p = none → Ex H H1 → TupN H1 p xs → tz D (σ.set i (some (.ref p))) H1) : tSeq (tAsg te (gName i)) tz D σ H := h H (Ex.refl H) _ k
end
theorem cAll {X : Cx} (K : PySem.W.Frag) (h : X.K = K := by rfl) (hc : X.calm = true := by rfl) : CallR X (.builtin "all") (rAll K) := h ▸ cr_all hc
end K27
/-! ## D2 -/
set_option Elab.async false
set_option linter.all false
set_option maxRecDepth 100000
set_option maxHeartbeats 4000000
namespace K27
open PySem L2 Evl
/-- a value of a kind that isinstance is asked of -/
inductive Any (H : Hp) : V → Prop where
  | non : Any H .non
  | bl (b : Bool) : Any H (.bl b)
  | int (i : Int) : Any H (.int i)
  | str (s : Str) : Any H (.str s)
  | lst {a : Addr} {xs : List V} (h : H a = some (.lst xs)) : Any H (.ref a)
  | tup {a : Addr} {xs : List V} (h : H a = some (.tup xs)) : Any H (.ref a)
  | ftup {a : Addr} {o : Obj} {xs : List V} (h : H a = some (.frz o (.tup xs))) : Any H (.ref a)
theorem Any.mono {H H' : Hp} {x : V} (e : Ex H H') (h : Any H x) : Any H' x := by
  cases h with
  | non => exact .non
  | bl b => exact .bl b
  | int i => exact .int i
  | str s => exact .str s
  | lst h => exact .lst (e _ _ h)
  | tup h => exact .tup (e _ _ h)
  | ftup h => exact .ftup (e _ _ h)
def isI : V → Bool
  | .int _ => true
  | _ => false
def isB : V → Bool
  | .bl _ => true
  | _ => false
def isS : V → Bool
  | .str _ => true
  | _ => false
/-- isinstance(thing, int), isinstance(thing, bool) -/
theorem isi_int {K : PySem.W.Frag} {H : Hp} {x : V} {Q : VK} (h : Any H x) (q : Q (.bl (isI x || (isB x))) H) : rIsi K [x, .ty "int"] H Q := by
  cases h with
  | non => exact ⟨_, _, _, _, false, rfl, .ty "int", .base .non, kit_ty (by decide +kernel), q⟩
  | bl b => exact ⟨_, _, _, _, true, rfl, .ty "int", .base (.bl b), kit_ty (by decide +kernel), q⟩
  | int i => exact ⟨_, _, _, _, true, rfl, .ty "int", .base (.int i), kit_ty (by decide +kernel), q⟩
  | str s => exact ⟨_, _, _, _, false, rfl, .ty "int", .base (.str s), kit_ty (by decide +kernel), q⟩
  | lst h => exact ⟨_, _, _, _, false, rfl, .ty "int", .base (.lst h), kit_ty (by decide +kernel), q⟩
  | tup h => exact ⟨_, _, _, _, false, rfl, .ty "int", .base (.tup h), kit_ty (by decide +kernel), q⟩
  | ftup h => exact ⟨_, _, _, _, false, rfl, .ty "int", .fTuple h, kit_ty (by decide +kernel), q⟩
theorem isi_bool {K : PySem.W.Frag} {H : Hp} {x : V} {Q : VK} (h : Any H x) (q : Q (.bl (isB x)) H) : rIsi K [x, .ty "bool"] H Q := by
  cases h with
  | non => exact ⟨_, _, _, _, false, rfl, .ty "bool", .base .non, kit_ty (by decide +kernel), q⟩
  | bl b => exact ⟨_, _, _, _, true, rfl, .ty "bool", .base (.bl b), kit_ty (by decide +kernel), q⟩
  | int i => exact ⟨_, _, _, _, false, rfl, .ty "bool", .base (.int i), kit_ty (by decide +kernel), q⟩
  | str s => exact ⟨_, _, _, _, false, rfl, .ty "bool", .base (.str s), kit_ty (by decide +kernel), q⟩
  | lst h => exact ⟨_, _, _, _, false, rfl, .ty "bool", .base (.lst h), kit_ty (by decide +kernel), q⟩
  | tup h => exact ⟨_, _, _, _, false, rfl, .ty "bool", .base (.tup h), kit_ty (by decide +kernel), q⟩
  | ftup h => exact ⟨_, _, _, _, false, rfl, .ty "bool", .fTuple h, kit_ty (by decide +kernel), q⟩
theorem isi_str {K : PySem.W.Frag} {H : Hp} {x : V} {Q : VK} (h : Any H x) (q : Q (.bl (isS x)) H) : rIsi K [x, .ty "str"] H Q := by
  cases h with
  | non => exact ⟨_, _, _, _, false, rfl, .ty "str", .base .non, kit_ty (by decide +kernel), q⟩
  | bl b => exact ⟨_, _, _, _, false, rfl, .ty "str", .base (.bl b), kit_ty (by decide +kernel), q⟩
  | int i => exact ⟨_, _, _, _, false, rfl, .ty "str", .base (.int i), kit_ty (by decide +kernel), q⟩
  | str s => exact ⟨_, _, _, _, true, rfl, .ty "str", .base (.str s), kit_ty (by decide +kernel), q⟩
  | lst h => exact ⟨_, _, _, _, false, rfl, .ty "str", .base (.lst h), kit_ty (by decide +kernel), q⟩
  | tup h => exact ⟨_, _, _, _, false, rfl, .ty "str", .base (.tup h), kit_ty (by decide +kernel), q⟩
  | ftup h => exact ⟨_, _, _, _, false, rfl, .ty "str", .fTuple h, kit_ty (by decide +kernel), q⟩
/-- the type's name as a value -/
theorem pe_ty_int {X : Cx} {mg : Str → Option Value} (T : Txt mg) {pos : Pos} (hg : Gl X "int" := by rfl) (hm : X.mg = mg := by rfl) : PE X (.Name "int" pos) (tC (.ty "int")) := pe_bltn hg (hm ▸ T.int) (by decide +kernel) rfl
theorem pe_ty_bool {X : Cx} {mg : Str → Option Value} (T : Txt mg) {pos : Pos} (hg : Gl X "bool" := by rfl) (hm : X.mg = mg := by rfl) : PE X (.Name "bool" pos) (tC (.ty "bool")) := pe_bltn hg (hm ▸ T.bool) (by decide +kernel) rfl
theorem pe_ty_str {X : Cx} {mg : Str → Option Value} (T : Txt mg) {pos : Pos} (hg : Gl X "str" := by rfl) (hm : X.mg = mg := by rfl) : PE X (.Name "str" pos) (tC (.ty "str")) := pe_bltn hg (hm ▸ T.str) (by decide +kernel) rfl
theorem pe_ty_tuple {X : Cx} {mg : Str → Option Value} (T : Txt mg) {pos : Pos} (hg : Gl X "tuple" := by rfl) (hm : X.mg = mg := by rfl) : PE X (.Name "tuple" pos) (tC (.ty "tuple")) := pe_bltn hg (hm ▸ T.tuple) (by decide +kernel) rfl

abbrev s_is_integer : Stmt := top 7
abbrev N_is_integer : List Str := ["thing"]
theorem sc_is_integer : FnScope N_is_integer ["thing"] (defScope s_is_integer) := ⟨rfl, rfl, rfl, by decide +kernel, rfl, by decide +kernel, by decide +kernel⟩
def spIsInteger : Sp := fun vs H Q _ => ∃ x, vs = [x] ∧ Any H x ∧ Q (.bl (isI x)) H
abbrev s_is_number : Stmt := top 8
abbrev N_is_number : List Str := ["thing"]
theorem sc_is_number : FnScope N_is_number ["thing"] (defScope s_is_number) := ⟨rfl, rfl, rfl, by decide +kernel, rfl, by decide +kernel, by decide +kernel⟩
def isN : V → Bool
  | .int i => decide (0 ≤ i)
  | _ => false
def spIsNumber : Sp := fun vs H Q _ => ∃ x, vs = [x] ∧ Any H x ∧ Q (.bl (isN x)) H
section
variable {P : Program} {w : World} {K : PySem.W.Frag} {mg : Str → Option Value} {base : Heap}
theorem ok_is_integer {f : Addr} {fd : FuncData} (F : Fun K "is_integer" "is_integer" s_is_integer f fd) (T : Txt mg) : FnOk P w K mg base CX0 1 f fd ["thing"] spIsInteger := by
  refine F.ok sc_is_integer (fun vs H Q E h => ?_) (fun cdv A outer s H vs Q E hr h => ?_)
  · obtain ⟨_, rfl, _⟩ := h
    rfl
  · obtain ⟨x, rfl, hx, k⟩ := h
    refine ⟨_, (pss_one (ps_ret (pe_and (pe_callB call_isi (by rfl) T.isinstance (by decide +kernel) (pa_cons (pv 0) (pa_cons (pe_ty_int T) pa_nil))) (pe_one (pe_not (pe_callB call_isi (by rfl) T.isinstance (by decide +kernel) (pa_cons (pv 0) (pa_cons (pe_ty_bool T) pa_nil)))))))), ?_⟩
    refine ⟨_, rfl, ?_⟩
    dsimp only [tCons, tNil, tC]
    refine isi_int hx ⟨_, rfl, ?_⟩
    have key : ∀ (b : Bool), b = (isI x || (isB x)) → if b = true then ((tNotV (tCB (rIsi K) (tCons (tVar 0) (tCons (tC (.ty "bool")) tNil)))) (start N_is_integer [x]) H Q) else Q (.bl false) H := by
      intro b hb
      cases b with
      | false =>
        refine iteF ?_
        cases x <;> simp [isI, isB] at hb <;> exact k
      | true =>
        refine iteT ?_
        refine ⟨_, rfl, ?_⟩
        dsimp only [tCons, tNil, tC]
        refine isi_bool hx ⟨_, rfl, ?_⟩
        cases x <;> simp [isI, isB] at hb <;> exact k
    exact key _ rfl
theorem ok_is_number {f : Addr} {fd : FuncData} (F : Fun K "is_number" "is_number" s_is_number f fd) (T : Txt mg) (D_is_integer : Dn P w K mg base CX0 1 "is_integer" ["thing"] spIsInteger) : FnOk P w K mg base CX0 2 f fd ["thing"] spIsNumber := by
  refine F.ok sc_is_number (fun vs H Q E h => ?_) (fun cdv A outer s H vs Q E hr h => ?_)
  · obtain ⟨_, rfl, _⟩ := h
    rfl
  · obtain ⟨x, rfl, hx, k⟩ := h
    refine ⟨_, (pss_one (ps_ret (pe_and (pe_call D_is_integer.ok (hr.mono (by decide)) (by rfl) D_is_integer.g D_is_integer.kp D_is_integer.b .nil pass0 (pa_cons (pv 0) pa_nil)) (pe_one (pe_cmpR op_ge (pv 0) pe_int (nomark _)))))), ?_⟩
    refine ⟨_, rfl, x, rfl, hx, _, rfl, ?_⟩
    cases x with
    | int i => exact iteT ⟨_, rfl, _, _, rfl, rfl, k⟩
    | _ => exact iteF k
end
end K27
/-! ## D8 -/
set_option Elab.async false
set_option linter.all false
set_option maxRecDepth 100000
set_option maxHeartbeats 4000000
namespace K27
open PySem L2 Evl
/-! ### the error -/
abbrev s_nu_init : Stmt := inClass (top 3) 0
abbrev N_nu_init : List Str := ["self", "word", "at"]
theorem sc_nu_init : FnScope N_nu_init ["self", "word", "at"] (defScope s_nu_init) := ⟨rfl, rfl, rfl, by decide +kernel, rfl, by decide +kernel, by decide +kernel⟩
/-- what the top has of the class NotUsable, at C, its __init__ at fI -/
structure Nu (K : PySem.W.Frag) (mg : Str → Option Value) (C fI : Addr) : Prop where
  oex : OexC K C
  xf : XfC K C
  iC : PySem.W.findIn K (.ref C) "__init__" = some (some (.ref fI))
  tI : PySem.W.typeIn K (.ref fI) = some (.type "function")
  nw : PySem.W.findIn K (.ref C) "word" = some none
  na : PySem.W.findIn K (.ref C) "at" = some none
  gC : mg "NotUsable" = some (.ref C)
  te : PySem.W.exmOne K (.ref C) (.ref C) = some true
def spNuInit (K : PySem.W.Frag) (C : Addr) : Sp := fun vs H Q _ => ∃ (a : Addr) (x y : V), vs = [.ref a, x, y] ∧ OexC K C ∧ PySem.W.findIn K (.ref C) "word" = some none ∧ PySem.W.findIn K (.ref C) "at" = some none ∧ H a = some (exo a C none) ∧
  ∀ dx, H dx = none → dx ≠ a → Q .non (upd (upd (upd H dx (exd dx [("word", x)])) a (exo a C (some dx))) dx (exd dx [("at", y), ("word", x)]))
abbrev s_require : Stmt := top 5
abbrev N_require : List Str := ["good", "word"]
theorem sc_require : FnScope N_require ["good", "word"] (defScope s_require) := ⟨rfl, rfl, rfl, by decide +kernel, rfl, by decide +kernel, by decide +kernel⟩
/-- the error's own dict -/
abbrev nuD (x : Str) : HO := .xd [("at", .int (-1)), ("word", .str x)]
def spRequire (C : Addr) : Sp := fun vs H Q E => ∃ (g : Bool) (x : Str), vs = [.bl g, .str x] ∧ (g = true → Q .non H) ∧ (g = false → ∀ d H', Ex H H' → H' d = some (nuD x) → E (.ref C) (some d) H')
section
variable {P : Program} {w : World} {K : PySem.W.Frag} {mg : Str → Option Value} {base : Heap}
theorem ok_nu_init {f C : Addr} {fd : FuncData} (F : Fun K "__init__" "NotUsable.__init__" s_nu_init f fd) : FnOk P w K mg base CX0 1 f fd ["self", "word", "at"] (spNuInit K C) := by
  refine F.ok sc_nu_init (fun vs H Q E h => ?_) (fun cdv A outer s H vs Q E hr h => ?_)
  · obtain ⟨_, _, _, rfl, _⟩ := h
    rfl
  · obtain ⟨a, x, y, rfl, T, nw, na, ha, k⟩ := h
    refine ⟨_, pss_cons (ps_ost (pv 0) (pv 1)) (pss_one (ps_ost (pv 0) (pv 2))), ?_⟩
    refine ⟨_, rfl, _, rfl, a, C, rfl, T, nw, .inl ⟨ha, fun dx hdx ne => ?_⟩⟩
    refine ⟨_, rfl, _, rfl, a, C, rfl, T, na, .inr ⟨dx, [("word", x)], upd_same, by rw [upd_ne ne, upd_same], (by show 1 ≤ 900; decide), ?_⟩⟩
    exact k dx hdx ne
theorem ok_require {f C fI : Addr} {fd fdI : FuncData} (F : Fun K "require" "require" s_require f fd) (N : Nu K mg C fI) (FI : Fun K "__init__" "NotUsable.__init__" s_nu_init fI fdI) (bI : Binds K fdI ["self", "word", "at"] []) :
    FnOk P w K mg base (L2N.CX P w) 3 f fd ["good", "word"] (spRequire C) := by
  have GI : FnOk P w K mg base CX0 1 fI fdI ["self", "word", "at"] (spNuInit K C) := ok_nu_init FI
  refine okN F sc_require (fun vs H Q E h => ?_) (fun cdv A outer s H vs Q E hr h => ?_)
  · obtain ⟨_, _, rfl, _⟩ := h
    rfl
  · obtain ⟨g, x, rfl, kT, kF⟩ := h
    refine ⟨_, pss_one (ps_if (pt_not (pt_val (pv 0))) (pss_one (L2N.ps_raise (W := fun cls d _ H => E cls d H) rfl (L2N.takes_of rfl rfl rfl rfl) (mkN N.oex N.iC N.tI GI hr bI pass0 (by rfl) N.gC (pa_cons (pv 1) (pa_cons (pe_un un_neg pe_int) pa_nil))))) pss_nil), ?_⟩
    refine ⟨_, rfl, _, rfl, ?_⟩
    cases g with
    | true => exact iteF (kT rfl)
    | false =>
      refine iteT ?_
      refine ⟨_, rfl, _, rfl, by show 2 ≤ 1000; decide, fun a ha => ?_⟩
      refine ⟨a, _, _, rfl, N.oex, N.nw, N.na, upd_same, fun dx hdx ne => ⟨rfl, dx, _, ?_, upd_same, ?_, ?_⟩⟩
      · rw [upd_ne ne.symm, upd_same]
      · rw [upd_ne ne] at hdx
        exact hdx
      · refine kF rfl dx _ (fun b o e => ?_) upd_same
        have hdx0 : H dx = none := by rw [upd_ne ne] at hdx; exact hdx
        rw [upd_ne (ne_of_none e hdx0), del_ne (ne_of_none e ha), upd_ne (ne_of_none e hdx0), upd_ne (ne_of_none e ha), upd_ne (ne_of_none e hdx0), upd_ne (ne_of_none e ha)]
        exact e
end
end K27
/-! ## M1 -/
set_option Elab.async false
set_option linter.all false
set_option maxRecDepth 100000
set_option maxHeartbeats 4000000
namespace K27
open PySem L2 Evl
inductive Wd where
  | all | each | low | yes
deriving DecidableEq
def Wd.s : Wd → Str
  | .all => "all"
  | .each => "each"
  | .low => "low"
  | .yes => "yes"
/-- how many of the answers are another grade -/
def wr (told : List Int) (g : Int) : Int := (told.length : Int) - (told.count g : Int)
def leftB (w : Wd) (e sp : Int) (told : List Int) (g : Int) : Bool := match w with
  | .all => decide (wr told g ≤ sp)
  | .each => decide (wr told g ≤ e)
  | .low => decide (wr told g ≤ e) && decide (∀ x ∈ told, x ≤ g)
  | .yes => if g = 0 then decide (told.count 1 = 0) else decide ((told.count 0 : Int) ≤ sp)
def leftL (w : Wd) (e sp fl rf : Int) (told : List Int) : List Int := ((List.range (rf + 1 - fl).toNat).filter fun (i : Nat) => leftB w e sp told (fl + (i : Int))).map fun (i : Nat) => fl + (i : Int)
theorem left_mem {w : Wd} {e sp fl rf : Int} {told : List Int} {g : Int} : g ∈ leftL w e sp fl rf told ↔ fl ≤ g ∧ g ≤ rf ∧ leftB w e sp told g = true := by
  unfold leftL
  rw [List.mem_map]
  constructor
  · rintro ⟨i, hi, rfl⟩
    obtain ⟨h1, h2⟩ := List.mem_filter.mp hi
    have := List.mem_range.mp h1
    exact ⟨by omega, by omega, h2⟩
  · rintro ⟨h1, h2, h3⟩
    refine ⟨(g - fl).toNat, List.mem_filter.mpr ⟨List.mem_range.mpr (by omega), ?_⟩, by omega⟩
    have e1 : fl + ((g - fl).toNat : Int) = g := by omega
    show leftB w e sp told (fl + ((g - fl).toNat : Int)) = true
    rw [e1]
    exact h3
theorem left_lt (w : Wd) (e sp fl rf : Int) (told : List Int) : (leftL w e sp fl rf told).Pairwise (· < ·) := by
  unfold leftL
  rw [List.pairwise_map]
  exact (List.pairwise_lt_range.filter _).imp fun {i j} h => by omega
theorem left_two {w : Wd} {e sp fl rf : Int} {told : List Int} (h : 2 ≤ (leftL w e sp fl rf told).length) : ∃ a b, a < b ∧ a ∈ leftL w e sp fl rf told ∧ b ∈ leftL w e sp fl rf told := by
  have p := left_lt w e sp fl rf told
  match hl : leftL w e sp fl rf told, h with
  | a :: b :: r, _ =>
    rw [hl] at p
    exact ⟨a, b, (List.pairwise_cons.mp p).1 b (by simp), by simp, by simp⟩
theorem count_two : ∀ (l : List Int) {a b : Int}, a ≠ b → l.count a + l.count b ≤ l.length
  | [], a, b, _ => by simp
  | x :: l, a, b, h => by
    have ih := count_two l h
    rw [List.count_cons, List.count_cons, List.length_cons]
    by_cases h1 : x = a
    · subst h1
      have h2 : (x == b) = false := beq_eq_false_iff_ne.mpr h
      rw [h2]
      simp
      omega
    · have h2 : (x == a) = false := beq_eq_false_iff_ne.mpr h1
      rw [h2]
      by_cases h3 : x = b
      · subst h3
        simp
        omega
      · have h4 : (x == b) = false := beq_eq_false_iff_ne.mpr h3
        rw [h4]
        simp
        omega
theorem count_01 : ∀ (l : List Int), (∀ x ∈ l, 0 ≤ x ∧ x ≤ 1) → l.count 0 + l.count 1 = l.length
  | [], _ => rfl
  | x :: l, h => by
    have ih := count_01 l fun y hy => h y (by simp [hy])
    have hx := h x (by simp)
    rw [List.count_cons, List.count_cons, List.length_cons]
    by_cases h1 : x = 0
    · subst h1
      simp
      omega
    · have h2 : x = 1 := by omega
      subst h2
      simp
      omega
theorem wr_ge0 (told : List Int) (g : Int) : 0 ≤ wr told g := by
  unfold wr
  have := List.count_le_length (a := g) (l := told)
  omega
theorem wr_two {l : List Int} {a b : Int} (h : a ≠ b) : (l.length : Int) ≤ wr l a + wr l b := by
  have := count_two l h
  unfold wr
  omega
theorem wr_app (l : List Int) (x g : Int) : wr l g ≤ wr (l ++ [x]) g := by
  unfold wr
  rw [List.count_append, List.length_append]
  have : [x].count g ≤ [x].length := List.count_le_length
  simp at this ⊢
  omega
def offN (w : Wd) (told : List Int) (c : Int) : Int := match w with
  | .each => 0
  | .low => 0
  | _ => wr told c
def bnd (w : Wd) (e sp off : Int) : Int := match w with
  | .all => sp + 1 + off
  | .each => 2 * e + 1
  | .low => e + 1
  | .yes => sp + 1
structure Ok (w : Wd) (e sp fl rf : Int) (told : List Int) : Prop where
  nn : ∀ x ∈ told, 0 ≤ x
  y1 : w = .yes → ∀ x ∈ told, x ≤ 1
  pre : ∀ k, k < told.length → 2 ≤ (leftL w e sp fl rf (told.take k)).length
theorem Ok.nil {w : Wd} {e sp fl rf : Int} : Ok w e sp fl rf [] := ⟨by simp, by simp, by simp⟩
theorem Ok.snoc {w : Wd} {e sp fl rf : Int} {told : List Int} {x : Int} (h : Ok w e sp fl rf told) (h2 : 2 ≤ (leftL w e sp fl rf told).length) (h0 : 0 ≤ x) (h1 : w = .yes → x ≤ 1) : Ok w e sp fl rf (told ++ [x]) := by
  refine ⟨fun y hy => ?_, fun hw y hy => ?_, fun k hk => ?_⟩
  · rcases List.mem_append.mp hy with hy | hy
    · exact h.nn y hy
    · simp at hy; subst hy; exact h0
  · rcases List.mem_append.mp hy with hy | hy
    · exact h.y1 hw y hy
    · simp at hy; subst hy; exact h1 hw
  · rw [List.length_append] at hk
    have hk2 : k ≤ told.length := by simp at hk; omega
    rw [List.take_append_of_le_length hk2]
    by_cases c : k < told.length
    · exact h.pre k c
    · have : k = told.length := by omega
      subst this
      rw [List.take_length]
      exact h2
theorem Ok.take {w : Wd} {e sp fl rf : Int} {told : List Int} (h : Ok w e sp fl rf told) (m : Nat) : Ok w e sp fl rf (told.take m) := by
  refine ⟨fun y hy => h.nn y (List.mem_of_mem_take hy), fun hw y hy => h.y1 hw y (List.mem_of_mem_take hy), fun k hk => ?_⟩
  rw [List.length_take] at hk
  rw [List.take_take, show min k m = k by omega]
  exact h.pre k (by omega)
theorem bound_ok {w : Wd} {e sp fl rf : Int} {told : List Int} (h : Ok w e sp fl rf told) (h0 : 0 ≤ fl) (hsp : 0 ≤ sp) (hy : w = .yes → rf ≤ 1) (hne : told ≠ []) {c : Int} (hc : c ∈ leftL w e sp fl rf told) :
    (told.length : Int) ≤ bnd w e sp (offN w told c) ∧ ((w = .all ∨ w = .yes) → offN w told c ≤ sp) := by
  obtain ⟨b, x, rfl⟩ : ∃ b x, told = b ++ [x] := ⟨told.dropLast, told.getLast hne, (List.dropLast_concat_getLast hne).symm⟩
  have hp := h.pre b.length (by simp)
  rw [List.take_left' rfl] at hp
  obtain ⟨i, j, hij, hi, hj⟩ := left_two hp
  obtain ⟨i1, i2, i3⟩ := left_mem.mp hi
  obtain ⟨j1, j2, j3⟩ := left_mem.mp hj
  obtain ⟨c1, c2, c3⟩ := left_mem.mp hc
  have hlen : ((b ++ [x]).length : Int) = b.length + 1 := by simp
  rw [hlen]
  have two := wr_two (l := b) (a := i) (b := j) (by omega)
  cases w with
  | all =>
    have a1 := of_decide_eq_true i3
    have a2 := of_decide_eq_true j3
    have a3 := of_decide_eq_true c3
    have m := wr_app b x c
    refine ⟨?_, fun _ => a3⟩
    show (b.length : Int) + 1 ≤ sp + 1 + wr (b ++ [x]) c
    by_cases q : c = i
    · subst q
      omega
    · have := wr_two (l := b) (a := c) (b := i) q
      omega
  | each =>
    have a1 := of_decide_eq_true i3
    have a2 := of_decide_eq_true j3
    exact ⟨by show (b.length : Int) + 1 ≤ 2 * e + 1; omega, fun q => by rcases q with q | q <;> cases q⟩
  | low =>
    obtain ⟨_, a1⟩ := Bool.and_eq_true_iff.mp i3
    obtain ⟨a2, _⟩ := Bool.and_eq_true_iff.mp j3
    have a1 := of_decide_eq_true a1
    have a2 := of_decide_eq_true a2
    have z : b.count j = 0 := List.count_eq_zero.mpr fun q => by have := a1 j q; omega
    unfold wr at a2
    rw [z] at a2
    exact ⟨by show (b.length : Int) + 1 ≤ e + 1; omega, fun q => by rcases q with q | q <;> cases q⟩
  | yes =>
    have hr := hy rfl
    have ei : i = 0 := by omega
    have ej : j = 1 := by omega
    subst ei ej
    have all01 : ∀ y ∈ b ++ [x], 0 ≤ y ∧ y ≤ 1 := fun y hy => ⟨h.nn y hy, h.y1 rfl y hy⟩
    have k1 := count_01 b fun y hy => all01 y (by simp [hy])
    have k2 := count_01 (b ++ [x]) all01
    have a1 : b.count 1 = 0 := of_decide_eq_true (by simpa [leftB] using i3)
    have a2 : (b.count 0 : Int) ≤ sp := by
      have : decide ((b.count 0 : Int) ≤ sp) = true := by simpa [leftB] using j3
      exact of_decide_eq_true this
    refine ⟨by show (b.length : Int) + 1 ≤ sp + 1; omega, fun _ => ?_⟩
    show wr (b ++ [x]) c ≤ sp
    unfold wr
    by_cases q : c = 0
    · subst q
      have : (b ++ [x]).count 1 = 0 := of_decide_eq_true (by simpa [leftB] using c3)
      omega
    · have q1 : c = 1 := by omega
      subst q1
      have : ((b ++ [x]).count 0 : Int) ≤ sp := by
        have : decide (((b ++ [x]).count 0 : Int) ≤ sp) = true := by simpa [leftB] using c3
        exact of_decide_eq_true this
      omega
/-- what the program asks -/
def leftP (w : Wd) (e sp : Int) (told : List Int) (g : Int) : Bool := match w with
  | .all => decide (wr told g ≤ sp)
  | .each => decide (wr told g ≤ e)
  | .low => decide (mxd 0 told ≤ g) && decide (wr told g ≤ e)
  | .yes => if g = 1 then decide ((told.count 0 : Int) ≤ sp) else decide ((told.count 1 : Int) = 0)
theorem leftP_eq {w : Wd} {e sp : Int} {told : List Int} {g : Int} (h0 : 0 ≤ g) (h1 : w = .yes → g ≤ 1) : leftP w e sp told g = leftB w e sp told g := by
  cases w with
  | all => rfl
  | each => rfl
  | low =>
    show (decide (mxd 0 told ≤ g) && decide (wr told g ≤ e)) = (decide (wr told g ≤ e) && decide (∀ x ∈ told, x ≤ g))
    rw [Bool.and_comm]
    congr 1
    exact decide_eq_decide.mpr (mxd_le h0 told)
  | yes =>
    have := h1 rfl
    show (if g = 1 then decide ((told.count 0 : Int) ≤ sp) else decide ((told.count 1 : Int) = 0)) = if g = 0 then decide (told.count 1 = 0) else decide ((told.count 0 : Int) ≤ sp)
    by_cases c : g = 0
    · subst c
      rw [if_neg (by decide), if_pos rfl]
      exact decide_eq_decide.mpr (by omega)
    · have : g = 1 := by omega
      subst this
      rw [if_pos rfl, if_neg (by decide)]
end K27
/-! ## P1 -/
set_option Elab.async false
set_option linter.all false
set_option maxRecDepth 100000
set_option maxHeartbeats 4000000
namespace K27
open PySem L2 Evl
/-- a thing: a tuple of xs, or none -/
inductive Th (H : Hp) : V → Option (List V) → Prop where
  | non : Th H .non none
  | bl (b : Bool) : Th H (.bl b) none
  | int (i : Int) : Th H (.int i) none
  | str (s : Str) : Th H (.str s) none
  | lst {a : Addr} {xs : List V} (h : H a = some (.lst xs)) : Th H (.ref a) none
  | tup {a : Addr} {xs : List V} (h : H a = some (.tup xs)) : Th H (.ref a) (some xs)
  | ftup {a : Addr} {o : Obj} {xs : List V} (h : H a = some (.frz o (.tup xs))) : Th H (.ref a) (some xs)
theorem Th.mono {H H' : Hp} {x : V} {t : Option (List V)} (e : Ex H H') (h : Th H x t) : Th H' x t := by
  cases h with
  | non => exact .non
  | bl b => exact .bl b
  | int i => exact .int i
  | str s => exact .str s
  | lst h => exact .lst (e _ _ h)
  | tup h => exact .tup (e _ _ h)
  | ftup h => exact .ftup (e _ _ h)
theorem Th.any {H : Hp} {x : V} {t : Option (List V)} (h : Th H x t) : Any H x := by
  cases h with
  | non => exact .non
  | bl b => exact .bl b
  | int i => exact .int i
  | str s => exact .str s
  | lst h => exact .lst h
  | tup h => exact .tup h
  | ftup h => exact .ftup h
theorem Th.at {K : PySem.W.Frag} {H : Hp} {x : V} {xs : List V} (h : Th H x (some xs)) : ∃ p, x = .ref p ∧ SqT K H p xs := by
  cases h with
  | tup h => exact ⟨_, rfl, st_of h⟩
  | ftup h => exact ⟨_, rfl, Or.inl (Or.inr ⟨_, h⟩)⟩
section
variable {K : PySem.W.Frag} {σ : L2.St} {H : Hp} {te : TE} {x : V}
theorem isi_tup {t : Option (List V)} {Q : VK} (h : Th H x t) (q : Q (.bl t.isSome) H) : rIsi K [x, .ty "tuple"] H Q := by
  cases h with
  | non => exact ⟨_, _, _, _, false, rfl, .ty "tuple", .base .non, kit_ty (by decide +kernel), q⟩
  | bl b => exact ⟨_, _, _, _, false, rfl, .ty "tuple", .base (.bl b), kit_ty (by decide +kernel), q⟩
  | int i => exact ⟨_, _, _, _, false, rfl, .ty "tuple", .base (.int i), kit_ty (by decide +kernel), q⟩
  | str s => exact ⟨_, _, _, _, false, rfl, .ty "tuple", .base (.str s), kit_ty (by decide +kernel), q⟩
  | lst h => exact ⟨_, _, _, _, false, rfl, .ty "tuple", .base (.lst h), kit_ty (by decide +kernel), q⟩
  | tup h => exact ⟨_, _, _, _, true, rfl, .ty "tuple", .base (.tup h), kit_ty (by decide +kernel), q⟩
  | ftup h => exact ⟨_, _, _, _, true, rfl, .ty "tuple", .fTuple h, kit_ty (by decide +kernel), q⟩
theorem ev_isiT {t : Option (List V)} (h : Ev te σ H x) (ht : Th H x t) : Ev (tCB (rIsi K) (tCons te (tCons (tC (.ty "tuple")) tNil))) σ H (.bl t.isSome) := fun H1 e Q q =>
  h H1 e _ fun H2 e2 => isi_tup (ht.mono (e.trans e2)) (q H2 e2)
theorem ev_isiI (h : Ev te σ H x) (ht : Any H x) : Ev (tCB (rIsi K) (tCons te (tCons (tC (.ty "int")) tNil))) σ H (.bl (isI x || isB x)) := fun H1 e Q q =>
  h H1 e _ fun H2 e2 => isi_int (ht.mono (e.trans e2)) (q H2 e2)
theorem ev_isiB (h : Ev te σ H x) (ht : Any H x) : Ev (tCB (rIsi K) (tCons te (tCons (tC (.ty "bool")) tNil))) σ H (.bl (isB x)) := fun H1 e Q q =>
  h H1 e _ fun H2 e2 => isi_bool (ht.mono (e.trans e2)) (q H2 e2)
theorem ev_isiS (h : Ev te σ H x) (ht : Any H x) : Ev (tCB (rIsi K) (tCons te (tCons (tC (.ty "str")) tNil))) σ H (.bl (isS x)) := fun H1 e Q q =>
  h H1 e _ fun H2 e2 => isi_str (ht.mono (e.trans e2)) (q H2 e2)
theorem spv_isNumber (h : Any H x) : SpV spIsNumber [x] H (.bl (isN x)) := fun H1 e Q q E => ⟨x, rfl, h.mono e, q H1 (Ex.refl H1)⟩
/-- a statement require(e, word) of a def that may raise -/
theorem q_req {C : Addr} {E : XK} {D : Ends} {tz : TS} {g : Bool} {z : Str} (h : Ev te σ H (.bl g)) (hT : g = true → ∀ H1, Ex H H1 → tz D σ H1) (hF : g = false → ∀ d H1, Ex H H1 → H1 d = some (nuD z) → E (.ref C) (some d) H1) :
    tSeq (tDrop (tCall (spRequire C) [] E (tCons te (tCons (tC (.str z)) tNil)))) tz D σ H := h H (Ex.refl H) _ fun H1 e =>
  ⟨g, z, rfl, fun hg => hT hg H1 e, fun hg d H2 e2 hd => hF hg d H2 (e.trans e2) hd⟩
end
/-! ### the kinds of rules -/
def wordsV : List V := [.str "all", .str "each", .str "low", .str "yes"]
structure Wds (K : PySem.W.Frag) (mg : Str → Option Value) (wA : Addr) : Prop where
  g : mg "WORDS" = some (.ref wA)
  sq : ∀ H, SqT K H wA wordsV
def ruleOf (a b : V) : Bool := isS a && inV a wordsV && isN b
inductive RuleIs (H : Hp) : V → Bool → Prop where
  | notT {x : V} (h : Th H x none) : RuleIs H x false
  | len {x : V} {xs : List V} (h : Th H x (some xs)) (n : xs.length ≠ 2) : RuleIs H x false
  | two {x a b : V} (h : Th H x (some [a, b])) (ha : Any H a) (hb : Any H b) : RuleIs H x (ruleOf a b)
theorem RuleIs.mono {H H' : Hp} {x : V} {b : Bool} (e : Ex H H') (h : RuleIs H x b) : RuleIs H' x b := by
  cases h with
  | notT h => exact .notT (h.mono e)
  | len h n => exact .len (h.mono e) n
  | two h ha hb => exact .two (h.mono e) (ha.mono e) (hb.mono e)
abbrev s_is_top : Stmt := top 11
abbrev N_is_top : List Str := ["thing"]
theorem sc_is_top : FnScope N_is_top ["thing"] (defScope s_is_top) := ⟨rfl, rfl, rfl, by decide +kernel, rfl, by decide +kernel, by decide +kernel⟩
def spIsTop1 : Sp := fun vs H Q _ => ∃ i : Int, vs = [.int i] ∧ 1 ≤ i ∧ Q (.bl true) H
abbrev s_is_rule : Stmt := top 12
abbrev N_is_rule : List Str := ["top", "thing", "word", "wrongs"]
theorem sc_is_rule : FnScope N_is_rule ["top", "thing"] (defScope s_is_rule) := ⟨rfl, rfl, rfl, by decide +kernel, rfl, by decide +kernel, by decide +kernel⟩
def spIsRule1 : Sp := fun vs H Q _ => ∃ (x : V) (b : Bool), vs = [.int 1, x] ∧ RuleIs H x b ∧ RetV (.bl b) H Q
abbrev s_is_some_rule : Stmt := top 13
abbrev N_is_some_rule : List Str := ["thing"]
theorem sc_is_some_rule : FnScope N_is_some_rule ["thing"] (defScope s_is_some_rule) := ⟨rfl, rfl, rfl, by decide +kernel, rfl, by decide +kernel, by decide +kernel⟩
def spIsSomeRule : Sp := fun vs H Q _ => ∃ (x : V) (b : Bool), vs = [x] ∧ RuleIs H x b ∧ RetV (.bl b) H Q
inductive NumsIs (H : Hp) : V → Bool → Prop where
  | notT {x : V} (h : Th H x none) : NumsIs H x false
  | is {x : V} {xs : List V} (h : Th H x (some xs)) (ha : ∀ y ∈ xs, Any H y) (n : xs.length ≤ 1000) : NumsIs H x (xs.all isN)
theorem NumsIs.mono {H H' : Hp} {x : V} {b : Bool} (e : Ex H H') (h : NumsIs H x b) : NumsIs H' x b := by
  cases h with
  | notT h => exact .notT (h.mono e)
  | is h ha n => exact .is (h.mono e) (fun y hy => (ha y hy).mono e) n
abbrev s_are_numbers : Stmt := top 15
abbrev N_are_numbers : List Str := ["thing", "member"]
theorem sc_are_numbers : FnScope N_are_numbers ["thing"] (defScope s_are_numbers) := ⟨rfl, rfl, rfl, by decide +kernel, rfl, by decide +kernel, by decide +kernel⟩
def spAreNumbers : Sp := fun vs H Q _ => ∃ (x : V) (b : Bool), vs = [x] ∧ NumsIs H x b ∧ RetV (.bl b) H Q
section
variable {P : Program} {w : World} {K : PySem.W.Frag} {mg : Str → Option Value} {base : Heap}
theorem ok_is_top {f : Addr} {fd : FuncData} (F : Fun K "is_top" "is_top" s_is_top f fd) (T : Txt mg) (D_is_number : Dn P w K mg base CX0 2 "is_number" ["thing"] spIsNumber) : FnOk P w K mg base CX0 3 f fd ["thing"] spIsTop1 := by
  refine F.ok sc_is_top (fun vs H Q E h => ?_) (fun cdv A outer s H vs Q E hr h => ?_)
  · obtain ⟨_, rfl, _⟩ := h
    rfl
  · obtain ⟨i, rfl, hi, k⟩ := h
    refine ⟨_, (pss_one (ps_ret (pe_and (pe_call D_is_number.ok (hr.mono (by decide)) (by rfl) D_is_number.g D_is_number.kp D_is_number.b .nil pass0 (pa_cons (pv 0) pa_nil)) (pe_one (pe_cmpR op_ge (pv 0) pe_int (nomark _)))))), ?_⟩
    refine ⟨_, rfl, .int i, rfl, .int i, true, congrArg V.bl (decide_eq_true (by omega)), iteT ⟨_, rfl, i, 1, rfl, rfl, ?_⟩⟩
    show Q (.bl (decide (1 ≤ i))) H
    rw [decide_eq_true hi]
    exact k
theorem ok_is_rule {f C wA : Addr} {fd : FuncData} (F : Fun K "is_rule" "is_rule" s_is_rule f fd) (T : Txt mg) (W : Wds K mg wA) (D_require : Dn P w K mg base (L2N.CX P w) 3 "require" ["good", "word"] (spRequire C))
    (D_is_number : Dn P w K mg base CX0 2 "is_number" ["thing"] spIsNumber) (D_is_top : Dn P w K mg base CX0 3 "is_top" ["thing"] spIsTop1) : FnOk P w K mg base (L2N.CX P w) 4 f fd ["top", "thing"] spIsRule1 := by
  refine okN F sc_is_rule (fun vs H Q E h => ?_) (fun cdv A outer s H vs Q E hr h => ?_)
  · obtain ⟨_, _, rfl, _⟩ := h
    rfl
  · obtain ⟨x, b, rfl, hx, k⟩ := h
    refine ⟨_, (pss_cons (ps_expr (pe_call D_require.ok (hr.mono (by decide)) (by rfl) D_require.g D_require.kp D_require.b .nil (L2N.passes_call (L2N.takes_of rfl rfl rfl rfl) fun _ _ _ _ h => h) (pa_cons (pe_call D_is_top.ok (hr.mono (by decide)) (by rfl) D_is_top.g D_is_top.kp D_is_top.b .nil pass0 (pa_cons (pv 0) pa_nil)) (pa_cons pe_str pa_nil))))
    (pss_cons (ps_if (PW.pt (pw_or (pt_not (pt_val (pe_callB (cIsi K) (by rfl) T.isinstance (by decide +kernel) (pa_cons (pv 1) (pa_cons (pe_ty_tuple T) pa_nil))))) (pw_or1 (pt_cmpR op_ne (pe_callB (cLen K) (by rfl) T.len PySem.boot_len (pa_cons (pv 1) pa_nil)) pe_int (nomark _)))))
       (pss_one (ps_ret pe_bl))
       pss_nil)
    (pss_cons (ps_asg (pv 1) (pg_tup rfl (pgs_cons (pg_name (i := 2) sc_is_rule.nd rfl (Or.inl rfl)) (pgs_cons (pg_name (i := 3) sc_is_rule.nd rfl (Or.inl rfl)) pgs_nil))))
    (pss_cons (ps_if (PW.pt (pw_or (pt_not (pt_val (pe_callB (cIsi K) (by rfl) T.isinstance (by decide +kernel) (pa_cons (pv 2) (pa_cons (pe_ty_str T) pa_nil))))) (pw_or (pt_cmpR (oNi K) (pv 2) (pe_glob (v := .ref wA) (by rfl) W.g rfl) (by with_unfolding_all rfl)) (pw_or1 (pt_not (pt_val (pe_call D_is_number.ok (hr.mono (by decide)) (by rfl) D_is_number.g D_is_number.kp D_is_number.b .nil pass0 (pa_cons (pv 3) pa_nil))))))))
       (pss_one (ps_ret pe_bl))
       pss_nil)
    (pss_one (ps_ret (pe_or (pe_cmpR op_ne (pv 2) pe_str (nomark _)) (pe_one (pe_cmpR op_eq (pv 0) pe_int (nomark _)))))))))), ?_⟩
    refine q_req (g := true) (ev_call (ea_cons (ev_var rfl) ea_nil) fun H1 e Q' q' _ => ⟨1, rfl, by decide, q' H1 (Ex.refl H1)⟩) (fun _ H1 e1 => ?_) (fun z => Bool.noConfusion z)
    have hx1 := hx.mono e1
    cases hx1 with
    | notT h =>
      exact q_when (b := true) (et_orT (et_not (et_B (ev_isiT (ev_var rfl) h)))) (fun _ H2 e2 => s_ret ev_c fun H3 e3 => k H3 ((e1.trans e2).trans e3)) fun z => Bool.noConfusion z
    | len h n =>
      rename_i xs
      obtain ⟨p, rfl, hp⟩ := h.at (K := K)
      refine q_when (b := true) (et_is (et_or (et_not (et_B (ev_isiT (ev_var rfl) h))) fun _ => et_test (ev_op (ev_lenT (ev_var rfl) hp) ev_c rv_neI)) ?_) (fun _ H2 e2 => s_ret ev_c fun H3 e3 => k H3 ((e1.trans e2).trans e3)) fun z => Bool.noConfusion z
      show (!true || !decide ((xs.length : Int) = 2)) = true
      rw [decide_eq_false (by omega)]
      rfl
    | two h ha hb =>
      rename_i a b
      obtain ⟨p, rfl, hp⟩ := h.at (K := K)
      refine q_when (b := false) (et_is (et_or (et_not (et_B (ev_isiT (ev_var rfl) h))) fun _ => et_test (ev_op (ev_lenT (ev_var rfl) hp) ev_c rv_neI)) rfl) (fun z => Bool.noConfusion z) fun _ H2 e2 => ?_
      refine ⟨_, rfl, p, _, rfl, ex_t e2 hp, rfl, _, _, rfl, _, _, rfl, rfl, ?_⟩
      dsimp only [gName]
      have e12 := e1.trans e2
      have ha2 := ha.mono e2
      have hb2 := hb.mono e2
      have bad : isS a = false → ruleOf a b = false := fun z => by unfold ruleOf; rw [z]; rfl
      by_cases hs : isS a = true
      · obtain ⟨z, rfl⟩ : ∃ z, a = .str z := by
          cases a with
          | str z => exact ⟨z, rfl⟩
          | _ => cases hs
        refine q_when (b := !ruleOf (.str z) b) (et_is (et_or (et_not (et_B (ev_isiS (ev_var rfl) ha2))) fun _ => et_or (et_test (ev_op (ev_var rfl) ev_c (rv_niT (W.sq _) rfl rfl))) fun _ => et_not (et_B (ev_call (ea_cons (ev_var (i := 3) rfl) ea_nil) (spv_isNumber hb2)))) ?_) (fun hz H3 e3 => ?_) fun hz H3 e3 => ?_
        · unfold ruleOf
          show (!true || (!inV (.str z) wordsV || !isN b)) = !(true && inV (.str z) wordsV && isN b)
          cases inV (.str z) wordsV <;> cases isN b <;> rfl
        · have : ruleOf (.str z) b = false := by cases h : ruleOf (.str z) b with
            | true => rw [h] at hz; cases hz
            | false => rfl
          rw [this] at k
          exact s_ret ev_c fun H4 e4 => k H4 ((e12.trans e3).trans e4)
        · have : ruleOf (.str z) b = true := by cases h : ruleOf (.str z) b with
            | true => rfl
            | false => rw [h] at hz; cases hz
          rw [this] at k
          refine s_ret (ev_is (ev_orV (ev_op (ev_var rfl) ev_c (rv_ne rfl)) fun _ => ev_op (ev_var rfl) ev_c rv_eqI) ?_) fun H4 e4 => k H4 ((e12.trans e3).trans e4)
          simp
      · have hs' : isS a = false := by cases h : isS a with
          | true => exact absurd h hs
          | false => rfl
        rw [bad hs'] at k
        exact q_when (b := true) (et_orT (et_is (et_not (et_B (ev_isiS (ev_var rfl) ha2))) (by rw [hs']; rfl))) (fun _ H3 e3 => s_ret ev_c fun H4 e4 => k H4 ((e12.trans e3).trans e4)) fun z => Bool.noConfusion z
theorem ok_is_some_rule {f : Addr} {fd : FuncData} (F : Fun K "is_some_rule" "is_some_rule" s_is_some_rule f fd) (D_is_rule : Dn P w K mg base (L2N.CX P w) 4 "is_rule" ["top", "thing"] spIsRule1) : FnOk P w K mg base (L2N.CX P w) 5 f fd ["thing"] spIsSomeRule := by
  refine okN F sc_is_some_rule (fun vs H Q E h => ?_) (fun cdv A outer s H vs Q E hr h => ?_)
  · obtain ⟨_, _, rfl, _⟩ := h
    rfl
  · obtain ⟨x, b, rfl, hx, k⟩ := h
    refine ⟨_, (pss_one (ps_ret (pe_call D_is_rule.ok (hr.mono (by decide)) (by rfl) D_is_rule.g D_is_rule.kp D_is_rule.b .nil (L2N.passes_call (L2N.takes_of rfl rfl rfl rfl) fun _ _ _ _ h => h) (pa_cons pe_int (pa_cons (pv 0) pa_nil))))), ?_⟩
    exact s_ret (ev_call (ea_cons ev_c (ea_cons (ev_var rfl) ea_nil)) fun H1 e Q' q' _ => ⟨x, b, rfl, hx.mono e, q'⟩) k
theorem ok_are_numbers {f : Addr} {fd : FuncData} (F : Fun K "are_numbers" "are_numbers" s_are_numbers f fd) (T : Txt mg) (D_is_number : Dn P w K mg base CX0 2 "is_number" ["thing"] spIsNumber) : FnOk P w K mg base CX0 3 f fd ["thing"] spAreNumbers := by
  refine F.ok sc_are_numbers (fun vs H Q E h => ?_) (fun cdv A outer s H vs Q E hr h => ?_)
  · obtain ⟨_, _, rfl, _⟩ := h
    rfl
  · obtain ⟨x, b, rfl, hx, k⟩ := h
    refine ⟨_, (pss_one (ps_ret (pe_and (pe_callB (cIsi K) (by rfl) T.isinstance (by decide +kernel) (pa_cons (pv 0) (pa_cons (pe_ty_tuple T) pa_nil))) (pe_one (pe_callB (cAll K) (by rfl) T.all (by decide +kernel) (pa_cons (pe_lc (own := [("member", 1)]) (g := (gName 1)) (tt := tYes) rfl sc_are_numbers.nd (pi_tup (pv 0)) (blkOk_by (own := [("member", 1)]) (N := N_are_numbers) (sc := defScope s_are_numbers) (by decide +kernel)) (fun _ _ _ _ _ => pg_name (i := 1) sc_are_numbers.nd rfl (Or.inl rfl)) (fun _ _ _ _ _ => pts_nil) (fun _ _ _ _ _ => (pe_call D_is_number.ok (hr.mono (by decide)) (by rfl) D_is_number.g D_is_number.kp D_is_number.b .nil pass0 (pa_cons (pv 1) pa_nil)))) pa_nil)))))), ?_⟩
    cases hx with
    | notT h => exact s_ret (ev_andF (ev_isiT (ev_var rfl) h)) k
    | is h ha n =>
      rename_i xs
      obtain ⟨p, rfl, hp⟩ := h.at (K := K)
      refine s_ret (ev_is (ev_andV (a := true) (ev_isiT (ev_var rfl) h) fun _ => ev_all (bs := xs.map isN) (el_lcT (xs := xs) (ev_var rfl) hp (by omega) (by simp) (fun _ => rfl) fun i y H1 e1 hi => ?_)) ?_) k
      · refine ⟨.bl (isN y), ?_, ev_call (ea_cons (ev_var rfl) ea_nil) (spv_isNumber ((ha y (List.mem_of_getElem? hi)).mono e1))⟩
        rw [List.getElem?_map, List.getElem?_map, hi]
        rfl
      · rw [Bool.true_and, List.all_map]
        rfl
end
end K27
/-! ## P2 -/
set_option Elab.async false
set_option linter.all false
set_option maxRecDepth 100000
set_option maxHeartbeats 4000000
namespace K27
open PySem L2 Evl
section
variable {K : PySem.W.Frag} {σ : L2.St} {H : Hp} {ta tb tc : TE}
theorem ev_cntT {p : Addr} {ns : List Int} {g : Int} (ha : Ev ta σ H (.ref p)) (hp : TupN H p (iv ns)) (hb : Ev tb σ H (.int g)) : Ev (tBMT (rCntT K) ta (tCons tb tNil)) σ H (.int ((ns.count g : Nat) : Int)) := fun H1 e Q q =>
  ha H1 e _ fun H2 e2 => ⟨⟨p, _, rfl, hp.mono (e.trans e2)⟩, hb H2 (e.trans e2) _ fun H3 e3 => ⟨p, ns, g, rfl, rfl, (hp.mono ((e.trans e2).trans e3)).sq, q H3 (e2.trans e3)⟩⟩
theorem ev_maxD {p : Addr} {ns : List Int} {d : Int} (ha : Ev ta σ H (.ref p)) (hp : SqT K H p (iv ns)) (hb : Ev tb σ H (.int d)) : Ev (tCKw (rMaxD K) (tCons ta tNil) (tCons tb tNil)) σ H (.int (mxd d ns)) := fun H1 e Q q =>
  ha H1 e _ fun H2 e2 => hb H2 (e.trans e2) _ fun H3 e3 => ⟨p, ns, d, rfl, rfl, ex_t ((e.trans e2).trans e3) hp, q H3 (e2.trans e3)⟩
theorem lt2 {k : Nat} {A : Around} (hr : Room k A) : A.units + 2 < cLine := by have := hr.units; omega
theorem iv_len (ns : List Int) : (iv ns).length = ns.length := List.length_map _
end
/-- a rule that stands -/
def RlG (H : Hp) (r : V) (w : Wd) (e : Int) : Prop := ∃ rp, r = .ref rp ∧ H rp = some (.tup [.str w.s, .int e]) ∧ 0 ≤ e
theorem RlG.mono {H H' : Hp} {r : V} {w : Wd} {e : Int} (x : Ex H H') (h : RlG H r w e) : RlG H' r w e := by
  obtain ⟨rp, a, b, c⟩ := h
  exact ⟨rp, a, x _ _ b, c⟩
theorem RlG.is {H : Hp} {r : V} {w : Wd} {e : Int} (h : RlG H r w e) : RuleIs H r true := by
  obtain ⟨rp, rfl, b, c⟩ := h
  have := RuleIs.two (.tup b) (.str w.s) (.int e)
  have z : ruleOf (.str w.s) (.int e) = true := by
    have c1 : isN (.int e) = true := decide_eq_true c
    unfold ruleOf
    rw [c1]
    cases w <;> decide
  rwa [z] at this
abbrev s_unlike : Stmt := top 16
abbrev N_unlike : List Str := ["grades", "grade"]
theorem sc_unlike : FnScope N_unlike ["grades", "grade"] (defScope s_unlike) := ⟨rfl, rfl, rfl, by decide +kernel, rfl, by decide +kernel, by decide +kernel⟩
def spUnlike : Sp := fun vs H Q _ => ∃ (p : Addr) (ns : List Int) (g : Int), vs = [.ref p, .int g] ∧ TupN H p (iv ns) ∧ RetV (.int (wr ns g)) H Q
theorem spv_unlike {H : Hp} {p : Addr} {ns : List Int} {g : Int} (h : TupN H p (iv ns)) : SpV spUnlike [.ref p, .int g] H (.int (wr ns g)) := fun H1 e Q q _ => ⟨p, ns, g, rfl, h.mono e, q⟩
abbrev s_is_left : Stmt := top 17
abbrev N_is_left : List Str := ["rule", "still", "grades", "grade", "word", "wrongs"]
theorem sc_is_left : FnScope N_is_left ["rule", "still", "grades", "grade"] (defScope s_is_left) := ⟨rfl, rfl, rfl, by decide +kernel, rfl, by decide +kernel, by decide +kernel⟩
def spIsLeft : Sp := fun vs H Q _ => ∃ (r : V) (t : Addr) (w : Wd) (e sp g : Int) (told : List Int), vs = [r, .int sp, .ref t, .int g] ∧ RlG H r w e ∧ TupN H t (iv told) ∧ RetV (.bl (leftP w e sp told g)) H Q
def mostB (w : Wd) (fl : Int) (m : V) : Bool := match m with
  | .int i => decide (0 ≤ i) && (decide (fl ≤ i) && (decide (w ≠ .yes) || decide (i ≤ 1)))
  | _ => false
/-- why a call of left_grades is refused -/
inductive Bad (H : Hp) : V → V → V → V → V → Str → Prop where
  | rule {r s l m g : V} (h : RuleIs H r false) : Bad H r s l m g "rule"
  | still {r s l m g : V} {w : Wd} {e : Int} (h : RlG H r w e) (a : Any H s) (n : isN s = false) : Bad H r s l m g "still"
  | least {r l m g : V} {w : Wd} {e sp : Int} (h : RlG H r w e) (h0 : 0 ≤ sp) (a : Any H l) (n : isN l = false) : Bad H r (.int sp) l m g "least"
  | most {r m g : V} {w : Wd} {e sp fl : Int} (h : RlG H r w e) (h0 : 0 ≤ sp) (h1 : 0 ≤ fl) (a : Any H m) (n : mostB w fl m = false) : Bad H r (.int sp) (.int fl) m g "most"
  | grades {r g : V} {w : Wd} {e sp fl rf : Int} (h : RlG H r w e) (h0 : 0 ≤ sp) (h1 : 0 ≤ fl) (h2 : mostB w fl (.int rf) = true) (n : NumsIs H g false) : Bad H r (.int sp) (.int fl) (.int rf) g "grades"
theorem Bad.mono {H H' : Hp} {r s l m g : V} {z : Str} (x : Ex H H') (h : Bad H r s l m g z) : Bad H' r s l m g z := by
  cases h with
  | rule h => exact .rule (h.mono x)
  | still h a n => exact .still (h.mono x) (a.mono x) n
  | least h h0 a n => exact .least (h.mono x) h0 (a.mono x) n
  | most h h0 h1 a n => exact .most (h.mono x) h0 h1 (a.mono x) n
  | grades h h0 h1 h2 n => exact .grades (h.mono x) h0 h1 h2 (n.mono x)
abbrev s_left_grades : Stmt := top 18
abbrev N_left_grades : List Str := ["rule", "still", "least", "most", "grades", "grade"]
theorem sc_left_grades : FnScope N_left_grades ["rule", "still", "least", "most", "grades"] (defScope s_left_grades) := ⟨rfl, rfl, rfl, by decide +kernel, rfl, by decide +kernel, by decide +kernel⟩
def spLG (C : Addr) : Sp := fun vs H Q E => ∃ (r s l m g : V), vs = [r, s, l, m, g] ∧
  ((∃ z, Bad H r s l m g z ∧ ∀ d H', Ex H H' → H' d = some (nuD z) → E (.ref C) (some d) H') ∨
   (∃ (w : Wd) (e sp fl rf : Int) (t : Addr) (told : List Int), RlG H r w e ∧ s = .int sp ∧ 0 ≤ sp ∧ l = .int fl ∧ 0 ≤ fl ∧ m = .int rf ∧ fl ≤ rf ∧ rf ≤ 1000 ∧ (w = .yes → rf ≤ 1) ∧ g = .ref t ∧ TupN H t (iv told) ∧ (∀ x ∈ told, 0 ≤ x) ∧ told.length ≤ 1000 ∧
    ∀ p H', H p = none → Ex H H' → TupN H' p (iv (leftL w e sp fl rf told)) → Q (.ref p) H'))
inductive Bad2 (H : Hp) : V → V → V → Str → Prop where
  | rule {r s g : V} (h : RuleIs H r false) : Bad2 H r s g "rule"
  | settled {r s g : V} {w : Wd} {e : Int} (h : RlG H r w e) (a : Any H s) (n : isN s = false) : Bad2 H r s g "settled"
  | grades {r g : V} {w : Wd} {e c : Int} (h : RlG H r w e) (h0 : 0 ≤ c) (n : NumsIs H g false) : Bad2 H r (.int c) g "grades"
theorem Bad2.mono {H H' : Hp} {r s g : V} {z : Str} (x : Ex H H') (h : Bad2 H r s g z) : Bad2 H' r s g z := by
  cases h with
  | rule h => exact .rule (h.mono x)
  | settled h a n => exact .settled (h.mono x) (a.mono x) n
  | grades h h0 n => exact .grades (h.mono x) h0 (n.mono x)
abbrev s_off_by : Stmt := top 19
abbrev N_off_by : List Str := ["rule", "settled", "grades"]
theorem sc_off_by : FnScope N_off_by ["rule", "settled", "grades"] (defScope s_off_by) := ⟨rfl, rfl, rfl, by decide +kernel, rfl, by decide +kernel, by decide +kernel⟩
def spOff (C : Addr) : Sp := fun vs H Q E => ∃ (r s g : V), vs = [r, s, g] ∧
  ((∃ z, Bad2 H r s g z ∧ ∀ d H', Ex H H' → H' d = some (nuD z) → E (.ref C) (some d) H') ∨
   (∃ (w : Wd) (e c : Int) (t : Addr) (told : List Int), RlG H r w e ∧ s = .int c ∧ 0 ≤ c ∧ g = .ref t ∧ TupN H t (iv told) ∧ (∀ x ∈ told, 0 ≤ x) ∧ told.length ≤ 1000 ∧ RetV (.int (offN w told c)) H Q))
theorem nums_ok {H : Hp} {t : Addr} {told : List Int} (h : TupN H t (iv told)) (h0 : ∀ x ∈ told, 0 ≤ x) (hz : told.length ≤ 1000) : NumsIs H (.ref t) true := by
  obtain ⟨o, _, ho⟩ := h
  have := NumsIs.is (.ftup ho) (fun y hy => by obtain ⟨i, _, rfl⟩ := List.mem_map.mp hy; exact .int i) (by rw [iv_len]; exact hz)
  have z : (iv told).all isN = true := by
    rw [List.all_eq_true]
    intro y hy
    obtain ⟨i, hi, rfl⟩ := List.mem_map.mp hy
    exact decide_eq_true (h0 i hi)
  rwa [z] at this
section
variable {P : Program} {w : World} {K : PySem.W.Frag} {mg : Str → Option Value} {base : Heap}
theorem ok_unlike {f : Addr} {fd : FuncData} (F : Fun K "unlike" "unlike" s_unlike f fd) (T : Txt mg) : FnOk P w K mg base CX0 1 f fd ["grades", "grade"] spUnlike := by
  refine F.ok sc_unlike (fun vs H Q E h => ?_) (fun cdv A outer s H vs Q E hr h => ?_)
  · obtain ⟨_, _, _, rfl, _⟩ := h
    rfl
  · obtain ⟨p, ns, g, rfl, hp, k⟩ := h
    refine ⟨_, (pss_one (ps_ret (pe_op op_sub (pe_callB (cLen K) (by rfl) T.len PySem.boot_len (pa_cons (pv 0) pa_nil)) (pe_bmT PySem.F.slot_tuple_count PySem.F.type_tuple_count (mCntT K) (pv 0) (pa_cons (pv 1) pa_nil))))), ?_⟩
    refine s_ret (ev_is (ev_op (ev_lenT (ev_var rfl) hp.sq) (ev_cntT (ev_var rfl) hp (ev_var rfl)) rv_I0) ?_) k
    rw [iv_len]
    rfl
theorem ok_is_left {f : Addr} {fd : FuncData} (F : Fun K "is_left" "is_left" s_is_left f fd) (T : Txt mg) (D_unlike : Dn P w K mg base CX0 1 "unlike" ["grades", "grade"] spUnlike) : FnOk P w K mg base CX0 2 f fd ["rule", "still", "grades", "grade"] spIsLeft := by
  refine F.ok sc_is_left (fun vs H Q E h => ?_) (fun cdv A outer s H vs Q E hr h => ?_)
  · obtain ⟨_, _, _, _, _, _, _, rfl, _⟩ := h
    rfl
  · obtain ⟨r, t, wd, e, sp, g, told, rfl, ⟨rp, rfl, hrp, he⟩, ht, k⟩ := h
    refine ⟨_, (pss_cons (ps_asg (pv 0) (pg_tup rfl (pgs_cons (pg_name (i := 4) sc_is_left.nd rfl (Or.inl rfl)) (pgs_cons (pg_name (i := 5) sc_is_left.nd rfl (Or.inl rfl)) pgs_nil))))
    (pss_cons (ps_if (pt_cmpR op_eq (pv 4) pe_str (nomark _))
       (pss_one (ps_ret (pe_cmpR op_le (pe_call D_unlike.ok (hr.mono (by decide)) (by rfl) D_unlike.g D_unlike.kp D_unlike.b .nil pass0 (pa_cons (pv 2) (pa_cons (pv 3) pa_nil))) (pv 1) (nomark _))))
       pss_nil)
    (pss_cons (ps_if (pt_cmpR op_eq (pv 4) pe_str (nomark _))
       (pss_one (ps_ret (pe_cmpR op_le (pe_call D_unlike.ok (hr.mono (by decide)) (by rfl) D_unlike.g D_unlike.kp D_unlike.b .nil pass0 (pa_cons (pv 2) (pa_cons (pv 3) pa_nil))) (pv 5) (nomark _))))
       pss_nil)
    (pss_cons (ps_if (pt_cmpR op_eq (pv 4) pe_str (nomark _))
       (pss_one (ps_ret (pe_and (pe_cmpR op_le (pe_callBK (cr_maxD (lt2 hr) rfl) (by rfl) T.max (by decide +kernel) (pa_cons (pv 2) pa_nil) (pk_cons pe_int pk_nil)) (pv 3) (nomark _)) (pe_one (pe_cmpR op_le (pe_call D_unlike.ok (hr.mono (by decide)) (by rfl) D_unlike.g D_unlike.kp D_unlike.b .nil pass0 (pa_cons (pv 2) (pa_cons (pv 3) pa_nil))) (pv 5) (nomark _))))))
       pss_nil)
    (pss_one (ps_ret (pe_ifExp (pt_cmpR op_eq (pv 3) pe_int (nomark _)) (pe_cmpR op_le (pe_bmT PySem.F.slot_tuple_count PySem.F.type_tuple_count (mCntT K) (pv 2) (pa_cons pe_int pa_nil)) (pv 1) (nomark _)) (pe_cmpR op_eq (pe_bmT PySem.F.slot_tuple_count PySem.F.type_tuple_count (mCntT K) (pv 2) (pa_cons pe_int pa_nil)) pe_int (nomark _))))))))), ?_⟩
    refine ⟨_, rfl, rp, _, rfl, st_of hrp, rfl, _, _, rfl, _, _, rfl, rfl, ?_⟩
    dsimp only [gName]
    have hw : ∀ (z : Str) H1, EvT (tTest (tOp rEq (tVar 4) (tC (.str z)))) [some (.ref rp), some (.int sp), some (.ref t), some (.int g), some (.str wd.s), some (.int e)] H1 (decide (V.str wd.s = .str z)) := fun z H1 => et_test (ev_op (ev_var rfl) ev_c (rv_eq rfl))
    cases wd with
    | all =>
      refine q_when (b := true) (et_is (hw _ _) (by decide)) (fun _ H1 e1 => ?_) (fun z => Bool.noConfusion z)
      exact s_ret (ev_op (ev_call (ea_cons (ev_var rfl) (ea_cons (ev_var rfl) ea_nil)) (spv_unlike (ht.mono e1))) (ev_var rfl) rv_I0) fun H2 e2 => k H2 (e1.trans e2)
    | each =>
      refine q_when (b := false) (et_is (hw _ _) (by decide)) (fun z => Bool.noConfusion z) fun _ H1 e1 => ?_
      refine q_when (b := true) (et_is (hw _ _) (by decide)) (fun _ H2 e2 => ?_) (fun z => Bool.noConfusion z)
      exact s_ret (ev_op (ev_call (ea_cons (ev_var rfl) (ea_cons (ev_var rfl) ea_nil)) (spv_unlike (ht.mono (e1.trans e2)))) (ev_var rfl) rv_I0) fun H3 e3 => k H3 ((e1.trans e2).trans e3)
    | low =>
      refine q_when (b := false) (et_is (hw _ _) (by decide)) (fun z => Bool.noConfusion z) fun _ H1 e1 => ?_
      refine q_when (b := false) (et_is (hw _ _) (by decide)) (fun z => Bool.noConfusion z) fun _ H2 e2 => ?_
      refine q_when (b := true) (et_is (hw _ _) (by decide)) (fun _ H3 e3 => ?_) (fun z => Bool.noConfusion z)
      have e13 := (e1.trans e2).trans e3
      exact s_ret (ev_andV (ev_op (ev_maxD (ev_var rfl) (ht.mono e13).sq ev_c) (ev_var rfl) rv_I0) fun _ => ev_op (ev_call (ea_cons (ev_var rfl) (ea_cons (ev_var rfl) ea_nil)) (spv_unlike (ht.mono e13))) (ev_var rfl) rv_I0) fun H4 e4 => k H4 (e13.trans e4)
    | yes =>
      refine q_when (b := false) (et_is (hw _ _) (by decide)) (fun z => Bool.noConfusion z) fun _ H1 e1 => ?_
      refine q_when (b := false) (et_is (hw _ _) (by decide)) (fun z => Bool.noConfusion z) fun _ H2 e2 => ?_
      refine q_when (b := false) (et_is (hw _ _) (by decide)) (fun z => Bool.noConfusion z) fun _ H3 e3 => ?_
      have e13 := (e1.trans e2).trans e3
      have ht3 := ht.mono e13
      refine s_ret (ev_if (v := .bl (leftP .yes e sp told g)) (et_test (ev_op (ev_var rfl) ev_c rv_eqI)) (fun z => ?_) (fun z => ?_)) fun H4 e4 => k H4 (e13.trans e4)
      · have z := of_decide_eq_true z
        have e0 : leftP .yes e sp told g = decide ((told.count 0 : Int) ≤ sp) := if_pos z
        rw [e0]
        exact ev_op (ev_cntT (ev_var rfl) ht3 ev_c) (ev_var rfl) rv_I0
      · have z := of_decide_eq_false z
        have e0 : leftP .yes e sp told g = decide ((told.count 1 : Int) = 0) := if_neg z
        rw [e0]
        exact ev_op (ev_cntT (ev_var rfl) ht3 ev_c) ev_c rv_eqI
end
end K27
/-! ## P3 -/
set_option Elab.async false
set_option linter.all false
set_option maxRecDepth 100000
set_option maxHeartbeats 4000000
namespace K27
open PySem L2 Evl
section
variable {K : PySem.W.Frag} {σ : L2.St} {H : Hp}
theorem word_yes (w : Wd) : decide (w ≠ .yes) = !decide (V.str w.s = .str "yes") := by cases w <;> decide
theorem ev_most {r m : V} {w : Wd} {e fl : Int} {t1 t2 t3 t4 : TE} {E : XK} (hr : RlG H r w e) (hm : Any H m) (h1 : Ev t1 σ H m) (h2 : Ev t2 σ H (.int fl)) (h3 : Ev t3 σ H m) (h4 : Ev t4 σ H r) :
    Ev (tAndV (tCall spIsNumber [] E (tCons t1 tNil)) (tAndV (tOp (rI0 fun i j => .bl (decide (i ≤ j))) t2 t3) (tOrV (tOp rNe (tOp (rIxT K) t4 (tC (.int 0))) (tC (.str "yes"))) (tOp (rI0 fun i j => .bl (decide (i ≤ j))) t3 (tC (.int 1)))))) σ H (.bl (mostB w fl m)) := by
  have hc : Ev (tCall spIsNumber [] E (tCons t1 tNil)) σ H (.bl (isN m)) := ev_call (ea_cons h1 ea_nil) (spv_isNumber hm)
  by_cases c : ∃ i, m = .int i
  · obtain ⟨i, rfl⟩ := c
    obtain ⟨rp, rfl, hrp, _⟩ := hr
    refine ev_is (ev_andV hc fun _ => ev_andV (ev_op h2 h3 rv_I0) fun _ => ev_orV (ev_op (ev_ixT h4 ev_c (st_of hrp) rfl) ev_c (rv_ne rfl)) fun _ => ev_op h3 ev_c rv_I0) ?_
    show V.bl (decide (0 ≤ i) && (decide (fl ≤ i) && (!decide (V.str w.s = .str "yes") || decide (i ≤ 1)))) = V.bl (decide (0 ≤ i) && (decide (fl ≤ i) && (decide (w ≠ .yes) || decide (i ≤ 1))))
    rw [word_yes]
  · have h0 : isN m = false := by
      cases m with
      | int i => exact absurd ⟨i, rfl⟩ c
      | _ => rfl
    have h9 : mostB w fl m = false := by
      cases m with
      | int i => exact absurd ⟨i, rfl⟩ c
      | _ => rfl
    rw [h0] at hc
    rw [h9]
    exact ev_andF hc
theorem spv_rule {r : V} {b : Bool} (h : RuleIs H r b) : SpV spIsSomeRule [r] H (.bl b) := fun H1 e Q q _ => ⟨r, b, rfl, h.mono e, q⟩
theorem spv_nums {r : V} {b : Bool} (h : NumsIs H r b) : SpV spAreNumbers [r] H (.bl b) := fun H1 e Q q _ => ⟨r, b, rfl, h.mono e, q⟩
theorem given_left {w : Wd} {e sp fl rf : Int} {told : List Int} (h0 : 0 ≤ fl) (hy : w = .yes → rf ≤ 1) : given (rf + 1 - fl).toNat (fun i => leftP w e sp told (fl + (i : Int))) (fun i => .int (fl + (i : Int))) = iv (leftL w e sp fl rf told) := by
  unfold given leftL iv
  rw [List.map_map]
  have : List.filter (fun (i : Nat) => leftP w e sp told (fl + (i : Int))) (List.range (rf + 1 - fl).toNat) = List.filter (fun (i : Nat) => leftB w e sp told (fl + (i : Int))) (List.range (rf + 1 - fl).toNat) :=
    List.filter_congr fun i hi => by
      have := List.mem_range.mp hi
      exact leftP_eq (by omega) fun z => by have := hy z; omega
  rw [this]
  rfl
end
section
variable {P : Program} {w : World} {K : PySem.W.Frag} {mg : Str → Option Value} {base : Heap}
theorem ok_left_grades {f C : Addr} {fd : FuncData} (F : Fun K "left_grades" "left_grades" s_left_grades f fd) (T : Txt mg) (D_require : Dn P w K mg base (L2N.CX P w) 3 "require" ["good", "word"] (spRequire C))
    (D_is_number : Dn P w K mg base CX0 2 "is_number" ["thing"] spIsNumber) (D_is_some_rule : Dn P w K mg base (L2N.CX P w) 5 "is_some_rule" ["thing"] spIsSomeRule) (D_are_numbers : Dn P w K mg base CX0 3 "are_numbers" ["thing"] spAreNumbers)
    (D_is_left : Dn P w K mg base CX0 2 "is_left" ["rule", "still", "grades", "grade"] spIsLeft) : FnOk P w K mg base (L2N.CX P w) 6 f fd ["rule", "still", "least", "most", "grades"] (spLG C) := by
  refine okN F sc_left_grades (fun vs H Q E h => ?_) (fun cdv A outer s H vs Q E hr h => ?_)
  · obtain ⟨_, _, _, _, _, rfl, _⟩ := h
    rfl
  · obtain ⟨r, s, l, m, g, rfl, h⟩ := h
    refine ⟨_, (pss_cons (ps_expr (pe_call D_require.ok (hr.mono (by decide)) (by rfl) D_require.g D_require.kp D_require.b .nil (L2N.passes_call (L2N.takes_of rfl rfl rfl rfl) fun _ _ _ _ h => h) (pa_cons (pe_call D_is_some_rule.ok (hr.mono (by decide)) (by rfl) D_is_some_rule.g D_is_some_rule.kp D_is_some_rule.b .nil (L2N.passes_call (L2N.takes_of rfl rfl rfl rfl) fun _ _ _ _ h => h) (pa_cons (pv 0) pa_nil)) (pa_cons pe_str pa_nil))))
    (pss_cons (ps_expr (pe_call D_require.ok (hr.mono (by decide)) (by rfl) D_require.g D_require.kp D_require.b .nil (L2N.passes_call (L2N.takes_of rfl rfl rfl rfl) fun _ _ _ _ h => h) (pa_cons (pe_call D_is_number.ok (hr.mono (by decide)) (by rfl) D_is_number.g D_is_number.kp D_is_number.b .nil pass0 (pa_cons (pv 1) pa_nil)) (pa_cons pe_str pa_nil))))
    (pss_cons (ps_expr (pe_call D_require.ok (hr.mono (by decide)) (by rfl) D_require.g D_require.kp D_require.b .nil (L2N.passes_call (L2N.takes_of rfl rfl rfl rfl) fun _ _ _ _ h => h) (pa_cons (pe_call D_is_number.ok (hr.mono (by decide)) (by rfl) D_is_number.g D_is_number.kp D_is_number.b .nil pass0 (pa_cons (pv 2) pa_nil)) (pa_cons pe_str pa_nil))))
    (pss_cons (ps_expr (pe_call D_require.ok (hr.mono (by decide)) (by rfl) D_require.g D_require.kp D_require.b .nil (L2N.passes_call (L2N.takes_of rfl rfl rfl rfl) fun _ _ _ _ h => h) (pa_cons (pe_and (pe_call D_is_number.ok (hr.mono (by decide)) (by rfl) D_is_number.g D_is_number.kp D_is_number.b .nil pass0 (pa_cons (pv 3) pa_nil)) (pe_and (pe_cmpR op_le (pv 2) (pv 3) (nomark _)) (pe_one (pe_or (pe_cmpR op_ne (pe_ix (iT K) (pv 0) pe_int (fun _ _ => rfl)) pe_str (nomark _)) (pe_one (pe_cmpR op_le (pv 3) pe_int (nomark _))))))) (pa_cons pe_str pa_nil))))
    (pss_cons (ps_expr (pe_call D_require.ok (hr.mono (by decide)) (by rfl) D_require.g D_require.kp D_require.b .nil (L2N.passes_call (L2N.takes_of rfl rfl rfl rfl) fun _ _ _ _ h => h) (pa_cons (pe_call D_are_numbers.ok (hr.mono (by decide)) (by rfl) D_are_numbers.g D_are_numbers.kp D_are_numbers.b .nil pass0 (pa_cons (pv 4) pa_nil)) (pa_cons pe_str pa_nil))))
    (pss_one (ps_ret (pe_callTy (cTupF K) (by rfl) T.tuple (by decide +kernel) (pa_cons (pe_lc (own := [("grade", 5)]) (g := (gName 5)) rfl sc_left_grades.nd (pi_range2 (by rfl) T.range (pa_cons (pv 2) (pa_cons (pe_op op_add (pv 3) pe_int) pa_nil))) (blkOk_by (own := [("grade", 5)]) (N := N_left_grades) (sc := defScope s_left_grades) (by decide +kernel)) (fun _ _ _ _ _ => pg_name (i := 5) sc_left_grades.nd rfl (Or.inl rfl)) (fun _ _ _ _ _ => pts_one (pt_val (pe_call D_is_left.ok (hr.mono (by decide)) (by rfl) D_is_left.g D_is_left.kp D_is_left.b .nil pass0 (pa_cons (pv 0) (pa_cons (pv 1) (pa_cons (pv 4) (pa_cons (pv 5) pa_nil))))))) (fun _ _ _ _ _ => (pv 5))) pa_nil))))))))), ?_⟩
    rcases h with ⟨z, hb, kE⟩ | ⟨wd, e, sp, fl, rf, t, told, hrl, rfl, h0, rfl, h1, rfl, h2, h3, h4, rfl, ht, h5, h6, k⟩
    · cases hb with
      | rule h => exact q_req (g := false) (ev_call (ea_cons (ev_var rfl) ea_nil) (spv_rule h)) (fun z => Bool.noConfusion z) fun _ => kE
      | still h a n =>
        refine q_req (g := true) (ev_call (ea_cons (ev_var rfl) ea_nil) (spv_rule h.is)) (fun _ H1 e1 => ?_) fun z => Bool.noConfusion z
        exact q_req (g := false) (ev_is (ev_call (ea_cons (ev_var rfl) ea_nil) (spv_isNumber (a.mono e1))) (congrArg V.bl n)) (fun z => Bool.noConfusion z) fun _ d H2 e2 hd => kE d H2 (e1.trans e2) hd
      | least h h0 a n =>
        refine q_req (g := true) (ev_call (ea_cons (ev_var rfl) ea_nil) (spv_rule h.is)) (fun _ H1 e1 => ?_) fun z => Bool.noConfusion z
        refine q_req (g := true) (ev_is (ev_call (ea_cons (ev_var rfl) ea_nil) (spv_isNumber (.int _))) (congrArg V.bl (decide_eq_true h0))) (fun _ H2 e2 => ?_) fun z => Bool.noConfusion z
        exact q_req (g := false) (ev_is (ev_call (ea_cons (ev_var rfl) ea_nil) (spv_isNumber (a.mono (e1.trans e2)))) (congrArg V.bl n)) (fun z => Bool.noConfusion z) fun _ d H3 e3 hd => kE d H3 ((e1.trans e2).trans e3) hd
      | most h h0 h1 a n =>
        refine q_req (g := true) (ev_call (ea_cons (ev_var rfl) ea_nil) (spv_rule h.is)) (fun _ H1 e1 => ?_) fun z => Bool.noConfusion z
        refine q_req (g := true) (ev_is (ev_call (ea_cons (ev_var rfl) ea_nil) (spv_isNumber (.int _))) (congrArg V.bl (decide_eq_true h0))) (fun _ H2 e2 => ?_) fun z => Bool.noConfusion z
        refine q_req (g := true) (ev_is (ev_call (ea_cons (ev_var rfl) ea_nil) (spv_isNumber (.int _))) (congrArg V.bl (decide_eq_true h1))) (fun _ H3 e3 => ?_) fun z => Bool.noConfusion z
        have e13 := (e1.trans e2).trans e3
        exact q_req (g := false) (ev_is (ev_most (h.mono e13) (a.mono e13) (ev_var rfl) (ev_var rfl) (ev_var rfl) (ev_var rfl)) (congrArg V.bl n)) (fun z => Bool.noConfusion z) fun _ d H4 e4 hd => kE d H4 (e13.trans e4) hd
      | grades h h0 h1 h2 n =>
        refine q_req (g := true) (ev_call (ea_cons (ev_var rfl) ea_nil) (spv_rule h.is)) (fun _ H1 e1 => ?_) fun z => Bool.noConfusion z
        refine q_req (g := true) (ev_is (ev_call (ea_cons (ev_var rfl) ea_nil) (spv_isNumber (.int _))) (congrArg V.bl (decide_eq_true h0))) (fun _ H2 e2 => ?_) fun z => Bool.noConfusion z
        refine q_req (g := true) (ev_is (ev_call (ea_cons (ev_var rfl) ea_nil) (spv_isNumber (.int _))) (congrArg V.bl (decide_eq_true h1))) (fun _ H3 e3 => ?_) fun z => Bool.noConfusion z
        have e13 := (e1.trans e2).trans e3
        refine q_req (g := true) (ev_is (ev_most (h.mono e13) (.int _) (ev_var rfl) (ev_var rfl) (ev_var rfl) (ev_var rfl)) (congrArg V.bl h2)) (fun _ H4 e4 => ?_) fun z => Bool.noConfusion z
        exact q_req (g := false) (ev_call (ea_cons (ev_var rfl) ea_nil) (spv_nums (n.mono (e13.trans e4)))) (fun z => Bool.noConfusion z) fun _ d H5 e5 hd => kE d H5 ((e13.trans e4).trans e5) hd
    · refine q_req (g := true) (ev_call (ea_cons (ev_var rfl) ea_nil) (spv_rule hrl.is)) (fun _ H1 e1 => ?_) fun z => Bool.noConfusion z
      refine q_req (g := true) (ev_is (ev_call (ea_cons (ev_var rfl) ea_nil) (spv_isNumber (.int _))) (congrArg V.bl (decide_eq_true h0))) (fun _ H2 e2 => ?_) fun z => Bool.noConfusion z
      refine q_req (g := true) (ev_is (ev_call (ea_cons (ev_var rfl) ea_nil) (spv_isNumber (.int _))) (congrArg V.bl (decide_eq_true h1))) (fun _ H3 e3 => ?_) fun z => Bool.noConfusion z
      have e13 := (e1.trans e2).trans e3
      have hmost : mostB wd fl (.int rf) = true := by
        show (decide (0 ≤ rf) && (decide (fl ≤ rf) && (decide (wd ≠ .yes) || decide (rf ≤ 1)))) = true
        rw [decide_eq_true (by omega : 0 ≤ rf), decide_eq_true h2]
        by_cases c : wd = .yes
        · rw [decide_eq_true (h4 c)]; simp
        · rw [decide_eq_true c]; rfl
      refine q_req (g := true) (ev_is (ev_most (hrl.mono e13) (.int _) (ev_var rfl) (ev_var rfl) (ev_var rfl) (ev_var rfl)) (congrArg V.bl hmost)) (fun _ H4 e4 => ?_) fun z => Bool.noConfusion z
      have e14 := e13.trans e4
      refine q_req (g := true) (ev_call (ea_cons (ev_var rfl) ea_nil) (spv_nums (nums_ok (ht.mono e14) h5 h6))) (fun _ H5 e5 => ?_) fun z => Bool.noConfusion z
      have e15 := e14.trans e5
      refine s_retF (xs := iv (leftL wd e sp fl rf told)) ?_ fun p H6 hp e6 h6' => k p H6 (fresh_back e15 hp) (e15.trans e6) h6'
      rw [← given_left h1 h4]
      refine ef_listN (el_lcR2 _ _ (ea_cons (ev_var rfl) (ea_cons (ev_op (ev_var rfl) ev_c rv_I0) ea_nil)) ⟨h1, by omega, by omega, by omega⟩ (fun x => rfl) (fun i H6 e6 hi => ?_) fun i H6 e6 hi hf => ev_var rfl)
      have e16 := e15.trans e6
      exact et_B (ev_call (ea_cons (ev_var rfl) (ea_cons (ev_var rfl) (ea_cons (ev_var rfl) (ea_cons (ev_var rfl) ea_nil)))) fun H7 e7 Q' q' _ => ⟨r, t, wd, e, sp, _, told, rfl, hrl.mono (e16.trans e7), ht.mono (e16.trans e7), q'⟩)
theorem ok_off_by {f C : Addr} {fd : FuncData} (F : Fun K "off_by" "off_by" s_off_by f fd) (T : Txt mg) (D_require : Dn P w K mg base (L2N.CX P w) 3 "require" ["good", "word"] (spRequire C))
    (D_is_number : Dn P w K mg base CX0 2 "is_number" ["thing"] spIsNumber) (D_is_some_rule : Dn P w K mg base (L2N.CX P w) 5 "is_some_rule" ["thing"] spIsSomeRule) (D_are_numbers : Dn P w K mg base CX0 3 "are_numbers" ["thing"] spAreNumbers)
    (D_unlike : Dn P w K mg base CX0 1 "unlike" ["grades", "grade"] spUnlike) : FnOk P w K mg base (L2N.CX P w) 6 f fd ["rule", "settled", "grades"] (spOff C) := by
  refine okN F sc_off_by (fun vs H Q E h => ?_) (fun cdv A outer s H vs Q E hr h => ?_)
  · obtain ⟨_, _, _, rfl, _⟩ := h
    rfl
  · obtain ⟨r, s, g, rfl, h⟩ := h
    refine ⟨_, (pss_cons (ps_expr (pe_call D_require.ok (hr.mono (by decide)) (by rfl) D_require.g D_require.kp D_require.b .nil (L2N.passes_call (L2N.takes_of rfl rfl rfl rfl) fun _ _ _ _ h => h) (pa_cons (pe_call D_is_some_rule.ok (hr.mono (by decide)) (by rfl) D_is_some_rule.g D_is_some_rule.kp D_is_some_rule.b .nil (L2N.passes_call (L2N.takes_of rfl rfl rfl rfl) fun _ _ _ _ h => h) (pa_cons (pv 0) pa_nil)) (pa_cons pe_str pa_nil))))
    (pss_cons (ps_expr (pe_call D_require.ok (hr.mono (by decide)) (by rfl) D_require.g D_require.kp D_require.b .nil (L2N.passes_call (L2N.takes_of rfl rfl rfl rfl) fun _ _ _ _ h => h) (pa_cons (pe_call D_is_number.ok (hr.mono (by decide)) (by rfl) D_is_number.g D_is_number.kp D_is_number.b .nil pass0 (pa_cons (pv 1) pa_nil)) (pa_cons pe_str pa_nil))))
    (pss_cons (ps_expr (pe_call D_require.ok (hr.mono (by decide)) (by rfl) D_require.g D_require.kp D_require.b .nil (L2N.passes_call (L2N.takes_of rfl rfl rfl rfl) fun _ _ _ _ h => h) (pa_cons (pe_call D_are_numbers.ok (hr.mono (by decide)) (by rfl) D_are_numbers.g D_are_numbers.kp D_are_numbers.b .nil pass0 (pa_cons (pv 2) pa_nil)) (pa_cons pe_str pa_nil))))
    (pss_one (ps_ret (pe_ifExp (pt_cmpR (oIn K) (pe_ix (iT K) (pv 0) pe_int (fun _ _ => rfl)) (pe_tup (pa_cons pe_str (pa_cons pe_str pa_nil))) (by with_unfolding_all rfl)) (pe_call D_unlike.ok (hr.mono (by decide)) (by rfl) D_unlike.g D_unlike.kp D_unlike.b .nil pass0 (pa_cons (pv 2) (pa_cons (pv 1) pa_nil))) pe_int)))))), ?_⟩
    rcases h with ⟨z, hb, kE⟩ | ⟨wd, e, c, t, told, hrl, rfl, h0, rfl, ht, h5, h6, k⟩
    · cases hb with
      | rule h => exact q_req (g := false) (ev_call (ea_cons (ev_var rfl) ea_nil) (spv_rule h)) (fun z => Bool.noConfusion z) fun _ => kE
      | settled h a n =>
        refine q_req (g := true) (ev_call (ea_cons (ev_var rfl) ea_nil) (spv_rule h.is)) (fun _ H1 e1 => ?_) fun z => Bool.noConfusion z
        exact q_req (g := false) (ev_is (ev_call (ea_cons (ev_var rfl) ea_nil) (spv_isNumber (a.mono e1))) (congrArg V.bl n)) (fun z => Bool.noConfusion z) fun _ d H2 e2 hd => kE d H2 (e1.trans e2) hd
      | grades h h0 n =>
        refine q_req (g := true) (ev_call (ea_cons (ev_var rfl) ea_nil) (spv_rule h.is)) (fun _ H1 e1 => ?_) fun z => Bool.noConfusion z
        refine q_req (g := true) (ev_is (ev_call (ea_cons (ev_var rfl) ea_nil) (spv_isNumber (.int _))) (congrArg V.bl (decide_eq_true h0))) (fun _ H2 e2 => ?_) fun z => Bool.noConfusion z
        exact q_req (g := false) (ev_call (ea_cons (ev_var rfl) ea_nil) (spv_nums (n.mono (e1.trans e2)))) (fun z => Bool.noConfusion z) fun _ d H3 e3 hd => kE d H3 ((e1.trans e2).trans e3) hd
    · refine q_req (g := true) (ev_call (ea_cons (ev_var rfl) ea_nil) (spv_rule hrl.is)) (fun _ H1 e1 => ?_) fun z => Bool.noConfusion z
      refine q_req (g := true) (ev_is (ev_call (ea_cons (ev_var rfl) ea_nil) (spv_isNumber (.int _))) (congrArg V.bl (decide_eq_true h0))) (fun _ H2 e2 => ?_) fun z => Bool.noConfusion z
      have e12 := e1.trans e2
      refine q_req (g := true) (ev_call (ea_cons (ev_var rfl) ea_nil) (spv_nums (nums_ok (ht.mono e12) h5 h6))) (fun _ H3 e3 => ?_) fun z => Bool.noConfusion z
      have e13 := e12.trans e3
      have ht3 := ht.mono e13
      obtain ⟨rp, rfl, hrp, _⟩ := hrl.mono e13
      refine s_ret (ev_if (v := .int (offN wd told c)) (et_test (ev_inU (ev_ixT (ev_var rfl) ev_c (st_of hrp) rfl) (eu_tup (ea_cons ev_c (ea_cons ev_c ea_nil)) (by show 2 ≤ _; decide)) rfl rfl)) (fun z => ?_) (fun z => ?_)) fun H4 e4 => k H4 (e13.trans e4)
      · have : offN wd told c = wr told c := by cases wd <;> first | rfl | exact absurd z (by decide)
        rw [this]
        exact ev_call (ea_cons (ev_var rfl) (ea_cons (ev_var rfl) ea_nil)) (spv_unlike ht3)
      · have : offN wd told c = 0 := by cases wd <;> first | rfl | exact absurd z (by decide)
        rw [this]
        exact ev_c
end
end K27
/-! ## P4 -/
set_option Elab.async false
set_option linter.all false
set_option maxRecDepth 100000
set_option maxHeartbeats 4000000
namespace K27
open PySem L2 Evl
section
variable {K : PySem.W.Frag} {σ : L2.St} {H : Hp} {ta tb tc : TE}
theorem ev_abs {i : Int} (h : Ev ta σ H (.int i)) : Ev (tCB (fun xs H Q => ∃ i, xs = [.int i] ∧ Q (.int (if i < 0 then -i else i)) H) (tCons ta tNil)) σ H (.int (if i < 0 then -i else i)) := fun H1 e Q q =>
  h H1 e _ fun H2 e2 => ⟨i, rfl, q H2 e2⟩
theorem ev_cntL {p : Addr} {ns : List Int} {g : Int} (ha : Ev ta σ H (.ref p)) (hp : SqL K H p (iv ns)) (hb : Ev tb σ H (.int g)) : Ev (tBM K "list" (rCntI K) ta (tCons tb tNil)) σ H (.int ((ns.count g : Nat) : Int)) := fun H1 e Q q =>
  ha H1 e _ fun H2 e2 => ⟨Or.inl ⟨rfl, _, ex_l (e.trans e2) hp⟩, hb H2 (e.trans e2) _ fun H3 e3 => ⟨p, ns, g, rfl, rfl, ex_l ((e.trans e2).trans e3) hp, q H3 (e2.trans e3)⟩⟩
end
abbrev s__law_feed : Stmt := top 21
abbrev N__law_feed : List Str := ["_law_script", "_law_feed_here", "_law_cell"]
theorem sc__law_feed : FnScope N__law_feed ["_law_script"] (defScope s__law_feed) := ⟨rfl, rfl, rfl, by decide +kernel, rfl, by decide +kernel, by decide +kernel⟩
def spFeed (K : PySem.W.Frag) : Sp := fun vs H Q _ => ∃ (a : Addr) (ns : List Int), vs = [.ref a] ∧ SqL K H a (iv ns) ∧ ns.length ≤ 63 ∧ ∀ b H', FG H H' b → Q (.ref b) H'
abbrev s__law_take : Stmt := top 22
abbrev N__law_take : List Str := ["_law_feed_here", "_law_many", "_law_got", "_law_cell"]
theorem sc__law_take : FnScope N__law_take ["_law_feed_here", "_law_many"] (defScope s__law_take) := ⟨rfl, rfl, rfl, by decide +kernel, rfl, by decide +kernel, by decide +kernel⟩
def spTake : Sp := fun vs H Q _ => ∃ (G : Hp) (b : Addr) (m : Int), vs = [.ref b, .int m] ∧ FG G H b ∧ (1 ≤ m ∧ m < 1000000000) ∧ ∀ v H', 0 ≤ v → v < m → FG G H' b → Q (.int v) H'
abbrev s__law_is : Stmt := top 28
abbrev N__law_is : List Str := ["_law_thing", "_law_due"]
theorem sc__law_is : FnScope N__law_is ["_law_thing", "_law_due"] (defScope s__law_is) := ⟨rfl, rfl, rfl, by decide +kernel, rfl, by decide +kernel, by decide +kernel⟩
def isEq (x : V) (d : Int) : Bool := match x with
  | .int i => decide (i = d)
  | _ => false
def spIs : Sp := fun vs H Q _ => ∃ (x : V) (d : Int), vs = [x, .int d] ∧ Any H x ∧ RetV (.bl (isEq x d)) H Q
abbrev s__law_same : Stmt := top 29
abbrev N__law_same : List Str := ["_law_thing", "_law_due", "_law_k"]
theorem sc__law_same : FnScope N__law_same ["_law_thing", "_law_due"] (defScope s__law_same) := ⟨rfl, rfl, rfl, by decide +kernel, rfl, by decide +kernel, by decide +kernel⟩
def spSame (K : PySem.W.Frag) : Sp := fun vs H Q _ => ∃ (p q : Addr) (ns : List Int), vs = [.ref p, .ref q] ∧ TupN H p (iv ns) ∧ SqL K H q (iv ns) ∧ ns.length ≤ 1000 ∧ RetV (.bl true) H Q
abbrev s__law_off : Stmt := top 30
abbrev N__law_off : List Str := ["_law_words_here", "_law_settled_at", "_law_told", "_law_one"]
theorem sc__law_off : FnScope N__law_off ["_law_words_here", "_law_settled_at", "_law_told"] (defScope s__law_off) := ⟨rfl, rfl, rfl, by decide +kernel, rfl, by decide +kernel, by decide +kernel⟩
def spOffL (K : PySem.W.Frag) : Sp := fun vs H Q _ => ∃ (r : V) (t : Addr) (w : Wd) (e c : Int) (told : List Int), vs = [r, .int c, .ref t] ∧ RlG H r w e ∧ SqL K H t (iv told) ∧ told.length ≤ 1000 ∧ RetV (.int (offN w told c)) H Q
abbrev s__law_bound : Stmt := top 31
abbrev N__law_bound : List Str := ["_law_words_here", "_law_spare", "_law_off_here"]
theorem sc__law_bound : FnScope N__law_bound ["_law_words_here", "_law_spare", "_law_off_here"] (defScope s__law_bound) := ⟨rfl, rfl, rfl, by decide +kernel, rfl, by decide +kernel, by decide +kernel⟩
def spBound : Sp := fun vs H Q _ => ∃ (r : V) (w : Wd) (e sp off : Int), vs = [r, .int sp, .int off] ∧ RlG H r w e ∧ RetV (.int (bnd w e sp off)) H Q
theorem filter_wr (c : Int) : ∀ told : List Int, ((told.filter fun x => !decide (x = c)).length : Int) = wr told c
  | [] => rfl
  | x :: l => by
    have ih := filter_wr c l
    unfold wr at ih ⊢
    rw [List.count_cons, List.length_cons]
    by_cases h : x = c
    · subst h
      rw [List.filter_cons_of_neg (by simp)]
      simp
      omega
    · rw [List.filter_cons_of_pos (by simp [h]), List.length_cons]
      have : (x == c) = false := beq_eq_false_iff_ne.mpr h
      rw [this]
      have := List.count_le_length (a := c) (l := l)
      simp
      omega
theorem given_fil (told : List Int) (c : Int) : given (iv told).length (fun i => !decide (told.getD i 0 = c)) (fun i => .int (told.getD i 0)) = iv (told.filter fun x => !decide (x = c)) := by
  have hr : told = (List.range told.length).map fun i => told.getD i 0 := by
    apply List.ext_getElem?
    intro i
    rw [List.getElem?_map]
    by_cases q : i < told.length
    · rw [List.getElem?_range q, List.getElem?_eq_getElem q]
      show some told[i] = some (told.getD i 0)
      rw [List.getD_eq_getElem?_getD, List.getElem?_eq_getElem q]
      rfl
    · rw [List.getElem?_eq_none (by omega), List.getElem?_eq_none (by simp; omega)]
      rfl
  rw [iv_len]
  conv => rhs; rw [hr]
  unfold given iv
  rw [List.filter_map, List.map_map]
  rfl
section
variable {P : Program} {w : World} {K : PySem.W.Frag} {mg : Str → Option Value} {base : Heap}
theorem ok_take {f : Addr} {fd : FuncData} (F : Fun K "_law_take" "_law_take" s__law_take f fd) (T : Txt mg) : FnOk P w K mg base CX0 1 f fd ["_law_feed_here", "_law_many"] spTake := by
  refine F.ok sc__law_take (fun vs H Q E h => ?_) (fun cdv A outer s H vs Q E hr h => ?_)
  · obtain ⟨_, _, _, rfl, _⟩ := h
    rfl
  · obtain ⟨G, b, m, rfl, fg, hm, k⟩ := h
    refine ⟨_, (pss_cons (ps_if (pt_cmpR op_eq (pe_callB (cLen K) (by rfl) T.len PySem.boot_len (pa_cons (pv 0) pa_nil)) pe_int (nomark _))
       (pss_one (ps_ret pe_int))
       pss_nil)
    (pss_cons (ps_if (pt_cmpR op_gt (pe_ix (iL K) (pv 0) pe_int (fun _ _ => rfl)) pe_int (nomark _))
       (pss_cons (ps_set (i := 2) sc__law_take.nd rfl (Or.inl rfl) (pe_op op_mod (pe_callTy call_int1 (by rfl) T.int (by decide +kernel) (pa_cons (pe_ix (iL K) (pv 0) pe_int (fun _ _ => rfl)) pa_nil)) (pv 1)))
      (pss_cons (ps_asg (pe_op op_fdiv (pe_ix (iL K) (pv 0) pe_int (fun _ _ => rfl)) (pv 1)) (pg_sub (pv 0) pe_int set_list))
      (pss_one (ps_ret (pv 2)))))
       pss_nil)
    (pss_cons (ps_asg (pe_op op_add (pe_ix (iL K) (pv 0) pe_int (fun _ _ => rfl)) pe_int) (pg_sub (pv 0) pe_int set_list))
    (pss_cons (ps_set (i := 3) sc__law_take.nd rfl (Or.inl rfl) (pe_ix (iL K) (pv 0) (pe_op op_add pe_int (pe_op op_mod (pe_callTy call_int1 (by rfl) T.int (by decide +kernel) (pa_cons (pe_ix (iL K) (pv 0) pe_int (fun _ _ => rfl)) pa_nil)) (pe_op op_sub (pe_callB (cLen K) (by rfl) T.len PySem.boot_len (pa_cons (pv 0) pa_nil)) pe_int))) (fun _ _ => rfl)))
    (pss_cons (ps_asg (pe_op op_mod (pe_callTy call_int1 (by rfl) T.int (by decide +kernel) (pa_cons (pe_op op_add (pe_op op_add (pe_op op_mul (pe_ix (iL K) (pv 0) pe_int (fun _ _ => rfl)) pe_int) (pe_op op_mul (pv 3) pe_int)) (pe_ix (iL K) (pv 0) pe_int (fun _ _ => rfl))) pa_nil)) pe_int) (pg_sub (pv 0) pe_int set_list))
    (pss_one (ps_ret (pe_op op_mod (pe_callTy call_int1 (by rfl) T.int (by decide +kernel) (pa_cons (pe_op op_fdiv (pe_ix (iL K) (pv 0) pe_int (fun _ _ => rfl)) pe_int) pa_nil)) (pv 1))))))))), ?_⟩
    obtain ⟨ex, gb, z0, z1, z2, cs, hb, h0, h1, h2, hl, hc⟩ := id fg
    have hlen : (iv (z0 :: z1 :: z2 :: cs)).length = cs.length + 3 := by rw [iv_len]; rfl
    refine q_if (b := decide (cs.length = 0)) (et_is (et_test (ev_op (ev_len (ev_var rfl) (sq_of hb)) ev_c rv_eqI)) (decide_eq_decide.mpr (by rw [hlen]; omega))) (fun _ H1 e1 => s_ret ev_c fun H2 e2 => k 0 H2 (by omega) (by omega) (fg.grow (e1.trans e2))) (fun hz H1 e1 => ?_)
    have hz := of_decide_eq_false hz
    have hb1 := e1 _ _ hb
    have ex1 := ex.trans e1
    refine q_if (b := decide (0 < z0)) (et_test (ev_op (ev_ixL (ev_var rfl) ev_c (sq_of hb1) (atI_nat (j := 0) rfl)) ev_c rv_I0)) (fun hp H2 e2 => ?_) (fun hp H2 e2 => ?_)
    · have hb2 := e2 _ _ hb1
      refine q_asg (v := .int (z0 % m)) (ev_op (ev_int1 (ev_ixL (ev_var rfl) ev_c (sq_of hb2) (atI_nat (j := 0) rfl))) (ev_var rfl) (rv_I (by omega))) fun H3 e3 => ?_
      have hb3 := e3 _ _ hb2
      refine q_setL (v := .int (z0 / m)) hb3 (ev_op (ev_ixL (ev_var rfl) ev_c (sq_of hb3) (atI_nat (j := 0) rfl)) (ev_var rfl) (rv_I ⟨by omega, by omega⟩)) (ev_var rfl) (ev_c (v := .int ((0 : Nat) : Int))) (by rw [hlen]; omega) fun H4 e4 => ?_
      refine s_ret (ev_var rfl) fun H5 e5 => ?_
      have f4 : FG G (upd H4 b (.lst (iv (z0 / m :: z1 :: z2 :: cs)))) b := ⟨(((ex1.trans e2).trans e3).trans e4).mut gb, gb, z0 / m, z1, z2, cs, upd_same, Int.ediv_nonneg h0 (by omega), h1, h2, hl, hc⟩
      exact k _ H5 (Int.emod_nonneg _ (by omega)) (Int.emod_lt_of_pos _ (by omega)) (f4.grow e5)
    · have hb2 := e2 _ _ hb1
      refine q_setL (v := .int (z2 + 1)) hb2 (ev_op (ev_ixL (ev_var rfl) ev_c (sq_of hb2) (atI_nat (j := 2) rfl)) ev_c rv_I0) (ev_var rfl) (ev_c (v := .int ((2 : Nat) : Int))) (by rw [hlen]; omega) fun H3 e3 => ?_
      have hb3 : upd H3 b (.lst ((iv (z0 :: z1 :: z2 :: cs)).set 2 (.int (z2 + 1)))) b = some (.lst (iv (z0 :: z1 :: (z2 + 1) :: cs))) := upd_same
      have ex3 := ((ex1.trans e2).trans e3).mut (o := .lst ((iv (z0 :: z1 :: z2 :: cs)).set 2 (.int (z2 + 1)))) gb
      generalize upd H3 b (.lst ((iv (z0 :: z1 :: z2 :: cs)).set 2 (.int (z2 + 1)))) = H3' at hb3 ex3 ⊢
      have hlen3 : (iv (z0 :: z1 :: (z2 + 1) :: cs)).length = cs.length + 3 := by rw [iv_len]; rfl
      obtain ⟨j, hj, hj2⟩ : ∃ j : Nat, (z2 + 1) % (((iv (z0 :: z1 :: (z2 + 1) :: cs)).length : Int) - 3) = (j : Int) ∧ j < cs.length := by
        rw [hlen3]
        have n0 : ((cs.length + 3 : Nat) : Int) - 3 = (cs.length : Int) := by omega
        rw [n0]
        have g1 := Int.emod_nonneg (z2 + 1) (b := (cs.length : Int)) (by omega)
        have g2 := Int.emod_lt_of_pos (z2 + 1) (b := (cs.length : Int)) (by omega)
        exact ⟨((z2 + 1) % (cs.length : Int)).toNat, by omega, by omega⟩
      have hcj := hc _ (List.getElem_mem hj2)
      have hat : (iv (z0 :: z1 :: (z2 + 1) :: cs))[3 + j]? = some (.int cs[j]) := by
        rw [List.getElem?_map, Nat.add_comm]
        show Option.map V.int (cs[j]?) = _
        rw [List.getElem?_eq_getElem hj2]
        rfl
      refine q_asg (v := .int cs[j]) (ev_ixL (ev_var rfl) (ev_is (ev_op ev_c (ev_op (ev_int1 (ev_ixL (ev_var rfl) ev_c (sq_of hb3) (atI_nat (j := 2) rfl))) (ev_op (ev_len (ev_var rfl) (sq_of hb3)) ev_c rv_I0) (rv_I (by rw [hlen3]; omega))) rv_I0) (w := .int ((3 + j : Nat) : Int)) (congrArg V.int ?_)) (sq_of hb3) (atI_nat hat)) fun H4 e4 => ?_
      · show (3 : Int) + (z2 + 1) % (((iv (z0 :: z1 :: (z2 + 1) :: cs)).length : Int) - 3) = _
        rw [hj]
        omega
      have hb4 := e4 _ _ hb3
      obtain ⟨t1, ht1⟩ : ∃ t1 : Int, t1 = (z1 * 20011 + cs[j] * 64007 + (z2 + 1)) % 2147483647 := ⟨_, rfl⟩
      have g1 : 0 ≤ t1 ∧ t1 < 2147483648 := by omega
      refine q_setL (v := .int t1) hb4 (ev_is (ev_op (ev_int1 (ev_op (ev_op (ev_op (ev_ixL (ev_var rfl) ev_c (sq_of hb4) (atI_nat (j := 1) rfl)) ev_c (rv_I (.inl ⟨by omega, by omega⟩))) (ev_op (ev_var rfl) ev_c (rv_I (.inl ⟨by omega, by omega⟩))) rv_I0) (ev_ixL (ev_var rfl) ev_c (sq_of hb4) (atI_nat (j := 2) rfl)) rv_I0)) ev_c (rv_I (by decide))) (congrArg V.int ht1.symm)) (ev_var rfl) (ev_c (v := .int ((1 : Nat) : Int))) (by rw [hlen3]; omega) fun H5 e5 => ?_
      have f5 : FG G (upd H5 b (.lst (iv (z0 :: t1 :: (z2 + 1) :: cs)))) b := ⟨((ex3.trans e4).trans e5).mut gb, gb, z0, t1, z2 + 1, cs, upd_same, h0, g1, by omega, hl, hc⟩
      refine s_ret (ev_op (ev_int1 (ev_op (ev_ixL (ev_var rfl) ev_c (sq_of upd_same) (atI_nat (j := 1) rfl)) ev_c (rv_I ⟨by decide, by decide⟩))) (ev_var rfl) (rv_I (by omega))) fun H6 e6 => ?_
      exact k _ H6 (Int.emod_nonneg _ (by omega)) (Int.emod_lt_of_pos _ (by omega)) (f5.grow e6)
theorem ok_is {f : Addr} {fd : FuncData} (F : Fun K "_law_is" "_law_is" s__law_is f fd) (T : Txt mg) : FnOk P w K mg base CX0 1 f fd ["_law_thing", "_law_due"] spIs := by
  refine F.ok sc__law_is (fun vs H Q E h => ?_) (fun cdv A outer s H vs Q E hr h => ?_)
  · obtain ⟨_, _, rfl, _⟩ := h
    rfl
  · obtain ⟨x, d, rfl, hx, k⟩ := h
    refine ⟨_, (pss_one (ps_ret (pe_and (pe_callB (cIsi K) (by rfl) T.isinstance (by decide +kernel) (pa_cons (pv 0) (pa_cons (pe_ty_int T) pa_nil))) (pe_and (pe_not (pe_callB (cIsi K) (by rfl) T.isinstance (by decide +kernel) (pa_cons (pv 0) (pa_cons (pe_ty_bool T) pa_nil)))) (pe_one (pe_cmpR op_eq (pv 0) (pv 1) (nomark _))))))), ?_⟩
    cases x with
    | int i => exact s_ret (ev_andV (a := true) (ev_isiI (ev_var rfl) hx) fun _ => ev_andV (a := true) (ev_notV (ev_isiB (ev_var rfl) hx)) fun _ => ev_op (ev_var rfl) (ev_var rfl) rv_eqI) k
    | bl b => exact s_ret (ev_andV (a := true) (b := false) (ev_is (ev_isiI (ev_var rfl) hx) rfl) fun _ => ev_andF (ev_notV (a := true) (ev_isiB (ev_var rfl) hx))) k
    | _ => exact s_ret (ev_andF (ev_isiI (ev_var rfl) hx)) k
theorem ok_same {f : Addr} {fd : FuncData} (F : Fun K "_law_same" "_law_same" s__law_same f fd) (T : Txt mg) (D__law_is : Dn P w K mg base CX0 1 "_law_is" ["_law_thing", "_law_due"] spIs) : FnOk P w K mg base CX0 2 f fd ["_law_thing", "_law_due"] (spSame K) := by
  refine F.ok sc__law_same (fun vs H Q E h => ?_) (fun cdv A outer s H vs Q E hr h => ?_)
  · obtain ⟨_, _, _, rfl, _⟩ := h
    rfl
  · obtain ⟨p, q, ns, rfl, hp, hq, hz, k⟩ := h
    refine ⟨_, (pss_cons (ps_if (PW.pt (pw_or (pt_not (pt_val (pe_callB (cIsi K) (by rfl) T.isinstance (by decide +kernel) (pa_cons (pv 0) (pa_cons (pe_ty_tuple T) pa_nil))))) (pw_or1 (pt_cmpR op_ne (pe_callB (cLen K) (by rfl) T.len PySem.boot_len (pa_cons (pv 0) pa_nil)) (pe_callB (cLen K) (by rfl) T.len PySem.boot_len (pa_cons (pv 1) pa_nil)) (nomark _)))))
       (pss_one (ps_ret pe_bl))
       pss_nil)
    (pss_one (ps_ret (pe_cmpR op_eq (pe_callB (cLen K) (by rfl) T.len PySem.boot_len (pa_cons (pe_lc (own := [("_law_k", 2)]) (g := (gName 2)) rfl sc__law_same.nd (pi_range1 (by rfl) T.range (pa_cons (pe_callB (cLen K) (by rfl) T.len PySem.boot_len (pa_cons (pv 1) pa_nil)) pa_nil)) (blkOk_by (own := [("_law_k", 2)]) (N := N__law_same) (sc := defScope s__law_same) (by decide +kernel)) (fun _ _ _ _ _ => pg_name (i := 2) sc__law_same.nd rfl (Or.inl rfl)) (fun _ _ _ _ _ => pts_one (pt_not (pt_val (pe_call D__law_is.ok (hr.mono (by decide)) (by rfl) D__law_is.g D__law_is.kp D__law_is.b .nil pass0 (pa_cons (pe_ix (iT K) (pv 0) (pv 2) (fun _ _ => rfl)) (pa_cons (pe_ix (iL K) (pv 1) (pv 2) (fun _ _ => rfl)) pa_nil)))))) (fun _ _ _ _ _ => (pv 2))) pa_nil)) pe_int (nomark _))))), ?_⟩
    obtain ⟨o, hd, ho⟩ := id hp
    refine q_if (b := false) (et_is (et_or (et_not (et_B (ev_isiT (ev_var rfl) (.ftup ho)))) fun _ => et_test (ev_op (ev_lenT (ev_var rfl) hp.sq) (ev_len (ev_var rfl) hq) rv_neI)) (by simp)) (fun z => Bool.noConfusion z) fun _ H1 e1 => ?_
    have hp1 := hp.mono e1
    have hq1 := ex_l e1 hq
    refine s_ret (ev_is (ev_op (ev_lenN (el_lcR1 (n := ((iv ns).length : Int)) (fun _ => false) (fun _ => .non) (ea_cons (ev_len (ev_var rfl) hq1) ea_nil) ⟨by omega, by rw [iv_len]; omega⟩ (fun _ => rfl) (fun i H2 e2 hi => ?_) fun i H2 e2 hi hf => Bool.noConfusion hf)) ev_c rv_eqI) ?_) fun H2 e2 => k H2 (e1.trans e2)
    · rw [iv_len] at hi
      have hi2 : i < ns.length := by omega
      have hat : (iv ns)[i]? = some (.int ns[i]) := by rw [List.getElem?_map, List.getElem?_eq_getElem hi2]; rfl
      refine et_is (et_not (et_B (ev_call (z := .bl (isEq (.int ns[i]) ns[i])) (ea_cons (ev_ixT (ev_var rfl) (ev_var rfl) (ex_t e2 hp1.sq) (atI_nat hat)) (ea_cons (ev_ixL (ev_var rfl) (ev_var rfl) (ex_l e2 hq1) (atI_nat hat)) ea_nil)) fun H3 e3 Q' q' _ => ⟨_, _, rfl, .int _, q'⟩))) ?_
      simp [isEq]
    · have : given ((iv ns).length : Int).toNat (fun _ => false) (fun _ => V.non) = [] := by unfold given; simp
      rw [this]
      rfl
theorem ok_off {f : Addr} {fd : FuncData} (F : Fun K "_law_off" "_law_off" s__law_off f fd) (T : Txt mg) : FnOk P w K mg base CX0 1 f fd ["_law_words_here", "_law_settled_at", "_law_told"] (spOffL K) := by
  refine F.ok sc__law_off (fun vs H Q E h => ?_) (fun cdv A outer s H vs Q E hr h => ?_)
  · obtain ⟨_, _, _, _, _, _, rfl, _⟩ := h
    rfl
  · obtain ⟨r, t, wd, e, c, told, rfl, ⟨rp, rfl, hrp, he⟩, ht, hz, k⟩ := h
    refine ⟨_, (pss_cons (ps_if (pt_cmpR (oIn K) (pe_ix (iT K) (pv 0) pe_int (fun _ _ => rfl)) (pe_tup (pa_cons pe_str (pa_cons pe_str pa_nil))) (by with_unfolding_all rfl))
       (pss_one (ps_ret pe_int))
       pss_nil)
    (pss_one (ps_ret (pe_callB (cLen K) (by rfl) T.len PySem.boot_len (pa_cons (pe_lc (own := [("_law_one", 3)]) (g := (gName 3)) rfl sc__law_off.nd (pi_list (pv 2)) (blkOk_by (own := [("_law_one", 3)]) (N := N__law_off) (sc := defScope s__law_off) (by decide +kernel)) (fun _ _ _ _ _ => pg_name (i := 3) sc__law_off.nd rfl (Or.inl rfl)) (fun _ _ _ _ _ => pts_one (pt_cmpR op_ne (pv 3) (pv 1) (nomark _))) (fun _ _ _ _ _ => (pv 3))) pa_nil))))), ?_⟩
    have hin := fun (H1 : Hp) (e1 : Ex H H1) => et_test (ev_inU (K := K) (σ := start N__law_off [.ref rp, .int c, .ref t]) (ev_ixT (K := K) (ev_var (i := 0) rfl) ev_c (st_of (e1 _ _ hrp)) (atI_nat (j := 0) rfl)) (eu_tup (ea_cons (ev_c (v := .str "each")) (ea_cons (ev_c (v := .str "low")) ea_nil)) (by show 2 ≤ _; decide)) rfl rfl)
    have late : ∀ H1, Ex H H1 → offN wd told c = wr told c → tRet (tCB (rLenS K) (tCons (tLc (iList K (tVar 2)) (gName 3) (tTest (tOp rNe (tVar 3) (tVar 1))) (tVar 3) [3]) tNil)) { nx := fun _ H' => Q .non H', rt := Q } (start N__law_off [.ref rp, .int c, .ref t]) H1 := fun H1 e1 hoff => by
      refine s_ret (v := .int (offN wd told c)) (ev_is (ev_lenN (el_is (el_lcL (xs := iv told) (fun i => !decide (told.getD i 0 = c)) (fun i => .int (told.getD i 0)) (ev_var rfl) (ex_l e1 ht) (by rw [iv_len]; omega) (fun _ => rfl) (fun i x H2 e2 hi => ?_) fun i x H2 e2 hi hf => ?_) (given_fil told c))) ?_) fun H2 e2 => k H2 (e1.trans e2)
      · have hi2 : i < told.length := by have := (List.getElem?_eq_some_iff.mp hi).1; rw [iv_len] at this; exact this
        have : x = .int (told.getD i 0) := by
          rw [List.getElem?_map, List.getElem?_eq_getElem hi2] at hi
          rw [List.getD_eq_getElem?_getD, List.getElem?_eq_getElem hi2]
          exact (Option.some.inj hi).symm
        subst this
        exact et_test (ev_op (ev_var rfl) (ev_var rfl) rv_neI)
      · have hi2 : i < told.length := by have := (List.getElem?_eq_some_iff.mp hi).1; rw [iv_len] at this; exact this
        have : x = .int (told.getD i 0) := by
          rw [List.getElem?_map, List.getElem?_eq_getElem hi2] at hi
          rw [List.getD_eq_getElem?_getD, List.getElem?_eq_getElem hi2]
          exact (Option.some.inj hi).symm
        subst this
        exact ev_var rfl
      · rw [iv_len, hoff]
        exact congrArg V.int (filter_wr c told)
    cases wd with
    | all => exact q_when (b := false) (et_is (hin H (Ex.refl H)) (by decide)) (fun z => Bool.noConfusion z) fun _ H1 e1 => late H1 e1 rfl
    | yes => exact q_when (b := false) (et_is (hin H (Ex.refl H)) (by decide)) (fun z => Bool.noConfusion z) fun _ H1 e1 => late H1 e1 rfl
    | each => exact q_when (b := true) (et_is (hin H (Ex.refl H)) (by decide)) (fun _ H1 e1 => s_ret ev_c fun H2 e2 => k H2 (e1.trans e2)) fun z => Bool.noConfusion z
    | low => exact q_when (b := true) (et_is (hin H (Ex.refl H)) (by decide)) (fun _ H1 e1 => s_ret ev_c fun H2 e2 => k H2 (e1.trans e2)) fun z => Bool.noConfusion z
theorem ok_bound {f : Addr} {fd : FuncData} (F : Fun K "_law_bound" "_law_bound" s__law_bound f fd) (T : Txt mg) : FnOk P w K mg base CX0 1 f fd ["_law_words_here", "_law_spare", "_law_off_here"] spBound := by
  refine F.ok sc__law_bound (fun vs H Q E h => ?_) (fun cdv A outer s H vs Q E hr h => ?_)
  · obtain ⟨_, _, _, _, _, rfl, _⟩ := h
    rfl
  · obtain ⟨r, wd, e, sp, off, rfl, ⟨rp, rfl, hrp, he⟩, k⟩ := h
    refine ⟨_, (pss_cons (ps_if (pt_cmpR op_eq (pe_ix (iT K) (pv 0) pe_int (fun _ _ => rfl)) pe_str (nomark _))
       (pss_one (ps_ret (pe_op op_add (pe_op op_add (pv 1) pe_int) (pv 2))))
       pss_nil)
    (pss_cons (ps_if (pt_cmpR op_eq (pe_ix (iT K) (pv 0) pe_int (fun _ _ => rfl)) pe_str (nomark _))
       (pss_one (ps_ret (pe_op op_add (pe_op op_mul pe_int (pe_ix (iT K) (pv 0) pe_int (fun _ _ => rfl))) pe_int)))
       pss_nil)
    (pss_one (ps_ret (pe_ifExp (pt_cmpR op_eq (pe_ix (iT K) (pv 0) pe_int (fun _ _ => rfl)) pe_str (nomark _)) (pe_op op_add (pe_ix (iT K) (pv 0) pe_int (fun _ _ => rfl)) pe_int) (pe_op op_add (pv 1) pe_int)))))), ?_⟩
    have hw : ∀ (z : Str) H1, Ex H H1 → EvT (tTest (tOp rEq (tOp (rIxT K) (tVar 0) (tC (.int 0))) (tC (.str z)))) (start N__law_bound [.ref rp, .int sp, .int off]) H1 (decide (V.str wd.s = .str z)) := fun z H1 e1 => et_test (ev_op (ev_ixT (ev_var rfl) ev_c (st_of (e1 _ _ hrp)) (atI_nat (j := 0) rfl)) ev_c (rv_eq rfl))
    have he1 : ∀ H1, Ex H H1 → Ev (tOp (rIxT K) (tVar 0) (tC (.int 1))) (start N__law_bound [.ref rp, .int sp, .int off]) H1 (.int e) := fun H1 e1 => ev_ixT (ev_var rfl) ev_c (st_of (e1 _ _ hrp)) (atI_nat (j := 1) rfl)
    cases wd with
    | all =>
      refine q_when (b := true) (et_is (hw _ _ (Ex.refl H)) (by decide)) (fun _ H1 e1 => ?_) fun z => Bool.noConfusion z
      exact s_ret (ev_op (ev_op (ev_var rfl) ev_c rv_I0) (ev_var rfl) rv_I0) fun H2 e2 => k H2 (e1.trans e2)
    | each =>
      refine q_when (b := false) (et_is (hw _ _ (Ex.refl H)) (by decide)) (fun z => Bool.noConfusion z) fun _ H1 e1 => ?_
      refine q_when (b := true) (et_is (hw _ _ e1) (by decide)) (fun _ H2 e2 => ?_) fun z => Bool.noConfusion z
      exact s_ret (ev_op (ev_op ev_c (he1 _ (e1.trans e2)) (rv_I (.inl ⟨by decide, by decide⟩))) ev_c rv_I0) fun H3 e3 => k H3 ((e1.trans e2).trans e3)
    | low =>
      refine q_when (b := false) (et_is (hw _ _ (Ex.refl H)) (by decide)) (fun z => Bool.noConfusion z) fun _ H1 e1 => ?_
      refine q_when (b := false) (et_is (hw _ _ e1) (by decide)) (fun z => Bool.noConfusion z) fun _ H2 e2 => ?_
      have e12 := e1.trans e2
      exact s_ret (ev_if (b := true) (et_is (hw _ _ e12) (by decide)) (fun _ => ev_op (he1 _ e12) ev_c rv_I0) fun z => Bool.noConfusion z) fun H3 e3 => k H3 (e12.trans e3)
    | yes =>
      refine q_when (b := false) (et_is (hw _ _ (Ex.refl H)) (by decide)) (fun z => Bool.noConfusion z) fun _ H1 e1 => ?_
      refine q_when (b := false) (et_is (hw _ _ e1) (by decide)) (fun z => Bool.noConfusion z) fun _ H2 e2 => ?_
      have e12 := e1.trans e2
      exact s_ret (ev_if (b := false) (et_is (hw _ _ e12) (by decide)) (fun z => Bool.noConfusion z) fun _ => ev_op (ev_var rfl) ev_c rv_I0) fun H3 e3 => k H3 (e12.trans e3)
end
end K27
/-! ## P5 -/
set_option Elab.async false
set_option linter.all false
set_option maxRecDepth 100000
set_option maxHeartbeats 4000000
namespace K27
open PySem L2 Evl
/-! ### takes -/
section
variable {K : PySem.W.Frag} {σ : L2.St} {G H : Hp} {b : Addr} {t1 t2 : TE} {E : XK} {Q : VK}
theorem t_take {m : Int} (h1 : Ev t1 σ H (.ref b)) (h2 : Ev t2 σ H (.int m)) (fg : FG G H b) (hm : 1 ≤ m ∧ m < 1000000000) (q : ∀ v H', 0 ≤ v → v < m → FG G H' b → Q (.int v) H') : tCall spTake [] E (tCons t1 (tCons t2 tNil)) σ H Q :=
  h1 H (Ex.refl H) _ fun H1 e1 => h2 H1 e1 _ fun H2 e2 => ⟨G, b, m, rfl, fg.grow (e1.trans e2), hm, q⟩
/-- a list just made, at a place drawn -/
theorem t_pick {ns : List Int} {ta : TA} {m : Int} (ha : EvA ta σ H (iv ns)) (hz : ns.length ≤ 1000) (h1 : ∀ H1, Ex H H1 → Ev t1 σ H1 (.ref b)) (fg : FG G H b) (hm : m = (ns.length : Int)) (hp : 1 ≤ ns.length) (q : ∀ x H', x ∈ ns → FG G H' b → Q (.int x) H') :
    tOp (rIxL K) (tLst ta) (tCall spTake [] E (tCons t1 (tCons (tC (.int m)) tNil))) σ H Q :=
  ha H (Ex.refl H) _ fun H1 e1 => ⟨sz_of (by rw [iv_len]; omega), fun l hl => by
    have f1 := (fg.grow e1).both (o := .lst (iv ns)) hl
    have hG : G l = none := fresh_back (fg.grow e1).ex hl
    refine t_take (h1 _ (e1.trans (Ex.new hl))) ev_c f1 (by omega) fun v H' h0 hv f2 => ?_
    obtain ⟨j, rfl⟩ : ∃ j : Nat, v = (j : Int) := ⟨v.toNat, by omega⟩
    have hj : j < ns.length := by omega
    refine ⟨l, _, (j : Int), .int ns[j], rfl, rfl, sq_of (f2.ex _ _ upd_same), atI_nat (by rw [List.getElem?_map, List.getElem?_eq_getElem hj]; rfl), ?_⟩
    exact q _ _ (List.getElem_mem hj) (f2.less (Ex.new hG))⟩
/-- a list that stands, at a place drawn -/
theorem t_at {vs : List V} {l : Addr} {m : Int} (ha : Ev t2 σ H (.ref l)) (hl : G l = some (.lst vs)) (h1 : ∀ H1, Ex H H1 → Ev t1 σ H1 (.ref b)) (fg : FG G H b) {t3 : TE} (h3 : ∀ H1, Ex H H1 → Ev t3 σ H1 (.int m)) (hm : m = (vs.length : Int)) (hp : 1 ≤ vs.length) (hz : vs.length ≤ 1000)
    (q : ∀ x H', x ∈ vs → FG G H' b → Q x H') : tOp (rIxL K) t2 (tCall spTake [] E (tCons t1 (tCons t3 tNil))) σ H Q :=
  ha H (Ex.refl H) _ fun H1 e1 => t_take (h1 _ e1) (h3 _ e1) (fg.grow e1) (by omega) fun v H' h0 hv f2 => by
    obtain ⟨j, rfl⟩ : ∃ j : Nat, v = (j : Int) := ⟨v.toNat, by omega⟩
    have hj : j < vs.length := by omega
    exact ⟨l, vs, (j : Int), vs[j], rfl, rfl, sq_of (f2.ex _ _ hl), atI_nat (List.getElem?_eq_getElem hj), q _ _ (List.getElem_mem hj) f2⟩
end
abbrev s__law_words : Stmt := top 23
abbrev N__law_words : List Str := ["_law_feed_here", "_law_words_here"]
theorem sc__law_words : FnScope N__law_words ["_law_feed_here"] (defScope s__law_words) := ⟨rfl, rfl, rfl, by decide +kernel, rfl, by decide +kernel, by decide +kernel⟩
def spWords : Sp := fun vs H Q _ => ∃ (G : Hp) (b : Addr), vs = [.ref b] ∧ FG G H b ∧ ∀ (p : Addr) (w : Wd) (e : Int) H', G p = none → 0 ≤ e → e ≤ 9 → FG (upd G p (.tup [.str w.s, .int e])) H' b → Q (.ref p) H'
abbrev s__law_range : Stmt := top 24
abbrev N__law_range : List Str := ["_law_feed_here", "_law_words_here", "_law_floor"]
theorem sc__law_range : FnScope N__law_range ["_law_feed_here", "_law_words_here"] (defScope s__law_range) := ⟨rfl, rfl, rfl, by decide +kernel, rfl, by decide +kernel, by decide +kernel⟩
def spRange : Sp := fun vs H Q _ => ∃ (G : Hp) (b : Addr) (r : V) (w : Wd) (e : Int), vs = [.ref b, r] ∧ FG G H b ∧ RlG G r w e ∧ ∀ (p : Addr) (fl rf : Int) H', G p = none → 0 ≤ fl → fl ≤ rf → rf ≤ 9 → (w = .yes → rf ≤ 1) → FG (upd G p (.lst [.int fl, .int rf])) H' b → Q (.ref p) H'
abbrev s__law_left : Stmt := top 25
abbrev N__law_left : List Str := ["_law_words_here", "_law_spare", "_law_floor", "_law_roof", "_law_told", "_law_rows_here", "_law_worth", "_law_wrong", "_law_good"]
theorem sc__law_left : FnScope N__law_left ["_law_words_here", "_law_spare", "_law_floor", "_law_roof", "_law_told"] (defScope s__law_left) := ⟨rfl, rfl, rfl, by decide +kernel, rfl, by decide +kernel, by decide +kernel⟩
def spLeft (K : PySem.W.Frag) : Sp := fun vs H Q _ => ∃ (r : V) (t : Addr) (w : Wd) (e sp fl rf : Int) (told : List Int), vs = [r, .int sp, .int fl, .int rf, .ref t] ∧ RlG H r w e ∧ H t = some (.lst (iv told)) ∧ told.length ≤ 1000 ∧ 0 ≤ fl ∧ fl ≤ 1000 ∧ -1000 ≤ rf ∧ rf ≤ 1000 ∧ RetL (iv (leftL w e sp fl rf told)) H Q
abbrev s__law_stray : Stmt := top 26
abbrev N__law_stray : List Str := ["_law_feed_here", "_law_words_here", "_law_floor", "_law_roof", "_law_main", "_law_kind"]
theorem sc__law_stray : FnScope N__law_stray ["_law_feed_here", "_law_words_here", "_law_floor", "_law_roof", "_law_main"] (defScope s__law_stray) := ⟨rfl, rfl, rfl, by decide +kernel, rfl, by decide +kernel, by decide +kernel⟩
def spStray : Sp := fun vs H Q _ => ∃ (G : Hp) (b : Addr) (r : V) (w : Wd) (e fl rf mn : Int), vs = [.ref b, r, .int fl, .int rf, .int mn] ∧ FG G H b ∧ RlG G r w e ∧ 0 ≤ fl ∧ fl ≤ rf ∧ rf ≤ 1000 ∧ 0 ≤ mn ∧ ∀ v H', 0 ≤ v → (w = .yes → mn ≤ 1 → rf ≤ 1 → v ≤ 1) → FG G H' b → Q (.int v) H'
theorem max_ex : ∀ (l : List Int) (x : Int), ∃ m ∈ l ++ [x], ∀ y ∈ l ++ [x], y ≤ m
  | [], x => ⟨x, by simp, by simp⟩
  | a :: l, x => by
    obtain ⟨m, h1, h2⟩ := max_ex l x
    by_cases c : a ≤ m
    · exact ⟨m, List.mem_cons_of_mem _ h1, fun y hy => by rcases List.mem_cons.mp hy with rfl | hy; exact c; exact h2 y hy⟩
    · exact ⟨a, by simp, fun y hy => by rcases List.mem_cons.mp hy with rfl | hy; omega; have := h2 y hy; omega⟩
section
variable {P : Program} {w : World} {K : PySem.W.Frag} {mg : Str → Option Value} {base : Heap}
theorem ok_feed {f : Addr} {fd : FuncData} (F : Fun K "_law_feed" "_law_feed" s__law_feed f fd) (T : Txt mg) : FnOk P w K mg base CX0 1 f fd ["_law_script"] (spFeed K) := by
  refine F.ok sc__law_feed (fun vs H Q E h => ?_) (fun cdv A outer s H vs Q E hr h => ?_)
  · obtain ⟨_, _, rfl, _⟩ := h
    rfl
  · obtain ⟨a, ns, rfl, ha, hz, k⟩ := h
    refine ⟨_, (pss_cons (ps_set (i := 1) sc__law_feed.nd rfl (Or.inl rfl) (pe_lst (pa_cons pe_int (pa_cons pe_int (pa_cons pe_int pa_nil)))))
    (pss_cons (ps_for PassesOwn.never rfl (pi_list (pv 0)) (pg_name (i := 2) sc__law_feed.nd rfl (Or.inl rfl))
       (Evl.pss_cut (ps_if (PW.pt (pw_and (pt_cmpR op_eq (pe_ix (iL K) (pv 1) pe_int (fun _ _ => rfl)) pe_int (nomark _)) (pw_and1 (pt_cmpR op_ge (pe_callB call_abs (by rfl) T.abs (by decide +kernel) (pa_cons (pv 2) pa_nil)) (pe_op op_pow pe_int pe_int) (nomark _)))))
         (pss_one (ps_asg (pe_callB call_abs (by rfl) T.abs (by decide +kernel) (pa_cons (pv 2) pa_nil)) (pg_sub (pv 1) pe_int set_list)))
         pss_nil)
      (pss_cons (ps_asg (pe_op op_mod (pe_callTy call_int1 (by rfl) T.int (by decide +kernel) (pa_cons (pe_op op_add (pe_op op_mul (pe_ix (iL K) (pv 1) pe_int (fun _ _ => rfl)) pe_int) (pv 2)) pa_nil)) pe_int) (pg_sub (pv 1) pe_int set_list))
      (pss_one (ps_expr (pe_bmK K PySem.F.plainAttrs_list PySem.F.slot_list_append PySem.F.type_list_append mt_append (pv 1) (pa_cons (pe_op op_mod (pe_callTy call_int1 (by rfl) T.int (by decide +kernel) (pa_cons (pv 2) pa_nil)) pe_int) pa_nil)))))))
    (pss_one (ps_ret (pv 1))))), ?_⟩
    refine q_asgL (xs := iv [0, 1879, 0]) (el_lst (ea_cons ev_c (ea_cons ev_c (ea_cons ev_c ea_nil))) (by show 3 ≤ _; decide)) fun b H1 hb e1 hb1 => ?_
    let M : Nat → L2.St → Hp → Prop := fun i σ H' => ∃ (v : Option V) (z0 z1 : Int) (cs : List Int), σ = [some (.ref a), some (.ref b), v] ∧ Ex H H' ∧ H' b = some (.lst (iv (z0 :: z1 :: 0 :: cs))) ∧ 0 ≤ z0 ∧ (0 ≤ z1 ∧ z1 < 2147483648) ∧ cs.length = i ∧ ∀ c ∈ cs, 0 ≤ c ∧ c < 70001
    refine q_forLn (xs := iv ns) (ev_var rfl) (ex_l e1 ha) M (fun H2 e2 => ⟨none, 0, 1879, [], rfl, e1.trans e2, e2 _ _ hb1, by decide, by decide, rfl, by simp⟩) ?_ ?_ ?_
    · rintro i σ H' _ ⟨v, z0, z1, cs, rfl, e, _⟩
      exact ex_l e ha
    · rintro i x σ H' hi ⟨v, z0, z1, cs, rfl, e, hb2, h0, h1, hcl, hc⟩
      obtain ⟨c, rfl⟩ : ∃ c, x = .int c := by
        obtain ⟨c, _, rfl⟩ := List.mem_map.mp (List.mem_of_getElem? hi)
        exact ⟨c, rfl⟩
      have hil : i < ns.length := by have := (List.getElem?_eq_some_iff.mp hi).1; rw [iv_len] at this; exact this
      have hlen : ∀ y, (iv (y :: z1 :: 0 :: cs)).length = cs.length + 3 := fun y => by rw [iv_len]; rfl
      let M2 : L2.St → Hp → Prop := fun σ H' => ∃ (z0 : Int), σ = [some (.ref a), some (.ref b), some (.int c)] ∧ Ex H H' ∧ H' b = some (.lst (iv (z0 :: z1 :: 0 :: cs))) ∧ 0 ≤ z0
      refine q_cut (M := M2) ?_ ?_
      · refine s_when (b := decide (z0 = 0) && decide ((10 : Int) ^ (18 : Int).toNat ≤ (if c < 0 then -c else c))) (et_and (et_test (ev_op (ev_ixL (ev_var rfl) ev_c (sq_of hb2) (atI_nat (j := 0) rfl)) ev_c rv_eqI)) fun _ => et_test (ev_op (ev_abs (ev_var rfl)) (ev_op ev_c ev_c (rv_I ⟨by decide, by decide, by decide⟩)) rv_I0)) (fun _ H3 e3 => ?_) fun _ H3 e3 => ⟨z0, rfl, e.trans e3, e3 _ _ hb2, h0⟩
        refine s_setL (v := .int (if c < 0 then -c else c)) (e3 _ _ hb2) (ev_abs (ev_var rfl)) (ev_var rfl) (ev_c (v := .int ((0 : Nat) : Int))) (by rw [hlen]; omega) fun H4 e4 => ?_
        exact ⟨_, rfl, ((e.trans e3).trans e4).mut hb, upd_same, by split <;> omega⟩
      · rintro σ H3 ⟨z0, rfl, e3, hb3, h0⟩
        obtain ⟨t1, ht1⟩ : ∃ t1 : Int, t1 = (z1 * 29 + c) % 2147483647 := ⟨_, rfl⟩
        refine q_setL (v := .int t1) hb3 (ev_is (ev_op (ev_int1 (ev_op (ev_op (ev_ixL (ev_var rfl) ev_c (sq_of hb3) (atI_nat (j := 1) rfl)) ev_c (rv_I (.inl ⟨by omega, by omega⟩))) (ev_var rfl) rv_I0)) ev_c (rv_I (by decide))) (congrArg V.int ht1.symm)) (ev_var rfl) (ev_c (v := .int ((1 : Nat) : Int))) (by rw [hlen]; omega) fun H4 e4 => ?_
        have hb4 : upd H4 b (.lst ((iv (z0 :: z1 :: 0 :: cs)).set 1 (.int t1))) b = some (.lst (iv (z0 :: t1 :: 0 :: cs))) := upd_same
        have e5 := (e3.trans e4).mut (o := .lst ((iv (z0 :: z1 :: 0 :: cs)).set 1 (.int t1))) hb
        generalize upd H4 b (.lst ((iv (z0 :: z1 :: 0 :: cs)).set 1 (.int t1))) = H5 at hb4 e5 ⊢
        refine s_app (v := .int (c % 70001)) hb4 (ev_var rfl) (ev_op (ev_int1 (ev_var rfl)) ev_c (rv_I (by decide))) (by rw [iv_len]; simp; omega) fun H6 e6 => ?_
        refine ⟨_, z0, t1, cs ++ [c % 70001], rfl, (e5.trans e6).mut hb, ?_, h0, by omega, by rw [List.length_append, hcl]; rfl, fun y hy => ?_⟩
        · rw [upd_same]
          unfold iv
          simp
        · rcases List.mem_append.mp hy with hy | hy
          · exact hc y hy
          · simp at hy; omega
    · rintro σ H' ⟨v, z0, z1, cs, rfl, e, hb2, h0, h1, hcl, hc⟩
      rw [iv_len] at hcl
      exact s_ret (ev_var rfl) fun H3 e3 => k b H3 ⟨e.trans e3, hb, z0, z1, 0, cs, e3 _ _ hb2, h0, h1, by decide, by omega, hc⟩
end
end K27
/-! ## P6 -/
set_option Elab.async false
set_option linter.all false
set_option maxRecDepth 100000
set_option maxHeartbeats 4000000
namespace K27
open PySem L2 Evl
theorem RlG.at {G H : Hp} {b : Addr} {r : V} {w : Wd} {e : Int} (h : RlG G r w e) (f : FG G H b) : RlG H r w e := h.mono f.ex
section
variable {P : Program} {w : World} {K : PySem.W.Frag} {mg : Str → Option Value} {base : Heap}
theorem ok_words {f : Addr} {fd : FuncData} (F : Fun K "_law_words" "_law_words" s__law_words f fd) (T : Txt mg) (D__law_take : Dn P w K mg base CX0 1 "_law_take" ["_law_feed_here", "_law_many"] spTake) : FnOk P w K mg base CX0 2 f fd ["_law_feed_here"] spWords := by
  refine F.ok sc__law_words (fun vs H Q E h => ?_) (fun cdv A outer s H vs Q E hr h => ?_)
  · obtain ⟨_, _, rfl, _⟩ := h
    rfl
  · obtain ⟨G, b, rfl, fg, k⟩ := h
    refine ⟨_, (pss_cons (ps_set (i := 1) sc__law_words.nd rfl (Or.inl rfl) (pe_lst (pa_cons pe_str (pa_cons pe_str (pa_cons pe_str (pa_cons pe_str pa_nil))))))
    (pss_one (ps_ret (pe_tup (pa_cons (pe_ix (iL K) (pv 1) (pe_call D__law_take.ok (hr.mono (by decide)) (by rfl) D__law_take.g D__law_take.kp D__law_take.b .nil pass0 (pa_cons (pv 0) (pa_cons pe_int pa_nil))) (fun _ _ => rfl)) (pa_cons (pe_ix (iL K) (pe_lst (pa_cons pe_int (pa_cons pe_int (pa_cons pe_int (pa_cons pe_int (pa_cons pe_int (pa_cons pe_int pa_nil))))))) (pe_call D__law_take.ok (hr.mono (by decide)) (by rfl) D__law_take.g D__law_take.kp D__law_take.b .nil pass0 (pa_cons (pv 0) (pa_cons pe_int pa_nil))) (fun _ _ => rfl)) pa_nil)))))), ?_⟩
    refine q_asgL (xs := [.str "all", .str "yes", .str "low", .str "each"]) (el_lst (ea_cons ev_c (ea_cons ev_c (ea_cons ev_c (ea_cons ev_c ea_nil)))) (by show 4 ≤ _; decide)) fun l H1 hl e1 hl1 => ?_
    have f1 := (fg.grow e1).hold (fg.fresh hl) hl1
    have hG : G l = none := fresh_back fg.ex hl
    refine t_at (vs := [.str "all", .str "yes", .str "low", .str "each"]) (ev_var (i := 1) rfl) upd_same (fun _ _ => ev_var (i := 0) rfl) f1 (fun _ _ => ev_c) rfl (by decide) (by decide) fun x H2 hx f2 => ?_
    refine t_pick (ns := [1, 0, 2, 3, 9, 1]) (ea_cons ev_c (ea_cons ev_c (ea_cons ev_c (ea_cons ev_c (ea_cons ev_c (ea_cons ev_c ea_nil)))))) (by decide) (fun _ _ => ev_var (i := 0) rfl) f2 rfl (by decide) fun y H3 hy f3 => ?_
    refine ⟨sz_of (by show 2 ≤ _; decide), fun p hp => ?_⟩
    have hy2 : 0 ≤ y ∧ y ≤ 9 := by simp at hy; omega
    have f4 := (f3.less (Ex.new hG)).both (o := .tup [x, .int y]) hp
    have hpG : G p = none := fresh_back (f3.less (Ex.new hG)).ex hp
    simp at hx
    rcases hx with rfl | rfl | rfl | rfl
    · exact k p .all y _ hpG hy2.1 hy2.2 f4
    · exact k p .yes y _ hpG hy2.1 hy2.2 f4
    · exact k p .low y _ hpG hy2.1 hy2.2 f4
    · exact k p .each y _ hpG hy2.1 hy2.2 f4
theorem ok_range {f : Addr} {fd : FuncData} (F : Fun K "_law_range" "_law_range" s__law_range f fd) (T : Txt mg) (D__law_take : Dn P w K mg base CX0 1 "_law_take" ["_law_feed_here", "_law_many"] spTake) : FnOk P w K mg base CX0 2 f fd ["_law_feed_here", "_law_words_here"] spRange := by
  refine F.ok sc__law_range (fun vs H Q E h => ?_) (fun cdv A outer s H vs Q E hr h => ?_)
  · obtain ⟨_, _, _, _, _, rfl, _⟩ := h
    rfl
  · obtain ⟨G, b, r, wd, e, rfl, fg, hrl, k⟩ := h
    refine ⟨_, (pss_cons (ps_if (pt_cmpR op_eq (pe_ix (iT K) (pv 1) pe_int (fun _ _ => rfl)) pe_str (nomark _))
       (pss_cons (ps_set (i := 2) sc__law_range.nd rfl (Or.inl rfl) (pe_ix (iL K) (pe_lst (pa_cons pe_int (pa_cons pe_int (pa_cons pe_int (pa_cons pe_int (pa_cons pe_int (pa_cons pe_int pa_nil))))))) (pe_call D__law_take.ok (hr.mono (by decide)) (by rfl) D__law_take.g D__law_take.kp D__law_take.b .nil pass0 (pa_cons (pv 0) (pa_cons pe_int pa_nil))) (fun _ _ => rfl)))
      (pss_one (ps_ret (pe_lst (pa_cons (pv 2) (pa_cons (pe_callB cMax2 (by rfl) T.max (by decide +kernel) (pa_cons (pv 2) (pa_cons (pe_ix (iL K) (pe_lst (pa_cons pe_int (pa_cons pe_int (pa_cons pe_int (pa_cons pe_int (pa_cons pe_int pa_nil)))))) (pe_call D__law_take.ok (hr.mono (by decide)) (by rfl) D__law_take.g D__law_take.kp D__law_take.b .nil pass0 (pa_cons (pv 0) (pa_cons pe_int pa_nil))) (fun _ _ => rfl)) pa_nil))) pa_nil))))))
       pss_nil)
    (pss_cons (ps_set (i := 2) sc__law_range.nd rfl (Or.inl rfl) (pe_ix (iL K) (pe_lst (pa_cons pe_int (pa_cons pe_int (pa_cons pe_int (pa_cons pe_int (pa_cons pe_int (pa_cons pe_int pa_nil))))))) (pe_call D__law_take.ok (hr.mono (by decide)) (by rfl) D__law_take.g D__law_take.kp D__law_take.b .nil pass0 (pa_cons (pv 0) (pa_cons pe_int pa_nil))) (fun _ _ => rfl)))
    (pss_one (ps_ret (pe_lst (pa_cons (pv 2) (pa_cons (pe_callB cMin2 (by rfl) T.min (by decide +kernel) (pa_cons pe_int (pa_cons (pe_op op_add (pv 2) (pe_ix (iL K) (pe_lst (pa_cons pe_int (pa_cons pe_int (pa_cons pe_int (pa_cons pe_int (pa_cons pe_int (pa_cons pe_int (pa_cons pe_int (pa_cons pe_int pa_nil))))))))) (pe_call D__law_take.ok (hr.mono (by decide)) (by rfl) D__law_take.g D__law_take.kp D__law_take.b .nil pass0 (pa_cons (pv 0) (pa_cons pe_int pa_nil))) (fun _ _ => rfl))) pa_nil))) pa_nil))))))), ?_⟩
    obtain ⟨rp, rfl, hrp, he⟩ := hrl.at fg
    refine q_if (b := decide (V.str wd.s = .str "yes")) (et_test (ev_op (ev_ixT (ev_var rfl) ev_c (st_of hrp) (atI_nat (j := 0) rfl)) ev_c (rv_eq rfl))) (fun hz H1 e1 => ?_) fun hz H1 e1 => ?_
    · have f1 := fg.grow e1
      refine t_pick (ns := [0, 0, 0, 0, 0, 1]) (ea_cons ev_c (ea_cons ev_c (ea_cons ev_c (ea_cons ev_c (ea_cons ev_c (ea_cons ev_c ea_nil)))))) (by decide) (fun _ _ => ev_var (i := 0) rfl) f1 rfl (by decide) fun x H2 hx f2 => ?_
      dsimp only [gName]
      refine ⟨_, rfl, _, rfl, t_pick (ns := [1, 1, 1, 1, 0]) (ea_cons ev_c (ea_cons ev_c (ea_cons ev_c (ea_cons ev_c (ea_cons ev_c ea_nil))))) (by decide) (fun _ _ => ev_var (i := 0) rfl) f2 rfl (by decide) fun y H3 hy f3 => ?_⟩
      refine ⟨_, _, rfl, sz_of (by show 2 ≤ _; decide), fun p hp => ?_⟩
      have hx2 : 0 ≤ x ∧ x ≤ 1 := by simp at hx; omega
      have hy2 : 0 ≤ y ∧ y ≤ 1 := by simp at hy; omega
      exact k p x _ _ (fresh_back f3.ex hp) hx2.1 (by split <;> omega) (by split <;> omega) (fun _ => by split <;> omega) (f3.both hp)
    · have f1 := fg.grow e1
      have hz := of_decide_eq_false hz
      refine t_pick (ns := [0, 1, 0, 2, 5, 0]) (ea_cons ev_c (ea_cons ev_c (ea_cons ev_c (ea_cons ev_c (ea_cons ev_c (ea_cons ev_c ea_nil)))))) (by decide) (fun _ _ => ev_var (i := 0) rfl) f1 rfl (by decide) fun x H2 hx f2 => ?_
      dsimp only [gName]
      refine ⟨_, rfl, _, rfl, t_pick (ns := [1, 2, 3, 1, 9, 1, 4, 0]) (ea_cons ev_c (ea_cons ev_c (ea_cons ev_c (ea_cons ev_c (ea_cons ev_c (ea_cons ev_c (ea_cons ev_c (ea_cons ev_c ea_nil)))))))) (by decide) (fun _ _ => ev_var (i := 0) rfl) f2 rfl (by decide) fun y H3 hy f3 => ?_⟩
      refine ⟨_, _, rfl, rfl, _, _, rfl, sz_of (by show 2 ≤ _; decide), fun p hp => ?_⟩
      have hx2 : 0 ≤ x ∧ x ≤ 5 := by simp at hx; omega
      have hy2 : 0 ≤ y ∧ y ≤ 9 := by simp at hy; omega
      exact k p x _ _ (fresh_back f3.ex hp) hx2.1 (by split <;> omega) (by split <;> omega) (fun q => by rw [q] at hz; exact absurd rfl hz) (f3.both hp)
theorem ok_stray {f : Addr} {fd : FuncData} (F : Fun K "_law_stray" "_law_stray" s__law_stray f fd) (T : Txt mg) (D__law_take : Dn P w K mg base CX0 1 "_law_take" ["_law_feed_here", "_law_many"] spTake) : FnOk P w K mg base CX0 2 f fd ["_law_feed_here", "_law_words_here", "_law_floor", "_law_roof", "_law_main"] spStray := by
  refine F.ok sc__law_stray (fun vs H Q E h => ?_) (fun cdv A outer s H vs Q E hr h => ?_)
  · obtain ⟨_, _, _, _, _, _, _, _, rfl, _⟩ := h
    rfl
  · obtain ⟨G, b, r, wd, e, fl, rf, mn, rfl, fg, hrl, h0, h1, h2, h3, k⟩ := h
    refine ⟨_, (pss_cons (ps_set (i := 5) sc__law_stray.nd rfl (Or.inl rfl) (pe_call D__law_take.ok (hr.mono (by decide)) (by rfl) D__law_take.g D__law_take.kp D__law_take.b .nil pass0 (pa_cons (pv 0) (pa_cons pe_int pa_nil))))
    (pss_cons (ps_if (pt_cmpR op_lt (pv 5) pe_int (nomark _))
       (pss_one (ps_ret (pv 4)))
       pss_nil)
    (pss_cons (ps_if (PW.pt (pw_or (pt_cmpR op_lt (pv 5) pe_int (nomark _)) (pw_or1 (pt_cmpR (oIn K) (pe_ix (iT K) (pv 1) pe_int (fun _ _ => rfl)) (pe_tup (pa_cons pe_str (pa_cons pe_str pa_nil))) (by with_unfolding_all rfl)))))
       (pss_one (ps_ret (pe_op op_add (pv 2) (pe_call D__law_take.ok (hr.mono (by decide)) (by rfl) D__law_take.g D__law_take.kp D__law_take.b .nil pass0 (pa_cons (pv 0) (pa_cons (pe_op op_add (pe_op op_sub (pv 3) (pv 2)) pe_int) pa_nil))))))
       pss_nil)
    (pss_one (ps_ret (pe_op op_mul (pe_call D__law_take.ok (hr.mono (by decide)) (by rfl) D__law_take.g D__law_take.kp D__law_take.b .nil pass0 (pa_cons (pv 0) (pa_cons pe_int pa_nil))) (pe_ix (iL K) (pe_lst (pa_cons pe_int (pa_cons (pe_op op_add (pe_op op_pow pe_int pe_int) pe_int) pa_nil))) (pe_call D__law_take.ok (hr.mono (by decide)) (by rfl) D__law_take.g D__law_take.kp D__law_take.b .nil pass0 (pa_cons (pv 0) (pa_cons pe_int pa_nil))) (fun _ _ => rfl)))))))), ?_⟩
    refine t_take (m := 10) (ev_var (i := 0) rfl) ev_c fg (by decide) fun kd H1 k0 k1 f1 => ?_
    dsimp only [gName]
    refine q_when (b := decide (kd < 6)) (et_test (ev_op (ev_var rfl) ev_c rv_I0)) (fun _ H2 e2 => s_ret (ev_var rfl) fun H3 e3 => k mn H3 h3 (fun _ a _ => a) (f1.grow (e2.trans e3))) fun _ H2 e2 => ?_
    have f2 := f1.grow e2
    obtain ⟨rp, rfl, hrp, he⟩ := hrl.at f2
    refine q_if (et_or (et_test (ev_op (ev_var rfl) ev_c rv_I0)) fun _ => et_test (ev_inU (ev_ixT (ev_var rfl) ev_c (st_of hrp) (atI_nat (j := 0) rfl)) (eu_tup (ea_cons ev_c (ea_cons ev_c ea_nil)) (by show 2 ≤ _; decide)) rfl rfl)) (fun _ H3 e3 => ?_) fun hz H3 e3 => ?_
    · refine ⟨_, rfl, t_take (m := rf - fl + 1) (ev_var (i := 0) rfl) (ev_op (ev_op (ev_var rfl) (ev_var rfl) rv_I0) ev_c rv_I0) (f2.grow e3) (by omega) fun v H4 v0 v1 f4 => ⟨_, _, rfl, rfl, ?_⟩⟩
      exact k (fl + v) H4 (by omega) (fun _ _ _ => by omega) f4
    · have hy : wd ≠ .yes := fun q => by
        subst q
        have z := (Bool.or_eq_false_iff.mp hz).2
        revert z
        decide
      refine t_take (m := 12) (ev_var (i := 0) rfl) ev_c (f2.grow e3) (by decide) fun v H4 v0 v1 f4 => ?_
      refine t_pick (ns := [1, 10 ^ 28 + 1]) (ea_cons ev_c (ea_cons (ev_op (ev_op ev_c ev_c (rv_I ⟨by decide, by decide, by decide⟩)) ev_c rv_I0) ea_nil)) (by decide) (fun _ _ => ev_var (i := 0) rfl) f4 rfl (by decide) fun x H5 hx f5 => ?_
      refine ⟨_, _, rfl, rfl, .inl ⟨by omega, by omega⟩, ?_⟩
      have hx2 : 0 ≤ x := by simp at hx; omega
      exact k (v * x) H5 (Int.mul_nonneg v0 hx2) (fun q => absurd q hy) f5
theorem ok_left {f : Addr} {fd : FuncData} (F : Fun K "_law_left" "_law_left" s__law_left f fd) (T : Txt mg) : FnOk P w K mg base CX0 1 f fd ["_law_words_here", "_law_spare", "_law_floor", "_law_roof", "_law_told"] (spLeft K) := by
  refine F.ok sc__law_left (fun vs H Q E h => ?_) (fun cdv A outer s H vs Q E hr h => ?_)
  · obtain ⟨_, _, _, _, _, _, _, _, rfl, _⟩ := h
    rfl
  · obtain ⟨r, t, wd, e, sp, fl, rf, told, rfl, hrl, ht, hz, h0, h1, h2, h3, k⟩ := h
    refine ⟨_, (pss_cons (ps_set (i := 5) sc__law_left.nd rfl (Or.inl rfl) (pe_lst pa_nil))
    (pss_cons (ps_for PassesOwn.never rfl (pi_range2 (by rfl) T.range (pa_cons (pv 2) (pa_cons (pe_op op_add (pv 3) pe_int) pa_nil))) (pg_name (i := 6) sc__law_left.nd rfl (Or.inl rfl))
       (pss_cons (ps_set (i := 7) sc__law_left.nd rfl (Or.inl rfl) (pe_op op_sub (pe_callB (cLen K) (by rfl) T.len PySem.boot_len (pa_cons (pv 4) pa_nil)) (pe_bmK K PySem.F.plainAttrs_list PySem.F.slot_list_count PySem.F.type_list_count (mCount K) (pv 4) (pa_cons (pv 6) pa_nil))))
      (Evl.pss_cut (ps_if (pt_cmpR op_eq (pe_ix (iT K) (pv 0) pe_int (fun _ _ => rfl)) pe_str (nomark _))
         (pss_one (ps_set (i := 8) sc__law_left.nd rfl (Or.inl rfl) (pe_cmpR op_le (pv 7) (pv 1) (nomark _))))
         (pss_one (ps_if (pt_cmpR op_eq (pe_ix (iT K) (pv 0) pe_int (fun _ _ => rfl)) pe_str (nomark _))
           (pss_one (ps_set (i := 8) sc__law_left.nd rfl (Or.inl rfl) (pe_cmpR op_le (pv 7) (pe_ix (iT K) (pv 0) pe_int (fun _ _ => rfl)) (nomark _))))
           (pss_one (ps_if (pt_cmpR op_eq (pe_ix (iT K) (pv 0) pe_int (fun _ _ => rfl)) pe_str (nomark _))
             (pss_one (ps_set (i := 8) sc__law_left.nd rfl (Or.inl rfl) (pe_and (pe_cmpR op_le (pv 7) (pe_ix (iT K) (pv 0) pe_int (fun _ _ => rfl)) (nomark _)) (pe_one (pe_cmpR op_eq (pe_callB (cMax K) (by rfl) T.max (by decide +kernel) (pa_cons (pe_op op_cat (pv 4) (pe_lst (pa_cons (pv 6) pa_nil))) pa_nil)) (pv 6) (nomark _))))))
             (pss_one (ps_if (pt_cmpR op_eq (pv 6) pe_int (nomark _))
               (pss_one (ps_set (i := 8) sc__law_left.nd rfl (Or.inl rfl) (pe_cmpR op_eq (pe_bmK K PySem.F.plainAttrs_list PySem.F.slot_list_count PySem.F.type_list_count (mCount K) (pv 4) (pa_cons pe_int pa_nil)) pe_int (nomark _))))
               (pss_one (ps_set (i := 8) sc__law_left.nd rfl (Or.inl rfl) (pe_cmpR op_le (pe_bmK K PySem.F.plainAttrs_list PySem.F.slot_list_count PySem.F.type_list_count (mCount K) (pv 4) (pa_cons pe_int pa_nil)) (pv 1) (nomark _)))))))))))
      (pss_one (ps_if (pt_val (pv 8))
         (pss_one (ps_expr (pe_bmK K PySem.F.plainAttrs_list PySem.F.slot_list_append PySem.F.type_list_append mt_append (pv 5) (pa_cons (pv 6) pa_nil))))
         pss_nil)))))
    (pss_one (ps_ret (pv 5))))), ?_⟩
    refine q_asgL (xs := []) (el_lst ea_nil (by decide)) fun l H1 hl e1 hl1 => ?_
    let fB : Nat → Bool := fun i => leftB wd e sp told (fl + (i : Int))
    let vB : Nat → V := fun i => .int (fl + (i : Int))
    let M : Nat → L2.St → Hp → Prop := fun i σ H' => ∃ (v6 v7 v8 : Option V), σ = [some r, some (.int sp), some (.int fl), some (.int rf), some (.ref t), some (.ref l), v6, v7, v8] ∧ Ex H H' ∧ H' l = some (.lst (given i fB vB))
    refine q_forR2 (lo := fl) (n := rf + 1) (ea_cons (ev_var rfl) (ea_cons (ev_op (ev_var rfl) ev_c rv_I0) ea_nil)) ⟨h0, by omega, by omega, by omega⟩ M (fun H2 e2 => ⟨none, none, none, rfl, e1.trans e2, e2 _ _ hl1⟩) ?_ ?_
    · rintro i σ H' hi ⟨v6, v7, v8, rfl, e3, hl3⟩
      obtain ⟨g, hg⟩ : ∃ g : Int, g = fl + (i : Int) := ⟨_, rfl⟩
      rw [← hg]
      have hfB : fB i = leftB wd e sp told g := by rw [hg]
      have hvB : vB i = .int g := by rw [hg]
      obtain ⟨rp, rfl, hrp, he⟩ := hrl.mono e3
      have ht3 := e3 _ _ ht
      refine q_asg (v := .int (wr told g)) (ev_is (ev_op (ev_len (ev_var rfl) (sq_of ht3)) (ev_cntL (ev_var rfl) (sq_of ht3) (ev_var rfl)) rv_I0) (by rw [iv_len]; rfl)) fun H4 e4 => ?_
      let M2 : L2.St → Hp → Prop := fun σ H5 => σ = [some (.ref rp), some (.int sp), some (.int fl), some (.int rf), some (.ref t), some (.ref l), some (.int g), some (.int (wr told g)), some (.bl (fB i))] ∧ Ex H' H5
      refine q_cut (M := M2) ?_ ?_
      · have hw : ∀ (z : Str) H5, Ex H' H5 → EvT (tTest (tOp rEq (tOp (rIxT K) (tVar 0) (tC (.int 0))) (tC (.str z)))) [some (.ref rp), some (.int sp), some (.int fl), some (.int rf), some (.ref t), some (.ref l), some (.int g), some (.int (wr told g)), v8] H5 (decide (V.str wd.s = .str z)) := fun z H5 e5 => et_test (ev_op (ev_ixT (ev_var rfl) ev_c (st_of (e5 _ _ hrp)) (atI_nat (j := 0) rfl)) ev_c (rv_eq rfl))
        have he1 : ∀ H5, Ex H' H5 → Ev (tOp (rIxT K) (tVar 0) (tC (.int 1))) [some (.ref rp), some (.int sp), some (.int fl), some (.int rf), some (.ref t), some (.ref l), some (.int g), some (.int (wr told g)), v8] H5 (.int e) := fun H5 e5 => ev_ixT (ev_var rfl) ev_c (st_of (e5 _ _ hrp)) (atI_nat (j := 1) rfl)
        have fin : ∀ H5, Ex H' H5 → M2 [some (.ref rp), some (.int sp), some (.int fl), some (.int rf), some (.ref t), some (.ref l), some (.int g), some (.int (wr told g)), some (.bl (fB i))] H5 := fun H5 e5 => ⟨rfl, e5⟩
        rw [hfB] at fin
        cases wd with
        | all =>
          refine s_if (b := true) (et_is (hw _ _ e4) (by decide)) (fun _ H5 e5 => ?_) fun z => Bool.noConfusion z
          exact s_asg (ev_op (ev_var rfl) (ev_var rfl) rv_I0) fun H6 e6 => fin H6 ((e4.trans e5).trans e6)
        | each =>
          refine s_if (b := false) (et_is (hw _ _ e4) (by decide)) (fun z => Bool.noConfusion z) fun _ H5 e5 => ?_
          refine s_if (b := true) (et_is (hw _ _ (e4.trans e5)) (by decide)) (fun _ H6 e6 => ?_) fun z => Bool.noConfusion z
          have e46 := (e4.trans e5).trans e6
          exact s_asg (ev_op (ev_var rfl) (he1 _ e46) rv_I0) fun H7 e7 => fin H7 (e46.trans e7)
        | low =>
          refine s_if (b := false) (et_is (hw _ _ e4) (by decide)) (fun z => Bool.noConfusion z) fun _ H5 e5 => ?_
          refine s_if (b := false) (et_is (hw _ _ (e4.trans e5)) (by decide)) (fun z => Bool.noConfusion z) fun _ H6 e6 => ?_
          have e46 := (e4.trans e5).trans e6
          refine s_if (b := true) (et_is (hw _ _ e46) (by decide)) (fun _ H7 e7 => ?_) fun z => Bool.noConfusion z
          have e47 := e46.trans e7
          obtain ⟨m, hm, hle⟩ := max_ex told g
          refine s_asg (ev_is (ev_andV (ev_op (ev_var rfl) (he1 _ e47) rv_I0) fun _ => ev_op (ev_maxN (ns := told ++ [g]) (m := m) (el_is (xs := iv told ++ [.int g]) (el_catL (ev_var rfl) (e47 _ _ ht3) (el_lst (ea_cons (ev_var rfl) ea_nil) (by show 1 ≤ _; decide)) (by rw [iv_len]; simp; omega)) (by unfold iv; simp)) hm hle) (ev_var rfl) rv_eqI) ?_) fun H8 e8 => fin H8 (e47.trans e8)
          show V.bl (decide (wr told g ≤ e) && decide (m = g)) = V.bl (decide (wr told g ≤ e) && decide (∀ x ∈ told, x ≤ g))
          have : decide (m = g) = decide (∀ x ∈ told, x ≤ g) := decide_eq_decide.mpr ⟨fun q x hx => by subst q; exact hle x (by simp [hx]), fun q => by
            have a1 := hle g (by simp)
            rcases List.mem_append.mp hm with z | z
            · have := q m z; omega
            · simpa using z⟩
          rw [this]
        | yes =>
          refine s_if (b := false) (et_is (hw _ _ e4) (by decide)) (fun z => Bool.noConfusion z) fun _ H5 e5 => ?_
          refine s_if (b := false) (et_is (hw _ _ (e4.trans e5)) (by decide)) (fun z => Bool.noConfusion z) fun _ H6 e6 => ?_
          have e46 := (e4.trans e5).trans e6
          refine s_if (b := false) (et_is (hw _ _ e46) (by decide)) (fun z => Bool.noConfusion z) fun _ H7 e7 => ?_
          have e47 := e46.trans e7
          refine s_if (b := decide (g = 0)) (et_test (ev_op (ev_var rfl) ev_c rv_eqI)) (fun z H8 e8 => ?_) fun z H8 e8 => ?_
          · have z := of_decide_eq_true z
            have e0 : leftB .yes e sp told g = decide ((told.count 1 : Int) = 0) := (if_pos z).trans (decide_eq_decide.mpr (by omega))
            rw [e0] at fin
            exact s_asg (ev_op (ev_cntL (ev_var rfl) (sq_of ((e47.trans e8) _ _ ht3)) ev_c) ev_c rv_eqI) fun H9 e9 => fin H9 ((e47.trans e8).trans e9)
          · have z := of_decide_eq_false z
            have e0 : leftB .yes e sp told g = decide ((told.count 0 : Int) ≤ sp) := if_neg z
            rw [e0] at fin
            exact s_asg (ev_op (ev_cntL (ev_var rfl) (sq_of ((e47.trans e8) _ _ ht3)) ev_c) (ev_var rfl) rv_I0) fun H9 e9 => fin H9 ((e47.trans e8).trans e9)
      · rintro σ H5 ⟨rfl, e5⟩
        have hl5 := e5 _ _ hl3
        refine s_when (b := fB i) (et_B (ev_var rfl)) (fun hb H6 e6 => ?_) fun hb H6 e6 => ?_
        · refine s_app (e6 _ _ hl5) (ev_var rfl) (ev_var rfl) (by have := given_len i fB vB; omega) fun H7 e7 => ?_
          refine ⟨_, _, _, rfl, (((e3.trans e5).trans e6).trans e7).mut hl, ?_⟩
          rw [upd_same, given_yes hb, hvB]
        · refine ⟨_, _, _, rfl, (e3.trans e5).trans e6, ?_⟩
          rw [given_no hb]
          exact e6 _ _ hl5
    · rintro σ H' ⟨v6, v7, v8, rfl, e3, hl3⟩
      refine s_ret (ev_var rfl) fun H4 e4 => k l H4 hl (e3.trans e4) ?_
      have := e4 _ _ hl3
      rw [this]
      unfold given leftL iv
      rw [List.map_map]
      rfl
end
end K27
/-! ## Ise -/
set_option Elab.async false
set_option linter.all false
set_option maxRecDepth 100000
set_option maxHeartbeats 4000000
namespace K27
open PySem L2 Evl
open PySem.Spec PyProof.Rows
/-- what the class at C must say so that isinstance asks its errors rightly -/
structure IsC (K : PySem.W.Frag) (C : Addr) : Prop where
  ic : (PySem.W.clsIn K C).isSome = true
  ca : PySem.W.findIn K (.ref C) "__class__" = some (some (.builtin "object.__class__"))
  gs : PySem.W.specialIn K (.builtin "object.__class__") "__get__" = some (some (.builtin "getset_descriptor.__get__"))
  tk : PySem.W.takesIn K (.builtin "object.__class__") = some true
  mo : PySem.W.mroIn K C (.type "object") = some true
/-- isinstance(e, c), e the caught error -/
def tIse (K : PySem.W.Frag) (a : Addr) (cls : Value) (d : Option Addr) (C : Addr) : List V → Hp → VK → Prop := fun xs H Q => cls = .ref C ∧ ∃ (dd : Addr) (fs : List (Str × V)) (c : V) (cv : Value) (b : Bool), d = some dd ∧ H dd = some (.xd fs) ∧ xs = [.ref a, c] ∧ (∀ u, RelV c u → u = cv) ∧ PySem.W.kitOne K (.ref C) cv = some b ∧ Q (.bl b) H
theorem call_ise {X : Cx} {a C : Addr} {cls : Value} {d : Option Addr} {oe : Obj} {pn : List (Addr × Obj)} (T : IsC X.K C) (F : XfC X.K C) (hz : Zc cls d oe) (hf : ∃ vs, oe.data = .fields vs) : CallR (X.suite a ((a, oe) :: pn)) (.builtin "isinstance") (tIse X.K a cls d C) := by
  intro pins s σ H xs us Q I r h
  obtain ⟨ec, dd, fs, c, cv, b, ed, hd, rfl, hcv, e, q⟩ := h
  subst ec ed
  obtain ⟨u1, u2, rfl, r1, r2⟩ := vals2 r
  cases r1
  have e2 := hcv _ r2
  subst e2
  obtain ⟨ha, _⟩ := I.pin (a, oe) (List.mem_append_left _ List.mem_cons_self)
  obtain ⟨vs, hv⟩ := hf
  have hx : ObjOk X.prog X.w H s.heap dd (.xd fs) := I.hok dd _ hd
  obtain ⟨mA, hns, _⟩ := hx
  obtain ⟨od, ho, _⟩ := lookIn_ns hns
  have J : PySem.W.InstAt s.heap a oe C (some od) := ⟨ha, hz.1, by unfold PySem.W.notCls; rw [hv], by rw [hz.2]; exact ho⟩
  exact PySem.W.kia_one (PySem.W.kitx_exc T.ic F.ga F.gg F.exC T.ca T.gs T.tk T.mo) I.kIn J e (fun z => nomatch z) fun tk => ⟨.bl b, H, I.tok tk, rfl, q⟩
end K27
/-! ## P7 -/
set_option Elab.async false
set_option linter.all false
set_option maxRecDepth 100000
set_option maxHeartbeats 4000000
namespace K27
open PySem L2 Evl
/-- what the text's errors are instances of -/
structure Er (K : PySem.W.Frag) (mg : Str → Option Value) (C U : Addr) : Prop where
  is : IsC K C
  gU : mg "UseError" = some (.ref U)
  kU : PySem.W.kitOne K (.ref C) (.ref U) = some true
  kV : PySem.W.kitOne K (.ref C) (.type "ValueError") = some true
theorem pe_VE {X : Cx} {mg : Str → Option Value} (T : Txt mg) {pos : Pos} (hg : Gl X "ValueError" := by rfl) (hm : X.mg = mg := by rfl) : PE X (.Name "ValueError" pos) (tC (.ty "ValueError")) := pe_bltn hg (hm ▸ T.ValueError) (by decide +kernel) rfl
section
variable {K : PySem.W.Frag} {σ : L2.St} {H : Hp} {te : TE} {ta : TA}
theorem ev_callS {sp : Sp} {vs : List V} {E : L2.St → XK} {z : V} (h : EvA ta σ H vs) (hs : SpV sp vs H z) : Ev (tCallS sp E ta) σ H z := fun H1 e Q q => h H1 e _ fun H2 e2 => hs H2 (e.trans e2) Q (fun H3 e3 => q H3 (e2.trans e3)) (E σ)
theorem ev_ise {a C dd : Addr} {fs : List (Str × V)} {c : V} {cv : Value} {b : Bool} {tc : TE} (h1 : Ev te σ H (.ref a)) (h2 : Ev tc σ H c) (hd : H dd = some (.xd fs)) (hc : ∀ u, RelV c u → u = cv) (hk : PySem.W.kitOne K (.ref C) cv = some b) :
    Ev (tCB (tIse K a (.ref C) (some dd) C) (tCons te (tCons tc tNil))) σ H (.bl b) := fun H1 e Q q => h1 H1 e _ fun H2 e2 => h2 H2 (e.trans e2) _ fun H3 e3 => ⟨rfl, dd, fs, c, cv, b, rfl, ((e.trans e2).trans e3) _ _ hd, rfl, hc, hk, q H3 (e2.trans e3)⟩
theorem ev_xf {a C dd : Addr} {fs : List (Str × V)} {f : Str} {v : V} (h1 : Ev te σ H (.ref a)) (hd : H dd = some (.xd fs)) (hf : fs.lookup f = some v) : Ev (tXf a (.ref C) (some dd) C f te) σ H v := fun H1 e Q q =>
  h1 H1 e _ fun H2 e2 => ⟨rfl, rfl, dd, fs, v, rfl, (e.trans e2) _ _ hd, hf, q H2 e2⟩
end
abbrev s__law_refused : Stmt := top 34
abbrev N__law_refused : List Str := ["_law_words_here", "_law_spare", "_law_floor", "_law_roof", "_law_told", "_law_due", "e"]
theorem sc__law_refused : FnScope N__law_refused ["_law_words_here", "_law_spare", "_law_floor", "_law_roof", "_law_told", "_law_due"] (defScope s__law_refused) := ⟨rfl, rfl, rfl, by decide +kernel, rfl, by decide +kernel, by decide +kernel⟩
def spRefused : Sp := fun vs H Q _ => ∃ (r s l m g : V) (z : Str), vs = [r, s, l, m, g, .str z] ∧ Bad H r s l m g z ∧ RetV (.bl true) H Q
abbrev s__law_off_refused : Stmt := top 35
abbrev N__law_off_refused : List Str := ["_law_words_here", "_law_settled_at", "_law_told", "_law_due", "e"]
theorem sc__law_off_refused : FnScope N__law_off_refused ["_law_words_here", "_law_settled_at", "_law_told", "_law_due"] (defScope s__law_off_refused) := ⟨rfl, rfl, rfl, by decide +kernel, rfl, by decide +kernel, by decide +kernel⟩
def spOffRefused : Sp := fun vs H Q _ => ∃ (r s g : V) (z : Str), vs = [r, s, g, .str z] ∧ Bad2 H r s g z ∧ RetV (.bl true) H Q
section
variable {P : Program} {w : World} {K : PySem.W.Frag} {mg : Str → Option Value} {base : Heap}
theorem ok_isH {f : Addr} {fd : FuncData} (F : Fun K "_law_is" "_law_is" s__law_is f fd) (T : Txt mg) : L2H.FnH P w K mg base CX0 1 f fd ["_law_thing", "_law_due"] spIs := by
  refine okH F sc__law_is (fun vs H Q E h => ?_) (fun cdv A outer s H vs Q E p hr h => ?_)
  · obtain ⟨_, _, rfl, _⟩ := h
    rfl
  · obtain ⟨x, d, rfl, hx, k⟩ := h
    refine ⟨_, (pss_one (ps_ret (pe_and (pe_callB (cIsi K) (by rfl) T.isinstance (by decide +kernel) (pa_cons (pv 0) (pa_cons (pe_ty_int T) pa_nil))) (pe_and (pe_not (pe_callB (cIsi K) (by rfl) T.isinstance (by decide +kernel) (pa_cons (pv 0) (pa_cons (pe_ty_bool T) pa_nil)))) (pe_one (pe_cmpR op_eq (pv 0) (pv 1) (nomark _))))))), ?_⟩
    cases x with
    | int i => exact s_ret (ev_andV (a := true) (ev_isiI (ev_var rfl) hx) fun _ => ev_andV (a := true) (ev_notV (ev_isiB (ev_var rfl) hx)) fun _ => ev_op (ev_var rfl) (ev_var rfl) rv_eqI) k
    | bl b => exact s_ret (ev_andV (a := true) (b := false) (ev_is (ev_isiI (ev_var rfl) hx) rfl) fun _ => ev_andF (ev_notV (a := true) (ev_isiB (ev_var rfl) hx))) k
    | _ => exact s_ret (ev_andF (ev_isiI (ev_var rfl) hx)) k
theorem ok_refused {f C U fI : Addr} {fd : FuncData} (F : Fun K "_law_refused" "_law_refused" s__law_refused f fd) (T : Txt mg) (N : Nu K mg C fI) (R : Er K mg C U) (D_left_grades : Dn P w K mg base (L2N.CX P w) 6 "left_grades" ["rule", "still", "least", "most", "grades"] (spLG C))
    (D__law_is : Dn P w K mg base CX0 1 "_law_is" ["_law_thing", "_law_due"] spIs) (hot : L2H.FnH P w K mg base CX0 1 D__law_is.f D__law_is.fd ["_law_thing", "_law_due"] spIs) : FnOk P w K mg base CX0 7 f fd ["_law_words_here", "_law_spare", "_law_floor", "_law_roof", "_law_told", "_law_due"] spRefused := by
  refine F.ok sc__law_refused (fun vs H Q E h => ?_) (fun cdv A outer s H vs Q E hr h => ?_)
  · obtain ⟨_, _, _, _, _, _, rfl, _⟩ := h
    rfl
  · obtain ⟨r, s, l, m, g, z, rfl, hb, k⟩ := h
    have hr6 : Room 6 _ := hr.mono (by decide)
    refine ⟨_, pss_cons (L2N.ps_try_as (i := 6) (Wout := fun _ _ _ _ => False) rfl rfl sc__law_refused.nd rfl rfl ⟨rfl, by decide, Or.inl N.gC⟩ takes0N
      (fun W pn xe tk _ => pss_one (ps_expr (pe_callS D_left_grades.ok hr6 rfl D_left_grades.g D_left_grades.kp D_left_grades.b (fun σ => L2N.passAt tk σ) (pa_cons (pv 0) (pa_cons (pv 1) (pa_cons (pv 2) (pa_cons (pv 3) (pa_cons (pv 4) pa_nil))))))))
      (fun a oe cls d pn hz hf => pss_one (ps_ret (pe_and (pe_callB (call_ise R.is N.xf hz.zc hf) (by rfl) T.isinstance (by decide +kernel) (pa_cons (pv 6) (pa_cons (pe_glob (v := .ref U) (by rfl) R.gU rfl) pa_nil)))
        (pe_and (pe_callB (cIsi K) (by rfl) T.isinstance (by decide +kernel) (pa_cons (pe_xf N.xf N.nw hz.zc hf (pv 6)) (pa_cons (pe_ty_str T) pa_nil)))
        (pe_and (pe_cmpR op_eq (pe_xf N.xf N.nw hz.zc hf (pv 6)) (pv 5) (nomark _))
        (pe_one (L2H.pe_callH (E := fun _ _ _ _ => False) hot (L2H.roomH_mark (hr.mono (by decide)) _) (hotS hz hf) (by rfl) D__law_is.g D__law_is.kp D__law_is.b (fun σ _ _ _ _ _ _ no => no.elim) (pa_cons (pe_xf N.xf N.na hz.zc hf (pv 6)) (pa_cons (pe_un un_neg pe_int) pa_nil))))))))))
      (pss_one (ps_ret pe_bl)), ?_⟩
    refine ⟨_, rfl, _, rfl, _, rfl, _, rfl, _, rfl, r, s, l, m, g, rfl, .inl ⟨z, hb, fun d H1 e1 hd => ⟨true, N.te, fun _ a0 _ => ?_, fun no => Bool.noConfusion no⟩⟩⟩
    refine s_ret (v := .bl true) (ev_is (ev_andV (a := true) (ev_ise (ev_var rfl) ev_c hd (fun u h => h) R.kU) fun _ => ev_andV (a := true) (ev_isiS (ev_xf (ev_var rfl) hd rfl) (.str z)) fun _ => ev_andV (a := true) (ev_is (ev_op (ev_xf (ev_var rfl) hd rfl) (ev_var rfl) (rv_eq rfl)) (by rw [decide_eq_true rfl])) fun _ =>
      ev_callS (z := .bl (isEq (.int (-1)) (-1))) (ea_cons (ev_xf (ev_var rfl) hd rfl) (ea_cons (ev_un ev_c ru_neg) ea_nil)) fun H2 e2 Q' q' _ => ⟨_, _, rfl, .int _, q'⟩) rfl) fun H2 e2 => k H2 (e1.trans e2)
theorem ok_off_refused {f C U fI : Addr} {fd : FuncData} (F : Fun K "_law_off_refused" "_law_off_refused" s__law_off_refused f fd) (T : Txt mg) (N : Nu K mg C fI) (R : Er K mg C U) (D_off_by : Dn P w K mg base (L2N.CX P w) 6 "off_by" ["rule", "settled", "grades"] (spOff C))
    (D__law_is : Dn P w K mg base CX0 1 "_law_is" ["_law_thing", "_law_due"] spIs) (hot : L2H.FnH P w K mg base CX0 1 D__law_is.f D__law_is.fd ["_law_thing", "_law_due"] spIs) : FnOk P w K mg base CX0 7 f fd ["_law_words_here", "_law_settled_at", "_law_told", "_law_due"] spOffRefused := by
  refine F.ok sc__law_off_refused (fun vs H Q E h => ?_) (fun cdv A outer s H vs Q E hr h => ?_)
  · obtain ⟨_, _, _, _, rfl, _⟩ := h
    rfl
  · obtain ⟨r, s, g, z, rfl, hb, k⟩ := h
    have hr6 : Room 6 _ := hr.mono (by decide)
    refine ⟨_, pss_cons (L2N.ps_try_as (i := 4) (Wout := fun _ _ _ _ => False) rfl rfl sc__law_off_refused.nd rfl rfl ⟨rfl, by decide, Or.inl N.gC⟩ takes0N
      (fun W pn xe tk _ => pss_one (ps_expr (pe_callS D_off_by.ok hr6 rfl D_off_by.g D_off_by.kp D_off_by.b (fun σ => L2N.passAt tk σ) (pa_cons (pv 0) (pa_cons (pv 1) (pa_cons (pv 2) pa_nil))))))
      (fun a oe cls d pn hz hf => pss_one (ps_ret (pe_and (pe_callB (call_ise R.is N.xf hz.zc hf) (by rfl) T.isinstance (by decide +kernel) (pa_cons (pv 4) (pa_cons (pe_VE T) pa_nil)))
        (pe_and (pe_callB (cIsi K) (by rfl) T.isinstance (by decide +kernel) (pa_cons (pe_xf N.xf N.nw hz.zc hf (pv 4)) (pa_cons (pe_ty_str T) pa_nil)))
        (pe_and (pe_cmpR op_eq (pe_xf N.xf N.nw hz.zc hf (pv 4)) (pv 3) (nomark _))
        (pe_one (L2H.pe_callH (E := fun _ _ _ _ => False) hot (L2H.roomH_mark (hr.mono (by decide)) _) (hotS hz hf) (by rfl) D__law_is.g D__law_is.kp D__law_is.b (fun σ _ _ _ _ _ _ no => no.elim) (pa_cons (pe_xf N.xf N.na hz.zc hf (pv 4)) (pa_cons (pe_un un_neg pe_int) pa_nil))))))))))
      (pss_one (ps_ret pe_bl)), ?_⟩
    refine ⟨_, rfl, _, rfl, _, rfl, r, s, g, rfl, .inl ⟨z, hb, fun d H1 e1 hd => ⟨true, N.te, fun _ a0 _ => ?_, fun no => Bool.noConfusion no⟩⟩⟩
    refine s_ret (v := .bl true) (ev_is (ev_andV (a := true) (ev_ise (ev_var rfl) ev_c hd (fun u h => h) R.kV) fun _ => ev_andV (a := true) (ev_isiS (ev_xf (ev_var rfl) hd rfl) (.str z)) fun _ => ev_andV (a := true) (ev_is (ev_op (ev_xf (ev_var rfl) hd rfl) (ev_var rfl) (rv_eq rfl)) (by rw [decide_eq_true rfl])) fun _ =>
      ev_callS (z := .bl (isEq (.int (-1)) (-1))) (ea_cons (ev_xf (ev_var rfl) hd rfl) (ea_cons (ev_un ev_c ru_neg) ea_nil)) fun H2 e2 Q' q' _ => ⟨_, _, rfl, .int _, q'⟩) rfl) fun H2 e2 => k H2 (e1.trans e2)
end
end K27
/-! ## Kw -/
set_option Elab.async false
set_option linter.all false
set_option maxRecDepth 100000
set_option maxHeartbeats 4000000
namespace K27
open PySem L2 Evl
/-- f(e, .., k = v, ..), where the call may raise: n positional values, m keywords -/
def tCallNS (n m : Nat) (sp : Sp) (gV : List V → List V → List V) (E : L2.St → XK) (t tk : TA) : TE := fun σ H Q => t σ H fun vs H1 => tk σ H1 fun zs H2 => vs.length = n ∧ zs.length = m ∧ sp (gV vs zs) H2 Q (E σ)
section
variable {X : Cx} {CX : CXT} {k n : Nat} {f : Addr} {fd : FuncData} {ps ks : List Str} {sp : Sp} {E : L2.St → XK} {E0' : XK} {x : Str} {p pos : Pos} {e : Expr} {es : List Expr} {kws : List Keyword} {t tk : TA} {g : List Value → List Value → List Value} {gV : List V → List V → List V}
theorem run_fnNS {pins : List (Addr × Obj)} {σ : L2.St} {H : Hp} {s : Shared} {Q : VK} {us ws : List Value} {vs zs : List V} (F : FnOk X.prog X.w X.K X.mg X.base CX k f fd ps sp) (hr : Room k X.A) (hb : KBn X.K fd ps n ks g gV) (hx : PassesAt CX X σ (E σ))
    (I : Inv X pins σ H s) (r : Vals vs us) (rz : Vals zs ws) (l1 : vs.length = n) (l2 : zs.length = ks.length) (h : sp (gV vs zs) H Q (E σ)) : wpAny (model X.prog X.w) X.A (call (.ref f) us (ks.zip ws)) (EP X pins σ Q) X.xe s := by
  have r2 := hb.rel r rz
  refine wpAny_call (codeAny_mono (F.run X.A X.stack s H ⟨us, ks.zip ws⟩ (g us ws) (gV vs zs) Q (E σ) hr I.env0 (hb.to s us ws I.kIn (r.length.symm.trans l1) (rz.length.symm.trans l2)) r2 h) fun r s' hq => ?_)
  cases r with
  | error e => exact hx pins H s e s' I hq
  | ok fl =>
    cases fl with
    | ret u => exact I.after hq
    | next => exact False.elim hq
    | brk => exact False.elim hq
    | cont => exact False.elim hq
/-- f(e, .., k = v, ..) in a try -/
theorem pe_callNS (F : FnOk X.prog X.w X.K X.mg X.base CX k f fd ps sp) (hr : Room k X.A) (hg : Gl X x) (hm : X.mg x = some (.ref f)) (hk : PySem.W.keepIn X.K (.ref f) = true) (hb : KBn X.K fd ps n ks g gV) (hx : ∀ σ, PassesAt CX X σ (E σ))
    (ha : PA X (e :: es) t) (hkw : PK X kws tk) (hall : (backToKw pos (keywordEach kws X.env)).all (·.1.isSome) = true := by rfl) (hks : (backToKw pos (keywordEach kws X.env)).filterMap (·.1) = ks := by rfl)
    (hdb : (x == ("__debug__" : Str)) = false := by decide) (he : starEach (e :: es) X.env = (false, eval e X.env) :: starEach es X.env := by rfl)
    (hpl : ((backTo pos (starEach (e :: es) X.env)).any (·.1) || (backToKw pos (keywordEach kws X.env)).any (·.1.isNone)) = false := by rfl) :
    PE X (.Call (.Name x p) (e :: es) kws pos) (tCallNS n ks.length sp gV E t tk) := by
  refine ⟨fun pins s σ H Q I h => ?_⟩
  refine wpAny_Call_Name_kw (ld_glob I hg hm ?_ hdb)
  refine PySem.W.callWith_KW (h₀ := X.base) I.ok.mod.kin hk hall (thn (ha.run pos pins s σ H _ I h) fun us s1 ⟨vs, H1, I1, r, q⟩ => ?_) hpl he
  refine thn (hkw.run pos pins s1 σ H1 _ I1 q) fun ws s2 ⟨zs, H2, I2, rz, l1, l2, q2⟩ => ⟨I2.kIn, ?_⟩
  rw [hks]
  exact run_fnNS F hr hb (hx σ) I2 r rz l1 l2 q2
/-- f(k = v, ..) in a try -/
theorem pe_callNS0 (F : FnOk X.prog X.w X.K X.mg X.base CX k f fd ps sp) (hr : Room k X.A) (hg : Gl X x) (hm : X.mg x = some (.ref f)) (hk : PySem.W.keepIn X.K (.ref f) = true) (hb : KBn X.K fd ps 0 ks g gV) (hx : ∀ σ, PassesAt CX X σ (E σ))
    (hkw : PK X kws tk) (hall : (backToKw pos (keywordEach kws X.env)).all (·.1.isSome) = true := by rfl) (hks : (backToKw pos (keywordEach kws X.env)).filterMap (·.1) = ks := by rfl)
    (hdb : (x == ("__debug__" : Str)) = false := by decide)
    (hpl : ((backTo pos (starEach [] X.env)).any (·.1) || (backToKw pos (keywordEach kws X.env)).any (·.1.isNone)) = false := by rfl) :
    PE X (.Call (.Name x p) [] kws pos) (tCallNS 0 ks.length sp gV E tNil tk) := by
  refine ⟨fun pins s σ H Q I h => ?_⟩
  refine wpAny_Call_Name_kw (ld_glob I hg hm ?_ hdb)
  refine PySem.W.callWith_KW0 (h₀ := X.base) I.ok.mod.kin hk hall ?_ hpl
  refine thn (hkw.run pos pins s σ H _ I h) fun ws s2 ⟨zs, H2, I2, rz, l1, l2, q2⟩ => ⟨I2.kIn, ?_⟩
  rw [hks]
  exact run_fnNS (us := []) (vs := []) F hr hb (hx σ) I2 .nil rz rfl l2 q2
/-- f(k = v, ..) -/
theorem pe_callKw0 (F : FnOk X.prog X.w X.K X.mg X.base CX k f fd ps sp) (hr : Room k X.A) (hg : Gl X x) (hm : X.mg x = some (.ref f)) (hk : PySem.W.keepIn X.K (.ref f) = true) (hb : KBn X.K fd ps 0 ks g gV) (hx : Passes CX X E0')
    (hkw : PK X kws tk) (hall : (backToKw pos (keywordEach kws X.env)).all (·.1.isSome) = true := by rfl) (hks : (backToKw pos (keywordEach kws X.env)).filterMap (·.1) = ks := by rfl)
    (hdb : (x == ("__debug__" : Str)) = false := by decide)
    (hpl : ((backTo pos (starEach [] X.env)).any (·.1) || (backToKw pos (keywordEach kws X.env)).any (·.1.isNone)) = false := by rfl) :
    PE X (.Call (.Name x p) [] kws pos) (tCallN 0 ks.length sp gV E0' tNil tk) := by
  refine ⟨fun pins s σ H Q I h => ?_⟩
  refine wpAny_Call_Name_kw (ld_glob I hg hm ?_ hdb)
  refine PySem.W.callWith_KW0 (h₀ := X.base) I.ok.mod.kin hk hall ?_ hpl
  refine thn (hkw.run pos pins s σ H _ I h) fun ws s2 ⟨zs, H2, I2, rz, l1, l2, q2⟩ => ⟨I2.kIn, ?_⟩
  rw [hks]
  exact run_fnN (us := []) (vs := []) F hr hb hx I2 .nil rz rfl l2 q2
end
end K27
/-! ## P8 -/
set_option Elab.async false
set_option linter.all false
set_option maxRecDepth 100000
set_option maxHeartbeats 4000000
namespace K27
open PySem L2 Evl
/-- a list, new or old -/
def EvS (te : TE) (σ : L2.St) (H : Hp) (xs : List V) : Prop := ∀ H1, Ex H H1 → ∀ Q : VK, (∀ p H2, Ex H1 H2 → H2 p = some (.lst xs) → Q (.ref p) H2) → te σ H1 Q
section
variable {K : PySem.W.Frag} {σ : L2.St} {H : Hp} {t1 t2 t3 t4 t5 : TE} {r : V} {w : Wd} {e sp fl rf c : Int} {told : List Int}
theorem es_var {p : Addr} {xs : List V} (h : Ev t1 σ H (.ref p)) (hp : H p = some (.lst xs)) : EvS t1 σ H xs := fun H1 e Q q => h H1 e _ fun H2 e2 => q p H2 e2 ((e.trans e2) _ _ hp)
theorem es_new {xs : List V} (h : EvL t1 σ H xs) : EvS t1 σ H xs := fun H1 e Q q => h H1 e _ fun p H2 _ e2 hp => q p H2 e2 hp
theorem el_left {E : XK} (hrl : RlG H r w e) (h1 : Ev t1 σ H r) (h2 : Ev t2 σ H (.int sp)) (h3 : Ev t3 σ H (.int fl)) (h4 : Ev t4 σ H (.int rf)) (h5 : EvS t5 σ H (iv told)) (hz : told.length ≤ 1000) (b0 : 0 ≤ fl) (b1 : fl ≤ rf) (b2 : rf ≤ 1000) :
    EvL (tCall (spLeft K) [] E (tCons t1 (tCons t2 (tCons t3 (tCons t4 (tCons t5 tNil)))))) σ H (iv (leftL w e sp fl rf told)) := fun H1 x1 Q q =>
  h1 H1 x1 _ fun H2 x2 => h2 H2 (x1.trans x2) _ fun H3 x3 => h3 H3 ((x1.trans x2).trans x3) _ fun H4 x4 => h4 H4 (((x1.trans x2).trans x3).trans x4) _ fun H5 x5 => h5 H5 ((((x1.trans x2).trans x3).trans x4).trans x5) _ fun p H6 x6 hp =>
    ⟨r, p, w, e, sp, fl, rf, told, rfl, hrl.mono (((((x1.trans x2).trans x3).trans x4).trans x5).trans x6), hp, hz, b0, by omega, by omega, b2, fun l H7 hl x7 h7 => q l H7 (fresh_back ((((x2.trans x3).trans x4).trans x5).trans x6) hl) (((((x2.trans x3).trans x4).trans x5).trans x6).trans x7) h7⟩
theorem ef_lg {C : Addr} {E : L2.St → XK} (hrl : RlG H r w e) (h1 : Ev t1 σ H r) (h2 : Ev t2 σ H (.int sp)) (h3 : Ev t3 σ H (.int fl)) (h4 : Ev t4 σ H (.int rf)) (h5 : EvF t5 σ H (iv told)) (hz : told.length ≤ 1000) (hn : ∀ x ∈ told, 0 ≤ x) (b9 : 0 ≤ sp) (b0 : 0 ≤ fl) (b1 : fl ≤ rf) (b2 : rf ≤ 1000) (b3 : w = .yes → rf ≤ 1) :
    EvF (tCallS (spLG C) E (tCons t1 (tCons t2 (tCons t3 (tCons t4 (tCons t5 tNil)))))) σ H (iv (leftL w e sp fl rf told)) := fun H1 x1 Q q =>
  h1 H1 x1 _ fun H2 x2 => h2 H2 (x1.trans x2) _ fun H3 x3 => h3 H3 ((x1.trans x2).trans x3) _ fun H4 x4 => h4 H4 (((x1.trans x2).trans x3).trans x4) _ fun H5 x5 => h5 H5 ((((x1.trans x2).trans x3).trans x4).trans x5) _ fun p H6 hp0 x6 hp =>
    ⟨r, _, _, _, _, rfl, .inr ⟨w, e, sp, fl, rf, p, told, hrl.mono (((((x1.trans x2).trans x3).trans x4).trans x5).trans x6), rfl, b9, rfl, b0, rfl, b1, b2, b3, rfl, hp, hn, hz, fun l H7 hl x7 h7 => q l H7 (fresh_back ((((x2.trans x3).trans x4).trans x5).trans x6) hl) (((((x2.trans x3).trans x4).trans x5).trans x6).trans x7) h7⟩⟩
theorem ev_ob {C : Addr} {E : L2.St → XK} (hrl : RlG H r w e) (h1 : Ev t1 σ H r) (h2 : Ev t2 σ H (.int c)) (h3 : EvF t3 σ H (iv told)) (hz : told.length ≤ 1000) (hn : ∀ x ∈ told, 0 ≤ x) (b0 : 0 ≤ c) :
    Ev (tCallS (spOff C) E (tCons t1 (tCons t2 (tCons t3 tNil)))) σ H (.int (offN w told c)) := fun H1 x1 Q q =>
  h1 H1 x1 _ fun H2 x2 => h2 H2 (x1.trans x2) _ fun H3 x3 => h3 H3 ((x1.trans x2).trans x3) _ fun p H4 hp0 x4 hp =>
    ⟨r, _, _, rfl, .inr ⟨w, e, c, p, told, hrl.mono (((x1.trans x2).trans x3).trans x4), rfl, b0, rfl, hp, hn, hz, fun H5 x5 => q H5 (((x2.trans x3).trans x4).trans x5)⟩⟩
theorem ev_sameF {ns : List Int} {q : Addr} {E : XK} (h1 : EvF t1 σ H (iv ns)) (h2 : Ev t2 σ H (.ref q)) (hq : SqL K H q (iv ns)) (hz : ns.length ≤ 1000) : Ev (tCall (spSame K) [] E (tCons t1 (tCons t2 tNil))) σ H (.bl true) := fun H1 x1 Q k =>
  h1 H1 x1 _ fun p H2 hp0 x2 hp => h2 H2 (x1.trans x2) _ fun H3 x3 => ⟨p, q, ns, rfl, hp.mono x3, ex_l ((x1.trans x2).trans x3) hq, hz, fun H4 x4 => k H4 ((x2.trans x3).trans x4)⟩
theorem spv_same {p q : Addr} {ns : List Int} (hp : TupN H p (iv ns)) (hq : SqL K H q (iv ns)) (hz : ns.length ≤ 1000) : SpV (spSame K) [.ref p, .ref q] H (.bl true) := fun H1 x Q k _ => ⟨p, q, ns, rfl, hp.mono x, ex_l x hq, hz, k⟩
theorem spv_offL {t : Addr} (hrl : RlG H r w e) (ht : SqL K H t (iv told)) (hz : told.length ≤ 1000) : SpV (spOffL K) [r, .int c, .ref t] H (.int (offN w told c)) := fun H1 x Q k _ => ⟨r, t, w, e, c, told, rfl, hrl.mono x, ex_l x ht, hz, k⟩
theorem spv_is {x : V} {d : Int} (h : Any H x) : SpV spIs [x, .int d] H (.bl (isEq x d)) := fun H1 e Q k _ => ⟨x, d, rfl, h.mono e, k⟩
theorem spv_bound {off : Int} (hrl : RlG H r w e) : SpV spBound [r, .int sp, .int off] H (.int (bnd w e sp off)) := fun H1 x Q k _ => ⟨r, w, e, sp, off, rfl, hrl.mono x, k⟩
theorem left_len (w : Wd) (e sp fl rf : Int) (told : List Int) : (leftL w e sp fl rf told).length ≤ (rf + 1 - fl).toNat := by
  unfold leftL
  rw [List.length_map]
  have := List.length_filter_le (fun (i : Nat) => leftB w e sp told (fl + (i : Int))) (List.range (rf + 1 - fl).toNat)
  rw [List.length_range] at this
  exact this
theorem cut_take (ns : List Int) {k : Nat} (h : k ≤ ns.length) : cutV (iv ns) none (some (k : Int)) = iv (ns.take k) := by
  unfold cutV
  have h1 : HT.sIx (iv ns).length 0 none = 0 := rfl
  have h2 : HT.sIx (iv ns).length (iv ns).length (some (k : Int)) = k := by
    unfold HT.sIx
    rw [iv_len]
    show (_ : Nat) = k
    dsimp only
    first
      | omega
      | (split <;> omega)
      | (simp; omega)
  rw [h1, h2]
  unfold iv
  rw [List.drop_zero, Nat.sub_zero, List.map_take]
end
end K27
/-! ## P9 -/
set_option Elab.async false
set_option linter.all false
set_option maxRecDepth 100000
set_option maxHeartbeats 4000000
namespace K27
open PySem L2 Evl
abbrev s__law_stream : Stmt := top 27
abbrev N__law_stream : List Str := ["_law_feed_here", "_law_words_here", "_law_spare", "_law_floor", "_law_roof", "_law_main", "_law_told", "_law_k", "_law_left_here", "_law_worth"]
theorem sc__law_stream : FnScope N__law_stream ["_law_feed_here", "_law_words_here", "_law_spare", "_law_floor", "_law_roof"] (defScope s__law_stream) := ⟨rfl, rfl, rfl, by decide +kernel, rfl, by decide +kernel, by decide +kernel⟩
def spStream : Sp := fun vs H Q _ => ∃ (G : Hp) (b : Addr) (r : V) (w : Wd) (e sp fl rf : Int), vs = [.ref b, r, .int sp, .int fl, .int rf] ∧ FG G H b ∧ RlG G r w e ∧ 0 ≤ fl ∧ fl ≤ rf ∧ rf ≤ 9 ∧ (w = .yes → rf ≤ 1) ∧
  ∀ (t : Addr) (told : List Int) H', G t = none → Ok w e sp fl rf told → told.length ≤ 40 → FG (upd G t (.lst (iv told))) H' b → Q (.ref t) H'
abbrev s__law_walk : Stmt := top 32
abbrev N__law_walk : List Str := ["_law_words_here", "_law_spare", "_law_floor", "_law_roof", "_law_told", "_law_k", "_law_due", "_law_ended", "_law_off_here"]
theorem sc__law_walk : FnScope N__law_walk ["_law_words_here", "_law_spare", "_law_floor", "_law_roof", "_law_told"] (defScope s__law_walk) := ⟨rfl, rfl, rfl, by decide +kernel, rfl, by decide +kernel, by decide +kernel⟩
def spWalk : Sp := fun vs H Q _ => ∃ (r : V) (t : Addr) (w : Wd) (e sp fl rf : Int) (told : List Int), vs = [r, .int sp, .int fl, .int rf, .ref t] ∧ RlG H r w e ∧ H t = some (.lst (iv told)) ∧ told.length ≤ 40 ∧ Ok w e sp fl rf told ∧ 0 ≤ sp ∧ 0 ≤ fl ∧ fl ≤ rf ∧ rf ≤ 9 ∧ (w = .yes → rf ≤ 1) ∧ RetV (.bl true) H Q
section
variable {P : Program} {w : World} {K : PySem.W.Frag} {mg : Str → Option Value} {base : Heap}
theorem ok_stream {f : Addr} {fd : FuncData} (F : Fun K "_law_stream" "_law_stream" s__law_stream f fd) (T : Txt mg) (D__law_take : Dn P w K mg base CX0 1 "_law_take" ["_law_feed_here", "_law_many"] spTake)
    (D__law_left : Dn P w K mg base CX0 1 "_law_left" ["_law_words_here", "_law_spare", "_law_floor", "_law_roof", "_law_told"] (spLeft K)) (D__law_stray : Dn P w K mg base CX0 2 "_law_stray" ["_law_feed_here", "_law_words_here", "_law_floor", "_law_roof", "_law_main"] spStray) :
    FnOk P w K mg base CX0 3 f fd ["_law_feed_here", "_law_words_here", "_law_spare", "_law_floor", "_law_roof"] spStream := by
  refine F.ok sc__law_stream (fun vs H Q E h => ?_) (fun cdv A outer s H vs Q E hr h => ?_)
  · obtain ⟨_, _, _, _, _, _, _, _, rfl, _⟩ := h
    rfl
  · obtain ⟨G, b, r, wd, e, sp, fl, rf, rfl, fg, hrl, h0, h1, h2, hy, k⟩ := h
    refine ⟨_, (pss_cons (ps_set (i := 5) sc__law_stream.nd rfl (Or.inl rfl) (pe_op op_add (pv 3) (pe_call D__law_take.ok (hr.mono (by decide)) (by rfl) D__law_take.g D__law_take.kp D__law_take.b .nil pass0 (pa_cons (pv 0) (pa_cons (pe_op op_add (pe_op op_sub (pv 4) (pv 3)) pe_int) pa_nil)))))
    (pss_cons (ps_set (i := 6) sc__law_stream.nd rfl (Or.inl rfl) (pe_lst pa_nil))
    (pss_cons (ps_for PassesOwn.never rfl (pi_range1 (by rfl) T.range (pa_cons pe_int pa_nil)) (pg_name (i := 7) sc__law_stream.nd rfl (Or.inl rfl))
       (pss_cons (ps_set (i := 8) sc__law_stream.nd rfl (Or.inl rfl) (pe_call D__law_left.ok (hr.mono (by decide)) (by rfl) D__law_left.g D__law_left.kp D__law_left.b .nil pass0 (pa_cons (pv 1) (pa_cons (pv 2) (pa_cons (pv 3) (pa_cons (pv 4) (pa_cons (pv 6) pa_nil)))))))
      (pss_cons (ps_if (pt_cmpR op_lt (pe_callB (cLen K) (by rfl) T.len PySem.boot_len (pa_cons (pv 8) pa_nil)) pe_int (nomark _))
         (pss_one ps_break)
         pss_nil)
      (pss_cons (ps_set (i := 9) sc__law_stream.nd rfl (Or.inl rfl) (pe_call D__law_stray.ok (hr.mono (by decide)) (by rfl) D__law_stray.g D__law_stray.kp D__law_stray.b .nil pass0 (pa_cons (pv 0) (pa_cons (pv 1) (pa_cons (pv 3) (pa_cons (pv 4) (pa_cons (pv 5) pa_nil)))))))
      (Evl.pss_cut (ps_if (pt_cmpR op_eq (pe_callB (cLen K) (by rfl) T.len PySem.boot_len (pa_cons (pe_call D__law_left.ok (hr.mono (by decide)) (by rfl) D__law_left.g D__law_left.kp D__law_left.b .nil pass0 (pa_cons (pv 1) (pa_cons (pv 2) (pa_cons (pv 3) (pa_cons (pv 4) (pa_cons (pe_op op_cat (pv 6) (pe_lst (pa_cons (pv 9) pa_nil))) pa_nil)))))) pa_nil)) pe_int (nomark _))
         (pss_one (ps_set (i := 9) sc__law_stream.nd rfl (Or.inl rfl) (pe_ix (iL K) (pv 8) (pe_call D__law_take.ok (hr.mono (by decide)) (by rfl) D__law_take.g D__law_take.kp D__law_take.b .nil pass0 (pa_cons (pv 0) (pa_cons (pe_callB (cLen K) (by rfl) T.len PySem.boot_len (pa_cons (pv 8) pa_nil)) pa_nil))) (fun _ _ => rfl))))
         pss_nil)
      (pss_one (ps_expr (pe_bmK K PySem.F.plainAttrs_list PySem.F.slot_list_append PySem.F.type_list_append mt_append (pv 6) (pa_cons (pv 9) pa_nil)))))))))
    (pss_one (ps_ret (pv 6)))))), ?_⟩
    -- main = floor + take(feed, roof - floor + 1)
    refine ⟨_, rfl, t_take (m := rf - fl + 1) (ev_var (i := 0) rfl) (ev_op (ev_op (ev_var rfl) (ev_var rfl) rv_I0) ev_c rv_I0) fg (by omega) fun v H1 v0 v1 f1 => ⟨_, _, rfl, rfl, ?_⟩⟩
    dsimp only [gName]
    obtain ⟨mn, hmn⟩ : ∃ mn : Int, mn = fl + v := ⟨_, rfl⟩
    rw [← hmn]
    refine q_asgL (xs := []) (el_lst ea_nil (by decide)) fun t H2 ht e2 ht2 => ?_
    have f2 : FG (upd G t (.lst (iv []))) H2 b := (f1.grow e2).hold (f1.fresh ht) ht2
    have hG : G t = none := fresh_back f1.ex ht
    have htb : t ≠ b := f1.fresh ht
    let M : Nat → L2.St → Hp → Prop := fun i σ H' => ∃ (told : List Int) (v7 v8 v9 : Option V), σ = [some (.ref b), some r, some (.int sp), some (.int fl), some (.int rf), some (.int mn), some (.ref t), v7, v8, v9] ∧ Ok wd e sp fl rf told ∧ told.length ≤ i ∧ FG (upd G t (.lst (iv told))) H' b
    refine q_forR1 (n := 40) (ea_cons ev_c ea_nil) (by decide) M (fun H3 e3 => ⟨[], none, none, none, rfl, Ok.nil, by simp, f2.grow e3⟩) ?_ ?_
    · rintro i σ H3 hi ⟨told, v7, v8, v9, rfl, ok, hl, fg3⟩
      have hrl' : RlG (upd G t (.lst (iv told))) r wd e := hrl.mono (Ex.new hG)
      have hrl3 := hrl'.at fg3
      have ht3 : H3 t = some (.lst (iv told)) := fg3.ex _ _ upd_same
      refine q_asgL (el_left hrl3 (ev_var rfl) (ev_var rfl) (ev_var rfl) (ev_var rfl) (es_var (ev_var rfl) ht3) (by omega) h0 h1 (by omega)) fun l H4 hl4 e4 h4 => ?_
      have hlen := left_len wd e sp fl rf told
      refine q_if (b := decide ((leftL wd e sp fl rf told).length < 2)) (et_is (et_test (ev_op (ev_len (ev_var rfl) (sq_of h4)) ev_c rv_I0)) (decide_eq_decide.mpr (by rw [iv_len]; omega))) (fun _ H5 e5 => ?_) fun h2L H5 e5 => ?_
      · exact s_ret (ev_var rfl) fun H6 e6 => k t told H6 hG ok (by omega) (fg3.grow ((e4.trans e5).trans e6))
      · have h2L : 2 ≤ (leftL wd e sp fl rf told).length := by have := of_decide_eq_false h2L; omega
        have fg4 : FG (upd (upd G t (.lst (iv told))) l (.lst (iv (leftL wd e sp fl rf told)))) H5 b := ((fg3.grow e4).hold (fg3.fresh hl4) h4).grow e5
        have hGl : (upd G t (.lst (iv told))) l = none := fresh_back fg3.ex hl4
        have mn0 : 0 ≤ mn := by omega
        -- worth = stray(..)
        refine ⟨_, rfl, _, rfl, _, rfl, _, rfl, _, rfl, _, b, r, wd, e, fl, rf, mn, rfl, fg4, hrl'.mono (Ex.new hGl), h0, h1, by omega, mn0, fun x H6 x0 x1 fg6 => ?_⟩
        dsimp only [gName]
        let M2 : L2.St → Hp → Prop := fun σ H7 => ∃ (y : Int), σ = [some (.ref b), some r, some (.int sp), some (.int fl), some (.int rf), some (.int mn), some (.ref t), some (.int ((i : Nat) : Int)), some (.ref l), some (.int y)] ∧ 0 ≤ y ∧ (wd = .yes → y ≤ 1) ∧ FG (upd G t (.lst (iv told))) H7 b
        have less : ∀ {H7}, FG (upd (upd G t (.lst (iv told))) l (.lst (iv (leftL wd e sp fl rf told)))) H7 b → FG (upd G t (.lst (iv told))) H7 b := fun z => z.less (Ex.new hGl)
        refine q_cut (M := M2) ?_ ?_
        · have ht6 : H6 t = some (.lst (iv told)) := (less fg6).ex _ _ upd_same
          refine s_when (b := decide ((leftL wd e sp fl rf (told ++ [x])).length = 0)) (et_is (et_test (ev_op (ev_lenN (el_left (told := told ++ [x]) (hrl'.at (less fg6)) (ev_var rfl) (ev_var rfl) (ev_var rfl) (ev_var rfl) (es_new (el_is (xs := iv told ++ [.int x]) (el_catL (ev_var rfl) ht6 (el_lst (ea_cons (ev_var rfl) ea_nil) (by show 1 ≤ _; decide)) (by rw [iv_len]; simp; omega)) (by unfold iv; simp))) (by simp; omega) h0 h1 (by omega))) ev_c rv_eqI)) (decide_eq_decide.mpr (by rw [iv_len]; omega))) (fun _ H7 e7 => ?_) fun _ H7 e7 => ?_
          · have fg7 := fg6.grow e7
            have hl7 : H7 l = some (.lst (iv (leftL wd e sp fl rf told))) := fg7.ex _ _ upd_same
            refine t_at (vs := iv (leftL wd e sp fl rf told)) (m := ((leftL wd e sp fl rf told).length : Int)) (ev_var (i := 8) rfl) upd_same (fun _ _ => ev_var (i := 0) rfl) fg7 (fun H8 e8 => ev_is (ev_len (ev_var (i := 8) rfl) (sq_of (e8 _ _ hl7))) (by rw [iv_len])) (by rw [iv_len]) (by rw [iv_len]; omega) (by rw [iv_len]; omega) fun y H8 hy8 fg8 => ?_
            obtain ⟨g, hg, rfl⟩ := List.mem_map.mp hy8
            obtain ⟨g1, g2, _⟩ := left_mem.mp hg
            exact ⟨g, rfl, by omega, fun q => by have := hy q; omega, less fg8⟩
          · refine ⟨x, rfl, x0, fun q => x1 q ?_ (hy q), less (fg6.grow e7)⟩
            have := hy q
            omega
        · rintro σ H7 ⟨y, rfl, y0, y1, fg7⟩
          have ht7 : H7 t = some (.lst (iv told)) := fg7.ex _ _ upd_same
          refine s_app ht7 (ev_var rfl) (ev_var rfl) (by rw [iv_len]; omega) fun H8 e8 => ?_
          have fg8 : FG G H8 b := (fg7.grow e8).less (Ex.new hG)
          have fg9 := (fg8.put (o := .lst (iv told ++ [.int y])) htb hG).hold htb upd_same
          have eo : iv told ++ [V.int y] = iv (told ++ [y]) := by unfold iv; simp
          rw [eo] at fg9
          refine ⟨told ++ [y], _, _, _, rfl, ok.snoc h2L y0 y1, by simp; omega, ?_⟩
          rw [eo]
          exact fg9
    · rintro σ H3 ⟨told, v7, v8, v9, rfl, ok, hl, fg3⟩
      exact s_ret (ev_var rfl) fun H6 e6 => k t told H6 hG ok hl (fg3.grow e6)
theorem ok_walk {f C : Addr} {fd : FuncData} (F : Fun K "_law_walk" "_law_walk" s__law_walk f fd) (T : Txt mg) (D__law_left : Dn P w K mg base CX0 1 "_law_left" ["_law_words_here", "_law_spare", "_law_floor", "_law_roof", "_law_told"] (spLeft K))
    (D__law_same : Dn P w K mg base CX0 2 "_law_same" ["_law_thing", "_law_due"] (spSame K)) (D_left_grades : Dn P w K mg base (L2N.CX P w) 6 "left_grades" ["rule", "still", "least", "most", "grades"] (spLG C)) (D_off_by : Dn P w K mg base (L2N.CX P w) 6 "off_by" ["rule", "settled", "grades"] (spOff C))
    (D__law_is : Dn P w K mg base CX0 1 "_law_is" ["_law_thing", "_law_due"] spIs) (D__law_off : Dn P w K mg base CX0 1 "_law_off" ["_law_words_here", "_law_settled_at", "_law_told"] (spOffL K)) (D__law_bound : Dn P w K mg base CX0 1 "_law_bound" ["_law_words_here", "_law_spare", "_law_off_here"] spBound) :
    FnOk P w K mg base CX0 7 f fd ["_law_words_here", "_law_spare", "_law_floor", "_law_roof", "_law_told"] spWalk := by
  refine F.ok sc__law_walk (fun vs H Q E h => ?_) (fun cdv A outer s H vs Q E hr h => ?_)
  · obtain ⟨_, _, _, _, _, _, _, _, rfl, _⟩ := h
    rfl
  · obtain ⟨r, t, wd, e, sp, fl, rf, told, rfl, hrl, ht, hz, ok, hsp, h0, h1, h2, hy, k⟩ := h
    refine ⟨_, (pss_cons (ps_for PassesOwn.never rfl (pi_range1 (by rfl) T.range (pa_cons (pe_op op_add (pe_callB (cLen K) (by rfl) T.len PySem.boot_len (pa_cons (pv 4) pa_nil)) pe_int) pa_nil)) (pg_name (i := 5) sc__law_walk.nd rfl (Or.inl rfl))
       (pss_cons (ps_set (i := 6) sc__law_walk.nd rfl (Or.inl rfl) (pe_call D__law_left.ok (hr.mono (by decide)) (by rfl) D__law_left.g D__law_left.kp D__law_left.b .nil pass0 (pa_cons (pv 0) (pa_cons (pv 1) (pa_cons (pv 2) (pa_cons (pv 3) (pa_cons (pe_slice (slL K) (pv 4) po_none (po_some (pv 5))) pa_nil)))))))
      (pss_one (ps_if (pt_not (pt_val (pe_call D__law_same.ok (hr.mono (by decide)) (by rfl) D__law_same.g D__law_same.kp D__law_same.b .nil pass0 (pa_cons (pe_callS D_left_grades.ok (hr.mono (by decide)) (by rfl) D_left_grades.g D_left_grades.kp D_left_grades.b (fun σ => L2N.passAt takes0N σ) (pa_cons (pv 0) (pa_cons (pv 1) (pa_cons (pv 2) (pa_cons (pv 3) (pa_cons (pe_callTy (cTupF K) (by rfl) T.tuple (by decide +kernel) (pa_cons (pe_slice (slL K) (pv 4) po_none (po_some (pv 5))) pa_nil)) pa_nil)))))) (pa_cons (pv 6) pa_nil)))))
         (pss_one (ps_ret pe_bl))
         pss_nil))))
    (pss_cons (ps_set (i := 7) sc__law_walk.nd rfl (Or.inl rfl) (pe_callS D_left_grades.ok (hr.mono (by decide)) (by rfl) D_left_grades.g D_left_grades.kp D_left_grades.b (fun σ => L2N.passAt takes0N σ) (pa_cons (pv 0) (pa_cons (pv 1) (pa_cons (pv 2) (pa_cons (pv 3) (pa_cons (pe_callTy (cTupF K) (by rfl) T.tuple (by decide +kernel) (pa_cons (pv 4) pa_nil)) pa_nil)))))))
    (pss_cons (ps_if (PW.pt (pw_and (pt_cmpR op_eq (pe_callB (cLen K) (by rfl) T.len PySem.boot_len (pa_cons (pv 7) pa_nil)) pe_int (nomark _)) (pw_and1 (pt_cmpR op_gt (pe_callB (cLen K) (by rfl) T.len PySem.boot_len (pa_cons (pv 4) pa_nil)) pe_int (nomark _)))))
       (pss_cons (ps_set (i := 8) sc__law_walk.nd rfl (Or.inl rfl) (pe_callS D_off_by.ok (hr.mono (by decide)) (by rfl) D_off_by.g D_off_by.kp D_off_by.b (fun σ => L2N.passAt takes0N σ) (pa_cons (pv 0) (pa_cons (pe_ix (iT K) (pv 7) pe_int (fun _ _ => rfl)) (pa_cons (pe_callTy (cTupF K) (by rfl) T.tuple (by decide +kernel) (pa_cons (pv 4) pa_nil)) pa_nil)))))
      (pss_cons (ps_if (PW.pt (pw_or (pt_not (pt_val (pe_call D__law_is.ok (hr.mono (by decide)) (by rfl) D__law_is.g D__law_is.kp D__law_is.b .nil pass0 (pa_cons (pv 8) (pa_cons (pe_call D__law_off.ok (hr.mono (by decide)) (by rfl) D__law_off.g D__law_off.kp D__law_off.b .nil pass0 (pa_cons (pv 0) (pa_cons (pe_ix (iT K) (pv 7) pe_int (fun _ _ => rfl)) (pa_cons (pv 4) pa_nil)))) pa_nil))))) (pw_or1 (PW.pt (pw_and (pt_cmpR (oIn K) (pe_ix (iT K) (pv 0) pe_int (fun _ _ => rfl)) (pe_tup (pa_cons pe_str (pa_cons pe_str pa_nil))) (by with_unfolding_all rfl)) (pw_and1 (pt_cmpR op_gt (pv 8) (pv 1) (nomark _))))))))
         (pss_one (ps_ret pe_bl))
         pss_nil)
      (pss_one (ps_ret (pe_cmpR op_le (pe_callB (cLen K) (by rfl) T.len PySem.boot_len (pa_cons (pv 4) pa_nil)) (pe_call D__law_bound.ok (hr.mono (by decide)) (by rfl) D__law_bound.g D__law_bound.kp D__law_bound.b .nil pass0 (pa_cons (pv 0) (pa_cons (pv 1) (pa_cons (pv 8) pa_nil)))) (nomark _))))))
       pss_nil)
    (pss_one (ps_ret pe_bl))))), ?_⟩
    have hts : ∀ {H'}, Ex H H' → H' t = some (.lst (iv told)) := fun x => x _ _ ht
    let M : Nat → L2.St → Hp → Prop := fun i σ H' => ∃ (v5 v6 : Option V), σ = [some r, some (.int sp), some (.int fl), some (.int rf), some (.ref t), v5, v6, none, none] ∧ Ex H H'
    refine q_forR1 (n := (told.length : Int) + 1) (ea_cons (ev_is (ev_op (ev_len (ev_var rfl) (sq_of ht)) ev_c rv_I0) (by rw [iv_len])) ea_nil) ⟨by omega, by omega⟩ M (fun H1 e1 => ⟨none, none, rfl, e1⟩) ?_ ?_
    · rintro i σ H1 hi ⟨v5, v6, rfl, e1⟩
      have hi2 : i ≤ told.length := by omega
      have hk : (told.take i).length ≤ 1000 := by rw [List.length_take]; omega
      refine q_asgL (el_left (K := K) (told := told.take i) (hrl.mono e1) (ev_var rfl) (ev_var rfl) (ev_var rfl) (ev_var rfl) (es_new (el_is (el_sl (ev_var rfl) eo_none (eo_some (ev_var rfl)) (sq_of (hts e1))) (cut_take told hi2))) hk h0 h1 (by omega)) fun l H2 hl e2 hl2 => ?_
      have e12 := e1.trans e2
      have hlen := left_len wd e sp fl rf (told.take i)
      refine s_when (b := false) (et_is (et_not (et_B (ev_sameF (ef_lg (told := told.take i) (hrl.mono e12) (ev_var rfl) (ev_var rfl) (ev_var rfl) (ev_var rfl) (ef_listN (el_is (el_sl (ev_var rfl) eo_none (eo_some (ev_var rfl)) (sq_of (hts e12))) (cut_take told hi2))) hk (fun y hy => ok.nn y (List.mem_of_mem_take hy)) hsp h0 h1 (by omega) hy) (ev_var rfl) (sq_of hl2) (by omega)))) rfl) (fun q => Bool.noConfusion q) fun _ H3 e3 => ⟨_, _, rfl, e12.trans e3⟩
    · rintro σ H1 ⟨v5, v6, rfl, e1⟩
      refine q_asgF (ef_lg (told := told) (hrl.mono e1) (ev_var rfl) (ev_var rfl) (ev_var rfl) (ev_var rfl) (ef_list (K := K) (ev_var rfl) (sq_of (hts e1))) (by omega) ok.nn hsp h0 h1 (by omega) hy) fun p H2 hp e2 hp2 => ?_
      have e12 := e1.trans e2
      refine q_when (b := decide ((leftL wd e sp fl rf told).length = 1) && decide (0 < told.length)) (et_is (et_and (et_test (ev_op (ev_lenT (ev_var rfl) hp2.sq) ev_c rv_eqI)) fun _ => et_test (ev_op (ev_len (ev_var rfl) (sq_of (hts e12))) ev_c rv_I0)) ?_) (fun hb H3 e3 => ?_) fun _ H3 e3 => s_ret ev_c fun H4 e4 => k H4 ((e12.trans e3).trans e4)
      · rw [iv_len, iv_len]
        congr 1
        · exact decide_eq_decide.mpr (by omega)
        · exact decide_eq_decide.mpr (by omega)
      · obtain ⟨q1, q2⟩ := Bool.and_eq_true_iff.mp hb
        have q1 := of_decide_eq_true q1
        have q2 := of_decide_eq_true q2
        obtain ⟨c, hc⟩ := List.length_eq_one_iff.mp q1
        have hcm : c ∈ leftL wd e sp fl rf told := by rw [hc]; simp
        obtain ⟨c1, c2, c3⟩ := left_mem.mp hcm
        have e13 := e12.trans e3
        have hp3 := hp2.mono e3
        have hat : atI (iv (leftL wd e sp fl rf told)) 0 = some (.int c) := by rw [hc]; exact atI_nat (j := 0) rfl
        obtain ⟨hb1, hb2⟩ := bound_ok ok h0 hsp hy (by intro q; rw [q] at q2; simp at q2) hcm
        refine q_asg (v := .int (offN wd told c)) (ev_ob (told := told) (hrl.mono e13) (ev_var rfl) (ev_ixT (ev_var rfl) ev_c hp3.sq hat) (ef_list (K := K) (ev_var rfl) (sq_of (hts e13))) (by omega) ok.nn (by omega)) fun H4 e4 => ?_
        have e14 := e13.trans e4
        have hp4 := hp3.mono e4
        obtain ⟨rp, rfl, hrp, he⟩ := hrl.mono e14
        refine q_when (b := false) (et_is (et_or (et_not (et_B (ev_call (ea_cons (ev_var rfl) (ea_cons (ev_call (ea_cons (ev_var rfl) (ea_cons (ev_ixT (ev_var rfl) ev_c hp4.sq hat) (ea_cons (ev_var rfl) ea_nil))) (spv_offL (w := wd) (e := e) (c := c) (told := told) ⟨rp, rfl, hrp, he⟩ (sq_of (hts e14)) (by omega))) ea_nil)) (spv_is (.int _))))) fun _ =>
          et_and (et_test (ev_inU (ev_ixT (ev_var rfl) ev_c (st_of hrp) (atI_nat (j := 0) rfl)) (eu_tup (ea_cons ev_c (ea_cons ev_c ea_nil)) (by show 2 ≤ _; decide)) rfl rfl)) fun _ => et_test (ev_op (ev_var rfl) (ev_var rfl) rv_I0)) ?_) (fun q => Bool.noConfusion q) fun _ H5 e5 => ?_
        · have z1 : isEq (.int (offN wd told c)) (offN wd told c) = true := decide_eq_true rfl
          rw [z1]
          show (false || (inV (.str wd.s) [.str "all", .str "yes"] && decide (sp < offN wd told c))) = false
          cases wd with
          | all => rw [decide_eq_false (by have := hb2 (.inl rfl); omega)]; decide
          | yes => rw [decide_eq_false (by have := hb2 (.inr rfl); omega)]; decide
          | each => rfl
          | low => rfl
        · have e15 := e14.trans e5
          refine s_ret (v := .bl true) (ev_is (ev_op (ev_len (ev_var rfl) (sq_of (hts e15))) (ev_call (ea_cons (ev_var rfl) (ea_cons (ev_var rfl) (ea_cons (ev_var rfl) ea_nil))) (spv_bound (w := wd) (e := e) ⟨rp, rfl, e5 _ _ hrp, he⟩)) rv_I0) ?_) fun H6 e6 => k H6 (e15.trans e6)
          rw [iv_len]
          exact congrArg V.bl (decide_eq_true hb1)
end
end K27
/-! ## P10 -/
set_option Elab.async false
set_option linter.all false
set_option maxRecDepth 100000
set_option maxHeartbeats 4000000
namespace K27
open PySem L2 Evl
/-! ### calls by keywords alone, in another sequence -/
def perm5 {α : Type} : List α → List α
  | [a, b, c, d, e] => [e, c, d, b, a]
  | l => l
theorem perm5_rel : ∀ {zs : List V} {ws : List Value}, Vals zs ws → Vals (perm5 zs) (perm5 ws)
  | _, _, .nil => .nil
  | _, _, .cons a .nil => .cons a .nil
  | _, _, .cons a (.cons b .nil) => .cons a (.cons b .nil)
  | _, _, .cons a (.cons b (.cons c .nil)) => .cons a (.cons b (.cons c .nil))
  | _, _, .cons a (.cons b (.cons c (.cons d .nil))) => .cons a (.cons b (.cons c (.cons d .nil)))
  | _, _, .cons a (.cons b (.cons c (.cons d (.cons e .nil)))) => .cons e (.cons c (.cons d (.cons b (.cons a .nil))))
  | _, _, .cons a (.cons b (.cons c (.cons d (.cons e (.cons f r))))) => .cons a (.cons b (.cons c (.cons d (.cons e (.cons f r)))))
abbrev ksLG : List Str := ["grades", "most", "still", "least", "rule"]
abbrev ksOB : List Str := ["grades", "settled", "rule"]
theorem kb5 {K : PySem.W.Frag} {x qual : Str} {st : Stmt} {f : Addr} {fd : FuncData} {ps ks : List Str} (F : Fun K x qual st f fd)
    (h : ∀ (kV doc pm : Value) (an : Option Addr) (cdv ct : Value) (ws : List Value), ws.length = ks.length → bindArgs (PySem.W.fnOf x qual (defArgs st) (defBody st) (defScope st) .none kV doc pm an cdv ct) ⟨[], ks.zip ws⟩ = pure (ps.zip (perm5 ws))) :
    KBn K fd ps 0 ks (fun _ ws => perm5 ws) (fun _ zs => perm5 zs) := by
  obtain ⟨c1, c2, c3, c4, c5, c6, c7, c8, c9, rfl, a1, a2⟩ := F.ex
  refine ⟨fun s us ws _ hu hw => ?_, fun _ r => perm5_rel r⟩
  have e0 : us = [] := List.length_eq_zero_iff.mp hu
  subst e0
  exact .of_eq (h c3 c4 c5 c6 c7 c8 ws hw)
theorem kbR {K : PySem.W.Frag} {x qual : Str} {st : Stmt} {f : Addr} {fd : FuncData} {ps ks : List Str} (F : Fun K x qual st f fd)
    (h : ∀ (kV doc pm : Value) (an : Option Addr) (cdv ct : Value) (ws : List Value), ws.length = ks.length → bindArgs (PySem.W.fnOf x qual (defArgs st) (defBody st) (defScope st) .none kV doc pm an cdv ct) ⟨[], ks.zip ws⟩ = pure (ps.zip ws.reverse)) :
    KBn K fd ps 0 ks (fun _ ws => ws.reverse) (fun _ zs => zs.reverse) := by
  obtain ⟨c1, c2, c3, c4, c5, c6, c7, c8, c9, rfl, a1, a2⟩ := F.ex
  refine ⟨fun s us ws _ hu hw => ?_, fun _ r => r.reverse⟩
  have e0 : us = [] := List.length_eq_zero_iff.mp hu
  subst e0
  exact .of_eq (h c3 c4 c5 c6 c7 c8 ws hw)
section
variable {K : PySem.W.Frag} {σ : L2.St} {G H : Hp} {b : Addr} {t1 t2 t3 t4 t5 : TE} {r : V} {w : Wd} {e sp fl rf c : Int} {told : List Int}
theorem ef_lgK {C : Addr} {E : L2.St → XK} (hrl : RlG H r w e) (h1 : EvF t1 σ H (iv told)) (h2 : Ev t2 σ H (.int rf)) (h3 : Ev t3 σ H (.int sp)) (h4 : Ev t4 σ H (.int fl)) (h5 : Ev t5 σ H r) (hz : told.length ≤ 1000) (hn : ∀ x ∈ told, 0 ≤ x) (b9 : 0 ≤ sp) (b0 : 0 ≤ fl) (b1 : fl ≤ rf) (b2 : rf ≤ 1000) (b3 : w = .yes → rf ≤ 1) :
    EvF (tCallNS 0 5 (spLG C) (fun _ zs => perm5 zs) E tNil (tCons t1 (tCons t2 (tCons t3 (tCons t4 (tCons t5 tNil)))))) σ H (iv (leftL w e sp fl rf told)) := fun H1 x1 Q q =>
  h1 H1 x1 _ fun p H2 hp0 x2 hp => h2 H2 (x1.trans x2) _ fun H3 x3 => h3 H3 ((x1.trans x2).trans x3) _ fun H4 x4 => h4 H4 (((x1.trans x2).trans x3).trans x4) _ fun H5 x5 => h5 H5 ((((x1.trans x2).trans x3).trans x4).trans x5) _ fun H6 x6 =>
    ⟨rfl, rfl, r, _, _, _, _, rfl, .inr ⟨w, e, sp, fl, rf, p, told, hrl.mono (((((x1.trans x2).trans x3).trans x4).trans x5).trans x6), rfl, b9, rfl, b0, rfl, b1, b2, b3, rfl, hp.mono (((x3.trans x4).trans x5).trans x6), hn, hz, fun l H7 hl x7 h7 => q l H7 (fresh_back ((((x2.trans x3).trans x4).trans x5).trans x6) hl) (((((x2.trans x3).trans x4).trans x5).trans x6).trans x7) h7⟩⟩
theorem ev_obK {C : Addr} {E : L2.St → XK} (hrl : RlG H r w e) (h1 : EvF t1 σ H (iv told)) (h2 : Ev t2 σ H (.int c)) (h3 : Ev t3 σ H r) (hz : told.length ≤ 1000) (hn : ∀ x ∈ told, 0 ≤ x) (b0 : 0 ≤ c) :
    Ev (tCallNS 0 3 (spOff C) (fun _ zs => zs.reverse) E tNil (tCons t1 (tCons t2 (tCons t3 tNil)))) σ H (.int (offN w told c)) := fun H1 x1 Q q =>
  h1 H1 x1 _ fun p H2 hp0 x2 hp => h2 H2 (x1.trans x2) _ fun H3 x3 => h3 H3 ((x1.trans x2).trans x3) _ fun H4 x4 =>
    ⟨rfl, rfl, r, _, _, rfl, .inr ⟨w, e, c, p, told, hrl.mono (((x1.trans x2).trans x3).trans x4), rfl, b0, rfl, hp.mono (x3.trans x4), hn, hz, fun H5 x5 => q H5 (((x2.trans x3).trans x4).trans x5)⟩⟩
/-- a list made with takes, at a place drawn -/
theorem t_pickR {E : XK} {Q : VK} {ta : TA} {n : Nat} {m : Int} {A : Int → Prop} (ha : ∀ Q' : List V → Hp → Prop, (∀ ns H', ns.length = n → (∀ x ∈ ns, A x) → FG G H' b → Q' (iv ns) H') → ta σ H Q') (h1 : ∀ H1, Ev t1 σ H1 (.ref b)) (hm : m = (n : Int)) (hn : 1 ≤ n) (hz : n ≤ 1000)
    (q : ∀ x H', A x → FG G H' b → Q (.int x) H') : tOp (rIxL K) (tLst ta) (tCall spTake [] E (tCons t1 (tCons (tC (.int m)) tNil))) σ H Q :=
  ha _ fun ns H1 hl hA fg => ⟨sz_of (by rw [iv_len]; omega), fun l hl0 => by
    have f1 := fg.both (o := .lst (iv ns)) hl0
    have hG : G l = none := fresh_back fg.ex hl0
    refine t_take (h1 _) ev_c f1 (by omega) fun v H' v0 v1 f2 => ?_
    obtain ⟨j, rfl⟩ : ∃ j : Nat, v = (j : Int) := ⟨v.toNat, by omega⟩
    have hj : j < ns.length := by omega
    refine ⟨l, _, (j : Int), .int ns[j], rfl, rfl, sq_of (f2.ex _ _ upd_same), atI_nat (by rw [List.getElem?_map, List.getElem?_eq_getElem hj]; rfl), ?_⟩
    exact q _ _ (hA _ (List.getElem_mem hj)) (f2.less (Ex.new hG))⟩
end
theorem offN_nil (w : Wd) (c : Int) : offN w [] c = 0 := by cases w <;> rfl
theorem given_rep (n : Nat) (m : Int) : given n (fun _ => true) (fun _ => .int m) = iv (List.replicate n m) := by
  unfold given iv
  rw [List.filter_eq_self.mpr (by simp)]
  apply List.ext_getElem?
  intro i
  rw [List.getElem?_map, List.getElem?_map, List.getElem?_replicate]
  by_cases c : i < n
  · rw [List.getElem?_range c, if_pos c]
    rfl
  · rw [List.getElem?_eq_none (by simp; omega), if_neg c]
    rfl
abbrev s__law_rows : Stmt := top 33
abbrev N__law_rows : List Str := ["_law_feed_here", "_law_words_here", "_law_spare", "_law_floor", "_law_roof", "_law_many", "_law_main", "_law_told", "_law_k", "_law_due", "_law_got", "_law_other"]
theorem sc__law_rows : FnScope N__law_rows ["_law_feed_here", "_law_words_here", "_law_spare", "_law_floor", "_law_roof"] (defScope s__law_rows) := ⟨rfl, rfl, rfl, by decide +kernel, rfl, by decide +kernel, by decide +kernel⟩
def spRows : Sp := fun vs H Q _ => ∃ (G : Hp) (b : Addr) (r : V) (w : Wd) (e sp fl rf : Int), vs = [.ref b, r, .int sp, .int fl, .int rf] ∧ FG G H b ∧ RlG G r w e ∧ 0 ≤ sp ∧ 0 ≤ fl ∧ fl ≤ rf ∧ rf ≤ 9 ∧ (w = .yes → rf ≤ 1) ∧ ∀ H', FG G H' b → Q (.bl true) H'
section
variable {P : Program} {w : World} {K : PySem.W.Frag} {mg : Str → Option Value} {base : Heap}
theorem ok_rows {f C : Addr} {fd : FuncData} (F : Fun K "_law_rows" "_law_rows" s__law_rows f fd) (T : Txt mg) (D__law_take : Dn P w K mg base CX0 1 "_law_take" ["_law_feed_here", "_law_many"] spTake) (D__law_left : Dn P w K mg base CX0 1 "_law_left" ["_law_words_here", "_law_spare", "_law_floor", "_law_roof", "_law_told"] (spLeft K))
    (D__law_stray : Dn P w K mg base CX0 2 "_law_stray" ["_law_feed_here", "_law_words_here", "_law_floor", "_law_roof", "_law_main"] spStray) (D__law_same : Dn P w K mg base CX0 2 "_law_same" ["_law_thing", "_law_due"] (spSame K)) (D_left_grades : Dn P w K mg base (L2N.CX P w) 6 "left_grades" ["rule", "still", "least", "most", "grades"] (spLG C))
    (D_off_by : Dn P w K mg base (L2N.CX P w) 6 "off_by" ["rule", "settled", "grades"] (spOff C)) (D__law_is : Dn P w K mg base CX0 1 "_law_is" ["_law_thing", "_law_due"] spIs) (D__law_off : Dn P w K mg base CX0 1 "_law_off" ["_law_words_here", "_law_settled_at", "_law_told"] (spOffL K))
    (kb_left_grades : KBn K D_left_grades.fd ["rule", "still", "least", "most", "grades"] 0 ksLG (fun _ ws => perm5 ws) (fun _ zs => perm5 zs)) (kb_off_by : KBn K D_off_by.fd ["rule", "settled", "grades"] 0 ksOB (fun _ ws => ws.reverse) (fun _ zs => zs.reverse)) :
    FnOk P w K mg base CX0 7 f fd ["_law_feed_here", "_law_words_here", "_law_spare", "_law_floor", "_law_roof"] spRows := by
  refine F.ok sc__law_rows (fun vs H Q E h => ?_) (fun cdv A outer s H vs Q E hr h => ?_)
  · obtain ⟨_, _, _, _, _, _, _, _, rfl, _⟩ := h
    rfl
  · obtain ⟨G, b, r, wd, e, sp, fl, rf, rfl, fg, hrl, hsp, h0, h1, h2, hy, k⟩ := h
    refine ⟨_, (pss_cons (ps_set (i := 5) sc__law_rows.nd rfl (Or.inl rfl) (pe_ix (iL K) (pe_lst (pa_cons pe_int (pa_cons pe_int (pa_cons pe_int (pa_cons pe_int (pa_cons pe_int (pa_cons pe_int pa_nil))))))) (pe_call D__law_take.ok (hr.mono (by decide)) (by rfl) D__law_take.g D__law_take.kp D__law_take.b .nil pass0 (pa_cons (pv 0) (pa_cons pe_int pa_nil))) (fun _ _ => rfl)))
    (pss_cons (ps_set (i := 6) sc__law_rows.nd rfl (Or.inr rfl) (pe_op op_add (pv 3) (pe_call D__law_take.ok (hr.mono (by decide)) (by rfl) D__law_take.g D__law_take.kp D__law_take.b .nil pass0 (pa_cons (pv 0) (pa_cons (pe_op op_add (pe_op op_sub (pv 4) (pv 3)) pe_int) pa_nil)))))
    (pss_cons (ps_setLc (i := 7) (own := [("_law_k", 8)]) (g := (gName 8)) (tt := tYes) rfl sc__law_rows.nd rfl rfl (sw_true rfl rfl rfl (by decide +kernel)) (pi_range1 (by rfl) T.range (pa_cons (pv 5) pa_nil)) (blkOk_by (own := [("_law_k", 8)]) (N := N__law_rows) (sc := defScope s__law_rows) (by decide +kernel)) (fun _ _ _ _ _ => pg_name (i := 8) sc__law_rows.nd rfl (Or.inl rfl)) (fun _ _ _ _ _ => pts_nil) (fun _ _ _ _ _ => (pv 6)))
    (pss_cons (ps_for PassesOwn.never rfl (pi_range1 (by rfl) T.range (pa_cons (pe_call D__law_take.ok (hr.mono (by decide)) (by rfl) D__law_take.g D__law_take.kp D__law_take.b .nil pass0 (pa_cons (pv 0) (pa_cons pe_int pa_nil))) pa_nil)) (pg_name (i := 8) sc__law_rows.nd rfl (Or.inl rfl))
       (pss_one (ps_if (pt_cmpR op_gt (pv 5) pe_int (nomark _))
         (pss_one (ps_asg (pe_call D__law_stray.ok (hr.mono (by decide)) (by rfl) D__law_stray.g D__law_stray.kp D__law_stray.b .nil pass0 (pa_cons (pv 0) (pa_cons (pv 1) (pa_cons (pv 3) (pa_cons (pv 4) (pa_cons (pe_call D__law_take.ok (hr.mono (by decide)) (by rfl) D__law_take.g D__law_take.kp D__law_take.b .nil pass0 (pa_cons (pv 0) (pa_cons pe_int pa_nil))) pa_nil)))))) (pg_sub (pv 7) (pe_call D__law_take.ok (hr.mono (by decide)) (by rfl) D__law_take.g D__law_take.kp D__law_take.b .nil pass0 (pa_cons (pv 0) (pa_cons (pv 5) pa_nil))) set_list)))
         pss_nil)))
    (pss_cons (ps_set (i := 9) sc__law_rows.nd rfl (Or.inl rfl) (pe_call D__law_left.ok (hr.mono (by decide)) (by rfl) D__law_left.g D__law_left.kp D__law_left.b .nil pass0 (pa_cons (pv 1) (pa_cons (pv 2) (pa_cons (pv 3) (pa_cons (pv 4) (pa_cons (pv 7) pa_nil)))))))
    (pss_cons (ps_set (i := 10) sc__law_rows.nd rfl (Or.inl rfl) (pe_callNS0 D_left_grades.ok (hr.mono (by decide)) (by rfl) D_left_grades.g D_left_grades.kp kb_left_grades (fun σ => L2N.passAt takes0N σ) (pk_cons (pe_callTy (cTupF K) (by rfl) T.tuple (by decide +kernel) (pa_cons (pv 7) pa_nil)) (pk_cons (pv 4) (pk_cons (pv 2) (pk_cons (pv 3) (pk_cons (pv 1) pk_nil)))))))
    (pss_cons (ps_if (pt_not (pt_val (pe_call D__law_same.ok (hr.mono (by decide)) (by rfl) D__law_same.g D__law_same.kp D__law_same.b .nil pass0 (pa_cons (pv 10) (pa_cons (pv 9) pa_nil)))))
       (pss_one (ps_ret pe_bl))
       pss_nil)
    (pss_cons (ps_set (i := 11) sc__law_rows.nd rfl (Or.inl rfl) (pe_ix (iL K) (pe_lst (pa_cons (pv 6) (pa_cons (pe_call D__law_take.ok (hr.mono (by decide)) (by rfl) D__law_take.g D__law_take.kp D__law_take.b .nil pass0 (pa_cons (pv 0) (pa_cons pe_int pa_nil))) (pa_cons (pe_op op_add (pe_op op_pow pe_int pe_int) pe_int) (pa_cons (pv 4) pa_nil))))) (pe_call D__law_take.ok (hr.mono (by decide)) (by rfl) D__law_take.g D__law_take.kp D__law_take.b .nil pass0 (pa_cons (pv 0) (pa_cons pe_int pa_nil))) (fun _ _ => rfl)))
    (pss_cons (ps_set (i := 10) sc__law_rows.nd rfl (Or.inl rfl) (pe_callNS0 D_off_by.ok (hr.mono (by decide)) (by rfl) D_off_by.g D_off_by.kp kb_off_by (fun σ => L2N.passAt takes0N σ) (pk_cons (pe_callTy (cTupF K) (by rfl) T.tuple (by decide +kernel) (pa_cons (pv 7) pa_nil)) (pk_cons (pv 11) (pk_cons (pv 1) pk_nil)))))
    (pss_one (ps_ret (pe_and (pe_call D__law_is.ok (hr.mono (by decide)) (by rfl) D__law_is.g D__law_is.kp D__law_is.b .nil pass0 (pa_cons (pv 10) (pa_cons (pe_call D__law_off.ok (hr.mono (by decide)) (by rfl) D__law_off.g D__law_off.kp D__law_off.b .nil pass0 (pa_cons (pv 1) (pa_cons (pv 11) (pa_cons (pv 7) pa_nil)))) pa_nil))) (pe_one (pe_call D__law_is.ok (hr.mono (by decide)) (by rfl) D__law_is.g D__law_is.kp D__law_is.b .nil pass0 (pa_cons (pe_callS D_off_by.ok (hr.mono (by decide)) (by rfl) D_off_by.g D_off_by.kp D_off_by.b (fun σ => L2N.passAt takes0N σ) (pa_cons (pv 1) (pa_cons (pv 6) (pa_cons (pe_tupF pa_nil) pa_nil)))) (pa_cons pe_int pa_nil)))))))))))))))), ?_⟩
    refine t_pick (ns := [3, 200, 7, 1, 0, 20]) (ea_cons ev_c (ea_cons ev_c (ea_cons ev_c (ea_cons ev_c (ea_cons ev_c (ea_cons ev_c ea_nil)))))) (by decide) (fun _ _ => ev_var (i := 0) rfl) fg rfl (by decide) fun mny H1 hm f1 => ?_
    dsimp only [gName]
    have hmny : 0 ≤ mny ∧ mny ≤ 200 := by simp at hm; omega
    refine ⟨_, rfl, t_take (m := rf - fl + 1) (ev_var (i := 0) rfl) (ev_op (ev_op (ev_var rfl) (ev_var rfl) rv_I0) ev_c rv_I0) f1 (by omega) fun v H2 v0 v1 f2 => ⟨_, _, rfl, rfl, ?_⟩⟩
    dsimp only [gName]
    obtain ⟨mn, hmn⟩ : ∃ mn : Int, mn = fl + v := ⟨_, rfl⟩
    rw [← hmn]
    refine q_asgL (xs := iv (List.replicate mny.toNat mn)) (el_is (el_lcR1 (n := mny) (fun _ => true) (fun _ => .int mn) (ea_cons (ev_var rfl) ea_nil) ⟨by omega, by omega⟩ (fun _ => rfl) (fun _ _ _ _ => et_yes) fun i H3 e3 hi _ => ev_var rfl) (given_rep _ _)) fun t H3 ht e3 ht3 => ?_
    have hGt : G t = none := fresh_back f2.ex ht
    have htb : t ≠ b := f2.fresh ht
    have f3 : FG (upd G t (.lst (iv (List.replicate mny.toNat mn)))) H3 b := (f2.grow e3).hold htb ht3
    -- for k in range(take(feed, 12))
    refine t_take (m := 12) (ev_var (i := 0) rfl) ev_c f3 (by decide) fun d H4 d0 d1 f4 => ⟨d, rfl, by omega, by omega, ?_⟩
    let M : Nat → L2.St → Hp → Prop := fun i σ H' => ∃ (told : List Int) (v8 : Option V), σ = [some (.ref b), some r, some (.int sp), some (.int fl), some (.int rf), some (.int mny), some (.int mn), some (.ref t), v8, none, none, none] ∧ told.length = mny.toNat ∧ (∀ x ∈ told, 0 ≤ x) ∧ FG (upd G t (.lst (iv told))) H' b
    refine for_range (lo := 0) (n := d.toNat) M ⟨_, none, rfl, List.length_replicate, fun x hx => by have := (List.mem_replicate.mp hx).2; omega, f4⟩ ?_ ?_
    · rintro i σ H5 hi ⟨told, v8, rfl, hl, hn, f5⟩
      dsimp only [gName]
      refine s_when (b := decide (0 < mny)) (et_test (ev_op (ev_var rfl) ev_c rv_I0)) (fun hp H6 e6 => ?_) fun _ H6 e6 => ⟨told, _, rfl, hl, hn, f5.grow e6⟩
      have hp := of_decide_eq_true hp
      have f6 := f5.grow e6
      refine ⟨_, rfl, _, rfl, _, rfl, _, rfl, t_take (m := 4) (ev_var (i := 0) rfl) ev_c f6 (by decide) fun u H7 u0 u1 f7 => ?_⟩
      refine ⟨_, b, r, wd, e, fl, rf, u, rfl, f7, hrl.mono (Ex.new hGt), h0, h1, by omega, u0, fun x H8 x0 _ f8 => ?_⟩
      refine ⟨_, rfl, t_take (m := mny) (ev_var (i := 0) rfl) (ev_var rfl) f8 (by omega) fun j H9 j0 j1 f9 => ?_⟩
      obtain ⟨j, rfl⟩ : ∃ q : Nat, j = (q : Int) := ⟨j.toNat, by omega⟩
      have ht9 : H9 t = some (.lst (iv told)) := f9.ex _ _ upd_same
      refine ⟨t, _, (j : Int), j, rfl, rfl, ht9, ixN_nat (by rw [iv_len]; omega), ?_⟩
      have f10 := ((f9.less (Ex.new hGt)).put (o := .lst ((iv told).set j (.int x))) htb hGt).hold htb upd_same
      have eo : (iv told).set j (V.int x) = iv (told.set j x) := by unfold iv; rw [List.map_set]
      rw [eo] at f10
      refine ⟨told.set j x, _, rfl, by rw [List.length_set, hl], fun y hy => ?_, ?_⟩
      · rcases List.mem_or_eq_of_mem_set hy with q | q
        · exact hn y q
        · omega
      · rw [eo]
        exact f10
    · rintro σ H5 ⟨told, v8, rfl, hl, hn, f5⟩
      have hz : told.length ≤ 1000 := by omega
      have hlen := left_len wd e sp fl rf told
      have hrl' : RlG (upd G t (.lst (iv told))) r wd e := hrl.mono (Ex.new hGt)
      have ht5 : H5 t = some (.lst (iv told)) := f5.ex _ _ upd_same
      refine q_asgL (el_left (K := K) (hrl'.at f5) (ev_var rfl) (ev_var rfl) (ev_var rfl) (ev_var rfl) (es_var (ev_var rfl) ht5) hz h0 h1 (by omega)) fun l H6 hl6 e6 h6 => ?_
      have hG6 : (upd G t (.lst (iv told))) l = none := fresh_back f5.ex hl6
      have f6 := (f5.grow e6)
      refine q_asgF (ef_lgK (hrl'.at f6) (ef_list (K := K) (ev_var rfl) (sq_of (e6 _ _ ht5))) (ev_var rfl) (ev_var rfl) (ev_var rfl) (ev_var rfl) hz hn hsp h0 h1 (by omega) hy) fun p H7 hp e7 hp7 => ?_
      refine q_when (b := false) (et_is (et_not (et_B (ev_call (ea_cons (ev_var rfl) (ea_cons (ev_var rfl) ea_nil)) (spv_same hp7 (sq_of (e7 _ _ h6)) (by omega))))) rfl) (fun q => Bool.noConfusion q) fun _ H8 e8 => ?_
      have f8 := (f6.grow e7).grow e8
      -- other = [main, take(feed, 3), 10 ** 28 + 1, roof][take(feed, 4)]
      refine t_pickR (G := upd G t (.lst (iv told))) (n := 4) (A := fun x => 0 ≤ x) (fun Q' q' => ?_) (fun _ => ev_var (i := 0) rfl) rfl (by decide) (by decide) fun c H9 c0 f9 => ?_
      · refine ⟨_, rfl, t_take (m := 3) (ev_var (i := 0) rfl) ev_c f8 (by decide) fun u H9 u0 u1 f9 => ?_⟩
        refine (ev_op (ev_op (ev_c (v := .int 10)) (ev_c (v := .int 28)) (rv_I ⟨by decide, by decide, by decide⟩)) (ev_c (v := .int 1)) rv_I0) H9 (Ex.refl H9) _ fun H10 e10 => ?_
        refine ⟨_, rfl, q' [mn, u, 10 ^ 28 + 1, rf] H10 rfl (fun x hx => ?_) (f9.grow e10)⟩
        simp at hx
        omega
      · dsimp only [gName]
        have ht9 : H9 t = some (.lst (iv told)) := f9.ex _ _ upd_same
        refine q_asg (v := .int (offN wd told c)) (ev_obK (hrl'.at f9) (ef_list (K := K) (ev_var rfl) (sq_of ht9)) (ev_var rfl) (ev_var rfl) hz hn c0) fun H10 e10 => ?_
        have f10 := f9.grow e10
        have ht10 := e10 _ _ ht9
        refine s_ret (v := .bl true) (ev_is (ev_andV (ev_call (ea_cons (ev_var rfl) (ea_cons (ev_call (ea_cons (ev_var rfl) (ea_cons (ev_var rfl) (ea_cons (ev_var rfl) ea_nil))) (spv_offL (hrl'.at f10) (sq_of ht10) hz)) ea_nil)) (spv_is (.int _))) fun _ =>
          ev_call (ea_cons (ev_ob (told := []) (hrl'.at f10) (ev_var rfl) (ev_var rfl) (ef_tup ea_nil (by decide)) (by decide) (by simp) (by omega)) (ea_cons ev_c ea_nil)) (spv_is (.int _))) ?_) fun H11 e11 => k H11 ((f10.grow e11).less (Ex.new hGt))
        rw [offN_nil]
        simp [isEq]
end
end K27
/-! ## P11 -/
set_option Elab.async false
set_option linter.all false
set_option maxRecDepth 100000
set_option maxHeartbeats 4000000
namespace K27
open PySem L2 Evl
/-! ### values with a property -/
def EvP (te : TE) (σ : L2.St) (H : Hp) (A : V → Hp → Prop) : Prop := ∀ H1, Ex H H1 → ∀ Q : VK, (∀ v H2, Ex H1 H2 → A v H2 → Q v H2) → te σ H1 Q
def EvPs (ta : TA) (σ : L2.St) (H : Hp) (A : V → Hp → Prop) (n : Nat) : Prop := ∀ H1, Ex H H1 → ∀ Q : List V → Hp → Prop, (∀ vs H2, Ex H1 H2 → vs.length = n → (∀ v ∈ vs, A v H2) → Q vs H2) → ta σ H1 Q
/-- all but the feed -/
def hid (H : Hp) (b : Addr) : Hp := fun a => if a = b then none else H a
theorem hid_ne {H : Hp} {a b : Addr} (h : a ≠ b) : hid H b a = H a := if_neg h
theorem hid_ex {H H' : Hp} {b : Addr} (e : Ex H H') : Ex (hid H b) (hid H' b) := fun a o h => by
  by_cases c : a = b
  · unfold hid at h
    rw [if_pos c] at h
    cases h
  · rw [hid_ne c] at h ⊢
    exact e a o h
theorem hid_sub {H : Hp} {b : Addr} : Ex (hid H b) H := fun a o h => by
  by_cases c : a = b
  · unfold hid at h
    rw [if_pos c] at h
    cases h
  · rw [hid_ne c] at h
    exact h
theorem FG.hid {G H : Hp} {b : Addr} (h : FG G H b) : FG (hid H b) H b ∧ Ex G (hid H b) := by
  refine ⟨⟨hid_sub, if_pos rfl, h.at_⟩, fun a o ha => ?_⟩
  have hne : a ≠ b := fun z => by rw [z, h.gb] at ha; cases ha
  rw [hid_ne hne]
  exact h.ex a o ha
section
variable {K : PySem.W.Frag} {σ : L2.St} {G H : Hp} {b : Addr} {te t1 t2 t3 t4 t5 : TE} {A : V → Hp → Prop} {D : Ends} {tz : TS}
theorem eps_nil : EvPs tNil σ H A 0 := fun H1 e Q q => q [] H1 (Ex.refl H1) rfl (by simp)
theorem eps_cons {ta : TA} {n : Nat} (mono : ∀ v H H', Ex H H' → A v H → A v H') (h : EvP te σ H A) (hr : EvPs ta σ H A n) : EvPs (tCons te ta) σ H A (n + 1) := fun H1 e Q q =>
  h H1 e _ fun v H2 e2 hv => hr H2 (e.trans e2) _ fun vs H3 e3 hl hvs => q (v :: vs) H3 (e2.trans e3) (by rw [List.length_cons, hl]) fun y hy => by
    rcases List.mem_cons.mp hy with rfl | hy
    · exact mono _ _ _ e3 hv
    · exact hvs y hy
theorem ep_V {v : V} (h : Ev te σ H v) (hA : ∀ H', Ex H H' → A v H') : EvP te σ H A := fun H1 e Q q => h H1 e _ fun H2 e2 => q v H2 e2 (hA H2 (e.trans e2))
theorem ep_U {xs : List V} (h : EvU te σ H xs) (hA : ∀ p H', H p = none → H' p = some (.tup xs) → A (.ref p) H') : EvP te σ H A := fun H1 e Q q => h H1 e _ fun p H2 hp e2 h2 => q _ H2 e2 (hA p H2 (fresh_back e hp) h2)
theorem ep_L {xs : List V} (h : EvL te σ H xs) (hA : ∀ p H', H p = none → H' p = some (.lst xs) → A (.ref p) H') : EvP te σ H A := fun H1 e Q q => h H1 e _ fun p H2 hp e2 h2 => q _ H2 e2 (hA p H2 (fresh_back e hp) h2)
theorem ep_F {xs : List V} (h : EvF te σ H xs) (hA : ∀ p H', Ex H H' → TupN H' p xs → A (.ref p) H') : EvP te σ H A := fun H1 e Q q => h H1 e _ fun p H2 hp e2 h2 => q _ H2 e2 (hA p H2 (e.trans e2) h2)
theorem q_asgP {ta : TA} {i n : Nat} (h : EvPs ta σ H A n) (mono : ∀ v H H', Ex H H' → A v H → A v H') (hn : n ≤ 1000) (k : ∀ l vs H1, H l = none → Ex H H1 → H1 l = some (.lst vs) → vs.length = n → (∀ v ∈ vs, A v H1) → tz D (σ.set i (some (.ref l))) H1) : tSeq (tAsg (tLst ta) (gName i)) tz D σ H :=
  h H (Ex.refl H) _ fun vs H1 e hl hA => ⟨sz_of (by omega), fun l hl0 => k l vs _ (fresh_back e hl0) (e.trans (Ex.new hl0)) upd_same hl fun v hv => mono _ _ _ (Ex.new hl0) (hA v hv)⟩
theorem ev_refused {r s l m : V} {z : Str} {E : XK} (h1 : Ev t1 σ H r) (h2 : Ev t2 σ H s) (h3 : Ev t3 σ H l) (h4 : Ev t4 σ H m) (h5 : EvP t5 σ H (fun g H' => Bad H' r s l m g z)) : Ev (tCall spRefused [] E (tCons t1 (tCons t2 (tCons t3 (tCons t4 (tCons t5 (tCons (tC (.str z)) tNil))))))) σ H (.bl true) := fun H1 x1 Q q =>
  h1 H1 x1 _ fun H2 x2 => h2 H2 (x1.trans x2) _ fun H3 x3 => h3 H3 ((x1.trans x2).trans x3) _ fun H4 x4 => h4 H4 (((x1.trans x2).trans x3).trans x4) _ fun H5 x5 => h5 H5 ((((x1.trans x2).trans x3).trans x4).trans x5) _ fun g H6 x6 hb =>
    ⟨r, s, l, m, g, z, rfl, hb, fun H7 x7 => q H7 (((((x2.trans x3).trans x4).trans x5).trans x6).trans x7)⟩
theorem ev_offRefused {r s : V} {z : Str} {E : XK} (h1 : Ev t1 σ H r) (h2 : Ev t2 σ H s) (h3 : EvP t3 σ H (fun g H' => Bad2 H' r s g z)) : Ev (tCall spOffRefused [] E (tCons t1 (tCons t2 (tCons t3 (tCons (tC (.str z)) tNil))))) σ H (.bl true) := fun H1 x1 Q q =>
  h1 H1 x1 _ fun H2 x2 => h2 H2 (x1.trans x2) _ fun H3 x3 => h3 H3 ((x1.trans x2).trans x3) _ fun g H4 x4 hb => ⟨r, s, g, z, rfl, hb, fun H5 x5 => q H5 (((x2.trans x3).trans x4).trans x5)⟩
/-- the rule made on the way -/
theorem ev_refusedU {xs : List V} {s l m : V} {z : Str} {E : XK} (h1 : EvU t1 σ H xs) (h2 : Ev t2 σ H s) (h3 : Ev t3 σ H l) (h4 : Ev t4 σ H m) (h5 : EvP t5 σ H (fun _ _ => True)) (hb : ∀ p g H', H' p = some (.tup xs) → Bad H' (.ref p) s l m g z) : Ev (tCall spRefused [] E (tCons t1 (tCons t2 (tCons t3 (tCons t4 (tCons t5 (tCons (tC (.str z)) tNil))))))) σ H (.bl true) := fun H1 x1 Q q =>
  h1 H1 x1 _ fun p H2 _ x2 hp => h2 H2 (x1.trans x2) _ fun H3 x3 => h3 H3 ((x1.trans x2).trans x3) _ fun H4 x4 => h4 H4 (((x1.trans x2).trans x3).trans x4) _ fun H5 x5 => h5 H5 ((((x1.trans x2).trans x3).trans x4).trans x5) _ fun g H6 x6 _ =>
    ⟨.ref p, s, l, m, g, z, rfl, hb p g H6 (x6 _ _ (x5 _ _ (x4 _ _ (x3 _ _ hp)))), fun H7 x7 => q H7 (((((x2.trans x3).trans x4).trans x5).trans x6).trans x7)⟩
theorem el_leftU {w : Wd} {e sp fl rf : Int} {told : List Int} {E : XK} (h1 : EvU t1 σ H [.str w.s, .int e]) (he : 0 ≤ e) (h2 : Ev t2 σ H (.int sp)) (h3 : Ev t3 σ H (.int fl)) (h4 : Ev t4 σ H (.int rf)) (h5 : EvS t5 σ H (iv told)) (hz : told.length ≤ 1000) (b0 : 0 ≤ fl) (b1 : fl ≤ rf) (b2 : rf ≤ 1000) :
    EvL (tCall (spLeft K) [] E (tCons t1 (tCons t2 (tCons t3 (tCons t4 (tCons t5 tNil)))))) σ H (iv (leftL w e sp fl rf told)) := fun H1 x1 Q q =>
  h1 H1 x1 _ fun p0 H2 _ x2 hp0 => h2 H2 (x1.trans x2) _ fun H3 x3 => h3 H3 ((x1.trans x2).trans x3) _ fun H4 x4 => h4 H4 (((x1.trans x2).trans x3).trans x4) _ fun H5 x5 => h5 H5 ((((x1.trans x2).trans x3).trans x4).trans x5) _ fun p H6 x6 hp =>
    ⟨.ref p0, p, w, e, sp, fl, rf, told, rfl, ⟨p0, rfl, x6 _ _ (x5 _ _ (x4 _ _ (x3 _ _ hp0))), he⟩, hp, hz, b0, by omega, by omega, b2, fun l H7 hl x7 h7 => q l H7 (fresh_back ((((x2.trans x3).trans x4).trans x5).trans x6) hl) (((((x2.trans x3).trans x4).trans x5).trans x6).trans x7) h7⟩
theorem ef_lgU {w : Wd} {e sp fl rf : Int} {told : List Int} {C : Addr} {E : L2.St → XK} (h1 : EvU t1 σ H [.str w.s, .int e]) (he : 0 ≤ e) (h2 : Ev t2 σ H (.int sp)) (h3 : Ev t3 σ H (.int fl)) (h4 : Ev t4 σ H (.int rf)) (h5 : EvF t5 σ H (iv told)) (hz : told.length ≤ 1000) (hn : ∀ x ∈ told, 0 ≤ x) (b9 : 0 ≤ sp) (b0 : 0 ≤ fl) (b1 : fl ≤ rf) (b2 : rf ≤ 1000) (b3 : w = .yes → rf ≤ 1) :
    EvF (tCallS (spLG C) E (tCons t1 (tCons t2 (tCons t3 (tCons t4 (tCons t5 tNil)))))) σ H (iv (leftL w e sp fl rf told)) := fun H1 x1 Q q =>
  h1 H1 x1 _ fun p0 H2 _ x2 hp0 => h2 H2 (x1.trans x2) _ fun H3 x3 => h3 H3 ((x1.trans x2).trans x3) _ fun H4 x4 => h4 H4 (((x1.trans x2).trans x3).trans x4) _ fun H5 x5 => h5 H5 ((((x1.trans x2).trans x3).trans x4).trans x5) _ fun p H6 _ x6 hp =>
    ⟨.ref p0, _, _, _, _, rfl, .inr ⟨w, e, sp, fl, rf, p, told, ⟨p0, rfl, x6 _ _ (x5 _ _ (x4 _ _ (x3 _ _ hp0))), he⟩, rfl, b9, rfl, b0, rfl, b1, b2, b3, rfl, hp, hn, hz, fun l H7 hl x7 h7 => q l H7 (fresh_back ((((x2.trans x3).trans x4).trans x5).trans x6) hl) (((((x2.trans x3).trans x4).trans x5).trans x6).trans x7) h7⟩⟩
end
theorem most_no {w : Wd} {fl : Int} {m : V} (h : isN m = false) : mostB w fl m = false := by
  cases m with
  | int i =>
    have : decide (0 ≤ i) = false := h
    show (decide (0 ≤ i) && _) = false
    rw [this]
    rfl
  | _ => rfl
theorem most_is {w : Wd} {fl rf : Int} (h0 : 0 ≤ fl) (h1 : fl ≤ rf) (hy : w = .yes → rf ≤ 1) : mostB w fl (.int rf) = true := by
  show (decide (0 ≤ rf) && (decide (fl ≤ rf) && (decide (w ≠ .yes) || decide (rf ≤ 1)))) = true
  rw [decide_eq_true (by omega : 0 ≤ rf), decide_eq_true h1]
  by_cases c : w = .yes
  · rw [decide_eq_true (hy c)]; simp
  · rw [decide_eq_true c]; rfl
abbrev s__law_refuses : Stmt := top 36
abbrev N__law_refuses : List Str := ["_law_feed_here", "_law_words_here", "_law_spare", "_law_floor", "_law_roof", "_law_rules", "_law_none", "_law_lists", "_law_pact", "_law_bad", "_law_thing", "_law_due"]
theorem sc__law_refuses : FnScope N__law_refuses ["_law_feed_here", "_law_words_here", "_law_spare", "_law_floor", "_law_roof"] (defScope s__law_refuses) := ⟨rfl, rfl, rfl, by decide +kernel, rfl, by decide +kernel, by decide +kernel⟩
def spRefuses : Sp := fun vs H Q _ => ∃ (G : Hp) (b : Addr) (r : V) (w : Wd) (e sp fl rf : Int), vs = [.ref b, r, .int sp, .int fl, .int rf] ∧ FG G H b ∧ RlG G r w e ∧ 0 ≤ sp ∧ 0 ≤ fl ∧ fl ≤ rf ∧ rf ≤ 9 ∧ (w = .yes → rf ≤ 1) ∧ ∀ H', FG G H' b → Q (.bl true) H'
section
variable {P : Program} {w : World} {K : PySem.W.Frag} {mg : Str → Option Value} {base : Heap}
theorem ok_refuses {f C : Addr} {fd : FuncData} (F : Fun K "_law_refuses" "_law_refuses" s__law_refuses f fd) (T : Txt mg) (D__law_take : Dn P w K mg base CX0 1 "_law_take" ["_law_feed_here", "_law_many"] spTake) (D__law_left : Dn P w K mg base CX0 1 "_law_left" ["_law_words_here", "_law_spare", "_law_floor", "_law_roof", "_law_told"] (spLeft K))
    (D__law_same : Dn P w K mg base CX0 2 "_law_same" ["_law_thing", "_law_due"] (spSame K)) (D_left_grades : Dn P w K mg base (L2N.CX P w) 6 "left_grades" ["rule", "still", "least", "most", "grades"] (spLG C))
    (D__law_refused : Dn P w K mg base CX0 7 "_law_refused" ["_law_words_here", "_law_spare", "_law_floor", "_law_roof", "_law_told", "_law_due"] spRefused) (D__law_off_refused : Dn P w K mg base CX0 7 "_law_off_refused" ["_law_words_here", "_law_settled_at", "_law_told", "_law_due"] spOffRefused) :
    FnOk P w K mg base CX0 8 f fd ["_law_feed_here", "_law_words_here", "_law_spare", "_law_floor", "_law_roof"] spRefuses := by
  refine F.ok sc__law_refuses (fun vs H Q E h => ?_) (fun cdv A outer s H vs Q E hr h => ?_)
  · obtain ⟨_, _, _, _, _, _, _, _, rfl, _⟩ := h
    rfl
  · obtain ⟨G, b, r, wd, e, sp, fl, rf, rfl, fg, hrl0, hsp, h0, h1, h2, hy, k⟩ := h
    refine ⟨_, (pss_cons (ps_set (i := 5) sc__law_refuses.nd rfl (Or.inl rfl) (pe_lst (pa_cons (pe_tup (pa_cons pe_str (pa_cons pe_int pa_nil))) (pa_cons (pe_tup (pa_cons (pe_ix (iT K) (pv 1) pe_int (fun _ _ => rfl)) (pa_cons (pe_un un_neg pe_int) pa_nil))) (pa_cons (pe_tup (pa_cons (pe_ix (iT K) (pv 1) pe_int (fun _ _ => rfl)) (pa_cons pe_bl pa_nil))) (pa_cons (pe_lst (pa_cons (pe_ix (iT K) (pv 1) pe_int (fun _ _ => rfl)) (pa_cons pe_int pa_nil))) (pa_cons (pe_tup (pa_cons (pe_ix (iT K) (pv 1) pe_int (fun _ _ => rfl)) pa_nil)) (pa_cons (pe_ix (iT K) (pv 1) pe_int (fun _ _ => rfl)) (pa_cons pe_non (pa_cons (pe_tup (pa_cons (pe_ix (iT K) (pv 1) pe_int (fun _ _ => rfl)) (pa_cons pe_int (pa_cons pe_int pa_nil)))) pa_nil))))))))))
    (pss_cons (ps_set (i := 6) sc__law_refuses.nd rfl (Or.inl rfl) (pe_lst (pa_cons pe_bl (pa_cons (pe_un un_neg pe_int) (pa_cons pe_non (pa_cons pe_str (pa_cons (pe_tup (pa_cons pe_int pa_nil)) (pa_cons (pe_lst (pa_cons pe_int pa_nil)) (pa_cons pe_bl (pa_cons (pe_op op_sub (pe_un un_neg pe_int) (pv 3)) pa_nil))))))))))
    (pss_cons (ps_set (i := 7) sc__law_refuses.nd rfl (Or.inl rfl) (pe_lst (pa_cons (pe_lst (pa_cons pe_int pa_nil)) (pa_cons (pe_tup (pa_cons pe_bl pa_nil)) (pa_cons (pe_tup (pa_cons pe_int (pa_cons (pe_un un_neg pe_int) pa_nil))) (pa_cons pe_non (pa_cons pe_str (pa_cons pe_int (pa_cons (pe_tup (pa_cons (pe_tup (pa_cons pe_int pa_nil)) pa_nil)) (pa_cons (pe_tup (pa_cons pe_int (pa_cons pe_non pa_nil))) (pa_cons (pe_lst pa_nil) (pa_cons (pe_tup (pa_cons pe_int (pa_cons pe_bl pa_nil))) pa_nil))))))))))))
    (pss_cons (ps_set (i := 8) sc__law_refuses.nd rfl (Or.inl rfl) (pe_ix (iL K) (pv 5) (pe_call D__law_take.ok (hr.mono (by decide)) (by rfl) D__law_take.g D__law_take.kp D__law_take.b .nil pass0 (pa_cons (pv 0) (pa_cons (pe_callB (cLen K) (by rfl) T.len PySem.boot_len (pa_cons (pv 5) pa_nil)) pa_nil))) (fun _ _ => rfl)))
    (pss_cons (ps_set (i := 9) sc__law_refuses.nd rfl (Or.inl rfl) (pe_ix (iL K) (pv 6) (pe_call D__law_take.ok (hr.mono (by decide)) (by rfl) D__law_take.g D__law_take.kp D__law_take.b .nil pass0 (pa_cons (pv 0) (pa_cons (pe_callB (cLen K) (by rfl) T.len PySem.boot_len (pa_cons (pv 6) pa_nil)) pa_nil))) (fun _ _ => rfl)))
    (pss_cons (ps_for PassesOwn.never rfl (pi_list (pv 7)) (pg_name (i := 10) sc__law_refuses.nd rfl (Or.inl rfl))
       (pss_cons (ps_if (pt_not (pt_val (pe_call D__law_refused.ok (hr.mono (by decide)) (by rfl) D__law_refused.g D__law_refused.kp D__law_refused.b .nil pass0 (pa_cons (pv 1) (pa_cons (pv 2) (pa_cons (pv 3) (pa_cons (pv 4) (pa_cons (pv 10) (pa_cons pe_str pa_nil)))))))))
         (pss_one (ps_ret pe_bl))
         pss_nil)
      (pss_one (ps_if (PW.pt (pw_or (pt_not (pt_val (pe_call D__law_off_refused.ok (hr.mono (by decide)) (by rfl) D__law_off_refused.g D__law_off_refused.kp D__law_off_refused.b .nil pass0 (pa_cons (pv 1) (pa_cons (pv 3) (pa_cons (pv 10) (pa_cons pe_str pa_nil))))))) (pw_or1 (pt_not (pt_val (pe_call D__law_off_refused.ok (hr.mono (by decide)) (by rfl) D__law_off_refused.g D__law_off_refused.kp D__law_off_refused.b .nil pass0 (pa_cons (pv 1) (pa_cons (pv 9) (pa_cons (pv 10) (pa_cons pe_str pa_nil))))))))))
         (pss_one (ps_ret pe_bl))
         pss_nil))))
    (pss_cons (ps_for PassesOwn.never rfl (pi_list (pe_op op_cat (pv 6) (pe_lst (pa_cons (pe_op op_sub (pv 3) pe_int) pa_nil)))) (pg_name (i := 10) sc__law_refuses.nd rfl (Or.inl rfl))
       (pss_one (ps_if (pt_not (pt_val (pe_call D__law_refused.ok (hr.mono (by decide)) (by rfl) D__law_refused.g D__law_refused.kp D__law_refused.b .nil pass0 (pa_cons (pv 1) (pa_cons (pv 2) (pa_cons (pv 3) (pa_cons (pv 10) (pa_cons (pe_lst (pa_cons pe_int pa_nil)) (pa_cons pe_str pa_nil)))))))))
         (pss_one (ps_ret pe_bl))
         pss_nil)))
    (pss_cons (ps_for PassesOwn.never rfl (pi_list (pv 6)) (pg_name (i := 10) sc__law_refuses.nd rfl (Or.inl rfl))
       (pss_cons (ps_if (pt_not (pt_val (pe_call D__law_refused.ok (hr.mono (by decide)) (by rfl) D__law_refused.g D__law_refused.kp D__law_refused.b .nil pass0 (pa_cons (pv 1) (pa_cons (pv 2) (pa_cons (pv 10) (pa_cons (pv 9) (pa_cons (pe_tup (pa_cons pe_bl pa_nil)) (pa_cons pe_str pa_nil)))))))))
         (pss_one (ps_ret pe_bl))
         pss_nil)
      (pss_one (ps_if (pt_not (pt_val (pe_call D__law_refused.ok (hr.mono (by decide)) (by rfl) D__law_refused.g D__law_refused.kp D__law_refused.b .nil pass0 (pa_cons (pv 1) (pa_cons (pv 10) (pa_cons (pv 9) (pa_cons (pv 9) (pa_cons pe_non (pa_cons pe_str pa_nil)))))))))
         (pss_one (ps_ret pe_bl))
         pss_nil))))
    (pss_cons (ps_for PassesOwn.never rfl (pi_list (pv 5)) (pg_name (i := 10) sc__law_refuses.nd rfl (Or.inl rfl))
       (pss_one (ps_if (PW.pt (pw_or (pt_not (pt_val (pe_call D__law_refused.ok (hr.mono (by decide)) (by rfl) D__law_refused.g D__law_refused.kp D__law_refused.b .nil pass0 (pa_cons (pv 10) (pa_cons (pv 9) (pa_cons (pv 9) (pa_cons (pv 9) (pa_cons (pe_lst (pa_cons pe_int pa_nil)) (pa_cons pe_str pa_nil))))))))) (pw_or1 (pt_not (pt_val (pe_call D__law_off_refused.ok (hr.mono (by decide)) (by rfl) D__law_off_refused.g D__law_off_refused.kp D__law_off_refused.b .nil pass0 (pa_cons (pv 10) (pa_cons (pv 9) (pa_cons (pe_lst (pa_cons pe_int pa_nil)) (pa_cons pe_str pa_nil))))))))))
         (pss_one (ps_ret pe_bl))
         pss_nil)))
    (pss_cons (ps_if (pt_not (pt_val (pe_call D__law_refused.ok (hr.mono (by decide)) (by rfl) D__law_refused.g D__law_refused.kp D__law_refused.b .nil pass0 (pa_cons (pe_tup (pa_cons pe_str (pa_cons pe_int pa_nil))) (pa_cons (pv 2) (pa_cons (pv 3) (pa_cons (pe_callB cMax2 (by rfl) T.max (by decide +kernel) (pa_cons pe_int (pa_cons (pv 4) pa_nil))) (pa_cons (pe_tupF pa_nil) (pa_cons pe_str pa_nil)))))))))
       (pss_one (ps_ret pe_bl))
       pss_nil)
    (pss_cons (ps_if (pt_not (pt_val (pe_call D__law_refused.ok (hr.mono (by decide)) (by rfl) D__law_refused.g D__law_refused.kp D__law_refused.b .nil pass0 (pa_cons (pv 8) (pa_cons (pv 2) (pa_cons (pv 3) (pa_cons (pv 4) (pa_cons (pe_tup (pa_cons pe_int pa_nil)) (pa_cons pe_str pa_nil)))))))))
       (pss_one (ps_ret pe_bl))
       pss_nil)
    (pss_cons (ps_set (i := 11) sc__law_refuses.nd rfl (Or.inl rfl) (pe_call D__law_left.ok (hr.mono (by decide)) (by rfl) D__law_left.g D__law_left.kp D__law_left.b .nil pass0 (pa_cons (pe_tup (pa_cons pe_str (pa_cons pe_int pa_nil))) (pa_cons (pv 2) (pa_cons pe_int (pa_cons pe_int (pa_cons (pe_lst (pa_cons pe_int (pa_cons pe_int pa_nil))) pa_nil)))))))
    (pss_one (ps_ret (pe_call D__law_same.ok (hr.mono (by decide)) (by rfl) D__law_same.g D__law_same.kp D__law_same.b .nil pass0 (pa_cons (pe_callS D_left_grades.ok (hr.mono (by decide)) (by rfl) D_left_grades.g D_left_grades.kp D_left_grades.b (fun σ => L2N.passAt takes0N σ) (pa_cons (pe_tup (pa_cons pe_str (pa_cons pe_int pa_nil))) (pa_cons (pv 2) (pa_cons pe_int (pa_cons pe_int (pa_cons (pe_tupF (pa_cons pe_int (pa_cons pe_int pa_nil))) pa_nil)))))) (pa_cons (pv 11) pa_nil))))))))))))))))), ?_⟩
    obtain ⟨fgh, sub⟩ := fg.hid
    have hrl : RlG (hid H b) r wd e := hrl0.mono sub
    have hrlH : RlG H r wd e := hrl.mono hid_sub
    obtain ⟨rp, hrr, hrp, he⟩ := id hrlH
    subst hrr
    have wS : ∀ {H'}, Ex H H' → Ev (tOp (rIxT K) (tVar 1) (tC (.int 0))) (start N__law_refuses [.ref b, .ref rp, .int sp, .int fl, .int rf]) H' (.str wd.s) := fun x => ev_ixT (ev_var rfl) ev_c (st_of (x _ _ hrp)) (atI_nat (j := 0) rfl)
    have tp : ∀ {H0 H' p xs}, Ex H H0 → H0 p = none → H' p = some (.tup xs) → hid H' b p = some (.tup xs) := fun x hp h => by rw [hid_ne ((fg.grow x).fresh hp)]; exact h
    have tl : ∀ {H0 H' p xs}, Ex H H0 → H0 p = none → H' p = some (.lst xs) → hid H' b p = some (.lst xs) := fun x hp h => by rw [hid_ne ((fg.grow x).fresh hp)]; exact h
    have hx := Ex.refl H
    have rno : ∀ {x y : V}, ruleOf x y = false → ∀ {H' : Hp} {p : Addr}, hid H' b p = some (.tup [x, y]) → Any (hid H' b) x → Any (hid H' b) y → RuleIs (hid H' b) (.ref p) false := fun z _ _ h a1 a2 => by
      have := RuleIs.two (.tup h) a1 a2
      rwa [z] at this
    have m1 : ∀ v H0 H', Ex H0 H' → RuleIs (hid H0 b) v false → RuleIs (hid H' b) v false := fun v H0 H' x h => h.mono (hid_ex x)
    have m2 : ∀ v H0 H', Ex H0 H' → (Any (hid H0 b) v ∧ isN v = false) → (Any (hid H' b) v ∧ isN v = false) := fun v H0 H' x h => ⟨h.1.mono (hid_ex x), h.2⟩
    have m3 : ∀ v H0 H', Ex H0 H' → NumsIs (hid H0 b) v false → NumsIs (hid H' b) v false := fun v H0 H' x h => h.mono (hid_ex x)
    have neg1 : ∀ {H'}, Ev (tUn (rU fun i => .int (-i)) (tC (.int 1))) (start N__law_refuses [.ref b, .ref rp, .int sp, .int fl, .int rf]) H' (.int (-1)) := ev_un ev_c ru_neg
    refine q_asgP (n := 8) (A := fun v H' => RuleIs (hid H' b) v false) (eps_cons m1 (ep_U (eu_tup (ea_cons ev_c (ea_cons ev_c ea_nil)) (by show 2 ≤ _; decide)) fun p H' hp h => rno (by decide) (tp hx hp h) (.str _) (.int _))
      (eps_cons m1 (ep_U (eu_tup (ea_cons (wS hx) (ea_cons neg1 ea_nil)) (by show 2 ≤ _; decide)) fun p H' hp h => rno (by show (isS (V.str wd.s) && inV (.str wd.s) wordsV && decide ((0 : Int) ≤ -1)) = false; rw [decide_eq_false (by decide)]; simp) (tp hx hp h) (.str _) (.int _))
      (eps_cons m1 (ep_U (eu_tup (ea_cons (wS hx) (ea_cons ev_c ea_nil)) (by show 2 ≤ _; decide)) fun p H' hp h => rno (by show (isS (V.str wd.s) && inV (.str wd.s) wordsV && false) = false; simp) (tp hx hp h) (.str _) (.bl _))
      (eps_cons m1 (ep_L (el_lst (ea_cons (wS hx) (ea_cons ev_c ea_nil)) (by show 2 ≤ _; decide)) fun p H' hp h => .notT (.lst (tl hx hp h)))
      (eps_cons m1 (ep_U (eu_tup (ea_cons (wS hx) ea_nil) (by show 1 ≤ _; decide)) fun p H' hp h => .len (.tup (tp hx hp h)) (by show 1 ≠ 2; decide))
      (eps_cons m1 (ep_V (wS hx) fun H' _ => .notT (.str _))
      (eps_cons m1 (ep_V ev_c fun H' _ => .notT .non)
      (eps_cons m1 (ep_U (eu_tup (ea_cons (wS hx) (ea_cons ev_c (ea_cons ev_c ea_nil))) (by show 3 ≤ _; decide)) fun p H' hp h => .len (.tup (tp hx hp h)) (by show 3 ≠ 2; decide)) eps_nil)))))))) m1 (by decide) fun l5 rs H1 hl5 e1 h5 n5 a5 => ?_
    refine q_asgP (n := 8) (A := fun v H' => Any (hid H' b) v ∧ isN v = false) (eps_cons m2 (ep_V ev_c fun H' _ => ⟨.bl _, rfl⟩) (eps_cons m2 (ep_V (v := .int (-1)) (ev_un ev_c ru_neg) fun H' _ => ⟨.int _, rfl⟩) (eps_cons m2 (ep_V ev_c fun H' _ => ⟨.non, rfl⟩) (eps_cons m2 (ep_V ev_c fun H' _ => ⟨.str _, rfl⟩)
      (eps_cons m2 (ep_U (eu_tup (ea_cons ev_c ea_nil) (by show 1 ≤ _; decide)) fun p H' hp h => ⟨.tup (tp e1 hp h), rfl⟩) (eps_cons m2 (ep_L (el_lst (ea_cons ev_c ea_nil) (by show 1 ≤ _; decide)) fun p H' hp h => ⟨.lst (tl e1 hp h), rfl⟩)
      (eps_cons m2 (ep_V ev_c fun H' _ => ⟨.bl _, rfl⟩) (eps_cons m2 (ep_V (v := .int (-1 - fl)) (ev_op (ev_un ev_c ru_neg) (ev_var rfl) rv_I0) fun H' _ => ⟨.int _, decide_eq_false (by omega)⟩) eps_nil)))))))) m2 (by decide) fun l6 ns H2 hl6 e2 h6 n6 a6 => ?_
    have e12 := e1.trans e2
    have nl : ∀ {ys : List V} {p : Addr} {H' : Hp}, hid H' b p = some (.tup ys) → (∀ y ∈ ys, Any (hid H' b) y) → ys.length ≤ 1000 → ys.all isN = false → NumsIs (hid H' b) (.ref p) false := fun h a n z => by
      have := NumsIs.is (.tup h) a n
      rwa [z] at this
    refine q_asgP (n := 10) (A := fun v H' => NumsIs (hid H' b) v false) (eps_cons m3 (ep_L (el_lst (ea_cons ev_c ea_nil) (by show 1 ≤ _; decide)) fun p H' hp h => .notT (.lst (tl e12 hp h)))
      (eps_cons m3 (ep_U (xs := [.bl true]) (eu_tup (ea_cons ev_c ea_nil) (by show 1 ≤ _; decide)) fun p H' hp h => nl (tp e12 hp h) (fun y hy => by simp at hy; subst hy; exact .bl _) (by decide) rfl)
      (eps_cons m3 (ep_U (xs := [.int 0, .int (-1)]) (eu_tup (ea_cons ev_c (ea_cons (ev_un ev_c ru_neg) ea_nil)) (by show 2 ≤ _; decide)) fun p H' hp h => nl (tp e12 hp h) (fun y hy => by simp at hy; rcases hy with rfl | rfl <;> exact .int _) (by decide) rfl)
      (eps_cons m3 (ep_V ev_c fun H' _ => .notT .non) (eps_cons m3 (ep_V ev_c fun H' _ => .notT (.str _)) (eps_cons m3 (ep_V ev_c fun H' _ => .notT (.int _))
      (eps_cons m3 (fun H3 e3 Q' q' => ⟨sz_of (by show 1 ≤ _; decide), fun p hp => ⟨sz_of (by show 1 ≤ _; decide), fun p2 hp2 => q' (.ref p2) _ ((Ex.new hp).trans (Ex.new hp2)) (nl (tp (e12.trans e3) (H0 := H3) (fresh_back (Ex.new hp) hp2) upd_same) (fun y hy => by simp at hy; subst hy; exact .tup (tp (e12.trans e3) hp ((Ex.new hp2) _ _ upd_same))) (by show 1 ≤ 1000; decide) rfl)⟩⟩)
      (eps_cons m3 (ep_U (xs := [.int 0, .non]) (eu_tup (ea_cons ev_c (ea_cons ev_c ea_nil)) (by show 2 ≤ _; decide)) fun p H' hp h => nl (tp e12 hp h) (fun y hy => by simp at hy; rcases hy with rfl | rfl; exact .int _; exact .non) (by decide) rfl)
      (eps_cons m3 (ep_L (el_lst ea_nil (by decide)) fun p H' hp h => .notT (.lst (tl e12 hp h)))
      (eps_cons m3 (ep_U (xs := [.int 1, .bl false]) (eu_tup (ea_cons ev_c (ea_cons ev_c ea_nil)) (by show 2 ≤ _; decide)) fun p H' hp h => nl (tp e12 hp h) (fun y hy => by simp at hy; rcases hy with rfl | rfl; exact .int _; exact .bl _) (by decide) rfl) eps_nil)))))))))) m3 (by decide) fun l7 ls H3 hl7 e3 h7 n7 a7 => ?_
    have e13 := e12.trans e3
    have f3 := (fg.grow e13).hid.1
    have sub3 : Ex (hid H b) (hid H3 b) := hid_ex e13
    have b5 : hid H3 b l5 = some (.lst rs) := by rw [hid_ne (fg.fresh hl5)]; exact (e2.trans e3) _ _ h5
    have b6 : hid H3 b l6 = some (.lst ns) := by rw [hid_ne ((fg.grow e1).fresh hl6)]; exact e3 _ _ h6
    have b7 : hid H3 b l7 = some (.lst ls) := by rw [hid_ne ((fg.grow e12).fresh hl7)]; exact h7
    have a5 : ∀ v ∈ rs, RuleIs (hid H3 b) v false := fun v hv => m1 _ _ _ (e2.trans e3) (a5 v hv)
    have a6 : ∀ v ∈ ns, Any (hid H3 b) v ∧ isN v = false := fun v hv => m2 _ _ _ e3 (a6 v hv)
    have hr3 : RlG (hid H3 b) (.ref rp) wd e := hrl.mono sub3
    have fin : ∀ H', FG (hid H3 b) H' b → Q (.bl true) H' := fun H' z => k H' (z.less (sub.trans sub3))
    generalize hid H3 b = G3 at f3 b5 b6 b7 a5 a6 a7 hr3 fin
    clear hrp hrlH hrl sub3 sub wS
    refine t_at (vs := rs) (m := (rs.length : Int)) (ev_var (i := 5) rfl) b5 (fun _ _ => ev_var (i := 0) rfl) f3 (fun H4 e4 => ev_len (ev_var (i := 5) rfl) (sq_of (e4 _ _ (f3.ex _ _ b5)))) rfl (by omega) (by omega) fun pact H4 hpact f4 => ?_
    dsimp only [gName]
    refine t_at (vs := ns) (m := (ns.length : Int)) (ev_var (i := 6) rfl) b6 (fun _ _ => ev_var (i := 0) rfl) f4 (fun H5 e5 => ev_len (ev_var (i := 6) rfl) (sq_of (e5 _ _ (f4.ex _ _ b6)))) rfl (by omega) (by omega) fun bad H5 hbad f5 => ?_
    dsimp only [gName]
    have hact := a5 pact hpact
    obtain ⟨hbA, hbN⟩ := a6 bad hbad
    have ex5 := f5.ex
    let St : V → Option V → L2.St := fun x v => [some (.ref b), some (.ref rp), some (.int sp), some (.int fl), some (.int rf), some (.ref l5), some (.ref l6), some (.ref l7), some pact, some bad, v, none]
    let M : Nat → L2.St → Hp → Prop := fun i σ H' => ∃ v, σ = [some (.ref b), some (.ref rp), some (.int sp), some (.int fl), some (.int rf), some (.ref l5), some (.ref l6), some (.ref l7), some pact, some bad, v, none] ∧ Ex H5 H'
    have no : ∀ {σ H' te}, Ev te σ H' (.bl true) → EvT (tNot (tB te)) σ H' false := fun z => et_is (et_not (et_B z)) rfl
    have triv1 : ∀ {σ H'}, EvP (tLst (tCons (tC (.int 0)) tNil)) σ H' (fun _ _ => True) := ep_L (el_lst (ea_cons ev_c ea_nil) (by show 1 ≤ _; decide)) fun _ _ _ _ => trivial
    have lift : ∀ {te σ H'} {A : V → Hp → Prop}, EvP te σ H' (fun _ _ => True) → (∀ v H2, Ex H' H2 → A v H2) → EvP te σ H' A := fun h hA H1 x1 Q' q' => h H1 x1 _ fun v H2 x2 _ => q' v H2 x2 (hA v H2 (x1.trans x2))
    have triv2 : ∀ {σ H'}, EvP (tTup (tCons (tC (.bl true)) tNil)) σ H' (fun _ _ => True) := ep_U (eu_tup (ea_cons ev_c ea_nil) (by show 1 ≤ _; decide)) fun _ _ _ _ => trivial
    have triv3 : ∀ {σ H'}, EvP (tTup (tCons (tC (.int 0)) tNil)) σ H' (fun _ _ => True) := ep_U (eu_tup (ea_cons ev_c ea_nil) (by show 1 ≤ _; decide)) fun _ _ _ _ => trivial
    have triv4 : ∀ {σ H'}, EvP (tTupF tNil) σ H' (fun _ _ => True) := ep_F (ef_tup ea_nil (by decide)) fun _ _ _ _ => trivial
    -- for thing in lists
    refine q_forLn (xs := ls) (ev_var (i := 7) rfl) (sq_of (ex5 _ _ b7)) M (fun H6 e6 => ⟨none, rfl, e6⟩) ?_ ?_ ?_
    · rintro i σ H6 _ ⟨v, rfl, e6⟩
      exact sq_of ((ex5.trans e6) _ _ b7)
    · rintro i x σ H6 hi ⟨v, rfl, e6⟩
      have hx := a7 x (List.mem_of_getElem? hi)
      have x6 := ex5.trans e6
      have bG : ∀ H', Ex G3 H' → Bad H' (.ref rp) (.int sp) (.int fl) (.int rf) x "grades" := fun H' z => .grades (hr3.mono z) hsp h0 (most_is h0 h1 hy) (hx.mono z)
      refine q_when (b := false) (no (ev_refused (ev_var rfl) (ev_var rfl) (ev_var rfl) (ev_var rfl) (ep_V (ev_var rfl) fun H' z => bG H' (x6.trans z)))) (fun q => Bool.noConfusion q) fun _ H7 e7 => ?_
      have x7 := x6.trans e7
      refine s_when (b := false) (et_or (a := false) (b := false) (no (ev_offRefused (ev_var rfl) (ev_var rfl) (ep_V (ev_var rfl) fun H' z => .grades (hr3.mono (x7.trans z)) h0 (hx.mono (x7.trans z))))) fun _ =>
        no (ev_offRefused (ev_var rfl) (ev_var rfl) (ep_V (ev_var rfl) fun H' z => .settled (hr3.mono (x7.trans z)) (hbA.mono (x7.trans z)) hbN))) (fun q => Bool.noConfusion q) fun _ H8 e8 => ⟨_, rfl, (e6.trans e7).trans e8⟩
    rintro σ H6 ⟨v, rfl, e6⟩
    have x6 := ex5.trans e6
    -- for thing in none + [floor - 1]
    let M2 : Addr → Nat → L2.St → Hp → Prop := fun p i σ H' => ∃ v, σ = [some (.ref b), some (.ref rp), some (.int sp), some (.int fl), some (.int rf), some (.ref l5), some (.ref l6), some (.ref l7), some pact, some bad, v, none] ∧ Ex H6 H' ∧ H' p = some (.lst (ns ++ [.int (fl - 1)]))
    refine q_forNLn (xs := ns ++ [.int (fl - 1)]) (el_catL (ev_var (i := 6) rfl) (x6 _ _ b6) (el_lst (ea_cons (ev_op (ev_var rfl) ev_c rv_I0) ea_nil) (by show 1 ≤ _; decide)) (by simp; omega)) M2 (fun p H7 hp e7 h7 => ⟨_, rfl, e7, h7⟩) ?_ ?_ ?_
    · rintro p i σ H7 _ ⟨v, rfl, e7, h7⟩
      exact sq_of h7
    · rintro p i x σ H7 hi ⟨v, rfl, e7, h7⟩
      have x7 := x6.trans e7
      have hx : Any G3 x ∧ mostB wd fl x = false := by
        rcases List.mem_append.mp (List.mem_of_getElem? hi) with q | q
        · exact ⟨(a6 x q).1, most_no (a6 x q).2⟩
        · simp at q
          subst q
          refine ⟨.int _, ?_⟩
          show (_ && (decide (fl ≤ fl - 1) && _)) = false
          rw [show decide (fl ≤ fl - 1) = false from decide_eq_false (by omega)]
          simp
      exact s_when (b := false) (no (ev_refused (ev_var rfl) (ev_var rfl) (ev_var rfl) (ev_var rfl) (lift triv1 fun g H' z => .most (hr3.mono (x7.trans z)) hsp h0 (hx.1.mono (x7.trans z)) hx.2))) (fun q => Bool.noConfusion q) fun _ H8 e8 => ⟨_, rfl, e7.trans e8, e8 _ _ h7⟩
    rintro p7 σ H7 ⟨v, rfl, e7, _⟩
    have x7 := x6.trans e7
    -- for thing in none
    let M3 : Nat → L2.St → Hp → Prop := fun i σ H' => ∃ v, σ = [some (.ref b), some (.ref rp), some (.int sp), some (.int fl), some (.int rf), some (.ref l5), some (.ref l6), some (.ref l7), some pact, some bad, v, none] ∧ Ex H7 H'
    refine q_forLn (xs := ns) (ev_var (i := 6) rfl) (sq_of (x7 _ _ b6)) M3 (fun H8 e8 => ⟨_, rfl, e8⟩) ?_ ?_ ?_
    · rintro i σ H8 _ ⟨v, rfl, e8⟩
      exact sq_of ((x7.trans e8) _ _ b6)
    · rintro i x σ H8 hi ⟨v, rfl, e8⟩
      obtain ⟨hxA, hxN⟩ := a6 x (List.mem_of_getElem? hi)
      have x8 := x7.trans e8
      refine q_when (b := false) (no (ev_refused (ev_var rfl) (ev_var rfl) (ev_var rfl) (ev_var rfl) (lift triv2 fun g H' z => .least (hr3.mono (x8.trans z)) hsp (hxA.mono (x8.trans z)) hxN))) (fun q => Bool.noConfusion q) fun _ H9 e9 => ?_
      have x9 := x8.trans e9
      exact s_when (b := false) (no (ev_refused (ev_var rfl) (ev_var rfl) (ev_var rfl) (ev_var rfl) (ep_V ev_c fun H' z => .still (hr3.mono (x9.trans z)) (hxA.mono (x9.trans z)) hxN))) (fun q => Bool.noConfusion q) fun _ H10 e10 => ⟨_, rfl, (e8.trans e9).trans e10⟩
    rintro σ H8 ⟨v, rfl, e8⟩
    have x8 := x7.trans e8
    -- for thing in rules
    let M4 : Nat → L2.St → Hp → Prop := fun i σ H' => ∃ v, σ = [some (.ref b), some (.ref rp), some (.int sp), some (.int fl), some (.int rf), some (.ref l5), some (.ref l6), some (.ref l7), some pact, some bad, v, none] ∧ Ex H8 H'
    refine q_forLn (xs := rs) (ev_var (i := 5) rfl) (sq_of (x8 _ _ b5)) M4 (fun H9 e9 => ⟨_, rfl, e9⟩) ?_ ?_ ?_
    · rintro i σ H9 _ ⟨v, rfl, e9⟩
      exact sq_of ((x8.trans e9) _ _ b5)
    · rintro i x σ H9 hi ⟨v, rfl, e9⟩
      have hx := a5 x (List.mem_of_getElem? hi)
      have x9 := x8.trans e9
      exact s_when (b := false) (et_or (a := false) (b := false) (no (ev_refused (ev_var rfl) (ev_var rfl) (ev_var rfl) (ev_var rfl) (lift triv1 fun g H' z => .rule (hx.mono (x9.trans z))))) fun _ =>
        no (ev_offRefused (ev_var rfl) (ev_var rfl) (lift triv1 fun g H' z => .rule (hx.mono (x9.trans z))))) (fun q => Bool.noConfusion q) fun _ H10 e10 => ⟨_, rfl, e9.trans e10⟩
    rintro σ H9 ⟨v, rfl, e9⟩
    have x9 := x8.trans e9
    refine q_when (b := false) (no (ev_refusedU (xs := [.str "yes", .int 1]) (eu_tup (ea_cons ev_c (ea_cons ev_c ea_nil)) (by show 2 ≤ _; decide)) (ev_var rfl) (ev_var rfl) (ev_max2' ev_c (ev_var rfl)) triv4 fun p g H' h => .most (w := .yes) (e := 1) ⟨p, rfl, h, by decide⟩ hsp h0 (.int _) ?_)) (fun q => Bool.noConfusion q) fun _ H10 e10 => ?_
    · show (_ && (_ && (decide (Wd.yes ≠ .yes) || decide (max 2 rf ≤ 1)))) = false
      rw [show decide (max 2 rf ≤ 1) = false from decide_eq_false (by omega)]
      simp
    have x10 := x9.trans e10
    refine q_when (b := false) (no (ev_refused (ev_var rfl) (ev_var rfl) (ev_var rfl) (ev_var rfl) (lift triv3 fun g H' z => .rule (hact.mono (x10.trans z))))) (fun q => Bool.noConfusion q) fun _ H11 e11 => ?_
    have hc : ∀ {te σ H'}, EvU te σ H' [.str "low", .int 2] → EvU te σ H' [.str Wd.low.s, .int 2] := fun z => z
    refine q_asgL (el_leftU (K := K) (w := .low) (e := 2) (told := [0, 2]) (hc (eu_tup (ea_cons ev_c (ea_cons ev_c ea_nil)) (by show 2 ≤ _; decide))) (by decide) (ev_var rfl) ev_c ev_c (es_new (el_lst (ea_cons ev_c (ea_cons ev_c ea_nil)) (by show 2 ≤ _; decide))) (by decide) (by decide) (by decide) (by decide)) fun l H12 hl e12' h12 => ?_
    refine s_ret (ev_sameF (ef_lgU (w := .low) (e := 2) (told := [0, 2]) (hc (eu_tup (ea_cons ev_c (ea_cons ev_c ea_nil)) (by show 2 ≤ _; decide))) (by decide) (ev_var rfl) ev_c ev_c (ef_tup (ea_cons ev_c (ea_cons ev_c ea_nil)) (by show 2 ≤ _; decide)) (by decide) (by decide) hsp (by decide) (by decide) (by decide) (fun q => by cases q)) (ev_var rfl) (sq_of h12) (by have := left_len .low 2 sp 0 2 [0, 2]; omega)) fun H13 e13' => ?_
    exact fin H13 (f5.grow ((((((e6.trans e7).trans e8).trans e9).trans e10).trans e11).trans (e12'.trans e13')))
end
end K27
/-! ## P12 -/
set_option Elab.async false
set_option linter.all false
set_option maxRecDepth 100000
set_option maxHeartbeats 4000000
namespace K27
open PySem L2 Evl
section
variable {K : PySem.W.Frag} {σ : L2.St} {H : Hp} {t1 t2 t3 t4 t5 : TE} {t u : TT} {r : V} {w : Wd} {e sp fl rf : Int} {told : List Int}
theorem ev_walk {E : XK} (hrl : RlG H r w e) (h1 : Ev t1 σ H r) (h2 : Ev t2 σ H (.int sp)) (h3 : Ev t3 σ H (.int fl)) (h4 : Ev t4 σ H (.int rf)) (h5 : EvS t5 σ H (iv told)) (hz : told.length ≤ 40) (ok : Ok w e sp fl rf told) (b9 : 0 ≤ sp) (b0 : 0 ≤ fl) (b1 : fl ≤ rf) (b2 : rf ≤ 9) (b3 : w = .yes → rf ≤ 1) :
    Ev (tCall spWalk [] E (tCons t1 (tCons t2 (tCons t3 (tCons t4 (tCons t5 tNil)))))) σ H (.bl true) := fun H1 x1 Q q =>
  h1 H1 x1 _ fun H2 x2 => h2 H2 (x1.trans x2) _ fun H3 x3 => h3 H3 ((x1.trans x2).trans x3) _ fun H4 x4 => h4 H4 (((x1.trans x2).trans x3).trans x4) _ fun H5 x5 => h5 H5 ((((x1.trans x2).trans x3).trans x4).trans x5) _ fun p H6 x6 hp =>
    ⟨r, p, w, e, sp, fl, rf, told, rfl, hrl.mono (((((x1.trans x2).trans x3).trans x4).trans x5).trans x6), hp, hz, ok, b9, b0, b1, b2, b3, fun H7 x7 => q H7 (((((x2.trans x3).trans x4).trans x5).trans x6).trans x7)⟩
theorem t_andD {a : Bool} {Q : Bool → Hp → Prop} (h : EvT t σ H a) (h1 : a = true → ∀ H1, Ex H H1 → u σ H1 Q) (h2 : a = false → ∀ H1, Ex H H1 → Q false H1) : tAnd t u σ H Q := h H (Ex.refl H) _ fun H1 e1 => by
  cases a with
  | true => exact h1 rfl H1 e1
  | false => exact h2 rfl H1 e1
theorem t_callD {sp : Sp} {dvs vs : List V} {E : XK} {ta : TA} {Q : VK} (h : EvA ta σ H vs) (q : ∀ H', Ex H H' → sp (vs ++ dvs) H' Q E) : tCall sp dvs E ta σ H Q := h H (Ex.refl H) _ q
theorem cut_min (ns : List Int) (k : Nat) : cutV (iv ns) none (some (k : Int)) = iv (ns.take k) := by
  unfold cutV
  rw [HT.sIx_nat, HT.sIx_none, iv_len]
  unfold iv
  rw [List.drop_zero, Nat.sub_zero, ← List.map_take]
  exact congrArg _ List.take_eq_take_min.symm
end
abbrev s_law : Stmt := top 37
abbrev N_law : List Str := ["_law_script", "_law_feed_here", "_law_k", "_law_words_here", "_law_spare", "_law_ends", "_law_told", "_law_scene"]
theorem sc_law : FnScope N_law ["_law_script"] (defScope s_law) := ⟨rfl, rfl, rfl, by decide +kernel, rfl, by decide +kernel, by decide +kernel⟩
def spLaw (K : PySem.W.Frag) : Sp := fun vs H Q _ => ∃ (a : Addr) (ns : List Int), vs = [.ref a] ∧ SqL K H a (ns.map V.int) ∧ ns.length ≤ 63 ∧ ∀ H', Q (.bl true) H'
section
variable {P : Program} {w : World} {K : PySem.W.Frag} {mg : Str → Option Value} {base : Heap}
theorem ok_law {f : Addr} {fd : FuncData} (F : Fun K "law" "law" s_law f fd) (T : Txt mg) (D__law_feed : Dn P w K mg base CX0 1 "_law_feed" ["_law_script"] (spFeed K)) (D__law_take : Dn P w K mg base CX0 1 "_law_take" ["_law_feed_here", "_law_many"] spTake) (D__law_words : Dn P w K mg base CX0 2 "_law_words" ["_law_feed_here"] spWords)
    (D__law_range : Dn P w K mg base CX0 2 "_law_range" ["_law_feed_here", "_law_words_here"] spRange) (D__law_stream : Dn P w K mg base CX0 3 "_law_stream" ["_law_feed_here", "_law_words_here", "_law_spare", "_law_floor", "_law_roof"] spStream)
    (D__law_walk : Dn P w K mg base CX0 7 "_law_walk" ["_law_words_here", "_law_spare", "_law_floor", "_law_roof", "_law_told"] spWalk) (D__law_rows : Dn P w K mg base CX0 7 "_law_rows" ["_law_feed_here", "_law_words_here", "_law_spare", "_law_floor", "_law_roof"] spRows)
    (D__law_refuses : Dn P w K mg base CX0 8 "_law_refuses" ["_law_feed_here", "_law_words_here", "_law_spare", "_law_floor", "_law_roof"] spRefuses) : FnOk P w K mg base CX0 9 f fd ["_law_script"] (spLaw K) := by
  refine F.ok sc_law (fun vs H Q E h => ?_) (fun cdv A outer s H vs Q E hr h => ?_)
  · obtain ⟨_, _, rfl, _⟩ := h
    rfl
  · obtain ⟨a, ns, rfl, ha, hns, k⟩ := h
    refine ⟨_, (pss_cons (ps_set (i := 1) sc_law.nd rfl (Or.inl rfl) (pe_call D__law_feed.ok (hr.mono (by decide)) (by rfl) D__law_feed.g D__law_feed.kp D__law_feed.b .nil pass0 (pa_cons (pv 0) pa_nil)))
    (pss_cons (ps_for PassesOwn.never rfl (pi_range1 (by rfl) T.range (pa_cons pe_int pa_nil)) (pg_name (i := 2) sc_law.nd rfl (Or.inl rfl))
       (pss_cons (ps_set (i := 3) sc_law.nd rfl (Or.inl rfl) (pe_call D__law_words.ok (hr.mono (by decide)) (by rfl) D__law_words.g D__law_words.kp D__law_words.b .nil pass0 (pa_cons (pv 1) pa_nil)))
      (pss_cons (ps_set (i := 4) sc_law.nd rfl (Or.inl rfl) (pe_ix (iL K) (pe_lst (pa_cons pe_int (pa_cons pe_int (pa_cons pe_int (pa_cons pe_int (pa_cons pe_int (pa_cons (pe_ix (iT K) (pv 3) pe_int (fun _ _ => rfl)) pa_nil))))))) (pe_call D__law_take.ok (hr.mono (by decide)) (by rfl) D__law_take.g D__law_take.kp D__law_take.b .nil pass0 (pa_cons (pv 1) (pa_cons pe_int pa_nil))) (fun _ _ => rfl)))
      (Evl.pss_cut (ps_if (pt_cmpR op_eq (pe_call D__law_take.ok (hr.mono (by decide)) (by rfl) D__law_take.g D__law_take.kp D__law_take.b .nil pass0 (pa_cons (pv 1) (pa_cons pe_int pa_nil))) pe_int (nomark _))
         (pss_one (ps_set (i := 4) sc_law.nd rfl (Or.inl rfl) (pe_op op_add (pe_op op_pow pe_int pe_int) (pe_call D__law_take.ok (hr.mono (by decide)) (by rfl) D__law_take.g D__law_take.kp D__law_take.b .nil pass0 (pa_cons (pv 1) (pa_cons pe_int pa_nil))))))
         pss_nil)
      (pss_cons (ps_set (i := 5) sc_law.nd rfl (Or.inl rfl) (pe_call D__law_range.ok (hr.mono (by decide)) (by rfl) D__law_range.g D__law_range.kp D__law_range.b .nil pass0 (pa_cons (pv 1) (pa_cons (pv 3) pa_nil))))
      (pss_cons (ps_set (i := 6) sc_law.nd rfl (Or.inl rfl) (pe_call D__law_stream.ok (hr.mono (by decide)) (by rfl) D__law_stream.g D__law_stream.kp D__law_stream.b .nil pass0 (pa_cons (pv 1) (pa_cons (pv 3) (pa_cons (pv 4) (pa_cons (pe_ix (iL K) (pv 5) pe_int (fun _ _ => rfl)) (pa_cons (pe_ix (iL K) (pv 5) pe_int (fun _ _ => rfl)) pa_nil)))))))
      (pss_cons (ps_if (pt_not (pt_val (pe_call D__law_walk.ok (hr.mono (by decide)) (by rfl) D__law_walk.g D__law_walk.kp D__law_walk.b .nil pass0 (pa_cons (pv 3) (pa_cons (pv 4) (pa_cons (pe_ix (iL K) (pv 5) pe_int (fun _ _ => rfl)) (pa_cons (pe_ix (iL K) (pv 5) pe_int (fun _ _ => rfl)) (pa_cons (pv 6) pa_nil))))))))
         (pss_one (ps_ret pe_bl))
         pss_nil)
      (pss_cons (ps_set (i := 7) sc_law.nd rfl (Or.inl rfl) (pe_call D__law_take.ok (hr.mono (by decide)) (by rfl) D__law_take.g D__law_take.kp D__law_take.b .nil pass0 (pa_cons (pv 1) (pa_cons pe_int pa_nil))))
      (Evl.pss_cut (ps_if (PW.pt (pw_and (pt_cmpR op_lt (pv 7) pe_int (nomark _)) (pw_and1 (pt_not (pt_val (pe_call D__law_rows.ok (hr.mono (by decide)) (by rfl) D__law_rows.g D__law_rows.kp D__law_rows.b .nil pass0 (pa_cons (pv 1) (pa_cons (pv 3) (pa_cons (pv 4) (pa_cons (pe_ix (iL K) (pv 5) pe_int (fun _ _ => rfl)) (pa_cons (pe_ix (iL K) (pv 5) pe_int (fun _ _ => rfl)) pa_nil)))))))))))
         (pss_one (ps_ret pe_bl))
         pss_nil)
      (Evl.pss_cut (ps_if (PW.pt (pw_and (pt_cmpR op_eq (pv 7) pe_int (nomark _)) (pw_and1 (pt_not (pt_val (pe_call D__law_refuses.ok (hr.mono (by decide)) (by rfl) D__law_refuses.g D__law_refuses.kp D__law_refuses.b .nil pass0 (pa_cons (pv 1) (pa_cons (pv 3) (pa_cons (pv 4) (pa_cons (pe_ix (iL K) (pv 5) pe_int (fun _ _ => rfl)) (pa_cons (pe_ix (iL K) (pv 5) pe_int (fun _ _ => rfl)) pa_nil)))))))))))
         (pss_one (ps_ret pe_bl))
         pss_nil)
      (pss_one (ps_if (pt_not (pt_val (pe_call D__law_walk.ok (hr.mono (by decide)) (by rfl) D__law_walk.g D__law_walk.kp D__law_walk.b .nil pass0 (pa_cons (pv 3) (pa_cons (pv 4) (pa_cons (pe_ix (iL K) (pv 5) pe_int (fun _ _ => rfl)) (pa_cons (pe_ix (iL K) (pv 5) pe_int (fun _ _ => rfl)) (pa_cons (pe_slice (slL K) (pv 6) po_none (po_some pe_int)) pa_nil))))))))
         (pss_one (ps_ret pe_bl))
         pss_nil))))))))))))
    (pss_one (ps_ret pe_bl)))), ?_⟩
    refine ⟨_, rfl, a, ns, rfl, ha, hns, fun b H1 f1 => ?_⟩
    dsimp only [gName]
    let E0 : Hp := fun _ => none
    have none0 : ∀ G, Ex E0 G := fun G x o z => by cases z
    have f1 : FG E0 H1 b := f1.less (none0 _)
    let M : Nat → L2.St → Hp → Prop := fun i σ H' => ∃ (v2 v3 v4 v5 v6 v7 : Option V), σ = [some (.ref a), some (.ref b), v2, v3, v4, v5, v6, v7] ∧ FG E0 H' b
    refine q_forR1 (n := 2) (ea_cons ev_c ea_nil) (by decide) M (fun H2 e2 => ⟨_, _, _, _, _, _, rfl, f1.grow e2⟩) ?_ ?_
    · rintro i σ H2 hi ⟨v2, v3, v4, v5, v6, v7, rfl, f2⟩
      refine ⟨_, rfl, E0, b, rfl, f2, fun p wd e H3 hp he0 he9 f3 => ?_⟩
      dsimp only [gName]
      have hrl : RlG (upd E0 p (.tup [.str wd.s, .int e])) (.ref p) wd e := ⟨p, rfl, upd_same, he0⟩
      generalize upd E0 p (.tup [.str wd.s, .int e]) = G1 at f3 hrl
      obtain ⟨rp, hrr, hrp, _⟩ := hrl.at f3
      cases hrr
      refine t_pick (ns := [1, 0, 2, 4, 9, e]) (ea_cons ev_c (ea_cons ev_c (ea_cons ev_c (ea_cons ev_c (ea_cons ev_c (ea_cons (ev_ixT (ev_var (i := 3) rfl) ev_c (st_of hrp) (atI_nat (j := 1) rfl)) ea_nil)))))) (by show 6 ≤ 1000; decide) (fun _ _ => ev_var (i := 1) rfl) f3 rfl (by show 1 ≤ 6; decide) fun x H4 hx f4 => ?_
      dsimp only [gName]
      have hx0 : 0 ≤ x := by simp at hx; omega
      let M1 : L2.St → Hp → Prop := fun σ H' => ∃ (sp : Int), σ = [some (.ref a), some (.ref b), some (.int ((i : Nat) : Int)), some (.ref p), some (.int sp), v5, v6, v7] ∧ 0 ≤ sp ∧ FG G1 H' b
      refine q_cut (M := M1) ?_ ?_
      · refine t_take (m := 16) (ev_var (i := 1) rfl) ev_c f4 (by decide) fun d H5 d0 d1 f5 => ⟨rfl, _, rfl, ?_⟩
        refine ite2 (fun _ => ?_) (fun _ => ⟨x, rfl, hx0, f5⟩)
        refine (ev_op (ev_c (v := .int 10)) (ev_c (v := .int 40)) (rv_I ⟨by decide, by decide, by decide⟩)) H5 (Ex.refl H5) _ fun H6 e6 => ?_
        refine t_take (m := 100) (ev_var (i := 1) rfl) ev_c (f5.grow e6) (by decide) fun u H7 u0 u1 f7 => ⟨_, _, rfl, rfl, ?_⟩
        exact ⟨_, rfl, by have : (0 : Int) ≤ 10 ^ (40 : Int).toNat := by decide
                          omega, f7⟩
      rintro σ H5 ⟨sp, rfl, hsp, f5⟩
      -- ends
      refine ⟨_, rfl, _, rfl, G1, b, _, wd, e, rfl, f5, hrl, fun p2 fl rf H6 hp2 h0 h1 h2 hy f6 => ?_⟩
      dsimp only [gName]
      have hrl2 : RlG (upd G1 p2 (.lst [.int fl, .int rf])) (.ref p) wd e := hrl.mono (Ex.new hp2)
      have hends : (upd G1 p2 (.lst [.int fl, .int rf])) p2 = some (.lst [.int fl, .int rf]) := upd_same
      generalize upd G1 p2 (.lst [.int fl, .int rf]) = G2 at f6 hrl2 hends
      have eA : ∀ {σ : L2.St} {G H'}, σ[5]? = some (some (.ref p2)) → Ex G2 G → FG G H' b → Ev (tOp (rIxL K) (tVar 5) (tC (.int 0))) σ H' (.int fl) := fun hs x f => ev_ixL (ev_var hs) ev_c (sq_of ((x.trans f.ex) _ _ hends)) (atI_nat (j := 0) rfl)
      have eB : ∀ {σ : L2.St} {G H'}, σ[5]? = some (some (.ref p2)) → Ex G2 G → FG G H' b → Ev (tOp (rIxL K) (tVar 5) (tC (.int 1))) σ H' (.int rf) := fun hs x f => ev_ixL (ev_var hs) ev_c (sq_of ((x.trans f.ex) _ _ hends)) (atI_nat (j := 1) rfl)
      have r2 := Ex.refl G2
      -- told
      refine t_callD (ea_cons (ev_var (i := 1) rfl) (ea_cons (ev_var (i := 3) rfl) (ea_cons (ev_var (i := 4) rfl) (ea_cons (eA rfl r2 f6) (ea_cons (eB rfl r2 f6) ea_nil))))) fun H7 e7 => ?_
      refine ⟨G2, b, .ref p, wd, e, sp, fl, rf, rfl, f6.grow e7, hrl2, h0, h1, h2, hy, fun t told H8 ht ok hz f8 => ?_⟩
      dsimp only [gName]
      have x3 : Ex G2 (upd G2 t (.lst (iv told))) := Ex.new ht
      have hrl3 := hrl2.mono x3
      have htold : (upd G2 t (.lst (iv told))) t = some (.lst (iv told)) := upd_same
      generalize upd G2 t (.lst (iv told)) = G3 at f8 x3 hrl3 htold
      refine q_when (b := false) (et_is (et_not (et_B (ev_walk (hrl3.at f8) (ev_var rfl) (ev_var rfl) (eA rfl x3 f8) (eB rfl x3 f8) (es_var (ev_var rfl) (f8.ex _ _ htold)) hz ok hsp h0 h1 h2 hy))) rfl) (fun q => Bool.noConfusion q) fun _ H9 e9 => ?_
      refine t_take (m := 6) (ev_var (i := 1) rfl) ev_c (f8.grow e9) (by decide) fun sc H10 _ _ f10 => ?_
      dsimp only [gName]
      let M2 : L2.St → Hp → Prop := fun σ H' => σ = [some (.ref a), some (.ref b), some (.int ((i : Nat) : Int)), some (.ref p), some (.int sp), some (.ref p2), some (.ref t), some (.int sc)] ∧ FG G3 H' b
      refine q_cut (M := M2) ?_ ?_
      · refine t_andD (et_test (ev_op (ev_var rfl) ev_c rv_I0)) (fun _ H11 e11 => ?_) fun _ H11 e11 => ⟨rfl, f10.grow e11⟩
        have f11 := f10.grow e11
        refine t_callD (ea_cons (ev_var (i := 1) rfl) (ea_cons (ev_var (i := 3) rfl) (ea_cons (ev_var (i := 4) rfl) (ea_cons (eA rfl x3 f11) (ea_cons (eB rfl x3 f11) ea_nil))))) fun H12 e12 => ?_
        exact ⟨G3, b, .ref p, wd, e, sp, fl, rf, rfl, f11.grow e12, hrl3, hsp, h0, h1, h2, hy, fun H13 f13 => ⟨true, rfl, rfl, f13⟩⟩
      rintro σ H11 ⟨rfl, f11⟩
      refine q_cut (M := M2) ?_ ?_
      · refine t_andD (et_test (ev_op (ev_var rfl) ev_c rv_eqI)) (fun _ H12 e12 => ?_) fun _ H12 e12 => ⟨rfl, f11.grow e12⟩
        have f12 := f11.grow e12
        refine t_callD (ea_cons (ev_var (i := 1) rfl) (ea_cons (ev_var (i := 3) rfl) (ea_cons (ev_var (i := 4) rfl) (ea_cons (eA rfl x3 f12) (ea_cons (eB rfl x3 f12) ea_nil))))) fun H13 e13 => ?_
        exact ⟨G3, b, .ref p, wd, e, sp, fl, rf, rfl, f12.grow e13, hrl3, hsp, h0, h1, h2, hy, fun H14 f14 => ⟨true, rfl, rfl, f14⟩⟩
      rintro σ H12 ⟨rfl, f12⟩
      refine s_when (b := false) (et_is (et_not (et_B (ev_walk (told := told.take 3) (hrl3.at f12) (ev_var rfl) (ev_var rfl) (eA rfl x3 f12) (eB rfl x3 f12) (es_new (el_is (el_sl (ev_var rfl) eo_none (eo_some ev_c) (sq_of (f12.ex _ _ htold))) (cut_min told 3))) (by rw [List.length_take]; omega) (ok.take 3) hsp h0 h1 h2 hy))) rfl) (fun q => Bool.noConfusion q) fun _ H13 e13 => ?_
      exact ⟨_, _, _, _, _, _, rfl, (f12.grow e13).less (none0 _)⟩
    · rintro σ H2 ⟨v2, v3, v4, v5, v6, v7, rfl, f2⟩
      exact s_ret ev_c fun H3 e3 => k H3
end
end K27
/-! ## P13 -/
set_option Elab.async false
set_option linter.all false
set_option maxRecDepth 100000
set_option maxHeartbeats 4000000
namespace K27
open PySem L2 Evl PyProof.Rows
/-- a def as it stands behind the top -/
def Df (K : PySem.W.Frag) (x : Str) (st : Stmt) : Prop := ∃ (f : Addr) (oc : Value) (od an : Option Addr) (kV dc pm cd ct : Value) (sl : Array (Option Value)), PySem.W.nsIn K mainGlobals x = some (some (.ref f)) ∧
  K.lookup f = some ⟨oc, od, .func (PySem.W.fnOf x x (defArgs st) (defBody st) (defScope st) .none kV dc pm an cd ct), sl⟩ ∧ PySem.W.codeIn K cd x = true ∧ PySem.W.keepIn K (.ref f) = true
theorem Df.mk {K : PySem.W.Frag} {x : Str} {st : Stmt} {f : Addr} {oc : Value} {od an : Option Addr} {kV dc pm cd ct : Value} {sl : Array (Option Value)} (a : PySem.W.nsIn K mainGlobals x = some (some (.ref f)))
    (l : K.lookup f = some ⟨oc, od, .func (PySem.W.fnOf x x (defArgs st) (defBody st) (defScope st) .none kV dc pm an cd ct), sl⟩) (c : PySem.W.codeIn K cd x = true) (k : PySem.W.keepIn K (.ref f) = true) : Df K x st := ⟨f, oc, od, an, kV, dc, pm, cd, ct, sl, a, l, c, k⟩
theorem Df.use {K : PySem.W.Frag} {h : Heap} {mg : Str → Option Value} {x : Str} {st : Stmt} (d : Df K x st) (X : K.In h) (G : h.Ns mainGlobals mg) : ∃ (f : Addr) (fd : FuncData), mg x = some (.ref f) ∧ Fun K x x st f fd := by
  obtain ⟨f, oc, od, an, kV, dc, pm, cd, ct, sl, a, l, c, k⟩ := d
  exact ⟨f, _, PySem.W.mg_of X G a, fun_mk (st := st) l c k⟩
/-- an error of the class at S is what «except S» names -/
theorem exm_self {K : PySem.W.Frag} {S : Addr} (h1 : PySem.W.subIn K (.ref S) (.type "BaseException") = some true) (h2 : PySem.W.isClsIn K S = true) (h3 : PySem.W.typeIn K (.ref S) = some (.type "type")) (h4 : PySem.W.subIn K (.ref S) (.ref S) = some true) :
    PySem.W.exmOne K (.ref S) (.ref S) = some true := by
  have e1 : (PySem.W.subIn K (.ref S) (.type "BaseException") == some true) = true := by rw [h1] <;> rfl
  have e2 : ((PySem.W.clsIn K S).isSome && PySem.W.typeIn K (.ref S) == some (.type "type")) = true := by
    have h2' : (PySem.W.clsIn K S).isSome = true := h2
    rw [h2', h3] <;> rfl
  show (if (PySem.W.subIn K (.ref S) (.type "BaseException") == some true) = true then (if ((PySem.W.clsIn K S).isSome && PySem.W.typeIn K (.ref S) == some (.type "type")) = true then PySem.W.subIn K (.ref S) (.ref S) else none) else none) = some true
  rw [if_pos e1, if_pos e2]
  exact h4
/-- the class NotUsable and its __init__ -/
def NuAt (K : PySem.W.Frag) : Prop := ∃ (C fI : Addr) (nm q : Str) (N : Addr) (bs bm : List Value) (sn : List Str) (sub : List Value) (ab : Bool) (col : Option Bool) (dd : Option Addr) (m0 m1 m2 m3 m5 : Option Value) (oc : Value) (od an : Option Addr) (kV dc pm cd ct : Value) (sl : Array (Option Value)),
  PySem.W.nsIn K mainGlobals "NotUsable" = some (some (.ref C)) ∧ K.lookup C = some (excClassObj nm q C N bs bm true sn sub ab col dd m0 m1 m2 m3 m5 "ValueError.__new__") ∧ PySem.HandSPX.refsVE bm = true ∧
  PySem.W.findIn K (.ref C) "__setattr__" = some (some (.builtin "object.__setattr__")) ∧ PySem.W.findIn K (.ref C) "__getattribute__" = some (some (.builtin "BaseException.__getattribute__")) ∧ PySem.W.findIn K (.ref C) "__getattr__" = some none ∧
  PySem.W.findIn K (.ref C) "word" = some none ∧ PySem.W.findIn K (.ref C) "at" = some none ∧ PySem.W.findIn K (.ref C) "__init__" = some (some (.ref fI)) ∧ PySem.W.typeIn K (.ref fI) = some (.type "function") ∧
  K.lookup fI = some ⟨oc, od, .func (PySem.W.fnOf "__init__" "NotUsable.__init__" (defArgs s_nu_init) (defBody s_nu_init) (defScope s_nu_init) .none kV dc pm an cd ct), sl⟩ ∧ PySem.W.codeIn K cd "NotUsable.__init__" = true ∧ PySem.W.keepIn K (.ref fI) = true ∧
  PySem.W.keepIn K (.ref C) = true ∧ PySem.W.subIn K (.ref C) (.type "BaseException") = some true ∧ PySem.W.typeIn K (.ref C) = some (.type "type") ∧ PySem.W.hasDictIn K C = true ∧ PySem.W.isClsIn K C = true ∧ PySem.W.subIn K (.ref C) (.ref C) = some true
theorem NuAt.mk {K : PySem.W.Frag} {C fI : Addr} {nm q : Str} {N : Addr} {bs bm : List Value} {sn : List Str} {sub : List Value} {ab : Bool} {col : Option Bool} {dd : Option Addr} {m0 m1 m2 m3 m5 : Option Value} {oc : Value} {od an : Option Addr} {kV dc pm cd ct : Value} {sl : Array (Option Value)}
    (aC : PySem.W.nsIn K mainGlobals "NotUsable" = some (some (.ref C))) (xL : K.lookup C = some (excClassObj nm q C N bs bm true sn sub ab col dd m0 m1 m2 m3 m5 "ValueError.__new__")) (rv : PySem.HandSPX.refsVE bm = true)
    (sa : PySem.W.findIn K (.ref C) "__setattr__" = some (some (.builtin "object.__setattr__"))) (ga : PySem.W.findIn K (.ref C) "__getattribute__" = some (some (.builtin "BaseException.__getattribute__"))) (gg : PySem.W.findIn K (.ref C) "__getattr__" = some none)
    (nw : PySem.W.findIn K (.ref C) "word" = some none) (na : PySem.W.findIn K (.ref C) "at" = some none) (a1 : PySem.W.findIn K (.ref C) "__init__" = some (some (.ref fI))) (t1 : PySem.W.typeIn K (.ref fI) = some (.type "function"))
    (l1 : K.lookup fI = some ⟨oc, od, .func (PySem.W.fnOf "__init__" "NotUsable.__init__" (defArgs s_nu_init) (defBody s_nu_init) (defScope s_nu_init) .none kV dc pm an cd ct), sl⟩) (c1 : PySem.W.codeIn K cd "NotUsable.__init__" = true) (k1 : PySem.W.keepIn K (.ref fI) = true)
    (kC : PySem.W.keepIn K (.ref C) = true) (eC : PySem.W.subIn K (.ref C) (.type "BaseException") = some true) (tC : PySem.W.typeIn K (.ref C) = some (.type "type")) (hC : PySem.W.hasDictIn K C = true) (iC : PySem.W.isClsIn K C = true) (sC : PySem.W.subIn K (.ref C) (.ref C) = some true) : NuAt K :=
  ⟨C, fI, nm, q, N, bs, bm, sn, sub, ab, col, dd, m0, m1, m2, m3, m5, oc, od, an, kV, dc, pm, cd, ct, sl, aC, xL, rv, sa, ga, gg, nw, na, a1, t1, l1, c1, k1, kC, eC, tC, hC, iC, sC⟩
theorem NuAt.use {K : PySem.W.Frag} {h : Heap} {mg : Str → Option Value} (d : NuAt K) (X : K.In h) (G : h.Ns mainGlobals mg) : ∃ (C fI : Addr) (fdI : FuncData), Nu K mg C fI ∧ Fun K "__init__" "NotUsable.__init__" s_nu_init fI fdI := by
  obtain ⟨C, fI, nm, q, N, bs, bm, sn, sub, ab, col, dd, m0, m1, m2, m3, m5, oc, od, an, kV, dc, pm, cd, ct, sl, aC, xL, rv, sa, ga, gg, nw, na, a1, t1, l1, c1, k1, kC, eC, tC, hC, iC, sC⟩ := d
  exact ⟨C, fI, _, ⟨⟨⟨nm, q, N, bs, bm, sn, sub, ab, col, dd, m0, m1, m2, m3, m5, xL, rv⟩, sa, eC, tC, kC⟩, ⟨ga, gg, eC, hC⟩, a1, t1, nw, na, PySem.W.mg_of X G aC, exm_self eC iC tC sC⟩, fun_mk (st := s_nu_init) l1 c1 k1⟩
/-- what its errors are instances of -/
def ErAt (K : PySem.W.Frag) : Prop := ∃ (C U : Addr), PySem.W.nsIn K mainGlobals "NotUsable" = some (some (.ref C)) ∧ PySem.W.nsIn K mainGlobals "UseError" = some (some (.ref U)) ∧ PySem.W.isClsIn K C = true ∧ PySem.W.findIn K (.ref C) "__class__" = some (some (.builtin "object.__class__")) ∧
  PySem.W.specialIn K (.builtin "object.__class__") "__get__" = some (some (.builtin "getset_descriptor.__get__")) ∧ PySem.W.takesIn K (.builtin "object.__class__") = some true ∧ PySem.W.mroIn K C (.type "object") = some true ∧
  PySem.W.isClsIn K U = true ∧ PySem.W.typeIn K (.ref U) = some (.type "type") ∧ PySem.W.subIn K (.ref C) (.ref U) = some true ∧ PySem.W.subIn K (.ref C) (.type "ValueError") = some true
theorem ErAt.mk {K : PySem.W.Frag} {C U : Addr} (a1 : PySem.W.nsIn K mainGlobals "NotUsable" = some (some (.ref C))) (a2 : PySem.W.nsIn K mainGlobals "UseError" = some (some (.ref U))) (a3 : PySem.W.isClsIn K C = true) (a4 : PySem.W.findIn K (.ref C) "__class__" = some (some (.builtin "object.__class__")))
    (a5 : PySem.W.specialIn K (.builtin "object.__class__") "__get__" = some (some (.builtin "getset_descriptor.__get__"))) (a6 : PySem.W.takesIn K (.builtin "object.__class__") = some true) (a7 : PySem.W.mroIn K C (.type "object") = some true)
    (a8 : PySem.W.isClsIn K U = true) (a9 : PySem.W.typeIn K (.ref U) = some (.type "type")) (b1 : PySem.W.subIn K (.ref C) (.ref U) = some true) (b2 : PySem.W.subIn K (.ref C) (.type "ValueError") = some true) : ErAt K := ⟨C, U, a1, a2, a3, a4, a5, a6, a7, a8, a9, b1, b2⟩
theorem kit_own {K : PySem.W.Frag} {C U : Addr} (a8 : PySem.W.isClsIn K U = true) (a9 : PySem.W.typeIn K (.ref U) = some (.type "type")) (b1 : PySem.W.subIn K (.ref C) (.ref U) = some true) : PySem.W.kitOne K (.ref C) (.ref U) = some true := by
  have e2 : ((PySem.W.clsIn K U).isSome && PySem.W.typeIn K (.ref U) == some (.type "type")) = true := by
    have z : (PySem.W.clsIn K U).isSome = true := a8
    rw [z, a9] <;> rfl
  have e3 : PySem.W.kitCls K (.ref C) (.ref U) = some true := by
    show (if ((PySem.W.clsIn K U).isSome && PySem.W.typeIn K (.ref U) == some (.type "type")) = true then PySem.W.subIn K (.ref C) (.ref U) else none) = some true
    rw [if_pos e2]
    exact b1
  unfold PySem.W.kitOne
  rw [e3]
  split <;> rfl
theorem kit_ve {K : PySem.W.Frag} {C : Addr} (b2 : PySem.W.subIn K (.ref C) (.type "ValueError") = some true) : PySem.W.kitOne K (.ref C) (.type "ValueError") = some true := by
  have m : PySem.W.kitMeta "ValueError" = true := by decide +kernel
  have e3 : PySem.W.kitCls K (.ref C) (.type "ValueError") = some true := by
    show (if PySem.W.kitMeta "ValueError" = true then PySem.W.subIn K (.ref C) (.type "ValueError") else none) = some true
    rw [if_pos m]
    exact b2
  unfold PySem.W.kitOne
  rw [e3]
  split <;> rfl
theorem ErAt.use {K : PySem.W.Frag} {h : Heap} {mg : Str → Option Value} {C : Addr} (d : ErAt K) (X : K.In h) (G : h.Ns mainGlobals mg) (gC : mg "NotUsable" = some (.ref C)) : ∃ U, Er K mg C U := by
  obtain ⟨C2, U, a1, a2, a3, a4, a5, a6, a7, a8, a9, b1, b2⟩ := d
  have e := gC.symm.trans (PySem.W.mg_of X G a1)
  cases e
  exact ⟨U, ⟨a3, a4, a5, a6, a7⟩, PySem.W.mg_of X G a2, kit_own a8 a9 b1, kit_ve b2⟩
/-- the words -/
def WdAt (K : PySem.W.Frag) : Prop := ∃ (wA : Addr) (dd : Option Addr) (n : Nat) (sl : Array (Option Value)) (t0 t1 t2 t3 : Tok), PySem.W.nsIn K mainGlobals "WORDS" = some (some (.ref wA)) ∧ K.lookup wA = some ⟨.type "tuple", dd, .seq #[.str "all" t0, .str "each" t1, .str "low" t2, .str "yes" t3] n, sl⟩
theorem WdAt.mk {K : PySem.W.Frag} {wA : Addr} {dd : Option Addr} {n : Nat} {sl : Array (Option Value)} {t0 t1 t2 t3 : Tok} (a : PySem.W.nsIn K mainGlobals "WORDS" = some (some (.ref wA))) (l : K.lookup wA = some ⟨.type "tuple", dd, .seq #[.str "all" t0, .str "each" t1, .str "low" t2, .str "yes" t3] n, sl⟩) : WdAt K := ⟨wA, dd, n, sl, t0, t1, t2, t3, a, l⟩
theorem WdAt.use {K : PySem.W.Frag} {h : Heap} {mg : Str → Option Value} (d : WdAt K) (X : K.In h) (G : h.Ns mainGlobals mg) : ∃ wA, Wds K mg wA := by
  obtain ⟨wA, dd, n, sl, t0, t1, t2, t3, a, l⟩ := d
  exact ⟨wA, PySem.W.mg_of X G a, fun H => Or.inr ⟨_, _, n, l, rfl, rfl, by show 4 ≤ _; exact Nat.le_trans (by decide) (sz_of (n := 4) (by decide)), .cons ⟨t0, rfl⟩ (.cons ⟨t1, rfl⟩ (.cons ⟨t2, rfl⟩ (.cons ⟨t3, rfl⟩ .nil)))⟩⟩
structure Free (K : PySem.W.Frag) : Prop where
  len : PySem.W.nsIn K mainGlobals "len" = some none
  range : PySem.W.nsIn K mainGlobals "range" = some none
  max : PySem.W.nsIn K mainGlobals "max" = some none
  min : PySem.W.nsIn K mainGlobals "min" = some none
  isinstance : PySem.W.nsIn K mainGlobals "isinstance" = some none
  tuple : PySem.W.nsIn K mainGlobals "tuple" = some none
  int : PySem.W.nsIn K mainGlobals "int" = some none
  bool : PySem.W.nsIn K mainGlobals "bool" = some none
  str : PySem.W.nsIn K mainGlobals "str" = some none
  abs : PySem.W.nsIn K mainGlobals "abs" = some none
  all : PySem.W.nsIn K mainGlobals "all" = some none
  ValueError : PySem.W.nsIn K mainGlobals "ValueError" = some none
theorem Free.txt {K : PySem.W.Frag} {h : Heap} {mg : Str → Option Value} (z : Free K) (X : K.In h) (G : h.Ns mainGlobals mg) : Txt mg :=
  ⟨PySem.W.mg_none_of X G z.len, PySem.W.mg_none_of X G z.range, PySem.W.mg_none_of X G z.max, PySem.W.mg_none_of X G z.min, PySem.W.mg_none_of X G z.isinstance, PySem.W.mg_none_of X G z.tuple, PySem.W.mg_none_of X G z.int, PySem.W.mg_none_of X G z.bool, PySem.W.mg_none_of X G z.str, PySem.W.mg_none_of X G z.abs, PySem.W.mg_none_of X G z.all, PySem.W.mg_none_of X G z.ValueError⟩
structure Defs0 (K : PySem.W.Frag) : Prop where
  require : Df K "require" s_require
  is_integer : Df K "is_integer" s_is_integer
  is_number : Df K "is_number" s_is_number
  is_top : Df K "is_top" s_is_top
  is_rule : Df K "is_rule" s_is_rule
  is_some_rule : Df K "is_some_rule" s_is_some_rule
  are_numbers : Df K "are_numbers" s_are_numbers
  unlike : Df K "unlike" s_unlike
  is_left : Df K "is_left" s_is_left
  left_grades : Df K "left_grades" s_left_grades
  off_by : Df K "off_by" s_off_by
  feed : Df K "_law_feed" s__law_feed
  take : Df K "_law_take" s__law_take
  words : Df K "_law_words" s__law_words
  range : Df K "_law_range" s__law_range
  left : Df K "_law_left" s__law_left
  stray : Df K "_law_stray" s__law_stray
  stream : Df K "_law_stream" s__law_stream
  is : Df K "_law_is" s__law_is
  same : Df K "_law_same" s__law_same
  off : Df K "_law_off" s__law_off
  bound : Df K "_law_bound" s__law_bound
  walk : Df K "_law_walk" s__law_walk
  rows : Df K "_law_rows" s__law_rows
  refused : Df K "_law_refused" s__law_refused
  off_refused : Df K "_law_off_refused" s__law_off_refused
  refuses : Df K "_law_refuses" s__law_refuses
  law : Df K "law" s_law
theorem all_mk {l : PySem.W.OpenLaw} {w : World} {K : PySem.W.Frag} {h : Heap} {mg : Str → Option Value} {fa : Addr} (X : K.In h) (G : h.Ns mainGlobals mg) (hfa : mg "law" = some (.ref fa)) (Z : Free K) (NN : NuAt K) (EE : ErAt K) (WW : WdAt K) (D : Defs0 K) :
    ∃ fd : FuncData, (∀ (s : Shared) (v : Value), BindsTo s fd ⟨[v], []⟩ [("_law_script", v)]) ∧ ∀ base : Heap, K.In base → base.Ns mainGlobals mg → FnOk l.prog w K mg base CX0 9 fa fd ["_law_script"] (spLaw K) := by
  have T := Z.txt X G
  obtain ⟨C, fI, fdI, N, FI⟩ := NN.use X G
  obtain ⟨U, R⟩ := EE.use X G N.gC
  obtain ⟨wA, W⟩ := WW.use X G
  have bI := FI.binds (ps := ["self", "word", "at"]) fun _ _ _ _ _ _ us hl => match us, hl with | [_, _, _], _ => rfl
  obtain ⟨_, fd_require, g_require, F_require⟩ := D.require.use X G
  obtain ⟨_, fd_is_integer, g_is_integer, F_is_integer⟩ := D.is_integer.use X G
  obtain ⟨_, fd_is_number, g_is_number, F_is_number⟩ := D.is_number.use X G
  obtain ⟨_, fd_is_top, g_is_top, F_is_top⟩ := D.is_top.use X G
  obtain ⟨_, fd_is_rule, g_is_rule, F_is_rule⟩ := D.is_rule.use X G
  obtain ⟨_, fd_is_some_rule, g_is_some_rule, F_is_some_rule⟩ := D.is_some_rule.use X G
  obtain ⟨_, fd_are_numbers, g_are_numbers, F_are_numbers⟩ := D.are_numbers.use X G
  obtain ⟨_, fd_unlike, g_unlike, F_unlike⟩ := D.unlike.use X G
  obtain ⟨_, fd_is_left, g_is_left, F_is_left⟩ := D.is_left.use X G
  obtain ⟨_, fd_left_grades, g_left_grades, F_left_grades⟩ := D.left_grades.use X G
  obtain ⟨_, fd_off_by, g_off_by, F_off_by⟩ := D.off_by.use X G
  obtain ⟨_, fd_feed, g_feed, F_feed⟩ := D.feed.use X G
  obtain ⟨_, fd_take, g_take, F_take⟩ := D.take.use X G
  obtain ⟨_, fd_words, g_words, F_words⟩ := D.words.use X G
  obtain ⟨_, fd_range, g_range, F_range⟩ := D.range.use X G
  obtain ⟨_, fd_left, g_left, F_left⟩ := D.left.use X G
  obtain ⟨_, fd_stray, g_stray, F_stray⟩ := D.stray.use X G
  obtain ⟨_, fd_stream, g_stream, F_stream⟩ := D.stream.use X G
  obtain ⟨_, fd_is, g_is, F_is⟩ := D.is.use X G
  obtain ⟨_, fd_same, g_same, F_same⟩ := D.same.use X G
  obtain ⟨_, fd_off, g_off, F_off⟩ := D.off.use X G
  obtain ⟨_, fd_bound, g_bound, F_bound⟩ := D.bound.use X G
  obtain ⟨_, fd_walk, g_walk, F_walk⟩ := D.walk.use X G
  obtain ⟨_, fd_rows, g_rows, F_rows⟩ := D.rows.use X G
  obtain ⟨_, fd_refused, g_refused, F_refused⟩ := D.refused.use X G
  obtain ⟨_, fd_off_refused, g_off_refused, F_off_refused⟩ := D.off_refused.use X G
  obtain ⟨_, fd_refuses, g_refuses, F_refuses⟩ := D.refuses.use X G
  obtain ⟨f_law, oc, od, an, kV, dc, pm, cd, ct, sl, a_law, l_law, c_law, k_law⟩ := D.law
  have e := hfa.symm.trans (PySem.W.mg_of X G a_law)
  cases e
  have F_law := fun_mk (st := s_law) l_law c_law k_law
  refine ⟨PySem.W.fnOf "law" "law" (defArgs s_law) (defBody s_law) (defScope s_law) .none kV dc pm an cd ct, fun s v => .of_eq rfl, fun base _ _ => ?_⟩
  have d_require : Dn l.prog w K mg base (L2N.CX l.prog w) 3 "require" ["good", "word"] (spRequire C) := ⟨_, _, ok_require F_require N FI bI, g_require, F_require.kp, F_require.binds fun _ _ _ _ _ _ us hl => match us, hl with | [_, _], _ => rfl⟩
  have d_is_integer : Dn l.prog w K mg base CX0 1 "is_integer" ["thing"] spIsInteger := ⟨_, _, ok_is_integer F_is_integer T, g_is_integer, F_is_integer.kp, F_is_integer.binds fun _ _ _ _ _ _ us hl => match us, hl with | [_], _ => rfl⟩
  have d_is_number : Dn l.prog w K mg base CX0 2 "is_number" ["thing"] spIsNumber := ⟨_, _, ok_is_number F_is_number T d_is_integer, g_is_number, F_is_number.kp, F_is_number.binds fun _ _ _ _ _ _ us hl => match us, hl with | [_], _ => rfl⟩
  have d_is_top : Dn l.prog w K mg base CX0 3 "is_top" ["thing"] spIsTop1 := ⟨_, _, ok_is_top F_is_top T d_is_number, g_is_top, F_is_top.kp, F_is_top.binds fun _ _ _ _ _ _ us hl => match us, hl with | [_], _ => rfl⟩
  have d_is_rule : Dn l.prog w K mg base (L2N.CX l.prog w) 4 "is_rule" ["top", "thing"] spIsRule1 := ⟨_, _, ok_is_rule F_is_rule T W d_require d_is_number d_is_top, g_is_rule, F_is_rule.kp, F_is_rule.binds fun _ _ _ _ _ _ us hl => match us, hl with | [_, _], _ => rfl⟩
  have d_is_some_rule : Dn l.prog w K mg base (L2N.CX l.prog w) 5 "is_some_rule" ["thing"] spIsSomeRule := ⟨_, _, ok_is_some_rule F_is_some_rule d_is_rule, g_is_some_rule, F_is_some_rule.kp, F_is_some_rule.binds fun _ _ _ _ _ _ us hl => match us, hl with | [_], _ => rfl⟩
  have d_are_numbers : Dn l.prog w K mg base CX0 3 "are_numbers" ["thing"] spAreNumbers := ⟨_, _, ok_are_numbers F_are_numbers T d_is_number, g_are_numbers, F_are_numbers.kp, F_are_numbers.binds fun _ _ _ _ _ _ us hl => match us, hl with | [_], _ => rfl⟩
  have d_unlike : Dn l.prog w K mg base CX0 1 "unlike" ["grades", "grade"] spUnlike := ⟨_, _, ok_unlike F_unlike T, g_unlike, F_unlike.kp, F_unlike.binds fun _ _ _ _ _ _ us hl => match us, hl with | [_, _], _ => rfl⟩
  have d_is_left : Dn l.prog w K mg base CX0 2 "is_left" ["rule", "still", "grades", "grade"] spIsLeft := ⟨_, _, ok_is_left F_is_left T d_unlike, g_is_left, F_is_left.kp, F_is_left.binds fun _ _ _ _ _ _ us hl => match us, hl with | [_, _, _, _], _ => rfl⟩
  let d_left_grades : Dn l.prog w K mg base (L2N.CX l.prog w) 6 "left_grades" ["rule", "still", "least", "most", "grades"] (spLG C) := ⟨_, _, ok_left_grades F_left_grades T d_require d_is_number d_is_some_rule d_are_numbers d_is_left, g_left_grades, F_left_grades.kp, F_left_grades.binds fun _ _ _ _ _ _ us hl => match us, hl with | [_, _, _, _, _], _ => rfl⟩
  let d_off_by : Dn l.prog w K mg base (L2N.CX l.prog w) 6 "off_by" ["rule", "settled", "grades"] (spOff C) := ⟨_, _, ok_off_by F_off_by T d_require d_is_number d_is_some_rule d_are_numbers d_unlike, g_off_by, F_off_by.kp, F_off_by.binds fun _ _ _ _ _ _ us hl => match us, hl with | [_, _, _], _ => rfl⟩
  have d_feed : Dn l.prog w K mg base CX0 1 "_law_feed" ["_law_script"] (spFeed K) := ⟨_, _, ok_feed F_feed T, g_feed, F_feed.kp, F_feed.binds fun _ _ _ _ _ _ us hl => match us, hl with | [_], _ => rfl⟩
  have d_take : Dn l.prog w K mg base CX0 1 "_law_take" ["_law_feed_here", "_law_many"] spTake := ⟨_, _, ok_take F_take T, g_take, F_take.kp, F_take.binds fun _ _ _ _ _ _ us hl => match us, hl with | [_, _], _ => rfl⟩
  have d_words : Dn l.prog w K mg base CX0 2 "_law_words" ["_law_feed_here"] spWords := ⟨_, _, ok_words F_words T d_take, g_words, F_words.kp, F_words.binds fun _ _ _ _ _ _ us hl => match us, hl with | [_], _ => rfl⟩
  have d_range : Dn l.prog w K mg base CX0 2 "_law_range" ["_law_feed_here", "_law_words_here"] spRange := ⟨_, _, ok_range F_range T d_take, g_range, F_range.kp, F_range.binds fun _ _ _ _ _ _ us hl => match us, hl with | [_, _], _ => rfl⟩
  have d_left : Dn l.prog w K mg base CX0 1 "_law_left" ["_law_words_here", "_law_spare", "_law_floor", "_law_roof", "_law_told"] (spLeft K) := ⟨_, _, ok_left F_left T, g_left, F_left.kp, F_left.binds fun _ _ _ _ _ _ us hl => match us, hl with | [_, _, _, _, _], _ => rfl⟩
  have d_stray : Dn l.prog w K mg base CX0 2 "_law_stray" ["_law_feed_here", "_law_words_here", "_law_floor", "_law_roof", "_law_main"] spStray := ⟨_, _, ok_stray F_stray T d_take, g_stray, F_stray.kp, F_stray.binds fun _ _ _ _ _ _ us hl => match us, hl with | [_, _, _, _, _], _ => rfl⟩
  have d_stream : Dn l.prog w K mg base CX0 3 "_law_stream" ["_law_feed_here", "_law_words_here", "_law_spare", "_law_floor", "_law_roof"] spStream := ⟨_, _, ok_stream F_stream T d_take d_left d_stray, g_stream, F_stream.kp, F_stream.binds fun _ _ _ _ _ _ us hl => match us, hl with | [_, _, _, _, _], _ => rfl⟩
  let d_is : Dn l.prog w K mg base CX0 1 "_law_is" ["_law_thing", "_law_due"] spIs := ⟨_, _, ok_is F_is T, g_is, F_is.kp, F_is.binds fun _ _ _ _ _ _ us hl => match us, hl with | [_, _], _ => rfl⟩
  have d_same : Dn l.prog w K mg base CX0 2 "_law_same" ["_law_thing", "_law_due"] (spSame K) := ⟨_, _, ok_same F_same T d_is, g_same, F_same.kp, F_same.binds fun _ _ _ _ _ _ us hl => match us, hl with | [_, _], _ => rfl⟩
  have d_off : Dn l.prog w K mg base CX0 1 "_law_off" ["_law_words_here", "_law_settled_at", "_law_told"] (spOffL K) := ⟨_, _, ok_off F_off T, g_off, F_off.kp, F_off.binds fun _ _ _ _ _ _ us hl => match us, hl with | [_, _, _], _ => rfl⟩
  have d_bound : Dn l.prog w K mg base CX0 1 "_law_bound" ["_law_words_here", "_law_spare", "_law_off_here"] spBound := ⟨_, _, ok_bound F_bound T, g_bound, F_bound.kp, F_bound.binds fun _ _ _ _ _ _ us hl => match us, hl with | [_, _, _], _ => rfl⟩
  have d_walk : Dn l.prog w K mg base CX0 7 "_law_walk" ["_law_words_here", "_law_spare", "_law_floor", "_law_roof", "_law_told"] spWalk := ⟨_, _, ok_walk F_walk T d_left d_same d_left_grades d_off_by d_is d_off d_bound, g_walk, F_walk.kp, F_walk.binds fun _ _ _ _ _ _ us hl => match us, hl with | [_, _, _, _, _], _ => rfl⟩
  have kL : KBn K d_left_grades.fd ["rule", "still", "least", "most", "grades"] 0 ksLG (fun _ ws => perm5 ws) (fun _ zs => perm5 zs) := kb5 F_left_grades fun _ _ _ _ _ _ ws hl => match ws, hl with | [_, _, _, _, _], _ => rfl
  have kO : KBn K d_off_by.fd ["rule", "settled", "grades"] 0 ksOB (fun _ ws => ws.reverse) (fun _ zs => zs.reverse) := kbR F_off_by fun _ _ _ _ _ _ ws hl => match ws, hl with | [_, _, _], _ => rfl
  have d_rows : Dn l.prog w K mg base CX0 7 "_law_rows" ["_law_feed_here", "_law_words_here", "_law_spare", "_law_floor", "_law_roof"] spRows := ⟨_, _, ok_rows F_rows T d_take d_left d_stray d_same d_left_grades d_off_by d_is d_off kL kO, g_rows, F_rows.kp, F_rows.binds fun _ _ _ _ _ _ us hl => match us, hl with | [_, _, _, _, _], _ => rfl⟩
  have hot : L2H.FnH l.prog w K mg base CX0 1 d_is.f d_is.fd ["_law_thing", "_law_due"] spIs := ok_isH F_is T
  have d_refused : Dn l.prog w K mg base CX0 7 "_law_refused" ["_law_words_here", "_law_spare", "_law_floor", "_law_roof", "_law_told", "_law_due"] spRefused := ⟨_, _, ok_refused F_refused T N R d_left_grades d_is hot, g_refused, F_refused.kp, F_refused.binds fun _ _ _ _ _ _ us hl => match us, hl with | [_, _, _, _, _, _], _ => rfl⟩
  have d_off_refused : Dn l.prog w K mg base CX0 7 "_law_off_refused" ["_law_words_here", "_law_settled_at", "_law_told", "_law_due"] spOffRefused := ⟨_, _, ok_off_refused F_off_refused T N R d_off_by d_is hot, g_off_refused, F_off_refused.kp, F_off_refused.binds fun _ _ _ _ _ _ us hl => match us, hl with | [_, _, _, _], _ => rfl⟩
  have d_refuses : Dn l.prog w K mg base CX0 8 "_law_refuses" ["_law_feed_here", "_law_words_here", "_law_spare", "_law_floor", "_law_roof"] spRefuses := ⟨_, _, ok_refuses F_refuses T d_take d_left d_same d_left_grades d_refused d_off_refused, g_refuses, F_refuses.kp, F_refuses.binds fun _ _ _ _ _ _ us hl => match us, hl with | [_, _, _, _, _], _ => rfl⟩
  exact ok_law F_law T d_feed d_take d_words d_range d_stream d_walk d_rows d_refuses
theorem walk {l : PySem.W.OpenLaw} {q : Program} {loose : List Str} {XP : (Str → Option Value) → Heap → Prop} {YP : World → Heap → Prop} {d : DefRec} {K : Params → PySem.W.Frag} (hn : l.most = some 63) (hdf : d.params.defaults = [])
    (hY : ∀ (w : World) (h : Heap), YP w h → (K w.params).In h)
    (F : ∀ (w : World) (mg : Str → Option Value) (fa : Addr) (h : Heap), (K w.params).In h → h.Ns mainGlobals mg → mg d.name = some (.ref fa) →
      ∃ fd : FuncData, (∀ (s : Shared) (u : Value), BindsTo s fd ⟨[u], []⟩ [("_law_script", u)]) ∧ ∀ base : Heap, (K w.params).In base → base.Ns mainGlobals mg → FnOk l.prog w (K w.params) mg base CX0 9 fa fd ["_law_script"] (spLaw (K w.params))) :
    PySem.W.WalkO q loose XP YP l.row.toRowW d [] (fun f vs => PySem.call f vs) :=
  L2.walk_of (n := 63) (k := 9) (x := "_law_script") (CX := fun _ => CX0) (sp := fun w => spLaw (K w.params)) hn (by decide) hdf ⟨rfl, by decide, by decide⟩ hY F (fun _ _ a ns hl _ hS => ⟨a, ns, rfl, hS, hl, fun _ => rfl⟩) fun _ _ _ _ _ z => z
end K27
/-! ## Fin -/
set_option Elab.async false
open PySem PySem.W PyProof.Rows
set_option maxRecDepth 100000 in
set_option maxHeartbeats 0 in
theorem PySem.Challenge.cw_stubbornest_k27_grades_left_holds : PySem.Challenge.rw_stubbornest_k27_grades_left.Holds := by
  w_on; o_law; k_head; (case hw => w_witness2)
  k_fill
  refine K27.walk (l := PySem.Challenge.rw_stubbornest_k27_grades_left) rfl rfl (fun w h Y => PySem.W.kIn_of Y) ?F
  case F =>
    intro w mg fa h KX G hmg
    refine' K27.all_mk KX G hmg ?zFree ?zNu ?zEr ?zWd ?zDefs
    case zFree => exact ⟨by k_is, by k_is, by k_is, by k_is, by k_is, by k_is, by k_is, by k_is, by k_is, by k_is, by k_is, by k_is⟩
    case zNu =>
      refine' K27.NuAt.mk ?aC ?xL ?rv ?sa ?ga ?gg ?nw ?na ?a1 ?t1 ?l1 ?c1 ?k1 ?kC ?eC ?tC ?hC ?iC ?sC
      (case aC => k_is); (case xL => k_is); (case rv => decide +kernel); (case sa => k_is); (case ga => k_is); (case gg => k_is); (case nw => k_is); (case na => k_is)
      (case a1 => k_is); (case t1 => k_is); (case l1 => k_is); (case c1 => k_is); (case k1 => k_is)
      (case kC => k_is); (case eC => k_is); (case tC => k_is); (case hC => k_is); (case iC => k_is); (case sC => first | rfl | k_is)
    case zEr =>
      refine' K27.ErAt.mk ?aa1 ?aa2 ?aa3 ?aa4 ?aa5 ?aa6 ?aa7 ?aa8 ?aa9 ?bb1 ?bb2
      (case aa1 => k_is); (case aa2 => k_is); (case aa3 => k_is); (case aa4 => k_is); (case aa5 => first | k_is | rfl); (case aa6 => first | k_is | rfl); (case aa7 => k_is); (case aa8 => k_is); (case aa9 => k_is); (case bb1 => k_is); (case bb2 => k_is)
    case zWd =>
      refine' K27.WdAt.mk ?aaa ?lll
      (case aaa => k_is); (case lll => k_is)
    case zDefs =>
      exact ⟨(by refine' K27.Df.mk ?a ?l ?c ?k; (case a => k_is); (case l => k_is); (case c => k_is); (case k => k_is)),
        (by refine' K27.Df.mk ?a ?l ?c ?k; (case a => k_is); (case l => k_is); (case c => k_is); (case k => k_is)),
        (by refine' K27.Df.mk ?a ?l ?c ?k; (case a => k_is); (case l => k_is); (case c => k_is); (case k => k_is)),
        (by refine' K27.Df.mk ?a ?l ?c ?k; (case a => k_is); (case l => k_is); (case c => k_is); (case k => k_is)),
        (by refine' K27.Df.mk ?a ?l ?c ?k; (case a => k_is); (case l => k_is); (case c => k_is); (case k => k_is)),
        (by refine' K27.Df.mk ?a ?l ?c ?k; (case a => k_is); (case l => k_is); (case c => k_is); (case k => k_is)),
        (by refine' K27.Df.mk ?a ?l ?c ?k; (case a => k_is); (case l => k_is); (case c => k_is); (case k => k_is)),
        (by refine' K27.Df.mk ?a ?l ?c ?k; (case a => k_is); (case l => k_is); (case c => k_is); (case k => k_is)),
        (by refine' K27.Df.mk ?a ?l ?c ?k; (case a => k_is); (case l => k_is); (case c => k_is); (case k => k_is)),
        (by refine' K27.Df.mk ?a ?l ?c ?k; (case a => k_is); (case l => k_is); (case c => k_is); (case k => k_is)),
        (by refine' K27.Df.mk ?a ?l ?c ?k; (case a => k_is); (case l => k_is); (case c => k_is); (case k => k_is)),
        (by refine' K27.Df.mk ?a ?l ?c ?k; (case a => k_is); (case l => k_is); (case c => k_is); (case k => k_is)),
        (by refine' K27.Df.mk ?a ?l ?c ?k; (case a => k_is); (case l => k_is); (case c => k_is); (case k => k_is)),
        (by refine' K27.Df.mk ?a ?l ?c ?k; (case a => k_is); (case l => k_is); (case c => k_is); (case k => k_is)),
        (by refine' K27.Df.mk ?a ?l ?c ?k; (case a => k_is); (case l => k_is); (case c => k_is); (case k => k_is)),
        (by refine' K27.Df.mk ?a ?l ?c ?k; (case a => k_is); (case l => k_is); (case c => k_is); (case k => k_is)),
        (by refine' K27.Df.mk ?a ?l ?c ?k; (case a => k_is); (case l => k_is); (case c => k_is); (case k => k_is)),
        (by refine' K27.Df.mk ?a ?l ?c ?k; (case a => k_is); (case l => k_is); (case c => k_is); (case k => k_is)),
        (by refine' K27.Df.mk ?a ?l ?c ?k; (case a => k_is); (case l => k_is); (case c => k_is); (case k => k_is)),
        (by refine' K27.Df.mk ?a ?l ?c ?k; (case a => k_is); (case l => k_is); (case c => k_is); (case k => k_is)),
        (by refine' K27.Df.mk ?a ?l ?c ?k; (case a => k_is); (case l => k_is); (case c => k_is); (case k => k_is)),
        (by refine' K27.Df.mk ?a ?l ?c ?k; (case a => k_is); (case l => k_is); (case c => k_is); (case k => k_is)),
        (by refine' K27.Df.mk ?a ?l ?c ?k; (case a => k_is); (case l => k_is); (case c => k_is); (case k => k_is)),
        (by refine' K27.Df.mk ?a ?l ?c ?k; (case a => k_is); (case l => k_is); (case c => k_is); (case k => k_is)),
        (by refine' K27.Df.mk ?a ?l ?c ?k; (case a => k_is); (case l => k_is); (case c => k_is); (case k => k_is)),
        (by refine' K27.Df.mk ?a ?l ?c ?k; (case a => k_is); (case l => k_is); (case c => k_is); (case k => k_is)),
        (by refine' K27.Df.mk ?a ?l ?c ?k; (case a => k_is); (case l => k_is); (case c => k_is); (case k => k_is)),
        (by refine' K27.Df.mk ?a ?l ?c ?k; (case a => k_is); (case l => k_is); (case c => k_is); (case k => k_is))⟩
