import PyProof.Rows.All
import Wide.All
import OpenK.AllK
import Wide.FinOn
import HandS.ForMost
import HandS.Exc
import HandS.ExcOwn
import HandS.ExcInit
import HandS.ExcField
import HandS.TryMany
import HandS.WordsExc
import HandS.IsInst
import HandS.Wide
import HandS.Evl
import HandS.RaiseMore
import HandS.Defaults
import HandS.Flow
import HandS.Walk
import PyProof.ReprLen
import HandS.DeepEq
import HandS.ExcIs
import HandS.HotCalls
import HandS.SuiteRaise
import HandS.More
import PySem.Challenge.RW_latewords_k76_errors_made
set_option Elab.async false
set_option linter.all false
set_option maxRecDepth 100000
set_option maxHeartbeats 8000000
namespace L3
open PySem PySem.Spec PyProof.Rows L2 Evl
/-! ### data in a heap that grows -/
section
variable {K : PySem.W.Frag} {H H1 : Hp}
mutual
theorem dp_ex (e : Ex H H1) : ∀ {d : PyData} {x : V}, Dp K H x d → Dp K H1 x d
  | _, _, .non => .non
  | _, _, .bl b => .bl b
  | _, _, .int i => .int i
  | _, _, .str x => .str x
  | _, _, .lst h a => .lst (ex_l e h) (dps_ex e a)
  | _, _, .tup h a => .tup (ex_t e h) (dps_ex e a)
theorem dps_ex (e : Ex H H1) : ∀ {ds : List PyData} {xs : List V}, DpAll K H xs ds → DpAll K H1 xs ds
  | _, _, .nil => .nil
  | _, _, .cons a r => .cons (dp_ex e a) (dps_ex e r)
end
/-- the name of a datum's type -/
def tyN : PyData → String
  | .none => "NoneType"
  | .bool _ => "bool"
  | .int _ => "int"
  | .str _ => "str"
  | .list _ => "list"
  | .tuple _ => "tuple"
  | .dict _ => "dict"
theorem ty_list {a : Addr} {xs : List V} (h : SqL K H a xs) : TyX K H (.ref a) (.type "list") := by
  rcases h with (h | ⟨o, h⟩) | ⟨o, its, n, h, c, _⟩
  · exact .base (.lst h)
  · exact .base (.frz h)
  · exact .kList h c
theorem ty_tup {a : Addr} {xs : List V} (h : SqT K H a xs) : TyX K H (.ref a) (.type "tuple") := by
  rcases h with (h | ⟨o, h⟩) | ⟨o, its, n, h, c, _⟩
  · exact .base (.tup h)
  · exact .fTuple h
  · exact .kTuple h c
theorem dp_ty {d : PyData} {x : V} (h : Dp K H x d) : TyX K H x (.type (tyN d)) := by
  cases h with
  | non => exact .base .non
  | bl b => exact .base (.bl b)
  | int i => exact .base (.int i)
  | str z => exact .base (.str z)
  | lst h _ => exact ty_list h
  | tup h _ => exact ty_tup h
end
def isIntD : PyData → Bool
  | .int _ => true
  | .bool _ => true
  | _ => false
def isBoolD : PyData → Bool
  | .bool _ => true
  | _ => false
def isListD : PyData → Bool
  | .list _ => true
  | _ => false
def isTupD : PyData → Bool
  | .tuple _ => true
  | _ => false
def isStrD : PyData → Bool
  | .str _ => true
  | _ => false
theorem kit_int (d : PyData) : kitB (tyN d) "int" = some (isIntD d) := by
  cases d <;> (dsimp only [tyN, isIntD, isBoolD, isListD, isTupD, isStrD]; decide +kernel)
theorem kit_bool (d : PyData) : kitB (tyN d) "bool" = some (isBoolD d) := by
  cases d <;> (dsimp only [tyN, isIntD, isBoolD, isListD, isTupD, isStrD]; decide +kernel)
theorem kit_list (d : PyData) : kitB (tyN d) "list" = some (isListD d) := by
  cases d <;> (dsimp only [tyN, isIntD, isBoolD, isListD, isTupD, isStrD]; decide +kernel)
theorem kit_tuple (d : PyData) : kitB (tyN d) "tuple" = some (isTupD d) := by
  cases d <;> (dsimp only [tyN, isIntD, isBoolD, isListD, isTupD, isStrD]; decide +kernel)
theorem kit_str (d : PyData) : kitB (tyN d) "str" = some (isStrD d) := by
  cases d <;> (dsimp only [tyN, isIntD, isBoolD, isListD, isTupD, isStrD]; decide +kernel)
section
variable {K : PySem.W.Frag} {σ : L2.St} {H H' : Hp} {ta tb tc te tx : TE} {t u : TT} {x y z v : V} {r : R2}
/-- isinstance(x, T), T a built-in type by its name -/
theorem ev_isi {d : PyData} {n : String} {b : Bool} (ha : Ev ta σ H x) (hd : Dp K H x d) (hb : kitB (tyN d) n = some b) :
    Ev (tCB (rIsi K) (tCons ta (tCons (tC (.ty n)) tNil))) σ H (.bl b) :=
  ev_cb (ea_cons ha (ea_cons ev_c ea_nil)) fun H1 e Q q => ⟨x, .ty n, _, _, b, rfl, .ty n, dp_ty (dp_ex e hd), kit_ty hb, q H1 (Ex.refl H1)⟩
/-- a op b op c of three ints -/
theorem ev_chain {g g' : Int → Int → Bool} {i j k : Int} (ha : Ev ta σ H (.int i)) (hb : Ev tb σ H (.int j)) (hc : Ev tc σ H (.int k)) :
    Ev (tChain (rI0 fun i j => .bl (g i j)) (rI0 fun i j => .bl (g' i j)) ta tb tc) σ H (.bl (g i j && g' j k)) := fun H1 e Q q =>
  ha H1 e _ fun H2 e2 => hb H2 (e.trans e2) _ fun H3 e3 => ⟨i, j, rfl, rfl, g i j, rfl, by
    cases h : g i j with
    | true =>
      rw [h] at q
      show tc σ H3 _
      exact hc H3 ((e.trans e2).trans e3) _ fun H4 e4 => ⟨j, k, rfl, rfl, q H4 ((e2.trans e3).trans e4)⟩
    | false =>
      rw [h] at q
      show Q (.bl false) H3
      exact q H3 (e2.trans e3)⟩
end
/-- a built-in type by its name, as a value -/
theorem pe_ty {X : Cx} {x : Str} {pos : Pos} (n : String) (hm : X.mg x = none) (hv : bootBuiltins x = some (.type n) := by decide +kernel) (hg : Gl X x := by rfl)
    (hn : x ≠ "__name__" := by decide) (hd : (x == ("__debug__" : Str)) = false := by decide) : PE X (.Name x pos) (tC (.ty n)) :=
  pe_bltn (v := .ty n) (u := .type n) hg hm hv rfl hn hd
end L3

namespace L3
open PySem PySem.Spec PyProof.Rows L2 Evl
/-! ### loops over new pairs -/
section
variable {K : PySem.W.Frag} {σ : L2.St} {H : Hp} {D : Ends} {tu tz : TS}
/-- for i, x in enumerate(list): slots j and k -/
theorem s_forEn {a : Addr} {xs : List V} {ta : TA} {j k : Nat} (h : EvA ta σ H [.ref a]) (hx : SqL K H a xs) (Pv : Nat → L2.St → Hp → Prop) (h0 : ∀ H1, Ex H H1 → Pv 0 σ H1)
    (hl : ∀ i σ' H', i ≤ xs.length → Pv i σ' H' → SqL K H' a xs)
    (hs : ∀ i x σ' H', xs[i]? = some x → Pv i σ' H' → ∀ H1, Ex H' H1 → tu { D with nx := Pv (i + 1), ct := Pv (i + 1), bk := D.nx } ((σ'.set j (some (.int (i : Nat)))).set k (some x)) H1)
    (hd : ∀ σ' H', Pv xs.length σ' H' → D.nx σ' H') : tFor (iEnum K ta) (gTup K 2 (gCons (gName j) (gCons (gName k) gNil))) tu D σ H :=
  h H (Ex.refl H) _ fun H1 e => ⟨a, xs, rfl, ex_l e hx, for_it (walk_enum (xs := xs)) Pv (h0 H1 e) (fun i σ' H' hi p => hl i σ' H' hi p) (fun i v σ' H' H2 hi p y => by
    obtain ⟨T, x, z, rfl, hT, rfl, hx1, hz⟩ := y
    cases hx1
    refine ⟨T, _, rfl, Or.inl (Or.inl upd_same), rfl, ?_⟩
    refine ⟨_, _, rfl, _, _, rfl, rfl, ?_⟩
    exact hs i z σ' H' hz p _ (Ex.new hT)) hd⟩
theorem q_forEn {a : Addr} {xs : List V} {ta : TA} {j k : Nat} (h : EvA ta σ H [.ref a]) (hx : SqL K H a xs) (Pv : Nat → L2.St → Hp → Prop) (h0 : ∀ H1, Ex H H1 → Pv 0 σ H1)
    (hl : ∀ i σ' H', i ≤ xs.length → Pv i σ' H' → SqL K H' a xs)
    (hs : ∀ i x σ' H', xs[i]? = some x → Pv i σ' H' → ∀ H1, Ex H' H1 → tu { D with nx := Pv (i + 1), ct := Pv (i + 1), bk := tz D } ((σ'.set j (some (.int (i : Nat)))).set k (some x)) H1)
    (hd : ∀ σ' H', Pv xs.length σ' H' → tz D σ' H') : tSeq (tFor (iEnum K ta) (gTup K 2 (gCons (gName j) (gCons (gName k) gNil))) tu) tz D σ H :=
  s_forEn (D := { D with nx := tz D }) h hx Pv h0 hl hs hd
end
/-! ### an own error class with one field, told by its __init__ -/
/-- an error of the class at C is in the air, its own dict holds f = v; all that stood stands -/
def ErrV (C : Addr) (f : Str) (v : V) (H : Hp) (E : XK) : Prop := ∀ (d : Addr) (H' : Hp), Ex H H' → H d = none → H' d = some (.xd [(f, v)]) → E (.ref C) (some d) H'
theorem ErrV.go {C : Addr} {f : Str} {v : V} {H H1 : Hp} {E : XK} (k : ErrV C f v H E) (e : Ex H H1) : ErrV C f v H1 E := fun d H' e2 hd h => k d H' (e.trans e2) (fresh_back e hd) h
/-- __init__(self, f): self.f = f, for a fresh error -/
def spErr (K : PySem.W.Frag) (C : Addr) (f : Str) : Sp := fun vs H Q _ => ∃ (a : Addr) (v : V), vs = [.ref a, v] ∧ OexC K C ∧ PySem.W.findIn K (.ref C) f = some none ∧ H a = some (exo a C none) ∧
  ∀ dx, H dx = none → dx ≠ a → Q .non (upd (upd H dx (exd dx [(f, v)])) a (exo a C (some dx)))
/-- what is known of such a class and of its __init__, at fI -/
structure ErC (P : Program) (w : World) (K : PySem.W.Frag) (mg : Str → Option Value) (base : Heap) (x : Str) (f : Str) (C fI : Addr) (fd : FuncData) : Prop where
  oex : OexC K C
  hm : mg x = some (.ref C)
  iC : PySem.W.findIn K (.ref C) "__init__" = some (some (.ref fI))
  tI : PySem.W.typeIn K (.ref fI) = some (.type "function")
  no : PySem.W.findIn K (.ref C) f = some none
  ok : FnOk P w K mg base CX0 1 fI fd ["self", f] (spErr K C f)
  bi : Binds K fd ["self", f] []
/-- raise C(e) -/
def tRz (K : PySem.W.Frag) (C : Addr) (f : Str) (W : WX) (te : TE) : TS := fun _ σ H => tMkO C (spErr K C f) [] (tCons te tNil) σ H fun cls d H' => W cls d σ H'
theorem ps_rz {X : Cx} {x f : Str} {C fI : Addr} {fd : FuncData} {W : WX} {e : Expr} {te : TE} {p pos pos' : Pos} (hc : X.calm = true) (T : ErC X.prog X.w X.K X.mg X.base x f C fI fd) (hr : Room 2 X.A) (tk : Takes X W) (he : PA X [e] (tCons te tNil)) (hg : Gl X x := by rfl)
    (hdb : (x == ("__debug__" : Str)) = false := by decide) (hst : starEach (e :: []) X.env = (false, eval e X.env) :: starEach [] X.env := by rfl) (hpl : (backTo pos (starEach [] X.env)).any (·.1) = false := by rfl) :
    PS X (.Raise (some (.Call (.Name x p) [e] [] pos)) none pos') (tRz X.K C f W te) :=
  ps_raise hc tk (pmk_oex (sp := spErr X.K C f) T.oex T.iC T.tI T.ok hr T.bi .nil pass0 hg T.hm he hdb hst hpl)
theorem s_rz {K : PySem.W.Frag} {C : Addr} {f : Str} {W : WX} {te : TE} {σ : L2.St} {H : Hp} {v : V} {D : Ends} (h : Ev te σ H v) (ox : OexC K C) (no : PySem.W.findIn K (.ref C) f = some none)
    (k : ErrV C f v H fun cls d H' => W cls d σ H') : tRz K C f W te D σ H := by
  refine h H (Ex.refl H) _ fun H1 e => ?_
  refine ⟨by show 1 ≤ 1000; decide, fun a ha => ⟨a, v, rfl, ox, no, upd_same, fun dx hdx hne => ⟨rfl, dx, [(f, v)], upd_same, ?_, ?_, ?_⟩⟩⟩
  · rw [upd_ne hne]
    exact upd_same
  · rw [upd_ne hne] at hdx
    exact hdx
  · rw [upd_ne hne] at hdx
    have eH : upd (del (upd (upd (upd H1 a (exo a C none)) dx (exd dx [(f, v)])) a (exo a C (some dx))) a) dx (.xd [(f, v)]) = upd H1 dx (.xd [(f, v)]) := by
      funext b
      by_cases hb : b = dx
      · rw [hb, upd_same, upd_same]
      · rw [upd_ne hb, upd_ne hb]
        by_cases hba : b = a
        · rw [hba, del_same, ha]
        · rw [del_ne hba, upd_ne hba, upd_ne hb, upd_ne hba]
    rw [eH]
    exact k dx _ (e.trans (Ex.new hdx)) (fresh_back e hdx) upd_same
/-- the body of such an __init__ -/
theorem s_ini {K : PySem.W.Frag} {C : Addr} {f : Str} {vs : List V} {H : Hp} {Q : VK} {E : XK} {N : List Str} (h : spErr K C f vs H Q E) (hN : start N vs = vs.map some) :
    tOst K f (tVar 0) (tVar 1) { nx := fun _ H' => Q .non H', rt := Q } (start N vs) H := by
  obtain ⟨a, v, rfl, ox, no, ha, k⟩ := h
  rw [hN]
  exact ⟨v, rfl, .ref a, rfl, a, C, rfl, ox, no, .inl ⟨ha, k⟩⟩
end L3

namespace L3
open PySem PySem.Spec PyProof.Rows L2 Evl
/-! ### a list of one's own beside what stands -/
section
variable {K : PySem.W.Frag} {H H1 H2 : Hp} {l : Addr}
theorem ex_del_self : Ex (del H l) H := fun a o e => by
  by_cases h : a = l
  · rw [h, del_same] at e
    cases e
  · rw [del_ne h] at e
    exact e
theorem ex_del (e : Ex H H1) : Ex (del H l) (del H1 l) := fun a o h => by
  by_cases c : a = l
  · rw [c, del_same] at h
    cases h
  · rw [del_ne c] at h ⊢
    exact e a o h
theorem del_upd {o : HO} : del (upd H l o) l = del H l := by
  funext b
  by_cases c : b = l
  · rw [c, del_same, del_same]
  · rw [del_ne c, del_ne c, upd_ne c]
/-- what does not know l stands beside l -/
theorem ex_beside (e : Ex H H1) (h : H l = none) : Ex H (del H1 l) := fun a o q => by
  have c : a ≠ l := ne_of_none q h
  rw [del_ne c]
  exact e a o q
/-- a new list of data is handed back: what stood stands beside it -/
def RetLD (K : PySem.W.Frag) (ds : List PyData) (H : Hp) (Q : VK) : Prop := ∀ p xs H2, H p = none → Ex H (del H2 p) → H2 p = some (.lst xs) → DpAll K (del H2 p) xs ds → Q (.ref p) H2
theorem RetLD.go {ds : List PyData} {Q : VK} (k : RetLD K ds H Q) (e : Ex H H1) : RetLD K ds H1 Q := fun p xs H2 h1 h2 h3 h4 => k p xs H2 (fresh_back e h1) (e.trans h2) h3 h4
theorem dps_snoc {xs : List V} {ds : List PyData} {x : V} {d : PyData} (h : DpAll K H xs ds) (hx : Dp K H x d) : DpAll K H (xs ++ [x]) (ds ++ [d]) := by
  induction ds generalizing xs with
  | nil =>
    cases h
    exact .cons hx .nil
  | cons e es ih =>
    cases h with
    | cons a r => exact .cons a (ih r)
theorem dps_len' : ∀ {xs : List V} {ds : List PyData}, DpAll K H xs ds → xs.length = ds.length
  | _, _, .nil => rfl
  | _, _, .cons _ r => by rw [List.length_cons, List.length_cons, dps_len' r]
theorem dps_at {xs : List V} {ds : List PyData} {i : Nat} {d : PyData} (h : DpAll K H xs ds) (hi : ds[i]? = some d) : ∃ x, xs[i]? = some x ∧ Dp K H x d := by
  induction ds generalizing xs i with
  | nil => simp at hi
  | cons e es ih =>
    cases h with
    | @cons v vs _ _ a r =>
      cases i with
      | zero =>
        simp at hi
        exact ⟨v, by simp, hi ▸ a⟩
      | succ j =>
        obtain ⟨x, h1, h2⟩ := ih r (by simpa using hi)
        exact ⟨x, by simpa using h1, h2⟩
end
/-! ### a conversation: its writes -/
abbrev Wr := Int × Int × Str
def wD (w : Wr) : PyData := .tuple [.int w.1, .int w.2.1, .str w.2.2]
def cD (ws : List Wr) : PyData := .list (ws.map wD)
/-- the endpoint of the j-th write -/
def spk (ws : List Wr) (j : Nat) : Int := (ws.getD j (0, 0, "")).1
theorem spk_of {ws : List Wr} {j : Nat} {w : Wr} (h : ws[j]? = some w) : spk ws j = w.1 := by
  unfold spk
  rw [List.getD_eq_getElem?_getD, h]
  rfl
section
variable {K : PySem.W.Frag} {H : Hp}
theorem wr_at {xs : List V} {ws : List Wr} {j : Nat} (h : DpAll K H xs (ws.map wD)) (hj : j < ws.length) : ∃ (t : Addr) (w : Wr), ws[j]? = some w ∧ xs[j]? = some (.ref t) ∧ SqT K H t [.int w.1, .int w.2.1, .str w.2.2] := by
  have e : ws[j]? = some ws[j] := by simp [hj]
  obtain ⟨x, h1, h2⟩ := dps_at h (i := j) (d := wD ws[j]) (by rw [List.getElem?_map, e]; rfl)
  cases h2 with
  | tup hs ha =>
    cases ha with
    | cons a1 r1 =>
    cases r1 with
    | cons a2 r2 =>
    cases r2 with
    | cons a3 r3 =>
    cases r3
    cases a1
    cases a2
    cases a3
    exact ⟨_, _, e, h1, hs⟩
end
/-! ### turns -/
/-- one step of the search for turns: what is found, the start of the running one -/
def tstep (ws : List Wr) (a : List (Int × Nat × Nat) × Nat) (stop : Nat) : List (Int × Nat × Nat) × Nat :=
  if stop = ws.length ∨ spk ws stop ≠ spk ws a.2 then (a.1 ++ [(spk ws a.2, a.2, stop)], stop) else a
def tN (ws : List Wr) : Nat → List (Int × Nat × Nat) × Nat
  | 0 => ([], 0)
  | i + 1 => tstep ws (tN ws i) (i + 1)
def turnsM (ws : List Wr) : List (Int × Nat × Nat) := (tN ws ws.length).1
def tD (t : Int × Nat × Nat) : PyData := .tuple [.int t.1, .int (t.2.1 : Int), .int (t.2.2 : Int)]
theorem tN_le (ws : List Wr) : ∀ i, (tN ws i).2 ≤ i
  | 0 => Nat.le_refl _
  | i + 1 => by
    have h := tN_le ws i
    show (tstep ws (tN ws i) (i + 1)).2 ≤ i + 1
    unfold tstep
    split
    · exact Nat.le_refl _
    · omega
theorem tN_len (ws : List Wr) : ∀ i, (tN ws i).1.length ≤ i
  | 0 => Nat.le_refl _
  | i + 1 => by
    have h := tN_len ws i
    show (tstep ws (tN ws i) (i + 1)).1.length ≤ i + 1
    unfold tstep
    split
    · rw [List.length_append, List.length_singleton]
      omega
    · omega
/-- a turn begins at the j-th write -/
def isSt (ws : List Wr) (j : Nat) : Prop := j = 0 ∨ spk ws (j - 1) ≠ spk ws j
instance (ws : List Wr) (j : Nat) : Decidable (isSt ws j) := inferInstanceAs (Decidable (_ ∨ _))
def starts (ts : List (Int × Nat × Nat)) : List Nat := ts.map fun t => t.2.1
structure TI (ws : List Wr) (i : Nat) : Prop where
  mem : ∀ j, j ∈ starts (tN ws i).1 ↔ j < (tN ws i).2 ∧ isSt ws j
  here : (tN ws i).2 < ws.length → isSt ws (tN ws i).2
  run : i < ws.length → ∀ j, (tN ws i).2 ≤ j → j ≤ i → spk ws j = spk ws (tN ws i).2
  fin : i = ws.length → (tN ws i).2 = ws.length
theorem ti_all (ws : List Wr) : ∀ i, i ≤ ws.length → TI ws i
  | 0, _ => ⟨fun j => ⟨(fun h => nomatch h), fun h => absurd h.1 (Nat.not_lt_zero _)⟩, fun _ => Or.inl rfl, fun _ j _ h => by rw [Nat.le_zero.mp h] <;> rfl, fun h => h⟩
  | i + 1, hi => by
    have I := ti_all ws i (by omega)
    have hst := tN_le ws i
    by_cases c : i + 1 = ws.length ∨ spk ws (i + 1) ≠ spk ws (tN ws i).2
    · have eN : tN ws (i + 1) = ((tN ws i).1 ++ [(spk ws (tN ws i).2, (tN ws i).2, i + 1)], i + 1) := if_pos c
      refine ⟨fun j => ?_, fun h => ?_, fun h j h1 h2 => ?_, fun h => ?_⟩
      · rw [eN]
        show j ∈ List.map (fun t => t.2.1) ((tN ws i).1 ++ [(spk ws (tN ws i).2, (tN ws i).2, i + 1)]) ↔ j < i + 1 ∧ isSt ws j
        rw [List.map_append, List.mem_append]
        have m := I.mem j
        constructor
        · intro h
          rcases h with h | h
          · have q := m.mp h
            exact ⟨by omega, q.2⟩
          · have q : j = (tN ws i).2 := by simpa using h
            rw [q]
            exact ⟨by omega, I.here (by omega)⟩
        · rintro ⟨h1, h2⟩
          by_cases c1 : j < (tN ws i).2
          · exact Or.inl (m.mpr ⟨c1, h2⟩)
          · by_cases c2 : j = (tN ws i).2
            · right
              rw [c2]
              simp
            · exfalso
              have r1 := I.run (by omega) j (by omega) (by omega)
              have r2 := I.run (by omega) (j - 1) (by omega) (by omega)
              rcases h2 with h2 | h2
              · omega
              · exact h2 (r2.trans r1.symm)
      · rw [eN] at h ⊢
        have h' : i + 1 < ws.length := h
        have c' : spk ws (i + 1) ≠ spk ws (tN ws i).2 := c.resolve_left (by omega)
        have r1 := I.run (by omega) i (by omega) (Nat.le_refl _)
        refine Or.inr fun z => c' ?_
        have z' : spk ws i = spk ws (i + 1) := z
        rw [← z', r1]
      · rw [eN] at h1 ⊢
        have h1' : i + 1 ≤ j := h1
        have e : j = i + 1 := by omega
        rw [e]
      · rw [eN]
        exact h
    · have eN : tN ws (i + 1) = tN ws i := if_neg c
      have c1 : i + 1 ≠ ws.length := fun z => c (Or.inl z)
      have c2 : spk ws (i + 1) = spk ws (tN ws i).2 := Classical.byContradiction fun z => c (Or.inr z)
      refine ⟨fun j => ?_, fun h => ?_, fun h j h1 h2 => ?_, fun h => absurd h c1⟩
      · rw [eN]
        exact I.mem j
      · rw [eN] at h ⊢
        exact I.here h
      · rw [eN] at h1 ⊢
        by_cases c3 : j = i + 1
        · rw [c3, c2]
        · exact I.run (by omega) j h1 (by omega)
theorem starts_turns (ws : List Wr) (j : Nat) : j ∈ starts (turnsM ws) ↔ j < ws.length ∧ isSt ws j := by
  have I := ti_all ws ws.length (Nat.le_refl _)
  have m := I.mem j
  rw [I.fin rfl] at m
  exact m
/-- how many clearings may stand ahead of each write -/
def limM (ws : List Wr) : List Int := (List.range ws.length).map fun j => if isSt ws j then 0 else 2
theorem set_all {α : Type} (z : α) : ∀ (ss : List Nat) (L : List α) (j : Nat), (ss.foldl (fun L s => L.set s z) L)[j]? = if j ∈ ss then L[j]?.map (fun _ => z) else L[j]?
  | [], L, j => by simp
  | s :: ss, L, j => by
    rw [List.foldl_cons, set_all z ss (L.set s z) j]
    by_cases c : j = s
    · subst c
      rw [if_pos (List.mem_cons_self)]
      by_cases h : j < L.length
      · have e1 : (L.set j z)[j]? = some z := List.getElem?_set_self h
        rw [e1]
        have e2 : L[j]? = some L[j] := by simp [h]
        rw [e2]
        split <;> rfl
      · have e2 : L[j]? = none := by simp; omega
        have e1 : (L.set j z)[j]? = none := by simp; omega
        rw [e1, e2]
        split <;> rfl
    · have e1 : (L.set s z)[j]? = L[j]? := List.getElem?_set_ne (fun q => c q.symm)
      rw [e1]
      have e2 : (j ∈ s :: ss) ↔ j ∈ ss := by
        rw [List.mem_cons]
        exact ⟨fun q => q.resolve_left c, Or.inr⟩
      by_cases h : j ∈ ss
      · rw [if_pos h, if_pos (e2.mpr h)]
      · rw [if_neg h, if_neg fun q => h (e2.mp q)]
theorem lim_set (ws : List Wr) : (starts (turnsM ws)).foldl (fun L s => L.set s (0 : Int)) (List.replicate ws.length 2) = limM ws := by
  refine List.ext_getElem? fun j => ?_
  rw [set_all]
  unfold limM
  rw [List.getElem?_map]
  by_cases h : j < ws.length
  · have e1 : (List.replicate ws.length (2 : Int))[j]? = some 2 := by simp [h]
    have e2 : (List.range ws.length)[j]? = some j := by simp [h]
    rw [e1, e2]
    by_cases c : isSt ws j
    · rw [if_pos ((starts_turns ws j).mpr ⟨h, c⟩)]
      show some (0 : Int) = some (if isSt ws j then 0 else 2)
      rw [if_pos c]
    · rw [if_neg fun q => c ((starts_turns ws j).mp q).2]
      show some (2 : Int) = some (if isSt ws j then 0 else 2)
      rw [if_neg c]
  · have e1 : (List.replicate ws.length (2 : Int))[j]? = none := by simp; omega
    have e2 : (List.range ws.length)[j]? = none := by simp; omega
    rw [e1, e2]
    split <;> rfl
theorem yes_then {te : TE} {σ : L2.St} {H : Hp} {k1 : V → Hp → Prop} {k2 : Hp → Prop} (h : te σ H k1) : tYes σ H fun b H3 => if b = true then te σ H3 k1 else k2 H3 := by
  show (if true = true then te σ H k1 else k2 H)
  rw [if_pos rfl]
  exact h
/-! ### [v] * n -/
section
variable {K : PySem.W.Frag} {σ : L2.St} {H : Hp} {te tn : TE} {v : V}
theorem el_rep {n : Nat} (h : Ev te σ H v) (hn : Ev tn σ H (.int (n : Int))) (hz : n ≤ 100000) : EvL (tOp rRep (tLst (tCons te tNil)) tn) σ H (List.replicate n v) := fun H1 e Q q =>
  h H1 e _ fun H2 e2 => ⟨by show 1 ≤ sizeLine; decide, fun l hl => hn _ ((e.trans e2).trans (Ex.new hl)) _ fun H3 e3 => ⟨l, (n : Int), [v], rfl, rfl, e3 l _ upd_same, by omega, by omega, by
      have q1 : [v].length * ((n : Int)).toNat = n := by simp
      rw [q1]
      exact sz_of hz, fun p hp => by
        have q2 : (List.replicate ((n : Int)).toNat [v]).flatten = List.replicate n v := by simp
        rw [q2]
        have hp1 : H1 p = none := fresh_back (e2.trans ((Ex.new hl).trans e3)) hp
        exact q p _ hp1 ((e2.trans ((Ex.new hl).trans e3)).trans (Ex.new hp)) upd_same⟩⟩
end
section
variable {K : PySem.W.Frag} {σ : L2.St} {H : Hp} {ta tb : TE} {x y : V} {d e : PyData}
theorem rv_eqD (hd : Dp K H x d) (he : Dp K H y e) (s1 : SeqAt.shaped d = true) (s2 : SeqAt.shaped e = true) : RV (rEqD K) x y H (.bl (PyData.eqv d e)) := fun H1 ex Q q => ⟨d, e, dp_ex ex hd, dp_ex ex he, s1, s2, q H1 (Ex.refl H1)⟩
theorem rv_neD (hd : Dp K H x d) (he : Dp K H y e) (s1 : SeqAt.shaped d = true) (s2 : SeqAt.shaped e = true) : RV (rNeD K) x y H (.bl (!PyData.eqv d e)) := fun H1 ex Q q => ⟨d, e, dp_ex ex hd, dp_ex ex he, s1, s2, q H1 (Ex.refl H1)⟩
theorem eqv_str (d : PyData) (s : Str) : PyData.eqv d (.str s) = (match d with | .str z => decide (z = s) | _ => false) := by
  cases d with
  | str z =>
    show (z == s) = decide (z = s)
    by_cases q : z = s
    · rw [q, decide_eq_true rfl, beq_self_eq_true]
    · rw [decide_eq_false q]
      exact beq_eq_false_iff_ne.mpr q
  | _ => rfl
end
end L3

namespace L3
open PySem PySem.Spec PyProof.Rows L2 Evl
/-! ### a try whose clauses stand one after the other, some with a name -/
abbrev Clause := Value × Option Nat × (Addr → Value → Option Addr → TS)
/-- behind a named suite the name is gone -/
def gone (D : Ends) (i : Nat) : Ends := { nx := fun σ H => D.nx (σ.set i none) H, rt := D.rt, bk := fun σ H => D.bk (σ.set i none) H, ct := fun σ H => D.ct (σ.set i none) H }
def suiteOf (D : Ends) (o : Option Nat) (t : TS) (a : Addr) : L2.St → Hp → Prop := match o with
  | none => fun σ H => t D σ H
  | some i => fun σ H => t (gone D i) (σ.set i (some (.ref a))) H
def wCl (K : PySem.W.Frag) (Wout : WX) (D : Ends) : List Clause → WX
  | [] => Wout
  | (c, o, t) :: r => fun cls d σ H => ∃ b, PySem.W.exmOne K cls c = some b ∧ (b = true → ∀ a, H a = none → suiteOf D o (t a cls d) a σ H) ∧ (b = false → wCl K Wout D r cls d σ H)
inductive ClsOk (X : Cx) : List ExceptHandler → List Clause → Prop
  | nil : ClsOk X [] []
  | bare {x : Str} {c : Value} {t : Addr → Value → Option Addr → TS} {b : Stmt} {bs : List Stmt} {p q : Pos} {hs : List ExceptHandler} {l : List Clause} (hc : Names X x c)
      (hsu : ∀ (a : Addr) (o : Obj) (cls : Value) (d : Option Addr) (pn : List (Addr × Obj)), Zc cls d o → (∃ vs, o.data = .fields vs) → PSs (X.suite a ((a, o) :: pn)) (b :: bs) (t a cls d)) (r : ClsOk X hs l) :
      ClsOk X (.ExceptHandler (some (.Name x p)) none (b :: bs) q :: hs) ((c, none, t) :: l)
  | named {x n : Str} {i : Nat} {c : Value} {t : Addr → Value → Option Addr → TS} {b : Stmt} {bs : List Stmt} {p q : Pos} {hs : List ExceptHandler} {l : List Clause} (hN : X.N.Nodup) (hi : X.N[i]? = some n) (hn : X.env.kindOf n = some .local) (hc : Names X x c)
      (hsu : ∀ (a : Addr) (o : Obj) (cls : Value) (d : Option Addr) (pn : List (Addr × Obj)), Zc cls d o → (∃ vs, o.data = .fields vs) → PSs (X.suite a ((a, o) :: pn)) (b :: bs) (t a cls d)) (r : ClsOk X hs l) :
      ClsOk X (.ExceptHandler (some (.Name x p)) (some n) (b :: bs) q :: hs) ((c, some i, t) :: l)
theorem ps_tryC {X : Cx} {body : List Stmt} {h : ExceptHandler} {hs : List ExceptHandler} {l : List Clause} {pos : Pos} {tb : WX → TS} {Wout : WX} (st : X.stack = X.env :: X.outer) (fr : X.env.frame = some X.env.locals) (tk : Takes X Wout)
    (bo : ∀ (W : WX) (pn : List (Addr × Obj)) (xe : Value → Shared → Prop), Takes (X.tr pn xe) W → PassesOwn (model X.prog X.w) X.A X.env xe → PSs (X.tr pn xe) body (tb W))
    (cl : ClsOk X (h :: hs) l) : PS X (.Try body (h :: hs) [] [] pos) (fun D σ H => tb (wCl X.K Wout D l) D σ H) := by
  refine ⟨fun pins s σ H D I rd => ?_⟩
  have ok := I.ok
  have hfr : X.A.frames = some (X.env :: X.outer) := by rw [ok.frames, st]
  refine wpAny_Try_except ?_
  refine wpAny_mono ((bo (wCl X.K Wout D l) (X.pn ++ pins) (fun e z => wpAny (model X.prog X.w) X.A (noteFrame e X.env) (fun _ z2 => wpAny (model X.prog X.w) X.A (setFlight e none) (fun _ z3 =>
    wpAny (model X.prog X.w) X.A (handleBy e X.env (h :: hs)) (SP X pins D) X.xe z3) X.xe z2) X.xe z) (fun u s' hit => ?_) PassesOwn.looking).run [] s σ H D (I.toTry _) rd) (fun f z sp => ?_) (fun e z he => he)
  · obtain ⟨a, B, s0, pins', σ', H', cls, d, rfl, J', nb, up, sky, na, os, ag, wish⟩ := hit
    have J : Inv X pins σ' H' s0 := J'.ofTry ok
    have sky' : Sky B (X.env :: X.outer) a (Zc cls d) X.env.locals s'.heap := by
      rw [← st]
      exact sky
    show wpAny (model X.prog X.w) X.A (noteFrame (.ref a) X.env) _ _ _
    refine Sky.land Zc.steady hfr fr sky' fun h3 fl up3 => ?_
    have J3 : Inv X pins σ' H' { s' with heap := h3 } := J.landed nb fl.1 (up.trans up3) os ag
    obtain ⟨o3, v3, at3, z3, d3⟩ := fl.there
    have off : a ∉ frs (X.env :: X.outer) := fun hm => by
      obtain ⟨_, o', e', nf⟩ := fl.2.2.1.mem hm
      rw [at3] at e'
      cases e'
      exact nf _ d3
    have nL : a ≠ X.env.locals := fun z => off (List.mem_filterMap.mpr ⟨X.env, List.mem_cons_self, by rw [fr, z]⟩)
    have nF : a ∉ X.fs := fun hm => by
      obtain ⟨e, he, q⟩ := List.mem_filterMap.mp hm
      exact off (List.mem_filterMap.mpr ⟨e, List.mem_cons_of_mem _ he, q⟩)
    have S3 := J3.suite at3 d3 na nL nF
    have typ : PySem.W.Looks (model X.prog X.w) h3 (typeOf (.ref a)) cls := fun A Q E s k q => wpAny_typeOf_ref (k _ _ at3) (by rw [z3.1]; exact q)
    have named : ∀ {x : Str} {c : Value} {p : Pos} {Q E : Value → Shared → Prop}, Names X x c → Q c { s' with heap := h3 } →
        wpAny (model X.prog X.w) (X.A.mark (some (.ref a))) (eval (.Name x p) X.env) Q E { s' with heap := h3 } := fun {x c p Q E} hc q => by
      obtain ⟨hg, hdb, hm | ⟨hm, hv, hne⟩⟩ := hc
      · exact ld_glob (X := X.suite a ((a, o3) :: (X.pn ++ pins))) S3 hg hm q hdb
      · exact ld_blt (X := X.suite a ((a, o3) :: (X.pn ++ pins))) S3 hg hm hv q hne hdb
    have go : ∀ {ks : List ExceptHandler} {ls : List Clause}, ClsOk X ks ls → wCl X.K Wout D ls cls d σ' H' →
        wpAny (model X.prog X.w) X.A (handleBy (.ref a) X.env ks) (SP X pins D) X.xe { s' with heap := h3 } := by
      intro ks ls hk
      induction hk with
      | nil =>
        intro wi
        refine wpAny_handleBy_nil ?_
        obtain ⟨y1, y2, y3, oe, vs, Ta, oT, ts, he, hz, hd, hv1, hrest⟩ := id fl
        unfold PySem.passOn
        refine wpAny_bind (wpAny_field he hd hv1 ?_)
        rw [if_neg (show ¬ ((Value.ref Ta == Value.none) = true) by simp)]
        have fin : wpAny (model X.prog X.w) X.A (setFlight (.ref a) X.env.frame) (fun _ w4 => wpAny (model X.prog X.w) X.A (throw (.ref a) : Sem Flow) (SP X pins D) X.xe w4) X.xe { s' with heap := h3 } := by
          rw [fr]
          refine HandSPX.setFlight_upZ fl fun h4 hh up4 => wpAny_throw (tk _ _ ?_)
          exact ⟨a, B, s0, pins, σ', H', cls, d, rfl, J, nb, (up.trans up3).trans up4, .inr (.inr (by rw [st]; exact hh)), na, os, ag, wi⟩
        first | exact wpAny_bind (wpAny_pure (wpAny_bind fin)) | exact wpAny_bind fin
      | @bare x c t b bs p q hs2 l2 hc hsu r ih =>
        intro wi
        obtain ⟨y, hy, yes, no⟩ := wi
        refine wpAny_handleBy_cons (codeAny_handlers_test ?_) (by intro q; cases q)
        have LM := PySem.W.exm_one (M := model X.prog X.w) (J3.kIn) typ hy
        refine named hc (LM.here ?_)
        cases y with
        | false =>
          show wpAny _ X.A (handleBy (.ref a) X.env hs2) _ _ _
          exact ih (no rfl)
        | true =>
          refine codeAny_handlers_suite ?_
          refine HandSPX.lands_againZ fl fun h4 fl4 up4 => ?_
          have J4 : Inv X pins σ' H' { s' with heap := h4 } := J.landed nb fl4.1 ((up.trans up3).trans up4) os ag
          obtain ⟨o4, v4, at4, z4, d4⟩ := fl4.there
          have S4 := J4.suite at4 d4 na nL nF
          refine wpAny_mono ((hsu a o4 cls d (X.pn ++ pins) z4 ⟨_, d4⟩).run [] _ _ H' D S4 (yes rfl a na)) (fun f s6 sp => ?_) (fun _ _ z => False.elim z)
          cases f with
          | ret u =>
            obtain ⟨v6, σ6, H6, S6, r6, q6⟩ := sp
            exact ⟨v6, σ6, H6, S6.unsuite ok, r6, q6⟩
          | next =>
            obtain ⟨σ6, H6, S6, q6⟩ := sp
            exact ⟨σ6, H6, S6.unsuite ok, q6⟩
          | brk =>
            obtain ⟨σ6, H6, S6, q6⟩ := sp
            exact ⟨σ6, H6, S6.unsuite ok, q6⟩
          | cont =>
            obtain ⟨σ6, H6, S6, q6⟩ := sp
            exact ⟨σ6, H6, S6.unsuite ok, q6⟩
      | @named x n i c t b bs p q hs2 l2 hN hi hn hc hsu r ih =>
        intro wi
        obtain ⟨y, hy, yes, no⟩ := wi
        refine wpAny_handleBy_cons (codeAny_handlers_test ?_) (by intro q; cases q)
        have LM := PySem.W.exm_one (M := model X.prog X.w) (J3.kIn) typ hy
        refine named hc (LM.here ?_)
        cases y with
        | false =>
          show wpAny _ X.A (handleBy (.ref a) X.env hs2) _ _ _
          exact ih (no rfl)
        | true =>
          refine codeAny_handlers_suite_as ?_
          refine HandSPX.lands_againZ fl fun h4 fl4 up4 => ?_
          have J4 : Inv X pins σ' H' { s' with heap := h4 } := J.landed nb fl4.1 ((up.trans up3).trans up4) os ag
          obtain ⟨o4, v4, at4, z4, d4⟩ := fl4.there
          have S4 := J4.suite at4 d4 na nL nF
          refine store_ok (X := X.suite a ((a, o4) :: (X.pn ++ pins))) (v := .ref a) S4 hN hi (.inl hn) rfl (fun s5 S5 => ?_) (.inr hn)
          refine wpAny_mono ((hsu a o4 cls d (X.pn ++ pins) z4 ⟨_, d4⟩).run [] s5 _ H' (gone D i) S5 (yes rfl a na)) (fun f s6 sp => ?_) (fun _ _ z => False.elim z)
          have out : ∀ {σ6 : L2.St} {H6 : Hp} {Q : Shared → Prop}, Inv (X.suite a ((a, o4) :: (X.pn ++ pins))) [] σ6 H6 s6 → (∀ s7, Inv X pins (σ6.set i none) H6 s7 → Q s7) →
              wpAny (model X.prog X.w) X.A (do bindName X.env n .none; unbindBehindTheSuite X.env n q) (fun _ s7 => Q s7) X.xe s6 := fun {σ6 H6 Q} S6 hq => gone_ok (S6.unsuite ok) hN hi hn hq
          cases f with
          | ret u =>
            obtain ⟨v6, σ6, H6, S6, r6, q6⟩ := sp
            exact out S6 fun s7 J7 => ⟨v6, _, H6, J7, r6, q6⟩
          | next =>
            obtain ⟨σ6, H6, S6, q6⟩ := sp
            exact out S6 fun s7 J7 => ⟨_, H6, J7, q6⟩
          | brk =>
            obtain ⟨σ6, H6, S6, q6⟩ := sp
            exact out S6 fun s7 J7 => ⟨_, H6, J7, q6⟩
          | cont =>
            obtain ⟨σ6, H6, S6, q6⟩ := sp
            exact out S6 fun s7 J7 => ⟨_, H6, J7, q6⟩
    exact go cl wish
  · cases f with
    | ret u =>
      obtain ⟨v, σ', H', J', r, q⟩ := sp
      exact ⟨v, σ', H', J'.ofTry ok, r, q⟩
    | next =>
      obtain ⟨σ', H', J', q⟩ := sp
      exact wpAny_execs_nil ⟨σ', H', J'.ofTry ok, q⟩
    | brk =>
      obtain ⟨σ', H', J', q⟩ := sp
      exact ⟨σ', H', J'.ofTry ok, q⟩
    | cont =>
      obtain ⟨σ', H', J', q⟩ := sp
      exact ⟨σ', H', J'.ofTry ok, q⟩
end L3

namespace L3
open PySem PySem.Spec PyProof.Rows L2 Evl
/-! ### repr of data -/
/-- what may be shown: no dict, not deep, a text of bounded length -/
structure Shw (d : PyData) : Prop where
  ok : d.showable = true
  nd : d.hasDict = false
  dp : d.depth ≤ 60
  sz : d.shown.length ≤ sizeLine
def rRepr (K : PySem.W.Frag) : List V → Hp → VK → Prop := fun xs H Q => ∃ x d, xs = [x] ∧ Dp K H x d ∧ Shw d ∧ Q (.str d.shown) H
theorem call_reprD {X : Cx} (hg : X.A.guards = some []) (hu : X.A.units + 64 < cLine) : CallR X (.builtin "repr") (rRepr X.K) := by
  intro pins s σ H xs us Q I r h
  obtain ⟨x, d, rfl, hd, sh, q⟩ := h
  obtain ⟨u, rfl, rx⟩ := vals1 r
  cases hd with
  | non =>
    cases (show u = Value.none from rx)
    exact PySem.P.repr_of_none ⟨.str _, H, I.tok _, ⟨_, rfl⟩, q⟩
  | bl b =>
    cases (show u = Value.bool b from rx)
    exact PySem.P.repr_of_bool ⟨.str _, H, I.tok _, ⟨_, rfl⟩, q⟩
  | int i =>
    obtain ⟨t, rfl⟩ := (show ∃ t, u = Value.int i t from rx)
    exact PySem.P.repr_of_int (of_decide_eq_true sh.ok) ⟨.str _, H, I.tok _, ⟨_, rfl⟩, q⟩
  | str z =>
    obtain ⟨t, rfl⟩ := (show ∃ t, u = Value.str z t from rx)
    exact PySem.P.repr_of_str ⟨.str _, H, I.tok _, ⟨_, rfl⟩, q⟩ sh.sz
  | lst hs ha =>
    obtain ⟨as, rd⟩ := Dp.reads I _ _ u (.lst hs ha) rx
    cases (show u = Value.ref _ from rx)
    exact repr_of_reads' rd sh.ok (fun z => by rw [sh.nd] at z; cases z) hg (by have := sh.dp; omega) (fun _ _ e => e) (fun h' uu tk hk => ⟨.str _, H, I.kept hk, ⟨_, rfl⟩, q⟩) sh.sz
  | tup hs ha =>
    obtain ⟨as, rd⟩ := Dp.reads I _ _ u (.tup hs ha) rx
    cases (show u = Value.ref _ from rx)
    exact repr_of_reads' rd sh.ok (fun z => by rw [sh.nd] at z; cases z) hg (by have := sh.dp; omega) (fun _ _ e => e) (fun h' uu tk hk => ⟨.str _, H, I.kept hk, ⟨_, rfl⟩, q⟩) sh.sz
/-! ### a def's promise where no repr is under way -/
structure FnG (P : Program) (w : World) (K : PySem.W.Frag) (mg : Str → Option Value) (base : Heap) (k : Nat) (f : Addr) (fd : FuncData) (ps : List Str) (sp : Sp) : Prop where
  len : ∀ vs H Q E, sp vs H Q E → vs.length = ps.length
  run : ∀ (A : Around) (outer : List Env) (s : Shared) (H : Hp) (args : Args) (us : List Value) (vs : List V) (Q : VK) (E : XK), A.guards = some [] → Room k A → Env0 P w K mg base A outer s H → BindsTo s fd args (ps.zip us) → Vals vs us → sp vs H Q E →
    codeAny (model P w) A (.call (.ref f) args) (CR CX0 outer P w H s Q E) s
section
variable {P : Program} {w : World} {K : PySem.W.Frag} {mg : Str → Option Value} {base : Heap}
theorem okG {x qual : Str} {st : Stmt} {f : Addr} {fd : FuncData} {N ps : List Str} {k : Nat} {sp : Sp} (F : Fun K x qual st f fd) (S : FnScope N ps (defScope st)) (len : ∀ vs H Q E, sp vs H Q E → vs.length = ps.length)
    (body : ∀ (cd : Value) (A : Around) (outer : List Env) (s : Shared) (H : Hp) (vs : List V) (Q : VK) (E : XK), (A.deeper (envOfC qual (defScope st) s.heap.objs.size f cd)).guards = some [] → Room k (A.deeper (envOfC qual (defScope st) s.heap.objs.size f cd)) → sp vs H Q E →
      ∃ t, PSs (cxOf CX0 P w K mg base N qual (defScope st) f cd A outer s H E).nox (defBody st) t ∧ t { nx := fun _ H' => Q .non H', rt := Q } (start N vs) H) : FnG P w K mg base (k + 1) f fd ps sp := by
  obtain ⟨oc, od, kV, doc, pm, an, cd, ct, osl, rfl, lk, hcd⟩ := F.ex
  refine ⟨len, fun A outer s H args us vs Q E hg hr e0 hb r hsp => ?_⟩
  have hl := len vs H Q E hsp
  have KX : K.In s.heap := e0.mod.kin.keeps fun b o e => (e0.bs b o e).1
  have lim : s.heap.NoLimit := e0.mod.nolimit.keeps fun b o e => (e0.bs b o e).1
  have kinds : ∀ y ∈ ps.zip us, (defScope st).names.lookup y.1 = some .local ∨ ((defScope st).names.lookup y.1 = some .cell ∧ ((cellsFrom (s.heap.objs.size + 1) (defScope st).names []).lookup y.1).isSome = true) := fun ⟨n, v⟩ hy =>
    (S.par n (List.of_mem_zip hy).1).elim Or.inl fun q => Or.inr ⟨q, PySem.W.cellsFrom_some _ _ _ (.inl q)⟩
  refine codeAny_call_function hr.depth (KX _ _ lk) rfl S.co S.gen rfl (PySem.W.codeRec_of KX hcd) (hb _ _ _ _ ?_)
  refine wpAny_newFunctionEnv_cells S.kind kinds fun env he s1 x => ?_
  subst he
  refine ⟨lim.keeps x.toInCall.keep, codeAny_func ?_⟩
  obtain ⟨t, ht, hq⟩ := body cd A outer s H vs Q E hg (hr.deeper _) hsp
  have I : Inv (cxOf CX0 P w K mg base N qual (defScope st) f cd A outer s H E) [] (start N vs) H s1 := inv_start S hr.hd e0 hl r x
  refine wpAny_mono (ht.nox.run [] s1 (start N vs) H _ I hq) (fun fl s' hs => ?_) fun e s' hs => hs
  cases fl with
  | next =>
    obtain ⟨σ', H', J, q⟩ := hs
    exact ⟨V.non, H', J.os, J.bare, J.base, J.hok, rfl, q⟩
  | ret u =>
    obtain ⟨v, σ', H', J, rv, q⟩ := hs
    exact ⟨v, H', J.os, J.bare, J.base, J.hok, rv, q⟩
  | brk =>
    obtain ⟨σ', H', J, q⟩ := hs
    exact q.elim
  | cont =>
    obtain ⟨σ', H', J, q⟩ := hs
    exact q.elim
end
theorem pe_callG {X : Cx} {k : Nat} {f : Addr} {fd : FuncData} {ps : List Str} {sp : Sp} {x : Str} {p pos : Pos} {e : Expr} {es : List Expr} {t : TA} (F : FnG X.prog X.w X.K X.mg X.base k f fd ps sp) (hgu : X.A.guards = some []) (hr : Room k X.A) (hg : Gl X x) (hm : X.mg x = some (.ref f))
    (hk : PySem.W.keepIn X.K (.ref f) = true) (hb : Binds X.K fd ps []) (ha : PA X (e :: es) t) (hdb : (x == ("__debug__" : Str)) = false := by decide)
    (he : starEach (e :: es) X.env = (false, eval e X.env) :: starEach es X.env := by rfl) (hpl : (backTo pos (starEach es X.env)).any (·.1) = false := by rfl) :
    PE X (.Call (.Name x p) (e :: es) [] pos) (tCall sp [] E0 t) := by
  refine ⟨fun pins s σ H Q I h => ?_⟩
  refine wpAny_Call_Name_kw (ld_glob I hg hm ?_ hdb)
  refine PySem.W.callWith_K (h₀ := X.base) I.ok.mod.kin hk (thn (ha.run pos pins s σ H _ I h) fun us s1 ⟨vs, H1, I1, r, q⟩ => ⟨I1.kIn, ?_⟩) he hpl
  have q' : sp vs H1 Q E0 := by
    have z : sp (vs ++ []) H1 Q E0 := q
    rw [List.append_nil] at z
    exact z
  have hl : us.length = ps.length := by
    rw [← r.length]
    exact F.len _ _ _ _ q'
  have hb' := hb s1 us I1.kIn (by rw [List.append_nil]; exact hl)
  rw [List.append_nil] at hb'
  refine wpAny_call (codeAny_mono (F.run X.A X.stack s1 H1 ⟨us, []⟩ us vs Q E0 hgu hr I1.env0 hb' r q') fun r s' hq => ?_)
  cases r with
  | error e => exact hq.elim
  | ok fl =>
    cases fl with
    | ret u => exact I1.after hq
    | next => exact hq.elim
    | brk => exact hq.elim
    | cont => exact hq.elim
end L3

namespace L3
open PySem PySem.Spec PyProof.Rows L2 Evl
/-! ### data that is small: it may be compared and shown -/
mutual
def niceD : PyData → Bool
  | .none | .bool _ => true
  | .int i => decide (i.natAbs < 10 ^ 50)
  | .str x => PyData.strOk x && decide (x.cps.size ≤ 100)
  | .list xs | .tuple xs => niceAll xs
  | .dict _ => false
def niceAll : List PyData → Bool
  | [] => true
  | x :: xs => niceD x && niceAll xs
end
mutual
def nodes : PyData → Nat
  | .list xs | .tuple xs => nodesAll xs + 1
  | _ => 1
def nodesAll : List PyData → Nat
  | [] => 0
  | x :: xs => nodes x + nodesAll xs
end
mutual
theorem nice_nd : ∀ d : PyData, niceD d = true → d.hasDict = false
  | .none, _ | .bool _, _ | .int _, _ | .str _, _ => rfl
  | .list xs, h => nice_ndAll xs h
  | .tuple xs, h => nice_ndAll xs h
theorem nice_ndAll : ∀ xs : List PyData, niceAll xs = true → PyData.hasDictAll xs = false
  | [], _ => rfl
  | x :: xs, h => by
    have h' := Bool.and_eq_true_iff.mp (show (niceD x && niceAll xs) = true from h)
    show (x.hasDict || PyData.hasDictAll xs) = false
    rw [nice_nd x h'.1, nice_ndAll xs h'.2] <;> rfl
end
theorem log_small {i : Int} (h : i.natAbs < 10 ^ 50) : i.natAbs.log2 < 180 := by
  by_cases z : i.natAbs = 0
  · rw [z]
    decide
  · exact (Nat.log2_lt z).mpr (Nat.lt_of_lt_of_le h (by decide))
mutual
theorem nice_show : ∀ d : PyData, niceD d = true → d.showable = true
  | .none, _ | .bool _, _ | .str _, _ => rfl
  | .int i, h => decide_eq_true (Nat.lt_of_lt_of_le (log_small (of_decide_eq_true h)) (by decide))
  | .list xs, h => nice_showAll xs h
  | .tuple xs, h => nice_showAll xs h
theorem nice_showAll : ∀ xs : List PyData, niceAll xs = true → PyData.showableAll xs = true
  | [], _ => rfl
  | x :: xs, h => by
    have h' := Bool.and_eq_true_iff.mp (show (niceD x && niceAll xs) = true from h)
    show (x.showable && PyData.showableAll xs) = true
    rw [nice_show x h'.1, nice_showAll xs h'.2] <;> rfl
end
mutual
theorem nice_lay : ∀ d : PyData, niceD d = true → d.canLay0 = true
  | .none, _ | .bool _, _ | .int _, _ => rfl
  | .str x, h => (Bool.and_eq_true_iff.mp (show (PyData.strOk x && decide (x.cps.size ≤ 100)) = true from h)).1
  | .list xs, h => nice_layAll xs h
  | .tuple xs, h => nice_layAll xs h
theorem nice_layAll : ∀ xs : List PyData, niceAll xs = true → PyData.canLayAll0 xs = true
  | [], _ => rfl
  | x :: xs, h => by
    have h' := Bool.and_eq_true_iff.mp (show (niceD x && niceAll xs) = true from h)
    show (x.canLay0 && PyData.canLayAll0 xs) = true
    rw [nice_lay x h'.1, nice_layAll xs h'.2] <;> rfl
end
mutual
theorem nice_short : ∀ d : PyData, niceD d = true → PyData.leavesShort 61 d = true
  | .none, _ | .bool _, _ => rfl
  | .int i, h => decide_eq_true (by
      have z := int_text_length_le10 (a := i) (k := 50) (by decide) (of_decide_eq_true h)
      show (Str.ofString (toString i)).length ≤ 61
      rw [PySem.ofString_length]
      omega)
  | .str x, h => by
    have q := (Bool.and_eq_true_iff.mp (show (PyData.strOk x && decide (x.cps.size ≤ 100)) = true from h)).1
    show (x.cps.toList.all fun c => decide (c < 16 ^ 8)) = true
    rw [List.all_eq_true]
    intro c hc
    have q2 : x.cps.all (fun c => decide (c < 0x110000)) = true := q
    have q3 : x.cps.toList.all (fun c => decide (c < 0x110000)) = true := by
      rw [← q2]
      simp
    have z := of_decide_eq_true (List.all_eq_true.mp q3 c hc)
    exact decide_eq_true (Nat.lt_of_lt_of_le z (by decide))
  | .list xs, h => nice_shortAll xs h
  | .tuple xs, h => nice_shortAll xs h
theorem nice_shortAll : ∀ xs : List PyData, niceAll xs = true → PyData.leavesShortAll 61 xs = true
  | [], _ => rfl
  | x :: xs, h => by
    have h' := Bool.and_eq_true_iff.mp (show (niceD x && niceAll xs) = true from h)
    show (PyData.leavesShort 61 x && PyData.leavesShortAll 61 xs) = true
    rw [nice_short x h'.1, nice_shortAll xs h'.2] <;> rfl
end
mutual
theorem nice_weight : ∀ d : PyData, niceD d = true → d.weight + 1 ≤ 201 * nodes d
  | .none, _ | .bool _, _ => by show 0 + 1 ≤ 201 * 1; decide
  | .int i, h => by
    show (if i == 0 then 0 else i.natAbs.log2 + 1) + 1 ≤ 201 * 1
    have z := log_small (of_decide_eq_true h)
    split <;> omega
  | .str x, h => by
    have q := of_decide_eq_true (Bool.and_eq_true_iff.mp (show (PyData.strOk x && decide (x.cps.size ≤ 100)) = true from h)).2
    show x.cps.size + 1 ≤ 201 * 1
    omega
  | .list xs, h => by
    have z := nice_weightAll xs h
    show PyData.weightAll xs + 1 ≤ 201 * (nodesAll xs + 1)
    omega
  | .tuple xs, h => by
    have z := nice_weightAll xs h
    show PyData.weightAll xs + 1 ≤ 201 * (nodesAll xs + 1)
    omega
theorem nice_weightAll : ∀ xs : List PyData, niceAll xs = true → PyData.weightAll xs ≤ 201 * nodesAll xs
  | [], _ => by show 0 ≤ 201 * 0; decide
  | x :: xs, h => by
    have h' := Bool.and_eq_true_iff.mp (show (niceD x && niceAll xs) = true from h)
    have z1 := nice_weight x h'.1
    have z2 := nice_weightAll xs h'.2
    show x.weight + 1 + PyData.weightAll xs ≤ 201 * (nodes x + nodesAll xs)
    omega
end
structure Nice (d : PyData) : Prop where
  ok : niceD d = true
  dp : d.depth ≤ 10
  nd : nodes d ≤ 1200
theorem Nice.shaped {d : PyData} (h : Nice d) : SeqAt.shaped d = true := by
  show (d.canLay0 && decide (d.depth ≤ 64)) = true
  rw [nice_lay d h.ok, decide_eq_true (by have := h.dp; omega : d.depth ≤ 64)] <;> rfl
theorem Nice.shw {d : PyData} (h : Nice d) : Shw d where
  ok := nice_show d h.ok
  nd := nice_nd d h.ok
  dp := by have := h.dp; omega
  sz := by
    have z := PyData.shown_le 61 (by decide) d (nice_short d h.ok)
    have z2 := nice_weight d h.ok
    have z3 := h.nd
    rw [sizeLine_eq]
    omega
mutual
theorem eqv_refl : ∀ d : PyData, d.hasDict = false → PyData.eqv d d = true
  | .none, _ => rfl
  | .bool b, _ => by show (b == b) = true; simp
  | .int i, _ => by show (i == i) = true; simp
  | .str x, _ => by show (x == x) = true; simp
  | .list xs, h => eqv_reflAll xs h
  | .tuple xs, h => eqv_reflAll xs h
theorem eqv_reflAll : ∀ xs : List PyData, PyData.hasDictAll xs = false → PyData.eqvAll xs xs = true
  | [], _ => rfl
  | x :: xs, h => by
    have h' : x.hasDict = false ∧ PyData.hasDictAll xs = false := by
      have z : (x.hasDict || PyData.hasDictAll xs) = false := h
      exact Bool.or_eq_false_iff.mp z
    show (PyData.eqv x x && PyData.eqvAll xs xs) = true
    rw [eqv_refl x h'.1, eqv_reflAll xs h'.2] <;> rfl
end
theorem Nice.refl {d : PyData} (h : Nice d) : PyData.eqv d d = true := eqv_refl d (nice_nd d h.ok)
/-- a list of small things -/
theorem nice_list {xs : List PyData} {k m : Nat} (h1 : ∀ x ∈ xs, niceD x = true ∧ x.depth ≤ k ∧ nodes x ≤ m) (hk : k ≤ 8) (hm : m * xs.length ≤ 1100) : Nice (.list xs) ∧ Nice (.tuple xs) := by
  have all : ∀ ys : List PyData, (∀ x ∈ ys, niceD x = true ∧ x.depth ≤ k ∧ nodes x ≤ m) → niceAll ys = true ∧ PyData.depthAll ys ≤ k ∧ nodesAll ys ≤ m * ys.length := by
    intro ys
    induction ys with
    | nil => intro _; exact ⟨rfl, Nat.zero_le _, Nat.zero_le _⟩
    | cons y r ih =>
      intro h
      obtain ⟨a1, a2, a3⟩ := h y List.mem_cons_self
      obtain ⟨b1, b2, b3⟩ := ih fun x hx => h x (List.mem_cons_of_mem _ hx)
      refine ⟨?_, ?_, ?_⟩
      · show (niceD y && niceAll r) = true
        rw [a1, b1] <;> rfl
      · show max y.depth (PyData.depthAll r) ≤ k
        omega
      · show nodes y + nodesAll r ≤ m * (r.length + 1)
        rw [Nat.mul_add, Nat.mul_one]
        omega
  obtain ⟨a, b, c⟩ := all xs h1
  constructor
  · exact ⟨a, by show PyData.depthAll xs + 1 ≤ 10; omega, by show nodesAll xs + 1 ≤ 1200; omega⟩
  · exact ⟨a, by show PyData.depthAll xs + 1 ≤ 10; omega, by show nodesAll xs + 1 ≤ 1200; omega⟩
/-! ### comprehensions over a tuple -/
section
variable {K : PySem.W.Frag} {σ : L2.St} {H : Hp} {te tl : TE} {t : TT}
theorem el_lcT {a : Addr} {xs : List V} {j : Nat} {vs : List Nat} (f : Nat → Bool) (v : Nat → V) (h : Ev tl σ H (.ref a)) (hx : SqT K H a xs) (hz : xs.length ≤ 40000) (hw : ∀ x, wipe ((wipe σ vs).set j (some x)) vs = wipe σ vs)
    (ht : ∀ (i : Nat) (x : V) H1, Ex H H1 → xs[i]? = some x → EvT t ((wipe σ vs).set j (some x)) H1 (f i)) (he : ∀ (i : Nat) (x : V) H1, Ex H H1 → xs[i]? = some x → f i = true → Ev te ((wipe σ vs).set j (some x)) H1 (v i)) :
    EvL (tLc (iTup K tl) (gName j) t te vs) σ H (given xs.length f v) := by
  intro H0 e Q q
  refine h H0 e _ fun H1 e1 => ⟨a, rfl, ⟨xs, ex_t (e.trans e1) hx⟩, fun Dl hD => ?_⟩
  refine lc_tup (xs := xs) (Cw H1 f v Dl) ⟨hD, Ex.new hD, upd_same⟩ (fun i H' _ p => ex_t ((e.trans e1).trans p.2.1) hx) (fun i x H' hi p => ?_) (fun H' p => q Dl H' (fresh_back e1 p.1) (e1.trans p.2.1) p.2.2)
  exact ⟨hw x, cw_turn p (by have := (List.getElem?_eq_some_iff.mp hi).1; omega) (ht i x H1 (e.trans e1) hi) (fun hf => he i x H1 (e.trans e1) hi hf)⟩
end
end L3

namespace L3
open PySem PySem.Spec PyProof.Rows L2 Evl
/-! ### the end, for a promise that holds where no repr is under way -/
section
variable {P : Program} {w : World} {K : PySem.W.Frag} {mg mb : Str → Option Value} {k : Nat} {fa a : Addr} {fd : FuncData} {x : Str} {sp : Sp} {z : Shared} {vs : List Value} {ns : List Int}
/-- from an abstract heap H that may track the script alone -/
theorem endAt (KX : K.In z.heap) (hn : z.heap.Ns mainGlobals mg) (hb : z.heap.Ns builtinsNs mb) (hbb : ∀ x : Str, x ≠ "__name__" → mb x = bootBuiltins x) (lim : z.heap.NoLimit) (hg : z.gens = #[])
    (ha : z.heap.get? a = some { cls := .type "list", data := .seq vs.toArray }) (hr : Room k callerA) (F : ∀ base : Heap, K.In base → base.Ns mainGlobals mg → FnG P w K mg base k fa fd [x] sp)
    (bi : ∀ (s : Shared) (u : Value), BindsTo s fd ⟨[u], []⟩ [(x, u)]) {H : Hp} (only : Only H) (hok : HOk P w H z.heap) (hA : ∀ b, H b ≠ none → b = a) (hK : H a ≠ none → K.lookup a = none) (hsp : sp [.ref a] H (fun v _ => v = .bl true) fun _ _ _ => False) :
    codeAny (model P w) callerA (.call (.ref fa) ⟨[.ref a], []⟩) (fun r s' => r = .ok (.ret (.bool true)) ∧ OldK z.heap s'.heap ∧ s'.os = z.os ∧ AllBare s'.gens) z := by
  have off : ∀ {b : Addr}, b ≠ a → H b = none := fun {b} hb => by
    cases q : H b with
    | none => rfl
    | some u => exact absurd (hA b (by rw [q]; simp)) hb
  have offD : ∀ {b : Addr} {o : Obj} {es : Array DictEntry} {ep : Nat}, z.heap.get? b = some o → o.data = .dict es ep → H b = none := fun {b o es ep} e d => off fun y => by
    rw [y, ha] at e
    cases e
    have d' : Data.seq vs.toArray _ = Data.dict es ep := d
    cases d'
  have offK : ∀ {b : Addr} {o : Obj}, K.lookup b = some o → H b = none := fun {b o} e => by
    by_cases c : b = a
    · cases q : H b with
      | none => rfl
      | some u =>
        have n := hK (by rw [← c, q]; simp)
        rw [← c, e] at n
        cases n
    · exact off c
  have nsK : ∀ {b : Addr} {m : Str → Option Value}, z.heap.Ns b m → (hidT z.heap H).Ns b m := fun {b m} ⟨o, es, ep, e, d, r⟩ => ⟨o, es, ep, hidT_get e (offD e d), d, r⟩
  have kb : K.In (hidT z.heap H) := fun b o e => hidT_get (KX b o e) (offK e)
  have md : Mod K mg (hidT z.heap H) := ⟨kb, nsK hn, ⟨mb, nsK hb, hbb⟩, let ⟨mc, h1, h2⟩ := lim; ⟨mc, nsK h1, h2⟩⟩
  have e0 : Env0 P w K mg (hidT z.heap H) callerA [] z H := ⟨rfl, md, fun b o e => of_hidT e, Nat.le_of_eq (hidT_size _ _), trivial, (fun b hb => absurd (show b ∈ ([] : List Addr) from hb) (by simp)), hok, .of_eq hg⟩
  refine codeAny_mono ((F _ kb (nsK hn)).run callerA [] z H ⟨[.ref a], []⟩ [.ref a] [.ref a] _ _ rfl hr e0 (bi z (.ref a)) (.cons rfl .nil) hsp) fun r s' h => ?_
  cases r with
  | error e => exact h.elim
  | ok fl =>
    cases fl with
    | ret u =>
      obtain ⟨v, H', os, bare, un, hok', rv, q⟩ := h
      obtain rfl : v = .bl true := q
      obtain rfl : u = Value.bool true := rv
      refine ⟨rfl, OldK.of_keep fun b o e => ?_, os, bare⟩
      rcases only b with n | ⟨ob, xs, n⟩
      · exact un.keep b o e n (fun y => absurd (show b ∈ ([] : List Addr) from y) (by simp)) (by simp)
      · obtain ⟨e1, _⟩ := hok b _ n
        obtain ⟨e2, _⟩ := hok' b _ (un.frzs b ob _ n)
        rw [e] at e1
        cases e1
        exact e2
    | next => exact h.elim
    | brk => exact h.elim
    | cont => exact h.elim
theorem endG (KX : K.In z.heap) (hn : z.heap.Ns mainGlobals mg) (hb : z.heap.Ns builtinsNs mb) (hbb : ∀ x : Str, x ≠ "__name__" → mb x = bootBuiltins x) (lim : z.heap.NoLimit) (hg : z.gens = #[])
    (ha : z.heap.get? a = some { cls := .type "list", data := .seq vs.toArray }) (hi : IntsAre vs ns) (hl : ns.length ≤ sizeLine) (hr : Room k callerA) (F : ∀ base : Heap, K.In base → base.Ns mainGlobals mg → FnG P w K mg base k fa fd [x] sp)
    (bi : ∀ (s : Shared) (u : Value), BindsTo s fd ⟨[u], []⟩ [(x, u)]) (hsp : ∀ H : Hp, Only H → SqL K H a (ns.map V.int) → sp [.ref a] H (fun v _ => v = .bl true) fun _ _ _ => False) :
    codeAny (model P w) callerA (.call (.ref fa) ⟨[.ref a], []⟩) (fun r s' => r = .ok (.ret (.bool true)) ∧ OldK z.heap s'.heap ∧ s'.os = z.os ∧ AllBare s'.gens) z := by
  have rv := vals_ints hi
  cases hk : K.lookup a with
  | some o =>
    have e := KX a o hk
    rw [ha] at e
    cases e
    have hS : SqL K (fun _ => none) a (ns.map V.int) := Or.inr ⟨_, vs.toArray, _, hk, rfl, rfl, rfl, by rw [List.size_toArray, hi.length]; exact hl, by simpa using rv⟩
    have on : Only (fun _ => none) := fun _ => Or.inl rfl
    exact endAt KX hn hb hbb lim hg ha hr F bi on (fun b u y => nomatch (show (none : Option HO) = some u from y)) (fun b y => absurd rfl y) (fun y => absurd rfl y) (hsp _ on hS)
  | none =>
    have at_ : (fun b : Addr => if b = a then some (HO.frz { cls := .type "list", data := .seq vs.toArray } (.lst (ns.map V.int))) else none) a = some (.frz { cls := .type "list", data := .seq vs.toArray } (.lst (ns.map V.int))) := if_pos rfl
    have on : Only (fun b : Addr => if b = a then some (HO.frz { cls := .type "list", data := .seq vs.toArray } (.lst (ns.map V.int))) else none) := fun b => by
      by_cases c : b = a
      · exact Or.inr ⟨_, _, if_pos c⟩
      · exact Or.inl (if_neg c)
    refine endAt KX hn hb hbb lim hg ha hr F bi on (fun b u y => ?_) (fun b y => ?_) (fun _ => hk) (hsp _ on (Or.inl (Or.inr ⟨_, at_⟩)))
    · by_cases c : b = a
      · have y' := (if_pos c).symm.trans y
        cases y'
        rw [c]
        exact ⟨ha, by rw [List.length_map]; exact hl, vs, _, rv, ha⟩
      · have y' := (if_neg c).symm.trans y
        cases y'
    · by_cases c : b = a
      · exact c
      · exact absurd (if_neg c) y
end
theorem walkG {l : PySem.W.OpenLaw} {n k : Nat} {q : Program} {loose : List Str} {XP : (Str → Option Value) → Heap → Prop} {YP : World → Heap → Prop} {d : DefRec} {K : Params → PySem.W.Frag} {sp : World → Sp} {x : Str} (hn : l.most = some n) (hn2 : n ≤ sizeLine) (hdf : d.params.defaults = []) (hr : Room k callerA)
    (hY : ∀ (w : World) (h : Heap), YP w h → (K w.params).In h)
    (F : ∀ (w : World) (mg : Str → Option Value) (fa : Addr) (h : Heap), (K w.params).In h → h.Ns mainGlobals mg → mg d.name = some (.ref fa) →
      ∃ fd : FuncData, (∀ (s : Shared) (u : Value), BindsTo s fd ⟨[u], []⟩ [(x, u)]) ∧ ∀ base : Heap, (K w.params).In base → base.Ns mainGlobals mg → FnG l.prog w (K w.params) mg base k fa fd [x] (sp w))
    (hsp : ∀ (w : World) (H : Hp) (a : Addr) (ns : List Int), ns.length ≤ n → Only H → SqL (K w.params) H a (ns.map V.int) → sp w [.ref a] H (fun v _ => v = .bl true) fun _ _ _ => False) :
    PySem.W.WalkO q loose XP YP l.row.toRowW d [] (fun f vs => PySem.call f vs) := by
  refine Att.attach_call hn hdf fun w s₀ z mg mb fa o pm cd doc a vs ns G Y ho hd hcd hmg hobj hints hlen hg => ?_
  have KX := hY w _ Y
  obtain ⟨fd, hb, hF⟩ := F w mg fa _ KX G.T.g hmg
  exact endG KX G.T.g G.T.b G.T.builtins G.T.nolimit hg hobj hints (Nat.le_trans hlen hn2) hr hF hb fun H hO hS => hsp w H a ns hlen hO hS
end L3

namespace L3
open PySem PySem.Spec PyProof.Rows L2 Evl
/-! ### several clauses, some naming two classes at once -/
def exmC (K : PySem.W.Frag) (cls : Value) : List Value → Option Bool
  | [c] => PySem.W.exmOne K cls c
  | l => PySem.W.exmAny K cls l
abbrev ClauseT := List Value × Option Nat × (Addr → Value → Option Addr → TS)
def wClT (K : PySem.W.Frag) (Wout : WX) (D : Ends) : List ClauseT → WX
  | [] => Wout
  | (cs, o, t) :: r => fun cls d σ H => ∃ b, exmC K cls cs = some b ∧ (b = true → ∀ a, H a = none → suiteOf D o (t a cls d) a σ H) ∧ (b = false → wClT K Wout D r cls d σ H)
inductive TestOk (X : Cx) : Expr → List Value → Prop
  | one {x : Str} {c : Value} {p : Pos} (hc : Names X x c) : TestOk X (.Name x p) [c]
  | two {x y : Str} {c e : Value} {p q r : Pos} {kk : Nat} (hc : Names X x c) (he : Names X y e) : TestOk X (.Tuple [.Name x p, .Name y q] kk r) [c, e]
inductive ClsT (X : Cx) : List ExceptHandler → List ClauseT → Prop
  | nil : ClsT X [] []
  | bare {te : Expr} {cs : List Value} {t : Addr → Value → Option Addr → TS} {b : Stmt} {bs : List Stmt} {q : Pos} {hs : List ExceptHandler} {l : List ClauseT} (hc : TestOk X te cs)
      (hsu : ∀ (a : Addr) (o : Obj) (cls : Value) (d : Option Addr) (pn : List (Addr × Obj)), Zc cls d o → (∃ vs, o.data = .fields vs) → PSs (X.suite a ((a, o) :: pn)) (b :: bs) (t a cls d)) (r : ClsT X hs l) :
      ClsT X (.ExceptHandler (some te) none (b :: bs) q :: hs) ((cs, none, t) :: l)
  | named {te : Expr} {n : Str} {i : Nat} {cs : List Value} {t : Addr → Value → Option Addr → TS} {b : Stmt} {bs : List Stmt} {q : Pos} {hs : List ExceptHandler} {l : List ClauseT} (hN : X.N.Nodup) (hi : X.N[i]? = some n) (hn : X.env.kindOf n = some .local) (hc : TestOk X te cs)
      (hsu : ∀ (a : Addr) (o : Obj) (cls : Value) (d : Option Addr) (pn : List (Addr × Obj)), Zc cls d o → (∃ vs, o.data = .fields vs) → PSs (X.suite a ((a, o) :: pn)) (b :: bs) (t a cls d)) (r : ClsT X hs l) :
      ClsT X (.ExceptHandler (some te) (some n) (b :: bs) q :: hs) ((cs, some i, t) :: l)
/-- a flight bears a further object -/
theorem flying_push {B : Heap} {l : List Env} {a : Addr} {Z : Obj → Prop} {h : Heap} {o : Obj} (fl : HandSPX.FlyingZ B l a Z h) : HandSPX.FlyingZ B l a Z (h.push o) := by
  have kp : ∀ b u, h.get? b = some u → (h.push o).get? b = some u := fun _ _ z => Heap.get?_push_of_some _ z
  obtain ⟨f1, f2, f3, oe, vs, T, oT, ts, g1, g2, g3, g4, g5, g6, g7, g8, g9⟩ := fl
  exact ⟨fun b u e => kp b u (f1 b u e), f2, Heap.FunFrames.of_keeps (fun b u e _ => ⟨u, kp b u e, rfl⟩) f3, oe, vs, T, oT, ts, kp _ _ g1, g2, g3, g4, g5, g6, kp _ _ g7, g8, g9⟩
theorem ps_tryT {X : Cx} {body : List Stmt} {h : ExceptHandler} {hs : List ExceptHandler} {l : List ClauseT} {pos : Pos} {tb : WX → TS} {Wout : WX} (st : X.stack = X.env :: X.outer) (fr : X.env.frame = some X.env.locals) (tk : Takes X Wout)
    (bo : ∀ (W : WX) (pn : List (Addr × Obj)) (xe : Value → Shared → Prop), Takes (X.tr pn xe) W → PassesOwn (model X.prog X.w) X.A X.env xe → PSs (X.tr pn xe) body (tb W))
    (cl : ClsT X (h :: hs) l) : PS X (.Try body (h :: hs) [] [] pos) (fun D σ H => tb (wClT X.K Wout D l) D σ H) := by
  refine ⟨fun pins s σ H D I rd => ?_⟩
  have ok := I.ok
  have hfr : X.A.frames = some (X.env :: X.outer) := by rw [ok.frames, st]
  refine wpAny_Try_except ?_
  refine wpAny_mono ((bo (wClT X.K Wout D l) (X.pn ++ pins) (fun e z => wpAny (model X.prog X.w) X.A (noteFrame e X.env) (fun _ z2 => wpAny (model X.prog X.w) X.A (setFlight e none) (fun _ z3 =>
    wpAny (model X.prog X.w) X.A (handleBy e X.env (h :: hs)) (SP X pins D) X.xe z3) X.xe z2) X.xe z) (fun u s' hit => ?_) PassesOwn.looking).run [] s σ H D (I.toTry _) rd) (fun f z sp => ?_) (fun e z he => he)
  · obtain ⟨a, B, s0, pins', σ', H', cls, d, rfl, J', nb, up, sky, na, os, ag, wish⟩ := hit
    have J : Inv X pins σ' H' s0 := J'.ofTry ok
    have sky' : Sky B (X.env :: X.outer) a (Zc cls d) X.env.locals s'.heap := by
      rw [← st]
      exact sky
    show wpAny (model X.prog X.w) X.A (noteFrame (.ref a) X.env) _ _ _
    refine Sky.land Zc.steady hfr fr sky' fun h0 fl0 up0 => ?_
    have off : ∀ {hh : Heap} {o3 : Obj} {v3 : Array Value}, Inv X pins σ' H' { s' with heap := hh } → HandSPX.FlyingZ B (X.env :: X.outer) a (Zc cls d) hh → hh.get? a = some o3 → o3.data = .fields v3 → a ≠ X.env.locals ∧ a ∉ X.fs := fun {hh o3 v3} _ fl at3 d3 => by
      have of1 : a ∉ frs (X.env :: X.outer) := fun hm => by
        obtain ⟨_, o', e', nf⟩ := fl.2.2.1.mem hm
        rw [at3] at e'
        cases e'
        exact nf _ d3
      exact ⟨fun z => of1 (List.mem_filterMap.mpr ⟨X.env, List.mem_cons_self, by rw [fr, z]⟩), fun hm => by
        obtain ⟨e, he, q⟩ := List.mem_filterMap.mp hm
        exact of1 (List.mem_filterMap.mpr ⟨e, List.mem_cons_of_mem _ he, q⟩)⟩
    have tst : ∀ {te : Expr} {cs : List Value} {b : Bool} {R : Bool → Shared → Prop} {E1 E2 : Value → Shared → Prop}, TestOk X te cs → exmC X.K cls cs = some b → ∀ h3, HandSPX.FlyingZ B (X.env :: X.outer) a (Zc cls d) h3 → s'.heap.UpToSlots h3 →
        (∀ h4, HandSPX.FlyingZ B (X.env :: X.outer) a (Zc cls d) h4 → s'.heap.UpToSlots h4 → R b { s' with heap := h4 }) →
        wpAny (model X.prog X.w) (X.A.mark (some (.ref a))) (eval te X.env) (fun c s2 => wpAny (model X.prog X.w) (X.A.mark (some (.ref a))) (excMatches (.ref a) c) R E1 s2) E2 { s' with heap := h3 } := by
      intro te cs b R E1 E2 ht hb h3 fl up3 q
      have J3 : Inv X pins σ' H' { s' with heap := h3 } := J.landed nb fl.1 (up.trans up3) os ag
      obtain ⟨o3, v3, at3, z3, d3⟩ := fl.there
      obtain ⟨nL, nF⟩ := off J3 fl at3 d3
      have S3 := J3.suite at3 d3 na nL nF
      have typ : PySem.W.Looks (model X.prog X.w) h3 (typeOf (.ref a)) cls := fun A Q E s k q => wpAny_typeOf_ref (k _ _ at3) (by rw [z3.1]; exact q)
      have named : ∀ {x : Str} {c : Value} {p : Pos} {Q E0 : Value → Shared → Prop}, Names X x c → Q c { s' with heap := h3 } →
          wpAny (model X.prog X.w) (X.A.mark (some (.ref a))) (eval (.Name x p) X.env) Q E0 { s' with heap := h3 } := fun {x c p Q E0} hc q => by
        obtain ⟨hg, hdb, hm | ⟨hm, hv, hne⟩⟩ := hc
        · exact ld_glob (X := X.suite a ((a, o3) :: (X.pn ++ pins))) S3 hg hm q hdb
        · exact ld_blt (X := X.suite a ((a, o3) :: (X.pn ++ pins))) S3 hg hm hv q hne hdb
      cases ht with
      | one hc => exact named hc ((PySem.W.exm_one (M := model X.prog X.w) (J3.kIn) typ hb).here (q h3 fl up3))
      | @two x y c e p r r2 kk hc he =>
        refine wpAny_Tuple ?_
        refine wpAny_items_cons (named hc ?_)
        refine wpAny_items_cons (named he ?_)
        refine wpAny_items_nil ⟨by size_fits, ?_⟩
        have kp : ∀ b o, h3.get? b = some o → (h3.push { cls := .type "tuple", data := .seq [c, e].toArray }).get? b = some o := fun _ _ z => Heap.get?_push_of_some _ z
        refine (PySem.W.exm_tup2 (M := model X.prog X.w) (J3.kIn.keeps kp) (typ.keeps kp) (Heap.get?_push_size h3 rfl) hb).here (q _ (flying_push fl) (up3.trans (Heap.UpToSlots.of_keeps kp)))
    have go : ∀ {ks : List ExceptHandler} {ls : List ClauseT}, ClsT X ks ls → wClT X.K Wout D ls cls d σ' H' → ∀ h3, HandSPX.FlyingZ B (X.env :: X.outer) a (Zc cls d) h3 → s'.heap.UpToSlots h3 →
        wpAny (model X.prog X.w) X.A (handleBy (.ref a) X.env ks) (SP X pins D) X.xe { s' with heap := h3 } := by
      intro ks ls hk
      induction hk with
      | nil =>
        intro wi h3 fl up3
        have J3 : Inv X pins σ' H' { s' with heap := h3 } := J.landed nb fl.1 (up.trans up3) os ag
        refine wpAny_handleBy_nil ?_
        obtain ⟨y1, y2, y3, oe, vs, Ta, oT, ts, he, hz, hd, hv1, hrest⟩ := id fl
        unfold PySem.passOn
        refine wpAny_bind (wpAny_field he hd hv1 ?_)
        rw [if_neg (show ¬ ((Value.ref Ta == Value.none) = true) by simp)]
        have fin : wpAny (model X.prog X.w) X.A (setFlight (.ref a) X.env.frame) (fun _ w4 => wpAny (model X.prog X.w) X.A (throw (.ref a) : Sem Flow) (SP X pins D) X.xe w4) X.xe { s' with heap := h3 } := by
          rw [fr]
          refine HandSPX.setFlight_upZ fl fun h4 hh up4 => wpAny_throw (tk _ _ ?_)
          exact ⟨a, B, s0, pins, σ', H', cls, d, rfl, J, nb, (up.trans up3).trans up4, .inr (.inr (by rw [st]; exact hh)), na, os, ag, wi⟩
        first | exact wpAny_bind (wpAny_pure (wpAny_bind fin)) | exact wpAny_bind fin
      | @bare te cs t b bs q hs2 l2 hc hsu r ih =>
        intro wi h3 fl up3
        obtain ⟨y, hy, yes, no⟩ := wi
        refine wpAny_handleBy_cons (codeAny_handlers_test ?_) (by cases hc <;> (intro q; cases q))
        refine tst hc hy h3 fl up3 fun h4 fl4 up4 => ?_
        cases y with
        | false =>
          show wpAny _ X.A (handleBy (.ref a) X.env hs2) _ _ _
          exact ih (no rfl) h4 fl4 up4
        | true =>
          refine codeAny_handlers_suite ?_
          refine HandSPX.lands_againZ fl4 fun h5 fl5 up5 => ?_
          have J5 : Inv X pins σ' H' { s' with heap := h5 } := J.landed nb fl5.1 ((up.trans up4).trans up5) os ag
          obtain ⟨o5, v5, at5, z5, d5⟩ := fl5.there
          obtain ⟨nL, nF⟩ := off J5 fl5 at5 d5
          have S5 := J5.suite at5 d5 na nL nF
          refine wpAny_mono ((hsu a o5 cls d (X.pn ++ pins) z5 ⟨_, d5⟩).run [] _ _ H' D S5 (yes rfl a na)) (fun f s6 sp => ?_) (fun _ _ z => False.elim z)
          cases f with
          | ret u =>
            obtain ⟨v6, σ6, H6, S6, r6, q6⟩ := sp
            exact ⟨v6, σ6, H6, S6.unsuite ok, r6, q6⟩
          | next =>
            obtain ⟨σ6, H6, S6, q6⟩ := sp
            exact ⟨σ6, H6, S6.unsuite ok, q6⟩
          | brk =>
            obtain ⟨σ6, H6, S6, q6⟩ := sp
            exact ⟨σ6, H6, S6.unsuite ok, q6⟩
          | cont =>
            obtain ⟨σ6, H6, S6, q6⟩ := sp
            exact ⟨σ6, H6, S6.unsuite ok, q6⟩
      | @named te n i cs t b bs q hs2 l2 hN hi hn hc hsu r ih =>
        intro wi h3 fl up3
        obtain ⟨y, hy, yes, no⟩ := wi
        refine wpAny_handleBy_cons (codeAny_handlers_test ?_) (by cases hc <;> (intro q; cases q))
        refine tst hc hy h3 fl up3 fun h4 fl4 up4 => ?_
        cases y with
        | false =>
          show wpAny _ X.A (handleBy (.ref a) X.env hs2) _ _ _
          exact ih (no rfl) h4 fl4 up4
        | true =>
          refine codeAny_handlers_suite_as ?_
          refine HandSPX.lands_againZ fl4 fun h5 fl5 up5 => ?_
          have J5 : Inv X pins σ' H' { s' with heap := h5 } := J.landed nb fl5.1 ((up.trans up4).trans up5) os ag
          obtain ⟨o5, v5, at5, z5, d5⟩ := fl5.there
          obtain ⟨nL, nF⟩ := off J5 fl5 at5 d5
          have S5 := J5.suite at5 d5 na nL nF
          refine store_ok (X := X.suite a ((a, o5) :: (X.pn ++ pins))) (v := .ref a) S5 hN hi (.inl hn) rfl (fun sx Sx => ?_) (.inr hn)
          refine wpAny_mono ((hsu a o5 cls d (X.pn ++ pins) z5 ⟨_, d5⟩).run [] sx _ H' (gone D i) Sx (yes rfl a na)) (fun f s6 sp => ?_) (fun _ _ z => False.elim z)
          have out : ∀ {σ6 : L2.St} {H6 : Hp} {Q : Shared → Prop}, Inv (X.suite a ((a, o5) :: (X.pn ++ pins))) [] σ6 H6 s6 → (∀ s7, Inv X pins (σ6.set i none) H6 s7 → Q s7) →
              wpAny (model X.prog X.w) X.A (do bindName X.env n .none; unbindBehindTheSuite X.env n q) (fun _ s7 => Q s7) X.xe s6 := fun {σ6 H6 Q} S6 hq => gone_ok (S6.unsuite ok) hN hi hn hq
          cases f with
          | ret u =>
            obtain ⟨v6, σ6, H6, S6, r6, q6⟩ := sp
            exact out S6 fun s7 J7 => ⟨v6, _, H6, J7, r6, q6⟩
          | next =>
            obtain ⟨σ6, H6, S6, q6⟩ := sp
            exact out S6 fun s7 J7 => ⟨_, H6, J7, q6⟩
          | brk =>
            obtain ⟨σ6, H6, S6, q6⟩ := sp
            exact out S6 fun s7 J7 => ⟨_, H6, J7, q6⟩
          | cont =>
            obtain ⟨σ6, H6, S6, q6⟩ := sp
            exact out S6 fun s7 J7 => ⟨_, H6, J7, q6⟩
    exact go cl wish h0 fl0 up0
  · cases f with
    | ret u =>
      obtain ⟨v, σ', H', J', r, q⟩ := sp
      exact ⟨v, σ', H', J'.ofTry ok, r, q⟩
    | next =>
      obtain ⟨σ', H', J', q⟩ := sp
      exact wpAny_execs_nil ⟨σ', H', J'.ofTry ok, q⟩
    | brk =>
      obtain ⟨σ', H', J', q⟩ := sp
      exact ⟨σ', H', J'.ofTry ok, q⟩
    | cont =>
      obtain ⟨σ', H', J', q⟩ := sp
      exact ⟨σ', H', J'.ofTry ok, q⟩
/-! ### isinstance of a caught error that has a dict of its own -/
section
open PySem.W PySem.Calls
variable {prog : Program} {w : World} {A : Around} {E : Value → Shared → Prop} {s : Shared} {K : Frag} {x D : Addr} {ox : Obj} {od : Option Obj}
theorem find_data {C : Addr} {nm : Str} {at0 g0 : Value} (h1 : (clsIn K C).isSome = true) (h2 : findIn K (.ref C) nm = some (some at0)) (h3 : specialIn K at0 "__get__" = some (some g0)) (h4 : takesIn K at0 = some true) : findObj K C od nm = some (.bind g0 at0) := by
  obtain ⟨cd, h1⟩ := Option.isSome_iff_exists.mp h1
  unfold findObj
  rw [h1, Option.bind_some, h2, Option.bind_some]
  simp [h3, h4]
theorem class_of_err {Q : Option Value → Shared → Prop} (T : ExcC K D) (X : K.In s.heap) (I : InstAt s.heap x ox D od) (h : Q (some (.ref D)) { s with toks := s.toks + 1 }) : wpAny (model prog w) A (getAttr? (.ref x) "__class__") Q E s := by
  have ff : findObj K D od "__class__" = some (.bind (.builtin "getset_descriptor.__get__") (.builtin "object.__class__")) := find_data (by obtain ⟨cd, hc, _⟩ := any_some T.hd; rw [hc]; rfl) T.ha T.hn T.ht
  obtain ⟨hp, g, d, t, os⟩ := s
  have T0 := I.type (M := model prog w)
  have T1 := looks_findIn (M := model prog w) X T.hg
  have T2 := looks_findIn (M := model prog w) X T.hk
  have T3 := looks_find (M := model prog w) X I ff
  have sb : Looks (model prog w) hp (isInstance (.ref x) (.type "BaseException")) true := T0.andThen (looks_subIn X T.hs)
  have n2 : (Value.builtin "BaseException.__getattribute__" == Value.builtin "object.__getattribute__") = false := by decide +kernel
  have n1 : (onTheHeap (Value.ref D) && Value.builtin "BaseException.__getattribute__" == Value.builtin "object.__getattribute__") = false := by rw [n2] <;> rfl
  have n0 : (false && onTheHeap (Value.builtin "BaseException.__getattribute__")) = false := rfl
  unfold getAttr? getAttrBy? getAttrBy
  refine wpAny_bind (wpAny_mkText (wpAny_bind (wpAny_attempt (wpAny_holding (wpAny_bind (T0.at (wpAny_bind (T1.at ?_))))))))
  show wpAny _ _ (if (onTheHeap (Value.ref D) && Value.builtin "BaseException.__getattribute__" == Value.builtin "object.__getattribute__") = true then _ else _) _ _ _
  rw [n1, if_neg Bool.false_ne_true]
  unfold getAttrByItsOwn hookBefore
  refine wpAny_bind ?_
  rw [if_pos (show onTheHeap (Value.ref D) = true from rfl)]
  refine T2.at ?_
  refine wpAny_bind (wpAny_attempt (wpAny_holding ?_))
  unfold callGetattribute
  rw [n0, if_neg Bool.false_ne_true]
  unfold boundAndCalled
  rw [PySem.F.excAttr_ValueError.ga.bind (.ref x)]
  refine wpAny_bind (wpAny_pure ?_)
  show wpAny _ _ (call (.builtin "BaseException.__getattribute__") [.ref x, .str "__class__" t]) _ _ _
  refine wpAny_call (codeAny_call_builtin PySem.F.excAttr_ValueError.ga.plain PySem.F.entry_bexc_ga ?_)
  refine @check_slot (model prog w) _ _ ⟨hp, g, d, t + 1, os⟩ "BaseException.__getattribute__" "BaseException" "__getattribute__" (.ref x) [.str "__class__" t] [] _ (by decide +kernel) (by decide +kernel) sb (PySem.F.args_bexc_ga (.ref x) (.str "__class__" t)) ?_
  unfold Builtin.«object.__getattribute__»
  refine wpAny_bind (wpAny_of_eq (a := ((Value.ref x : Value), [Value.str "__class__" t])) (by first | rfl | (simp only [slotArgs]; rfl)) ?_)
  refine wpAny_bind (wpAny_pure (wpAny_bind (T0.at (wpAny_bind (T3.at ?_)))))
  show wpAny _ _ (holding [Value.builtin "object.__class__"] (call (.builtin "getset_descriptor.__get__") [.builtin "object.__class__", .ref x, .ref D]) >>= ret) _ _ _
  refine wpAny_bind (wpAny_holding (wpAny_call (class_get (s := ⟨hp, g, d, t + 1, os⟩) (ox := ox) (od := od) X I T.hm ?_)))
  refine wpAny_pure ?_
  show wpAny _ _ (handedOut (.ref D)) _ _ _
  rw [handedOut_of (v := .ref D) rfl]
  first
    | exact wpAny_pure (wpAny_pure h)
    | exact wpAny_pure h
    | exact wpAny_pure (wpAny_bind (wpAny_pure (wpAny_pure h)))
theorem kitx_err (T : ExcC K D) : KitX K (.ref x) (.ref D) (fun h => InstAt h x ox D od) where
  ty := fun _ _ _ I => I.type
  it := fun _ _ X _ => by
    obtain ⟨cdD, hcD, _⟩ := any_some T.hd
    unfold clsIn at hcD
    split at hcD
    · rename_i c' d' cd' sl' ho
      intro A' Q' E' s' k q
      unfold isType loadHead
      exact wpAny_bind (wpAny_loadPart (k _ _ (X _ _ ho)) (wpAny_pure q))
    · cases hcD
  ne := fun h tp dd its n sl X htp => by
    obtain ⟨cdD, hcD, _⟩ := any_some T.hd
    refine Bool.eq_false_iff.mpr fun q => ?_
    have e : D = tp := Value.ref.inj (beq_iff_eq.mp q)
    subst e
    unfold clsIn at hcD
    split at hcD
    · rename_i c' d' cd' sl' ho
      have z := (X _ _ ho).symm.trans htp
      cases z
    · cases hcD
  ca := fun X I k => class_of_err T X I k
end
/-- isinstance(err, c), the error of class D with a dict of its own -/
def rIsX (K : PySem.W.Frag) (D a : Addr) (cls : Value) (d : Option Addr) : List V → Hp → VK → Prop := fun xs H Q => ∃ (c : V) (cv : Value) (b : Bool), xs = [.ref a, c] ∧ cls = .ref D ∧ (∃ (dd : Addr) (fs : List (Str × V)), d = some dd ∧ H dd = some (.xd fs)) ∧ (∀ u, RelV c u → u = cv) ∧ PySem.W.kitOne K (.ref D) cv = some b ∧ Q (.bl b) H
theorem call_isX {X : Cx} {a D : Addr} {oe : Obj} {cls : Value} {d : Option Addr} {pn : List (Addr × Obj)} (T : ExcC X.K D) (hz : Zc cls d oe) (hf : ∃ vs, oe.data = .fields vs) : CallR (X.suite a ((a, oe) :: pn)) (.builtin "isinstance") (rIsX X.K D a cls d) := by
  intro pins s σ H xs us Q I r h
  obtain ⟨c, cv, b, rfl, rfl, ⟨dd, fs, rfl, hdd⟩, hcv, e, q⟩ := h
  cases r with
  | cons rx rr =>
    cases rr with
    | cons rt rr =>
      cases rr
      cases rx
      have ec := hcv _ rt
      subst ec
      obtain ⟨hget, _⟩ := I.pin (a, oe) (List.mem_append.mpr (.inl List.mem_cons_self))
      obtain ⟨vs, hv⟩ := hf
      have hx : ObjOk X.prog X.w H s.heap dd (.xd fs) := I.hok dd _ hdd
      obtain ⟨mA, hns, hr⟩ := hx
      obtain ⟨od, ho, hl⟩ := lookIn_ns hns
      have J : PySem.W.InstAt s.heap a oe D (some od) := ⟨hget, hz.1, by unfold PySem.W.notCls; rw [hv] <;> rfl, by rw [hz.2]; exact ho⟩
      exact PySem.W.kia_one (kitx_err T) I.kIn J e (fun z => nomatch z) fun tk => ⟨.bl b, H, I.kept (t' := tk) fun _ _ z => z, rfl, q⟩
end L3

namespace L3
open PySem PySem.Spec PyProof.Rows L2 Evl
/-! ### what an expression tells, as data that stands where a heap B tells nothing -/
/-- what stands beside B -/
def newIn (H B : Hp) : Hp := fun a => match B a with
  | none => H a
  | some _ => none
section
variable {B H H1 : Hp} {g p : Addr} {o : HO}
theorem new_at (hB : B p = none) : newIn H B p = H p := by
  unfold newIn
  rw [hB]
theorem new_off (hB : B p = some o) : newIn H B p = none := by
  unfold newIn
  rw [hB]
theorem new_sub : Ex (newIn H B) H := fun a u h => by
  cases q : B a with
  | none =>
    rw [new_at q] at h
    exact h
  | some v =>
    rw [new_off q] at h
    cases h
theorem new_ex (e : Ex H H1) : Ex (newIn H B) (newIn H1 B) := fun a u h => by
  cases q : B a with
  | none =>
    rw [new_at q] at h ⊢
    exact e a u h
  | some v =>
    rw [new_off q] at h
    cases h
theorem new_del (hB : B g = some o) (e : Ex (newIn H B) H1) : Ex (newIn H B) (del H1 g) := fun a u h => by
  by_cases c : a = g
  · rw [c, new_off hB] at h
    cases h
  · rw [del_ne c]
    exact e a u h
theorem del_keep (e : Ex (del H g) (del H1 g)) (h : H p = some o) (n : p ≠ g) : H1 p = some o := by
  have z := e p o (by rw [del_ne n]; exact h)
  rw [del_ne n] at z
  exact z
theorem new_bag (hB : B g = some o) (e : Ex (del H g) (del H1 g)) : Ex (newIn H B) (newIn H1 B) := fun a u h => by
  cases q : B a with
  | none =>
    rw [new_at q] at h ⊢
    have c : a ≠ g := fun z => by
      rw [z, hB] at q
      cases q
    exact del_keep e h c
  | some v =>
    rw [new_off q] at h
    cases h
/-- one object alone -/
def onlyAt (H : Hp) (g : Addr) : Hp := fun a => if a = g then H g else none
theorem only_at : onlyAt H g g = H g := if_pos rfl
theorem only_ne (h : p ≠ g) : onlyAt H g p = none := if_neg h
theorem only_ex : Ex (onlyAt H g) H := fun a u h => by
  by_cases c : a = g
  · rw [c, only_at] at h
    rw [c]
    exact h
  · rw [only_ne c] at h
    cases h
theorem new_only (hg : H g = some o) : newIn H1 (onlyAt H g) = del H1 g := by
  funext b
  by_cases c : b = g
  · rw [c, new_off (by rw [only_at]; exact hg), del_same]
  · rw [new_at (only_ne c), del_ne c]
end
section
variable (K : PySem.W.Frag) (B : Hp)
def DvE (te : TE) (σ : L2.St) (H : Hp) (d : PyData) : Prop := ∀ H1, Ex H H1 → ∀ Q : VK, (∀ z H2, Ex H1 H2 → Dp K (newIn H2 B) z d → Q z H2) → te σ H1 Q
def DvA (ta : TA) (σ : L2.St) (H : Hp) (ds : List PyData) : Prop := ∀ H1, Ex H H1 → ∀ Q : List V → Hp → Prop, (∀ xs H2, Ex H1 H2 → DpAll K (newIn H2 B) xs ds → Q xs H2) → ta σ H1 Q
def DvL (te : TE) (σ : L2.St) (H : Hp) (ds : List PyData) : Prop := ∀ H1, Ex H H1 → ∀ Q : VK, (∀ p xs H2, Ex H1 H2 → B p = none → H2 p = some (.lst xs) → DpAll K (newIn H2 B) xs ds → Q (.ref p) H2) → te σ H1 Q
end
section
variable {K : PySem.W.Frag} {B : Hp} {σ : L2.St} {H : Hp} {te tb tn : TE} {ta tr : TA} {d : PyData} {ds es : List PyData} {v : V}
theorem dv_ev (h : Ev te σ H v) (hd : Dp K (newIn H B) v d) : DvE K B te σ H d := fun H1 e Q q => h H1 e Q fun H2 e2 => q v H2 e2 (dp_ex (new_ex (e.trans e2)) hd)
theorem dv_int {i : Int} (h : Ev te σ H (.int i)) : DvE K B te σ H (.int i) := fun H1 e Q q => h H1 e Q fun H2 e2 => q _ H2 e2 (.int i)
theorem dv_str {x : Str} (h : Ev te σ H (.str x)) : DvE K B te σ H (.str x) := fun H1 e Q q => h H1 e Q fun H2 e2 => q _ H2 e2 (.str x)
theorem dv_bl {b : Bool} (h : Ev te σ H (.bl b)) : DvE K B te σ H (.bool b) := fun H1 e Q q => h H1 e Q fun H2 e2 => q _ H2 e2 (.bl b)
theorem dv_non (h : Ev te σ H .non) : DvE K B te σ H .none := fun H1 e Q q => h H1 e Q fun H2 e2 => q _ H2 e2 .non
theorem da_nil : DvA K B tNil σ H [] := fun H1 e Q q => q [] H1 (Ex.refl H1) .nil
theorem da_cons (h : DvE K B te σ H d) (hr : DvA K B tr σ H ds) : DvA K B (tCons te tr) σ H (d :: ds) := fun H1 e Q q =>
  h H1 e _ fun z H2 e2 hz => hr H2 (e.trans e2) _ fun xs H3 e3 hx => q (z :: xs) H3 (e2.trans e3) (.cons (dp_ex (new_ex e3) hz) hx)
theorem dv_tup (hb : Ex B H) (h : DvA K B ta σ H ds) (hl : ds.length ≤ 100000) : DvE K B (tTup ta) σ H (.tuple ds) := fun H1 e Q q =>
  h H1 e _ fun xs H2 e2 hx => ⟨sz_of (by rw [dps_len' hx]; exact hl), fun p hp => q _ _ (e2.trans (Ex.new hp)) (.tup (st_of (by rw [new_at (fresh_back ((hb.trans e).trans e2) hp)]; exact upd_same)) (dps_ex (new_ex (Ex.new hp)) hx))⟩
theorem dl_lst (hb : Ex B H) (h : DvA K B ta σ H ds) (hl : ds.length ≤ 100000) : DvL K B (tLst ta) σ H ds := fun H1 e Q q =>
  h H1 e _ fun xs H2 e2 hx => ⟨sz_of (by rw [dps_len' hx]; exact hl), fun p hp => q _ xs _ (e2.trans (Ex.new hp)) (fresh_back ((hb.trans e).trans e2) hp) upd_same (dps_ex (new_ex (Ex.new hp)) hx)⟩
theorem dl_var {i : Nat} {p : Addr} {xs : List V} (h : σ[i]? = some (some (.ref p))) (n : B p = none) (hp : H p = some (.lst xs)) (hx : DpAll K (newIn H B) xs ds) : DvL K B (tVar i) σ H ds := fun H1 e Q q =>
  ⟨_, h, q p xs H1 (Ex.refl H1) n (e p _ hp) (dps_ex (new_ex e) hx)⟩
theorem dv_l (h : DvL K B te σ H ds) : DvE K B te σ H (.list ds) := fun H1 e Q q =>
  h H1 e Q fun p xs H2 e2 n hp hx => q _ H2 e2 (.lst (sq_of (by rw [new_at n]; exact hp)) hx)
theorem dps_app {H : Hp} : ∀ {xs ys : List V} {ds es : List PyData}, DpAll K H xs ds → DpAll K H ys es → DpAll K H (xs ++ ys) (ds ++ es)
  | _, _, _, _, .nil, h => h
  | _, _, _, _, .cons a r, h => .cons a (dps_app r h)
theorem dl_cat (hb : Ex B H) (h1 : DvL K B te σ H ds) (h2 : DvL K B tb σ H es) (hl : ds.length + es.length ≤ 100000) : DvL K B (tOp rCat te tb) σ H (ds ++ es) := fun H1 e Q q =>
  h1 H1 e _ fun p xs H2 e2 n2 hp2 hx2 => h2 H2 (e.trans e2) _ fun p3 ys H3 e3 n3 hp3 hx3 =>
    ⟨p, p3, xs, ys, rfl, rfl, e3 p _ hp2, hp3, sz_of (by rw [dps_len' hx2, dps_len' hx3]; exact hl), fun pz hpz =>
      q _ _ _ ((e2.trans e3).trans (Ex.new hpz)) (fresh_back (((hb.trans e).trans e2).trans e3) hpz) upd_same (dps_ex (new_ex (Ex.new hpz)) (dps_app (dps_ex (new_ex e3) hx2) hx3))⟩
theorem dl_rep {n : Nat} (hb : Ex B H) (h : DvE K B te σ H d) (hn : Ev tn σ H (.int (n : Int))) (hz : n ≤ 100000) : DvL K B (tOp rRep (tLst (tCons te tNil)) tn) σ H (List.replicate n d) := fun H1 e Q q =>
  h H1 e _ fun z H2 e2 hd => ⟨by show 1 ≤ sizeLine; decide, fun l hl => hn _ ((e.trans e2).trans (Ex.new hl)) _ fun H3 e3 => ⟨l, (n : Int), [z], rfl, rfl, e3 l _ upd_same, by omega, by omega, by
      have q1 : [z].length * ((n : Int)).toNat = n := by simp
      rw [q1]
      exact sz_of hz, fun p hp => by
        have q2 : (List.replicate ((n : Int)).toNat [z]).flatten = List.replicate n z := by simp
        rw [q2]
        have e23 := (Ex.new (o := .lst [z]) hl).trans e3
        refine q p _ _ ((e2.trans e23).trans (Ex.new hp)) (fresh_back (((hb.trans e).trans e2).trans e23) hp) upd_same (dps_ex (new_ex (Ex.new hp)) ?_)
        have hd3 : Dp K (newIn H3 B) z d := dp_ex (new_ex e23) hd
        clear q q2 hp hn hz
        induction n with
        | zero => exact .nil
        | succ m ih => exact .cons hd3 ih⟩⟩
theorem dps_take : ∀ {H : Hp} {xs : List V} {ds : List PyData} (n : Nat), DpAll K H xs ds → DpAll K H (xs.take n) (ds.take n)
  | _, _, _, 0, _ => .nil
  | _, _, _, _ + 1, .nil => .nil
  | _, _, _, n + 1, .cons a r => .cons a (dps_take n r)
theorem dps_drop : ∀ {H : Hp} {xs : List V} {ds : List PyData} (n : Nat), DpAll K H xs ds → DpAll K H (xs.drop n) (ds.drop n)
  | _, _, _, 0, h => h
  | _, _, _, _ + 1, .nil => .nil
  | _, _, _, n + 1, .cons _ r => dps_drop n r
theorem cut_take {xs : List V} (n : Nat) : cutV xs none (some (n : Int)) = xs.take n := by
  unfold cutV
  rw [HT.sIx_none, HT.sIx_nat, List.drop_zero, Nat.sub_zero]
  by_cases c : n ≤ xs.length
  · rw [Nat.min_eq_left c]
  · rw [Nat.min_eq_right (by omega), List.take_of_length_le (Nat.le_refl _), List.take_of_length_le (by omega)]
theorem passE {X : Cx} : Passes (L2.CX X.prog X.w) X E0 := fun _ _ _ _ _ _ _ ⟨_, _, _, _, _, _, _, _, _, _, _, _, h⟩ => h.elim
theorem q_asgDl {tz : TS} {D : Ends} {i : Nat} (h : DvL K B te σ H ds) (k : ∀ p xs H1, Ex H H1 → B p = none → H1 p = some (.lst xs) → DpAll K (newIn H1 B) xs ds → tz D (σ.set i (some (.ref p))) H1) : tSeq (tAsg te (gName i)) tz D σ H :=
  h H (Ex.refl H) _ fun p xs H2 e2 n hp hx => k p xs H2 e2 n hp hx
theorem q_asgD {tz : TS} {D : Ends} {i : Nat} (h : DvE K B te σ H d) (k : ∀ z H1, Ex H H1 → Dp K (newIn H1 B) z d → tz D (σ.set i (some z)) H1) : tSeq (tAsg te (gName i)) tz D σ H :=
  h H (Ex.refl H) _ fun z H2 e2 hz => k z H2 e2 hz
end
end L3

namespace L3
open PySem PySem.Spec PySem.W PySem.Calls PySem.HandSPX Builtin Builtin.ObjectAttr
/-! ### own error classes over any built-in error: made, their field set -/
/-- what the built-in part of the order of classes gives; newId stands at its class B, initId is not asked -/
structure BaseF (B newId initId : String) (low bm : List Value) : Prop where
  F : ExcBaseFacts B newId initId low
  hB : bm.contains (.type B) = true
  hA : bm.contains (.type "AttributeError") = false
  hN : bm.contains (.type "NameError") = false
  hO : bm.contains (.type "object") = true
  hP : ∀ self : Value, refuseLoop self "__setattr__" bm = pure ()
theorem base_index : BaseF "IndexError" "IndexError.__new__" "IndexError.__init__" [.type "IndexError", .type "LookupError", .type "Exception", .type "BaseException", .type "object"] [.type "IndexError", .type "LookupError", .type "Exception", .type "BaseException", .type "object"] :=
  ⟨F.excBase_IndexError, by decide +kernel, by decide +kernel, by decide +kernel, by decide +kernel, fun self => by kernel_rfl⟩
theorem base_lookup : BaseF "LookupError" "LookupError.__new__" "LookupError.__init__" [.type "LookupError", .type "Exception", .type "BaseException", .type "object"] [.type "LookupError", .type "Exception", .type "BaseException", .type "object"] :=
  ⟨F.excBase_LookupError, by decide +kernel, by decide +kernel, by decide +kernel, by decide +kernel, fun self => by kernel_rfl⟩
theorem base_key : BaseF "LookupError" "LookupError.__new__" "LookupError.__init__" [.type "LookupError", .type "Exception", .type "BaseException", .type "object"] [.type "KeyError", .type "LookupError", .type "Exception", .type "BaseException", .type "object"] :=
  ⟨F.excBase_LookupError, by decide +kernel, by decide +kernel, by decide +kernel, by decide +kernel, fun self => by kernel_rfl⟩
section
variable {M : Model} {prog : Program} {w : World} {A : Around} {E : Value → Shared → Prop} {R : Result → Shared → Prop} {h : Heap} {g : Array GenState} {d : Drawn} {t : Nat} {os : OsState}
variable {nm q : Str} {C N : Addr} {bs bm low : List Value} {hdct : Bool} {sn : List Str} {sub : List Value} {ab : Bool} {col : Option Bool} {dd : Option Addr} {k0 k1 k2 k3 k5 : Option Value} {B newId initId : String}
theorem chk_newB (T : BaseF B newId initId low bm) {us : List Value} {Q : Unit → Shared → Prop} (hC : h.get? C = some (excClassObj nm q C N bs bm hdct sn sub ab col dd k0 k1 k2 k3 k5 newId)) (z : Q () ⟨h, g, d, t, os⟩) :
    wpAny M A (checkBuiltinCall newId ⟨.ref C :: us, []⟩) Q E ⟨h, g, d, t, os⟩ := by
  have inB : (Value.ref C :: bm).contains (.type B) = true := by
    rw [List.contains_cons, T.hB, Bool.or_true]
  have star := T.F.noStar
  simp only [checkBuiltinCall, T.F.newKind, T.F.newSplit, T.F.newRow]
  repeat (first
    | refine wpAny_loadPart_at hC ?_
    | (refine wpAny_isSubtype_exc hC ?_; rw [inB])
    | refine wpAny_staticBase_exc hC ?_
    | refine wpAny_madeBy_exc hC ?_
    | simp only [bne_self_eq_false, Bool.false_eq_true, if_false]
    | wp_step)
  exact z
theorem new_B (T : BaseF B newId initId low bm) {us : List Value} (hC : h.get? C = some (excClassObj nm q C N bs bm hdct sn sub ab col dd k0 k1 k2 k3 k5 newId))
    (z : R (.ok (.ret (.ref (h.objs.size + 1)))) ⟨(h.push (kdv_tup us)).push (excO C h.objs.size), g, d, t, os⟩) (hl : us.length ≤ sizeLine) : codeAny (model prog w) A (.builtin newId ⟨.ref C :: us, []⟩) R ⟨h, g, d, t, os⟩ := by
  have ends := T.F.ends
  have inB : (Value.ref C :: bm).contains (.type B) = true := by
    rw [List.contains_cons, T.hB, Bool.or_true]
  have noA : (Value.ref C :: bm).contains (.type "AttributeError") = false := by
    rw [List.contains_cons, T.hA] <;> rfl
  have noN : (Value.ref C :: bm).contains (.type "NameError") = false := by
    rw [List.contains_cons, T.hN] <;> rfl
  refine codeAny_builtinAt T.F.entry ?_
  unfold Builtin.«BaseException.__new__»
  refine wpAt_bind ?_
  show wpAt _ _ _ (PySem.stack >>= _) _ _ _
  refine wpAt_bind (wpAt_stack fun _ _ => wpAt_of_wpAny ?_)
  wp_walk
  refine wpAt_of_wpAny ?_
  rw [T.F.owner]
  repeat (first
    | with_reducible refine wpAny_madeHere_exc T.F.canon hC ?_
    | with_reducible refine wpAny_loadPart_at hC ?_
    | (with_reducible refine wpAny_isSubtype_exc hC ?_; first | rw [inB] | rw [noA] | rw [noN])
    | wp_step)
  show R _ _
  rw [Heap.size_push]
  exact z
theorem type_call_B (T : BaseF B newId initId low bm) {us : List Value} {fI : Addr} {Q : Fin → Shared → Prop} (hC : h.get? C = some (excClassObj nm q C N bs bm hdct sn sub ab col dd k0 k1 k2 k3 k5 newId))
    (hi : Looks (model prog w) h (typeLookup (.ref C) "__init__") (some (.ref fI))) (hb : ∀ self, Looks (model prog w) h (bindSpecial (.ref fI) self) (.ref fI, [self])) (hl : us.length ≤ sizeLine)
    (z : codeAny (model prog w) A (.call (.ref fI) ⟨.ref (h.objs.size + 1) :: us, []⟩) (fun r s' => match r with
      | .ok (.ret v) => v = .none ∧ Q (.done (.ret (.ref (h.objs.size + 1)))) s'
      | .ok _ => False
      | .error e => E e s') ⟨(h.push (kdv_tup us)).push (excO C h.objs.size), g, d, t, os⟩) :
    wpAny (model prog w) A (Builtin.«type.__call__» ⟨.ref C :: us, []⟩) Q E ⟨h, g, d, t, os⟩ := by
  repeat (first
    | with_reducible refine wpAny_loadPart_at hC ?_
    | with_reducible refine wpAny_madeBy_exc hC ?_
    | wp_step)
  refine codeAny_call_builtin_code (Code.quiet_builtin _ T.F.quiet) (chk_newB T hC ?_)
  refine new_B T hC ?_ hl
  show wpAny _ _ _ _ _ _
  have kp : ∀ b o, h.get? b = some o → ((h.push (kdv_tup us)).push (excO C h.objs.size)).get? b = some o := fun b o e => Heap.get?_push_of_some _ (Heap.get?_push_of_some _ e)
  have hC1 := kp _ _ hC
  have at1 : ((h.push (kdv_tup us)).push (excO C h.objs.size)).get? (h.objs.size + 1) = some (excO C h.objs.size) := by heap_get
  have own : (Value.ref C :: bm).contains (.ref C) = true := by simp
  have i1 := hi.keeps kp
  have b1 := (hb (.ref (h.objs.size + 1))).keeps kp
  unfold isInstance
  repeat (first
    | with_reducible refine wpAny_loadPart_at at1 ?_
    | (with_reducible refine wpAny_isSubtype_exc hC1 ?_; rw [own])
    | wp_step)
  show wpAny _ _ (typeLookup (.ref C) _) _ _ _
  refine i1.at (wpAny_holding (wpAny_bind (b1.at ?_)))
  refine wpAny_bind (wpAny_call (codeAny_mono z fun r s' y => ?_))
  rcases r with e | (v | _ | _ | _) <;> first | exact y | exact y.elim | skip
  obtain ⟨rfl, y⟩ := y
  first
    | exact wpAny_pure (wpAny_pure y)
    | (wp_walk; exact y)
theorem call_B (T : BaseF B newId initId low bm) {us : List Value} {fI : Addr} (hC : h.get? C = some (excClassObj nm q C N bs bm hdct sn sub ab col dd k0 k1 k2 k3 k5 newId))
    (hi : Looks (model prog w) h (typeLookup (.ref C) "__init__") (some (.ref fI))) (hb : ∀ self, Looks (model prog w) h (bindSpecial (.ref fI) self) (.ref fI, [self])) (hl : us.length ≤ sizeLine)
    (z : codeAny (model prog w) (A.under (.builtin "type.__call__" ⟨.ref C :: us, []⟩)) (.call (.ref fI) ⟨.ref (h.objs.size + 1) :: us, []⟩) (InitBack (h.objs.size + 1) R) ⟨(h.push (kdv_tup us)).push (excO C h.objs.size), g, d, t, os⟩) :
    codeAny (model prog w) A (.call (.ref C) ⟨us, []⟩) R ⟨h, g, d, t, os⟩ := by
  have l1 := tc_lookup
  have l2 := tc_bind (.ref C)
  have ty : (⟨h, g, d, t, os⟩ : Shared).TypeIs (.ref C) "type" := ⟨_, hC, rfl⟩
  refine codeAny_of_tree ?_
  show wpAny _ _ (callAny (.ref C) _) _ _ _
  repeat (any_goals (first
    | assumption
    | with_reducible refine wpAny_loadPart_at hC ?_
    | wp_step))
  refine ⟨rfl, codeAny_call_builtin_at (Code.quiet_builtin _ (by decide +kernel)) entry_typeCall (wpAny_check_type_call_sub hC (type_call_B T hC hi hb hl ?_))⟩
  refine codeAny_mono z fun r s' y => ?_
  rcases r with e | (v | _ | _ | _) <;> exact y
/-- e.name = v, the first one -/
theorem osaB {K : Frag} {name : Str} {tk : Tok} {v : Value} {x : Addr} {fv : Array Value} {cd : ClassData} (X : K.In h) (hx : h.get? x = some { cls := .ref C, data := .fields fv }) (hcd : clsIn K C = some cd) (hm : cd.mro = .ref C :: bm) (hO : bm.contains (.type "object") = true)
    (hP : ∀ self : Value, refuseLoop self "__setattr__" bm = pure ()) (hh : cd.hasDict = true) (ha : findIn K (.ref C) name = some none)
    (z : ∀ h' tk' dx, (∀ b o, b ≠ x → h.get? b = some o → h'.get? b = some o) → h.objs.size ≤ dx → dx ≠ x → h'.get? x = some { cls := .ref C, dict := some dx, data := .fields fv } → h'.Ns1 dx (fun y => if y = name then some v else none) → R (.ok (.ret .none)) ⟨h', g, d, tk', os⟩) :
    codeAny (model prog w) A (.call (.builtin "object.__setattr__") ⟨[.ref x, .str name tk, v], []⟩) R ⟨h, g, d, t, os⟩ := by
  have I : InstAt h x { cls := .ref C, data := .fields fv } C none := ⟨hx, rfl, rfl, trivial⟩
  have SF := F.store_object
  have ob : cd.mro.contains (.type "object") = true := by
    rw [hm, List.contains_cons, hO, Bool.or_true]
  have ne : cd.mro.isEmpty = false := by
    rw [hm] <;> rfl
  have xs : x ≠ h.objs.size := Nat.ne_of_lt (Heap.lt_size hx)
  have sb : Looks (model prog w) h (isInstance (.ref x) (.type "object")) true := I.type.andThen (looks_mroIn X (by
    unfold mroIn
    rw [hcd, Option.bind_some, if_neg (by rw [ne]; decide), ob]))
  refine codeAny_call_builtin SF.slot.plain SF.entry (@check_slot (model prog w) _ _ ⟨h, g, d, t, os⟩ "object.__setattr__" "object" "__setattr__" (.ref x) [.str name tk, v] [] _ SF.kind SF.split sb (SF.args (.ref x) (.str name tk) v) ?_)
  have m1 : Looks (model prog w) h (mroOf (.ref C)) cd.mro := (looks_clsIn X hcd).andThen .now
  have m2 : Looks (model prog w) h (storeTaker? none) none := .now
  have m3 : Looks (model prog w) h (classData C) cd := looks_clsIn X hcd
  rw [osa_eq, refuse_eq]
  refine wpAny_bind (wpAny_bind (I.type.at (wpAny_bind (m1.at ?_))))
  rw [hm, refuseLoop_ref, hP]
  refine wpAny_pure (wpAny_bind (I.type.at (wpAny_bind ((looks_findIn X ha).at (wpAny_bind (m2.at ?_))))))
  show wpAny _ _ (storeInOwnDict (.ref x) (.ref C) (.str name tk) name v false) _ _ _
  obtain ⟨nm, bs, mro, ns, qn, hd, sn, sb, ab, col, del⟩ := cd
  dsimp only at hh
  subst hh
  unfold storeInOwnDict ownDictForStores
  repeat (first
    | with_reducible refine store_in_new ?_ ?_
    | with_reducible refine wpAny_loadPart_at hx ?_
    | with_reducible refine m3.at ?_
    | wp_step)
  · exact ⟨_, #[], _, (Heap.get?_update_ne _ _ _ _ xs.symm).trans (Heap.get?_push_at rfl rfl), rfl, fun e he => absurd he (by simp), fun _ => rfl⟩
  · intro h' tk' hn' hs
    have hx1 : (h.push { cls := .type "dict", data := .dict #[] }).get? x = some { cls := .ref C, data := .fields fv } := Heap.get?_push_of_some _ hx
    refine z h' tk' h.objs.size (fun b o hb ho => ?_) (Nat.le_refl _) xs.symm ?_ hn'
    · exact (hs.2 b (Nat.ne_of_lt (Heap.lt_size ho))).trans ((Heap.get?_update_ne _ _ _ _ hb).trans (Heap.get?_push_of_some _ ho))
    · exact (hs.2 x xs).trans (Heap.get?_update_self _ hx1 rfl)
end
end L3

namespace L3
open PySem PySem.Spec PyProof.Rows L2 L2H
/-! ### a list comprehension while an exception is handled -/
/-- the block's context, the handled exception still pinned -/
abbrev hotBlk (X : Cx) (s : Shared) (H : Hp) (scope : Scope) (ce : Env) (fp : List Addr) : Cx := { X.blk s H scope ce fp with pn := X.pn }
section
variable {X : Cx} {pins : List (Addr × Obj)} {σ : L2.St} {H : Hp} {s : Shared}
theorem hotBlk_start {scope : Scope} {own : List (Str × Nat)} {fp : List Addr} (I : Inv X pins σ H s) (ok : BlkOk X.N X.env.scope scope own) (hN : X.N.Nodup) (hfp : ∀ b ∈ fp, FpOk X pins H b ∧ b < s.heap.objs.size) :
    Inv (hotBlk X s H scope (compEnvC scope (cellsFrom (s.heap.objs.size + 1) scope.names (cloFrom X.env.cells scope.names [])) s.heap.objs.size X.env) fp) [] (wipe σ (own.map (·.2))) H { s with heap := pushCells (s.heap.push { cls := .type "dict", data := .dict #[] }) scope.names } := by
  have J := block_start I ok hN hfp
  have o := J.ok
  refine ⟨⟨o.mod, o.kind, o.glob, o.blt, o.above, o.inj, o.has, o.cab, o.hd, o.frames, o.stk, o.exf, o.bs, o.bsz, o.noex, o.exfs, o.funs, o.frf⟩, J.os, J.bare, J.base, J.loc, J.cell, J.free, J.freeC, fun p hp => ?_, J.hok, J.len⟩
  have hp' : p ∈ X.pn := by
    rcases List.mem_append.mp hp with z | z
    · exact z
    · cases z
  obtain ⟨a1, a2, a3, a4, a5⟩ := I.pin p (List.mem_append_left _ hp')
  exact ⟨pushCells_keeps _ _ _ _ (Heap.get?_push_of_some _ a1), a2, Nat.ne_of_lt (Heap.lt_size a1), fun z => (List.mem_cons.mp (I.stkSub _ z)).elim a3 a4, a5⟩
theorem hotBlk_hot {s0 : Shared} {H0 : Hp} {scope : Scope} {ce : Env} {fp : List Addr} (c : HotC X) : HotC (hotBlk X s0 H0 scope ce fp) := c
/-- what a turn of the loop finds, n the measure -/
def HotTurn (X : Cx) (Y : Cx) (σ0 : L2.St) (fp : List Addr) (tn : Nat → Heap → Prop) (W : Nat → Nat → Hp → Prop) (n : Nat) (z : Shared) : Prop := ∃ i Hi, Inv Y [] σ0 Hi z ∧ tn i z.heap ∧ (∀ b ∈ fp, Hi b = none) ∧ W i n Hi
theorem pe_lcH {elt tg iter : Expr} {ifs : List Expr} {scope : Scope} {own : List (Str × Nat)} {pos : Pos} {wi : L2.TI} {g : TG} {tt : TT} {te : TE} (hot : HotC X) (nd : X.N.Nodup) (pit : PIH X tg iter wi) (bo : BlkOk X.N X.env.scope scope own)
    (pg : ∀ (s0 : Shared) (H0 : Hp) (C : Addr) (cl : List (Str × Addr)) (fp : List Addr), PG (hotBlk X s0 H0 scope (compEnvC scope cl C X.env) fp) tg g)
    (pt : ∀ (s0 : Shared) (H0 : Hp) (C : Addr) (cl : List (Str × Addr)) (fp : List Addr), PTs (hotBlk X s0 H0 scope (compEnvC scope cl C X.env) fp) ifs tt)
    (pe : ∀ (s0 : Shared) (H0 : Hp) (C : Addr) (cl : List (Str × Addr)) (fp : List Addr), PE (hotBlk X s0 H0 scope (compEnvC scope cl C X.env) fp) elt te)
    (fold : ∀ x, foldedSetIterable iter X.env x = pure x := by intro _; rfl) : PE X (.ListComp elt [⟨tg, iter, ifs, 0⟩] scope pos) (tLc wi g tt te (own.map (·.2))) := by
  refine ⟨fun pins s σ H Q I h => ?_⟩
  rw [eval_ListComp]
  have frees : ∀ y ∈ scope.names, y.2 = .free → ∃ c, X.env.cells.lookup y.1 = some c := fun y hy e => (bo.free y hy e).elim (fun k => I.ok.has _ (.inl k)) (fun k => I.ok.has _ (.inr k))
  refine wpAny_comprehension_free rfl fold (closure_ok frees) bo.kind (fun y hy e => by rw [bo.uniq y hy, e]) (thn (pit.run pins s σ H _ I h) fun v1 z1 h1 => thn h1 fun v2 z2 h2 => ?_)
  obtain ⟨it, fp, tn, J, K0, rfl, I2, T, t0, fok, q⟩ := h2
  refine wpAny_newObj_type (newEnv_comp ?_) (Nat.zero_le _)
  generalize hl : z2.heap.objs.size = l
  obtain ⟨W, ⟨m0, w0⟩, turn⟩ := q l (I2.hok.fresh (Nat.le_of_eq hl))
  have pushed : ∀ {b : Addr} {o : Obj}, z2.heap.get? b = some o → (z2.heap.push { cls := .type "list", data := .seq ([] : List Value).toArray }).get? b = some o := fun e => Heap.get?_push_of_some _ e
  have I3 : Inv X pins σ (upd K0 l (.lst [])) { z2 with heap := z2.heap.push { cls := .type "list", data := .seq ([] : List Value).toArray } } := by
    refine I2.laid (t' := z2.toks) (fun _ _ e => pushed e) (Nat.le_of_eq hl) ⟨Nat.zero_le _, [], 0, .nil, ?_⟩
    rw [← hl]
    exact Heap.get?_push_size _ rfl
  have small : ∀ b ∈ fp, b < z2.heap.objs.size := fun b hb => (T.obj _ _ t0 b hb).elim fun o ho => Heap.lt_size ho.1
  have fok3 : ∀ b ∈ fp, FpOk X pins (upd K0 l (.lst [])) b ∧ b < (z2.heap.push { cls := .type "list", data := .seq ([] : List Value).toArray }).objs.size := fun b hb =>
    ⟨⟨by rw [upd_ne (by rw [← hl]; exact Nat.ne_of_lt (small b hb))]; exact (fok b hb).1, (fok b hb).2⟩, by rw [Heap.size_push]; exact Nat.lt_succ_of_lt (small b hb)⟩
  have t3 := T.keep _ _ _ t0 fun b _ o e => pushed (b := b) (o := o) e
  generalize hz3 : ({ z2 with heap := z2.heap.push { cls := .type "list", data := .seq ([] : List Value).toArray } } : Shared) = z3 at I3
  have hz3h : z2.heap.push { cls := .type "list", data := .seq ([] : List Value).toArray } = z3.heap := by rw [← hz3]
  rw [hz3h] at fok3 t3
  have I4 := hotBlk_start I3 bo nd fok3
  have g0 := pg z3 (upd K0 l (.lst [])) z3.heap.objs.size (cellsFrom (z3.heap.objs.size + 1) scope.names (cloFrom X.env.cells scope.names [])) fp
  have p0 := pt z3 (upd K0 l (.lst [])) z3.heap.objs.size (cellsFrom (z3.heap.objs.size + 1) scope.names (cloFrom X.env.cells scope.names [])) fp
  have e0 := pe z3 (upd K0 l (.lst [])) z3.heap.objs.size (cellsFrom (z3.heap.objs.size + 1) scope.names (cloFrom X.env.cells scope.names [])) fp
  show codeAny _ _ (.compStart _ 0 (.ref it) (.ref l) (compEnvC scope (cellsFrom (z3.heap.objs.size + 1) scope.names (cloFrom X.env.cells scope.names [])) z3.heap.objs.size X.env)) (compPost (model X.prog X.w) X.A X.xe none (EP X pins σ Q) (.ref l) z3.heap.objs.size)
    { z3 with heap := pushCells (z3.heap.push { cls := .type "dict", data := .dict #[] }) scope.names }
  generalize hz4 : ({ z3 with heap := pushCells (z3.heap.push { cls := .type "dict", data := .dict #[] }) scope.names } : Shared) = z4 at I4 ⊢
  have t4 : tn 0 z4.heap := T.keep _ _ _ t3 fun b _ o e => hz4 ▸ pushCells_keeps _ _ _ _ (Heap.get?_push_of_some _ e)
  generalize hce : compEnvC scope (cellsFrom (z3.heap.objs.size + 1) scope.names (cloFrom X.env.cells scope.names [])) z3.heap.objs.size X.env = ce at I4 g0 p0 e0 ⊢
  have cl : ce.locals = z3.heap.objs.size := by rw [← hce] <;> rfl
  generalize hK1 : upd K0 l (.lst []) = K1 at I3 I4 g0 p0 e0 w0 fok3
  have fpo : ∀ {σ' : L2.St} {K' : Hp} {z : Shared} {ps : List (Addr × Obj)}, Inv (hotBlk X z3 K1 scope ce fp) ps σ' K' z → (∀ b ∈ fp, K' b = none) → ∀ b ∈ fp, FpOk (hotBlk X z3 K1 scope ce fp) [] K' b := fun {σ' K' z ps} J' n b hb =>
    ⟨n b hb, (J'.ok.exf b hb).1, J'.ok.exfs b hb, .inl hb, fun x c e => (J'.ok.exf b hb).2 x c e, fun p hp => (fok3 b hb).1.2.2.2.2.2 p (by
      rcases List.mem_append.mp hp with y | y
      · exact List.mem_append_left _ y
      · cases y)⟩
  have loop : codeAny (model X.prog X.w) X.A (.compLoop (.ListComp elt [⟨tg, iter, ifs, 0⟩] scope pos) 0 (.ref it) (.ref l) ce) (compPost (model X.prog X.w) X.A X.xe none (EP X pins σ Q) (.ref l) z3.heap.objs.size) z4 := by
    refine compLoop_any (HotTurn X (hotBlk X z3 K1 scope ce fp) (wipe σ (own.map (·.2))) fp tn W) ?_ m0 ⟨0, K1, I4, t4, fun b hb => (fok3 b hb).1.1, w0⟩
    rintro n z5 ⟨i, K5, I5, t5, n5, w5⟩
    rcases turn i n K5 w5 with ⟨stop, fin⟩ | ⟨go, Nx, nxt, step⟩
    · refine thnF (T.done (hotBlk X z3 K1 scope ce fp) rfl rfl rfl (hotBlk_hot hot) i [] z5 _ K5 (fun _ _ => False) I5 (fpo I5 n5) t5 stop) fun r z6 ⟨hr, I6⟩ => ?_
      subst hr
      have I7 : Inv X pins σ K5 z6 := I3.call' (ch := fp) I6.os I6.base I6.hok I6.bare fun b hb => ⟨(fok3 b hb).1.2.2.2.1, (fok3 b hb).1.2.1, (fok3 b hb).1.2.2.2.2⟩
      have lost : K5 z3.heap.objs.size = none := cl ▸ I6.free
      obtain ⟨m, hm, _⟩ := I6.loc
      have hm : z6.heap.Ns ce.locals m := hm
      refine ⟨m, cl ▸ hm, fun h' sb => ?_⟩
      obtain ⟨b0, b1, b2, b3, b4, b5⟩ := I3.fpOk (H' := K5) (Nat.le_refl _) lost
      exact ⟨.ref l, K5, I7.turned (t' := z6.toks) (fun b o ne e => (sb.2 b ne).trans e) b0 b1 b3 b4 b5, rfl, fin⟩
    · refine thnF (T.item (hotBlk X z3 K1 scope ce fp) rfl rfl rfl (hotBlk_hot hot) i [] z5 _ K5 (fun _ _ => False) I5 (fpo I5 n5) t5 go) fun r z6 ⟨u, hr, h6⟩ => ?_
      subst hr
      refine thnF h6 fun _ z7 ⟨x, K7, I7, rx, y7, t7, n7⟩ => ?_
      have P7 := I7.pinned (fpo I7 n7) (T.obj _ _ t7)
      refine thnF (g0.run _ z7 _ K7 x u _ P7 rx (step x K7 y7)) fun _ z8 ⟨σ8, K8, I8, w8, q8⟩ => ?_
      refine thnF (p0.run _ z8 σ8 K8 _ I8 q8) fun b z9 ⟨K9, I9, q9⟩ => ?_
      have len8 : (wipe σ (own.map (·.2))).length = σ8.length := by rw [← w8, wipe_length]
      have more : ∀ {z : Shared} {K' : Hp}, Inv (hotBlk X z3 K1 scope ce fp) ([] ++ pinsAt fp z7.heap) σ8 K' z → Nx K' → ∃ m, m < n ∧ HotTurn X (hotBlk X z3 K1 scope ce fp) (wipe σ (own.map (·.2))) fp tn W m z := fun {z K'} J' nx => by
        obtain ⟨m, lt, w'⟩ := nxt K' nx
        have there : ∀ b ∈ fp, ∀ o, z7.heap.get? b = some o → z.heap.get? b = some o ∧ K' b = none := fun b hb o e => (J'.pin (b, o) (List.mem_append_right _ (List.mem_append_right _ (mem_pinsAt hb e)))).elim fun a1 a2 => ⟨a1, a2.1⟩
        refine ⟨m, lt, i + 1, K', (J'.unpinned (pins := [])).weak len8 (fun j v e => ?_), T.keep _ _ _ t7 fun b hb o e => (there b hb o e).1, fun b hb => (T.obj _ _ t7 b hb).elim fun o ho => (there b hb o ho.1).2, w'⟩
        rw [← w8] at e
        exact (wipe_some e).1
      cases b with
      | false =>
        simp only [Bool.false_eq_true, if_false] at q9 ⊢
        exact more I9 q9
      | true =>
        simp only [if_true] at q9 ⊢
        refine thnF (e0.run _ z9 σ8 K9 _ I9 q9) fun y z10 ⟨yv, K10, I10, r10, acc, hl10, lt10, nx⟩ => app_ok (X := hotBlk X z3 K1 scope ce fp) I10 hl10 lt10 r10 fun z11 I11 => more I11 nx
  exact codeAny_compStart_list loop (T.self X.A 0 _ _ _ t4 loop)
end
end L3

namespace L3
open PySem PySem.Spec PyProof.Rows L2 Evl
open L2H (HotC)
/-! ### several clauses, the error's context None: what they call is told while it is handled -/
abbrev ClauseN := List Value × Option Nat × (Addr → Value → Option Addr → TS)
def wClN (K : PySem.W.Frag) (Wout : WX) (D : Ends) : List ClauseN → WX
  | [] => Wout
  | (cs, o, t) :: r => fun cls d σ H => ∃ b, exmC K cls cs = some b ∧ (b = true → ∀ a, H a = none → suiteOf D o (t a cls d) a σ H) ∧ (b = false → wClN K Wout D r cls d σ H)
inductive ClsN (X : Cx) : List ExceptHandler → List ClauseN → Prop
  | nil : ClsN X [] []
  | bare {te : Expr} {cs : List Value} {t : Addr → Value → Option Addr → TS} {b : Stmt} {bs : List Stmt} {q : Pos} {hs : List ExceptHandler} {l : List ClauseN} (hc : TestOk X te cs)
      (hsu : ∀ (a : Addr) (o : Obj) (cls : Value) (d : Option Addr) (pn : List (Addr × Obj)), L2N.Zn cls d o → (∃ vs, o.data = .fields vs) → HotC (X.suite a ((a, o) :: pn)) → PSs (X.suite a ((a, o) :: pn)) (b :: bs) (t a cls d)) (r : ClsN X hs l) :
      ClsN X (.ExceptHandler (some te) none (b :: bs) q :: hs) ((cs, none, t) :: l)
  | named {te : Expr} {n : Str} {i : Nat} {cs : List Value} {t : Addr → Value → Option Addr → TS} {b : Stmt} {bs : List Stmt} {q : Pos} {hs : List ExceptHandler} {l : List ClauseN} (hN : X.N.Nodup) (hi : X.N[i]? = some n) (hn : X.env.kindOf n = some .local) (hc : TestOk X te cs)
      (hsu : ∀ (a : Addr) (o : Obj) (cls : Value) (d : Option Addr) (pn : List (Addr × Obj)), L2N.Zn cls d o → (∃ vs, o.data = .fields vs) → HotC (X.suite a ((a, o) :: pn)) → PSs (X.suite a ((a, o) :: pn)) (b :: bs) (t a cls d)) (r : ClsN X hs l) :
      ClsN X (.ExceptHandler (some te) (some n) (b :: bs) q :: hs) ((cs, some i, t) :: l)
theorem ps_tryN {X : Cx} {body : List Stmt} {h : ExceptHandler} {hs : List ExceptHandler} {l : List ClauseN} {pos : Pos} {tb : WX → TS} {Wout : WX} (st : X.stack = X.env :: X.outer) (fr : X.env.frame = some X.env.locals) (tk : L2N.Takes X Wout)
    (bo : ∀ (W : WX) (pn : List (Addr × Obj)) (xe : Value → Shared → Prop), L2N.Takes (X.tr pn xe) W → PassesOwn (model X.prog X.w) X.A X.env xe → PSs (X.tr pn xe) body (tb W))
    (cl : ClsN X (h :: hs) l) : PS X (.Try body (h :: hs) [] [] pos) (fun D σ H => tb (wClN X.K Wout D l) D σ H) := by
  refine ⟨fun pins s σ H D I rd => ?_⟩
  have ok := I.ok
  have hfr : X.A.frames = some (X.env :: X.outer) := by rw [ok.frames, st]
  refine wpAny_Try_except ?_
  refine wpAny_mono ((bo (wClN X.K Wout D l) (X.pn ++ pins) (fun e z => wpAny (model X.prog X.w) X.A (noteFrame e X.env) (fun _ z2 => wpAny (model X.prog X.w) X.A (setFlight e none) (fun _ z3 =>
    wpAny (model X.prog X.w) X.A (handleBy e X.env (h :: hs)) (SP X pins D) X.xe z3) X.xe z2) X.xe z) (fun u s' hit => ?_) PassesOwn.looking).run [] s σ H D (I.toTry _) rd) (fun f z sp => ?_) (fun e z he => he)
  · obtain ⟨a, B, s0, pins', σ', H', cls, d, rfl, J', nb, up, sky, na, os, ag, wish⟩ := hit
    have J : Inv X pins σ' H' s0 := J'.ofTry ok
    have sky' : Sky B (X.env :: X.outer) a (L2N.Zn cls d) X.env.locals s'.heap := by
      rw [← st]
      exact sky
    show wpAny (model X.prog X.w) X.A (noteFrame (.ref a) X.env) _ _ _
    refine L2N.Sky.land L2N.Zn.steady hfr fr sky' fun h0 fl0 up0 => ?_
    have off : ∀ {hh : Heap} {o3 : Obj} {v3 : Array Value}, Inv X pins σ' H' { s' with heap := hh } → HandSPX.FlyingZ B (X.env :: X.outer) a (L2N.Zn cls d) hh → hh.get? a = some o3 → o3.data = .fields v3 → a ≠ X.env.locals ∧ a ∉ X.fs := fun {hh o3 v3} _ fl at3 d3 => by
      have of1 : a ∉ frs (X.env :: X.outer) := fun hm => by
        obtain ⟨_, o', e', nf⟩ := fl.2.2.1.mem hm
        rw [at3] at e'
        cases e'
        exact nf _ d3
      exact ⟨fun z => of1 (List.mem_filterMap.mpr ⟨X.env, List.mem_cons_self, by rw [fr, z]⟩), fun hm => by
        obtain ⟨e, he, q⟩ := List.mem_filterMap.mp hm
        exact of1 (List.mem_filterMap.mpr ⟨e, List.mem_cons_of_mem _ he, q⟩)⟩
    have tst : ∀ {te : Expr} {cs : List Value} {b : Bool} {R : Bool → Shared → Prop} {E1 E2 : Value → Shared → Prop}, TestOk X te cs → exmC X.K cls cs = some b → ∀ h3, HandSPX.FlyingZ B (X.env :: X.outer) a (L2N.Zn cls d) h3 → s'.heap.UpToSlots h3 →
        (∀ h4, HandSPX.FlyingZ B (X.env :: X.outer) a (L2N.Zn cls d) h4 → s'.heap.UpToSlots h4 → R b { s' with heap := h4 }) →
        wpAny (model X.prog X.w) (X.A.mark (some (.ref a))) (eval te X.env) (fun c s2 => wpAny (model X.prog X.w) (X.A.mark (some (.ref a))) (excMatches (.ref a) c) R E1 s2) E2 { s' with heap := h3 } := by
      intro te cs b R E1 E2 ht hb h3 fl up3 q
      have J3 : Inv X pins σ' H' { s' with heap := h3 } := J.landed nb fl.1 (up.trans up3) os ag
      obtain ⟨o3, v3, at3, z3, d3⟩ := fl.there
      obtain ⟨nL, nF⟩ := off J3 fl at3 d3
      have S3 := J3.suite at3 d3 na nL nF
      have typ : PySem.W.Looks (model X.prog X.w) h3 (typeOf (.ref a)) cls := fun A Q E s k q => wpAny_typeOf_ref (k _ _ at3) (by rw [z3.1]; exact q)
      have named : ∀ {x : Str} {c : Value} {p : Pos} {Q E0 : Value → Shared → Prop}, Names X x c → Q c { s' with heap := h3 } →
          wpAny (model X.prog X.w) (X.A.mark (some (.ref a))) (eval (.Name x p) X.env) Q E0 { s' with heap := h3 } := fun {x c p Q E0} hc q => by
        obtain ⟨hg, hdb, hm | ⟨hm, hv, hne⟩⟩ := hc
        · exact ld_glob (X := X.suite a ((a, o3) :: (X.pn ++ pins))) S3 hg hm q hdb
        · exact ld_blt (X := X.suite a ((a, o3) :: (X.pn ++ pins))) S3 hg hm hv q hne hdb
      cases ht with
      | one hc => exact named hc ((PySem.W.exm_one (M := model X.prog X.w) (J3.kIn) typ hb).here (q h3 fl up3))
      | @two x y c e p r r2 kk hc he =>
        refine wpAny_Tuple ?_
        refine wpAny_items_cons (named hc ?_)
        refine wpAny_items_cons (named he ?_)
        refine wpAny_items_nil ⟨by size_fits, ?_⟩
        have kp : ∀ b o, h3.get? b = some o → (h3.push { cls := .type "tuple", data := .seq [c, e].toArray }).get? b = some o := fun _ _ z => Heap.get?_push_of_some _ z
        refine (PySem.W.exm_tup2 (M := model X.prog X.w) (J3.kIn.keeps kp) (typ.keeps kp) (Heap.get?_push_size h3 rfl) hb).here (q _ (flying_push fl) (up3.trans (Heap.UpToSlots.of_keeps kp)))
    have go : ∀ {ks : List ExceptHandler} {ls : List ClauseN}, ClsN X ks ls → wClN X.K Wout D ls cls d σ' H' → ∀ h3, HandSPX.FlyingZ B (X.env :: X.outer) a (L2N.Zn cls d) h3 → s'.heap.UpToSlots h3 →
        wpAny (model X.prog X.w) X.A (handleBy (.ref a) X.env ks) (SP X pins D) X.xe { s' with heap := h3 } := by
      intro ks ls hk
      induction hk with
      | nil =>
        intro wi h3 fl up3
        have J3 : Inv X pins σ' H' { s' with heap := h3 } := J.landed nb fl.1 (up.trans up3) os ag
        refine wpAny_handleBy_nil ?_
        obtain ⟨y1, y2, y3, oe, vs, Ta, oT, ts, he, hz, hd, hv1, hrest⟩ := id fl
        unfold PySem.passOn
        refine wpAny_bind (wpAny_field he hd hv1 ?_)
        rw [if_neg (show ¬ ((Value.ref Ta == Value.none) = true) by simp)]
        have fin : wpAny (model X.prog X.w) X.A (setFlight (.ref a) X.env.frame) (fun _ w4 => wpAny (model X.prog X.w) X.A (throw (.ref a) : Sem Flow) (SP X pins D) X.xe w4) X.xe { s' with heap := h3 } := by
          rw [fr]
          refine HandSPX.setFlight_upZ fl fun h4 hh up4 => wpAny_throw (tk _ _ ?_)
          exact ⟨a, B, s0, pins, σ', H', cls, d, rfl, J, nb, (up.trans up3).trans up4, .inr (.inr (by rw [st]; exact hh)), na, os, ag, wi⟩
        first | exact wpAny_bind (wpAny_pure (wpAny_bind fin)) | exact wpAny_bind fin
      | @bare te cs t b bs q hs2 l2 hc hsu r ih =>
        intro wi h3 fl up3
        obtain ⟨y, hy, yes, no⟩ := wi
        refine wpAny_handleBy_cons (codeAny_handlers_test ?_) (by cases hc <;> (intro q; cases q))
        refine tst hc hy h3 fl up3 fun h4 fl4 up4 => ?_
        cases y with
        | false =>
          show wpAny _ X.A (handleBy (.ref a) X.env hs2) _ _ _
          exact ih (no rfl) h4 fl4 up4
        | true =>
          refine codeAny_handlers_suite ?_
          refine HandSPX.lands_againZ fl4 fun h5 fl5 up5 => ?_
          have J5 : Inv X pins σ' H' { s' with heap := h5 } := J.landed nb fl5.1 ((up.trans up4).trans up5) os ag
          obtain ⟨o5, v5, at5, z5, d5⟩ := fl5.there
          obtain ⟨nL, nF⟩ := off J5 fl5 at5 d5
          have S5 := J5.suite at5 d5 na nL nF
          refine wpAny_mono ((hsu a o5 cls d (X.pn ++ pins) z5 ⟨_, d5⟩ ⟨(a, o5), ⟨rfl, v5, d5, z5.2.2 v5 d5⟩, List.mem_cons_self⟩).run [] _ _ H' D S5 (yes rfl a na)) (fun f s6 sp => ?_) (fun _ _ z => False.elim z)
          cases f with
          | ret u =>
            obtain ⟨v6, σ6, H6, S6, r6, q6⟩ := sp
            exact ⟨v6, σ6, H6, S6.unsuite ok, r6, q6⟩
          | next =>
            obtain ⟨σ6, H6, S6, q6⟩ := sp
            exact ⟨σ6, H6, S6.unsuite ok, q6⟩
          | brk =>
            obtain ⟨σ6, H6, S6, q6⟩ := sp
            exact ⟨σ6, H6, S6.unsuite ok, q6⟩
          | cont =>
            obtain ⟨σ6, H6, S6, q6⟩ := sp
            exact ⟨σ6, H6, S6.unsuite ok, q6⟩
      | @named te n i cs t b bs q hs2 l2 hN hi hn hc hsu r ih =>
        intro wi h3 fl up3
        obtain ⟨y, hy, yes, no⟩ := wi
        refine wpAny_handleBy_cons (codeAny_handlers_test ?_) (by cases hc <;> (intro q; cases q))
        refine tst hc hy h3 fl up3 fun h4 fl4 up4 => ?_
        cases y with
        | false =>
          show wpAny _ X.A (handleBy (.ref a) X.env hs2) _ _ _
          exact ih (no rfl) h4 fl4 up4
        | true =>
          refine codeAny_handlers_suite_as ?_
          refine HandSPX.lands_againZ fl4 fun h5 fl5 up5 => ?_
          have J5 : Inv X pins σ' H' { s' with heap := h5 } := J.landed nb fl5.1 ((up.trans up4).trans up5) os ag
          obtain ⟨o5, v5, at5, z5, d5⟩ := fl5.there
          obtain ⟨nL, nF⟩ := off J5 fl5 at5 d5
          have S5 := J5.suite at5 d5 na nL nF
          refine store_ok (X := X.suite a ((a, o5) :: (X.pn ++ pins))) (v := .ref a) S5 hN hi (.inl hn) rfl (fun sx Sx => ?_) (.inr hn)
          refine wpAny_mono ((hsu a o5 cls d (X.pn ++ pins) z5 ⟨_, d5⟩ ⟨(a, o5), ⟨rfl, v5, d5, z5.2.2 v5 d5⟩, List.mem_cons_self⟩).run [] sx _ H' (gone D i) Sx (yes rfl a na)) (fun f s6 sp => ?_) (fun _ _ z => False.elim z)
          have out : ∀ {σ6 : L2.St} {H6 : Hp} {Q : Shared → Prop}, Inv (X.suite a ((a, o5) :: (X.pn ++ pins))) [] σ6 H6 s6 → (∀ s7, Inv X pins (σ6.set i none) H6 s7 → Q s7) →
              wpAny (model X.prog X.w) X.A (do bindName X.env n .none; unbindBehindTheSuite X.env n q) (fun _ s7 => Q s7) X.xe s6 := fun {σ6 H6 Q} S6 hq => gone_ok (S6.unsuite ok) hN hi hn hq
          cases f with
          | ret u =>
            obtain ⟨v6, σ6, H6, S6, r6, q6⟩ := sp
            exact out S6 fun s7 J7 => ⟨v6, _, H6, J7, r6, q6⟩
          | next =>
            obtain ⟨σ6, H6, S6, q6⟩ := sp
            exact out S6 fun s7 J7 => ⟨_, H6, J7, q6⟩
          | brk =>
            obtain ⟨σ6, H6, S6, q6⟩ := sp
            exact out S6 fun s7 J7 => ⟨_, H6, J7, q6⟩
          | cont =>
            obtain ⟨σ6, H6, S6, q6⟩ := sp
            exact out S6 fun s7 J7 => ⟨_, H6, J7, q6⟩
    exact go cl wish h0 fl0 up0
  · cases f with
    | ret u =>
      obtain ⟨v, σ', H', J', r, q⟩ := sp
      exact ⟨v, σ', H', J'.ofTry ok, r, q⟩
    | next =>
      obtain ⟨σ', H', J', q⟩ := sp
      exact wpAny_execs_nil ⟨σ', H', J'.ofTry ok, q⟩
    | brk =>
      obtain ⟨σ', H', J', q⟩ := sp
      exact ⟨σ', H', J'.ofTry ok, q⟩
    | cont =>
      obtain ⟨σ', H', J', q⟩ := sp
      exact ⟨σ', H', J'.ofTry ok, q⟩
end L3

namespace L3
open PySem PySem.Spec PyProof.Rows L2 Evl
open L2H (HotC Hot1 RoomH PinOk cxH)
/-! ### a def that is called while the error p is handled, and may be told of it -/
structure FnE (P : Program) (w : World) (K : PySem.W.Frag) (mg : Str → Option Value) (base : Heap) (k : Nat) (f : Addr) (fd : FuncData) (ps : List Str) (sp : Addr → Value → Option Addr → Sp) : Prop where
  len : ∀ a cls d vs H Q E, sp a cls d vs H Q E → vs.length = ps.length
  run : ∀ (A : Around) (outer : List Env) (s : Shared) (H : Hp) (args : Args) (us : List Value) (vs : List V) (Q : VK) (E : XK) (p : Addr × Obj) (cls : Value) (d : Option Addr), L2N.Zn cls d p.2 → (∃ ws, p.2.data = .fields ws) → RoomH k A → Hot1 A p → PinOk outer H s p → Env0 P w K mg base A outer s H → BindsTo s fd args (ps.zip us) → Vals vs us → sp p.1 cls d vs H Q E →
    codeAny (model P w) A (.call (.ref f) args) (CR CX0 outer P w H s Q E) s
section
variable {P : Program} {w : World} {K : PySem.W.Frag} {mg : Str → Option Value} {base : Heap} {x qual : Str} {st : Stmt} {f : Addr} {fd : FuncData} {N ps : List Str} {k : Nat} {sp : Addr → Value → Option Addr → Sp}
theorem fnE_of (F : Fun K x qual st f fd) (S : FnScope N ps (defScope st)) (len : ∀ a cls d vs H Q E, sp a cls d vs H Q E → vs.length = ps.length)
    (body : ∀ (cdv : Value) (A : Around) (outer : List Env) (s : Shared) (H : Hp) (vs : List V) (Q : VK) (E : XK) (p : Addr × Obj) (cls : Value) (d : Option Addr), L2N.Zn cls d p.2 → (∃ ws, p.2.data = .fields ws) → Hot1 A p → RoomH k (A.deeper (envOfC qual (defScope st) s.heap.objs.size f cdv)) → sp p.1 cls d vs H Q E →
      ∃ t, PSs (cxH CX0 P w K mg base N qual (defScope st) f cdv A outer s H E p) (defBody st) t ∧ t { nx := fun _ H' => Q .non H', rt := Q } (start N vs) H) : FnE P w K mg base (k + 1) f fd ps sp := by
  obtain ⟨⟨oc, od, kV, doc, pm, an, cdv, ct, osl, rfl, lk, hcd⟩, kp⟩ := F
  refine ⟨len, fun A outer s H args us vs Q E p cls d zn fs rm hot pin e0 bi r hsp => ?_⟩
  have up : ∀ b o, base.get? b = some o → s.heap.get? b = some o := fun b o e => (e0.bs b o e).1
  have KX : K.In s.heap := e0.mod.kin.keeps up
  have kinds : ∀ y ∈ ps.zip us, (defScope st).names.lookup y.1 = some .local ∨ ((defScope st).names.lookup y.1 = some .cell ∧ ((cellsFrom (s.heap.objs.size + 1) (defScope st).names []).lookup y.1).isSome = true) := fun ⟨n, v⟩ hy =>
    (S.par n (List.of_mem_zip hy).1).elim .inl fun q => .inr ⟨q, PySem.W.cellsFrom_some _ _ _ (.inl q)⟩
  refine codeAny_call_function rm.depth (KX _ _ lk) rfl S.co S.gen rfl (PySem.W.codeRec_of KX hcd) (bi _ _ _ _ (wpAny_newFunctionEnv_cells S.kind kinds fun env he z x => ?_))
  subst he
  refine ⟨(e0.mod.nolimit.keeps up).keeps x.toInCall.keep, codeAny_func ?_⟩
  obtain ⟨t, ht, q⟩ := body cdv A outer s H vs Q E p cls d zn fs hot (rm.deeper _) hsp
  have I := L2H.inv_startH (CX := CX0) (E := E) (mg := mg) (cd := cdv) S pin e0 (len _ _ _ _ _ _ _ hsp) r x
  refine wpAny_mono (ht.run [] z (start N vs) H _ I q) (fun fl z2 hz => ?_) fun e z2 hz => hz
  cases fl with
  | next =>
    obtain ⟨σ', H', J, q'⟩ := hz
    exact ⟨.non, H', J.os, J.bare, J.base, J.hok, rfl, q'⟩
  | ret u =>
    obtain ⟨v, σ', H', J, rv, q'⟩ := hz
    exact ⟨v, H', J.os, J.bare, J.base, J.hok, rv, q'⟩
  | brk =>
    obtain ⟨_, _, _, y⟩ := hz
    exact y.elim
  | cont =>
    obtain ⟨_, _, _, y⟩ := hz
    exact y.elim
end
section
variable {X : Cx} {x : Str} {k : Nat} {f : Addr} {fd : FuncData} {ps : List Str} {sp : Addr → Value → Option Addr → Sp} {q pos : Pos} {e : Expr} {es : List Expr} {t : TA} {p : Addr × Obj} {cls : Value} {d : Option Addr}
theorem pe_callE (F : FnE X.prog X.w X.K X.mg X.base k f fd ps sp) (zn : L2N.Zn cls d p.2) (fs : ∃ ws, p.2.data = .fields ws) (rm : RoomH k X.A) (hot : Hot1 X.A p) (hp : p ∈ X.pn) (hg : Gl X x) (hm : X.mg x = some (.ref f)) (kp : PySem.W.keepIn X.K (.ref f) = true) (hb : Binds X.K fd ps []) (ha : PA X (e :: es) t)
    (hdb : (x == ("__debug__" : Str)) = false := by decide) (he : starEach (e :: es) X.env = (false, eval e X.env) :: starEach es X.env := by rfl) (hpl : (backTo pos (starEach es X.env)).any (·.1) = false := by rfl) :
    PE X (.Call (.Name x q) (e :: es) [] pos) (tCall (sp p.1 cls d) [] E0 t) := by
  refine ⟨fun pins s σ H Q I h => ?_⟩
  refine wpAny_Call_Name_kw (ld_glob I hg hm ?_ hdb)
  refine PySem.W.callWith_K (h₀ := X.base) I.ok.mod.kin kp (thn (ha.run pos pins s σ H _ I h) fun us z ⟨vs, H1, I1, r, q1⟩ => ⟨I1.kIn, ?_⟩) he hpl
  have q1 : sp p.1 cls d vs H1 Q E0 := by
    have y : sp p.1 cls d (vs ++ []) H1 Q E0 := q1
    rw [List.append_nil] at y
    exact y
  have hl : us.length = ps.length := by
    rw [← r.length]
    exact F.len _ _ _ _ _ _ _ q1
  have bi := hb z us I1.kIn (by rw [List.append_nil]; exact hl)
  rw [List.append_nil] at bi
  obtain ⟨a1, a2, a3, a4, a5⟩ := I1.pin p (List.mem_append_left _ hp)
  refine wpAny_call (codeAny_mono (F.run X.A X.stack z H1 ⟨us, []⟩ us vs Q E0 p cls d zn fs rm hot ⟨a1, a2, fun hm => (List.mem_cons.mp (I1.stkSub p.1 hm)).elim a3 a4, a5⟩ I1.env0 bi r q1) fun r z2 hz => ?_)
  cases r with
  | error e => exact hz.elim
  | ok fl =>
    cases fl with
    | ret u => exact I1.after hz
    | next => exact hz.elim
    | brk => exact hz.elim
    | cont => exact hz.elim
end
end L3

namespace L3
open PySem PySem.Spec PyProof.Rows L2 Evl
/-! ### own errors over any built-in error, their context None -/
structure OexB (K : PySem.W.Frag) (C : Addr) : Prop where
  cls : ∃ nm q N bs bm sn sub ab col dd k0 k1 k2 k3 k5 B newId initId low, K.lookup C = some (excClassObj nm q C N bs bm true sn sub ab col dd k0 k1 k2 k3 k5 newId) ∧ BaseF B newId initId low bm
  sa : PySem.W.findIn K (.ref C) "__setattr__" = some (some (.builtin "object.__setattr__"))
  exC : PySem.W.subIn K (.ref C) (.type "BaseException") = some true
  tyC : PySem.W.typeIn K (.ref C) = some (.type "type")
  kC : PySem.W.keepIn K (.ref C) = true
open Builtin Builtin.ObjectAttr in
theorem base_value0 (self : Value) : refuseLoop self "__setattr__" [.type "ValueError", .type "Exception", .type "BaseException", .type "object"] = pure () := by kernel_rfl
theorem base_value (E : Addr) : BaseF "ValueError" "ValueError.__new__" "ValueError.__init__" [.type "ValueError", .type "Exception", .type "BaseException", .type "object"] [.ref E, .type "ValueError", .type "Exception", .type "BaseException", .type "object"] where
  F := F.excBase_ValueError
  hB := by
    rw [List.contains_cons, show [Value.type "ValueError", .type "Exception", .type "BaseException", .type "object"].contains (.type "ValueError") = true by decide +kernel, Bool.or_true]
  hA := by
    rw [List.contains_cons, show [Value.type "ValueError", .type "Exception", .type "BaseException", .type "object"].contains (.type "AttributeError") = false by decide +kernel] <;> rfl
  hN := by
    rw [List.contains_cons, show [Value.type "ValueError", .type "Exception", .type "BaseException", .type "object"].contains (.type "NameError") = false by decide +kernel] <;> rfl
  hO := by
    rw [List.contains_cons, show [Value.type "ValueError", .type "Exception", .type "BaseException", .type "object"].contains (.type "object") = true by decide +kernel, Bool.or_true]
  hP := fun self => by
    rw [PySem.refuseLoop_ref]
    exact base_value0 self
section
variable {X : Cx} {pins : List (Addr × Obj)} {σ : L2.St} {H : Hp} {s : Shared} {A : Around} {E : Value → Shared → Prop} {a C : Addr} {f : Str} {y : V} {u : Value} {Q : Unit → Shared → Prop}
/-- the error gets its dict -/
theorem inv_dict {h' : Heap} {tk : Nat} {dx : Addr} {fs : List (Str × V)} (I : Inv X pins σ H s) (e : H a = some (exo a C none)) (k : ∀ b o, b ≠ a → s.heap.get? b = some o → h'.get? b = some o) (fresh : s.heap.objs.size ≤ dx) (ne : dx ≠ a)
    (hx : ObjOk X.prog X.w (upd (upd H dx (exd dx fs)) a (exo a C (some dx))) h' a (exo a C (some dx))) (hd : ObjOk X.prog X.w (upd (upd H dx (exd dx fs)) a (exo a C (some dx))) h' dx (exd dx fs)) (here : ∃ o, h'.get? a = some o) :
    Inv X pins σ (upd (upd H dx (exd dx fs)) a (exo a C (some dx))) { s with heap := h', toks := tk } := by
  have nd : H dx = none := I.hok.fresh fresh
  have old : ∀ {b : Addr} {o : Obj}, s.heap.get? b = some o → b ≠ dx := fun q => Nat.ne_of_lt (Nat.lt_of_lt_of_le (Heap.lt_size q) fresh)
  have off : ∀ {b : Addr}, H b = none → b ≠ a := fun n z => by
    rw [z, e] at n
    cases n
  have same : ∀ {b : Addr} {v : HO}, H b = some v → exo a C none ≠ v → upd (upd H dx (exd dx fs)) a (exo a C (some dx)) b = some v := fun {b v} q d => by
    rw [upd_ne (at_ne e q d), upd_ne (ne_of_none q nd)]
    exact q
  refine I.un (t' := tk) ⟨fun b o q n _ _ => k b o (off n) q, fun b o q n _ _ => ⟨o.slots, k b o (off n) q⟩, fun b o q n _ => by rw [upd_ne (off n), upd_ne (old q)]; exact n, fun b o q _ => ?_, fun b xs q => same q exo_tup, fun b o v q => same q exo_frz, fun b ps q => ⟨#[], by rw [same q exo_tbl]; simp⟩⟩ fun b v q => ?_
  · by_cases hb : b = a
    · rw [hb]
      exact here
    · exact ⟨o, k b o hb q⟩
  · by_cases hb : b = a
    · rw [hb, upd_same] at q
      cases q
      rw [hb]
      exact hx
    · by_cases hb2 : b = dx
      · rw [upd_ne hb, hb2, upd_same] at q
        cases q
        rw [hb2]
        exact hd
      · rw [upd_ne hb, upd_ne hb2] at q
        refine (I.hok b v q).stay (fun c o hc z => k c o ?_ z) (fun c hc => same hc exo_own) fun c xs hc => same hc exo_tup
        rcases hc with hc | hc
        · rw [hc]
          exact hb
        · exact at_ne e hc exo_own
theorem ost_newB (T : OexB X.K C) (I : Inv X pins σ H s) (e : H a = some (exo a C none)) (hno : PySem.W.findIn X.K (.ref C) f = some none) (ry : RelV y u)
    (h : ∀ dx s', H dx = none → dx ≠ a → Inv X pins σ (upd (upd H dx (exd dx [(f, y)])) a (exo a C (some dx))) s' → Q () s') : wpAny (model X.prog X.w) A (setAttr (.ref a) f u) Q E s := by
  obtain ⟨nm, q, N, bs, bm, sn, sub, ab, col, dd, k0, k1, k2, k3, k5, B, newId, initId, low, hC, BF⟩ := T.cls
  have hcl : PySem.W.clsIn X.K C = some { name := nm, bases := bs, mro := .ref C :: bm, ns := N, qualname := q, hasDict := true, slotNames := sn, subclasses := sub, abstract := ab, collection := col, hasDel := false } := by
    unfold PySem.W.clsIn
    rw [hC] <;> rfl
  obtain ⟨t1, ho⟩ := exo_at I.hok e
  obtain ⟨hp, g, d, t, os⟩ := s
  refine PySem.W.set_plain I.kIn (od := none) ⟨ho, rfl, rfl, trivial⟩ T.sa ?_
  refine osaB I.kIn ho hcl rfl BF.hO BF.hP rfl hno fun h' tk' dx k dn dne hx hn => ?_
  refine h dx _ (I.hok.fresh dn) dne (inv_dict (tk := tk') I e k dn dne (exo_ok hx) (exd_ok hn (relO_put (fs := []) ry fun g => True.intro)) ⟨_, hx⟩)
end
/-- e.f = y of a new error -/
def tOstB (K : PySem.W.Frag) (f : Str) (to te : TE) : TS := fun D σ H => te σ H fun y H1 => to σ H1 fun x H2 => ∃ a C : Addr, x = .ref a ∧ OexB K C ∧ PySem.W.findIn K (.ref C) f = some none ∧ H2 a = some (exo a C none) ∧
  ∀ dx, H2 dx = none → dx ≠ a → D.nx σ (upd (upd H2 dx (exd dx [(f, y)])) a (exo a C (some dx)))
section
variable {X : Cx} {o e : Expr} {es : List Expr} {to te : TE} {ta : TA} {f : Str} {p p' pos : Pos}
theorem ps_ostB (ho : PE X o to) (he : PE X e te) (hs : swapsWith e (some (.Attribute o f p')) pos.line X.env = pure false := by rfl) : PS X (.Assign [.Attribute o f p'] e pos) (tOstB X.K f to te) := by
  refine ⟨fun pins s σ H D I h => plainObj_wpAny_Assign_Attribute (thn (he.run pins s σ H _ I h) fun v z1 ⟨y, H1, I1, ry, q1⟩ => thn (ho.run pins z1 σ H1 _ I1 q1) fun u z2 ⟨x, H2, I2, rx, a, C, ex, T, no, ea, q⟩ => ?_) hs⟩
  subst ex
  cases (show u = Value.ref a from rx)
  exact ost_newB T I2 ea no ry fun dx z n ne J => ⟨σ, _, J, q dx n ne⟩
/-- C(..), made where nothing is handled: its context is None -/
theorem pmk_oexB {x : Str} {C fI : Addr} {k : Nat} {fd : FuncData} {ps : List Str} {sp : Sp} (T : OexB X.K C) (iC : PySem.W.findIn X.K (.ref C) "__init__" = some (some (.ref fI))) (tI : PySem.W.typeIn X.K (.ref fI) = some (.type "function"))
    (F1 : FnOk X.prog X.w X.K X.mg X.base CX0 k fI fd ps sp) (hr : Room (k + 1) X.A) (hb : Binds X.K fd ps []) (hg : Gl X x) (hm : X.mg x = some (.ref C)) (ha : PA X (e :: es) ta)
    (hdb : (x == ("__debug__" : Str)) = false := by decide) (he : starEach (e :: es) X.env = (false, eval e X.env) :: starEach es X.env := by rfl) (hpl : (backTo pos (starEach es X.env)).any (·.1) = false := by rfl) :
    L2N.PMk X (.Call (.Name x p) (e :: es) [] pos) (tMkO C sp [] ta) := by
  intro pins s σ H Q I h
  obtain ⟨nm, q, N, bs, bm, sn, sub, ab, col, dd, k0, k1, k2, k3, k5, B, newId, initId, low, hC, BF⟩ := T.cls
  refine wpAny_Call_Name_kw (ld_glob I hg hm ?_ hdb)
  refine PySem.W.callWith_K (h₀ := X.base) I.ok.mod.kin T.kC (thn (ha.run pos pins s σ H _ I h) fun us z ⟨vs, H1, I1, r1, hz, q1⟩ => ⟨I1.kIn, ?_⟩) he hpl
  show wpAny _ _ (call (.ref C) us) _ _ _
  obtain ⟨hp, g, dr, tk, os⟩ := z
  have up := Nat.le_succ hp.objs.size
  have hq := q1 (hp.objs.size + 1) (I1.hok.fresh up)
  have kk : ∀ b o, hp.get? b = some o → ((hp.push (PySem.W.kdv_tup us)).push (PySem.HandSPX.excO C hp.objs.size)).get? b = some o := fun b o e => Heap.get?_push_of_some _ (Heap.get?_push_of_some _ e)
  have at_ : ((hp.push (PySem.W.kdv_tup us)).push (PySem.HandSPX.excO C hp.objs.size)).get? (hp.objs.size + 1) = some (PySem.HandSPX.excO C hp.objs.size) := by heap_get
  have I2 : Inv X pins σ (upd H1 (hp.objs.size + 1) (exo (hp.objs.size + 1) C none)) ⟨(hp.push (PySem.W.kdv_tup us)).push (PySem.HandSPX.excO C hp.objs.size), g, dr, tk, os⟩ := I1.laid (t' := tk) kk up (exo_ok at_)
  rw [List.append_nil] at hq
  have r2 : Vals (V.ref (hp.objs.size + 1) :: vs) (Value.ref (hp.objs.size + 1) :: us) := .cons rfl r1
  have hl : (Value.ref (hp.objs.size + 1) :: us ++ []).length = ps.length := by
    rw [List.append_nil, ← r2.length]
    exact F1.len _ _ _ _ hq
  have hus : us.length ≤ sizeLine := by
    rw [← Paired.length r1, sizeLine_eq]
    omega
  have bi := hb _ (Value.ref (hp.objs.size + 1) :: us) I2.kIn hl
  rw [List.append_nil] at bi
  refine wpAny_call (call_B BF (I1.kIn _ _ hC) (PySem.W.looks_findIn I1.kIn iC) (fun self => PySem.W.bind_fn I1.kIn self tI) hus (codeAny_mono (F1.run _ X.stack _ _ _ _ _ _ E0 (hr.make C us []) (I2.env0.make C us []) bi r2 hq) fun r z hz => ?_))
  cases r with
  | error er => exact hz.elim
  | ok fl =>
    cases fl with
    | ret v0 =>
      obtain ⟨v, H2, os2, bare2, un2, hok2, rv, ev, d, fs, ea, ed, hd1, q2⟩ := hz
      subst ev
      obtain ⟨h2, g2, d2, t2, os'⟩ := z
      obtain ⟨t0, G, J, kG, ge, hoe, na⟩ := mk_end0 (d2 := d2) (t2 := t2) I1 up kk un2 hok2 os2 bare2 ea ed hd1
      exact ⟨rv, _, _, _, ⟨G, g2, d2, t2, os'⟩, _, .ref C, some d, rfl, J, kG, ge, hoe, ⟨rfl, rfl, fun vs e => by cases e; rfl⟩, rfl, rfl, na, rfl, bare2, raises_own T.exC T.tyC, q2⟩
    | next => exact hz.elim
    | brk => exact hz.elim
    | cont => exact hz.elim
end
/-- __init__(self, f): self.f = f -/
def spErB (K : PySem.W.Frag) (C : Addr) (f : Str) : Sp := fun vs H Q _ => ∃ (a : Addr) (v : V), vs = [.ref a, v] ∧ OexB K C ∧ PySem.W.findIn K (.ref C) f = some none ∧ H a = some (exo a C none) ∧
  ∀ dx, H dx = none → dx ≠ a → Q .non (upd (upd H dx (exd dx [(f, v)])) a (exo a C (some dx)))
structure ErB (P : Program) (w : World) (K : PySem.W.Frag) (mg : Str → Option Value) (base : Heap) (x : Str) (f : Str) (C fI : Addr) (fd : FuncData) : Prop where
  oex : OexB K C
  hm : mg x = some (.ref C)
  iC : PySem.W.findIn K (.ref C) "__init__" = some (some (.ref fI))
  tI : PySem.W.typeIn K (.ref fI) = some (.type "function")
  no : PySem.W.findIn K (.ref C) f = some none
  ok : FnOk P w K mg base CX0 1 fI fd ["self", f] (spErB K C f)
  bi : Binds K fd ["self", f] []
def tRzB (K : PySem.W.Frag) (C : Addr) (f : Str) (W : WX) (te : TE) : TS := fun _ σ H => tMkO C (spErB K C f) [] (tCons te tNil) σ H fun cls d H' => W cls d σ H'
theorem ps_rzB {X : Cx} {x f : Str} {C fI : Addr} {fd : FuncData} {W : WX} {e : Expr} {te : TE} {p pos pos' : Pos} (hc : X.calm = true) (T : ErB X.prog X.w X.K X.mg X.base x f C fI fd) (hr : Room 2 X.A) (tk : L2N.Takes X W) (he : PA X [e] (tCons te tNil)) (hg : Gl X x := by rfl)
    (hdb : (x == ("__debug__" : Str)) = false := by decide) (hst : starEach (e :: []) X.env = (false, eval e X.env) :: starEach [] X.env := by rfl) (hpl : (backTo pos (starEach [] X.env)).any (·.1) = false := by rfl) :
    PS X (.Raise (some (.Call (.Name x p) [e] [] pos)) none pos') (tRzB X.K C f W te) :=
  L2N.ps_raise hc tk (pmk_oexB (sp := spErB X.K C f) T.oex T.iC T.tI T.ok hr T.bi hg T.hm he hdb hst hpl)
theorem s_rzB {K : PySem.W.Frag} {C : Addr} {f : Str} {W : WX} {te : TE} {σ : L2.St} {H : Hp} {v : V} {D : Ends} (h : Ev te σ H v) (ox : OexB K C) (no : PySem.W.findIn K (.ref C) f = some none)
    (k : ErrV C f v H fun cls d H' => W cls d σ H') : tRzB K C f W te D σ H := by
  refine h H (Ex.refl H) _ fun H1 e => ?_
  refine ⟨by show 1 ≤ 1000; decide, fun a ha => ⟨a, v, rfl, ox, no, upd_same, fun dx hdx hne => ⟨rfl, dx, [(f, v)], upd_same, ?_, ?_, ?_⟩⟩⟩
  · rw [upd_ne hne]
    exact upd_same
  · rw [upd_ne hne] at hdx
    exact hdx
  · rw [upd_ne hne] at hdx
    have eH : upd (del (upd (upd (upd H1 a (exo a C none)) dx (exd dx [(f, v)])) a (exo a C (some dx))) a) dx (.xd [(f, v)]) = upd H1 dx (.xd [(f, v)]) := by
      funext b
      by_cases hb : b = dx
      · rw [hb, upd_same, upd_same]
      · rw [upd_ne hb, upd_ne hb]
        by_cases hba : b = a
        · rw [hba, del_same, ha]
        · rw [del_ne hba, upd_ne hba, upd_ne hb, upd_ne hba]
    rw [eH]
    exact k dx _ (e.trans (Ex.new hdx)) (fresh_back e hdx) upd_same
theorem s_iniB {K : PySem.W.Frag} {C : Addr} {f : Str} {vs : List V} {H : Hp} {Q : VK} {E : XK} {N : List Str} (h : spErB K C f vs H Q E) (hN : start N vs = vs.map some) :
    tOstB K f (tVar 0) (tVar 1) { nx := fun _ H' => Q .non H', rt := Q } (start N vs) H := by
  obtain ⟨a, v, rfl, ox, no, ha, k⟩ := h
  rw [hN]
  exact ⟨v, rfl, .ref a, rfl, a, C, rfl, ox, no, ha, k⟩
end L3

namespace L3
open PySem PySem.Spec PyProof.Rows L2 Evl
/-! ### a pinned error: isinstance, its fields -/
/-- its dict, if it has one, is told -/
def DOk (d : Option Addr) (H : Hp) : Prop := d = none ∨ ∃ dd fs, d = some dd ∧ H dd = some (.xd fs)
theorem DOk.ex {d : Option Addr} {H H1 : Hp} (h : DOk d H) (e : Ex H H1) : DOk d H1 := h.elim .inl fun ⟨dd, fs, e1, e2⟩ => .inr ⟨dd, fs, e1, e _ _ e2⟩
def rIsP (K : PySem.W.Frag) (D a : Addr) (d : Option Addr) : List V → Hp → VK → Prop := fun xs H Q => ∃ (c : V) (cv : Value) (b : Bool), xs = [.ref a, c] ∧ DOk d H ∧ (∀ u, RelV c u → u = cv) ∧ PySem.W.kitOne K (.ref D) cv = some b ∧ Q (.bl b) H
theorem call_isP {X : Cx} {p : Addr × Obj} {D : Addr} {d : Option Addr} (hp : p ∈ X.pn) (T : ExcC X.K D) (hz : Zc (.ref D) d p.2) (hf : ∃ vs, p.2.data = .fields vs) : CallR X (.builtin "isinstance") (rIsP X.K D p.1 d) := by
  intro pins s σ H xs us Q I r h
  obtain ⟨c, cv, b, rfl, hd, hcv, e, q⟩ := h
  cases r with
  | cons rx rr =>
    cases rr with
    | cons rt rr =>
      cases rr
      cases rx
      have ec := hcv _ rt
      subst ec
      obtain ⟨hget, _⟩ := I.pin p (List.mem_append_left _ hp)
      obtain ⟨vs, hv⟩ := hf
      have fin : ∀ tk, EP X pins σ Q (.bool b) { s with toks := tk } := fun tk => ⟨.bl b, H, I.kept (t' := tk) fun _ _ z => z, rfl, q⟩
      have nc : PySem.W.notCls p.2 = true := by
        unfold PySem.W.notCls
        rw [hv] <;> rfl
      rcases hd with rfl | ⟨dd, fs, rfl, hdd⟩
      · have J : PySem.W.InstAt s.heap p.1 p.2 D none := ⟨hget, hz.1, nc, by rw [hz.2]; trivial⟩
        exact PySem.W.kia_one (PySem.W.handS_kitx_exc T.hg T.hk T.hs T.hd T.ha T.hn T.ht T.hm) I.kIn J e (fun z => nomatch z) fin
      · have hx : ObjOk X.prog X.w H s.heap dd (.xd fs) := I.hok dd _ hdd
        obtain ⟨mA, hns, hr⟩ := hx
        obtain ⟨od, ho, hl⟩ := lookIn_ns hns
        have J : PySem.W.InstAt s.heap p.1 p.2 D (some od) := ⟨hget, hz.1, nc, by rw [hz.2]; exact ho⟩
        exact PySem.W.kia_one (kitx_err T) I.kIn J e (fun z => nomatch z) fin
theorem rc_isP {K : PySem.W.Frag} {D a : Addr} {d : Option Addr} {H : Hp} {c : V} {cv : Value} {b : Bool} (hd : DOk d H) (hcv : ∀ u, RelV c u → u = cv) (e : PySem.W.kitOne K (.ref D) cv = some b) : RC (rIsP K D a d) [.ref a, c] H (.bl b) := fun H1 x Q q =>
  ⟨c, cv, b, rfl, hd.ex x, hcv, e, q H1 (Ex.refl H1)⟩
theorem pe_xfP {X : Cx} {p : Addr × Obj} {C : Addr} {cls : Value} {d : Option Addr} {e : Expr} {te : TE} {pos : Pos} {n : Str} (hp : p ∈ X.pn) (T : XfC X.K C) (hno : PySem.W.findIn X.K (.ref C) n = some none)
    (hz : Zc cls d p.2) (hf : ∃ vs, p.2.data = .fields vs) (he : PE X e te) (hb : attributeBase e n X.env (eval e X.env) = eval e X.env := by rfl) : PE X (.Attribute e n pos) (tXf p.1 cls d C n te) := by
  refine ⟨fun pins s σ H Q I h => attr_of hb (thn (he.run pins s σ H _ I h) fun u z hh => ?_)⟩
  obtain ⟨x, H1, I1, rx, ex, ec, dd, fs, v, ed, ea, l, q⟩ := hh
  subst ex
  cases (show u = Value.ref p.1 from rx)
  subst ec
  subst ed
  obtain ⟨at_, _⟩ := I1.pin p (List.mem_append_left _ hp)
  obtain ⟨ws, hw⟩ := hf
  obtain ⟨mA, hns, hr⟩ := (show ObjOk X.prog X.w H1 z.heap dd (.xd fs) from I1.hok dd _ ea)
  obtain ⟨od, ho, hl⟩ := lookIn_ns hns
  obtain ⟨u2, hu, ru⟩ := RelO.some_of (v := v) (o := mA n) (by rw [← l]; exact hr n)
  have J : PySem.W.InstAt z.heap p.1 p.2 C (some od) := ⟨at_, hz.1, by unfold PySem.W.notCls; rw [hw] <;> rfl, by rw [hz.2]; exact ho⟩
  exact HandSPX.exc_get I1.kIn J T.ga T.gg T.exC (PySem.W.findObj_own T.hdC hno rfl (by rw [hl, hu])) (handed_of ru) ⟨v, H1, I1.tok _, ru, q⟩
theorem ev_xf {σ : L2.St} {H : Hp} {te : TE} {a C dd : Addr} {f : Str} {fs : List (Str × V)} {v : V} (h : Ev te σ H (.ref a)) (hd : H dd = some (.xd fs)) (l : fs.lookup f = some v) : Ev (tXf a (.ref C) (some dd) C f te) σ H v := fun H1 e Q q =>
  h H1 e _ fun H2 e2 => ⟨rfl, rfl, dd, fs, v, rfl, (e.trans e2) _ _ hd, l, q H2 e2⟩
end L3

namespace Lw
open PySem PySem.Spec PyProof.Rows L2 Evl L3
def top (i : Nat) : Stmt := PySem.Challenge.pw_latewords_k76_errors_made.main.body.getD i (.Pass ⟨0, 0, 0, 0⟩)
abbrev sBag : Stmt := top 17
abbrev sTake : Stmt := top 18
/-- what is read of the top -/
structure Txt (K : PySem.W.Frag) (mg : Str → Option Value) : Prop where
  isi : mg "isinstance" = none
  int : mg "int" = none
  len : mg "len" = none
  range : mg "range" = none
  repr : mg "repr" = none
  max : mg "max" = none
  min : mg "min" = none
  abs : mg "abs" = none
/-- the bag at g: digits, a seed, a count that leaves room for n more draws -/
def BagAt (H : Hp) (g : Addr) (n : Nat) : Prop := ∃ d s c : Int, H g = some (.lst [.int d, .int s, .int c]) ∧ 0 ≤ d ∧ 0 ≤ s ∧ s < 4294967296 ∧ 0 ≤ c ∧ c + 3 * n ≤ 1099511627776
theorem BagAt.ex {H H1 : Hp} {g : Addr} {n : Nat} (b : BagAt H g n) (e : Ex H H1) : BagAt H1 g n := by
  obtain ⟨d, s, c, h, r⟩ := b
  exact ⟨d, s, c, e g _ h, r⟩
theorem BagAt.less {H : Hp} {g : Addr} {n m : Nat} (b : BagAt H g n) (h : m ≤ n) : BagAt H g m := by
  obtain ⟨d, s, c, h1, h2, h3, h4, h5, h6⟩ := b
  exact ⟨d, s, c, h1, h2, h3, h4, h5, by omega⟩
/-- one draw -/
def spTake : Sp := fun vs H Q _ => ∃ (g : Addr) (n : Nat) (m : Int), vs = [.ref g, .int m] ∧ BagAt H g (n + 1) ∧ 1 ≤ m ∧ m ≤ 100000000000000000000 ∧
  ∀ (r : Int) (H' : Hp), 0 ≤ r → r < m → Ex (del H g) (del H' g) → BagAt H' g n → Q (.int r) H'
section
variable {P : Program} {w : World} {K : PySem.W.Frag} {mg : Str → Option Value} {base : Heap}
theorem rc_int {H : Hp} {i : Int} : RC (fun xs H Q => (∃ i, xs = [V.int i] ∧ Q (.int i) H) ∨ ∃ k, xs = [V.bl k] ∧ Q (.int (if k then 1 else 0)) H) [.int i] H (.int i) := fun H1 e Q q => Or.inl ⟨i, rfl, q H1 (Ex.refl H1)⟩
theorem scTa : FnScope ["_law_bag_here", "_law_many", "_law_digit", "_law_found", "_law_reach", "_law_more"] ["_law_bag_here", "_law_many"] (defScope sTake) := ⟨rfl, rfl, rfl, by decide +kernel, rfl, by decide +kernel, by decide +kernel⟩
theorem ok_take {f : Addr} {fd : FuncData} (F : Fun K "_law_take" "_law_take" sTake f fd) (T : Txt K mg) : FnOk P w K mg base CX0 1 f fd ["_law_bag_here", "_law_many"] spTake := by
  refine F.ok scTa (fun vs H Q E h => ?_) (fun cdv A outer s H vs Q E hr h => ?_)
  · obtain ⟨g, n, m, rfl, _⟩ := h
    rfl
  · obtain ⟨g, n, m, rfl, ⟨d, s, c, hg, hd, hs0, hs1, hc0, hc1⟩, hm1, hm2, k⟩ := h
    refine ⟨_, pss_cons (ps_if (pt_cmpR op_gt (pe_ix ix_list (pv 0) pe_int (fun _ _ => rfl)) pe_int (nomark _))
        (pss_cons (ps_set (i := 2) scTa.nd rfl (Or.inl rfl) (pe_op op_mod (pe_callTy call_int1 (by rfl) T.int PyProof.Rows.boot_int (pa_cons (pe_ix ix_list (pv 0) pe_int (fun _ _ => rfl)) pa_nil)) (pv 1)))
        (pss_cons (ps_asg (pe_op op_fdivW (pe_ix ix_list (pv 0) pe_int (fun _ _ => rfl)) (pv 1)) (pg_sub (pv 0) pe_int set_list))
        (pss_one (ps_ret (pv 2))))) pss_nil)
      (pss_cons (ps_asg (pe_tup (pa_cons pe_int (pa_cons pe_int pa_nil))) (pg_tup rfl (pgs_cons (pg_name (i := 3) scTa.nd rfl (Or.inl rfl)) (pgs_cons (pg_name (i := 4) scTa.nd rfl (Or.inl rfl)) pgs_nil))))
      (pss_cons (ps_while PassesOwn.never (pt_cmpR op_lt (pv 4) (pv 1) (nomark _))
        (pss_cons (ps_asg (pe_op op_add (pe_ix ix_list (pv 0) pe_int (fun _ _ => rfl)) pe_int) (pg_sub (pv 0) pe_int set_list))
        (pss_cons (ps_asg (pe_op op_mod (pe_callTy call_int1 (by rfl) T.int PyProof.Rows.boot_int (pa_cons (pe_op op_add (pe_op op_add (pe_op op_mul (pe_ix ix_list (pv 0) pe_int (fun _ _ => rfl)) pe_int)
            (pe_op op_mul (pe_op op_mul pe_int (pe_ix ix_list (pv 0) pe_int (fun _ _ => rfl))) (pe_ix ix_list (pv 0) pe_int (fun _ _ => rfl)))) pe_int) pa_nil)) pe_int) (pg_sub (pv 0) pe_int set_list))
        (pss_cons (ps_set (i := 5) scTa.nd rfl (Or.inl rfl) (pe_op op_mod (pe_callTy call_int1 (by rfl) T.int PyProof.Rows.boot_int (pa_cons (pe_op op_mul (pe_op op_fdiv (pe_ix ix_list (pv 0) pe_int (fun _ _ => rfl)) pe_int)
            (pe_op op_add (pe_op op_fdiv (pe_ix ix_list (pv 0) pe_int (fun _ _ => rfl)) pe_int) (pe_ix ix_list (pv 0) pe_int (fun _ _ => rfl)))) pa_nil)) pe_int))
        (pss_cons (ps_set (i := 3) scTa.nd rfl (Or.inl rfl) (pe_op op_add (pe_op op_mul (pv 3) pe_int) (pe_op op_mod (pe_callTy call_int1 (by rfl) T.int PyProof.Rows.boot_int (pa_cons (pe_op op_fdiv (pv 5) pe_int) pa_nil)) pe_int)))
        (pss_one (ps_set (i := 4) scTa.nd rfl (Or.inl rfl) (pe_op op_mul (pv 4) pe_int))))))))
      (pss_one (ps_ret (pe_op op_mod (pv 3) (pv 1)))))), ?_⟩
    refine q_when (b := decide (0 < d)) (et_test (ev_op (ev_op (ev_var rfl) ev_c (rv_ixL (sq_of hg) (atI_nat (j := 0) rfl))) ev_c rv_I0)) (fun hb H1 e1 => ?_) (fun hb H1 e1 => ?_)
    · have hd1 : 0 < d := of_decide_eq_true hb
      refine q_asg (ev_op (ev_cb (ea_cons (ev_op (ev_var rfl) ev_c (rv_ixL (sq_of (e1 g _ hg)) (atI_nat (j := 0) rfl))) ea_nil) rc_int) (ev_var rfl) (rv_I (show 0 < m by omega))) fun H2 e2 => ?_
      have hg2 : H2 g = some (.lst [.int d, .int s, .int c]) := e2 g _ (e1 g _ hg)
      refine q_setL (j := 0) hg2 (ev_op (ev_op (ev_var rfl) ev_c (rv_ixL (sq_of hg2) (atI_nat (j := 0) rfl))) (ev_var rfl) (rv_I (wide_div (b := 100) (show 0 < m by omega) (by omega) (by decide) (by decide)))) (ev_var rfl) ev_c (by show 0 < 3; decide) fun H3 e3 => ?_
      refine s_ret (ev_var rfl) fun H4 e4 => ?_
      refine k (d % m) H4 (Int.emod_nonneg _ (by omega)) (Int.emod_lt_of_pos _ (by omega)) ?_ ⟨d / m, s, c, e4 g _ upd_same, Int.ediv_nonneg hd (by omega), hs0, hs1, hc0, by omega⟩
      refine (ex_del ((e1.trans e2).trans e3)).trans ?_
      rw [← del_upd (H := H3) (l := g) (o := .lst (List.set [V.int d, V.int s, V.int c] 0 (V.int (d / m))))]
      exact ex_del e4
    · have hd1 : d = 0 := by
        have z := of_decide_eq_false hb
        omega
      refine ⟨by show 2 ≤ sizeLine; decide, fun pt hpt => ⟨pt, _, rfl, st_of upd_same, rfl, _, _, rfl, _, _, rfl, rfl, ?_⟩⟩
      have e1 : Ex H (upd H1 pt (.tup [.int 0, .int 1])) := e1.trans (Ex.new hpt)
      refine q_while (fun j σ' H' => ∃ (i : Nat) (fd : Int) (o2 o5 : Option V) (s' c' : Int), j = 3 - i ∧ i ≤ 3 ∧ σ' = [some (.ref g), some (.int m), o2, some (.int fd), some (.int (33554432 ^ i)), o5] ∧
          Ex (del H g) (del H' g) ∧ H' g = some (.lst [.int d, .int s', .int c']) ∧ 0 ≤ s' ∧ s' < 4294967296 ∧ 0 ≤ c' ∧ c' ≤ c + i) 3
        ⟨0, 0, none, none, s, c, rfl, by decide, rfl, ex_del e1, e1 g _ hg, hs0, hs1, hc0, by omega⟩ ?_
      rintro j σ' H' ⟨i, fd, o2, o5, s', c', rfl, hi, rfl, ex, hg', b1, b2, b3, b4⟩
      refine ⟨decide ((33554432 : Int) ^ i < m), et_test (ev_op (ev_var rfl) (ev_var rfl) rv_I0), fun hb2 H2 e2 => ?_, fun hb2 H2 e2 => ?_⟩
      · have hlt : (33554432 : Int) ^ i < m := of_decide_eq_true hb2
        have hi3 : i < 3 := by
          match i, hi, hlt with
          | 0, _, _ => decide
          | 1, _, _ => decide
          | 2, _, _ => decide
          | 3, _, hlt =>
            exfalso
            have z : (33554432 : Int) ^ 3 = 37778931862957161709568 := by decide
            omega
          | i + 4, hi, _ => omega
        have hg2 : H2 g = some (.lst [.int d, .int s', .int c']) := e2 g _ hg'
        refine ⟨_, fun σ2 H3 q => q, ?_⟩
        refine q_setL (j := 2) hg2 (ev_op (ev_op (ev_var rfl) ev_c (rv_ixL (sq_of hg2) (atI_nat (j := 2) rfl))) ev_c rv_I0) (ev_var rfl) ev_c (by show 2 < 3; decide) fun H3 e3 => ?_
        have hg3 : upd H3 g (.lst [.int d, .int s', .int (c' + 1)]) g = some (.lst [.int d, .int s', .int (c' + 1)]) := upd_same
        have ix0 : ∀ {σ : L2.St} {HH : Hp} {xs : List V} {q : Nat} {v : V}, σ[0]? = some (some (V.ref g)) → HH g = some (.lst xs) → xs[q]? = some v → Ev (tOp (rIxL K) (tVar 0) (tC (.int (q : Int)))) σ HH v :=
          fun h1 h2 h3 => ev_op (ev_var h1) ev_c (rv_ixL (sq_of h2) (atI_nat h3))
        obtain ⟨s2, hs2⟩ : ∃ s2, s2 = (s' * 40014 + 7919 * (c' + 1) * (c' + 1) + 83) % 2147483563 := ⟨_, rfl⟩
        have hs2a : 0 ≤ s2 := by rw [hs2]; exact Int.emod_nonneg _ (by decide)
        have hs2b : s2 < 2147483563 := by rw [hs2]; exact Int.emod_lt_of_pos _ (by decide)
        refine q_setL (j := 1) (v := .int s2) hg3 (ev_is ?_ (congrArg V.int hs2.symm)) (ev_var rfl) ev_c (by show 1 < 3; decide) fun H4 e4 => ?_
        · refine ev_op (ev_cb (ea_cons (ev_op (ev_op (ev_op (ix0 (q := 1) rfl hg3 rfl) ev_c (rv_I (Or.inr (by decide)))) (ev_op (ev_op ev_c (ix0 (q := 2) rfl hg3 rfl) (rv_I (Or.inl (by decide)))) (ix0 (q := 2) rfl hg3 rfl) (rv_I (Or.inr (by omega)))) rv_I0) ev_c rv_I0) ea_nil) rc_int) ev_c (rv_I (by show (0 : Int) < 2147483563; decide))
        have hg4 : upd H4 g (.lst [.int d, .int s2, .int (c' + 1)]) g = some (.lst [.int d, .int s2, .int (c' + 1)]) := upd_same
        refine q_asg (v := .int ((s2 / 7 * (s2 / 131 + (c' + 1))) % 2147483399)) ?_ fun H5 e5 => ?_
        · refine ev_op (ev_cb (ea_cons (ev_op (ev_op (ix0 (q := 1) rfl hg4 rfl) ev_c (rv_I ⟨by decide, by decide⟩)) (ev_op (ev_op (ix0 (q := 1) rfl hg4 rfl) ev_c (rv_I ⟨by decide, by decide⟩)) (ix0 (q := 2) rfl hg4 rfl) rv_I0) (rv_I (Or.inl (by omega)))) ea_nil) rc_int) ev_c (rv_I (by show (0 : Int) < 2147483399; decide))
        refine q_asg (ev_op (ev_op (ev_var rfl) ev_c (rv_I (Or.inr (by decide)))) (ev_op (ev_cb (ea_cons (ev_op (ev_var rfl) ev_c (rv_I ⟨by decide, by decide⟩)) ea_nil) rc_int) ev_c (rv_I (by show (0 : Int) < 33554432; decide))) rv_I0) fun H6 e6 => ?_
        refine s_asg (ev_op (ev_var rfl) ev_c (rv_I (Or.inr (by decide)))) fun H7 e7 => ?_
        refine ⟨3 - (i + 1), by omega, i + 1, fd * 33554432 + s2 / 7 * (s2 / 131 + (c' + 1)) % 2147483399 / 64 % 33554432, o2, some (.int (s2 / 7 * (s2 / 131 + (c' + 1)) % 2147483399)), s2, c' + 1, rfl, by omega, ?_, ?_, e7 g _ (e6 g _ (e5 g _ hg4)), hs2a, by omega, by omega, by omega⟩
        · rw [Int.pow_succ] <;> rfl
        · have q1 : Ex (del H' g) (del H3 g) := ex_del (e2.trans e3)
          have q2 : Ex (del H3 g) (del H4 g) := by
            rw [← del_upd (H := H3) (l := g) (o := .lst (List.set [V.int d, V.int s', V.int c'] 2 (V.int (c' + 1))))]
            exact ex_del e4
          have q3 : Ex (del H4 g) (del H7 g) := by
            rw [← del_upd (H := H4) (l := g) (o := .lst [.int d, .int s2, .int (c' + 1)])]
            exact ex_del ((e5.trans e6).trans e7)
          exact ((ex.trans q1).trans q2).trans q3
      · refine s_ret (ev_op (ev_var rfl) (ev_var rfl) (rv_I (show 0 < m by omega))) fun H3 e3 => ?_
        exact k (fd % m) H3 (Int.emod_nonneg _ (by omega)) (Int.emod_lt_of_pos _ (by omega)) (ex.trans (ex_del (e2.trans e3))) ⟨d, s', c', e3 g _ (e2 g _ hg'), hd, b1, b2, b3, by omega⟩
end

/-- the bag of the j-th cell -/
def spBag (K : PySem.W.Frag) : Sp := fun vs H Q _ => ∃ (a : Addr) (ns : List Int) (j : Nat), vs = [.ref a, .int (j : Int)] ∧ SqL K H a (ns.map V.int) ∧ j ≤ 63 ∧
  ∀ p H2, H p = none → Ex H (del H2 p) → BagAt H2 p 100000000000 → Q (.ref p) H2
section
variable {P : Program} {w : World} {K : PySem.W.Frag} {mg : Str → Option Value} {base : Heap}
theorem rc_intb {H : Hp} {b : Bool} : RC (fun xs H Q => (∃ i, xs = [V.int i] ∧ Q (.int i) H) ∨ ∃ k, xs = [V.bl k] ∧ Q (.int (if k then 1 else 0)) H) [.bl b] H (.int (if b then 1 else 0)) := fun H1 e Q q => Or.inr ⟨b, rfl, q H1 (Ex.refl H1)⟩
theorem rc_abs {H : Hp} {i : Int} : RC (fun xs H Q => ∃ i, xs = [V.int i] ∧ Q (.int (if i < 0 then -i else i)) H) [.int i] H (.int (if i < 0 then -i else i)) := fun H1 e Q q => ⟨i, rfl, q H1 (Ex.refl H1)⟩
theorem scBa : FnScope ["_law_script", "_law_at", "_law_cell", "_law_digits"] ["_law_script", "_law_at"] (defScope sBag) := ⟨rfl, rfl, rfl, by decide +kernel, rfl, by decide +kernel, by decide +kernel⟩
theorem ok_bag {f : Addr} {fd : FuncData} (F : Fun K "_law_bag" "_law_bag" sBag f fd) (T : Txt K mg) (hA : mg "abs" = none) : FnOk P w K mg base CX0 1 f fd ["_law_script", "_law_at"] (spBag K) := by
  refine F.ok scBa (fun vs H Q E h => ?_) (fun cdv A outer s H vs Q E hr h => ?_)
  · obtain ⟨a, ns, j, rfl, _⟩ := h
    rfl
  · obtain ⟨a, ns, j, rfl, hs, hj, k⟩ := h
    refine ⟨_, pss_cons (ps_set (i := 2) scBa.nd rfl (Or.inl rfl) (pe_ifExp (pt_cmpR op_lt (pv 1) (pe_callB call_len_seq (by rfl) T.len PySem.boot_len (pa_cons (pv 0) pa_nil)) (nomark _)) (pe_ix ix_list (pv 0) (pv 1) (fun _ _ => rfl)) pe_int))
      (pss_cons (ps_set (i := 3) scBa.nd rfl (Or.inl rfl) (pe_op op_mul (pe_callB call_abs (by rfl) hA PyProof.Rows.boot_abs (pa_cons (pv 2) pa_nil))
        (pe_callTy call_int1 (by rfl) T.int PyProof.Rows.boot_int (pa_cons (pe_cmpR op_ge (pe_callB call_abs (by rfl) hA PyProof.Rows.boot_abs (pa_cons (pv 2) pa_nil)) (pe_op op_pow pe_int pe_int) (nomark _)) pa_nil))))
      (pss_one (ps_ret (pe_lst (pa_cons (pv 3) (pa_cons (pe_op op_add (pe_op op_add (pe_op op_mod (pe_callTy call_int1 (by rfl) T.int PyProof.Rows.boot_int (pa_cons (pv 2) pa_nil)) pe_int) (pe_op op_mul pe_int (pv 1))) pe_int)
        (pa_cons pe_int pa_nil))))))), ?_⟩
    obtain ⟨cell, hcell⟩ : ∃ cell : Int, cell = ns.getD j 0 := ⟨_, rfl⟩
    have evl : Ev (tCB (rLenS K) (tCons (tVar 0) tNil)) (start ["_law_script", "_law_at", "_law_cell", "_law_digits"] [V.ref a, V.int (j : Int)]) H (.int (ns.length : Int)) := by
      have z := ev_len (K := K) (σ := start ["_law_script", "_law_at", "_law_cell", "_law_digits"] [V.ref a, V.int (j : Int)]) (H := H) (ta := tVar 0) (ev_var rfl) hs
      rw [List.length_map] at z
      exact z
    refine q_asg (v := .int cell) (ev_if (b := decide ((j : Int) < (ns.length : Int))) (et_test (ev_op (ev_var rfl) evl rv_I0)) (fun hb => ?_) fun hb => ?_) fun H1 e1 => ?_
    · have hlt := of_decide_eq_true hb
      refine ev_op (ev_var rfl) (ev_var rfl) (rv_ixL hs (atI_nat ?_))
      rw [List.getElem?_map, hcell, List.getD_eq_getElem?_getD]
      have hlt2 : j < ns.length := by omega
      have e : ns[j]? = some ns[j] := by simp [hlt2]
      rw [e] <;> rfl
    · have hge := of_decide_eq_false hb
      have e : ns[j]? = none := by simp; omega
      have e0 : cell = 0 := by rw [hcell, List.getD_eq_getElem?_getD, e] <;> rfl
      rw [e0]
      exact ev_c
    obtain ⟨ab, hab⟩ : ∃ ab : Int, ab = if cell < 0 then -cell else cell := ⟨_, rfl⟩
    have ab0 : 0 ≤ ab := by rw [hab]; split <;> omega
    obtain ⟨bb, hbb⟩ : ∃ bb : Bool, bb = decide ((10 : Int) ^ (18 : Int).toNat ≤ ab) := ⟨_, rfl⟩
    refine q_asg (v := .int (ab * (if bb then 1 else 0))) ?_ fun H2 e2 => ?_
    · have ea : ∀ {H' : Hp}, Ev (tCB (fun xs H Q => ∃ i, xs = [V.int i] ∧ Q (.int (if i < 0 then -i else i)) H) (tCons (tVar 2) tNil)) ((start ["_law_script", "_law_at", "_law_cell", "_law_digits"] [V.ref a, V.int (j : Int)]).set 2 (some (.int cell))) H' (.int ab) := fun {H'} => by
        rw [hab]
        exact ev_cb (ea_cons (ev_var rfl) ea_nil) rc_abs
      refine ev_op ea (ev_cb (ea_cons (ev_is (ev_op ea (ev_op ev_c ev_c (rv_I ⟨by decide, by decide, by decide⟩)) rv_I0) (congrArg V.bl hbb.symm)) ea_nil) rc_intb) (rv_I (Or.inr ?_))
      cases bb <;> exact ⟨by decide, by decide⟩
    refine s_retL (el_lst (ea_cons (ev_var rfl) (ea_cons (ev_op (ev_op (ev_op (ev_cb (ea_cons (ev_var rfl) ea_nil) rc_int) ev_c (rv_I (by show (0 : Int) < 2147483563; decide))) (ev_op ev_c (ev_var rfl) (rv_I (Or.inl ⟨by decide, by decide⟩))) rv_I0) ev_c rv_I0) (ea_cons ev_c ea_nil))) (by show 3 ≤ 100000; decide)) fun p H3 hp e3 h3 => ?_
    have q1 := Int.emod_nonneg cell (b := 2147483563) (by decide)
    have q2 := Int.emod_lt_of_pos cell (b := 2147483563) (by decide)
    have hp0 : H p = none := fresh_back (e1.trans e2) hp
    refine k p H3 hp0 (ex_beside ((e1.trans e2).trans e3) hp0) ⟨_, _, _, h3, ?_, by omega, by omega, by omega, by omega⟩
    cases bb
    · show 0 ≤ ab * 0
      omega
    · show 0 ≤ ab * 1
      omega
end
theorem take_go {σ : L2.St} {H : Hp} {Q : VK} {E : XK} {g : Addr} {n : Nat} {m : Int} {tg tm : TE} (h1 : Ev tg σ H (.ref g)) (h2 : Ev tm σ H (.int m)) (b : BagAt H g (n + 1)) (m1 : 1 ≤ m) (m2 : m ≤ 100000000000000000000)
    (k : ∀ (r : Int) (H' : Hp), 0 ≤ r → r < m → Ex (del H g) (del H' g) → BagAt H' g n → Q (.int r) H') : tCall spTake [] E (tCons tg (tCons tm tNil)) σ H Q :=
  h1 H (Ex.refl H) _ fun H1 e1 => h2 H1 e1 _ fun H2 e2 => ⟨g, n, m, rfl, b.ex (e1.trans e2), m1, m2, fun r H' r0 r1 ex bg => k r H' r0 r1 ((ex_del (e1.trans e2)).trans ex) bg⟩
/-- a drawn item of a short list -/
theorem atI_mem {xs : List V} {r : Int} (h0 : 0 ≤ r) (h1 : r < (xs.length : Int)) : ∃ v, atI xs r = some v ∧ v ∈ xs := by
  obtain ⟨j, rfl⟩ : ∃ j : Nat, r = (j : Int) := ⟨r.toNat, by omega⟩
  have hj : j < xs.length := by omega
  have e : xs[j]? = some xs[j] := by simp [hj]
  exact ⟨xs[j], atI_nat e, List.getElem_mem hj⟩
theorem bag_ne {H : Hp} {g p : Addr} {n : Nat} (b : BagAt H g n) (h : H p = none) : p ≠ g := fun z => by
  obtain ⟨d, s, c, hg, _⟩ := b
  rw [z, hg] at h
  cases h
theorem del_at {H H' : Hp} {g p : Addr} {o : HO} (e : Ex (del H g) (del H' g)) (h : H p = some o) (n : p ≠ g) : H' p = some o := by
  have z : (del H g) p = some o := by rw [del_ne n]; exact h
  have z2 := e p o z
  rw [del_ne n] at z2
  exact z2
theorem del_fresh {H H' : Hp} {g p : Addr} (e : Ex (del H g) (del H' g)) (h : H' p = none) (n : p ≠ g) : H p = none := by
  cases q : H p with
  | none => rfl
  | some o =>
    rw [del_at e q n] at h
    cases h
end Lw

namespace L3
open PySem PySem.Spec PyProof.Rows L2 Evl
section
variable {σ : L2.St} {H : Hp} {ta tb te : TE}
theorem el_cat {xs ys : List V} (h1 : EvL ta σ H xs) (h2 : EvL tb σ H ys) (hl : xs.length + ys.length ≤ 100000) : EvL (tOp rCat ta tb) σ H (xs ++ ys) := fun H1 e Q q =>
  h1 H1 e _ fun p H2 _ e2 hp => h2 H2 (e.trans e2) _ fun p3 H3 _ e3 h3 => ⟨p, p3, xs, ys, rfl, rfl, e3 _ _ hp, h3, sz_of hl, fun pz hz => q pz _ (fresh_back (e2.trans e3) hz) ((e2.trans e3).trans (Ex.new hz)) upd_same⟩
theorem el_varL {i : Nat} {p : Addr} {xs : List V} {ys : List V} {hl : xs.length + ys.length ≤ 100000} (h1 : σ[i]? = some (some (V.ref p))) (hp : H p = some (.lst xs)) (h2 : EvL tb σ H ys) : EvL (tOp rCat (tVar i) tb) σ H (xs ++ ys) := fun H1 e Q q =>
  ⟨_, h1, h2 H1 e _ fun p3 H3 _ e3 h3 => ⟨p, p3, xs, ys, rfl, rfl, (e.trans e3) _ _ hp, h3, sz_of hl, fun pz hz => q pz _ (fresh_back e3 hz) (e3.trans (Ex.new hz)) upd_same⟩⟩
end
end L3
namespace Lw
open PySem PySem.Spec PyProof.Rows L2 Evl L3
open L2H (HotC Hot1 RoomH PinOk cxH)
abbrev sSorts : Stmt := top 21
abbrev sBases : Stmt := top 22
abbrev sField : Stmt := top 23
/-- the names of the errors, in the order of _law_sorts -/
def eNames : List Str := ["BadSetting", "BadWrite", "BadOrder", "NotPossible", "TooLong", "BadTalk", "EndlessTurn", "BadPath", "BadText", "BadRow", "NoTurn", "NoArc", "NoName", "NothingDone", "LatewordsError"]
def bTypes : List String := ["ValueError", "LookupError", "IndexError", "KeyError", "RuntimeError"]
def fNames : List Str := ["name", "index", "event", "many", "endpoint", "line", "column"]
/-- what a class of them is to the others -/
structure ECls (K : PySem.W.Frag) (c : Nat → Addr) (D : Addr) (b t : Nat → Bool) : Prop where
  ex : ExcC K D
  xf : XfC K D
  ks : ∀ i, i < 15 → PySem.W.kitOne K (.ref D) (.ref (c i)) = some (b i)
  kt : ∀ i n, bTypes[i]? = some n → PySem.W.kitOne K (.ref D) (.type n) = some (t i)
  no : ∀ n ∈ fNames, PySem.W.findIn K (.ref D) n = some none
section
variable {P : Program} {w : World} {K : PySem.W.Frag} {mg : Str → Option Value} {base : Heap}
theorem rv_ref {a : Addr} : ∀ u, RelV (V.ref a) u → u = Value.ref a := fun u h => h
theorem rv_ty {n : String} : ∀ u, RelV (V.ty n) u → u = Value.type n := fun u h => h
def spSorts (K : PySem.W.Frag) (c : Nat → Addr) (a : Addr) (cls : Value) (d : Option Addr) : Sp := fun vs H Q _ => ∃ D b t, cls = .ref D ∧ vs = [.ref a] ∧ ECls K c D b t ∧ DOk d H ∧ RetL (given 15 b fun i => .int (i : Int)) H Q
abbrev nSo : List Str := ["_law_e", "_law_some", "_law_at"]
theorem scSo : FnScope nSo ["_law_e"] (defScope sSorts) := ⟨rfl, rfl, rfl, by decide +kernel, rfl, by decide +kernel, by decide +kernel⟩
theorem ok_sorts {f : Addr} {fd : FuncData} {c : Nat → Addr} (F : Fun K "_law_sorts" "_law_sorts" sSorts f fd) (T : Txt K mg) (hc : ∀ i n, eNames[i]? = some n → mg n = some (.ref (c i))) : FnE P w K mg base 1 f fd ["_law_e"] (spSorts K c) := by
  refine fnE_of F scSo (fun a cls d vs H Q E h => ?_) (fun cdv A outer s H vs Q E p cls d zn fs hot rm h => ?_)
  · obtain ⟨D, b, t, _, rfl, _⟩ := h
    rfl
  · obtain ⟨D, b, t, rfl, rfl, EC, HD, k⟩ := h
    have hp : p ∈ [p] := List.mem_cons_self
    have is : ∀ {X : Cx}, X.K = K → p ∈ X.pn → CallR X (.builtin "isinstance") (rIsP K D p.1 d) := fun {X} e hp => by
      subst e
      exact call_isP hp EC.ex zn.zc fs
    refine ⟨_, pss_cons (ps_set (i := 1) scSo.nd rfl (Or.inr rfl) (pe_lst (pa_cons (pe_callB (is rfl hp) (by rfl) T.isi boot_isinstance (pa_cons (pv 0) (pa_cons (pe_glob (v := .ref (c 0)) rfl (hc 0 _ rfl) rfl) pa_nil))) (pa_cons (pe_callB (is rfl hp) (by rfl) T.isi boot_isinstance (pa_cons (pv 0) (pa_cons (pe_glob (v := .ref (c 1)) rfl (hc 1 _ rfl) rfl) pa_nil)))
        (pa_cons (pe_callB (is rfl hp) (by rfl) T.isi boot_isinstance (pa_cons (pv 0) (pa_cons (pe_glob (v := .ref (c 2)) rfl (hc 2 _ rfl) rfl) pa_nil))) (pa_cons (pe_callB (is rfl hp) (by rfl) T.isi boot_isinstance (pa_cons (pv 0) (pa_cons (pe_glob (v := .ref (c 3)) rfl (hc 3 _ rfl) rfl) pa_nil))) pa_nil))))))
      (pss_cons (ps_set (i := 1) scSo.nd rfl (Or.inr rfl) (pe_op op_cat (pv 1) (pe_lst (pa_cons (pe_callB (is rfl hp) (by rfl) T.isi boot_isinstance (pa_cons (pv 0) (pa_cons (pe_glob (v := .ref (c 4)) rfl (hc 4 _ rfl) rfl) pa_nil))) (pa_cons (pe_callB (is rfl hp) (by rfl) T.isi boot_isinstance (pa_cons (pv 0) (pa_cons (pe_glob (v := .ref (c 5)) rfl (hc 5 _ rfl) rfl) pa_nil)))
        (pa_cons (pe_callB (is rfl hp) (by rfl) T.isi boot_isinstance (pa_cons (pv 0) (pa_cons (pe_glob (v := .ref (c 6)) rfl (hc 6 _ rfl) rfl) pa_nil))) pa_nil))))))
      (pss_cons (ps_expr (pe_bm PySem.F.plainAttrs_list PySem.F.slot_list_append PySem.F.type_list_append mt_append (pv 1) (pa_cons (pe_callB (is rfl hp) (by rfl) T.isi boot_isinstance (pa_cons (pv 0) (pa_cons (pe_glob (v := .ref (c 7)) rfl (hc 7 _ rfl) rfl) pa_nil))) pa_nil)))
      (pss_cons (ps_set (i := 1) scSo.nd rfl (Or.inr rfl) (pe_op op_cat (pv 1) (pe_lst (pa_cons (pe_callB (is rfl hp) (by rfl) T.isi boot_isinstance (pa_cons (pv 0) (pa_cons (pe_glob (v := .ref (c 8)) rfl (hc 8 _ rfl) rfl) pa_nil))) (pa_cons (pe_callB (is rfl hp) (by rfl) T.isi boot_isinstance (pa_cons (pv 0) (pa_cons (pe_glob (v := .ref (c 9)) rfl (hc 9 _ rfl) rfl) pa_nil)))
        (pa_cons (pe_callB (is rfl hp) (by rfl) T.isi boot_isinstance (pa_cons (pv 0) (pa_cons (pe_glob (v := .ref (c 10)) rfl (hc 10 _ rfl) rfl) pa_nil))) (pa_cons (pe_callB (is rfl hp) (by rfl) T.isi boot_isinstance (pa_cons (pv 0) (pa_cons (pe_glob (v := .ref (c 11)) rfl (hc 11 _ rfl) rfl) pa_nil))) pa_nil)))))))
      (pss_cons (ps_set (i := 1) scSo.nd rfl (Or.inr rfl) (pe_op op_cat (pv 1) (pe_lst (pa_cons (pe_callB (is rfl hp) (by rfl) T.isi boot_isinstance (pa_cons (pv 0) (pa_cons (pe_glob (v := .ref (c 12)) rfl (hc 12 _ rfl) rfl) pa_nil))) (pa_cons (pe_callB (is rfl hp) (by rfl) T.isi boot_isinstance (pa_cons (pv 0) (pa_cons (pe_glob (v := .ref (c 13)) rfl (hc 13 _ rfl) rfl) pa_nil)))
        (pa_cons (pe_callB (is rfl hp) (by rfl) T.isi boot_isinstance (pa_cons (pv 0) (pa_cons (pe_glob (v := .ref (c 14)) rfl (hc 14 _ rfl) rfl) pa_nil))) pa_nil))))))
      (pss_one (ps_ret (pe_lcH (own := [("_law_at", 2)]) (g := gName 2) (tt := tB (tOp (rIxL K) (tVar 1) (tVar 2))) (te := tVar 2) ⟨p, hot, hp⟩ scSo.nd (L2H.pi_range1H rfl T.range (pa_cons pe_int pa_nil))
        (blkOk_by (N := nSo) (sc := defScope sSorts) (by decide +kernel)) (fun _ _ _ _ _ => pg_name (i := 2) scSo.nd rfl (Or.inl rfl)) (fun _ _ _ _ _ => pts_one (pt_val (pe_ix ix_list (pv 1) (pv 2) (fun _ _ => rfl)))) (fun _ _ _ _ _ => pv 2)))))))), ?_⟩
    have isE : ∀ {i : Nat} {σ : L2.St} {H1 : Hp}, i < 15 → Ex H H1 → σ[0]? = some (some (V.ref p.1)) → Ev (tCB (rIsP K D p.1 d) (tCons (tVar 0) (tCons (tC (.ref (c i))) tNil))) σ H1 (.bl (b i)) := fun hi e h0 =>
      ev_cb (ea_cons (ev_var h0) (ea_cons ev_c ea_nil)) (rc_isP (HD.ex e) rv_ref (EC.ks _ hi))
    refine q_asgL (xs := [.bl (b 0), .bl (b 1), .bl (b 2), .bl (b 3)]) (el_lst (ea_cons (isE (by decide) (Ex.refl H) rfl) (ea_cons (isE (by decide) (Ex.refl H) rfl) (ea_cons (isE (by decide) (Ex.refl H) rfl) (ea_cons (isE (by decide) (Ex.refl H) rfl) ea_nil)))) (by show 4 ≤ 100000; decide)) fun p1 H1 hp1 e1 h1 => ?_
    refine q_asgL (xs := [.bl (b 0), .bl (b 1), .bl (b 2), .bl (b 3), .bl (b 4), .bl (b 5), .bl (b 6)]) (el_varL (hl := by show 4 + 3 ≤ 100000; decide) rfl h1 (el_lst (ea_cons (isE (by decide) e1 rfl) (ea_cons (isE (by decide) e1 rfl) (ea_cons (isE (by decide) e1 rfl) ea_nil))) (by show 3 ≤ 100000; decide))) fun p2 H2 hp2 e2 h2 => ?_
    have e12 := e1.trans e2
    refine q_app h2 (ev_var rfl) (isE (i := 7) (by decide) e12 rfl) (by show 7 < 100000; decide) fun H3 e3 => ?_
    have e13 : Ex H (upd H3 p2 (.lst ([.bl (b 0), .bl (b 1), .bl (b 2), .bl (b 3), .bl (b 4), .bl (b 5), .bl (b 6)] ++ [.bl (b 7)]))) := Ex.mut (e12.trans e3) (fresh_back e1 hp2)
    refine q_asgL (xs := [.bl (b 0), .bl (b 1), .bl (b 2), .bl (b 3), .bl (b 4), .bl (b 5), .bl (b 6), .bl (b 7), .bl (b 8), .bl (b 9), .bl (b 10), .bl (b 11)]) (el_varL (hl := by show 8 + 4 ≤ 100000; decide) rfl upd_same (el_lst (ea_cons (isE (by decide) e13 rfl) (ea_cons (isE (by decide) e13 rfl) (ea_cons (isE (by decide) e13 rfl) (ea_cons (isE (by decide) e13 rfl) ea_nil)))) (by show 4 ≤ 100000; decide))) fun p4 H4 hp4 e4 h4 => ?_
    have e14 := e13.trans e4
    refine q_asgL (xs := (List.range 15).map fun i => .bl (b i)) (el_varL (ys := [.bl (b 12), .bl (b 13), .bl (b 14)]) (hl := by show 12 + 3 ≤ 100000; decide) rfl h4 (el_lst (ea_cons (isE (by decide) e14 rfl) (ea_cons (isE (by decide) e14 rfl) (ea_cons (isE (by decide) e14 rfl) ea_nil))) (by show 3 ≤ 100000; decide))) fun p5 H5 hp5 e5 h5 => ?_
    have e15 := e14.trans e5
    refine s_retL (el_lcR1 (n := 15) b (fun i => .int (i : Int)) (ea_cons ev_c ea_nil) (by decide) (fun _ => rfl) (fun i H6 e6 hi => et_B (ev_op (ev_var rfl) (ev_var rfl) (rv_ixL (sq_of (e6 _ _ h5)) (atI_nat ?_)))) (fun i H6 e6 hi _ => ev_var rfl)) fun q H6 hq e6 h6 => k q H6 (fresh_back e15 hq) (e15.trans e6) h6
    rw [List.getElem?_map, List.getElem?_range (by omega)]
    rfl
end
end Lw

namespace Lw
open PySem PySem.Spec PyProof.Rows L2 Evl L3
open L2H (HotC Hot1 RoomH PinOk cxH)
section
variable {P : Program} {w : World} {K : PySem.W.Frag} {mg : Str → Option Value} {base : Heap}
def basesV (t : Nat → Bool) : List V := given 4 t (fun i => .int (i : Int)) ++ List.replicate (if t 4 then 1 else 0) (.int 4)
def spBases (K : PySem.W.Frag) (c : Nat → Addr) (a : Addr) (cls : Value) (d : Option Addr) : Sp := fun vs H Q _ => ∃ D b t, cls = .ref D ∧ vs = [.ref a] ∧ ECls K c D b t ∧ DOk d H ∧ RetL (basesV t) H Q
theorem scBs : FnScope nSo ["_law_e"] (defScope sBases) := ⟨rfl, rfl, rfl, by decide +kernel, rfl, by decide +kernel, by decide +kernel⟩
theorem ok_bases {f : Addr} {fd : FuncData} {c : Nat → Addr} (F : Fun K "_law_bases" "_law_bases" sBases f fd) (T : Txt K mg) (hb : ∀ (i : Nat) (n : String), bTypes[i]? = some n → mg n = none) : FnE P w K mg base 1 f fd ["_law_e"] (spBases K c) := by
  refine fnE_of F scBs (fun a cls d vs H Q E h => ?_) (fun cdv A outer s H vs Q E p cls d zn fs hot rm h => ?_)
  · obtain ⟨D, b, t, _, rfl, _⟩ := h
    rfl
  · obtain ⟨D, b, t, rfl, rfl, EC, HD, k⟩ := h
    have hp : p ∈ [p] := List.mem_cons_self
    have is : ∀ {X : Cx}, X.K = K → p ∈ X.pn → CallR X (.builtin "isinstance") (rIsP K D p.1 d) := fun {X} e hp => by
      subst e
      exact call_isP hp EC.ex zn.zc fs
    refine ⟨_, pss_cons (ps_set (i := 1) scBs.nd rfl (Or.inr rfl) (pe_lst (pa_cons (pe_callB (is rfl hp) (by rfl) T.isi boot_isinstance (pa_cons (pv 0) (pa_cons (pe_ty "ValueError" (hb 0 _ rfl)) pa_nil))) (pa_cons (pe_callB (is rfl hp) (by rfl) T.isi boot_isinstance (pa_cons (pv 0) (pa_cons (pe_ty "LookupError" (hb 1 _ rfl)) pa_nil)))
        (pa_cons (pe_callB (is rfl hp) (by rfl) T.isi boot_isinstance (pa_cons (pv 0) (pa_cons (pe_ty "IndexError" (hb 2 _ rfl)) pa_nil))) (pa_cons (pe_callB (is rfl hp) (by rfl) T.isi boot_isinstance (pa_cons (pv 0) (pa_cons (pe_ty "KeyError" (hb 3 _ rfl)) pa_nil))) pa_nil))))))
      (pss_one (ps_ret (pe_op op_cat (pe_lcH (own := [("_law_at", 2)]) (g := gName 2) (tt := tB (tOp (rIxL K) (tVar 1) (tVar 2))) (te := tVar 2) ⟨p, hot, hp⟩ scBs.nd (L2H.pi_range1H rfl T.range (pa_cons pe_int pa_nil))
        (blkOk_by (N := nSo) (sc := defScope sBases) (by decide +kernel)) (fun _ _ _ _ _ => pg_name (i := 2) scBs.nd rfl (Or.inl rfl)) (fun _ _ _ _ _ => pts_one (pt_val (pe_ix ix_list (pv 1) (pv 2) (fun _ _ => rfl)))) (fun _ _ _ _ _ => pv 2))
        (pe_op op_rep (pe_lst (pa_cons pe_int pa_nil)) (pe_callTy call_int1 (by rfl) T.int PyProof.Rows.boot_int (pa_cons (pe_callB (is rfl hp) (by rfl) T.isi boot_isinstance (pa_cons (pv 0) (pa_cons (pe_ty "RuntimeError" (hb 4 _ rfl)) pa_nil))) pa_nil)))))), ?_⟩
    have isB : ∀ {i : Nat} {n : String} {σ : L2.St} {H1 : Hp}, bTypes[i]? = some n → Ex H H1 → σ[0]? = some (some (V.ref p.1)) → Ev (tCB (rIsP K D p.1 d) (tCons (tVar 0) (tCons (tC (.ty n)) tNil))) σ H1 (.bl (t i)) := fun hn e h0 =>
      ev_cb (ea_cons (ev_var h0) (ea_cons ev_c ea_nil)) (rc_isP (HD.ex e) rv_ty (EC.kt _ _ hn))
    refine q_asgL (xs := (List.range 4).map fun i => .bl (t i)) (el_lst (ea_cons (isB (i := 0) rfl (Ex.refl H) rfl) (ea_cons (isB (i := 1) rfl (Ex.refl H) rfl) (ea_cons (isB (i := 2) rfl (Ex.refl H) rfl) (ea_cons (isB (i := 3) rfl (Ex.refl H) rfl) ea_nil)))) (by show 4 ≤ 100000; decide)) fun p1 H1 hp1 e1 h1 => ?_
    refine s_retL (xs := basesV t) (el_cat (el_lcR1 (n := 4) t (fun i => .int (i : Int)) (ea_cons ev_c ea_nil) (by decide) (fun _ => rfl) (fun i H6 e6 hi => et_B (ev_op (ev_var rfl) (ev_var rfl) (rv_ixL (sq_of (e6 _ _ h1)) (atI_nat ?_)))) (fun i H6 e6 hi _ => ev_var rfl))
      (el_rep (n := if t 4 then 1 else 0) ev_c (ev_is (ev_cb (ea_cons (isB (i := 4) rfl e1 rfl) ea_nil) rc_intb) ?_) ?_) ?_) fun q H6 hq e6 h6 => k q H6 (fresh_back e1 hq) (e1.trans e6) h6
    · rw [List.getElem?_map, List.getElem?_range (by omega)]
      rfl
    · cases t 4 <;> rfl
    · cases t 4 <;> decide
    · have z := given_len 4 t fun i => V.int (i : Int)
      have z2 : (List.replicate (if t 4 then 1 else 0) (V.int 4)).length ≤ 1 := by
        cases t 4 <;> decide
      show (given 4 t _).length + _ ≤ 100000
      omega
/-- the field of the error that is raised for i -/
def fieldOf : List Str := ["name", "index", "index", "event", "many", "index", "endpoint", "index", "line", "column"]
def spField (K : PySem.W.Frag) (c : Nat → Addr) (a : Addr) (cls : Value) (d : Option Addr) : Sp := fun vs H Q _ => ∃ D dd b t f v, ∃ i : Nat, cls = .ref D ∧ d = some dd ∧ vs = [.ref a, .int (i : Int)] ∧ ECls K c D b t ∧ H dd = some (.xd [(f, v)]) ∧ fieldOf[i]? = some f ∧ RetV v H Q
theorem scFi : FnScope ["_law_e", "_law_which"] ["_law_e", "_law_which"] (defScope sField) := ⟨rfl, rfl, rfl, by decide +kernel, rfl, by decide +kernel, by decide +kernel⟩
theorem ok_field {f : Addr} {fd : FuncData} {c : Nat → Addr} (F : Fun K "_law_field" "_law_field" sField f fd) : FnE P w K mg base 1 f fd ["_law_e", "_law_which"] (spField K c) := by
  refine fnE_of F scFi (fun a cls d vs H Q E h => ?_) (fun cdv A outer s H vs Q E p cls d zn fs hot rm h => ?_)
  · obtain ⟨D, dd, b, t, f, v, i, _, _, rfl, _⟩ := h
    rfl
  · obtain ⟨D, dd, b, t, f, v, i, rfl, rfl, rfl, EC, hd, hf, k⟩ := h
    have hp : p ∈ [p] := List.mem_cons_self
    refine ⟨_, pss_cons (ps_if (pt_cmpR op_eq (pv 1) pe_int (nomark _)) (pss_one (ps_ret (pe_xfP (cls := .ref D) (d := some dd) hp EC.xf (EC.no "name" (by decide +kernel)) zn.zc fs (pv 0)))) pss_nil)
      (pss_cons (ps_if (pt_cmpR op_in_seq (pv 1) (pe_tup (pa_cons pe_int (pa_cons pe_int (pa_cons pe_int (pa_cons pe_int pa_nil))))) rfl) (pss_one (ps_ret (pe_xfP (cls := .ref D) (d := some dd) hp EC.xf (EC.no "index" (by decide +kernel)) zn.zc fs (pv 0)))) pss_nil)
      (pss_cons (ps_if (pt_cmpR op_eq (pv 1) pe_int (nomark _)) (pss_one (ps_ret (pe_xfP (cls := .ref D) (d := some dd) hp EC.xf (EC.no "event" (by decide +kernel)) zn.zc fs (pv 0)))) pss_nil)
      (pss_cons (ps_if (pt_cmpR op_eq (pv 1) pe_int (nomark _)) (pss_one (ps_ret (pe_xfP (cls := .ref D) (d := some dd) hp EC.xf (EC.no "many" (by decide +kernel)) zn.zc fs (pv 0)))) pss_nil)
      (pss_cons (ps_if (pt_cmpR op_eq (pv 1) pe_int (nomark _)) (pss_one (ps_ret (pe_xfP (cls := .ref D) (d := some dd) hp EC.xf (EC.no "endpoint" (by decide +kernel)) zn.zc fs (pv 0)))) pss_nil)
      (pss_one (ps_ret (pe_ifExp (pt_cmpR op_eq (pv 1) pe_int (nomark _)) (pe_xfP (cls := .ref D) (d := some dd) hp EC.xf (EC.no "line" (by decide +kernel)) zn.zc fs (pv 0)) (pe_xfP (cls := .ref D) (d := some dd) hp EC.xf (EC.no "column" (by decide +kernel)) zn.zc fs (pv 0))))))))), ?_⟩
    match i, hf with
    | 0, hf =>
      cases hf
      refine q_when (b := true) (et_is (et_test (ev_op (ev_var rfl) ev_c (rv_eq rfl))) (by decide)) (fun _ H1 e1 => ?_) (fun hb => nomatch hb)
      exact s_ret (ev_xf (ev_var rfl) ((e1) _ _ hd) (by simp [List.lookup])) fun H9 e9 => k H9 ((e1).trans e9)
    | 1, hf =>
      cases hf
      refine q_when (b := false) (et_is (et_test (ev_op (ev_var rfl) ev_c (rv_eq rfl))) (by decide)) (fun hb => nomatch hb) fun _ H1 e1 => ?_
      refine q_when (b := true) (et_is (et_test (ev_inU (xs := [.int 1, .int 2, .int 5, .int 7]) (ev_var rfl) (eu_tup (ea_cons ev_c (ea_cons ev_c (ea_cons ev_c (ea_cons ev_c ea_nil)))) (by show 4 ≤ 100000; decide)) rfl rfl)) (by decide +kernel)) (fun _ H2 e2 => ?_) (fun hb => nomatch hb)
      exact s_ret (ev_xf (ev_var rfl) (((e1).trans e2) _ _ hd) (by simp [List.lookup])) fun H9 e9 => k H9 (((e1).trans e2).trans e9)
    | 2, hf =>
      cases hf
      refine q_when (b := false) (et_is (et_test (ev_op (ev_var rfl) ev_c (rv_eq rfl))) (by decide)) (fun hb => nomatch hb) fun _ H1 e1 => ?_
      refine q_when (b := true) (et_is (et_test (ev_inU (xs := [.int 1, .int 2, .int 5, .int 7]) (ev_var rfl) (eu_tup (ea_cons ev_c (ea_cons ev_c (ea_cons ev_c (ea_cons ev_c ea_nil)))) (by show 4 ≤ 100000; decide)) rfl rfl)) (by decide +kernel)) (fun _ H2 e2 => ?_) (fun hb => nomatch hb)
      exact s_ret (ev_xf (ev_var rfl) (((e1).trans e2) _ _ hd) (by simp [List.lookup])) fun H9 e9 => k H9 (((e1).trans e2).trans e9)
    | 3, hf =>
      cases hf
      refine q_when (b := false) (et_is (et_test (ev_op (ev_var rfl) ev_c (rv_eq rfl))) (by decide)) (fun hb => nomatch hb) fun _ H1 e1 => ?_
      refine q_when (b := false) (et_is (et_test (ev_inU (xs := [.int 1, .int 2, .int 5, .int 7]) (ev_var rfl) (eu_tup (ea_cons ev_c (ea_cons ev_c (ea_cons ev_c (ea_cons ev_c ea_nil)))) (by show 4 ≤ 100000; decide)) rfl rfl)) (by decide +kernel)) (fun hb => nomatch hb) fun _ H2 e2 => ?_
      refine q_when (b := true) (et_is (et_test (ev_op (ev_var rfl) ev_c (rv_eq rfl))) (by decide)) (fun _ H3 e3 => ?_) (fun hb => nomatch hb)
      exact s_ret (ev_xf (ev_var rfl) ((((e1).trans e2).trans e3) _ _ hd) (by simp [List.lookup])) fun H9 e9 => k H9 ((((e1).trans e2).trans e3).trans e9)
    | 4, hf =>
      cases hf
      refine q_when (b := false) (et_is (et_test (ev_op (ev_var rfl) ev_c (rv_eq rfl))) (by decide)) (fun hb => nomatch hb) fun _ H1 e1 => ?_
      refine q_when (b := false) (et_is (et_test (ev_inU (xs := [.int 1, .int 2, .int 5, .int 7]) (ev_var rfl) (eu_tup (ea_cons ev_c (ea_cons ev_c (ea_cons ev_c (ea_cons ev_c ea_nil)))) (by show 4 ≤ 100000; decide)) rfl rfl)) (by decide +kernel)) (fun hb => nomatch hb) fun _ H2 e2 => ?_
      refine q_when (b := false) (et_is (et_test (ev_op (ev_var rfl) ev_c (rv_eq rfl))) (by decide)) (fun hb => nomatch hb) fun _ H3 e3 => ?_
      refine q_when (b := true) (et_is (et_test (ev_op (ev_var rfl) ev_c (rv_eq rfl))) (by decide)) (fun _ H4 e4 => ?_) (fun hb => nomatch hb)
      exact s_ret (ev_xf (ev_var rfl) (((((e1).trans e2).trans e3).trans e4) _ _ hd) (by simp [List.lookup])) fun H9 e9 => k H9 (((((e1).trans e2).trans e3).trans e4).trans e9)
    | 5, hf =>
      cases hf
      refine q_when (b := false) (et_is (et_test (ev_op (ev_var rfl) ev_c (rv_eq rfl))) (by decide)) (fun hb => nomatch hb) fun _ H1 e1 => ?_
      refine q_when (b := true) (et_is (et_test (ev_inU (xs := [.int 1, .int 2, .int 5, .int 7]) (ev_var rfl) (eu_tup (ea_cons ev_c (ea_cons ev_c (ea_cons ev_c (ea_cons ev_c ea_nil)))) (by show 4 ≤ 100000; decide)) rfl rfl)) (by decide +kernel)) (fun _ H2 e2 => ?_) (fun hb => nomatch hb)
      exact s_ret (ev_xf (ev_var rfl) (((e1).trans e2) _ _ hd) (by simp [List.lookup])) fun H9 e9 => k H9 (((e1).trans e2).trans e9)
    | 6, hf =>
      cases hf
      refine q_when (b := false) (et_is (et_test (ev_op (ev_var rfl) ev_c (rv_eq rfl))) (by decide)) (fun hb => nomatch hb) fun _ H1 e1 => ?_
      refine q_when (b := false) (et_is (et_test (ev_inU (xs := [.int 1, .int 2, .int 5, .int 7]) (ev_var rfl) (eu_tup (ea_cons ev_c (ea_cons ev_c (ea_cons ev_c (ea_cons ev_c ea_nil)))) (by show 4 ≤ 100000; decide)) rfl rfl)) (by decide +kernel)) (fun hb => nomatch hb) fun _ H2 e2 => ?_
      refine q_when (b := false) (et_is (et_test (ev_op (ev_var rfl) ev_c (rv_eq rfl))) (by decide)) (fun hb => nomatch hb) fun _ H3 e3 => ?_
      refine q_when (b := false) (et_is (et_test (ev_op (ev_var rfl) ev_c (rv_eq rfl))) (by decide)) (fun hb => nomatch hb) fun _ H4 e4 => ?_
      refine q_when (b := true) (et_is (et_test (ev_op (ev_var rfl) ev_c (rv_eq rfl))) (by decide)) (fun _ H5 e5 => ?_) (fun hb => nomatch hb)
      exact s_ret (ev_xf (ev_var rfl) ((((((e1).trans e2).trans e3).trans e4).trans e5) _ _ hd) (by simp [List.lookup])) fun H9 e9 => k H9 ((((((e1).trans e2).trans e3).trans e4).trans e5).trans e9)
    | 7, hf =>
      cases hf
      refine q_when (b := false) (et_is (et_test (ev_op (ev_var rfl) ev_c (rv_eq rfl))) (by decide)) (fun hb => nomatch hb) fun _ H1 e1 => ?_
      refine q_when (b := true) (et_is (et_test (ev_inU (xs := [.int 1, .int 2, .int 5, .int 7]) (ev_var rfl) (eu_tup (ea_cons ev_c (ea_cons ev_c (ea_cons ev_c (ea_cons ev_c ea_nil)))) (by show 4 ≤ 100000; decide)) rfl rfl)) (by decide +kernel)) (fun _ H2 e2 => ?_) (fun hb => nomatch hb)
      exact s_ret (ev_xf (ev_var rfl) (((e1).trans e2) _ _ hd) (by simp [List.lookup])) fun H9 e9 => k H9 (((e1).trans e2).trans e9)
    | 8, hf =>
      cases hf
      refine q_when (b := false) (et_is (et_test (ev_op (ev_var rfl) ev_c (rv_eq rfl))) (by decide)) (fun hb => nomatch hb) fun _ H1 e1 => ?_
      refine q_when (b := false) (et_is (et_test (ev_inU (xs := [.int 1, .int 2, .int 5, .int 7]) (ev_var rfl) (eu_tup (ea_cons ev_c (ea_cons ev_c (ea_cons ev_c (ea_cons ev_c ea_nil)))) (by show 4 ≤ 100000; decide)) rfl rfl)) (by decide +kernel)) (fun hb => nomatch hb) fun _ H2 e2 => ?_
      refine q_when (b := false) (et_is (et_test (ev_op (ev_var rfl) ev_c (rv_eq rfl))) (by decide)) (fun hb => nomatch hb) fun _ H3 e3 => ?_
      refine q_when (b := false) (et_is (et_test (ev_op (ev_var rfl) ev_c (rv_eq rfl))) (by decide)) (fun hb => nomatch hb) fun _ H4 e4 => ?_
      refine q_when (b := false) (et_is (et_test (ev_op (ev_var rfl) ev_c (rv_eq rfl))) (by decide)) (fun hb => nomatch hb) fun _ H5 e5 => ?_
      exact s_ret (ev_if (b := true) (et_is (et_test (ev_op (ev_var rfl) ev_c (rv_eq rfl))) (by decide)) (fun hb => ev_xf (ev_var rfl) ((((((e1).trans e2).trans e3).trans e4).trans e5) _ _ hd) (by simp [List.lookup])) fun hb => nomatch hb) fun H9 e9 => k H9 ((((((e1).trans e2).trans e3).trans e4).trans e5).trans e9)
    | 9, hf =>
      cases hf
      refine q_when (b := false) (et_is (et_test (ev_op (ev_var rfl) ev_c (rv_eq rfl))) (by decide)) (fun hb => nomatch hb) fun _ H1 e1 => ?_
      refine q_when (b := false) (et_is (et_test (ev_inU (xs := [.int 1, .int 2, .int 5, .int 7]) (ev_var rfl) (eu_tup (ea_cons ev_c (ea_cons ev_c (ea_cons ev_c (ea_cons ev_c ea_nil)))) (by show 4 ≤ 100000; decide)) rfl rfl)) (by decide +kernel)) (fun hb => nomatch hb) fun _ H2 e2 => ?_
      refine q_when (b := false) (et_is (et_test (ev_op (ev_var rfl) ev_c (rv_eq rfl))) (by decide)) (fun hb => nomatch hb) fun _ H3 e3 => ?_
      refine q_when (b := false) (et_is (et_test (ev_op (ev_var rfl) ev_c (rv_eq rfl))) (by decide)) (fun hb => nomatch hb) fun _ H4 e4 => ?_
      refine q_when (b := false) (et_is (et_test (ev_op (ev_var rfl) ev_c (rv_eq rfl))) (by decide)) (fun hb => nomatch hb) fun _ H5 e5 => ?_
      exact s_ret (ev_if (b := false) (et_is (et_test (ev_op (ev_var rfl) ev_c (rv_eq rfl))) (by decide)) (fun hb => nomatch hb) fun hb => ev_xf (ev_var rfl) ((((((e1).trans e2).trans e3).trans e4).trans e5) _ _ hd) (by simp [List.lookup])) fun H9 e9 => k H9 ((((((e1).trans e2).trans e3).trans e4).trans e5).trans e9)
    | n + 10, hf => exact nomatch (show none = some f from hf)
end
end Lw

namespace L3
open PySem PySem.Spec PyProof.Rows L2 Evl
section
variable {X : Cx} {C : Addr} {bmB : List Value} {B newId initId : String}
/-- C(), nothing of its own: made where nothing is handled -/
theorem pmk_none {x : Str} {p pos : Pos} (T : ExcBaseFacts B newId initId bmB) (q : PySem.W.excIn X.K C bmB newId = true) (hm : X.mg x = some (.ref C)) (kC : PySem.W.keepIn X.K (.ref C) = true) (r : Raises X (.ref C)) (hg : Gl X x)
    (hdb : (x == ("__debug__" : Str)) = false := by decide) : L2N.PMk X (.Call (.Name x p) [] [] pos) (fun _ H Q => Q (.ref C) none H) := by
  intro pins s σ H Q I h
  refine wpAny_Call_Name_kw (ld_glob I hg hm ?_ hdb)
  refine PySem.W.callWith_K0 I.kIn kC ?_
  obtain ⟨bm, N, nm, qn, bs, hdct, sn, sub, ab, col, dd, k0, k1, k2, k3, k5, mN, hC, hN, hni, tl⟩ := exc_obj I.kIn q
  exact wpAny_call_exc_subT T tl hC hN hni (fun h' e made => L2N.mk_of I made r h (I.hok.gone made.new)) (Nat.zero_le _)
end
theorem okN {P : Program} {w : World} {K : PySem.W.Frag} {mg : Str → Option Value} {base : Heap} {x qual : Str} {st : Stmt} {f : Addr} {fd : FuncData} {N ps : List Str} {k : Nat} {sp : Sp} (F : Fun K x qual st f fd) (S : FnScope N ps (defScope st)) (len : ∀ vs H Q E, sp vs H Q E → vs.length = ps.length)
    (body : ∀ (cdv : Value) (A : Around) (outer : List Env) (s : Shared) (H : Hp) (vs : List V) (Q : VK) (E : XK), Room k (A.deeper (envOfC qual (defScope st) s.heap.objs.size f cdv)) → sp vs H Q E →
      ∃ t, PSs (cxOf (L2N.CX P w) P w K mg base N qual (defScope st) f cdv A outer s H E) (defBody st) t ∧ t { nx := fun _ H' => Q .non H', rt := Q } (start N vs) H) : FnOk P w K mg base (L2N.CX P w) (k + 1) f fd ps sp := by
  obtain ⟨⟨oc, od, kV, doc, pm, an, cdv, ct, osl, rfl, lk, hcd⟩, _⟩ := F
  exact fn_of lk hcd S len fun A outer s H vs Q E hr hsp => body cdv A outer s H vs Q E hr hsp
end L3
namespace Lw
open PySem PySem.Spec PyProof.Rows L2 Evl L3
abbrev sRaise : Stmt := top 19
abbrev sRaiseO : Stmt := top 20
section
variable {P : Program} {w : World} {K : PySem.W.Frag} {mg : Str → Option Value} {base : Heap}
abbrev sIni0 : Stmt := inClass (top 2) 0
theorem scIni0 : FnScope ["self", "name"] ["self", "name"] (defScope sIni0) := ⟨rfl, rfl, rfl, by decide +kernel, rfl, by decide +kernel, by decide +kernel⟩
theorem ok_ini0 {f C : Addr} {fd : FuncData} (F : Fun K "__init__" "BadSetting.__init__" sIni0 f fd) : FnOk P w K mg base CX0 1 f fd ["self", "name"] (spErB K C "name") := by
  refine F.ok scIni0 (fun vs H Q E h => ?_) (fun cdv A outer s H vs Q E hr h => ?_)
  · obtain ⟨a, v, rfl, _⟩ := h
    rfl
  · refine ⟨_, pss_one (ps_ostB (pv 0) (pv 1)), ?_⟩
    exact s_iniB h (by obtain ⟨a, v, rfl, _⟩ := h; rfl)
abbrev sIni1 : Stmt := inClass (top 3) 0
theorem scIni1 : FnScope ["self", "index"] ["self", "index"] (defScope sIni1) := ⟨rfl, rfl, rfl, by decide +kernel, rfl, by decide +kernel, by decide +kernel⟩
theorem ok_ini1 {f C : Addr} {fd : FuncData} (F : Fun K "__init__" "BadWrite.__init__" sIni1 f fd) : FnOk P w K mg base CX0 1 f fd ["self", "index"] (spErB K C "index") := by
  refine F.ok scIni1 (fun vs H Q E h => ?_) (fun cdv A outer s H vs Q E hr h => ?_)
  · obtain ⟨a, v, rfl, _⟩ := h
    rfl
  · refine ⟨_, pss_one (ps_ostB (pv 0) (pv 1)), ?_⟩
    exact s_iniB h (by obtain ⟨a, v, rfl, _⟩ := h; rfl)
abbrev sIni2 : Stmt := inClass (top 4) 0
theorem scIni2 : FnScope ["self", "index"] ["self", "index"] (defScope sIni2) := ⟨rfl, rfl, rfl, by decide +kernel, rfl, by decide +kernel, by decide +kernel⟩
theorem ok_ini2 {f C : Addr} {fd : FuncData} (F : Fun K "__init__" "BadOrder.__init__" sIni2 f fd) : FnOk P w K mg base CX0 1 f fd ["self", "index"] (spErB K C "index") := by
  refine F.ok scIni2 (fun vs H Q E h => ?_) (fun cdv A outer s H vs Q E hr h => ?_)
  · obtain ⟨a, v, rfl, _⟩ := h
    rfl
  · refine ⟨_, pss_one (ps_ostB (pv 0) (pv 1)), ?_⟩
    exact s_iniB h (by obtain ⟨a, v, rfl, _⟩ := h; rfl)
abbrev sIni3 : Stmt := inClass (top 5) 0
theorem scIni3 : FnScope ["self", "event"] ["self", "event"] (defScope sIni3) := ⟨rfl, rfl, rfl, by decide +kernel, rfl, by decide +kernel, by decide +kernel⟩
theorem ok_ini3 {f C : Addr} {fd : FuncData} (F : Fun K "__init__" "NotPossible.__init__" sIni3 f fd) : FnOk P w K mg base CX0 1 f fd ["self", "event"] (spErB K C "event") := by
  refine F.ok scIni3 (fun vs H Q E h => ?_) (fun cdv A outer s H vs Q E hr h => ?_)
  · obtain ⟨a, v, rfl, _⟩ := h
    rfl
  · refine ⟨_, pss_one (ps_ostB (pv 0) (pv 1)), ?_⟩
    exact s_iniB h (by obtain ⟨a, v, rfl, _⟩ := h; rfl)
abbrev sIni4 : Stmt := inClass (top 6) 0
theorem scIni4 : FnScope ["self", "many"] ["self", "many"] (defScope sIni4) := ⟨rfl, rfl, rfl, by decide +kernel, rfl, by decide +kernel, by decide +kernel⟩
theorem ok_ini4 {f C : Addr} {fd : FuncData} (F : Fun K "__init__" "TooLong.__init__" sIni4 f fd) : FnOk P w K mg base CX0 1 f fd ["self", "many"] (spErB K C "many") := by
  refine F.ok scIni4 (fun vs H Q E h => ?_) (fun cdv A outer s H vs Q E hr h => ?_)
  · obtain ⟨a, v, rfl, _⟩ := h
    rfl
  · refine ⟨_, pss_one (ps_ostB (pv 0) (pv 1)), ?_⟩
    exact s_iniB h (by obtain ⟨a, v, rfl, _⟩ := h; rfl)
abbrev sIni5 : Stmt := inClass (top 7) 0
theorem scIni5 : FnScope ["self", "index"] ["self", "index"] (defScope sIni5) := ⟨rfl, rfl, rfl, by decide +kernel, rfl, by decide +kernel, by decide +kernel⟩
theorem ok_ini5 {f C : Addr} {fd : FuncData} (F : Fun K "__init__" "BadTalk.__init__" sIni5 f fd) : FnOk P w K mg base CX0 1 f fd ["self", "index"] (spErB K C "index") := by
  refine F.ok scIni5 (fun vs H Q E h => ?_) (fun cdv A outer s H vs Q E hr h => ?_)
  · obtain ⟨a, v, rfl, _⟩ := h
    rfl
  · refine ⟨_, pss_one (ps_ostB (pv 0) (pv 1)), ?_⟩
    exact s_iniB h (by obtain ⟨a, v, rfl, _⟩ := h; rfl)
abbrev sIni6 : Stmt := inClass (top 8) 0
theorem scIni6 : FnScope ["self", "endpoint"] ["self", "endpoint"] (defScope sIni6) := ⟨rfl, rfl, rfl, by decide +kernel, rfl, by decide +kernel, by decide +kernel⟩
theorem ok_ini6 {f C : Addr} {fd : FuncData} (F : Fun K "__init__" "EndlessTurn.__init__" sIni6 f fd) : FnOk P w K mg base CX0 1 f fd ["self", "endpoint"] (spErB K C "endpoint") := by
  refine F.ok scIni6 (fun vs H Q E h => ?_) (fun cdv A outer s H vs Q E hr h => ?_)
  · obtain ⟨a, v, rfl, _⟩ := h
    rfl
  · refine ⟨_, pss_one (ps_ostB (pv 0) (pv 1)), ?_⟩
    exact s_iniB h (by obtain ⟨a, v, rfl, _⟩ := h; rfl)
abbrev sIni7 : Stmt := inClass (top 9) 0
theorem scIni7 : FnScope ["self", "index"] ["self", "index"] (defScope sIni7) := ⟨rfl, rfl, rfl, by decide +kernel, rfl, by decide +kernel, by decide +kernel⟩
theorem ok_ini7 {f C : Addr} {fd : FuncData} (F : Fun K "__init__" "BadPath.__init__" sIni7 f fd) : FnOk P w K mg base CX0 1 f fd ["self", "index"] (spErB K C "index") := by
  refine F.ok scIni7 (fun vs H Q E h => ?_) (fun cdv A outer s H vs Q E hr h => ?_)
  · obtain ⟨a, v, rfl, _⟩ := h
    rfl
  · refine ⟨_, pss_one (ps_ostB (pv 0) (pv 1)), ?_⟩
    exact s_iniB h (by obtain ⟨a, v, rfl, _⟩ := h; rfl)
abbrev sIni8 : Stmt := inClass (top 10) 0
theorem scIni8 : FnScope ["self", "line"] ["self", "line"] (defScope sIni8) := ⟨rfl, rfl, rfl, by decide +kernel, rfl, by decide +kernel, by decide +kernel⟩
theorem ok_ini8 {f C : Addr} {fd : FuncData} (F : Fun K "__init__" "BadText.__init__" sIni8 f fd) : FnOk P w K mg base CX0 1 f fd ["self", "line"] (spErB K C "line") := by
  refine F.ok scIni8 (fun vs H Q E h => ?_) (fun cdv A outer s H vs Q E hr h => ?_)
  · obtain ⟨a, v, rfl, _⟩ := h
    rfl
  · refine ⟨_, pss_one (ps_ostB (pv 0) (pv 1)), ?_⟩
    exact s_iniB h (by obtain ⟨a, v, rfl, _⟩ := h; rfl)
abbrev sIni9 : Stmt := inClass (top 11) 0
theorem scIni9 : FnScope ["self", "column"] ["self", "column"] (defScope sIni9) := ⟨rfl, rfl, rfl, by decide +kernel, rfl, by decide +kernel, by decide +kernel⟩
theorem ok_ini9 {f C : Addr} {fd : FuncData} (F : Fun K "__init__" "BadRow.__init__" sIni9 f fd) : FnOk P w K mg base CX0 1 f fd ["self", "column"] (spErB K C "column") := by
  refine F.ok scIni9 (fun vs H Q E h => ?_) (fun cdv A outer s H vs Q E hr h => ?_)
  · obtain ⟨a, v, rfl, _⟩ := h
    rfl
  · refine ⟨_, pss_one (ps_ostB (pv 0) (pv 1)), ?_⟩
    exact s_iniB h (by obtain ⟨a, v, rfl, _⟩ := h; rfl)
abbrev sIni10 : Stmt := inClass (top 12) 0
theorem scIni10 : FnScope ["self", "turn"] ["self", "turn"] (defScope sIni10) := ⟨rfl, rfl, rfl, by decide +kernel, rfl, by decide +kernel, by decide +kernel⟩
theorem ok_ini10 {f C : Addr} {fd : FuncData} (F : Fun K "__init__" "NoTurn.__init__" sIni10 f fd) : FnOk P w K mg base CX0 1 f fd ["self", "turn"] (spErB K C "turn") := by
  refine F.ok scIni10 (fun vs H Q E h => ?_) (fun cdv A outer s H vs Q E hr h => ?_)
  · obtain ⟨a, v, rfl, _⟩ := h
    rfl
  · refine ⟨_, pss_one (ps_ostB (pv 0) (pv 1)), ?_⟩
    exact s_iniB h (by obtain ⟨a, v, rfl, _⟩ := h; rfl)
abbrev sIni11 : Stmt := inClass (top 13) 0
theorem scIni11 : FnScope ["self", "arc"] ["self", "arc"] (defScope sIni11) := ⟨rfl, rfl, rfl, by decide +kernel, rfl, by decide +kernel, by decide +kernel⟩
theorem ok_ini11 {f C : Addr} {fd : FuncData} (F : Fun K "__init__" "NoArc.__init__" sIni11 f fd) : FnOk P w K mg base CX0 1 f fd ["self", "arc"] (spErB K C "arc") := by
  refine F.ok scIni11 (fun vs H Q E h => ?_) (fun cdv A outer s H vs Q E hr h => ?_)
  · obtain ⟨a, v, rfl, _⟩ := h
    rfl
  · refine ⟨_, pss_one (ps_ostB (pv 0) (pv 1)), ?_⟩
    exact s_iniB h (by obtain ⟨a, v, rfl, _⟩ := h; rfl)
abbrev sIni12 : Stmt := inClass (top 14) 0
theorem scIni12 : FnScope ["self", "name"] ["self", "name"] (defScope sIni12) := ⟨rfl, rfl, rfl, by decide +kernel, rfl, by decide +kernel, by decide +kernel⟩
theorem ok_ini12 {f C : Addr} {fd : FuncData} (F : Fun K "__init__" "NoName.__init__" sIni12 f fd) : FnOk P w K mg base CX0 1 f fd ["self", "name"] (spErB K C "name") := by
  refine F.ok scIni12 (fun vs H Q E h => ?_) (fun cdv A outer s H vs Q E hr h => ?_)
  · obtain ⟨a, v, rfl, _⟩ := h
    rfl
  · refine ⟨_, pss_one (ps_ostB (pv 0) (pv 1)), ?_⟩
    exact s_iniB h (by obtain ⟨a, v, rfl, _⟩ := h; rfl)
def spRaise (c : Nat → Addr) : Sp := fun vs H Q E => ∃ (i : Nat) (v : V) (f : Str), vs = [.int (i : Int), v] ∧ fieldOf[i]? = some f ∧ ErrV (c i) f v H E
theorem scRa : FnScope ["_law_which", "_law_value"] ["_law_which", "_law_value"] (defScope sRaise) := ⟨rfl, rfl, rfl, by decide +kernel, rfl, by decide +kernel, by decide +kernel⟩
theorem ok_raise {g f0 f1 f2 f3 f4 f5 f6 f7 f8 f9 : Addr} {gd d0 d1 d2 d3 d4 d5 d6 d7 d8 d9 : FuncData} {c : Nat → Addr} (F : Fun K "_law_raise" "_law_raise" sRaise g gd)
    (T0 : ErB P w K mg base "BadSetting" "name" (c 0) f0 d0)
    (T1 : ErB P w K mg base "BadWrite" "index" (c 1) f1 d1)
    (T2 : ErB P w K mg base "BadOrder" "index" (c 2) f2 d2)
    (T3 : ErB P w K mg base "NotPossible" "event" (c 3) f3 d3)
    (T4 : ErB P w K mg base "TooLong" "many" (c 4) f4 d4)
    (T5 : ErB P w K mg base "BadTalk" "index" (c 5) f5 d5)
    (T6 : ErB P w K mg base "EndlessTurn" "endpoint" (c 6) f6 d6)
    (T7 : ErB P w K mg base "BadPath" "index" (c 7) f7 d7)
    (T8 : ErB P w K mg base "BadText" "line" (c 8) f8 d8)
    (T9 : ErB P w K mg base "BadRow" "column" (c 9) f9 d9) :
    FnOk P w K mg base (L2N.CX P w) 3 g gd ["_law_which", "_law_value"] (spRaise c) := by
  refine okN F scRa (fun vs H Q E h => ?_) (fun cdv A outer s H vs Q E hr h => ?_)
  · obtain ⟨i, v, f, rfl, _⟩ := h
    rfl
  · obtain ⟨i, v, f, rfl, hf, k⟩ := h
    refine ⟨_, pss_cons (ps_if (pt_cmpR op_eq (pv 0) pe_int (nomark _)) (pss_one (by exact ps_rzB rfl T0 hr (L2N.takes_of rfl rfl rfl rfl) (by exact pa_cons (pv 1) pa_nil))) pss_nil) (
        pss_cons (ps_if (pt_cmpR op_eq (pv 0) pe_int (nomark _)) (pss_one (by exact ps_rzB rfl T1 hr (L2N.takes_of rfl rfl rfl rfl) (by exact pa_cons (pv 1) pa_nil))) pss_nil) (
        pss_cons (ps_if (pt_cmpR op_eq (pv 0) pe_int (nomark _)) (pss_one (by exact ps_rzB rfl T2 hr (L2N.takes_of rfl rfl rfl rfl) (by exact pa_cons (pv 1) pa_nil))) pss_nil) (
        pss_cons (ps_if (pt_cmpR op_eq (pv 0) pe_int (nomark _)) (pss_one (by exact ps_rzB rfl T3 hr (L2N.takes_of rfl rfl rfl rfl) (by exact pa_cons (pv 1) pa_nil))) pss_nil) (
        pss_cons (ps_if (pt_cmpR op_eq (pv 0) pe_int (nomark _)) (pss_one (by exact ps_rzB rfl T4 hr (L2N.takes_of rfl rfl rfl rfl) (by exact pa_cons (pv 1) pa_nil))) pss_nil) (
        pss_cons (ps_if (pt_cmpR op_eq (pv 0) pe_int (nomark _)) (pss_one (by exact ps_rzB rfl T5 hr (L2N.takes_of rfl rfl rfl rfl) (by exact pa_cons (pv 1) pa_nil))) pss_nil) (
        pss_cons (ps_if (pt_cmpR op_eq (pv 0) pe_int (nomark _)) (pss_one (by exact ps_rzB rfl T6 hr (L2N.takes_of rfl rfl rfl rfl) (by exact pa_cons (pv 1) pa_nil))) pss_nil) (
        pss_cons (ps_if (pt_cmpR op_eq (pv 0) pe_int (nomark _)) (pss_one (by exact ps_rzB rfl T7 hr (L2N.takes_of rfl rfl rfl rfl) (by exact pa_cons (pv 1) pa_nil))) pss_nil) (
        pss_cons (ps_if (pt_cmpR op_eq (pv 0) pe_int (nomark _)) (pss_one (by exact ps_rzB rfl T8 hr (L2N.takes_of rfl rfl rfl rfl) (by exact pa_cons (pv 1) pa_nil))) pss_nil) (pss_one (by exact ps_rzB rfl T9 hr (L2N.takes_of rfl rfl rfl rfl) (by exact pa_cons (pv 1) pa_nil))))))))))), ?_⟩
    match i, hf with
    | 0, hf =>
      cases hf
      refine q_when (b := true) (et_is (et_test (ev_op (ev_var rfl) ev_c (rv_eq rfl))) (by decide)) (fun _ H1 e1 => ?_) (fun hb => nomatch hb)
      exact s_rzB (ev_var rfl) T0.oex T0.no (k.go (e1))
    | 1, hf =>
      cases hf
      refine q_when (b := false) (et_is (et_test (ev_op (ev_var rfl) ev_c (rv_eq rfl))) (by decide)) (fun hb => nomatch hb) fun _ H1 e1 => ?_
      refine q_when (b := true) (et_is (et_test (ev_op (ev_var rfl) ev_c (rv_eq rfl))) (by decide)) (fun _ H2 e2 => ?_) (fun hb => nomatch hb)
      exact s_rzB (ev_var rfl) T1.oex T1.no (k.go ((e1).trans e2))
    | 2, hf =>
      cases hf
      refine q_when (b := false) (et_is (et_test (ev_op (ev_var rfl) ev_c (rv_eq rfl))) (by decide)) (fun hb => nomatch hb) fun _ H1 e1 => ?_
      refine q_when (b := false) (et_is (et_test (ev_op (ev_var rfl) ev_c (rv_eq rfl))) (by decide)) (fun hb => nomatch hb) fun _ H2 e2 => ?_
      refine q_when (b := true) (et_is (et_test (ev_op (ev_var rfl) ev_c (rv_eq rfl))) (by decide)) (fun _ H3 e3 => ?_) (fun hb => nomatch hb)
      exact s_rzB (ev_var rfl) T2.oex T2.no (k.go (((e1).trans e2).trans e3))
    | 3, hf =>
      cases hf
      refine q_when (b := false) (et_is (et_test (ev_op (ev_var rfl) ev_c (rv_eq rfl))) (by decide)) (fun hb => nomatch hb) fun _ H1 e1 => ?_
      refine q_when (b := false) (et_is (et_test (ev_op (ev_var rfl) ev_c (rv_eq rfl))) (by decide)) (fun hb => nomatch hb) fun _ H2 e2 => ?_
      refine q_when (b := false) (et_is (et_test (ev_op (ev_var rfl) ev_c (rv_eq rfl))) (by decide)) (fun hb => nomatch hb) fun _ H3 e3 => ?_
      refine q_when (b := true) (et_is (et_test (ev_op (ev_var rfl) ev_c (rv_eq rfl))) (by decide)) (fun _ H4 e4 => ?_) (fun hb => nomatch hb)
      exact s_rzB (ev_var rfl) T3.oex T3.no (k.go ((((e1).trans e2).trans e3).trans e4))
    | 4, hf =>
      cases hf
      refine q_when (b := false) (et_is (et_test (ev_op (ev_var rfl) ev_c (rv_eq rfl))) (by decide)) (fun hb => nomatch hb) fun _ H1 e1 => ?_
      refine q_when (b := false) (et_is (et_test (ev_op (ev_var rfl) ev_c (rv_eq rfl))) (by decide)) (fun hb => nomatch hb) fun _ H2 e2 => ?_
      refine q_when (b := false) (et_is (et_test (ev_op (ev_var rfl) ev_c (rv_eq rfl))) (by decide)) (fun hb => nomatch hb) fun _ H3 e3 => ?_
      refine q_when (b := false) (et_is (et_test (ev_op (ev_var rfl) ev_c (rv_eq rfl))) (by decide)) (fun hb => nomatch hb) fun _ H4 e4 => ?_
      refine q_when (b := true) (et_is (et_test (ev_op (ev_var rfl) ev_c (rv_eq rfl))) (by decide)) (fun _ H5 e5 => ?_) (fun hb => nomatch hb)
      exact s_rzB (ev_var rfl) T4.oex T4.no (k.go (((((e1).trans e2).trans e3).trans e4).trans e5))
    | 5, hf =>
      cases hf
      refine q_when (b := false) (et_is (et_test (ev_op (ev_var rfl) ev_c (rv_eq rfl))) (by decide)) (fun hb => nomatch hb) fun _ H1 e1 => ?_
      refine q_when (b := false) (et_is (et_test (ev_op (ev_var rfl) ev_c (rv_eq rfl))) (by decide)) (fun hb => nomatch hb) fun _ H2 e2 => ?_
      refine q_when (b := false) (et_is (et_test (ev_op (ev_var rfl) ev_c (rv_eq rfl))) (by decide)) (fun hb => nomatch hb) fun _ H3 e3 => ?_
      refine q_when (b := false) (et_is (et_test (ev_op (ev_var rfl) ev_c (rv_eq rfl))) (by decide)) (fun hb => nomatch hb) fun _ H4 e4 => ?_
      refine q_when (b := false) (et_is (et_test (ev_op (ev_var rfl) ev_c (rv_eq rfl))) (by decide)) (fun hb => nomatch hb) fun _ H5 e5 => ?_
      refine q_when (b := true) (et_is (et_test (ev_op (ev_var rfl) ev_c (rv_eq rfl))) (by decide)) (fun _ H6 e6 => ?_) (fun hb => nomatch hb)
      exact s_rzB (ev_var rfl) T5.oex T5.no (k.go ((((((e1).trans e2).trans e3).trans e4).trans e5).trans e6))
    | 6, hf =>
      cases hf
      refine q_when (b := false) (et_is (et_test (ev_op (ev_var rfl) ev_c (rv_eq rfl))) (by decide)) (fun hb => nomatch hb) fun _ H1 e1 => ?_
      refine q_when (b := false) (et_is (et_test (ev_op (ev_var rfl) ev_c (rv_eq rfl))) (by decide)) (fun hb => nomatch hb) fun _ H2 e2 => ?_
      refine q_when (b := false) (et_is (et_test (ev_op (ev_var rfl) ev_c (rv_eq rfl))) (by decide)) (fun hb => nomatch hb) fun _ H3 e3 => ?_
      refine q_when (b := false) (et_is (et_test (ev_op (ev_var rfl) ev_c (rv_eq rfl))) (by decide)) (fun hb => nomatch hb) fun _ H4 e4 => ?_
      refine q_when (b := false) (et_is (et_test (ev_op (ev_var rfl) ev_c (rv_eq rfl))) (by decide)) (fun hb => nomatch hb) fun _ H5 e5 => ?_
      refine q_when (b := false) (et_is (et_test (ev_op (ev_var rfl) ev_c (rv_eq rfl))) (by decide)) (fun hb => nomatch hb) fun _ H6 e6 => ?_
      refine q_when (b := true) (et_is (et_test (ev_op (ev_var rfl) ev_c (rv_eq rfl))) (by decide)) (fun _ H7 e7 => ?_) (fun hb => nomatch hb)
      exact s_rzB (ev_var rfl) T6.oex T6.no (k.go (((((((e1).trans e2).trans e3).trans e4).trans e5).trans e6).trans e7))
    | 7, hf =>
      cases hf
      refine q_when (b := false) (et_is (et_test (ev_op (ev_var rfl) ev_c (rv_eq rfl))) (by decide)) (fun hb => nomatch hb) fun _ H1 e1 => ?_
      refine q_when (b := false) (et_is (et_test (ev_op (ev_var rfl) ev_c (rv_eq rfl))) (by decide)) (fun hb => nomatch hb) fun _ H2 e2 => ?_
      refine q_when (b := false) (et_is (et_test (ev_op (ev_var rfl) ev_c (rv_eq rfl))) (by decide)) (fun hb => nomatch hb) fun _ H3 e3 => ?_
      refine q_when (b := false) (et_is (et_test (ev_op (ev_var rfl) ev_c (rv_eq rfl))) (by decide)) (fun hb => nomatch hb) fun _ H4 e4 => ?_
      refine q_when (b := false) (et_is (et_test (ev_op (ev_var rfl) ev_c (rv_eq rfl))) (by decide)) (fun hb => nomatch hb) fun _ H5 e5 => ?_
      refine q_when (b := false) (et_is (et_test (ev_op (ev_var rfl) ev_c (rv_eq rfl))) (by decide)) (fun hb => nomatch hb) fun _ H6 e6 => ?_
      refine q_when (b := false) (et_is (et_test (ev_op (ev_var rfl) ev_c (rv_eq rfl))) (by decide)) (fun hb => nomatch hb) fun _ H7 e7 => ?_
      refine q_when (b := true) (et_is (et_test (ev_op (ev_var rfl) ev_c (rv_eq rfl))) (by decide)) (fun _ H8 e8 => ?_) (fun hb => nomatch hb)
      exact s_rzB (ev_var rfl) T7.oex T7.no (k.go ((((((((e1).trans e2).trans e3).trans e4).trans e5).trans e6).trans e7).trans e8))
    | 8, hf =>
      cases hf
      refine q_when (b := false) (et_is (et_test (ev_op (ev_var rfl) ev_c (rv_eq rfl))) (by decide)) (fun hb => nomatch hb) fun _ H1 e1 => ?_
      refine q_when (b := false) (et_is (et_test (ev_op (ev_var rfl) ev_c (rv_eq rfl))) (by decide)) (fun hb => nomatch hb) fun _ H2 e2 => ?_
      refine q_when (b := false) (et_is (et_test (ev_op (ev_var rfl) ev_c (rv_eq rfl))) (by decide)) (fun hb => nomatch hb) fun _ H3 e3 => ?_
      refine q_when (b := false) (et_is (et_test (ev_op (ev_var rfl) ev_c (rv_eq rfl))) (by decide)) (fun hb => nomatch hb) fun _ H4 e4 => ?_
      refine q_when (b := false) (et_is (et_test (ev_op (ev_var rfl) ev_c (rv_eq rfl))) (by decide)) (fun hb => nomatch hb) fun _ H5 e5 => ?_
      refine q_when (b := false) (et_is (et_test (ev_op (ev_var rfl) ev_c (rv_eq rfl))) (by decide)) (fun hb => nomatch hb) fun _ H6 e6 => ?_
      refine q_when (b := false) (et_is (et_test (ev_op (ev_var rfl) ev_c (rv_eq rfl))) (by decide)) (fun hb => nomatch hb) fun _ H7 e7 => ?_
      refine q_when (b := false) (et_is (et_test (ev_op (ev_var rfl) ev_c (rv_eq rfl))) (by decide)) (fun hb => nomatch hb) fun _ H8 e8 => ?_
      refine q_when (b := true) (et_is (et_test (ev_op (ev_var rfl) ev_c (rv_eq rfl))) (by decide)) (fun _ H9 e9 => ?_) (fun hb => nomatch hb)
      exact s_rzB (ev_var rfl) T8.oex T8.no (k.go (((((((((e1).trans e2).trans e3).trans e4).trans e5).trans e6).trans e7).trans e8).trans e9))
    | 9, hf =>
      cases hf
      refine q_when (b := false) (et_is (et_test (ev_op (ev_var rfl) ev_c (rv_eq rfl))) (by decide)) (fun hb => nomatch hb) fun _ H1 e1 => ?_
      refine q_when (b := false) (et_is (et_test (ev_op (ev_var rfl) ev_c (rv_eq rfl))) (by decide)) (fun hb => nomatch hb) fun _ H2 e2 => ?_
      refine q_when (b := false) (et_is (et_test (ev_op (ev_var rfl) ev_c (rv_eq rfl))) (by decide)) (fun hb => nomatch hb) fun _ H3 e3 => ?_
      refine q_when (b := false) (et_is (et_test (ev_op (ev_var rfl) ev_c (rv_eq rfl))) (by decide)) (fun hb => nomatch hb) fun _ H4 e4 => ?_
      refine q_when (b := false) (et_is (et_test (ev_op (ev_var rfl) ev_c (rv_eq rfl))) (by decide)) (fun hb => nomatch hb) fun _ H5 e5 => ?_
      refine q_when (b := false) (et_is (et_test (ev_op (ev_var rfl) ev_c (rv_eq rfl))) (by decide)) (fun hb => nomatch hb) fun _ H6 e6 => ?_
      refine q_when (b := false) (et_is (et_test (ev_op (ev_var rfl) ev_c (rv_eq rfl))) (by decide)) (fun hb => nomatch hb) fun _ H7 e7 => ?_
      refine q_when (b := false) (et_is (et_test (ev_op (ev_var rfl) ev_c (rv_eq rfl))) (by decide)) (fun hb => nomatch hb) fun _ H8 e8 => ?_
      refine q_when (b := false) (et_is (et_test (ev_op (ev_var rfl) ev_c (rv_eq rfl))) (by decide)) (fun hb => nomatch hb) fun _ H9 e9 => ?_
      exact s_rzB (ev_var rfl) T9.oex T9.no (k.go (((((((((e1).trans e2).trans e3).trans e4).trans e5).trans e6).trans e7).trans e8).trans e9))
    | n + 10, hf => exact nomatch (show none = some f from hf)
def fieldO : List Str := ["turn", "arc", "name"]
/-- NothingDone is in the air -/
def ErrN (C : Addr) (H : Hp) (E : XK) : Prop := ∀ H', Ex H H' → E (.ref C) none H'
def spRaiseO (c : Nat → Addr) : Sp := fun vs H Q E => ∃ (i : Nat) (v : V), vs = [.int (i : Int), v] ∧ i ≤ 3 ∧ (∀ f, fieldO[i]? = some f → ErrV (c (10 + i)) f v H E) ∧ (i = 3 → ErrN (c 13) H E)
theorem scRo : FnScope ["_law_which", "_law_value"] ["_law_which", "_law_value"] (defScope sRaiseO) := ⟨rfl, rfl, rfl, by decide +kernel, rfl, by decide +kernel, by decide +kernel⟩
theorem ok_raiseO {g f10 f11 f12 : Addr} {gd d10 d11 d12 : FuncData} {c : Nat → Addr} {bmB : List Value} {B newId initId : String} (F : Fun K "_law_raise_other" "_law_raise_other" sRaiseO g gd)
    (T10 : ErB P w K mg base "NoTurn" "turn" (c 10) f10 d10)
    (T11 : ErB P w K mg base "NoArc" "arc" (c 11) f11 d11)
    (T12 : ErB P w K mg base "NoName" "name" (c 12) f12 d12)
    (BR : ExcBaseFacts B newId initId bmB) (hx : PySem.W.excIn K (c 13) bmB newId = true) (hN : mg "NothingDone" = some (.ref (c 13))) (kN : PySem.W.keepIn K (.ref (c 13)) = true) (sN : PySem.W.subIn K (.ref (c 13)) (.type "BaseException") = some true) (tN : PySem.W.typeIn K (.ref (c 13)) = some (.type "type")) :
    FnOk P w K mg base (L2N.CX P w) 3 g gd ["_law_which", "_law_value"] (spRaiseO c) := by
  refine okN F scRo (fun vs H Q E h => ?_) (fun cdv A outer s H vs Q E hr h => ?_)
  · obtain ⟨i, v, rfl, _⟩ := h
    rfl
  · obtain ⟨i, v, rfl, hi, k, kn⟩ := h
    refine ⟨_, pss_cons (ps_if (pt_cmpR op_eq (pv 0) pe_int (nomark _)) (pss_one (by exact ps_rzB rfl T10 hr (L2N.takes_of rfl rfl rfl rfl) (by exact pa_cons (pv 1) pa_nil))) pss_nil) (
        pss_cons (ps_if (pt_cmpR op_eq (pv 0) pe_int (nomark _)) (pss_one (by exact ps_rzB rfl T11 hr (L2N.takes_of rfl rfl rfl rfl) (by exact pa_cons (pv 1) pa_nil))) pss_nil) (
        pss_cons (ps_if (pt_cmpR op_eq (pv 0) pe_int (nomark _)) (pss_one (by exact ps_rzB rfl T12 hr (L2N.takes_of rfl rfl rfl rfl) (by exact pa_cons (pv 1) pa_nil))) pss_nil) (pss_one (by exact L2N.ps_raise rfl (L2N.takes_of rfl rfl rfl rfl) (pmk_none BR hx hN kN (raises_own sN tN) rfl))))), ?_⟩
    match i, hi, k, kn with
    | 0, _, k, kn =>
      refine q_when (b := true) (et_is (et_test (ev_op (ev_var rfl) ev_c (rv_eq rfl))) (by decide)) (fun _ H1 e1 => ?_) (fun hb => nomatch hb)
      exact s_rzB (ev_var rfl) T10.oex T10.no ((k _ rfl).go (e1))
    | 1, _, k, kn =>
      refine q_when (b := false) (et_is (et_test (ev_op (ev_var rfl) ev_c (rv_eq rfl))) (by decide)) (fun hb => nomatch hb) fun _ H1 e1 => ?_
      refine q_when (b := true) (et_is (et_test (ev_op (ev_var rfl) ev_c (rv_eq rfl))) (by decide)) (fun _ H2 e2 => ?_) (fun hb => nomatch hb)
      exact s_rzB (ev_var rfl) T11.oex T11.no ((k _ rfl).go ((e1).trans e2))
    | 2, _, k, kn =>
      refine q_when (b := false) (et_is (et_test (ev_op (ev_var rfl) ev_c (rv_eq rfl))) (by decide)) (fun hb => nomatch hb) fun _ H1 e1 => ?_
      refine q_when (b := false) (et_is (et_test (ev_op (ev_var rfl) ev_c (rv_eq rfl))) (by decide)) (fun hb => nomatch hb) fun _ H2 e2 => ?_
      refine q_when (b := true) (et_is (et_test (ev_op (ev_var rfl) ev_c (rv_eq rfl))) (by decide)) (fun _ H3 e3 => ?_) (fun hb => nomatch hb)
      exact s_rzB (ev_var rfl) T12.oex T12.no ((k _ rfl).go (((e1).trans e2).trans e3))
    | 3, _, k, kn =>
      refine q_when (b := false) (et_is (et_test (ev_op (ev_var rfl) ev_c (rv_eq rfl))) (by decide)) (fun hb => nomatch hb) fun _ H1 e1 => ?_
      refine q_when (b := false) (et_is (et_test (ev_op (ev_var rfl) ev_c (rv_eq rfl))) (by decide)) (fun hb => nomatch hb) fun _ H2 e2 => ?_
      refine q_when (b := false) (et_is (et_test (ev_op (ev_var rfl) ev_c (rv_eq rfl))) (by decide)) (fun hb => nomatch hb) fun _ H3 e3 => ?_
      exact kn rfl _ (((e1).trans e2).trans e3)
    | n + 4, hi, _, _ => exact absurd hi (by omega)
end
end Lw

namespace L3
open PySem PySem.Spec PyProof.Rows L2 Evl
theorem takesN0 {X : Cx} : L2N.Takes X (fun _ _ _ _ => False) := fun _ _ x => by
  obtain ⟨_, _, _, _, _, _, _, _, _, _, _, _, _, _, _, _, h⟩ := x
  exact h.elim
end L3
namespace Lw
open PySem PySem.Spec PyProof.Rows L2 Evl L3
open L2H (HotC Hot1 RoomH PinOk cxH)
abbrev sTold : Stmt := top 24
abbrev sToldO : Stmt := top 25
section
variable {P : Program} {w : World} {K : PySem.W.Frag} {mg : Str → Option Value} {base : Heap}
theorem sp_sorts {c : Nat → Addr} {D a : Addr} {d : Option Addr} {b t : Nat → Bool} {H : Hp} (EC : ECls K c D b t) (hd : DOk d H) : SpL (spSorts K c a (.ref D) d) [.ref a] H (given 15 b fun i => .int (i : Int)) := fun H1 e Q q E =>
  ⟨D, b, t, rfl, rfl, EC, hd.ex e, fun p H2 hp e2 h2 => q p H2 hp e2 h2⟩
theorem sp_bases {c : Nat → Addr} {D a : Addr} {d : Option Addr} {b t : Nat → Bool} {H : Hp} (EC : ECls K c D b t) (hd : DOk d H) : SpL (spBases K c a (.ref D) d) [.ref a] H (basesV t) := fun H1 e Q q E =>
  ⟨D, b, t, rfl, rfl, EC, hd.ex e, fun p H2 hp e2 h2 => q p H2 hp e2 h2⟩
theorem sp_field {c : Nat → Addr} {D a dd : Addr} {b t : Nat → Bool} {H : Hp} {i : Nat} {f : Str} {v : V} (EC : ECls K c D b t) (hd : H dd = some (.xd [(f, v)])) (hf : fieldOf[i]? = some f) : SpV (spField K c a (.ref D) (some dd)) [.ref a, .int (i : Int)] H v := fun H1 e Q q E =>
  ⟨D, dd, b, t, f, v, i, rfl, rfl, rfl, EC, e _ _ hd, hf, fun H2 e2 => q H2 e2⟩
/-- the three things told -/
def RetT3 (xs ys : List V) (v : V) (H : Hp) (Q : VK) : Prop := ∀ p q r H2, Ex H H2 → H2 p = some (.lst [.ref q, .ref r, v]) → H2 q = some (.lst xs) → H2 r = some (.lst ys) → Q (.ref p) H2
theorem told3 {t1 t2 t3 : TE} {σ : L2.St} {H : Hp} {D : Ends} {xs ys : List V} {v : V} (h1 : EvL t1 σ H xs) (h2 : EvL t2 σ H ys) (h3 : Ev t3 σ H v) (k : RetT3 xs ys v H D.rt) : tRet (tLst (tCons t1 (tCons t2 (tCons t3 tNil)))) D σ H :=
  h1 H (Ex.refl H) _ fun q H1 _ e1 hq => h2 H1 e1 _ fun r H2 _ e2 hr => h3 H2 (e1.trans e2) _ fun H3 e3 => ⟨by show 3 ≤ sizeLine; decide, fun p hp =>
    k p q r _ (((e1.trans e2).trans e3).trans (Ex.new hp)) upd_same (((e2.trans e3).trans (Ex.new hp)) _ _ hq) ((e3.trans (Ex.new hp)) _ _ hr)⟩
def sB (i : Nat) : Nat → Bool := fun j => j == i || j == 14
def tV : Nat → Bool := fun j => j == 0
theorem sorts_V {i : Nat} (h : i < 10) : given 15 (sB i) (fun j => V.int (j : Int)) = [.int (i : Int), .int 14] := by
  have z : ∀ i, i < 10 → (List.range 15).filter (sB i) = [i, 14] := by decide
  unfold given
  rw [z i h] <;> rfl
theorem bases_V : basesV tV = [.int 0] := rfl
def spTold (K : PySem.W.Frag) : Sp := fun vs H Q _ => ∃ (i : Nat) (v : V), vs = [.int (i : Int), v] ∧ i < 10 ∧ RetT3 [.int (i : Int), .int 14] [.int 0] v H Q
theorem scTo : FnScope ["_law_which", "_law_value", "_law_e"] ["_law_which", "_law_value"] (defScope sTold) := ⟨rfl, rfl, rfl, by decide +kernel, rfl, by decide +kernel, by decide +kernel⟩
theorem ok_told {f fR fS fB fF : Addr} {fd fdR fdS fdB fdF : FuncData} {c : Nat → Addr} (F : Fun K "_law_told" "_law_told" sTold f fd) (EC : ∀ i, i < 10 → ECls K c (c i) (sB i) tV) (hL : mg "LatewordsError" = some (.ref (c 14)))
    (hX : ∀ i, i < 10 → PySem.W.exmOne K (.ref (c i)) (.ref (c 14)) = some true)
    (FR : Fun K "_law_raise" "_law_raise" sRaise fR fdR) (bR : Binds K fdR ["_law_which", "_law_value"] []) (gR : mg "_law_raise" = some (.ref fR)) (GR : FnOk P w K mg base (L2N.CX P w) 3 fR fdR ["_law_which", "_law_value"] (spRaise c))
    (FS : Fun K "_law_sorts" "_law_sorts" sSorts fS fdS) (bS : Binds K fdS ["_law_e"] []) (gS : mg "_law_sorts" = some (.ref fS)) (GS : FnE P w K mg base 1 fS fdS ["_law_e"] (spSorts K c))
    (FB : Fun K "_law_bases" "_law_bases" sBases fB fdB) (bB : Binds K fdB ["_law_e"] []) (gB : mg "_law_bases" = some (.ref fB)) (GB : FnE P w K mg base 1 fB fdB ["_law_e"] (spBases K c))
    (FF : Fun K "_law_field" "_law_field" sField fF fdF) (bF : Binds K fdF ["_law_e", "_law_which"] []) (gF : mg "_law_field" = some (.ref fF)) (GF : FnE P w K mg base 1 fF fdF ["_law_e", "_law_which"] (spField K c)) :
    FnOk P w K mg base CX0 4 f fd ["_law_which", "_law_value"] (spTold K) := by
  refine F.ok scTo (fun vs H Q E h => ?_) (fun cdv A outer s H vs Q E hr h => ?_)
  · obtain ⟨i, v, rfl, _⟩ := h
    rfl
  · obtain ⟨i, v, rfl, hi, k⟩ := h
    have hr1 : Room 1 _ := hr.mono (by decide)
    refine ⟨_, pss_cons (ps_tryN (tb := fun W => tDrop (tCallS (spRaise c) (WE W) (tCons (tVar 0) (tCons (tVar 1) tNil)))) (Wout := fun _ _ _ _ => False)
        (l := [([.ref (c 14)], some 2, fun a cls d => tRet (tLst (tCons (tCall (spSorts K c a cls d) [] E0 (tCons (tVar 2) tNil)) (tCons (tCall (spBases K c a cls d) [] E0 (tCons (tVar 2) tNil)) (tCons (tCall (spField K c a cls d) [] E0 (tCons (tVar 2) (tCons (tVar 0) tNil))) tNil)))))]) rfl rfl takesN0
        (fun W pn xe tk _ => pss_one (ps_expr (by exact (pe_callS GR hr rfl gR FR.kp bR (fun σ => L2N.passAt tk σ) (by exact (pa_cons (pv 0) (pa_cons (pv 1) pa_nil)))))))
        (.named scTo.nd rfl rfl (.one ⟨rfl, by decide, Or.inl hL⟩) (fun a oe cls d pn hz hf hh => by
          have rm : ∀ {B : Around}, B.depth = _ → B.units = _ → RoomH 1 B := fun {B} e1 e2 => ⟨by rw [e1]; exact hr1.dp, by rw [e2]; exact hr1.un⟩
          have hot : ∀ {B : Around}, B.handled = some (.ref a) → Hot1 B (a, oe) := fun {B} e => by
            obtain ⟨vs, hv⟩ := hf
            exact ⟨e, vs, hv, hz.2.2 vs hv⟩
          exact pss_one (ps_ret (by exact (pe_lst (by exact (pa_cons (by exact (pe_callE (p := (a, oe)) GS hz hf (rm rfl rfl) (hot rfl) List.mem_cons_self rfl gS FS.kp bS (pa_cons (pv 2) pa_nil)))
            (pa_cons (by exact (pe_callE (p := (a, oe)) GB hz hf (rm rfl rfl) (hot rfl) List.mem_cons_self rfl gB FB.kp bB (pa_cons (pv 2) pa_nil)))
            (pa_cons (by exact (pe_callE (p := (a, oe)) GF hz hf (rm rfl rfl) (hot rfl) List.mem_cons_self rfl gF FF.kp bF (pa_cons (pv 2) (pa_cons (pv 0) pa_nil)))) pa_nil)))))))) .nil))
      (pss_one (ps_ret pe_non)), ?_⟩
    have hf : ∃ f, fieldOf[i]? = some f := by
      have z : i < fieldOf.length := hi
      exact ⟨fieldOf[i], by simp [z]⟩
    obtain ⟨f, hf⟩ := hf
    refine ⟨_, rfl, _, rfl, i, v, f, rfl, hf, fun dd H2 e2 hdd h2 => ?_⟩
    refine ⟨true, hX i hi, fun _ a ha => ?_, fun z => nomatch z⟩
    have dk : DOk (some dd) H2 := .inr ⟨dd, _, rfl, h2⟩
    have z1 := sp_sorts (a := a) (EC i hi) dk
    rw [sorts_V hi] at z1
    have z2 := sp_bases (a := a) (EC i hi) dk
    rw [bases_V] at z2
    refine told3 (el_call (ea_cons (ev_var rfl) ea_nil) z1) (el_call (ea_cons (ev_var rfl) ea_nil) z2) (ev_call (ea_cons (ev_var rfl) (ea_cons (ev_var rfl) ea_nil)) (sp_field (a := a) (EC i hi) h2 hf)) fun p q r H3 e3 h3 h4 h5 => ?_
    exact k p q r H3 (e2.trans e3) h3 h4 h5
/-! ### the other ones -/
def sO (i : Nat) : Nat → Bool := fun j => j == 10 + i
def tO (i : Nat) : Nat → Bool := fun j => match i with
  | 0 => j == 1 || j == 2
  | 1 => j == 1
  | 2 => j == 1 || j == 3
  | _ => j == 4
def basO (i : Nat) : List Int := match i with
  | 0 => [1, 2]
  | 1 => [1]
  | 2 => [1, 3]
  | _ => [4]
theorem sorts_O {i : Nat} (h : i < 4) : given 15 (sO i) (fun j => V.int (j : Int)) = [.int (10 + (i : Int))] := by
  have z : ∀ i, i < 4 → (List.range 15).filter (sO i) = [10 + i] := by decide
  unfold given
  rw [z i h]
  show [V.int ((10 + i : Nat) : Int)] = _
  rw [Int.natCast_add] <;> rfl
theorem bases_O {i : Nat} (h : i < 4) : basesV (tO i) = (basO i).map V.int := by
  match i, h with
  | 0, _ => rfl
  | 1, _ => rfl
  | 2, _ => rfl
  | 3, _ => rfl
def spToldO (K : PySem.W.Frag) : Sp := fun vs H Q _ => ∃ (i : Nat) (v : V), vs = [.int (i : Int), v] ∧ i < 4 ∧ RetT3 [.int (10 + (i : Int))] ((basO i).map V.int) v H Q
theorem scTp : FnScope ["_law_which", "_law_value", "_law_e"] ["_law_which", "_law_value"] (defScope sToldO) := ⟨rfl, rfl, rfl, by decide +kernel, rfl, by decide +kernel, by decide +kernel⟩
theorem ok_toldO {f fR fS fB : Addr} {fd fdR fdS fdB : FuncData} {c : Nat → Addr} (F : Fun K "_law_told_other" "_law_told_other" sToldO f fd) (EC : ∀ i, i < 4 → ECls K c (c (10 + i)) (sO i) (tO i))
    (h10 : mg "NoTurn" = some (.ref (c 10))) (h11 : mg "NoArc" = some (.ref (c 11))) (h12 : mg "NoName" = some (.ref (c 12))) (h13 : mg "NothingDone" = some (.ref (c 13)))
    (hX : ∀ i j, i < 4 → j < 4 → PySem.W.exmOne K (.ref (c (10 + i))) (.ref (c (10 + j))) = some (i == j))
    (n10 : PySem.W.findIn K (.ref (c 10)) "turn" = some none) (n11 : PySem.W.findIn K (.ref (c 11)) "arc" = some none) (n12 : PySem.W.findIn K (.ref (c 12)) "name" = some none)
    (FR : Fun K "_law_raise_other" "_law_raise_other" sRaiseO fR fdR) (bR : Binds K fdR ["_law_which", "_law_value"] []) (gR : mg "_law_raise_other" = some (.ref fR)) (GR : FnOk P w K mg base (L2N.CX P w) 3 fR fdR ["_law_which", "_law_value"] (spRaiseO c))
    (FS : Fun K "_law_sorts" "_law_sorts" sSorts fS fdS) (bS : Binds K fdS ["_law_e"] []) (gS : mg "_law_sorts" = some (.ref fS)) (GS : FnE P w K mg base 1 fS fdS ["_law_e"] (spSorts K c))
    (FB : Fun K "_law_bases" "_law_bases" sBases fB fdB) (bB : Binds K fdB ["_law_e"] []) (gB : mg "_law_bases" = some (.ref fB)) (GB : FnE P w K mg base 1 fB fdB ["_law_e"] (spBases K c)) :
    FnOk P w K mg base CX0 4 f fd ["_law_which", "_law_value"] (spToldO K) := by
  refine F.ok scTp (fun vs H Q E h => ?_) (fun cdv A outer s H vs Q E hr h => ?_)
  · obtain ⟨i, v, rfl, _⟩ := h
    rfl
  · obtain ⟨i, v, rfl, hi, k⟩ := h
    have hr1 : Room 1 _ := hr.mono (by decide)
    have rm : ∀ {B : Around}, B.depth = _ → B.units = _ → RoomH 1 B := fun {B} e1 e2 => ⟨by rw [e1]; exact hr1.dp, by rw [e2]; exact hr1.un⟩
    have hot : ∀ {B : Around} {a : Addr} {oe : Obj} {cls : Value} {d : Option Addr}, L2N.Zn cls d oe → (∃ vs, oe.data = .fields vs) → B.handled = some (.ref a) → Hot1 B (a, oe) := fun {B a oe cls d} hz hf e => by
      obtain ⟨vs, hv⟩ := hf
      exact ⟨e, vs, hv, hz.2.2 vs hv⟩
    refine ⟨_, pss_cons (ps_tryN (tb := fun W => tDrop (tCallS (spRaiseO c) (WE W) (tCons (tVar 0) (tCons (tVar 1) tNil)))) (Wout := fun _ _ _ _ => False)
        (l := [([.ref (c 10)], some 2, fun a cls d => tRet (tLst (tCons (tCall (spSorts K c a cls d) [] E0 (tCons (tVar 2) tNil)) (tCons (tCall (spBases K c a cls d) [] E0 (tCons (tVar 2) tNil)) (tCons (tXf a cls d (c 10) "turn" (tVar 2)) tNil))))),
          ([.ref (c 12)], some 2, fun a cls d => tRet (tLst (tCons (tCall (spSorts K c a cls d) [] E0 (tCons (tVar 2) tNil)) (tCons (tCall (spBases K c a cls d) [] E0 (tCons (tVar 2) tNil)) (tCons (tXf a cls d (c 12) "name" (tVar 2)) tNil))))),
          ([.ref (c 11)], some 2, fun a cls d => tRet (tLst (tCons (tCall (spSorts K c a cls d) [] E0 (tCons (tVar 2) tNil)) (tCons (tCall (spBases K c a cls d) [] E0 (tCons (tVar 2) tNil)) (tCons (tXf a cls d (c 11) "arc" (tVar 2)) tNil))))),
          ([.ref (c 13)], some 2, fun a cls d => tRet (tLst (tCons (tCall (spSorts K c a cls d) [] E0 (tCons (tVar 2) tNil)) (tCons (tCall (spBases K c a cls d) [] E0 (tCons (tVar 2) tNil)) (tCons (tVar 1) tNil)))))]) rfl rfl takesN0
        (fun W pn xe tk _ => pss_one (ps_expr (by exact (pe_callS GR hr rfl gR FR.kp bR (fun σ => L2N.passAt tk σ) (by exact (pa_cons (pv 0) (pa_cons (pv 1) pa_nil)))))))
        (.named scTp.nd rfl rfl (.one ⟨rfl, by decide, Or.inl h10⟩) (fun a oe cls d pn hz hf hh => by
          exact pss_one (ps_ret (by exact (pe_lst (by exact (pa_cons (by exact (pe_callE (p := (a, oe)) GS hz hf (rm rfl rfl) (hot hz hf rfl) List.mem_cons_self rfl gS FS.kp bS (pa_cons (pv 2) pa_nil)))
            (pa_cons (by exact (pe_callE (p := (a, oe)) GB hz hf (rm rfl rfl) (hot hz hf rfl) List.mem_cons_self rfl gB FB.kp bB (pa_cons (pv 2) pa_nil)))
            (pa_cons (by exact (pe_xfP (p := (a, oe)) List.mem_cons_self (EC 0 (by decide)).xf n10 hz.zc hf (pv 2))) pa_nil))))))))
        (.named scTp.nd rfl rfl (.one ⟨rfl, by decide, Or.inl h12⟩) (fun a oe cls d pn hz hf hh => by
          exact pss_one (ps_ret (by exact (pe_lst (by exact (pa_cons (by exact (pe_callE (p := (a, oe)) GS hz hf (rm rfl rfl) (hot hz hf rfl) List.mem_cons_self rfl gS FS.kp bS (pa_cons (pv 2) pa_nil)))
            (pa_cons (by exact (pe_callE (p := (a, oe)) GB hz hf (rm rfl rfl) (hot hz hf rfl) List.mem_cons_self rfl gB FB.kp bB (pa_cons (pv 2) pa_nil)))
            (pa_cons (by exact (pe_xfP (p := (a, oe)) List.mem_cons_self (EC 2 (by decide)).xf n12 hz.zc hf (pv 2))) pa_nil))))))))
        (.named scTp.nd rfl rfl (.one ⟨rfl, by decide, Or.inl h11⟩) (fun a oe cls d pn hz hf hh => by
          exact pss_one (ps_ret (by exact (pe_lst (by exact (pa_cons (by exact (pe_callE (p := (a, oe)) GS hz hf (rm rfl rfl) (hot hz hf rfl) List.mem_cons_self rfl gS FS.kp bS (pa_cons (pv 2) pa_nil)))
            (pa_cons (by exact (pe_callE (p := (a, oe)) GB hz hf (rm rfl rfl) (hot hz hf rfl) List.mem_cons_self rfl gB FB.kp bB (pa_cons (pv 2) pa_nil)))
            (pa_cons (by exact (pe_xfP (p := (a, oe)) List.mem_cons_self (EC 1 (by decide)).xf n11 hz.zc hf (pv 2))) pa_nil))))))))
        (.named scTp.nd rfl rfl (.one ⟨rfl, by decide, Or.inl h13⟩) (fun a oe cls d pn hz hf hh => by
          exact pss_one (ps_ret (by exact (pe_lst (by exact (pa_cons (by exact (pe_callE (p := (a, oe)) GS hz hf (rm rfl rfl) (hot hz hf rfl) List.mem_cons_self rfl gS FS.kp bS (pa_cons (pv 2) pa_nil)))
            (pa_cons (by exact (pe_callE (p := (a, oe)) GB hz hf (rm rfl rfl) (hot hz hf rfl) List.mem_cons_self rfl gB FB.kp bB (pa_cons (pv 2) pa_nil)))
            (pa_cons (pv 1) pa_nil)))))))) .nil)))))
      (pss_one (ps_ret pe_non)), ?_⟩
    refine ⟨_, rfl, _, rfl, i, v, rfl, by omega, fun f hf => ?_, fun h3 => ?_⟩
    · intro dd H2 e2 hdd h2
      have dk : DOk (some dd) H2 := .inr ⟨dd, _, rfl, h2⟩
      have fin : ∀ {a : Addr} {σ : L2.St} {D : Ends} {t3 : TE}, σ[2]? = some (some (.ref a)) → D.rt = Q → Ev t3 σ H2 v → tRet (tLst (tCons (tCall (spSorts K c a (.ref (c (10 + i))) (some dd)) [] E0 (tCons (tVar 2) tNil)) (tCons (tCall (spBases K c a (.ref (c (10 + i))) (some dd)) [] E0 (tCons (tVar 2) tNil)) (tCons t3 tNil)))) D σ H2 := by
        intro a σ D t3 h1 hD h3
        have z1 := sp_sorts (a := a) (EC i hi) dk
        rw [sorts_O hi] at z1
        have z2 := sp_bases (a := a) (EC i hi) dk
        rw [bases_O hi] at z2
        refine told3 (el_call (ea_cons (ev_var h1) ea_nil) z1) (el_call (ea_cons (ev_var h1) ea_nil) z2) h3 fun p q r H3 e3 g3 g4 g5 => ?_
        rw [hD]
        exact k p q r H3 (e2.trans e3) g3 g4 g5
      have hc : i = 0 ∨ i = 1 ∨ i = 2 ∨ i = 3 := by omega
      rcases hc with rfl | rfl | rfl | rfl
      · cases hf
        exact ⟨true, hX 0 0 (by decide) (by decide), (fun _ a ha => by exact fin (a := a) (σ := [some (.int _), some v, some (.ref a)]) (t3 := tXf a (.ref (c 10)) (some dd) (c 10) "turn" (tVar 2)) rfl rfl (ev_xf (ev_var rfl) h2 (by simp [List.lookup]))), fun z => nomatch z⟩
      · cases hf
        exact ⟨false, hX 1 0 (by decide) (by decide), (fun z => nomatch z), fun _ => ⟨false, hX 1 2 (by decide) (by decide), (fun z => nomatch z), fun _ => ⟨true, hX 1 1 (by decide) (by decide), (fun _ a ha => by exact fin (a := a) (σ := [some (.int _), some v, some (.ref a)]) (t3 := tXf a (.ref (c 11)) (some dd) (c 11) "arc" (tVar 2)) rfl rfl (ev_xf (ev_var rfl) h2 (by simp [List.lookup]))), fun z => nomatch z⟩⟩⟩
      · cases hf
        exact ⟨false, hX 2 0 (by decide) (by decide), (fun z => nomatch z), fun _ => ⟨true, hX 2 2 (by decide) (by decide), (fun _ a ha => by exact fin (a := a) (σ := [some (.int _), some v, some (.ref a)]) (t3 := tXf a (.ref (c 12)) (some dd) (c 12) "name" (tVar 2)) rfl rfl (ev_xf (ev_var rfl) h2 (by simp [List.lookup]))), fun z => nomatch z⟩⟩
      · exact nomatch (show none = some f from hf)
    · subst h3
      intro H2 e2
      have dk : DOk none H2 := .inl rfl
      refine ⟨false, hX 3 0 (by decide) (by decide), (fun z => nomatch z), fun _ => ⟨false, hX 3 2 (by decide) (by decide), (fun z => nomatch z), fun _ => ⟨false, hX 3 1 (by decide) (by decide), (fun z => nomatch z), fun _ => ⟨true, hX 3 3 (by decide) (by decide), fun _ a ha => ?_, fun z => nomatch z⟩⟩⟩⟩
      have z1 := sp_sorts (a := a) (EC 3 hi) dk
      rw [sorts_O hi] at z1
      have z2 := sp_bases (a := a) (EC 3 hi) dk
      rw [bases_O hi] at z2
      refine told3 (el_call (ea_cons (ev_var rfl) ea_nil) z1) (el_call (ea_cons (ev_var rfl) ea_nil) z2) (ev_var rfl) fun p q r H3 e3 g3 g4 g5 => ?_
      exact k p q r H3 (e2.trans e3) g3 g4 g5
end
end Lw

namespace L3
open PySem PySem.Spec PyProof.Rows L2 Evl
section
variable {K : PySem.W.Frag} {σ : L2.St} {H : Hp} {ta tb : TE} {x : V} {d : PyData}
/-- != of the same small data -/
theorem ev_neDv (h1 : Ev ta σ H x) (hd : Dp K H x d) (h2 : DvE K (fun _ => none) tb σ H d) (n : Nice d) : Ev (tOp (rNeD K) ta tb) σ H (.bl false) := fun H1 e Q q =>
  h1 H1 e _ fun H2 e2 => h2 H2 (e.trans e2) _ fun z H3 e3 hz => rv_neD (dp_ex ((e.trans e2).trans e3) hd) (dp_ex new_sub hz) n.shaped n.shaped H3 (Ex.refl H3) Q fun H4 e4 => by
    rw [n.refl]
    exact q H4 ((e2.trans e3).trans e4)
theorem dp_new {H : Hp} {x : V} {d : PyData} (h : Dp K H x d) : Dp K (newIn H fun _ => none) x d := dp_ex (fun a u z => by rw [new_at rfl]; exact z) h
/-- for i, x in enumerate([..]): a new list, told in relation to the heap -/
theorem s_forEnX {D : Ends} {tu : TS} {ta : TA} {j k n : Nat} {R : List V → Hp → Prop} (h : ∀ Q : List V → Hp → Prop, (∀ a xs H2, Ex H H2 → SqL K H2 a xs → xs.length = n → R xs H2 → Q [.ref a] H2) → ta σ H Q)
    (Pv : Addr → List V → Nat → L2.St → Hp → Prop) (h0 : ∀ a xs H2, Ex H H2 → SqL K H2 a xs → R xs H2 → Pv a xs 0 σ H2) (hl : ∀ a xs i σ' H', Pv a xs i σ' H' → SqL K H' a xs)
    (hs : ∀ a xs i x σ' H', xs.length = n → xs[i]? = some x → Pv a xs i σ' H' → ∀ H1, Ex H' H1 → tu { D with nx := Pv a xs (i + 1), ct := Pv a xs (i + 1), bk := D.nx } ((σ'.set j (some (.int (i : Nat)))).set k (some x)) H1)
    (hd : ∀ a xs σ' H', Pv a xs n σ' H' → D.nx σ' H') : tFor (iEnum K ta) (gTup K 2 (gCons (gName j) (gCons (gName k) gNil))) tu D σ H :=
  h _ fun a xs H1 e hq hn hR => ⟨a, xs, rfl, hq, for_it (walk_enum (xs := xs)) (Pv a xs) (h0 a xs H1 e hq hR) (fun i σ' H' hi p => hl a xs i σ' H' p) (fun i v σ' H' H2 hi p y => by
    obtain ⟨T, x, z, rfl, hT, rfl, hx1, hz⟩ := y
    cases hx1
    refine ⟨T, _, rfl, Or.inl (Or.inl upd_same), rfl, ?_⟩
    refine ⟨_, _, rfl, _, _, rfl, rfl, ?_⟩
    exact hs a xs i z σ' H' hn hz p _ (Ex.new hT)) (fun σ' H' p => hd a xs σ' H' (by rw [← hn]; exact p))⟩
end
end L3
namespace Lw
open PySem PySem.Spec PyProof.Rows L2 Evl L3
abbrev sLaw : Stmt := top 26
section
variable {P : Program} {w : World} {K : PySem.W.Frag} {mg : Str → Option Value} {base : Heap}
theorem rc_min {H : Hp} {i j : Int} : RC (fun xs H Q => ∃ i j, xs = [V.int i, V.int j] ∧ Q (.int (if j < i then j else i)) H) [.int i, .int j] H (.int (if j < i then j else i)) := fun H1 e Q q => ⟨i, j, rfl, q H1 (Ex.refl H1)⟩
theorem rc_max {H : Hp} {i j : Int} : RC (fun xs H Q => ∃ i j, xs = [V.int i, V.int j] ∧ Q (.int (if j > i then j else i)) H) [.int i, .int j] H (.int (if j > i then j else i)) := fun H1 e Q q => ⟨i, j, rfl, q H1 (Ex.refl H1)⟩
/-- a small value -/
def Small (d : PyData) : Prop := niceD d = true ∧ d.depth ≤ 4 ∧ nodes d ≤ 50
theorem Small.nice {d : PyData} (h : Small d) : Nice d := ⟨h.1, by have := h.2.1; omega, by have := h.2.2; omega⟩
def i3 (xs ys : List Int) (d : PyData) : PyData := .list [.list (xs.map .int), .list (ys.map .int), d]
theorem Small.told {d : PyData} (h : Small d) {xs ys : List Int} (hx : xs.length ≤ 4) (hy : ys.length ≤ 4) (bx : ∀ x ∈ xs, 0 ≤ x ∧ x ≤ 100) (by_ : ∀ x ∈ ys, 0 ≤ x ∧ x ≤ 100) : Nice (i3 xs ys d) := by
  have all : ∀ zs : List Int, (∀ x ∈ zs, 0 ≤ x ∧ x ≤ 100) → niceAll (zs.map .int) = true ∧ PyData.depthAll (zs.map .int) ≤ 0 ∧ nodesAll (zs.map .int) ≤ zs.length := by
    intro zs
    induction zs with
    | nil => intro _; exact ⟨rfl, Nat.le_refl _, Nat.le_refl _⟩
    | cons z r ih =>
      intro hz
      obtain ⟨a1, a2, a3⟩ := ih fun x hx => hz x (List.mem_cons_of_mem _ hx)
      obtain ⟨b1, b2⟩ := hz z List.mem_cons_self
      refine ⟨?_, ?_, ?_⟩
      · show (niceD (.int z) && niceAll (r.map .int)) = true
        rw [a1, show niceD (.int z) = true from decide_eq_true (by omega)] <;> rfl
      · show max 0 (PyData.depthAll (r.map .int)) ≤ 0
        omega
      · show 1 + nodesAll (r.map .int) ≤ r.length + 1
        omega
  obtain ⟨a1, a2, a3⟩ := all xs bx
  obtain ⟨b1, b2, b3⟩ := all ys by_
  obtain ⟨d1, d2, d3⟩ := h
  refine ⟨?_, ?_, ?_⟩
  · show (niceAll (xs.map .int) && (niceAll (ys.map .int) && (niceD d && true))) = true
    rw [a1, b1, d1] <;> rfl
  · show max (PyData.depthAll (xs.map .int) + 1) (max (PyData.depthAll (ys.map .int) + 1) (max d.depth 0)) + 1 ≤ 10
    omega
  · show (nodesAll (xs.map .int) + 1) + ((nodesAll (ys.map .int) + 1) + (nodes d + 0)) + 1 ≤ 1200
    omega
theorem dp_ints {H : Hp} {p : Addr} {xs : List Int} (h : H p = some (.lst (xs.map .int))) : Dp K H (.ref p) (.list (xs.map .int)) := by
  refine .lst (sq_of h) ?_
  clear h
  induction xs with
  | nil => exact .nil
  | cons x r ih => exact .cons (.int x) ih
theorem dp_i3 {H : Hp} {p q r : Addr} {v : V} {d : PyData} {xs ys : List Int} (h1 : H p = some (.lst [.ref q, .ref r, v])) (h2 : H q = some (.lst (xs.map .int))) (h3 : H r = some (.lst (ys.map .int))) (hd : Dp K H v d) : Dp K H (.ref p) (i3 xs ys d) :=
  .lst (sq_of h1) (.cons (dp_ints h2) (.cons (dp_ints h3) (.cons hd .nil)))
/-- the condition of the law: what is told, and its repr -/
theorem et_bad {σ : L2.St} {H : Hp} {p q r : Addr} {v : V} {d : PyData} {xs ys : List Int} {tb : TE} (sm : Small d) (hx : xs.length ≤ 4) (hy : ys.length ≤ 4) (bx : ∀ x ∈ xs, 0 ≤ x ∧ x ≤ 100) (by_ : ∀ x ∈ ys, 0 ≤ x ∧ x ≤ 100)
    (h6 : σ[6]? = some (some (.ref p))) (h4 : σ[4]? = some (some v)) (h1 : H p = some (.lst [.ref q, .ref r, v])) (h2 : H q = some (.lst (xs.map .int))) (h3 : H r = some (.lst (ys.map .int))) (hd : Dp K H v d) (hb : DvE K (fun _ => none) tb σ H (i3 xs ys d)) :
    EvT (tOr (tTest (tOp (rNeD K) (tVar 6) tb)) (tTest (tOp rNe (tCB (rRepr K) (tCons (tOp (rIxL K) (tVar 6) (tC (.int 2))) tNil)) (tCB (rRepr K) (tCons (tVar 4) tNil))))) σ H false := by
  have sh : ∀ {H' : Hp}, Ex H H' → RC (rRepr K) [v] H' (.str d.shown) := fun e H1 e1 Q q => ⟨_, _, rfl, dp_ex (e.trans e1) hd, sm.nice.shw, q H1 (Ex.refl H1)⟩
  refine et_is (et_or (a := false) (b := false) (et_test (ev_neDv (ev_var h6) (dp_i3 h1 h2 h3 hd) hb (sm.told hx hy bx by_))) fun _ => ?_) rfl
  refine et_is (et_test (ev_op (ev_cb (ea_cons (ev_op (ev_var h6) ev_c (rv_ixL (sq_of h1) (atI_nat (j := 2) rfl))) ea_nil) (sh (Ex.refl H))) (ev_cb (ea_cons (ev_var h4) ea_nil) (sh (Ex.refl H))) (rv_ne rfl))) ?_
  simp
def spLaw (K : PySem.W.Frag) : Sp := fun vs H Q _ => ∃ (a : Addr) (ns : List Int), vs = [.ref a] ∧ SqL K H a (ns.map V.int) ∧ ns.length ≤ 63 ∧ ∀ H', Q (.bl true) H'
abbrev nLa : List Str := ["_law_script", "_law_at", "_law_bag_here", "_law_some", "_law_value", "_law_which", "_law_told_here", "_law_bases_here"]
theorem scLa : FnScope nLa ["_law_script"] (defScope sLaw) := ⟨rfl, rfl, rfl, by decide +kernel, rfl, by decide +kernel, by decide +kernel⟩
theorem ok_law {f fB fT fW fO : Addr} {fd fdB fdT fdW fdO : FuncData} (F : Fun K "law" "law" sLaw f fd) (T : Txt K mg) (hEn : mg "enumerate" = none)
    (FB : Fun K "_law_bag" "_law_bag" sBag fB fdB) (bB : Binds K fdB ["_law_script", "_law_at"] []) (gB : mg "_law_bag" = some (.ref fB)) (GB : FnOk P w K mg base CX0 1 fB fdB ["_law_script", "_law_at"] (spBag K))
    (FT : Fun K "_law_take" "_law_take" sTake fT fdT) (bT : Binds K fdT ["_law_bag_here", "_law_many"] []) (gT : mg "_law_take" = some (.ref fT)) (GT : FnOk P w K mg base CX0 1 fT fdT ["_law_bag_here", "_law_many"] spTake)
    (FW : Fun K "_law_told" "_law_told" sTold fW fdW) (bW : Binds K fdW ["_law_which", "_law_value"] []) (gW : mg "_law_told" = some (.ref fW)) (GW : FnOk P w K mg base CX0 4 fW fdW ["_law_which", "_law_value"] (spTold K))
    (FO : Fun K "_law_told_other" "_law_told_other" sToldO fO fdO) (bO : Binds K fdO ["_law_which", "_law_value"] []) (gO : mg "_law_told_other" = some (.ref fO)) (GO : FnOk P w K mg base CX0 4 fO fdO ["_law_which", "_law_value"] (spToldO K)) :
    FnG P w K mg base 5 f fd ["_law_script"] (spLaw K) := by
  refine okG F scLa (fun vs H Q E h => ?_) (fun cdv A outer s H vs Q E hgu hr h => ?_)
  · obtain ⟨a, ns, rfl, _⟩ := h
    rfl
  · obtain ⟨a, ns, rfl, hs, hl, k⟩ := h
    have hr1 : Room 1 _ := hr.mono (by decide)
    refine ⟨_, pss_cons (ps_for PassesOwn.never rfl (pi_range1 rfl T.range (pa_cons (pe_callB (call_max2 rfl) (by rfl) T.max PyProof.Rows.boot_max (pa_cons pe_int (pa_cons (pe_callB (call_min2 rfl) (by rfl) T.min PyProof.Rows.boot_min (pa_cons pe_int (pa_cons (pe_callB call_len_seq (by rfl) T.len PySem.boot_len (pa_cons (pv 0) pa_nil)) pa_nil))) pa_nil))) pa_nil)) (pg_name (i := 1) scLa.nd rfl (Or.inl rfl))
      (pss_cons (ps_set (i := 2) scLa.nd rfl (Or.inl rfl) (pe_call GB hr1 rfl gB FB.kp bB .nil pass0 (pa_cons (pv 0) (pa_cons (pv 1) pa_nil))))
      (pss_cons (ps_set (i := 3) scLa.nd rfl (Or.inl rfl) (pe_lst (pa_cons pe_non (pa_cons (pe_call GT hr1 rfl gT FT.kp bT .nil pass0 (pa_cons (pv 2) (pa_cons (pe_op op_pow pe_int pe_int) pa_nil))) (pa_cons (pe_op op_sub pe_int (pe_call GT hr1 rfl gT FT.kp bT .nil pass0 (pa_cons (pv 2) (pa_cons pe_int pa_nil))))
          (pa_cons pe_str (pa_cons (pe_tup (pa_cons (pe_tup (pa_cons pe_int (pa_cons (pe_un un_neg pe_int) (pa_cons pe_int (pa_cons pe_int pa_nil))))) (pa_cons pe_int pa_nil))) (pa_cons (pe_lst (pa_cons pe_int pa_nil)) (pa_cons pe_bl pa_nil)))))))))
      (pss_cons (ps_set (i := 4) scLa.nd rfl (Or.inl rfl) (pe_ix ix_list (pv 3) (pe_call GT hr1 rfl gT FT.kp bT .nil pass0 (pa_cons (pv 2) (pa_cons pe_int pa_nil))) (fun _ _ => rfl)))
      (pss_cons (ps_for PassesOwn.never rfl (pi_range1 rfl T.range (pa_cons pe_int pa_nil)) (pg_name (i := 5) scLa.nd rfl (Or.inl rfl))
        (pss_cons (ps_set (i := 6) scLa.nd rfl (Or.inl rfl) (pe_call GW hr rfl gW FW.kp bW .nil pass0 (pa_cons (pv 5) (pa_cons (pv 4) pa_nil))))
        (pss_one (ps_if (PW.pt (pw_or (pt_cmpR (op_neD hr.units) (pv 6) (pe_lst (pa_cons (pe_lst (pa_cons (pv 5) (pa_cons pe_int pa_nil))) (pa_cons (pe_lst (pa_cons pe_int pa_nil)) (pa_cons (pv 4) pa_nil)))) (nomark _))
            (pw_or1 (pt_cmpR op_ne (pe_callB (call_reprD hgu hr.units) (by rfl) T.repr boot_repr (pa_cons (pe_ix ix_list (pv 6) pe_int (fun _ _ => rfl)) pa_nil)) (pe_callB (call_reprD hgu hr.units) (by rfl) T.repr boot_repr (pa_cons (pv 4) pa_nil)) (nomark _)))))
          (pss_one (ps_ret pe_bl)) pss_nil))))
      (pss_one (ps_for PassesOwn.never rfl (pi_enum (by rfl) hEn (pa_cons (pe_lst (pa_cons (pe_lst (pa_cons pe_int (pa_cons pe_int pa_nil))) (pa_cons (pe_lst (pa_cons pe_int pa_nil)) (pa_cons (pe_lst (pa_cons pe_int (pa_cons pe_int pa_nil))) (pa_cons (pe_lst (pa_cons pe_int pa_nil)) pa_nil))))) pa_nil))
          (pg_tup rfl (pgs_cons (pg_name (i := 5) scLa.nd rfl (Or.inl rfl)) (pgs_cons (pg_name (i := 7) scLa.nd rfl (Or.inl rfl)) pgs_nil)))
        (pss_cons (ps_set (i := 6) scLa.nd rfl (Or.inl rfl) (pe_call GO hr rfl gO FO.kp bO .nil pass0 (pa_cons (pv 5) (pa_cons (pv 4) pa_nil))))
        (pss_one (ps_if (PW.pt (pw_or (pt_cmpR (op_neD hr.units) (pv 6) (pe_lst (pa_cons (pe_lst (pa_cons (pe_op op_add pe_int (pv 5)) pa_nil)) (pa_cons (pv 7) (pa_cons (pv 4) pa_nil)))) (nomark _))
            (pw_or1 (pt_cmpR op_ne (pe_callB (call_reprD hgu hr.units) (by rfl) T.repr boot_repr (pa_cons (pe_ix ix_list (pv 6) pe_int (fun _ _ => rfl)) pa_nil)) (pe_callB (call_reprD hgu hr.units) (by rfl) T.repr boot_repr (pa_cons (pv 4) pa_nil)) (nomark _)))))
          (pss_one (ps_ret pe_bl)) pss_nil))))))))))
      (pss_one (ps_ret pe_bl)), ?_⟩
    obtain ⟨M, hM2⟩ : ∃ M : Int, M = (if (if (ns.length : Int) < 6 then (ns.length : Int) else 6) > 2 then (if (ns.length : Int) < 6 then (ns.length : Int) else 6) else 2) := ⟨_, rfl⟩
    have hM6 : 0 ≤ M ∧ M ≤ 6 := by
      rw [hM2]
      split <;> split <;> omega
    have evl : Ev (tCB (rLenS K) (tCons (tVar 0) tNil)) (start nLa [V.ref a]) H (.int (ns.length : Int)) := by
      have z := ev_len (K := K) (σ := start nLa [V.ref a]) (H := H) (ta := tVar 0) (ev_var rfl) hs
      rw [List.length_map] at z
      exact z
    refine q_forR1 (n := M) (ea_cons (ev_is (ev_cb (ea_cons ev_c (ea_cons (ev_cb (ea_cons ev_c (ea_cons evl ea_nil)) rc_min) ea_nil)) rc_max) (congrArg V.int hM2.symm)) ea_nil) (by omega)
      (fun i σ' H' => ∃ o1 o2 o3 o4 o5 o6 o7 : Option V, σ' = [some (.ref a), o1, o2, o3, o4, o5, o6, o7] ∧ Ex H H')
      (fun H1 e1 => ⟨_, _, _, _, _, _, _, rfl, e1⟩) ?_ ?_
    · rintro i σ' H' hi ⟨o1, o2, o3, o4, o5, o6, o7, rfl, e0⟩
      refine ⟨_, rfl, _, rfl, a, ns, i, rfl, ex_l e0 hs, by omega, fun g H1 hg0 e1 b1 => ?_⟩
      refine take_go (n := 10000) (m := 100000000000000000000) (ev_var rfl) (ev_is (ev_op ev_c ev_c (rv_I ⟨by decide, by decide, by decide⟩)) rfl) (b1.less (by decide)) (by decide) (by decide) fun r1 H2 r10 r11 x2 b2 => ?_
      refine take_go (n := 9999) (ev_var rfl) ev_c b2 (by decide) (by decide) fun r2 H3 r20 r21 x3 b3 => ?_
      refine ⟨_, _, rfl, rfl, ?_⟩
      refine ⟨1, rfl, ?_⟩
      refine ⟨by show 4 ≤ sizeLine; decide, fun t1 ht1 => ⟨by show 2 ≤ sizeLine; decide, fun t2 ht2 => ⟨by show 1 ≤ sizeLine; decide, fun l1 hl1 => ⟨by show 7 ≤ sizeLine; decide, fun ps hps => ?_⟩⟩⟩⟩
      have n1 : t1 ≠ g := bag_ne b3 ht1
      have c1 := b3.ex (Ex.new (o := .tup [.int 0, .int (-1), .int 0, .int 0]) ht1)
      have n2 : t2 ≠ g := bag_ne c1 ht2
      have c2 := c1.ex (Ex.new (o := .tup [.ref t1, .int 1]) ht2)
      have n3 : l1 ≠ g := bag_ne c2 hl1
      have c3 := c2.ex (Ex.new (o := .lst [.int 1]) hl1)
      have n4 : ps ≠ g := bag_ne c3 hps
      have e2 := Ex.new (o := .tup [.ref t1, .int 1]) ht2
      have e3 := Ex.new (o := .lst [.int 1]) hl1
      have e4 := Ex.new (o := .lst [.non, .int r1, .int (0 - r2), .str "size", .ref t2, .ref l1, .bl true]) hps
      have f1 := (e2.trans (e3.trans e4)) _ _ upd_same
      have f2 := (e3.trans e4) _ _ upd_same
      have f3 := e4 _ _ upd_same
      have c4 := c3.ex e4
      refine ⟨_, rfl, ?_⟩
      refine take_go (n := 9998) (ev_var rfl) ev_c c4 (by decide) (by decide) fun r3 H6 r30 r31 x6 b6 => ?_
      obtain ⟨v, hv, hmem⟩ := atI_mem (xs := [.non, .int r1, .int (0 - r2), .str "size", .ref t2, .ref l1, .bl true]) (r := r3) r30 (by show r3 < 7; omega)
      refine ⟨ps, _, r3, v, rfl, rfl, sq_of (del_at x6 upd_same n4), hv, ?_⟩
      have g1 := del_at x6 f1 n1
      have g2 := del_at x6 f2 n2
      have g3 := del_at x6 f3 n3
      have eH : Ex H H6 := by
        have q1 : Ex H (del H1 g) := e0.trans e1
        have q2 := ((q1.trans x2).trans x3).trans ((ex_del ((Ex.new ht1).trans (e2.trans (e3.trans e4)))).trans x6)
        exact q2.trans ex_del_self
      obtain ⟨d, hd, sm⟩ : ∃ d, Dp K H6 v d ∧ Small d := by
        simp only [List.mem_cons, List.not_mem_nil, or_false] at hmem
        rcases hmem with rfl | rfl | rfl | rfl | rfl | rfl | rfl
        · exact ⟨.none, .non, rfl, by decide, by decide⟩
        · exact ⟨.int r1, .int r1, decide_eq_true (by omega), Nat.zero_le _, by show 1 ≤ 50; decide⟩
        · exact ⟨.int (0 - r2), .int _, decide_eq_true (by omega), Nat.zero_le _, by show 1 ≤ 50; decide⟩
        · exact ⟨.str "size", .str _, by decide +kernel, by decide, by decide⟩
        · exact ⟨.tuple [.tuple [.int 0, .int (-1), .int 0, .int 0], .int 1], .tup (st_of g2) (.cons (.tup (st_of g1) (.cons (.int 0) (.cons (.int (-1)) (.cons (.int 0) (.cons (.int 0) .nil))))) (.cons (.int 1) .nil)), by decide +kernel, by decide, by decide⟩
        · exact ⟨.list [.int 1], .lst (sq_of g3) (.cons (.int 1) .nil), by decide +kernel, by decide, by decide⟩
        · exact ⟨.bool true, .bl true, rfl, by decide, by decide⟩
      have nb : ∀ {HH : Hp}, Ex (fun _ => none) HH := fun {HH} _ _ h => nomatch h
      refine q_forR1 (n := 10) (ea_cons ev_c ea_nil) (by omega)
        (fun j σ' H' => ∃ o5 o6 o7 : Option V, σ' = [some (.ref a), some (.int (i : Int)), some (.ref g), some (.ref ps), some v, o5, o6, o7] ∧ Ex H6 H')
        (fun H7 e7 => ⟨_, _, _, rfl, e7⟩) ?_ ?_
      · rintro j σ' H' hj ⟨o5, o6, o7, rfl, e7⟩
        refine ⟨_, rfl, _, rfl, j, v, rfl, by omega, fun p q r H8 e8 k1 k2 k3 => ?_⟩
        have hd8 := dp_ex (e7.trans e8) hd
        refine s_when (b := false) (et_bad (p := p) (xs := [(j : Int), 14]) (ys := [0]) sm (by show 2 ≤ 4; decide) (by show 1 ≤ 4; decide) ?_ ?_ rfl rfl k1 k2 k3 hd8 ?_) (fun hb => nomatch hb) fun _ H9 e9 => ⟨_, _, _, rfl, (e7.trans e8).trans e9⟩
        · intro x hx
          simp only [List.mem_cons, List.not_mem_nil, or_false] at hx
          rcases hx with rfl | rfl <;> omega
        · intro x hx
          simp only [List.mem_cons, List.not_mem_nil, or_false] at hx
          subst hx
          omega
        · exact dv_l (dl_lst nb (da_cons (dv_l (dl_lst nb (da_cons (dv_int (ev_var rfl)) (da_cons (dv_int ev_c) da_nil)) (by show 2 ≤ 100000; decide))) (da_cons (dv_l (dl_lst nb (da_cons (dv_int ev_c) da_nil) (by show 1 ≤ 100000; decide))) (da_cons (dv_ev (ev_var rfl) (dp_new hd8)) da_nil))) (by show 3 ≤ 100000; decide))
      · rintro σ' H' ⟨o5, o6, o7, rfl, e7⟩
        refine s_forEnX (n := 4) (R := fun xs H2 => ∃ l0 l1 l2 l3 : Addr, xs = [.ref l0, .ref l1, .ref l2, .ref l3] ∧ H2 l0 = some (.lst ((basO 0).map V.int)) ∧ H2 l1 = some (.lst ((basO 1).map V.int)) ∧ H2 l2 = some (.lst ((basO 2).map V.int)) ∧ H2 l3 = some (.lst ((basO 3).map V.int)))
          (fun Q hq => ?_) (fun l xs m σ' H' => (∃ l0 l1 l2 l3 : Addr, xs = [.ref l0, .ref l1, .ref l2, .ref l3] ∧ H' l0 = some (.lst ((basO 0).map V.int)) ∧ H' l1 = some (.lst ((basO 1).map V.int)) ∧ H' l2 = some (.lst ((basO 2).map V.int)) ∧ H' l3 = some (.lst ((basO 3).map V.int))) ∧ SqL K H' l xs ∧ Ex H6 H' ∧
            ∃ o5 o6 o7 : Option V, σ' = [some (.ref a), some (.int (i : Int)), some (.ref g), some (.ref ps), some v, o5, o6, o7])
          (fun l xs H2 e8 hq hR => ⟨hR, hq, e7.trans e8, _, _, _, rfl⟩) (fun l xs m σ' H' p => p.2.1) ?_ ?_
        · refine ⟨by show 2 ≤ sizeLine; decide, fun l0 h0 => ⟨by show 1 ≤ sizeLine; decide, fun l1 h1 => ⟨by show 2 ≤ sizeLine; decide, fun l2 h2 => ⟨by show 1 ≤ sizeLine; decide, fun l3 h3 => ⟨by show 4 ≤ sizeLine; decide, fun l h => ?_⟩⟩⟩⟩⟩
          have a0 := Ex.new (o := .lst [.int 1, .int 2]) h0
          have a1 := Ex.new (o := .lst [.int 1]) h1
          have a2 := Ex.new (o := .lst [.int 1, .int 3]) h2
          have a3 := Ex.new (o := .lst [.int 4]) h3
          have a4 := Ex.new (o := .lst [.ref l0, .ref l1, .ref l2, .ref l3]) h
          exact hq l _ _ (a0.trans (a1.trans (a2.trans (a3.trans a4)))) (sq_of upd_same) rfl ⟨l0, l1, l2, l3, rfl, (a1.trans (a2.trans (a3.trans a4))) _ _ upd_same, (a2.trans (a3.trans a4)) _ _ upd_same, (a3.trans a4) _ _ upd_same, a4 _ _ upd_same⟩
        · rintro l xs m x σ' H' hlen hx ⟨⟨l0, l1, l2, l3, rfl, q0, q1, q2, q3⟩, hsq, e8, o5, o6, o7, rfl⟩ H8 e9
          obtain ⟨li, rfl, hli, hm⟩ : ∃ li : Addr, x = .ref li ∧ H' li = some (.lst ((basO m).map V.int)) ∧ m < 4 := by
            match m, hx with
            | 0, hx => cases hx; exact ⟨l0, rfl, q0, by decide⟩
            | 1, hx => cases hx; exact ⟨l1, rfl, q1, by decide⟩
            | 2, hx => cases hx; exact ⟨l2, rfl, q2, by decide⟩
            | 3, hx => cases hx; exact ⟨l3, rfl, q3, by decide⟩
            | m + 4, hx => exact nomatch (show none = some x from hx)
          refine ⟨_, rfl, _, rfl, m, v, rfl, hm, fun p q r H9 e10 k1 k2 k3 => ?_⟩
          have e11 := e9.trans e10
          have hd9 := dp_ex (e8.trans e11) hd
          have hby : (basO m).length ≤ 4 ∧ ∀ x ∈ basO m, 0 ≤ x ∧ x ≤ 100 := by
            match m, hm with
            | 0, _ => exact ⟨by decide, by decide⟩
            | 1, _ => exact ⟨by decide, by decide⟩
            | 2, _ => exact ⟨by decide, by decide⟩
            | 3, _ => exact ⟨by decide, by decide⟩
          refine s_when (b := false) (et_bad (p := p) (xs := [10 + (m : Int)]) (ys := basO m) sm (by show 1 ≤ 4; decide) hby.1 ?_ hby.2 rfl rfl k1 k2 k3 hd9 ?_) (fun hb => nomatch hb) fun _ H10 e12 => ?_
          · intro x hx
            simp only [List.mem_cons, List.not_mem_nil, or_false] at hx
            subst hx
            omega
          · exact dv_l (dl_lst nb (da_cons (dv_l (dl_lst nb (da_cons (dv_int (ev_op ev_c (ev_var rfl) rv_I0)) da_nil) (by show 1 ≤ 100000; decide))) (da_cons (dv_ev (ev_var rfl) (dp_new (dp_ints (e11 _ _ hli)))) (da_cons (dv_ev (ev_var rfl) (dp_new hd9)) da_nil))) (by show 3 ≤ 100000; decide))
          · have e13 := e11.trans e12
            exact ⟨⟨l0, l1, l2, l3, rfl, e13 _ _ q0, e13 _ _ q1, e13 _ _ q2, e13 _ _ q3⟩, ex_l e13 hsq, e8.trans e13, _, _, _, rfl⟩
        · rintro l xs σ' H' ⟨_, _, e8, o5, o6, o7, rfl⟩
          exact ⟨_, _, _, _, _, _, _, rfl, eH.trans e8⟩
    · rintro σ' H' ⟨o1, o2, o3, o4, o5, o6, o7, rfl, e0⟩
      exact s_ret ev_c fun H1 e1 => k H1
end
end Lw

namespace Lw
open PySem PySem.Spec PyProof.Rows L2 Evl L3
theorem exm_ref' {K : PySem.W.Frag} {C : Addr} {cls : Value} {b : Bool} (h1 : PySem.W.subIn K (.ref C) (.type "BaseException") = some true) (h2 : PySem.W.hasDictIn K C = true) (h3 : PySem.W.typeIn K (.ref C) = some (.type "type")) (h4 : PySem.W.subIn K cls (.ref C) = some b) :
    PySem.W.exmOne K cls (.ref C) = some b := PySem.W.exm_ref h1 h2 h3 h4
def cOf (C0 C1 C2 C3 C4 C5 C6 C7 C8 C9 C10 C11 C12 C13 C14 : Addr) : Nat → Addr := fun j => match j with | 0 => C0 | 1 => C1 | 2 => C2 | 3 => C3 | 4 => C4 | 5 => C5 | 6 => C6 | 7 => C7 | 8 => C8 | 9 => C9 | 10 => C10 | 11 => C11 | 12 => C12 | 13 => C13 | _ => C14
theorem kit_ref {K : PySem.W.Frag} {D C : Addr} {b : Bool} (h0 : PySem.W.subIn K (.ref D) (.ref D) = some true) (h1 : PySem.W.subIn K (.ref D) (.ref C) = some b) (h2 : PySem.W.hasDictIn K C = true) (h3 : PySem.W.typeIn K (.ref C) = some (.type "type")) : PySem.W.kitOne K (.ref D) (.ref C) = some b := by
  unfold PySem.W.kitOne
  by_cases e : D = C
  · subst e
    rw [h0] at h1
    rw [if_pos (by simp)]
    exact h1
  · have n : ¬ ((Value.ref D == Value.ref C) = true) := fun z => e (by simpa using z)
    rw [if_neg n]
    have c : (PySem.W.clsIn K C).isSome = true := by
      unfold PySem.W.hasDictIn at h2
      cases q : PySem.W.clsIn K C with
      | none =>
        rw [q] at h2
        cases h2
      | some v => rfl
    show (if ((PySem.W.clsIn K C).isSome && PySem.W.typeIn K (.ref C) == some (.type "type")) = true then PySem.W.subIn K (.ref D) (.ref C) else none) = some b
    rw [c, h3, if_pos (by simp)]
    exact h1
theorem kit_ty {K : PySem.W.Frag} {D : Addr} {T : String} {b : Bool} (h : PySem.W.kitMeta T = true) (h1 : PySem.W.subIn K (.ref D) (.type T) = some b) : PySem.W.kitOne K (.ref D) (.type T) = some b := by
  unfold PySem.W.kitOne
  have n : ¬ ((Value.ref D == Value.type T) = true) := fun z => by simp at z
  rw [if_neg n]
  show (if PySem.W.kitMeta T = true then PySem.W.subIn K (.ref D) (.type T) else none) = some b
  rw [if_pos h]
  exact h1
theorem all_mk {P : Program} {w : World} {K : PySem.W.Frag} {h : Heap} {mg : Str → Option Value} (X : K.In h) (G : h.Ns mainGlobals mg)
    {f1 f2 f3 f4 f5 f6 f7 f8 f9 f10 : Addr} {fa : Addr} (hfa : mg "law" = some (.ref fa))
    {od1 an1 od2 an2 od3 an3 od4 an4 od5 an5 od6 an6 od7 an7 od8 an8 od9 an9 od10 an10 : Option Addr} {sl1 sl2 sl3 sl4 sl5 sl6 sl7 sl8 sl9 sl10 : Array (Option Value)} {oc1 kV1 dc1 pm1 cd1 ct1 oc2 kV2 dc2 pm2 cd2 ct2 oc3 kV3 dc3 pm3 cd3 ct3 oc4 kV4 dc4 pm4 cd4 ct4 oc5 kV5 dc5 pm5 cd5 ct5 oc6 kV6 dc6 pm6 cd6 ct6 oc7 kV7 dc7 pm7 cd7 ct7 oc8 kV8 dc8 pm8 cd8 ct8 oc9 kV9 dc9 pm9 cd9 ct9 oc10 kV10 dc10 pm10 cd10 ct10 : Value}
    {C0 C1 C2 C3 C4 C5 C6 C7 C8 C9 C10 C11 C12 C13 C14 : Addr}
    {E0 E1 E2 E3 E4 E5 E6 E7 E8 E9 N0 N1 N2 N3 N4 N5 N6 N7 N8 N9 N10 N11 N12 i0 i1 i2 i3 i4 i5 i6 i7 i8 i9 i10 i11 i12 : Addr}
    {oc_0 kV_0 dc_0 pm_0 cd_0 ct_0 : Value} {od_0 an_0 dd_0 : Option Addr} {sl_0 : Array (Option Value)} {nm_0 q_0 : Str} {bs_0 sub_0 : List Value} {sn_0 : List Str} {ab_0 : Bool} {col_0 : Option Bool} {m0_0 m1_0 m2_0 m3_0 m5_0 : Option Value}
    {oc_1 kV_1 dc_1 pm_1 cd_1 ct_1 : Value} {od_1 an_1 dd_1 : Option Addr} {sl_1 : Array (Option Value)} {nm_1 q_1 : Str} {bs_1 sub_1 : List Value} {sn_1 : List Str} {ab_1 : Bool} {col_1 : Option Bool} {m0_1 m1_1 m2_1 m3_1 m5_1 : Option Value}
    {oc_2 kV_2 dc_2 pm_2 cd_2 ct_2 : Value} {od_2 an_2 dd_2 : Option Addr} {sl_2 : Array (Option Value)} {nm_2 q_2 : Str} {bs_2 sub_2 : List Value} {sn_2 : List Str} {ab_2 : Bool} {col_2 : Option Bool} {m0_2 m1_2 m2_2 m3_2 m5_2 : Option Value}
    {oc_3 kV_3 dc_3 pm_3 cd_3 ct_3 : Value} {od_3 an_3 dd_3 : Option Addr} {sl_3 : Array (Option Value)} {nm_3 q_3 : Str} {bs_3 sub_3 : List Value} {sn_3 : List Str} {ab_3 : Bool} {col_3 : Option Bool} {m0_3 m1_3 m2_3 m3_3 m5_3 : Option Value}
    {oc_4 kV_4 dc_4 pm_4 cd_4 ct_4 : Value} {od_4 an_4 dd_4 : Option Addr} {sl_4 : Array (Option Value)} {nm_4 q_4 : Str} {bs_4 sub_4 : List Value} {sn_4 : List Str} {ab_4 : Bool} {col_4 : Option Bool} {m0_4 m1_4 m2_4 m3_4 m5_4 : Option Value}
    {oc_5 kV_5 dc_5 pm_5 cd_5 ct_5 : Value} {od_5 an_5 dd_5 : Option Addr} {sl_5 : Array (Option Value)} {nm_5 q_5 : Str} {bs_5 sub_5 : List Value} {sn_5 : List Str} {ab_5 : Bool} {col_5 : Option Bool} {m0_5 m1_5 m2_5 m3_5 m5_5 : Option Value}
    {oc_6 kV_6 dc_6 pm_6 cd_6 ct_6 : Value} {od_6 an_6 dd_6 : Option Addr} {sl_6 : Array (Option Value)} {nm_6 q_6 : Str} {bs_6 sub_6 : List Value} {sn_6 : List Str} {ab_6 : Bool} {col_6 : Option Bool} {m0_6 m1_6 m2_6 m3_6 m5_6 : Option Value}
    {oc_7 kV_7 dc_7 pm_7 cd_7 ct_7 : Value} {od_7 an_7 dd_7 : Option Addr} {sl_7 : Array (Option Value)} {nm_7 q_7 : Str} {bs_7 sub_7 : List Value} {sn_7 : List Str} {ab_7 : Bool} {col_7 : Option Bool} {m0_7 m1_7 m2_7 m3_7 m5_7 : Option Value}
    {oc_8 kV_8 dc_8 pm_8 cd_8 ct_8 : Value} {od_8 an_8 dd_8 : Option Addr} {sl_8 : Array (Option Value)} {nm_8 q_8 : Str} {bs_8 sub_8 : List Value} {sn_8 : List Str} {ab_8 : Bool} {col_8 : Option Bool} {m0_8 m1_8 m2_8 m3_8 m5_8 : Option Value}
    {oc_9 kV_9 dc_9 pm_9 cd_9 ct_9 : Value} {od_9 an_9 dd_9 : Option Addr} {sl_9 : Array (Option Value)} {nm_9 q_9 : Str} {bs_9 sub_9 : List Value} {sn_9 : List Str} {ab_9 : Bool} {col_9 : Option Bool} {m0_9 m1_9 m2_9 m3_9 m5_9 : Option Value}
    {oc_10 kV_10 dc_10 pm_10 cd_10 ct_10 : Value} {od_10 an_10 dd_10 : Option Addr} {sl_10 : Array (Option Value)} {nm_10 q_10 : Str} {bs_10 sub_10 : List Value} {sn_10 : List Str} {ab_10 : Bool} {col_10 : Option Bool} {m0_10 m1_10 m2_10 m3_10 m5_10 : Option Value}
    {oc_11 kV_11 dc_11 pm_11 cd_11 ct_11 : Value} {od_11 an_11 dd_11 : Option Addr} {sl_11 : Array (Option Value)} {nm_11 q_11 : Str} {bs_11 sub_11 : List Value} {sn_11 : List Str} {ab_11 : Bool} {col_11 : Option Bool} {m0_11 m1_11 m2_11 m3_11 m5_11 : Option Value}
    {oc_12 kV_12 dc_12 pm_12 cd_12 ct_12 : Value} {od_12 an_12 dd_12 : Option Addr} {sl_12 : Array (Option Value)} {nm_12 q_12 : Str} {bs_12 sub_12 : List Value} {sn_12 : List Str} {ab_12 : Bool} {col_12 : Option Bool} {m0_12 m1_12 m2_12 m3_12 m5_12 : Option Value}
    (a1 : PySem.W.nsIn K mainGlobals "_law_bag" = some (some (.ref f1)))
    (l1 : K.lookup f1 = some ⟨oc1, od1, .func (PySem.W.fnOf "_law_bag" "_law_bag" (defArgs sBag) (defBody sBag) (defScope sBag) .none kV1 dc1 pm1 an1 cd1 ct1), sl1⟩)
    (c1 : PySem.W.codeIn K cd1 "_law_bag" = true)
    (k1 : PySem.W.keepIn K (.ref f1) = true)
    (a2 : PySem.W.nsIn K mainGlobals "_law_take" = some (some (.ref f2)))
    (l2 : K.lookup f2 = some ⟨oc2, od2, .func (PySem.W.fnOf "_law_take" "_law_take" (defArgs sTake) (defBody sTake) (defScope sTake) .none kV2 dc2 pm2 an2 cd2 ct2), sl2⟩)
    (c2 : PySem.W.codeIn K cd2 "_law_take" = true)
    (k2 : PySem.W.keepIn K (.ref f2) = true)
    (a3 : PySem.W.nsIn K mainGlobals "_law_raise" = some (some (.ref f3)))
    (l3 : K.lookup f3 = some ⟨oc3, od3, .func (PySem.W.fnOf "_law_raise" "_law_raise" (defArgs sRaise) (defBody sRaise) (defScope sRaise) .none kV3 dc3 pm3 an3 cd3 ct3), sl3⟩)
    (c3 : PySem.W.codeIn K cd3 "_law_raise" = true)
    (k3 : PySem.W.keepIn K (.ref f3) = true)
    (a4 : PySem.W.nsIn K mainGlobals "_law_raise_other" = some (some (.ref f4)))
    (l4 : K.lookup f4 = some ⟨oc4, od4, .func (PySem.W.fnOf "_law_raise_other" "_law_raise_other" (defArgs sRaiseO) (defBody sRaiseO) (defScope sRaiseO) .none kV4 dc4 pm4 an4 cd4 ct4), sl4⟩)
    (c4 : PySem.W.codeIn K cd4 "_law_raise_other" = true)
    (k4 : PySem.W.keepIn K (.ref f4) = true)
    (a5 : PySem.W.nsIn K mainGlobals "_law_sorts" = some (some (.ref f5)))
    (l5 : K.lookup f5 = some ⟨oc5, od5, .func (PySem.W.fnOf "_law_sorts" "_law_sorts" (defArgs sSorts) (defBody sSorts) (defScope sSorts) .none kV5 dc5 pm5 an5 cd5 ct5), sl5⟩)
    (c5 : PySem.W.codeIn K cd5 "_law_sorts" = true)
    (k5 : PySem.W.keepIn K (.ref f5) = true)
    (a6 : PySem.W.nsIn K mainGlobals "_law_bases" = some (some (.ref f6)))
    (l6 : K.lookup f6 = some ⟨oc6, od6, .func (PySem.W.fnOf "_law_bases" "_law_bases" (defArgs sBases) (defBody sBases) (defScope sBases) .none kV6 dc6 pm6 an6 cd6 ct6), sl6⟩)
    (c6 : PySem.W.codeIn K cd6 "_law_bases" = true)
    (k6 : PySem.W.keepIn K (.ref f6) = true)
    (a7 : PySem.W.nsIn K mainGlobals "_law_field" = some (some (.ref f7)))
    (l7 : K.lookup f7 = some ⟨oc7, od7, .func (PySem.W.fnOf "_law_field" "_law_field" (defArgs sField) (defBody sField) (defScope sField) .none kV7 dc7 pm7 an7 cd7 ct7), sl7⟩)
    (c7 : PySem.W.codeIn K cd7 "_law_field" = true)
    (k7 : PySem.W.keepIn K (.ref f7) = true)
    (a8 : PySem.W.nsIn K mainGlobals "_law_told" = some (some (.ref f8)))
    (l8 : K.lookup f8 = some ⟨oc8, od8, .func (PySem.W.fnOf "_law_told" "_law_told" (defArgs sTold) (defBody sTold) (defScope sTold) .none kV8 dc8 pm8 an8 cd8 ct8), sl8⟩)
    (c8 : PySem.W.codeIn K cd8 "_law_told" = true)
    (k8 : PySem.W.keepIn K (.ref f8) = true)
    (a9 : PySem.W.nsIn K mainGlobals "_law_told_other" = some (some (.ref f9)))
    (l9 : K.lookup f9 = some ⟨oc9, od9, .func (PySem.W.fnOf "_law_told_other" "_law_told_other" (defArgs sToldO) (defBody sToldO) (defScope sToldO) .none kV9 dc9 pm9 an9 cd9 ct9), sl9⟩)
    (c9 : PySem.W.codeIn K cd9 "_law_told_other" = true)
    (k9 : PySem.W.keepIn K (.ref f9) = true)
    (a10 : PySem.W.nsIn K mainGlobals "law" = some (some (.ref f10)))
    (l10 : K.lookup f10 = some ⟨oc10, od10, .func (PySem.W.fnOf "law" "law" (defArgs sLaw) (defBody sLaw) (defScope sLaw) .none kV10 dc10 pm10 an10 cd10 ct10), sl10⟩)
    (c10 : PySem.W.codeIn K cd10 "law" = true)
    (k10 : PySem.W.keepIn K (.ref f10) = true)
    (g_0 : PySem.W.nsIn K mainGlobals "BadSetting" = some (some (.ref C0)))
    (g_1 : PySem.W.nsIn K mainGlobals "BadWrite" = some (some (.ref C1)))
    (g_2 : PySem.W.nsIn K mainGlobals "BadOrder" = some (some (.ref C2)))
    (g_3 : PySem.W.nsIn K mainGlobals "NotPossible" = some (some (.ref C3)))
    (g_4 : PySem.W.nsIn K mainGlobals "TooLong" = some (some (.ref C4)))
    (g_5 : PySem.W.nsIn K mainGlobals "BadTalk" = some (some (.ref C5)))
    (g_6 : PySem.W.nsIn K mainGlobals "EndlessTurn" = some (some (.ref C6)))
    (g_7 : PySem.W.nsIn K mainGlobals "BadPath" = some (some (.ref C7)))
    (g_8 : PySem.W.nsIn K mainGlobals "BadText" = some (some (.ref C8)))
    (g_9 : PySem.W.nsIn K mainGlobals "BadRow" = some (some (.ref C9)))
    (g_10 : PySem.W.nsIn K mainGlobals "NoTurn" = some (some (.ref C10)))
    (g_11 : PySem.W.nsIn K mainGlobals "NoArc" = some (some (.ref C11)))
    (g_12 : PySem.W.nsIn K mainGlobals "NoName" = some (some (.ref C12)))
    (g_13 : PySem.W.nsIn K mainGlobals "NothingDone" = some (some (.ref C13)))
    (g_14 : PySem.W.nsIn K mainGlobals "LatewordsError" = some (some (.ref C14)))
    (a_0 : PySem.W.findIn K (.ref C0) "__init__" = some (some (.ref i0)))
    (l_0 : K.lookup i0 = some ⟨oc_0, od_0, .func (PySem.W.fnOf "__init__" "BadSetting.__init__" (defArgs sIni0) (defBody sIni0) (defScope sIni0) .none kV_0 dc_0 pm_0 an_0 cd_0 ct_0), sl_0⟩)
    (c_0 : PySem.W.codeIn K cd_0 "BadSetting.__init__" = true)
    (k_0 : PySem.W.keepIn K (.ref i0) = true)
    (x_0 : K.lookup C0 = some (excClassObj nm_0 q_0 C0 N0 bs_0 [.ref E0, .type "ValueError", .type "Exception", .type "BaseException", .type "object"] true sn_0 sub_0 ab_0 col_0 dd_0 m0_0 m1_0 m2_0 m3_0 m5_0 "ValueError.__new__"))
    (s_0 : PySem.W.findIn K (.ref C0) "__setattr__" = some (some (.builtin "object.__setattr__")))
    (t_0 : PySem.W.typeIn K (.ref i0) = some (.type "function"))
    (a_1 : PySem.W.findIn K (.ref C1) "__init__" = some (some (.ref i1)))
    (l_1 : K.lookup i1 = some ⟨oc_1, od_1, .func (PySem.W.fnOf "__init__" "BadWrite.__init__" (defArgs sIni1) (defBody sIni1) (defScope sIni1) .none kV_1 dc_1 pm_1 an_1 cd_1 ct_1), sl_1⟩)
    (c_1 : PySem.W.codeIn K cd_1 "BadWrite.__init__" = true)
    (k_1 : PySem.W.keepIn K (.ref i1) = true)
    (x_1 : K.lookup C1 = some (excClassObj nm_1 q_1 C1 N1 bs_1 [.ref E1, .type "ValueError", .type "Exception", .type "BaseException", .type "object"] true sn_1 sub_1 ab_1 col_1 dd_1 m0_1 m1_1 m2_1 m3_1 m5_1 "ValueError.__new__"))
    (s_1 : PySem.W.findIn K (.ref C1) "__setattr__" = some (some (.builtin "object.__setattr__")))
    (t_1 : PySem.W.typeIn K (.ref i1) = some (.type "function"))
    (a_2 : PySem.W.findIn K (.ref C2) "__init__" = some (some (.ref i2)))
    (l_2 : K.lookup i2 = some ⟨oc_2, od_2, .func (PySem.W.fnOf "__init__" "BadOrder.__init__" (defArgs sIni2) (defBody sIni2) (defScope sIni2) .none kV_2 dc_2 pm_2 an_2 cd_2 ct_2), sl_2⟩)
    (c_2 : PySem.W.codeIn K cd_2 "BadOrder.__init__" = true)
    (k_2 : PySem.W.keepIn K (.ref i2) = true)
    (x_2 : K.lookup C2 = some (excClassObj nm_2 q_2 C2 N2 bs_2 [.ref E2, .type "ValueError", .type "Exception", .type "BaseException", .type "object"] true sn_2 sub_2 ab_2 col_2 dd_2 m0_2 m1_2 m2_2 m3_2 m5_2 "ValueError.__new__"))
    (s_2 : PySem.W.findIn K (.ref C2) "__setattr__" = some (some (.builtin "object.__setattr__")))
    (t_2 : PySem.W.typeIn K (.ref i2) = some (.type "function"))
    (a_3 : PySem.W.findIn K (.ref C3) "__init__" = some (some (.ref i3)))
    (l_3 : K.lookup i3 = some ⟨oc_3, od_3, .func (PySem.W.fnOf "__init__" "NotPossible.__init__" (defArgs sIni3) (defBody sIni3) (defScope sIni3) .none kV_3 dc_3 pm_3 an_3 cd_3 ct_3), sl_3⟩)
    (c_3 : PySem.W.codeIn K cd_3 "NotPossible.__init__" = true)
    (k_3 : PySem.W.keepIn K (.ref i3) = true)
    (x_3 : K.lookup C3 = some (excClassObj nm_3 q_3 C3 N3 bs_3 [.ref E3, .type "ValueError", .type "Exception", .type "BaseException", .type "object"] true sn_3 sub_3 ab_3 col_3 dd_3 m0_3 m1_3 m2_3 m3_3 m5_3 "ValueError.__new__"))
    (s_3 : PySem.W.findIn K (.ref C3) "__setattr__" = some (some (.builtin "object.__setattr__")))
    (t_3 : PySem.W.typeIn K (.ref i3) = some (.type "function"))
    (a_4 : PySem.W.findIn K (.ref C4) "__init__" = some (some (.ref i4)))
    (l_4 : K.lookup i4 = some ⟨oc_4, od_4, .func (PySem.W.fnOf "__init__" "TooLong.__init__" (defArgs sIni4) (defBody sIni4) (defScope sIni4) .none kV_4 dc_4 pm_4 an_4 cd_4 ct_4), sl_4⟩)
    (c_4 : PySem.W.codeIn K cd_4 "TooLong.__init__" = true)
    (k_4 : PySem.W.keepIn K (.ref i4) = true)
    (x_4 : K.lookup C4 = some (excClassObj nm_4 q_4 C4 N4 bs_4 [.ref E4, .type "ValueError", .type "Exception", .type "BaseException", .type "object"] true sn_4 sub_4 ab_4 col_4 dd_4 m0_4 m1_4 m2_4 m3_4 m5_4 "ValueError.__new__"))
    (s_4 : PySem.W.findIn K (.ref C4) "__setattr__" = some (some (.builtin "object.__setattr__")))
    (t_4 : PySem.W.typeIn K (.ref i4) = some (.type "function"))
    (a_5 : PySem.W.findIn K (.ref C5) "__init__" = some (some (.ref i5)))
    (l_5 : K.lookup i5 = some ⟨oc_5, od_5, .func (PySem.W.fnOf "__init__" "BadTalk.__init__" (defArgs sIni5) (defBody sIni5) (defScope sIni5) .none kV_5 dc_5 pm_5 an_5 cd_5 ct_5), sl_5⟩)
    (c_5 : PySem.W.codeIn K cd_5 "BadTalk.__init__" = true)
    (k_5 : PySem.W.keepIn K (.ref i5) = true)
    (x_5 : K.lookup C5 = some (excClassObj nm_5 q_5 C5 N5 bs_5 [.ref E5, .type "ValueError", .type "Exception", .type "BaseException", .type "object"] true sn_5 sub_5 ab_5 col_5 dd_5 m0_5 m1_5 m2_5 m3_5 m5_5 "ValueError.__new__"))
    (s_5 : PySem.W.findIn K (.ref C5) "__setattr__" = some (some (.builtin "object.__setattr__")))
    (t_5 : PySem.W.typeIn K (.ref i5) = some (.type "function"))
    (a_6 : PySem.W.findIn K (.ref C6) "__init__" = some (some (.ref i6)))
    (l_6 : K.lookup i6 = some ⟨oc_6, od_6, .func (PySem.W.fnOf "__init__" "EndlessTurn.__init__" (defArgs sIni6) (defBody sIni6) (defScope sIni6) .none kV_6 dc_6 pm_6 an_6 cd_6 ct_6), sl_6⟩)
    (c_6 : PySem.W.codeIn K cd_6 "EndlessTurn.__init__" = true)
    (k_6 : PySem.W.keepIn K (.ref i6) = true)
    (x_6 : K.lookup C6 = some (excClassObj nm_6 q_6 C6 N6 bs_6 [.ref E6, .type "ValueError", .type "Exception", .type "BaseException", .type "object"] true sn_6 sub_6 ab_6 col_6 dd_6 m0_6 m1_6 m2_6 m3_6 m5_6 "ValueError.__new__"))
    (s_6 : PySem.W.findIn K (.ref C6) "__setattr__" = some (some (.builtin "object.__setattr__")))
    (t_6 : PySem.W.typeIn K (.ref i6) = some (.type "function"))
    (a_7 : PySem.W.findIn K (.ref C7) "__init__" = some (some (.ref i7)))
    (l_7 : K.lookup i7 = some ⟨oc_7, od_7, .func (PySem.W.fnOf "__init__" "BadPath.__init__" (defArgs sIni7) (defBody sIni7) (defScope sIni7) .none kV_7 dc_7 pm_7 an_7 cd_7 ct_7), sl_7⟩)
    (c_7 : PySem.W.codeIn K cd_7 "BadPath.__init__" = true)
    (k_7 : PySem.W.keepIn K (.ref i7) = true)
    (x_7 : K.lookup C7 = some (excClassObj nm_7 q_7 C7 N7 bs_7 [.ref E7, .type "ValueError", .type "Exception", .type "BaseException", .type "object"] true sn_7 sub_7 ab_7 col_7 dd_7 m0_7 m1_7 m2_7 m3_7 m5_7 "ValueError.__new__"))
    (s_7 : PySem.W.findIn K (.ref C7) "__setattr__" = some (some (.builtin "object.__setattr__")))
    (t_7 : PySem.W.typeIn K (.ref i7) = some (.type "function"))
    (a_8 : PySem.W.findIn K (.ref C8) "__init__" = some (some (.ref i8)))
    (l_8 : K.lookup i8 = some ⟨oc_8, od_8, .func (PySem.W.fnOf "__init__" "BadText.__init__" (defArgs sIni8) (defBody sIni8) (defScope sIni8) .none kV_8 dc_8 pm_8 an_8 cd_8 ct_8), sl_8⟩)
    (c_8 : PySem.W.codeIn K cd_8 "BadText.__init__" = true)
    (k_8 : PySem.W.keepIn K (.ref i8) = true)
    (x_8 : K.lookup C8 = some (excClassObj nm_8 q_8 C8 N8 bs_8 [.ref E8, .type "ValueError", .type "Exception", .type "BaseException", .type "object"] true sn_8 sub_8 ab_8 col_8 dd_8 m0_8 m1_8 m2_8 m3_8 m5_8 "ValueError.__new__"))
    (s_8 : PySem.W.findIn K (.ref C8) "__setattr__" = some (some (.builtin "object.__setattr__")))
    (t_8 : PySem.W.typeIn K (.ref i8) = some (.type "function"))
    (a_9 : PySem.W.findIn K (.ref C9) "__init__" = some (some (.ref i9)))
    (l_9 : K.lookup i9 = some ⟨oc_9, od_9, .func (PySem.W.fnOf "__init__" "BadRow.__init__" (defArgs sIni9) (defBody sIni9) (defScope sIni9) .none kV_9 dc_9 pm_9 an_9 cd_9 ct_9), sl_9⟩)
    (c_9 : PySem.W.codeIn K cd_9 "BadRow.__init__" = true)
    (k_9 : PySem.W.keepIn K (.ref i9) = true)
    (x_9 : K.lookup C9 = some (excClassObj nm_9 q_9 C9 N9 bs_9 [.ref E9, .type "ValueError", .type "Exception", .type "BaseException", .type "object"] true sn_9 sub_9 ab_9 col_9 dd_9 m0_9 m1_9 m2_9 m3_9 m5_9 "ValueError.__new__"))
    (s_9 : PySem.W.findIn K (.ref C9) "__setattr__" = some (some (.builtin "object.__setattr__")))
    (t_9 : PySem.W.typeIn K (.ref i9) = some (.type "function"))
    (a_10 : PySem.W.findIn K (.ref C10) "__init__" = some (some (.ref i10)))
    (l_10 : K.lookup i10 = some ⟨oc_10, od_10, .func (PySem.W.fnOf "__init__" "NoTurn.__init__" (defArgs sIni10) (defBody sIni10) (defScope sIni10) .none kV_10 dc_10 pm_10 an_10 cd_10 ct_10), sl_10⟩)
    (c_10 : PySem.W.codeIn K cd_10 "NoTurn.__init__" = true)
    (k_10 : PySem.W.keepIn K (.ref i10) = true)
    (x_10 : K.lookup C10 = some (excClassObj nm_10 q_10 C10 N10 bs_10 [.type "IndexError", .type "LookupError", .type "Exception", .type "BaseException", .type "object"] true sn_10 sub_10 ab_10 col_10 dd_10 m0_10 m1_10 m2_10 m3_10 m5_10 "IndexError.__new__"))
    (s_10 : PySem.W.findIn K (.ref C10) "__setattr__" = some (some (.builtin "object.__setattr__")))
    (t_10 : PySem.W.typeIn K (.ref i10) = some (.type "function"))
    (a_11 : PySem.W.findIn K (.ref C11) "__init__" = some (some (.ref i11)))
    (l_11 : K.lookup i11 = some ⟨oc_11, od_11, .func (PySem.W.fnOf "__init__" "NoArc.__init__" (defArgs sIni11) (defBody sIni11) (defScope sIni11) .none kV_11 dc_11 pm_11 an_11 cd_11 ct_11), sl_11⟩)
    (c_11 : PySem.W.codeIn K cd_11 "NoArc.__init__" = true)
    (k_11 : PySem.W.keepIn K (.ref i11) = true)
    (x_11 : K.lookup C11 = some (excClassObj nm_11 q_11 C11 N11 bs_11 [.type "LookupError", .type "Exception", .type "BaseException", .type "object"] true sn_11 sub_11 ab_11 col_11 dd_11 m0_11 m1_11 m2_11 m3_11 m5_11 "LookupError.__new__"))
    (s_11 : PySem.W.findIn K (.ref C11) "__setattr__" = some (some (.builtin "object.__setattr__")))
    (t_11 : PySem.W.typeIn K (.ref i11) = some (.type "function"))
    (a_12 : PySem.W.findIn K (.ref C12) "__init__" = some (some (.ref i12)))
    (l_12 : K.lookup i12 = some ⟨oc_12, od_12, .func (PySem.W.fnOf "__init__" "NoName.__init__" (defArgs sIni12) (defBody sIni12) (defScope sIni12) .none kV_12 dc_12 pm_12 an_12 cd_12 ct_12), sl_12⟩)
    (c_12 : PySem.W.codeIn K cd_12 "NoName.__init__" = true)
    (k_12 : PySem.W.keepIn K (.ref i12) = true)
    (x_12 : K.lookup C12 = some (excClassObj nm_12 q_12 C12 N12 bs_12 [.type "KeyError", .type "LookupError", .type "Exception", .type "BaseException", .type "object"] true sn_12 sub_12 ab_12 col_12 dd_12 m0_12 m1_12 m2_12 m3_12 m5_12 "LookupError.__new__"))
    (s_12 : PySem.W.findIn K (.ref C12) "__setattr__" = some (some (.builtin "object.__setattr__")))
    (t_12 : PySem.W.typeIn K (.ref i12) = some (.type "function"))
    (e_0 : PySem.W.subIn K (.ref C0) (.type "BaseException") = some true)
    (y_0 : PySem.W.typeIn K (.ref C0) = some (.type "type"))
    (h_0 : PySem.W.hasDictIn K C0 = true)
    (p_0 : PySem.W.keepIn K (.ref C0) = true)
    (e_1 : PySem.W.subIn K (.ref C1) (.type "BaseException") = some true)
    (y_1 : PySem.W.typeIn K (.ref C1) = some (.type "type"))
    (h_1 : PySem.W.hasDictIn K C1 = true)
    (p_1 : PySem.W.keepIn K (.ref C1) = true)
    (e_2 : PySem.W.subIn K (.ref C2) (.type "BaseException") = some true)
    (y_2 : PySem.W.typeIn K (.ref C2) = some (.type "type"))
    (h_2 : PySem.W.hasDictIn K C2 = true)
    (p_2 : PySem.W.keepIn K (.ref C2) = true)
    (e_3 : PySem.W.subIn K (.ref C3) (.type "BaseException") = some true)
    (y_3 : PySem.W.typeIn K (.ref C3) = some (.type "type"))
    (h_3 : PySem.W.hasDictIn K C3 = true)
    (p_3 : PySem.W.keepIn K (.ref C3) = true)
    (e_4 : PySem.W.subIn K (.ref C4) (.type "BaseException") = some true)
    (y_4 : PySem.W.typeIn K (.ref C4) = some (.type "type"))
    (h_4 : PySem.W.hasDictIn K C4 = true)
    (p_4 : PySem.W.keepIn K (.ref C4) = true)
    (e_5 : PySem.W.subIn K (.ref C5) (.type "BaseException") = some true)
    (y_5 : PySem.W.typeIn K (.ref C5) = some (.type "type"))
    (h_5 : PySem.W.hasDictIn K C5 = true)
    (p_5 : PySem.W.keepIn K (.ref C5) = true)
    (e_6 : PySem.W.subIn K (.ref C6) (.type "BaseException") = some true)
    (y_6 : PySem.W.typeIn K (.ref C6) = some (.type "type"))
    (h_6 : PySem.W.hasDictIn K C6 = true)
    (p_6 : PySem.W.keepIn K (.ref C6) = true)
    (e_7 : PySem.W.subIn K (.ref C7) (.type "BaseException") = some true)
    (y_7 : PySem.W.typeIn K (.ref C7) = some (.type "type"))
    (h_7 : PySem.W.hasDictIn K C7 = true)
    (p_7 : PySem.W.keepIn K (.ref C7) = true)
    (e_8 : PySem.W.subIn K (.ref C8) (.type "BaseException") = some true)
    (y_8 : PySem.W.typeIn K (.ref C8) = some (.type "type"))
    (h_8 : PySem.W.hasDictIn K C8 = true)
    (p_8 : PySem.W.keepIn K (.ref C8) = true)
    (e_9 : PySem.W.subIn K (.ref C9) (.type "BaseException") = some true)
    (y_9 : PySem.W.typeIn K (.ref C9) = some (.type "type"))
    (h_9 : PySem.W.hasDictIn K C9 = true)
    (p_9 : PySem.W.keepIn K (.ref C9) = true)
    (e_10 : PySem.W.subIn K (.ref C10) (.type "BaseException") = some true)
    (y_10 : PySem.W.typeIn K (.ref C10) = some (.type "type"))
    (h_10 : PySem.W.hasDictIn K C10 = true)
    (p_10 : PySem.W.keepIn K (.ref C10) = true)
    (e_11 : PySem.W.subIn K (.ref C11) (.type "BaseException") = some true)
    (y_11 : PySem.W.typeIn K (.ref C11) = some (.type "type"))
    (h_11 : PySem.W.hasDictIn K C11 = true)
    (p_11 : PySem.W.keepIn K (.ref C11) = true)
    (e_12 : PySem.W.subIn K (.ref C12) (.type "BaseException") = some true)
    (y_12 : PySem.W.typeIn K (.ref C12) = some (.type "type"))
    (h_12 : PySem.W.hasDictIn K C12 = true)
    (p_12 : PySem.W.keepIn K (.ref C12) = true)
    (e_13 : PySem.W.subIn K (.ref C13) (.type "BaseException") = some true)
    (y_13 : PySem.W.typeIn K (.ref C13) = some (.type "type"))
    (h_13 : PySem.W.hasDictIn K C13 = true)
    (p_13 : PySem.W.keepIn K (.ref C13) = true)
    (e_14 : PySem.W.subIn K (.ref C14) (.type "BaseException") = some true)
    (y_14 : PySem.W.typeIn K (.ref C14) = some (.type "type"))
    (h_14 : PySem.W.hasDictIn K C14 = true)
    (n10 : PySem.W.findIn K (.ref C10) "turn" = some none)
    (n11 : PySem.W.findIn K (.ref C11) "arc" = some none)
    (hn : PySem.W.specialIn K (.builtin "object.__class__") "__get__" = some (some (.builtin "getset_descriptor.__get__")))
    (ht : PySem.W.takesIn K (.builtin "object.__class__") = some true)
    (w_0 : PySem.W.findIn K (.ref C0) "__getattribute__" = some (some (.builtin "BaseException.__getattribute__")))
    (v_0 : PySem.W.findIn K (.ref C0) "__getattr__" = some none)
    (u_0 : PySem.W.findIn K (.ref C0) "__class__" = some (some (.builtin "object.__class__")))
    (o_0 : PySem.W.mroIn K C0 (.type "object") = some true)
    (r_0_0 : PySem.W.subIn K (.ref C0) (.ref C0) = some true)
    (r_0_1 : PySem.W.subIn K (.ref C0) (.ref C1) = some false)
    (r_0_2 : PySem.W.subIn K (.ref C0) (.ref C2) = some false)
    (r_0_3 : PySem.W.subIn K (.ref C0) (.ref C3) = some false)
    (r_0_4 : PySem.W.subIn K (.ref C0) (.ref C4) = some false)
    (r_0_5 : PySem.W.subIn K (.ref C0) (.ref C5) = some false)
    (r_0_6 : PySem.W.subIn K (.ref C0) (.ref C6) = some false)
    (r_0_7 : PySem.W.subIn K (.ref C0) (.ref C7) = some false)
    (r_0_8 : PySem.W.subIn K (.ref C0) (.ref C8) = some false)
    (r_0_9 : PySem.W.subIn K (.ref C0) (.ref C9) = some false)
    (r_0_10 : PySem.W.subIn K (.ref C0) (.ref C10) = some false)
    (r_0_11 : PySem.W.subIn K (.ref C0) (.ref C11) = some false)
    (r_0_12 : PySem.W.subIn K (.ref C0) (.ref C12) = some false)
    (r_0_13 : PySem.W.subIn K (.ref C0) (.ref C13) = some false)
    (r_0_14 : PySem.W.subIn K (.ref C0) (.ref C14) = some true)
    (j_0_0 : PySem.W.subIn K (.ref C0) (.type "ValueError") = some true)
    (j_0_1 : PySem.W.subIn K (.ref C0) (.type "LookupError") = some false)
    (j_0_2 : PySem.W.subIn K (.ref C0) (.type "IndexError") = some false)
    (j_0_3 : PySem.W.subIn K (.ref C0) (.type "KeyError") = some false)
    (j_0_4 : PySem.W.subIn K (.ref C0) (.type "RuntimeError") = some false)
    (f_0_name : PySem.W.findIn K (.ref C0) "name" = some none)
    (f_0_index : PySem.W.findIn K (.ref C0) "index" = some none)
    (f_0_event : PySem.W.findIn K (.ref C0) "event" = some none)
    (f_0_many : PySem.W.findIn K (.ref C0) "many" = some none)
    (f_0_endpoint : PySem.W.findIn K (.ref C0) "endpoint" = some none)
    (f_0_line : PySem.W.findIn K (.ref C0) "line" = some none)
    (f_0_column : PySem.W.findIn K (.ref C0) "column" = some none)
    (w_1 : PySem.W.findIn K (.ref C1) "__getattribute__" = some (some (.builtin "BaseException.__getattribute__")))
    (v_1 : PySem.W.findIn K (.ref C1) "__getattr__" = some none)
    (u_1 : PySem.W.findIn K (.ref C1) "__class__" = some (some (.builtin "object.__class__")))
    (o_1 : PySem.W.mroIn K C1 (.type "object") = some true)
    (r_1_0 : PySem.W.subIn K (.ref C1) (.ref C0) = some false)
    (r_1_1 : PySem.W.subIn K (.ref C1) (.ref C1) = some true)
    (r_1_2 : PySem.W.subIn K (.ref C1) (.ref C2) = some false)
    (r_1_3 : PySem.W.subIn K (.ref C1) (.ref C3) = some false)
    (r_1_4 : PySem.W.subIn K (.ref C1) (.ref C4) = some false)
    (r_1_5 : PySem.W.subIn K (.ref C1) (.ref C5) = some false)
    (r_1_6 : PySem.W.subIn K (.ref C1) (.ref C6) = some false)
    (r_1_7 : PySem.W.subIn K (.ref C1) (.ref C7) = some false)
    (r_1_8 : PySem.W.subIn K (.ref C1) (.ref C8) = some false)
    (r_1_9 : PySem.W.subIn K (.ref C1) (.ref C9) = some false)
    (r_1_10 : PySem.W.subIn K (.ref C1) (.ref C10) = some false)
    (r_1_11 : PySem.W.subIn K (.ref C1) (.ref C11) = some false)
    (r_1_12 : PySem.W.subIn K (.ref C1) (.ref C12) = some false)
    (r_1_13 : PySem.W.subIn K (.ref C1) (.ref C13) = some false)
    (r_1_14 : PySem.W.subIn K (.ref C1) (.ref C14) = some true)
    (j_1_0 : PySem.W.subIn K (.ref C1) (.type "ValueError") = some true)
    (j_1_1 : PySem.W.subIn K (.ref C1) (.type "LookupError") = some false)
    (j_1_2 : PySem.W.subIn K (.ref C1) (.type "IndexError") = some false)
    (j_1_3 : PySem.W.subIn K (.ref C1) (.type "KeyError") = some false)
    (j_1_4 : PySem.W.subIn K (.ref C1) (.type "RuntimeError") = some false)
    (f_1_name : PySem.W.findIn K (.ref C1) "name" = some none)
    (f_1_index : PySem.W.findIn K (.ref C1) "index" = some none)
    (f_1_event : PySem.W.findIn K (.ref C1) "event" = some none)
    (f_1_many : PySem.W.findIn K (.ref C1) "many" = some none)
    (f_1_endpoint : PySem.W.findIn K (.ref C1) "endpoint" = some none)
    (f_1_line : PySem.W.findIn K (.ref C1) "line" = some none)
    (f_1_column : PySem.W.findIn K (.ref C1) "column" = some none)
    (w_2 : PySem.W.findIn K (.ref C2) "__getattribute__" = some (some (.builtin "BaseException.__getattribute__")))
    (v_2 : PySem.W.findIn K (.ref C2) "__getattr__" = some none)
    (u_2 : PySem.W.findIn K (.ref C2) "__class__" = some (some (.builtin "object.__class__")))
    (o_2 : PySem.W.mroIn K C2 (.type "object") = some true)
    (r_2_0 : PySem.W.subIn K (.ref C2) (.ref C0) = some false)
    (r_2_1 : PySem.W.subIn K (.ref C2) (.ref C1) = some false)
    (r_2_2 : PySem.W.subIn K (.ref C2) (.ref C2) = some true)
    (r_2_3 : PySem.W.subIn K (.ref C2) (.ref C3) = some false)
    (r_2_4 : PySem.W.subIn K (.ref C2) (.ref C4) = some false)
    (r_2_5 : PySem.W.subIn K (.ref C2) (.ref C5) = some false)
    (r_2_6 : PySem.W.subIn K (.ref C2) (.ref C6) = some false)
    (r_2_7 : PySem.W.subIn K (.ref C2) (.ref C7) = some false)
    (r_2_8 : PySem.W.subIn K (.ref C2) (.ref C8) = some false)
    (r_2_9 : PySem.W.subIn K (.ref C2) (.ref C9) = some false)
    (r_2_10 : PySem.W.subIn K (.ref C2) (.ref C10) = some false)
    (r_2_11 : PySem.W.subIn K (.ref C2) (.ref C11) = some false)
    (r_2_12 : PySem.W.subIn K (.ref C2) (.ref C12) = some false)
    (r_2_13 : PySem.W.subIn K (.ref C2) (.ref C13) = some false)
    (r_2_14 : PySem.W.subIn K (.ref C2) (.ref C14) = some true)
    (j_2_0 : PySem.W.subIn K (.ref C2) (.type "ValueError") = some true)
    (j_2_1 : PySem.W.subIn K (.ref C2) (.type "LookupError") = some false)
    (j_2_2 : PySem.W.subIn K (.ref C2) (.type "IndexError") = some false)
    (j_2_3 : PySem.W.subIn K (.ref C2) (.type "KeyError") = some false)
    (j_2_4 : PySem.W.subIn K (.ref C2) (.type "RuntimeError") = some false)
    (f_2_name : PySem.W.findIn K (.ref C2) "name" = some none)
    (f_2_index : PySem.W.findIn K (.ref C2) "index" = some none)
    (f_2_event : PySem.W.findIn K (.ref C2) "event" = some none)
    (f_2_many : PySem.W.findIn K (.ref C2) "many" = some none)
    (f_2_endpoint : PySem.W.findIn K (.ref C2) "endpoint" = some none)
    (f_2_line : PySem.W.findIn K (.ref C2) "line" = some none)
    (f_2_column : PySem.W.findIn K (.ref C2) "column" = some none)
    (w_3 : PySem.W.findIn K (.ref C3) "__getattribute__" = some (some (.builtin "BaseException.__getattribute__")))
    (v_3 : PySem.W.findIn K (.ref C3) "__getattr__" = some none)
    (u_3 : PySem.W.findIn K (.ref C3) "__class__" = some (some (.builtin "object.__class__")))
    (o_3 : PySem.W.mroIn K C3 (.type "object") = some true)
    (r_3_0 : PySem.W.subIn K (.ref C3) (.ref C0) = some false)
    (r_3_1 : PySem.W.subIn K (.ref C3) (.ref C1) = some false)
    (r_3_2 : PySem.W.subIn K (.ref C3) (.ref C2) = some false)
    (r_3_3 : PySem.W.subIn K (.ref C3) (.ref C3) = some true)
    (r_3_4 : PySem.W.subIn K (.ref C3) (.ref C4) = some false)
    (r_3_5 : PySem.W.subIn K (.ref C3) (.ref C5) = some false)
    (r_3_6 : PySem.W.subIn K (.ref C3) (.ref C6) = some false)
    (r_3_7 : PySem.W.subIn K (.ref C3) (.ref C7) = some false)
    (r_3_8 : PySem.W.subIn K (.ref C3) (.ref C8) = some false)
    (r_3_9 : PySem.W.subIn K (.ref C3) (.ref C9) = some false)
    (r_3_10 : PySem.W.subIn K (.ref C3) (.ref C10) = some false)
    (r_3_11 : PySem.W.subIn K (.ref C3) (.ref C11) = some false)
    (r_3_12 : PySem.W.subIn K (.ref C3) (.ref C12) = some false)
    (r_3_13 : PySem.W.subIn K (.ref C3) (.ref C13) = some false)
    (r_3_14 : PySem.W.subIn K (.ref C3) (.ref C14) = some true)
    (j_3_0 : PySem.W.subIn K (.ref C3) (.type "ValueError") = some true)
    (j_3_1 : PySem.W.subIn K (.ref C3) (.type "LookupError") = some false)
    (j_3_2 : PySem.W.subIn K (.ref C3) (.type "IndexError") = some false)
    (j_3_3 : PySem.W.subIn K (.ref C3) (.type "KeyError") = some false)
    (j_3_4 : PySem.W.subIn K (.ref C3) (.type "RuntimeError") = some false)
    (f_3_name : PySem.W.findIn K (.ref C3) "name" = some none)
    (f_3_index : PySem.W.findIn K (.ref C3) "index" = some none)
    (f_3_event : PySem.W.findIn K (.ref C3) "event" = some none)
    (f_3_many : PySem.W.findIn K (.ref C3) "many" = some none)
    (f_3_endpoint : PySem.W.findIn K (.ref C3) "endpoint" = some none)
    (f_3_line : PySem.W.findIn K (.ref C3) "line" = some none)
    (f_3_column : PySem.W.findIn K (.ref C3) "column" = some none)
    (w_4 : PySem.W.findIn K (.ref C4) "__getattribute__" = some (some (.builtin "BaseException.__getattribute__")))
    (v_4 : PySem.W.findIn K (.ref C4) "__getattr__" = some none)
    (u_4 : PySem.W.findIn K (.ref C4) "__class__" = some (some (.builtin "object.__class__")))
    (o_4 : PySem.W.mroIn K C4 (.type "object") = some true)
    (r_4_0 : PySem.W.subIn K (.ref C4) (.ref C0) = some false)
    (r_4_1 : PySem.W.subIn K (.ref C4) (.ref C1) = some false)
    (r_4_2 : PySem.W.subIn K (.ref C4) (.ref C2) = some false)
    (r_4_3 : PySem.W.subIn K (.ref C4) (.ref C3) = some false)
    (r_4_4 : PySem.W.subIn K (.ref C4) (.ref C4) = some true)
    (r_4_5 : PySem.W.subIn K (.ref C4) (.ref C5) = some false)
    (r_4_6 : PySem.W.subIn K (.ref C4) (.ref C6) = some false)
    (r_4_7 : PySem.W.subIn K (.ref C4) (.ref C7) = some false)
    (r_4_8 : PySem.W.subIn K (.ref C4) (.ref C8) = some false)
    (r_4_9 : PySem.W.subIn K (.ref C4) (.ref C9) = some false)
    (r_4_10 : PySem.W.subIn K (.ref C4) (.ref C10) = some false)
    (r_4_11 : PySem.W.subIn K (.ref C4) (.ref C11) = some false)
    (r_4_12 : PySem.W.subIn K (.ref C4) (.ref C12) = some false)
    (r_4_13 : PySem.W.subIn K (.ref C4) (.ref C13) = some false)
    (r_4_14 : PySem.W.subIn K (.ref C4) (.ref C14) = some true)
    (j_4_0 : PySem.W.subIn K (.ref C4) (.type "ValueError") = some true)
    (j_4_1 : PySem.W.subIn K (.ref C4) (.type "LookupError") = some false)
    (j_4_2 : PySem.W.subIn K (.ref C4) (.type "IndexError") = some false)
    (j_4_3 : PySem.W.subIn K (.ref C4) (.type "KeyError") = some false)
    (j_4_4 : PySem.W.subIn K (.ref C4) (.type "RuntimeError") = some false)
    (f_4_name : PySem.W.findIn K (.ref C4) "name" = some none)
    (f_4_index : PySem.W.findIn K (.ref C4) "index" = some none)
    (f_4_event : PySem.W.findIn K (.ref C4) "event" = some none)
    (f_4_many : PySem.W.findIn K (.ref C4) "many" = some none)
    (f_4_endpoint : PySem.W.findIn K (.ref C4) "endpoint" = some none)
    (f_4_line : PySem.W.findIn K (.ref C4) "line" = some none)
    (f_4_column : PySem.W.findIn K (.ref C4) "column" = some none)
    (w_5 : PySem.W.findIn K (.ref C5) "__getattribute__" = some (some (.builtin "BaseException.__getattribute__")))
    (v_5 : PySem.W.findIn K (.ref C5) "__getattr__" = some none)
    (u_5 : PySem.W.findIn K (.ref C5) "__class__" = some (some (.builtin "object.__class__")))
    (o_5 : PySem.W.mroIn K C5 (.type "object") = some true)
    (r_5_0 : PySem.W.subIn K (.ref C5) (.ref C0) = some false)
    (r_5_1 : PySem.W.subIn K (.ref C5) (.ref C1) = some false)
    (r_5_2 : PySem.W.subIn K (.ref C5) (.ref C2) = some false)
    (r_5_3 : PySem.W.subIn K (.ref C5) (.ref C3) = some false)
    (r_5_4 : PySem.W.subIn K (.ref C5) (.ref C4) = some false)
    (r_5_5 : PySem.W.subIn K (.ref C5) (.ref C5) = some true)
    (r_5_6 : PySem.W.subIn K (.ref C5) (.ref C6) = some false)
    (r_5_7 : PySem.W.subIn K (.ref C5) (.ref C7) = some false)
    (r_5_8 : PySem.W.subIn K (.ref C5) (.ref C8) = some false)
    (r_5_9 : PySem.W.subIn K (.ref C5) (.ref C9) = some false)
    (r_5_10 : PySem.W.subIn K (.ref C5) (.ref C10) = some false)
    (r_5_11 : PySem.W.subIn K (.ref C5) (.ref C11) = some false)
    (r_5_12 : PySem.W.subIn K (.ref C5) (.ref C12) = some false)
    (r_5_13 : PySem.W.subIn K (.ref C5) (.ref C13) = some false)
    (r_5_14 : PySem.W.subIn K (.ref C5) (.ref C14) = some true)
    (j_5_0 : PySem.W.subIn K (.ref C5) (.type "ValueError") = some true)
    (j_5_1 : PySem.W.subIn K (.ref C5) (.type "LookupError") = some false)
    (j_5_2 : PySem.W.subIn K (.ref C5) (.type "IndexError") = some false)
    (j_5_3 : PySem.W.subIn K (.ref C5) (.type "KeyError") = some false)
    (j_5_4 : PySem.W.subIn K (.ref C5) (.type "RuntimeError") = some false)
    (f_5_name : PySem.W.findIn K (.ref C5) "name" = some none)
    (f_5_index : PySem.W.findIn K (.ref C5) "index" = some none)
    (f_5_event : PySem.W.findIn K (.ref C5) "event" = some none)
    (f_5_many : PySem.W.findIn K (.ref C5) "many" = some none)
    (f_5_endpoint : PySem.W.findIn K (.ref C5) "endpoint" = some none)
    (f_5_line : PySem.W.findIn K (.ref C5) "line" = some none)
    (f_5_column : PySem.W.findIn K (.ref C5) "column" = some none)
    (w_6 : PySem.W.findIn K (.ref C6) "__getattribute__" = some (some (.builtin "BaseException.__getattribute__")))
    (v_6 : PySem.W.findIn K (.ref C6) "__getattr__" = some none)
    (u_6 : PySem.W.findIn K (.ref C6) "__class__" = some (some (.builtin "object.__class__")))
    (o_6 : PySem.W.mroIn K C6 (.type "object") = some true)
    (r_6_0 : PySem.W.subIn K (.ref C6) (.ref C0) = some false)
    (r_6_1 : PySem.W.subIn K (.ref C6) (.ref C1) = some false)
    (r_6_2 : PySem.W.subIn K (.ref C6) (.ref C2) = some false)
    (r_6_3 : PySem.W.subIn K (.ref C6) (.ref C3) = some false)
    (r_6_4 : PySem.W.subIn K (.ref C6) (.ref C4) = some false)
    (r_6_5 : PySem.W.subIn K (.ref C6) (.ref C5) = some false)
    (r_6_6 : PySem.W.subIn K (.ref C6) (.ref C6) = some true)
    (r_6_7 : PySem.W.subIn K (.ref C6) (.ref C7) = some false)
    (r_6_8 : PySem.W.subIn K (.ref C6) (.ref C8) = some false)
    (r_6_9 : PySem.W.subIn K (.ref C6) (.ref C9) = some false)
    (r_6_10 : PySem.W.subIn K (.ref C6) (.ref C10) = some false)
    (r_6_11 : PySem.W.subIn K (.ref C6) (.ref C11) = some false)
    (r_6_12 : PySem.W.subIn K (.ref C6) (.ref C12) = some false)
    (r_6_13 : PySem.W.subIn K (.ref C6) (.ref C13) = some false)
    (r_6_14 : PySem.W.subIn K (.ref C6) (.ref C14) = some true)
    (j_6_0 : PySem.W.subIn K (.ref C6) (.type "ValueError") = some true)
    (j_6_1 : PySem.W.subIn K (.ref C6) (.type "LookupError") = some false)
    (j_6_2 : PySem.W.subIn K (.ref C6) (.type "IndexError") = some false)
    (j_6_3 : PySem.W.subIn K (.ref C6) (.type "KeyError") = some false)
    (j_6_4 : PySem.W.subIn K (.ref C6) (.type "RuntimeError") = some false)
    (f_6_name : PySem.W.findIn K (.ref C6) "name" = some none)
    (f_6_index : PySem.W.findIn K (.ref C6) "index" = some none)
    (f_6_event : PySem.W.findIn K (.ref C6) "event" = some none)
    (f_6_many : PySem.W.findIn K (.ref C6) "many" = some none)
    (f_6_endpoint : PySem.W.findIn K (.ref C6) "endpoint" = some none)
    (f_6_line : PySem.W.findIn K (.ref C6) "line" = some none)
    (f_6_column : PySem.W.findIn K (.ref C6) "column" = some none)
    (w_7 : PySem.W.findIn K (.ref C7) "__getattribute__" = some (some (.builtin "BaseException.__getattribute__")))
    (v_7 : PySem.W.findIn K (.ref C7) "__getattr__" = some none)
    (u_7 : PySem.W.findIn K (.ref C7) "__class__" = some (some (.builtin "object.__class__")))
    (o_7 : PySem.W.mroIn K C7 (.type "object") = some true)
    (r_7_0 : PySem.W.subIn K (.ref C7) (.ref C0) = some false)
    (r_7_1 : PySem.W.subIn K (.ref C7) (.ref C1) = some false)
    (r_7_2 : PySem.W.subIn K (.ref C7) (.ref C2) = some false)
    (r_7_3 : PySem.W.subIn K (.ref C7) (.ref C3) = some false)
    (r_7_4 : PySem.W.subIn K (.ref C7) (.ref C4) = some false)
    (r_7_5 : PySem.W.subIn K (.ref C7) (.ref C5) = some false)
    (r_7_6 : PySem.W.subIn K (.ref C7) (.ref C6) = some false)
    (r_7_7 : PySem.W.subIn K (.ref C7) (.ref C7) = some true)
    (r_7_8 : PySem.W.subIn K (.ref C7) (.ref C8) = some false)
    (r_7_9 : PySem.W.subIn K (.ref C7) (.ref C9) = some false)
    (r_7_10 : PySem.W.subIn K (.ref C7) (.ref C10) = some false)
    (r_7_11 : PySem.W.subIn K (.ref C7) (.ref C11) = some false)
    (r_7_12 : PySem.W.subIn K (.ref C7) (.ref C12) = some false)
    (r_7_13 : PySem.W.subIn K (.ref C7) (.ref C13) = some false)
    (r_7_14 : PySem.W.subIn K (.ref C7) (.ref C14) = some true)
    (j_7_0 : PySem.W.subIn K (.ref C7) (.type "ValueError") = some true)
    (j_7_1 : PySem.W.subIn K (.ref C7) (.type "LookupError") = some false)
    (j_7_2 : PySem.W.subIn K (.ref C7) (.type "IndexError") = some false)
    (j_7_3 : PySem.W.subIn K (.ref C7) (.type "KeyError") = some false)
    (j_7_4 : PySem.W.subIn K (.ref C7) (.type "RuntimeError") = some false)
    (f_7_name : PySem.W.findIn K (.ref C7) "name" = some none)
    (f_7_index : PySem.W.findIn K (.ref C7) "index" = some none)
    (f_7_event : PySem.W.findIn K (.ref C7) "event" = some none)
    (f_7_many : PySem.W.findIn K (.ref C7) "many" = some none)
    (f_7_endpoint : PySem.W.findIn K (.ref C7) "endpoint" = some none)
    (f_7_line : PySem.W.findIn K (.ref C7) "line" = some none)
    (f_7_column : PySem.W.findIn K (.ref C7) "column" = some none)
    (w_8 : PySem.W.findIn K (.ref C8) "__getattribute__" = some (some (.builtin "BaseException.__getattribute__")))
    (v_8 : PySem.W.findIn K (.ref C8) "__getattr__" = some none)
    (u_8 : PySem.W.findIn K (.ref C8) "__class__" = some (some (.builtin "object.__class__")))
    (o_8 : PySem.W.mroIn K C8 (.type "object") = some true)
    (r_8_0 : PySem.W.subIn K (.ref C8) (.ref C0) = some false)
    (r_8_1 : PySem.W.subIn K (.ref C8) (.ref C1) = some false)
    (r_8_2 : PySem.W.subIn K (.ref C8) (.ref C2) = some false)
    (r_8_3 : PySem.W.subIn K (.ref C8) (.ref C3) = some false)
    (r_8_4 : PySem.W.subIn K (.ref C8) (.ref C4) = some false)
    (r_8_5 : PySem.W.subIn K (.ref C8) (.ref C5) = some false)
    (r_8_6 : PySem.W.subIn K (.ref C8) (.ref C6) = some false)
    (r_8_7 : PySem.W.subIn K (.ref C8) (.ref C7) = some false)
    (r_8_8 : PySem.W.subIn K (.ref C8) (.ref C8) = some true)
    (r_8_9 : PySem.W.subIn K (.ref C8) (.ref C9) = some false)
    (r_8_10 : PySem.W.subIn K (.ref C8) (.ref C10) = some false)
    (r_8_11 : PySem.W.subIn K (.ref C8) (.ref C11) = some false)
    (r_8_12 : PySem.W.subIn K (.ref C8) (.ref C12) = some false)
    (r_8_13 : PySem.W.subIn K (.ref C8) (.ref C13) = some false)
    (r_8_14 : PySem.W.subIn K (.ref C8) (.ref C14) = some true)
    (j_8_0 : PySem.W.subIn K (.ref C8) (.type "ValueError") = some true)
    (j_8_1 : PySem.W.subIn K (.ref C8) (.type "LookupError") = some false)
    (j_8_2 : PySem.W.subIn K (.ref C8) (.type "IndexError") = some false)
    (j_8_3 : PySem.W.subIn K (.ref C8) (.type "KeyError") = some false)
    (j_8_4 : PySem.W.subIn K (.ref C8) (.type "RuntimeError") = some false)
    (f_8_name : PySem.W.findIn K (.ref C8) "name" = some none)
    (f_8_index : PySem.W.findIn K (.ref C8) "index" = some none)
    (f_8_event : PySem.W.findIn K (.ref C8) "event" = some none)
    (f_8_many : PySem.W.findIn K (.ref C8) "many" = some none)
    (f_8_endpoint : PySem.W.findIn K (.ref C8) "endpoint" = some none)
    (f_8_line : PySem.W.findIn K (.ref C8) "line" = some none)
    (f_8_column : PySem.W.findIn K (.ref C8) "column" = some none)
    (w_9 : PySem.W.findIn K (.ref C9) "__getattribute__" = some (some (.builtin "BaseException.__getattribute__")))
    (v_9 : PySem.W.findIn K (.ref C9) "__getattr__" = some none)
    (u_9 : PySem.W.findIn K (.ref C9) "__class__" = some (some (.builtin "object.__class__")))
    (o_9 : PySem.W.mroIn K C9 (.type "object") = some true)
    (r_9_0 : PySem.W.subIn K (.ref C9) (.ref C0) = some false)
    (r_9_1 : PySem.W.subIn K (.ref C9) (.ref C1) = some false)
    (r_9_2 : PySem.W.subIn K (.ref C9) (.ref C2) = some false)
    (r_9_3 : PySem.W.subIn K (.ref C9) (.ref C3) = some false)
    (r_9_4 : PySem.W.subIn K (.ref C9) (.ref C4) = some false)
    (r_9_5 : PySem.W.subIn K (.ref C9) (.ref C5) = some false)
    (r_9_6 : PySem.W.subIn K (.ref C9) (.ref C6) = some false)
    (r_9_7 : PySem.W.subIn K (.ref C9) (.ref C7) = some false)
    (r_9_8 : PySem.W.subIn K (.ref C9) (.ref C8) = some false)
    (r_9_9 : PySem.W.subIn K (.ref C9) (.ref C9) = some true)
    (r_9_10 : PySem.W.subIn K (.ref C9) (.ref C10) = some false)
    (r_9_11 : PySem.W.subIn K (.ref C9) (.ref C11) = some false)
    (r_9_12 : PySem.W.subIn K (.ref C9) (.ref C12) = some false)
    (r_9_13 : PySem.W.subIn K (.ref C9) (.ref C13) = some false)
    (r_9_14 : PySem.W.subIn K (.ref C9) (.ref C14) = some true)
    (j_9_0 : PySem.W.subIn K (.ref C9) (.type "ValueError") = some true)
    (j_9_1 : PySem.W.subIn K (.ref C9) (.type "LookupError") = some false)
    (j_9_2 : PySem.W.subIn K (.ref C9) (.type "IndexError") = some false)
    (j_9_3 : PySem.W.subIn K (.ref C9) (.type "KeyError") = some false)
    (j_9_4 : PySem.W.subIn K (.ref C9) (.type "RuntimeError") = some false)
    (f_9_name : PySem.W.findIn K (.ref C9) "name" = some none)
    (f_9_index : PySem.W.findIn K (.ref C9) "index" = some none)
    (f_9_event : PySem.W.findIn K (.ref C9) "event" = some none)
    (f_9_many : PySem.W.findIn K (.ref C9) "many" = some none)
    (f_9_endpoint : PySem.W.findIn K (.ref C9) "endpoint" = some none)
    (f_9_line : PySem.W.findIn K (.ref C9) "line" = some none)
    (f_9_column : PySem.W.findIn K (.ref C9) "column" = some none)
    (w_10 : PySem.W.findIn K (.ref C10) "__getattribute__" = some (some (.builtin "BaseException.__getattribute__")))
    (v_10 : PySem.W.findIn K (.ref C10) "__getattr__" = some none)
    (u_10 : PySem.W.findIn K (.ref C10) "__class__" = some (some (.builtin "object.__class__")))
    (o_10 : PySem.W.mroIn K C10 (.type "object") = some true)
    (r_10_0 : PySem.W.subIn K (.ref C10) (.ref C0) = some false)
    (r_10_1 : PySem.W.subIn K (.ref C10) (.ref C1) = some false)
    (r_10_2 : PySem.W.subIn K (.ref C10) (.ref C2) = some false)
    (r_10_3 : PySem.W.subIn K (.ref C10) (.ref C3) = some false)
    (r_10_4 : PySem.W.subIn K (.ref C10) (.ref C4) = some false)
    (r_10_5 : PySem.W.subIn K (.ref C10) (.ref C5) = some false)
    (r_10_6 : PySem.W.subIn K (.ref C10) (.ref C6) = some false)
    (r_10_7 : PySem.W.subIn K (.ref C10) (.ref C7) = some false)
    (r_10_8 : PySem.W.subIn K (.ref C10) (.ref C8) = some false)
    (r_10_9 : PySem.W.subIn K (.ref C10) (.ref C9) = some false)
    (r_10_10 : PySem.W.subIn K (.ref C10) (.ref C10) = some true)
    (r_10_11 : PySem.W.subIn K (.ref C10) (.ref C11) = some false)
    (r_10_12 : PySem.W.subIn K (.ref C10) (.ref C12) = some false)
    (r_10_13 : PySem.W.subIn K (.ref C10) (.ref C13) = some false)
    (r_10_14 : PySem.W.subIn K (.ref C10) (.ref C14) = some false)
    (j_10_0 : PySem.W.subIn K (.ref C10) (.type "ValueError") = some false)
    (j_10_1 : PySem.W.subIn K (.ref C10) (.type "LookupError") = some true)
    (j_10_2 : PySem.W.subIn K (.ref C10) (.type "IndexError") = some true)
    (j_10_3 : PySem.W.subIn K (.ref C10) (.type "KeyError") = some false)
    (j_10_4 : PySem.W.subIn K (.ref C10) (.type "RuntimeError") = some false)
    (f_10_name : PySem.W.findIn K (.ref C10) "name" = some none)
    (f_10_index : PySem.W.findIn K (.ref C10) "index" = some none)
    (f_10_event : PySem.W.findIn K (.ref C10) "event" = some none)
    (f_10_many : PySem.W.findIn K (.ref C10) "many" = some none)
    (f_10_endpoint : PySem.W.findIn K (.ref C10) "endpoint" = some none)
    (f_10_line : PySem.W.findIn K (.ref C10) "line" = some none)
    (f_10_column : PySem.W.findIn K (.ref C10) "column" = some none)
    (w_11 : PySem.W.findIn K (.ref C11) "__getattribute__" = some (some (.builtin "BaseException.__getattribute__")))
    (v_11 : PySem.W.findIn K (.ref C11) "__getattr__" = some none)
    (u_11 : PySem.W.findIn K (.ref C11) "__class__" = some (some (.builtin "object.__class__")))
    (o_11 : PySem.W.mroIn K C11 (.type "object") = some true)
    (r_11_0 : PySem.W.subIn K (.ref C11) (.ref C0) = some false)
    (r_11_1 : PySem.W.subIn K (.ref C11) (.ref C1) = some false)
    (r_11_2 : PySem.W.subIn K (.ref C11) (.ref C2) = some false)
    (r_11_3 : PySem.W.subIn K (.ref C11) (.ref C3) = some false)
    (r_11_4 : PySem.W.subIn K (.ref C11) (.ref C4) = some false)
    (r_11_5 : PySem.W.subIn K (.ref C11) (.ref C5) = some false)
    (r_11_6 : PySem.W.subIn K (.ref C11) (.ref C6) = some false)
    (r_11_7 : PySem.W.subIn K (.ref C11) (.ref C7) = some false)
    (r_11_8 : PySem.W.subIn K (.ref C11) (.ref C8) = some false)
    (r_11_9 : PySem.W.subIn K (.ref C11) (.ref C9) = some false)
    (r_11_10 : PySem.W.subIn K (.ref C11) (.ref C10) = some false)
    (r_11_11 : PySem.W.subIn K (.ref C11) (.ref C11) = some true)
    (r_11_12 : PySem.W.subIn K (.ref C11) (.ref C12) = some false)
    (r_11_13 : PySem.W.subIn K (.ref C11) (.ref C13) = some false)
    (r_11_14 : PySem.W.subIn K (.ref C11) (.ref C14) = some false)
    (j_11_0 : PySem.W.subIn K (.ref C11) (.type "ValueError") = some false)
    (j_11_1 : PySem.W.subIn K (.ref C11) (.type "LookupError") = some true)
    (j_11_2 : PySem.W.subIn K (.ref C11) (.type "IndexError") = some false)
    (j_11_3 : PySem.W.subIn K (.ref C11) (.type "KeyError") = some false)
    (j_11_4 : PySem.W.subIn K (.ref C11) (.type "RuntimeError") = some false)
    (f_11_name : PySem.W.findIn K (.ref C11) "name" = some none)
    (f_11_index : PySem.W.findIn K (.ref C11) "index" = some none)
    (f_11_event : PySem.W.findIn K (.ref C11) "event" = some none)
    (f_11_many : PySem.W.findIn K (.ref C11) "many" = some none)
    (f_11_endpoint : PySem.W.findIn K (.ref C11) "endpoint" = some none)
    (f_11_line : PySem.W.findIn K (.ref C11) "line" = some none)
    (f_11_column : PySem.W.findIn K (.ref C11) "column" = some none)
    (w_12 : PySem.W.findIn K (.ref C12) "__getattribute__" = some (some (.builtin "BaseException.__getattribute__")))
    (v_12 : PySem.W.findIn K (.ref C12) "__getattr__" = some none)
    (u_12 : PySem.W.findIn K (.ref C12) "__class__" = some (some (.builtin "object.__class__")))
    (o_12 : PySem.W.mroIn K C12 (.type "object") = some true)
    (r_12_0 : PySem.W.subIn K (.ref C12) (.ref C0) = some false)
    (r_12_1 : PySem.W.subIn K (.ref C12) (.ref C1) = some false)
    (r_12_2 : PySem.W.subIn K (.ref C12) (.ref C2) = some false)
    (r_12_3 : PySem.W.subIn K (.ref C12) (.ref C3) = some false)
    (r_12_4 : PySem.W.subIn K (.ref C12) (.ref C4) = some false)
    (r_12_5 : PySem.W.subIn K (.ref C12) (.ref C5) = some false)
    (r_12_6 : PySem.W.subIn K (.ref C12) (.ref C6) = some false)
    (r_12_7 : PySem.W.subIn K (.ref C12) (.ref C7) = some false)
    (r_12_8 : PySem.W.subIn K (.ref C12) (.ref C8) = some false)
    (r_12_9 : PySem.W.subIn K (.ref C12) (.ref C9) = some false)
    (r_12_10 : PySem.W.subIn K (.ref C12) (.ref C10) = some false)
    (r_12_11 : PySem.W.subIn K (.ref C12) (.ref C11) = some false)
    (r_12_12 : PySem.W.subIn K (.ref C12) (.ref C12) = some true)
    (r_12_13 : PySem.W.subIn K (.ref C12) (.ref C13) = some false)
    (r_12_14 : PySem.W.subIn K (.ref C12) (.ref C14) = some false)
    (j_12_0 : PySem.W.subIn K (.ref C12) (.type "ValueError") = some false)
    (j_12_1 : PySem.W.subIn K (.ref C12) (.type "LookupError") = some true)
    (j_12_2 : PySem.W.subIn K (.ref C12) (.type "IndexError") = some false)
    (j_12_3 : PySem.W.subIn K (.ref C12) (.type "KeyError") = some true)
    (j_12_4 : PySem.W.subIn K (.ref C12) (.type "RuntimeError") = some false)
    (f_12_name : PySem.W.findIn K (.ref C12) "name" = some none)
    (f_12_index : PySem.W.findIn K (.ref C12) "index" = some none)
    (f_12_event : PySem.W.findIn K (.ref C12) "event" = some none)
    (f_12_many : PySem.W.findIn K (.ref C12) "many" = some none)
    (f_12_endpoint : PySem.W.findIn K (.ref C12) "endpoint" = some none)
    (f_12_line : PySem.W.findIn K (.ref C12) "line" = some none)
    (f_12_column : PySem.W.findIn K (.ref C12) "column" = some none)
    (w_13 : PySem.W.findIn K (.ref C13) "__getattribute__" = some (some (.builtin "BaseException.__getattribute__")))
    (v_13 : PySem.W.findIn K (.ref C13) "__getattr__" = some none)
    (u_13 : PySem.W.findIn K (.ref C13) "__class__" = some (some (.builtin "object.__class__")))
    (o_13 : PySem.W.mroIn K C13 (.type "object") = some true)
    (r_13_0 : PySem.W.subIn K (.ref C13) (.ref C0) = some false)
    (r_13_1 : PySem.W.subIn K (.ref C13) (.ref C1) = some false)
    (r_13_2 : PySem.W.subIn K (.ref C13) (.ref C2) = some false)
    (r_13_3 : PySem.W.subIn K (.ref C13) (.ref C3) = some false)
    (r_13_4 : PySem.W.subIn K (.ref C13) (.ref C4) = some false)
    (r_13_5 : PySem.W.subIn K (.ref C13) (.ref C5) = some false)
    (r_13_6 : PySem.W.subIn K (.ref C13) (.ref C6) = some false)
    (r_13_7 : PySem.W.subIn K (.ref C13) (.ref C7) = some false)
    (r_13_8 : PySem.W.subIn K (.ref C13) (.ref C8) = some false)
    (r_13_9 : PySem.W.subIn K (.ref C13) (.ref C9) = some false)
    (r_13_10 : PySem.W.subIn K (.ref C13) (.ref C10) = some false)
    (r_13_11 : PySem.W.subIn K (.ref C13) (.ref C11) = some false)
    (r_13_12 : PySem.W.subIn K (.ref C13) (.ref C12) = some false)
    (r_13_13 : PySem.W.subIn K (.ref C13) (.ref C13) = some true)
    (r_13_14 : PySem.W.subIn K (.ref C13) (.ref C14) = some false)
    (j_13_0 : PySem.W.subIn K (.ref C13) (.type "ValueError") = some false)
    (j_13_1 : PySem.W.subIn K (.ref C13) (.type "LookupError") = some false)
    (j_13_2 : PySem.W.subIn K (.ref C13) (.type "IndexError") = some false)
    (j_13_3 : PySem.W.subIn K (.ref C13) (.type "KeyError") = some false)
    (j_13_4 : PySem.W.subIn K (.ref C13) (.type "RuntimeError") = some true)
    (f_13_name : PySem.W.findIn K (.ref C13) "name" = some none)
    (f_13_index : PySem.W.findIn K (.ref C13) "index" = some none)
    (f_13_event : PySem.W.findIn K (.ref C13) "event" = some none)
    (f_13_many : PySem.W.findIn K (.ref C13) "many" = some none)
    (f_13_endpoint : PySem.W.findIn K (.ref C13) "endpoint" = some none)
    (f_13_line : PySem.W.findIn K (.ref C13) "line" = some none)
    (f_13_column : PySem.W.findIn K (.ref C13) "column" = some none)
    (qz13 : PySem.W.excIn K C13 [.type "RuntimeError", .type "Exception", .type "BaseException", .type "object"] "RuntimeError.__new__" = true)
    (zisinstance : PySem.W.nsIn K mainGlobals "isinstance" = some none)
    (zint : PySem.W.nsIn K mainGlobals "int" = some none)
    (zlen : PySem.W.nsIn K mainGlobals "len" = some none)
    (zrange : PySem.W.nsIn K mainGlobals "range" = some none)
    (zrepr : PySem.W.nsIn K mainGlobals "repr" = some none)
    (zmax : PySem.W.nsIn K mainGlobals "max" = some none)
    (zmin : PySem.W.nsIn K mainGlobals "min" = some none)
    (zabs : PySem.W.nsIn K mainGlobals "abs" = some none)
    (zenumerate : PySem.W.nsIn K mainGlobals "enumerate" = some none)
    (zValueError : PySem.W.nsIn K mainGlobals "ValueError" = some none)
    (zLookupError : PySem.W.nsIn K mainGlobals "LookupError" = some none)
    (zIndexError : PySem.W.nsIn K mainGlobals "IndexError" = some none)
    (zKeyError : PySem.W.nsIn K mainGlobals "KeyError" = some none)
    (zRuntimeError : PySem.W.nsIn K mainGlobals "RuntimeError" = some none) :
    ∃ fd : FuncData, (∀ (s : Shared) (v : Value), BindsTo s fd ⟨[v], []⟩ [("_law_script", v)]) ∧ ∀ base : Heap, K.In base → base.Ns mainGlobals mg → FnG P w K mg base 5 fa fd ["_law_script"] (spLaw K) := by
  have ef := hfa.symm.trans (PySem.W.mg_of X G a10)
  cases ef
  have F1 := fun_mk (st := sBag) l1 c1 k1
  have b1 := F1.binds (ps := ["_law_script", "_law_at"]) fun _ _ _ _ _ _ us hl => match us, hl with | [_, _], _ => rfl
  have g1 := PySem.W.mg_of X G a1
  have F2 := fun_mk (st := sTake) l2 c2 k2
  have b2 := F2.binds (ps := ["_law_bag_here", "_law_many"]) fun _ _ _ _ _ _ us hl => match us, hl with | [_, _], _ => rfl
  have g2 := PySem.W.mg_of X G a2
  have F3 := fun_mk (st := sRaise) l3 c3 k3
  have b3 := F3.binds (ps := ["_law_which", "_law_value"]) fun _ _ _ _ _ _ us hl => match us, hl with | [_, _], _ => rfl
  have g3 := PySem.W.mg_of X G a3
  have F4 := fun_mk (st := sRaiseO) l4 c4 k4
  have b4 := F4.binds (ps := ["_law_which", "_law_value"]) fun _ _ _ _ _ _ us hl => match us, hl with | [_, _], _ => rfl
  have g4 := PySem.W.mg_of X G a4
  have F5 := fun_mk (st := sSorts) l5 c5 k5
  have b5 := F5.binds (ps := ["_law_e"]) fun _ _ _ _ _ _ us hl => match us, hl with | [_], _ => rfl
  have g5 := PySem.W.mg_of X G a5
  have F6 := fun_mk (st := sBases) l6 c6 k6
  have b6 := F6.binds (ps := ["_law_e"]) fun _ _ _ _ _ _ us hl => match us, hl with | [_], _ => rfl
  have g6 := PySem.W.mg_of X G a6
  have F7 := fun_mk (st := sField) l7 c7 k7
  have b7 := F7.binds (ps := ["_law_e", "_law_which"]) fun _ _ _ _ _ _ us hl => match us, hl with | [_, _], _ => rfl
  have g7 := PySem.W.mg_of X G a7
  have F8 := fun_mk (st := sTold) l8 c8 k8
  have b8 := F8.binds (ps := ["_law_which", "_law_value"]) fun _ _ _ _ _ _ us hl => match us, hl with | [_, _], _ => rfl
  have g8 := PySem.W.mg_of X G a8
  have F9 := fun_mk (st := sToldO) l9 c9 k9
  have b9 := F9.binds (ps := ["_law_which", "_law_value"]) fun _ _ _ _ _ _ us hl => match us, hl with | [_, _], _ => rfl
  have g9 := PySem.W.mg_of X G a9
  have F10 := fun_mk (st := sLaw) l10 c10 k10
  have b10 := F10.binds (ps := ["_law_script"]) fun _ _ _ _ _ _ us hl => match us, hl with | [_], _ => rfl
  have g10 := PySem.W.mg_of X G a10
  obtain ⟨c, ec0, ec1, ec2, ec3, ec4, ec5, ec6, ec7, ec8, ec9, ec10, ec11, ec12, ec13, ec14⟩ : ∃ c : Nat → Addr, c 0 = C0 ∧ c 1 = C1 ∧ c 2 = C2 ∧ c 3 = C3 ∧ c 4 = C4 ∧ c 5 = C5 ∧ c 6 = C6 ∧ c 7 = C7 ∧ c 8 = C8 ∧ c 9 = C9 ∧ c 10 = C10 ∧ c 11 = C11 ∧ c 12 = C12 ∧ c 13 = C13 ∧ c 14 = C14 := ⟨cOf C0 C1 C2 C3 C4 C5 C6 C7 C8 C9 C10 C11 C12 C13 C14, rfl, rfl, rfl, rfl, rfl, rfl, rfl, rfl, rfl, rfl, rfl, rfl, rfl, rfl, rfl⟩
  have T : Txt K mg := { isi := PySem.W.mg_none_of X G zisinstance, int := PySem.W.mg_none_of X G zint, len := PySem.W.mg_none_of X G zlen, range := PySem.W.mg_none_of X G zrange, repr := PySem.W.mg_none_of X G zrepr, max := PySem.W.mg_none_of X G zmax, min := PySem.W.mg_none_of X G zmin, abs := PySem.W.mg_none_of X G zabs }
  have G_0 : mg "BadSetting" = some (.ref (c 0)) := by rw [ec0]; exact PySem.W.mg_of X G g_0
  have G_1 : mg "BadWrite" = some (.ref (c 1)) := by rw [ec1]; exact PySem.W.mg_of X G g_1
  have G_2 : mg "BadOrder" = some (.ref (c 2)) := by rw [ec2]; exact PySem.W.mg_of X G g_2
  have G_3 : mg "NotPossible" = some (.ref (c 3)) := by rw [ec3]; exact PySem.W.mg_of X G g_3
  have G_4 : mg "TooLong" = some (.ref (c 4)) := by rw [ec4]; exact PySem.W.mg_of X G g_4
  have G_5 : mg "BadTalk" = some (.ref (c 5)) := by rw [ec5]; exact PySem.W.mg_of X G g_5
  have G_6 : mg "EndlessTurn" = some (.ref (c 6)) := by rw [ec6]; exact PySem.W.mg_of X G g_6
  have G_7 : mg "BadPath" = some (.ref (c 7)) := by rw [ec7]; exact PySem.W.mg_of X G g_7
  have G_8 : mg "BadText" = some (.ref (c 8)) := by rw [ec8]; exact PySem.W.mg_of X G g_8
  have G_9 : mg "BadRow" = some (.ref (c 9)) := by rw [ec9]; exact PySem.W.mg_of X G g_9
  have G_10 : mg "NoTurn" = some (.ref (c 10)) := by rw [ec10]; exact PySem.W.mg_of X G g_10
  have G_11 : mg "NoArc" = some (.ref (c 11)) := by rw [ec11]; exact PySem.W.mg_of X G g_11
  have G_12 : mg "NoName" = some (.ref (c 12)) := by rw [ec12]; exact PySem.W.mg_of X G g_12
  have G_13 : mg "NothingDone" = some (.ref (c 13)) := by rw [ec13]; exact PySem.W.mg_of X G g_13
  have G_14 : mg "LatewordsError" = some (.ref (c 14)) := by rw [ec14]; exact PySem.W.mg_of X G g_14
  have EC0 : ECls K c C0 (sB 0) tV := { ex := ⟨w_0, v_0, e_0, h_0, u_0, hn, ht, o_0⟩, xf := ⟨w_0, v_0, e_0, h_0⟩, ks := (fun j hj => match j, hj with | 0, _ => (by rw [ec0]; exact kit_ref r_0_0 r_0_0 h_0 y_0) | 1, _ => (by rw [ec1]; exact kit_ref r_0_0 r_0_1 h_1 y_1) | 2, _ => (by rw [ec2]; exact kit_ref r_0_0 r_0_2 h_2 y_2) | 3, _ => (by rw [ec3]; exact kit_ref r_0_0 r_0_3 h_3 y_3) | 4, _ => (by rw [ec4]; exact kit_ref r_0_0 r_0_4 h_4 y_4) | 5, _ => (by rw [ec5]; exact kit_ref r_0_0 r_0_5 h_5 y_5) | 6, _ => (by rw [ec6]; exact kit_ref r_0_0 r_0_6 h_6 y_6) | 7, _ => (by rw [ec7]; exact kit_ref r_0_0 r_0_7 h_7 y_7) | 8, _ => (by rw [ec8]; exact kit_ref r_0_0 r_0_8 h_8 y_8) | 9, _ => (by rw [ec9]; exact kit_ref r_0_0 r_0_9 h_9 y_9) | 10, _ => (by rw [ec10]; exact kit_ref r_0_0 r_0_10 h_10 y_10) | 11, _ => (by rw [ec11]; exact kit_ref r_0_0 r_0_11 h_11 y_11) | 12, _ => (by rw [ec12]; exact kit_ref r_0_0 r_0_12 h_12 y_12) | 13, _ => (by rw [ec13]; exact kit_ref r_0_0 r_0_13 h_13 y_13) | 14, _ => (by rw [ec14]; exact kit_ref r_0_0 r_0_14 h_14 y_14) | n + 15, hj => absurd hj (by omega)), kt := (fun j n h => match j, h with | 0, h => (by cases h; exact kit_ty (by decide +kernel) j_0_0) | 1, h => (by cases h; exact kit_ty (by decide +kernel) j_0_1) | 2, h => (by cases h; exact kit_ty (by decide +kernel) j_0_2) | 3, h => (by cases h; exact kit_ty (by decide +kernel) j_0_3) | 4, h => (by cases h; exact kit_ty (by decide +kernel) j_0_4) | n + 5, h => nomatch (show none = some _ from h)), no := List.forall_mem_cons.mpr ⟨f_0_name, List.forall_mem_cons.mpr ⟨f_0_index, List.forall_mem_cons.mpr ⟨f_0_event, List.forall_mem_cons.mpr ⟨f_0_many, List.forall_mem_cons.mpr ⟨f_0_endpoint, List.forall_mem_cons.mpr ⟨f_0_line, List.forall_mem_cons.mpr ⟨f_0_column, fun _ h => nomatch h⟩⟩⟩⟩⟩⟩⟩ }
  have EC1 : ECls K c C1 (sB 1) tV := { ex := ⟨w_1, v_1, e_1, h_1, u_1, hn, ht, o_1⟩, xf := ⟨w_1, v_1, e_1, h_1⟩, ks := (fun j hj => match j, hj with | 0, _ => (by rw [ec0]; exact kit_ref r_1_1 r_1_0 h_0 y_0) | 1, _ => (by rw [ec1]; exact kit_ref r_1_1 r_1_1 h_1 y_1) | 2, _ => (by rw [ec2]; exact kit_ref r_1_1 r_1_2 h_2 y_2) | 3, _ => (by rw [ec3]; exact kit_ref r_1_1 r_1_3 h_3 y_3) | 4, _ => (by rw [ec4]; exact kit_ref r_1_1 r_1_4 h_4 y_4) | 5, _ => (by rw [ec5]; exact kit_ref r_1_1 r_1_5 h_5 y_5) | 6, _ => (by rw [ec6]; exact kit_ref r_1_1 r_1_6 h_6 y_6) | 7, _ => (by rw [ec7]; exact kit_ref r_1_1 r_1_7 h_7 y_7) | 8, _ => (by rw [ec8]; exact kit_ref r_1_1 r_1_8 h_8 y_8) | 9, _ => (by rw [ec9]; exact kit_ref r_1_1 r_1_9 h_9 y_9) | 10, _ => (by rw [ec10]; exact kit_ref r_1_1 r_1_10 h_10 y_10) | 11, _ => (by rw [ec11]; exact kit_ref r_1_1 r_1_11 h_11 y_11) | 12, _ => (by rw [ec12]; exact kit_ref r_1_1 r_1_12 h_12 y_12) | 13, _ => (by rw [ec13]; exact kit_ref r_1_1 r_1_13 h_13 y_13) | 14, _ => (by rw [ec14]; exact kit_ref r_1_1 r_1_14 h_14 y_14) | n + 15, hj => absurd hj (by omega)), kt := (fun j n h => match j, h with | 0, h => (by cases h; exact kit_ty (by decide +kernel) j_1_0) | 1, h => (by cases h; exact kit_ty (by decide +kernel) j_1_1) | 2, h => (by cases h; exact kit_ty (by decide +kernel) j_1_2) | 3, h => (by cases h; exact kit_ty (by decide +kernel) j_1_3) | 4, h => (by cases h; exact kit_ty (by decide +kernel) j_1_4) | n + 5, h => nomatch (show none = some _ from h)), no := List.forall_mem_cons.mpr ⟨f_1_name, List.forall_mem_cons.mpr ⟨f_1_index, List.forall_mem_cons.mpr ⟨f_1_event, List.forall_mem_cons.mpr ⟨f_1_many, List.forall_mem_cons.mpr ⟨f_1_endpoint, List.forall_mem_cons.mpr ⟨f_1_line, List.forall_mem_cons.mpr ⟨f_1_column, fun _ h => nomatch h⟩⟩⟩⟩⟩⟩⟩ }
  have EC2 : ECls K c C2 (sB 2) tV := { ex := ⟨w_2, v_2, e_2, h_2, u_2, hn, ht, o_2⟩, xf := ⟨w_2, v_2, e_2, h_2⟩, ks := (fun j hj => match j, hj with | 0, _ => (by rw [ec0]; exact kit_ref r_2_2 r_2_0 h_0 y_0) | 1, _ => (by rw [ec1]; exact kit_ref r_2_2 r_2_1 h_1 y_1) | 2, _ => (by rw [ec2]; exact kit_ref r_2_2 r_2_2 h_2 y_2) | 3, _ => (by rw [ec3]; exact kit_ref r_2_2 r_2_3 h_3 y_3) | 4, _ => (by rw [ec4]; exact kit_ref r_2_2 r_2_4 h_4 y_4) | 5, _ => (by rw [ec5]; exact kit_ref r_2_2 r_2_5 h_5 y_5) | 6, _ => (by rw [ec6]; exact kit_ref r_2_2 r_2_6 h_6 y_6) | 7, _ => (by rw [ec7]; exact kit_ref r_2_2 r_2_7 h_7 y_7) | 8, _ => (by rw [ec8]; exact kit_ref r_2_2 r_2_8 h_8 y_8) | 9, _ => (by rw [ec9]; exact kit_ref r_2_2 r_2_9 h_9 y_9) | 10, _ => (by rw [ec10]; exact kit_ref r_2_2 r_2_10 h_10 y_10) | 11, _ => (by rw [ec11]; exact kit_ref r_2_2 r_2_11 h_11 y_11) | 12, _ => (by rw [ec12]; exact kit_ref r_2_2 r_2_12 h_12 y_12) | 13, _ => (by rw [ec13]; exact kit_ref r_2_2 r_2_13 h_13 y_13) | 14, _ => (by rw [ec14]; exact kit_ref r_2_2 r_2_14 h_14 y_14) | n + 15, hj => absurd hj (by omega)), kt := (fun j n h => match j, h with | 0, h => (by cases h; exact kit_ty (by decide +kernel) j_2_0) | 1, h => (by cases h; exact kit_ty (by decide +kernel) j_2_1) | 2, h => (by cases h; exact kit_ty (by decide +kernel) j_2_2) | 3, h => (by cases h; exact kit_ty (by decide +kernel) j_2_3) | 4, h => (by cases h; exact kit_ty (by decide +kernel) j_2_4) | n + 5, h => nomatch (show none = some _ from h)), no := List.forall_mem_cons.mpr ⟨f_2_name, List.forall_mem_cons.mpr ⟨f_2_index, List.forall_mem_cons.mpr ⟨f_2_event, List.forall_mem_cons.mpr ⟨f_2_many, List.forall_mem_cons.mpr ⟨f_2_endpoint, List.forall_mem_cons.mpr ⟨f_2_line, List.forall_mem_cons.mpr ⟨f_2_column, fun _ h => nomatch h⟩⟩⟩⟩⟩⟩⟩ }
  have EC3 : ECls K c C3 (sB 3) tV := { ex := ⟨w_3, v_3, e_3, h_3, u_3, hn, ht, o_3⟩, xf := ⟨w_3, v_3, e_3, h_3⟩, ks := (fun j hj => match j, hj with | 0, _ => (by rw [ec0]; exact kit_ref r_3_3 r_3_0 h_0 y_0) | 1, _ => (by rw [ec1]; exact kit_ref r_3_3 r_3_1 h_1 y_1) | 2, _ => (by rw [ec2]; exact kit_ref r_3_3 r_3_2 h_2 y_2) | 3, _ => (by rw [ec3]; exact kit_ref r_3_3 r_3_3 h_3 y_3) | 4, _ => (by rw [ec4]; exact kit_ref r_3_3 r_3_4 h_4 y_4) | 5, _ => (by rw [ec5]; exact kit_ref r_3_3 r_3_5 h_5 y_5) | 6, _ => (by rw [ec6]; exact kit_ref r_3_3 r_3_6 h_6 y_6) | 7, _ => (by rw [ec7]; exact kit_ref r_3_3 r_3_7 h_7 y_7) | 8, _ => (by rw [ec8]; exact kit_ref r_3_3 r_3_8 h_8 y_8) | 9, _ => (by rw [ec9]; exact kit_ref r_3_3 r_3_9 h_9 y_9) | 10, _ => (by rw [ec10]; exact kit_ref r_3_3 r_3_10 h_10 y_10) | 11, _ => (by rw [ec11]; exact kit_ref r_3_3 r_3_11 h_11 y_11) | 12, _ => (by rw [ec12]; exact kit_ref r_3_3 r_3_12 h_12 y_12) | 13, _ => (by rw [ec13]; exact kit_ref r_3_3 r_3_13 h_13 y_13) | 14, _ => (by rw [ec14]; exact kit_ref r_3_3 r_3_14 h_14 y_14) | n + 15, hj => absurd hj (by omega)), kt := (fun j n h => match j, h with | 0, h => (by cases h; exact kit_ty (by decide +kernel) j_3_0) | 1, h => (by cases h; exact kit_ty (by decide +kernel) j_3_1) | 2, h => (by cases h; exact kit_ty (by decide +kernel) j_3_2) | 3, h => (by cases h; exact kit_ty (by decide +kernel) j_3_3) | 4, h => (by cases h; exact kit_ty (by decide +kernel) j_3_4) | n + 5, h => nomatch (show none = some _ from h)), no := List.forall_mem_cons.mpr ⟨f_3_name, List.forall_mem_cons.mpr ⟨f_3_index, List.forall_mem_cons.mpr ⟨f_3_event, List.forall_mem_cons.mpr ⟨f_3_many, List.forall_mem_cons.mpr ⟨f_3_endpoint, List.forall_mem_cons.mpr ⟨f_3_line, List.forall_mem_cons.mpr ⟨f_3_column, fun _ h => nomatch h⟩⟩⟩⟩⟩⟩⟩ }
  have EC4 : ECls K c C4 (sB 4) tV := { ex := ⟨w_4, v_4, e_4, h_4, u_4, hn, ht, o_4⟩, xf := ⟨w_4, v_4, e_4, h_4⟩, ks := (fun j hj => match j, hj with | 0, _ => (by rw [ec0]; exact kit_ref r_4_4 r_4_0 h_0 y_0) | 1, _ => (by rw [ec1]; exact kit_ref r_4_4 r_4_1 h_1 y_1) | 2, _ => (by rw [ec2]; exact kit_ref r_4_4 r_4_2 h_2 y_2) | 3, _ => (by rw [ec3]; exact kit_ref r_4_4 r_4_3 h_3 y_3) | 4, _ => (by rw [ec4]; exact kit_ref r_4_4 r_4_4 h_4 y_4) | 5, _ => (by rw [ec5]; exact kit_ref r_4_4 r_4_5 h_5 y_5) | 6, _ => (by rw [ec6]; exact kit_ref r_4_4 r_4_6 h_6 y_6) | 7, _ => (by rw [ec7]; exact kit_ref r_4_4 r_4_7 h_7 y_7) | 8, _ => (by rw [ec8]; exact kit_ref r_4_4 r_4_8 h_8 y_8) | 9, _ => (by rw [ec9]; exact kit_ref r_4_4 r_4_9 h_9 y_9) | 10, _ => (by rw [ec10]; exact kit_ref r_4_4 r_4_10 h_10 y_10) | 11, _ => (by rw [ec11]; exact kit_ref r_4_4 r_4_11 h_11 y_11) | 12, _ => (by rw [ec12]; exact kit_ref r_4_4 r_4_12 h_12 y_12) | 13, _ => (by rw [ec13]; exact kit_ref r_4_4 r_4_13 h_13 y_13) | 14, _ => (by rw [ec14]; exact kit_ref r_4_4 r_4_14 h_14 y_14) | n + 15, hj => absurd hj (by omega)), kt := (fun j n h => match j, h with | 0, h => (by cases h; exact kit_ty (by decide +kernel) j_4_0) | 1, h => (by cases h; exact kit_ty (by decide +kernel) j_4_1) | 2, h => (by cases h; exact kit_ty (by decide +kernel) j_4_2) | 3, h => (by cases h; exact kit_ty (by decide +kernel) j_4_3) | 4, h => (by cases h; exact kit_ty (by decide +kernel) j_4_4) | n + 5, h => nomatch (show none = some _ from h)), no := List.forall_mem_cons.mpr ⟨f_4_name, List.forall_mem_cons.mpr ⟨f_4_index, List.forall_mem_cons.mpr ⟨f_4_event, List.forall_mem_cons.mpr ⟨f_4_many, List.forall_mem_cons.mpr ⟨f_4_endpoint, List.forall_mem_cons.mpr ⟨f_4_line, List.forall_mem_cons.mpr ⟨f_4_column, fun _ h => nomatch h⟩⟩⟩⟩⟩⟩⟩ }
  have EC5 : ECls K c C5 (sB 5) tV := { ex := ⟨w_5, v_5, e_5, h_5, u_5, hn, ht, o_5⟩, xf := ⟨w_5, v_5, e_5, h_5⟩, ks := (fun j hj => match j, hj with | 0, _ => (by rw [ec0]; exact kit_ref r_5_5 r_5_0 h_0 y_0) | 1, _ => (by rw [ec1]; exact kit_ref r_5_5 r_5_1 h_1 y_1) | 2, _ => (by rw [ec2]; exact kit_ref r_5_5 r_5_2 h_2 y_2) | 3, _ => (by rw [ec3]; exact kit_ref r_5_5 r_5_3 h_3 y_3) | 4, _ => (by rw [ec4]; exact kit_ref r_5_5 r_5_4 h_4 y_4) | 5, _ => (by rw [ec5]; exact kit_ref r_5_5 r_5_5 h_5 y_5) | 6, _ => (by rw [ec6]; exact kit_ref r_5_5 r_5_6 h_6 y_6) | 7, _ => (by rw [ec7]; exact kit_ref r_5_5 r_5_7 h_7 y_7) | 8, _ => (by rw [ec8]; exact kit_ref r_5_5 r_5_8 h_8 y_8) | 9, _ => (by rw [ec9]; exact kit_ref r_5_5 r_5_9 h_9 y_9) | 10, _ => (by rw [ec10]; exact kit_ref r_5_5 r_5_10 h_10 y_10) | 11, _ => (by rw [ec11]; exact kit_ref r_5_5 r_5_11 h_11 y_11) | 12, _ => (by rw [ec12]; exact kit_ref r_5_5 r_5_12 h_12 y_12) | 13, _ => (by rw [ec13]; exact kit_ref r_5_5 r_5_13 h_13 y_13) | 14, _ => (by rw [ec14]; exact kit_ref r_5_5 r_5_14 h_14 y_14) | n + 15, hj => absurd hj (by omega)), kt := (fun j n h => match j, h with | 0, h => (by cases h; exact kit_ty (by decide +kernel) j_5_0) | 1, h => (by cases h; exact kit_ty (by decide +kernel) j_5_1) | 2, h => (by cases h; exact kit_ty (by decide +kernel) j_5_2) | 3, h => (by cases h; exact kit_ty (by decide +kernel) j_5_3) | 4, h => (by cases h; exact kit_ty (by decide +kernel) j_5_4) | n + 5, h => nomatch (show none = some _ from h)), no := List.forall_mem_cons.mpr ⟨f_5_name, List.forall_mem_cons.mpr ⟨f_5_index, List.forall_mem_cons.mpr ⟨f_5_event, List.forall_mem_cons.mpr ⟨f_5_many, List.forall_mem_cons.mpr ⟨f_5_endpoint, List.forall_mem_cons.mpr ⟨f_5_line, List.forall_mem_cons.mpr ⟨f_5_column, fun _ h => nomatch h⟩⟩⟩⟩⟩⟩⟩ }
  have EC6 : ECls K c C6 (sB 6) tV := { ex := ⟨w_6, v_6, e_6, h_6, u_6, hn, ht, o_6⟩, xf := ⟨w_6, v_6, e_6, h_6⟩, ks := (fun j hj => match j, hj with | 0, _ => (by rw [ec0]; exact kit_ref r_6_6 r_6_0 h_0 y_0) | 1, _ => (by rw [ec1]; exact kit_ref r_6_6 r_6_1 h_1 y_1) | 2, _ => (by rw [ec2]; exact kit_ref r_6_6 r_6_2 h_2 y_2) | 3, _ => (by rw [ec3]; exact kit_ref r_6_6 r_6_3 h_3 y_3) | 4, _ => (by rw [ec4]; exact kit_ref r_6_6 r_6_4 h_4 y_4) | 5, _ => (by rw [ec5]; exact kit_ref r_6_6 r_6_5 h_5 y_5) | 6, _ => (by rw [ec6]; exact kit_ref r_6_6 r_6_6 h_6 y_6) | 7, _ => (by rw [ec7]; exact kit_ref r_6_6 r_6_7 h_7 y_7) | 8, _ => (by rw [ec8]; exact kit_ref r_6_6 r_6_8 h_8 y_8) | 9, _ => (by rw [ec9]; exact kit_ref r_6_6 r_6_9 h_9 y_9) | 10, _ => (by rw [ec10]; exact kit_ref r_6_6 r_6_10 h_10 y_10) | 11, _ => (by rw [ec11]; exact kit_ref r_6_6 r_6_11 h_11 y_11) | 12, _ => (by rw [ec12]; exact kit_ref r_6_6 r_6_12 h_12 y_12) | 13, _ => (by rw [ec13]; exact kit_ref r_6_6 r_6_13 h_13 y_13) | 14, _ => (by rw [ec14]; exact kit_ref r_6_6 r_6_14 h_14 y_14) | n + 15, hj => absurd hj (by omega)), kt := (fun j n h => match j, h with | 0, h => (by cases h; exact kit_ty (by decide +kernel) j_6_0) | 1, h => (by cases h; exact kit_ty (by decide +kernel) j_6_1) | 2, h => (by cases h; exact kit_ty (by decide +kernel) j_6_2) | 3, h => (by cases h; exact kit_ty (by decide +kernel) j_6_3) | 4, h => (by cases h; exact kit_ty (by decide +kernel) j_6_4) | n + 5, h => nomatch (show none = some _ from h)), no := List.forall_mem_cons.mpr ⟨f_6_name, List.forall_mem_cons.mpr ⟨f_6_index, List.forall_mem_cons.mpr ⟨f_6_event, List.forall_mem_cons.mpr ⟨f_6_many, List.forall_mem_cons.mpr ⟨f_6_endpoint, List.forall_mem_cons.mpr ⟨f_6_line, List.forall_mem_cons.mpr ⟨f_6_column, fun _ h => nomatch h⟩⟩⟩⟩⟩⟩⟩ }
  have EC7 : ECls K c C7 (sB 7) tV := { ex := ⟨w_7, v_7, e_7, h_7, u_7, hn, ht, o_7⟩, xf := ⟨w_7, v_7, e_7, h_7⟩, ks := (fun j hj => match j, hj with | 0, _ => (by rw [ec0]; exact kit_ref r_7_7 r_7_0 h_0 y_0) | 1, _ => (by rw [ec1]; exact kit_ref r_7_7 r_7_1 h_1 y_1) | 2, _ => (by rw [ec2]; exact kit_ref r_7_7 r_7_2 h_2 y_2) | 3, _ => (by rw [ec3]; exact kit_ref r_7_7 r_7_3 h_3 y_3) | 4, _ => (by rw [ec4]; exact kit_ref r_7_7 r_7_4 h_4 y_4) | 5, _ => (by rw [ec5]; exact kit_ref r_7_7 r_7_5 h_5 y_5) | 6, _ => (by rw [ec6]; exact kit_ref r_7_7 r_7_6 h_6 y_6) | 7, _ => (by rw [ec7]; exact kit_ref r_7_7 r_7_7 h_7 y_7) | 8, _ => (by rw [ec8]; exact kit_ref r_7_7 r_7_8 h_8 y_8) | 9, _ => (by rw [ec9]; exact kit_ref r_7_7 r_7_9 h_9 y_9) | 10, _ => (by rw [ec10]; exact kit_ref r_7_7 r_7_10 h_10 y_10) | 11, _ => (by rw [ec11]; exact kit_ref r_7_7 r_7_11 h_11 y_11) | 12, _ => (by rw [ec12]; exact kit_ref r_7_7 r_7_12 h_12 y_12) | 13, _ => (by rw [ec13]; exact kit_ref r_7_7 r_7_13 h_13 y_13) | 14, _ => (by rw [ec14]; exact kit_ref r_7_7 r_7_14 h_14 y_14) | n + 15, hj => absurd hj (by omega)), kt := (fun j n h => match j, h with | 0, h => (by cases h; exact kit_ty (by decide +kernel) j_7_0) | 1, h => (by cases h; exact kit_ty (by decide +kernel) j_7_1) | 2, h => (by cases h; exact kit_ty (by decide +kernel) j_7_2) | 3, h => (by cases h; exact kit_ty (by decide +kernel) j_7_3) | 4, h => (by cases h; exact kit_ty (by decide +kernel) j_7_4) | n + 5, h => nomatch (show none = some _ from h)), no := List.forall_mem_cons.mpr ⟨f_7_name, List.forall_mem_cons.mpr ⟨f_7_index, List.forall_mem_cons.mpr ⟨f_7_event, List.forall_mem_cons.mpr ⟨f_7_many, List.forall_mem_cons.mpr ⟨f_7_endpoint, List.forall_mem_cons.mpr ⟨f_7_line, List.forall_mem_cons.mpr ⟨f_7_column, fun _ h => nomatch h⟩⟩⟩⟩⟩⟩⟩ }
  have EC8 : ECls K c C8 (sB 8) tV := { ex := ⟨w_8, v_8, e_8, h_8, u_8, hn, ht, o_8⟩, xf := ⟨w_8, v_8, e_8, h_8⟩, ks := (fun j hj => match j, hj with | 0, _ => (by rw [ec0]; exact kit_ref r_8_8 r_8_0 h_0 y_0) | 1, _ => (by rw [ec1]; exact kit_ref r_8_8 r_8_1 h_1 y_1) | 2, _ => (by rw [ec2]; exact kit_ref r_8_8 r_8_2 h_2 y_2) | 3, _ => (by rw [ec3]; exact kit_ref r_8_8 r_8_3 h_3 y_3) | 4, _ => (by rw [ec4]; exact kit_ref r_8_8 r_8_4 h_4 y_4) | 5, _ => (by rw [ec5]; exact kit_ref r_8_8 r_8_5 h_5 y_5) | 6, _ => (by rw [ec6]; exact kit_ref r_8_8 r_8_6 h_6 y_6) | 7, _ => (by rw [ec7]; exact kit_ref r_8_8 r_8_7 h_7 y_7) | 8, _ => (by rw [ec8]; exact kit_ref r_8_8 r_8_8 h_8 y_8) | 9, _ => (by rw [ec9]; exact kit_ref r_8_8 r_8_9 h_9 y_9) | 10, _ => (by rw [ec10]; exact kit_ref r_8_8 r_8_10 h_10 y_10) | 11, _ => (by rw [ec11]; exact kit_ref r_8_8 r_8_11 h_11 y_11) | 12, _ => (by rw [ec12]; exact kit_ref r_8_8 r_8_12 h_12 y_12) | 13, _ => (by rw [ec13]; exact kit_ref r_8_8 r_8_13 h_13 y_13) | 14, _ => (by rw [ec14]; exact kit_ref r_8_8 r_8_14 h_14 y_14) | n + 15, hj => absurd hj (by omega)), kt := (fun j n h => match j, h with | 0, h => (by cases h; exact kit_ty (by decide +kernel) j_8_0) | 1, h => (by cases h; exact kit_ty (by decide +kernel) j_8_1) | 2, h => (by cases h; exact kit_ty (by decide +kernel) j_8_2) | 3, h => (by cases h; exact kit_ty (by decide +kernel) j_8_3) | 4, h => (by cases h; exact kit_ty (by decide +kernel) j_8_4) | n + 5, h => nomatch (show none = some _ from h)), no := List.forall_mem_cons.mpr ⟨f_8_name, List.forall_mem_cons.mpr ⟨f_8_index, List.forall_mem_cons.mpr ⟨f_8_event, List.forall_mem_cons.mpr ⟨f_8_many, List.forall_mem_cons.mpr ⟨f_8_endpoint, List.forall_mem_cons.mpr ⟨f_8_line, List.forall_mem_cons.mpr ⟨f_8_column, fun _ h => nomatch h⟩⟩⟩⟩⟩⟩⟩ }
  have EC9 : ECls K c C9 (sB 9) tV := { ex := ⟨w_9, v_9, e_9, h_9, u_9, hn, ht, o_9⟩, xf := ⟨w_9, v_9, e_9, h_9⟩, ks := (fun j hj => match j, hj with | 0, _ => (by rw [ec0]; exact kit_ref r_9_9 r_9_0 h_0 y_0) | 1, _ => (by rw [ec1]; exact kit_ref r_9_9 r_9_1 h_1 y_1) | 2, _ => (by rw [ec2]; exact kit_ref r_9_9 r_9_2 h_2 y_2) | 3, _ => (by rw [ec3]; exact kit_ref r_9_9 r_9_3 h_3 y_3) | 4, _ => (by rw [ec4]; exact kit_ref r_9_9 r_9_4 h_4 y_4) | 5, _ => (by rw [ec5]; exact kit_ref r_9_9 r_9_5 h_5 y_5) | 6, _ => (by rw [ec6]; exact kit_ref r_9_9 r_9_6 h_6 y_6) | 7, _ => (by rw [ec7]; exact kit_ref r_9_9 r_9_7 h_7 y_7) | 8, _ => (by rw [ec8]; exact kit_ref r_9_9 r_9_8 h_8 y_8) | 9, _ => (by rw [ec9]; exact kit_ref r_9_9 r_9_9 h_9 y_9) | 10, _ => (by rw [ec10]; exact kit_ref r_9_9 r_9_10 h_10 y_10) | 11, _ => (by rw [ec11]; exact kit_ref r_9_9 r_9_11 h_11 y_11) | 12, _ => (by rw [ec12]; exact kit_ref r_9_9 r_9_12 h_12 y_12) | 13, _ => (by rw [ec13]; exact kit_ref r_9_9 r_9_13 h_13 y_13) | 14, _ => (by rw [ec14]; exact kit_ref r_9_9 r_9_14 h_14 y_14) | n + 15, hj => absurd hj (by omega)), kt := (fun j n h => match j, h with | 0, h => (by cases h; exact kit_ty (by decide +kernel) j_9_0) | 1, h => (by cases h; exact kit_ty (by decide +kernel) j_9_1) | 2, h => (by cases h; exact kit_ty (by decide +kernel) j_9_2) | 3, h => (by cases h; exact kit_ty (by decide +kernel) j_9_3) | 4, h => (by cases h; exact kit_ty (by decide +kernel) j_9_4) | n + 5, h => nomatch (show none = some _ from h)), no := List.forall_mem_cons.mpr ⟨f_9_name, List.forall_mem_cons.mpr ⟨f_9_index, List.forall_mem_cons.mpr ⟨f_9_event, List.forall_mem_cons.mpr ⟨f_9_many, List.forall_mem_cons.mpr ⟨f_9_endpoint, List.forall_mem_cons.mpr ⟨f_9_line, List.forall_mem_cons.mpr ⟨f_9_column, fun _ h => nomatch h⟩⟩⟩⟩⟩⟩⟩ }
  have EC10 : ECls K c C10 (sO 0) (tO 0) := { ex := ⟨w_10, v_10, e_10, h_10, u_10, hn, ht, o_10⟩, xf := ⟨w_10, v_10, e_10, h_10⟩, ks := (fun j hj => match j, hj with | 0, _ => (by rw [ec0]; exact kit_ref r_10_10 r_10_0 h_0 y_0) | 1, _ => (by rw [ec1]; exact kit_ref r_10_10 r_10_1 h_1 y_1) | 2, _ => (by rw [ec2]; exact kit_ref r_10_10 r_10_2 h_2 y_2) | 3, _ => (by rw [ec3]; exact kit_ref r_10_10 r_10_3 h_3 y_3) | 4, _ => (by rw [ec4]; exact kit_ref r_10_10 r_10_4 h_4 y_4) | 5, _ => (by rw [ec5]; exact kit_ref r_10_10 r_10_5 h_5 y_5) | 6, _ => (by rw [ec6]; exact kit_ref r_10_10 r_10_6 h_6 y_6) | 7, _ => (by rw [ec7]; exact kit_ref r_10_10 r_10_7 h_7 y_7) | 8, _ => (by rw [ec8]; exact kit_ref r_10_10 r_10_8 h_8 y_8) | 9, _ => (by rw [ec9]; exact kit_ref r_10_10 r_10_9 h_9 y_9) | 10, _ => (by rw [ec10]; exact kit_ref r_10_10 r_10_10 h_10 y_10) | 11, _ => (by rw [ec11]; exact kit_ref r_10_10 r_10_11 h_11 y_11) | 12, _ => (by rw [ec12]; exact kit_ref r_10_10 r_10_12 h_12 y_12) | 13, _ => (by rw [ec13]; exact kit_ref r_10_10 r_10_13 h_13 y_13) | 14, _ => (by rw [ec14]; exact kit_ref r_10_10 r_10_14 h_14 y_14) | n + 15, hj => absurd hj (by omega)), kt := (fun j n h => match j, h with | 0, h => (by cases h; exact kit_ty (by decide +kernel) j_10_0) | 1, h => (by cases h; exact kit_ty (by decide +kernel) j_10_1) | 2, h => (by cases h; exact kit_ty (by decide +kernel) j_10_2) | 3, h => (by cases h; exact kit_ty (by decide +kernel) j_10_3) | 4, h => (by cases h; exact kit_ty (by decide +kernel) j_10_4) | n + 5, h => nomatch (show none = some _ from h)), no := List.forall_mem_cons.mpr ⟨f_10_name, List.forall_mem_cons.mpr ⟨f_10_index, List.forall_mem_cons.mpr ⟨f_10_event, List.forall_mem_cons.mpr ⟨f_10_many, List.forall_mem_cons.mpr ⟨f_10_endpoint, List.forall_mem_cons.mpr ⟨f_10_line, List.forall_mem_cons.mpr ⟨f_10_column, fun _ h => nomatch h⟩⟩⟩⟩⟩⟩⟩ }
  have EC11 : ECls K c C11 (sO 1) (tO 1) := { ex := ⟨w_11, v_11, e_11, h_11, u_11, hn, ht, o_11⟩, xf := ⟨w_11, v_11, e_11, h_11⟩, ks := (fun j hj => match j, hj with | 0, _ => (by rw [ec0]; exact kit_ref r_11_11 r_11_0 h_0 y_0) | 1, _ => (by rw [ec1]; exact kit_ref r_11_11 r_11_1 h_1 y_1) | 2, _ => (by rw [ec2]; exact kit_ref r_11_11 r_11_2 h_2 y_2) | 3, _ => (by rw [ec3]; exact kit_ref r_11_11 r_11_3 h_3 y_3) | 4, _ => (by rw [ec4]; exact kit_ref r_11_11 r_11_4 h_4 y_4) | 5, _ => (by rw [ec5]; exact kit_ref r_11_11 r_11_5 h_5 y_5) | 6, _ => (by rw [ec6]; exact kit_ref r_11_11 r_11_6 h_6 y_6) | 7, _ => (by rw [ec7]; exact kit_ref r_11_11 r_11_7 h_7 y_7) | 8, _ => (by rw [ec8]; exact kit_ref r_11_11 r_11_8 h_8 y_8) | 9, _ => (by rw [ec9]; exact kit_ref r_11_11 r_11_9 h_9 y_9) | 10, _ => (by rw [ec10]; exact kit_ref r_11_11 r_11_10 h_10 y_10) | 11, _ => (by rw [ec11]; exact kit_ref r_11_11 r_11_11 h_11 y_11) | 12, _ => (by rw [ec12]; exact kit_ref r_11_11 r_11_12 h_12 y_12) | 13, _ => (by rw [ec13]; exact kit_ref r_11_11 r_11_13 h_13 y_13) | 14, _ => (by rw [ec14]; exact kit_ref r_11_11 r_11_14 h_14 y_14) | n + 15, hj => absurd hj (by omega)), kt := (fun j n h => match j, h with | 0, h => (by cases h; exact kit_ty (by decide +kernel) j_11_0) | 1, h => (by cases h; exact kit_ty (by decide +kernel) j_11_1) | 2, h => (by cases h; exact kit_ty (by decide +kernel) j_11_2) | 3, h => (by cases h; exact kit_ty (by decide +kernel) j_11_3) | 4, h => (by cases h; exact kit_ty (by decide +kernel) j_11_4) | n + 5, h => nomatch (show none = some _ from h)), no := List.forall_mem_cons.mpr ⟨f_11_name, List.forall_mem_cons.mpr ⟨f_11_index, List.forall_mem_cons.mpr ⟨f_11_event, List.forall_mem_cons.mpr ⟨f_11_many, List.forall_mem_cons.mpr ⟨f_11_endpoint, List.forall_mem_cons.mpr ⟨f_11_line, List.forall_mem_cons.mpr ⟨f_11_column, fun _ h => nomatch h⟩⟩⟩⟩⟩⟩⟩ }
  have EC12 : ECls K c C12 (sO 2) (tO 2) := { ex := ⟨w_12, v_12, e_12, h_12, u_12, hn, ht, o_12⟩, xf := ⟨w_12, v_12, e_12, h_12⟩, ks := (fun j hj => match j, hj with | 0, _ => (by rw [ec0]; exact kit_ref r_12_12 r_12_0 h_0 y_0) | 1, _ => (by rw [ec1]; exact kit_ref r_12_12 r_12_1 h_1 y_1) | 2, _ => (by rw [ec2]; exact kit_ref r_12_12 r_12_2 h_2 y_2) | 3, _ => (by rw [ec3]; exact kit_ref r_12_12 r_12_3 h_3 y_3) | 4, _ => (by rw [ec4]; exact kit_ref r_12_12 r_12_4 h_4 y_4) | 5, _ => (by rw [ec5]; exact kit_ref r_12_12 r_12_5 h_5 y_5) | 6, _ => (by rw [ec6]; exact kit_ref r_12_12 r_12_6 h_6 y_6) | 7, _ => (by rw [ec7]; exact kit_ref r_12_12 r_12_7 h_7 y_7) | 8, _ => (by rw [ec8]; exact kit_ref r_12_12 r_12_8 h_8 y_8) | 9, _ => (by rw [ec9]; exact kit_ref r_12_12 r_12_9 h_9 y_9) | 10, _ => (by rw [ec10]; exact kit_ref r_12_12 r_12_10 h_10 y_10) | 11, _ => (by rw [ec11]; exact kit_ref r_12_12 r_12_11 h_11 y_11) | 12, _ => (by rw [ec12]; exact kit_ref r_12_12 r_12_12 h_12 y_12) | 13, _ => (by rw [ec13]; exact kit_ref r_12_12 r_12_13 h_13 y_13) | 14, _ => (by rw [ec14]; exact kit_ref r_12_12 r_12_14 h_14 y_14) | n + 15, hj => absurd hj (by omega)), kt := (fun j n h => match j, h with | 0, h => (by cases h; exact kit_ty (by decide +kernel) j_12_0) | 1, h => (by cases h; exact kit_ty (by decide +kernel) j_12_1) | 2, h => (by cases h; exact kit_ty (by decide +kernel) j_12_2) | 3, h => (by cases h; exact kit_ty (by decide +kernel) j_12_3) | 4, h => (by cases h; exact kit_ty (by decide +kernel) j_12_4) | n + 5, h => nomatch (show none = some _ from h)), no := List.forall_mem_cons.mpr ⟨f_12_name, List.forall_mem_cons.mpr ⟨f_12_index, List.forall_mem_cons.mpr ⟨f_12_event, List.forall_mem_cons.mpr ⟨f_12_many, List.forall_mem_cons.mpr ⟨f_12_endpoint, List.forall_mem_cons.mpr ⟨f_12_line, List.forall_mem_cons.mpr ⟨f_12_column, fun _ h => nomatch h⟩⟩⟩⟩⟩⟩⟩ }
  have EC13 : ECls K c C13 (sO 3) (tO 3) := { ex := ⟨w_13, v_13, e_13, h_13, u_13, hn, ht, o_13⟩, xf := ⟨w_13, v_13, e_13, h_13⟩, ks := (fun j hj => match j, hj with | 0, _ => (by rw [ec0]; exact kit_ref r_13_13 r_13_0 h_0 y_0) | 1, _ => (by rw [ec1]; exact kit_ref r_13_13 r_13_1 h_1 y_1) | 2, _ => (by rw [ec2]; exact kit_ref r_13_13 r_13_2 h_2 y_2) | 3, _ => (by rw [ec3]; exact kit_ref r_13_13 r_13_3 h_3 y_3) | 4, _ => (by rw [ec4]; exact kit_ref r_13_13 r_13_4 h_4 y_4) | 5, _ => (by rw [ec5]; exact kit_ref r_13_13 r_13_5 h_5 y_5) | 6, _ => (by rw [ec6]; exact kit_ref r_13_13 r_13_6 h_6 y_6) | 7, _ => (by rw [ec7]; exact kit_ref r_13_13 r_13_7 h_7 y_7) | 8, _ => (by rw [ec8]; exact kit_ref r_13_13 r_13_8 h_8 y_8) | 9, _ => (by rw [ec9]; exact kit_ref r_13_13 r_13_9 h_9 y_9) | 10, _ => (by rw [ec10]; exact kit_ref r_13_13 r_13_10 h_10 y_10) | 11, _ => (by rw [ec11]; exact kit_ref r_13_13 r_13_11 h_11 y_11) | 12, _ => (by rw [ec12]; exact kit_ref r_13_13 r_13_12 h_12 y_12) | 13, _ => (by rw [ec13]; exact kit_ref r_13_13 r_13_13 h_13 y_13) | 14, _ => (by rw [ec14]; exact kit_ref r_13_13 r_13_14 h_14 y_14) | n + 15, hj => absurd hj (by omega)), kt := (fun j n h => match j, h with | 0, h => (by cases h; exact kit_ty (by decide +kernel) j_13_0) | 1, h => (by cases h; exact kit_ty (by decide +kernel) j_13_1) | 2, h => (by cases h; exact kit_ty (by decide +kernel) j_13_2) | 3, h => (by cases h; exact kit_ty (by decide +kernel) j_13_3) | 4, h => (by cases h; exact kit_ty (by decide +kernel) j_13_4) | n + 5, h => nomatch (show none = some _ from h)), no := List.forall_mem_cons.mpr ⟨f_13_name, List.forall_mem_cons.mpr ⟨f_13_index, List.forall_mem_cons.mpr ⟨f_13_event, List.forall_mem_cons.mpr ⟨f_13_many, List.forall_mem_cons.mpr ⟨f_13_endpoint, List.forall_mem_cons.mpr ⟨f_13_line, List.forall_mem_cons.mpr ⟨f_13_column, fun _ h => nomatch h⟩⟩⟩⟩⟩⟩⟩ }
  have F_0 := fun_mk (st := sIni0) l_0 c_0 k_0
  have b_0 := F_0.binds (ps := ["self", "name"]) fun _ _ _ _ _ _ us hl => match us, hl with | [_, _], _ => rfl
  have O_0 : OexB K C0 := ⟨⟨nm_0, q_0, N0, bs_0, _, sn_0, sub_0, ab_0, col_0, dd_0, m0_0, m1_0, m2_0, m3_0, m5_0, _, _, _, _, x_0, base_value E0⟩, s_0, e_0, y_0, p_0⟩
  have F_1 := fun_mk (st := sIni1) l_1 c_1 k_1
  have b_1 := F_1.binds (ps := ["self", "index"]) fun _ _ _ _ _ _ us hl => match us, hl with | [_, _], _ => rfl
  have O_1 : OexB K C1 := ⟨⟨nm_1, q_1, N1, bs_1, _, sn_1, sub_1, ab_1, col_1, dd_1, m0_1, m1_1, m2_1, m3_1, m5_1, _, _, _, _, x_1, base_value E1⟩, s_1, e_1, y_1, p_1⟩
  have F_2 := fun_mk (st := sIni2) l_2 c_2 k_2
  have b_2 := F_2.binds (ps := ["self", "index"]) fun _ _ _ _ _ _ us hl => match us, hl with | [_, _], _ => rfl
  have O_2 : OexB K C2 := ⟨⟨nm_2, q_2, N2, bs_2, _, sn_2, sub_2, ab_2, col_2, dd_2, m0_2, m1_2, m2_2, m3_2, m5_2, _, _, _, _, x_2, base_value E2⟩, s_2, e_2, y_2, p_2⟩
  have F_3 := fun_mk (st := sIni3) l_3 c_3 k_3
  have b_3 := F_3.binds (ps := ["self", "event"]) fun _ _ _ _ _ _ us hl => match us, hl with | [_, _], _ => rfl
  have O_3 : OexB K C3 := ⟨⟨nm_3, q_3, N3, bs_3, _, sn_3, sub_3, ab_3, col_3, dd_3, m0_3, m1_3, m2_3, m3_3, m5_3, _, _, _, _, x_3, base_value E3⟩, s_3, e_3, y_3, p_3⟩
  have F_4 := fun_mk (st := sIni4) l_4 c_4 k_4
  have b_4 := F_4.binds (ps := ["self", "many"]) fun _ _ _ _ _ _ us hl => match us, hl with | [_, _], _ => rfl
  have O_4 : OexB K C4 := ⟨⟨nm_4, q_4, N4, bs_4, _, sn_4, sub_4, ab_4, col_4, dd_4, m0_4, m1_4, m2_4, m3_4, m5_4, _, _, _, _, x_4, base_value E4⟩, s_4, e_4, y_4, p_4⟩
  have F_5 := fun_mk (st := sIni5) l_5 c_5 k_5
  have b_5 := F_5.binds (ps := ["self", "index"]) fun _ _ _ _ _ _ us hl => match us, hl with | [_, _], _ => rfl
  have O_5 : OexB K C5 := ⟨⟨nm_5, q_5, N5, bs_5, _, sn_5, sub_5, ab_5, col_5, dd_5, m0_5, m1_5, m2_5, m3_5, m5_5, _, _, _, _, x_5, base_value E5⟩, s_5, e_5, y_5, p_5⟩
  have F_6 := fun_mk (st := sIni6) l_6 c_6 k_6
  have b_6 := F_6.binds (ps := ["self", "endpoint"]) fun _ _ _ _ _ _ us hl => match us, hl with | [_, _], _ => rfl
  have O_6 : OexB K C6 := ⟨⟨nm_6, q_6, N6, bs_6, _, sn_6, sub_6, ab_6, col_6, dd_6, m0_6, m1_6, m2_6, m3_6, m5_6, _, _, _, _, x_6, base_value E6⟩, s_6, e_6, y_6, p_6⟩
  have F_7 := fun_mk (st := sIni7) l_7 c_7 k_7
  have b_7 := F_7.binds (ps := ["self", "index"]) fun _ _ _ _ _ _ us hl => match us, hl with | [_, _], _ => rfl
  have O_7 : OexB K C7 := ⟨⟨nm_7, q_7, N7, bs_7, _, sn_7, sub_7, ab_7, col_7, dd_7, m0_7, m1_7, m2_7, m3_7, m5_7, _, _, _, _, x_7, base_value E7⟩, s_7, e_7, y_7, p_7⟩
  have F_8 := fun_mk (st := sIni8) l_8 c_8 k_8
  have b_8 := F_8.binds (ps := ["self", "line"]) fun _ _ _ _ _ _ us hl => match us, hl with | [_, _], _ => rfl
  have O_8 : OexB K C8 := ⟨⟨nm_8, q_8, N8, bs_8, _, sn_8, sub_8, ab_8, col_8, dd_8, m0_8, m1_8, m2_8, m3_8, m5_8, _, _, _, _, x_8, base_value E8⟩, s_8, e_8, y_8, p_8⟩
  have F_9 := fun_mk (st := sIni9) l_9 c_9 k_9
  have b_9 := F_9.binds (ps := ["self", "column"]) fun _ _ _ _ _ _ us hl => match us, hl with | [_, _], _ => rfl
  have O_9 : OexB K C9 := ⟨⟨nm_9, q_9, N9, bs_9, _, sn_9, sub_9, ab_9, col_9, dd_9, m0_9, m1_9, m2_9, m3_9, m5_9, _, _, _, _, x_9, base_value E9⟩, s_9, e_9, y_9, p_9⟩
  have F_10 := fun_mk (st := sIni10) l_10 c_10 k_10
  have b_10 := F_10.binds (ps := ["self", "turn"]) fun _ _ _ _ _ _ us hl => match us, hl with | [_, _], _ => rfl
  have O_10 : OexB K C10 := ⟨⟨nm_10, q_10, N10, bs_10, _, sn_10, sub_10, ab_10, col_10, dd_10, m0_10, m1_10, m2_10, m3_10, m5_10, _, _, _, _, x_10, base_index⟩, s_10, e_10, y_10, p_10⟩
  have F_11 := fun_mk (st := sIni11) l_11 c_11 k_11
  have b_11 := F_11.binds (ps := ["self", "arc"]) fun _ _ _ _ _ _ us hl => match us, hl with | [_, _], _ => rfl
  have O_11 : OexB K C11 := ⟨⟨nm_11, q_11, N11, bs_11, _, sn_11, sub_11, ab_11, col_11, dd_11, m0_11, m1_11, m2_11, m3_11, m5_11, _, _, _, _, x_11, base_lookup⟩, s_11, e_11, y_11, p_11⟩
  have F_12 := fun_mk (st := sIni12) l_12 c_12 k_12
  have b_12 := F_12.binds (ps := ["self", "name"]) fun _ _ _ _ _ _ us hl => match us, hl with | [_, _], _ => rfl
  have O_12 : OexB K C12 := ⟨⟨nm_12, q_12, N12, bs_12, _, sn_12, sub_12, ab_12, col_12, dd_12, m0_12, m1_12, m2_12, m3_12, m5_12, _, _, _, _, x_12, base_key⟩, s_12, e_12, y_12, p_12⟩
  have EC : ∀ i, i < 10 → ECls K c (c i) (sB i) tV := fun i hi => match i, hi with | 0, _ => (by rw [ec0]; exact EC0) | 1, _ => (by rw [ec1]; exact EC1) | 2, _ => (by rw [ec2]; exact EC2) | 3, _ => (by rw [ec3]; exact EC3) | 4, _ => (by rw [ec4]; exact EC4) | 5, _ => (by rw [ec5]; exact EC5) | 6, _ => (by rw [ec6]; exact EC6) | 7, _ => (by rw [ec7]; exact EC7) | 8, _ => (by rw [ec8]; exact EC8) | 9, _ => (by rw [ec9]; exact EC9) | n + 10, hi => absurd hi (by omega)
  have EO : ∀ i, i < 4 → ECls K c (c (10 + i)) (sO i) (tO i) := fun i hi => match i, hi with | 0, _ => (by show ECls K c (c 10) _ _; rw [ec10]; exact EC10) | 1, _ => (by show ECls K c (c 11) _ _; rw [ec11]; exact EC11) | 2, _ => (by show ECls K c (c 12) _ _; rw [ec12]; exact EC12) | 3, _ => (by show ECls K c (c 13) _ _; rw [ec13]; exact EC13) | n + 4, hi => absurd hi (by omega)
  have HX : ∀ i, i < 10 → PySem.W.exmOne K (.ref (c i)) (.ref (c 14)) = some true := fun i hi => match i, hi with | 0, _ => (by rw [ec0, ec14]; exact exm_ref' e_14 h_14 y_14 r_0_14) | 1, _ => (by rw [ec1, ec14]; exact exm_ref' e_14 h_14 y_14 r_1_14) | 2, _ => (by rw [ec2, ec14]; exact exm_ref' e_14 h_14 y_14 r_2_14) | 3, _ => (by rw [ec3, ec14]; exact exm_ref' e_14 h_14 y_14 r_3_14) | 4, _ => (by rw [ec4, ec14]; exact exm_ref' e_14 h_14 y_14 r_4_14) | 5, _ => (by rw [ec5, ec14]; exact exm_ref' e_14 h_14 y_14 r_5_14) | 6, _ => (by rw [ec6, ec14]; exact exm_ref' e_14 h_14 y_14 r_6_14) | 7, _ => (by rw [ec7, ec14]; exact exm_ref' e_14 h_14 y_14 r_7_14) | 8, _ => (by rw [ec8, ec14]; exact exm_ref' e_14 h_14 y_14 r_8_14) | 9, _ => (by rw [ec9, ec14]; exact exm_ref' e_14 h_14 y_14 r_9_14) | n + 10, hi => absurd hi (by omega)
  have HO0 : ∀ j, j < 4 → PySem.W.exmOne K (.ref (c (10 + 0))) (.ref (c (10 + j))) = some (0 == j) := fun j hj => match j, hj with | 0, _ => (by show PySem.W.exmOne K (.ref (c 10)) (.ref (c 10)) = some true; rw [ec10]; exact exm_ref' e_10 h_10 y_10 r_10_10) | 1, _ => (by show PySem.W.exmOne K (.ref (c 10)) (.ref (c 11)) = some false; rw [ec10, ec11]; exact exm_ref' e_11 h_11 y_11 r_10_11) | 2, _ => (by show PySem.W.exmOne K (.ref (c 10)) (.ref (c 12)) = some false; rw [ec10, ec12]; exact exm_ref' e_12 h_12 y_12 r_10_12) | 3, _ => (by show PySem.W.exmOne K (.ref (c 10)) (.ref (c 13)) = some false; rw [ec10, ec13]; exact exm_ref' e_13 h_13 y_13 r_10_13) | n + 4, hj => absurd hj (by omega)
  have HO1 : ∀ j, j < 4 → PySem.W.exmOne K (.ref (c (10 + 1))) (.ref (c (10 + j))) = some (1 == j) := fun j hj => match j, hj with | 0, _ => (by show PySem.W.exmOne K (.ref (c 11)) (.ref (c 10)) = some false; rw [ec11, ec10]; exact exm_ref' e_10 h_10 y_10 r_11_10) | 1, _ => (by show PySem.W.exmOne K (.ref (c 11)) (.ref (c 11)) = some true; rw [ec11]; exact exm_ref' e_11 h_11 y_11 r_11_11) | 2, _ => (by show PySem.W.exmOne K (.ref (c 11)) (.ref (c 12)) = some false; rw [ec11, ec12]; exact exm_ref' e_12 h_12 y_12 r_11_12) | 3, _ => (by show PySem.W.exmOne K (.ref (c 11)) (.ref (c 13)) = some false; rw [ec11, ec13]; exact exm_ref' e_13 h_13 y_13 r_11_13) | n + 4, hj => absurd hj (by omega)
  have HO2 : ∀ j, j < 4 → PySem.W.exmOne K (.ref (c (10 + 2))) (.ref (c (10 + j))) = some (2 == j) := fun j hj => match j, hj with | 0, _ => (by show PySem.W.exmOne K (.ref (c 12)) (.ref (c 10)) = some false; rw [ec12, ec10]; exact exm_ref' e_10 h_10 y_10 r_12_10) | 1, _ => (by show PySem.W.exmOne K (.ref (c 12)) (.ref (c 11)) = some false; rw [ec12, ec11]; exact exm_ref' e_11 h_11 y_11 r_12_11) | 2, _ => (by show PySem.W.exmOne K (.ref (c 12)) (.ref (c 12)) = some true; rw [ec12]; exact exm_ref' e_12 h_12 y_12 r_12_12) | 3, _ => (by show PySem.W.exmOne K (.ref (c 12)) (.ref (c 13)) = some false; rw [ec12, ec13]; exact exm_ref' e_13 h_13 y_13 r_12_13) | n + 4, hj => absurd hj (by omega)
  have HO3 : ∀ j, j < 4 → PySem.W.exmOne K (.ref (c (10 + 3))) (.ref (c (10 + j))) = some (3 == j) := fun j hj => match j, hj with | 0, _ => (by show PySem.W.exmOne K (.ref (c 13)) (.ref (c 10)) = some false; rw [ec13, ec10]; exact exm_ref' e_10 h_10 y_10 r_13_10) | 1, _ => (by show PySem.W.exmOne K (.ref (c 13)) (.ref (c 11)) = some false; rw [ec13, ec11]; exact exm_ref' e_11 h_11 y_11 r_13_11) | 2, _ => (by show PySem.W.exmOne K (.ref (c 13)) (.ref (c 12)) = some false; rw [ec13, ec12]; exact exm_ref' e_12 h_12 y_12 r_13_12) | 3, _ => (by show PySem.W.exmOne K (.ref (c 13)) (.ref (c 13)) = some true; rw [ec13]; exact exm_ref' e_13 h_13 y_13 r_13_13) | n + 4, hj => absurd hj (by omega)
  have HO : ∀ i j, i < 4 → j < 4 → PySem.W.exmOne K (.ref (c (10 + i))) (.ref (c (10 + j))) = some (i == j) := fun i j hi hj => match i, hi with | 0, _ => HO0 j hj | 1, _ => HO1 j hj | 2, _ => HO2 j hj | 3, _ => HO3 j hj | n + 4, hi => absurd hi (by omega)
  have HC : ∀ i n, eNames[i]? = some n → mg n = some (.ref (c i)) := fun i n h => match i, h with | 0, h => (by cases h; exact G_0) | 1, h => (by cases h; exact G_1) | 2, h => (by cases h; exact G_2) | 3, h => (by cases h; exact G_3) | 4, h => (by cases h; exact G_4) | 5, h => (by cases h; exact G_5) | 6, h => (by cases h; exact G_6) | 7, h => (by cases h; exact G_7) | 8, h => (by cases h; exact G_8) | 9, h => (by cases h; exact G_9) | 10, h => (by cases h; exact G_10) | 11, h => (by cases h; exact G_11) | 12, h => (by cases h; exact G_12) | 13, h => (by cases h; exact G_13) | 14, h => (by cases h; exact G_14) | n + 15, h => nomatch (show none = some _ from h)
  have HB : ∀ (i : Nat) (n : String), bTypes[i]? = some n → mg n = none := fun i n h => match i, h with | 0, h => (by cases h; exact PySem.W.mg_none_of X G zValueError) | 1, h => (by cases h; exact PySem.W.mg_none_of X G zLookupError) | 2, h => (by cases h; exact PySem.W.mg_none_of X G zIndexError) | 3, h => (by cases h; exact PySem.W.mg_none_of X G zKeyError) | 4, h => (by cases h; exact PySem.W.mg_none_of X G zRuntimeError) | n + 5, h => nomatch (show none = some _ from h)
  refine ⟨PySem.W.fnOf "law" "law" (defArgs sLaw) (defBody sLaw) (defScope sLaw) .none kV10 dc10 pm10 an10 cd10 ct10, fun s v => .of_eq rfl, fun base _ _ => ?_⟩
  have T0 : ErB P w K mg base "BadSetting" "name" C0 i0 _ := ⟨O_0, PySem.W.mg_of X G g_0, a_0, t_0, f_0_name, ok_ini0 F_0, b_0⟩
  rw [← ec0] at T0
  have T1 : ErB P w K mg base "BadWrite" "index" C1 i1 _ := ⟨O_1, PySem.W.mg_of X G g_1, a_1, t_1, f_1_index, ok_ini1 F_1, b_1⟩
  rw [← ec1] at T1
  have T2 : ErB P w K mg base "BadOrder" "index" C2 i2 _ := ⟨O_2, PySem.W.mg_of X G g_2, a_2, t_2, f_2_index, ok_ini2 F_2, b_2⟩
  rw [← ec2] at T2
  have T3 : ErB P w K mg base "NotPossible" "event" C3 i3 _ := ⟨O_3, PySem.W.mg_of X G g_3, a_3, t_3, f_3_event, ok_ini3 F_3, b_3⟩
  rw [← ec3] at T3
  have T4 : ErB P w K mg base "TooLong" "many" C4 i4 _ := ⟨O_4, PySem.W.mg_of X G g_4, a_4, t_4, f_4_many, ok_ini4 F_4, b_4⟩
  rw [← ec4] at T4
  have T5 : ErB P w K mg base "BadTalk" "index" C5 i5 _ := ⟨O_5, PySem.W.mg_of X G g_5, a_5, t_5, f_5_index, ok_ini5 F_5, b_5⟩
  rw [← ec5] at T5
  have T6 : ErB P w K mg base "EndlessTurn" "endpoint" C6 i6 _ := ⟨O_6, PySem.W.mg_of X G g_6, a_6, t_6, f_6_endpoint, ok_ini6 F_6, b_6⟩
  rw [← ec6] at T6
  have T7 : ErB P w K mg base "BadPath" "index" C7 i7 _ := ⟨O_7, PySem.W.mg_of X G g_7, a_7, t_7, f_7_index, ok_ini7 F_7, b_7⟩
  rw [← ec7] at T7
  have T8 : ErB P w K mg base "BadText" "line" C8 i8 _ := ⟨O_8, PySem.W.mg_of X G g_8, a_8, t_8, f_8_line, ok_ini8 F_8, b_8⟩
  rw [← ec8] at T8
  have T9 : ErB P w K mg base "BadRow" "column" C9 i9 _ := ⟨O_9, PySem.W.mg_of X G g_9, a_9, t_9, f_9_column, ok_ini9 F_9, b_9⟩
  rw [← ec9] at T9
  have T10 : ErB P w K mg base "NoTurn" "turn" C10 i10 _ := ⟨O_10, PySem.W.mg_of X G g_10, a_10, t_10, n10, ok_ini10 F_10, b_10⟩
  rw [← ec10] at T10
  have T11 : ErB P w K mg base "NoArc" "arc" C11 i11 _ := ⟨O_11, PySem.W.mg_of X G g_11, a_11, t_11, n11, ok_ini11 F_11, b_11⟩
  rw [← ec11] at T11
  have T12 : ErB P w K mg base "NoName" "name" C12 i12 _ := ⟨O_12, PySem.W.mg_of X G g_12, a_12, t_12, f_12_name, ok_ini12 F_12, b_12⟩
  rw [← ec12] at T12
  have G1 : FnOk P w K mg base CX0 1 f1 _ ["_law_script", "_law_at"] (spBag K) := ok_bag F1 T T.abs
  have G2 : FnOk P w K mg base CX0 1 f2 _ ["_law_bag_here", "_law_many"] spTake := ok_take F2 T
  have G3 : FnOk P w K mg base (L2N.CX P w) 3 f3 _ ["_law_which", "_law_value"] (spRaise c) := ok_raise F3 T0 T1 T2 T3 T4 T5 T6 T7 T8 T9
  have G4 : FnOk P w K mg base (L2N.CX P w) 3 f4 _ ["_law_which", "_law_value"] (spRaiseO c) := ok_raiseO F4 T10 T11 T12 F.excBase_RuntimeError (by rw [ec13]; exact qz13) G_13 (by rw [ec13]; exact p_13) (by rw [ec13]; exact e_13) (by rw [ec13]; exact y_13)
  have G5 : FnE P w K mg base 1 f5 _ ["_law_e"] (spSorts K c) := ok_sorts F5 T HC
  have G6 : FnE P w K mg base 1 f6 _ ["_law_e"] (spBases K c) := ok_bases F6 T HB
  have G7 : FnE P w K mg base 1 f7 _ ["_law_e", "_law_which"] (spField K c) := ok_field F7
  have G8 : FnOk P w K mg base CX0 4 f8 _ ["_law_which", "_law_value"] (spTold K) := ok_told F8 EC G_14 HX F3 b3 g3 G3 F5 b5 g5 G5 F6 b6 g6 G6 F7 b7 g7 G7
  have G9 : FnOk P w K mg base CX0 4 f9 _ ["_law_which", "_law_value"] (spToldO K) := ok_toldO F9 EO G_10 G_11 G_12 G_13 HO (by rw [ec10]; exact n10) (by rw [ec11]; exact n11) (by rw [ec12]; exact f_12_name) F4 b4 g4 G4 F5 b5 g5 G5 F6 b6 g6 G6
  exact ok_law F10 T (PySem.W.mg_none_of X G zenumerate) F1 b1 g1 G1 F2 b2 g2 G2 F8 b8 g8 G8 F9 b9 g9 G9
def walk := @walkG
end Lw
open PySem PySem.W PyProof.Rows
set_option maxRecDepth 100000 in
set_option maxHeartbeats 0 in
theorem PySem.Challenge.cw_latewords_k76_errors_made_holds : PySem.Challenge.rw_latewords_k76_errors_made.Holds := by
  w_on; o_law; k_head; (case hw => w_witness2)
  k_fill
  refine L3.walkG (l := PySem.Challenge.rw_latewords_k76_errors_made) (n := 63) (k := 5) (x := "_law_script") (sp := fun w => Lw.spLaw _) rfl (by decide) rfl ⟨rfl, by decide, by decide⟩ (fun w h Y => PySem.W.kIn_of Y) ?F (fun _ _ a ns hl _ hS => ⟨a, ns, rfl, hS, hl, fun _ => rfl⟩)
  case F =>
    intro w mg fa h KX G hmg
    refine' Lw.all_mk KX G hmg ?a1 ?l1 ?c1 ?k1 ?a2 ?l2 ?c2 ?k2 ?a3 ?l3 ?c3 ?k3 ?a4 ?l4 ?c4 ?k4 ?a5 ?l5 ?c5 ?k5 ?a6 ?l6 ?c6 ?k6 ?a7 ?l7 ?c7 ?k7 ?a8 ?l8 ?c8 ?k8 ?a9 ?l9 ?c9 ?k9 ?a10 ?l10 ?c10 ?k10 ?g_0 ?g_1 ?g_2 ?g_3 ?g_4 ?g_5 ?g_6 ?g_7 ?g_8 ?g_9 ?g_10 ?g_11 ?g_12 ?g_13 ?g_14 ?a_0 ?l_0 ?c_0 ?k_0 ?x_0 ?s_0 ?t_0 ?a_1 ?l_1 ?c_1 ?k_1 ?x_1 ?s_1 ?t_1 ?a_2 ?l_2 ?c_2 ?k_2 ?x_2 ?s_2 ?t_2 ?a_3 ?l_3 ?c_3 ?k_3 ?x_3 ?s_3 ?t_3 ?a_4 ?l_4 ?c_4 ?k_4 ?x_4 ?s_4 ?t_4 ?a_5 ?l_5 ?c_5 ?k_5 ?x_5 ?s_5 ?t_5 ?a_6 ?l_6 ?c_6 ?k_6 ?x_6 ?s_6 ?t_6 ?a_7 ?l_7 ?c_7 ?k_7 ?x_7 ?s_7 ?t_7 ?a_8 ?l_8 ?c_8 ?k_8 ?x_8 ?s_8 ?t_8 ?a_9 ?l_9 ?c_9 ?k_9 ?x_9 ?s_9 ?t_9 ?a_10 ?l_10 ?c_10 ?k_10 ?x_10 ?s_10 ?t_10 ?a_11 ?l_11 ?c_11 ?k_11 ?x_11 ?s_11 ?t_11 ?a_12 ?l_12 ?c_12 ?k_12 ?x_12 ?s_12 ?t_12 ?e_0 ?y_0 ?h_0 ?p_0 ?e_1 ?y_1 ?h_1 ?p_1 ?e_2 ?y_2 ?h_2 ?p_2 ?e_3 ?y_3 ?h_3 ?p_3 ?e_4 ?y_4 ?h_4 ?p_4 ?e_5 ?y_5 ?h_5 ?p_5 ?e_6 ?y_6 ?h_6 ?p_6 ?e_7 ?y_7 ?h_7 ?p_7 ?e_8 ?y_8 ?h_8 ?p_8 ?e_9 ?y_9 ?h_9 ?p_9 ?e_10 ?y_10 ?h_10 ?p_10 ?e_11 ?y_11 ?h_11 ?p_11 ?e_12 ?y_12 ?h_12 ?p_12 ?e_13 ?y_13 ?h_13 ?p_13 ?e_14 ?y_14 ?h_14 ?n10 ?n11 ?hn ?ht ?w_0 ?v_0 ?u_0 ?o_0 ?r_0_0 ?r_0_1 ?r_0_2 ?r_0_3 ?r_0_4 ?r_0_5 ?r_0_6 ?r_0_7 ?r_0_8 ?r_0_9 ?r_0_10 ?r_0_11 ?r_0_12 ?r_0_13 ?r_0_14 ?j_0_0 ?j_0_1 ?j_0_2 ?j_0_3 ?j_0_4 ?f_0_name ?f_0_index ?f_0_event ?f_0_many ?f_0_endpoint ?f_0_line ?f_0_column ?w_1 ?v_1 ?u_1 ?o_1 ?r_1_0 ?r_1_1 ?r_1_2 ?r_1_3 ?r_1_4 ?r_1_5 ?r_1_6 ?r_1_7 ?r_1_8 ?r_1_9 ?r_1_10 ?r_1_11 ?r_1_12 ?r_1_13 ?r_1_14 ?j_1_0 ?j_1_1 ?j_1_2 ?j_1_3 ?j_1_4 ?f_1_name ?f_1_index ?f_1_event ?f_1_many ?f_1_endpoint ?f_1_line ?f_1_column ?w_2 ?v_2 ?u_2 ?o_2 ?r_2_0 ?r_2_1 ?r_2_2 ?r_2_3 ?r_2_4 ?r_2_5 ?r_2_6 ?r_2_7 ?r_2_8 ?r_2_9 ?r_2_10 ?r_2_11 ?r_2_12 ?r_2_13 ?r_2_14 ?j_2_0 ?j_2_1 ?j_2_2 ?j_2_3 ?j_2_4 ?f_2_name ?f_2_index ?f_2_event ?f_2_many ?f_2_endpoint ?f_2_line ?f_2_column ?w_3 ?v_3 ?u_3 ?o_3 ?r_3_0 ?r_3_1 ?r_3_2 ?r_3_3 ?r_3_4 ?r_3_5 ?r_3_6 ?r_3_7 ?r_3_8 ?r_3_9 ?r_3_10 ?r_3_11 ?r_3_12 ?r_3_13 ?r_3_14 ?j_3_0 ?j_3_1 ?j_3_2 ?j_3_3 ?j_3_4 ?f_3_name ?f_3_index ?f_3_event ?f_3_many ?f_3_endpoint ?f_3_line ?f_3_column ?w_4 ?v_4 ?u_4 ?o_4 ?r_4_0 ?r_4_1 ?r_4_2 ?r_4_3 ?r_4_4 ?r_4_5 ?r_4_6 ?r_4_7 ?r_4_8 ?r_4_9 ?r_4_10 ?r_4_11 ?r_4_12 ?r_4_13 ?r_4_14 ?j_4_0 ?j_4_1 ?j_4_2 ?j_4_3 ?j_4_4 ?f_4_name ?f_4_index ?f_4_event ?f_4_many ?f_4_endpoint ?f_4_line ?f_4_column ?w_5 ?v_5 ?u_5 ?o_5 ?r_5_0 ?r_5_1 ?r_5_2 ?r_5_3 ?r_5_4 ?r_5_5 ?r_5_6 ?r_5_7 ?r_5_8 ?r_5_9 ?r_5_10 ?r_5_11 ?r_5_12 ?r_5_13 ?r_5_14 ?j_5_0 ?j_5_1 ?j_5_2 ?j_5_3 ?j_5_4 ?f_5_name ?f_5_index ?f_5_event ?f_5_many ?f_5_endpoint ?f_5_line ?f_5_column ?w_6 ?v_6 ?u_6 ?o_6 ?r_6_0 ?r_6_1 ?r_6_2 ?r_6_3 ?r_6_4 ?r_6_5 ?r_6_6 ?r_6_7 ?r_6_8 ?r_6_9 ?r_6_10 ?r_6_11 ?r_6_12 ?r_6_13 ?r_6_14 ?j_6_0 ?j_6_1 ?j_6_2 ?j_6_3 ?j_6_4 ?f_6_name ?f_6_index ?f_6_event ?f_6_many ?f_6_endpoint ?f_6_line ?f_6_column ?w_7 ?v_7 ?u_7 ?o_7 ?r_7_0 ?r_7_1 ?r_7_2 ?r_7_3 ?r_7_4 ?r_7_5 ?r_7_6 ?r_7_7 ?r_7_8 ?r_7_9 ?r_7_10 ?r_7_11 ?r_7_12 ?r_7_13 ?r_7_14 ?j_7_0 ?j_7_1 ?j_7_2 ?j_7_3 ?j_7_4 ?f_7_name ?f_7_index ?f_7_event ?f_7_many ?f_7_endpoint ?f_7_line ?f_7_column ?w_8 ?v_8 ?u_8 ?o_8 ?r_8_0 ?r_8_1 ?r_8_2 ?r_8_3 ?r_8_4 ?r_8_5 ?r_8_6 ?r_8_7 ?r_8_8 ?r_8_9 ?r_8_10 ?r_8_11 ?r_8_12 ?r_8_13 ?r_8_14 ?j_8_0 ?j_8_1 ?j_8_2 ?j_8_3 ?j_8_4 ?f_8_name ?f_8_index ?f_8_event ?f_8_many ?f_8_endpoint ?f_8_line ?f_8_column ?w_9 ?v_9 ?u_9 ?o_9 ?r_9_0 ?r_9_1 ?r_9_2 ?r_9_3 ?r_9_4 ?r_9_5 ?r_9_6 ?r_9_7 ?r_9_8 ?r_9_9 ?r_9_10 ?r_9_11 ?r_9_12 ?r_9_13 ?r_9_14 ?j_9_0 ?j_9_1 ?j_9_2 ?j_9_3 ?j_9_4 ?f_9_name ?f_9_index ?f_9_event ?f_9_many ?f_9_endpoint ?f_9_line ?f_9_column ?w_10 ?v_10 ?u_10 ?o_10 ?r_10_0 ?r_10_1 ?r_10_2 ?r_10_3 ?r_10_4 ?r_10_5 ?r_10_6 ?r_10_7 ?r_10_8 ?r_10_9 ?r_10_10 ?r_10_11 ?r_10_12 ?r_10_13 ?r_10_14 ?j_10_0 ?j_10_1 ?j_10_2 ?j_10_3 ?j_10_4 ?f_10_name ?f_10_index ?f_10_event ?f_10_many ?f_10_endpoint ?f_10_line ?f_10_column ?w_11 ?v_11 ?u_11 ?o_11 ?r_11_0 ?r_11_1 ?r_11_2 ?r_11_3 ?r_11_4 ?r_11_5 ?r_11_6 ?r_11_7 ?r_11_8 ?r_11_9 ?r_11_10 ?r_11_11 ?r_11_12 ?r_11_13 ?r_11_14 ?j_11_0 ?j_11_1 ?j_11_2 ?j_11_3 ?j_11_4 ?f_11_name ?f_11_index ?f_11_event ?f_11_many ?f_11_endpoint ?f_11_line ?f_11_column ?w_12 ?v_12 ?u_12 ?o_12 ?r_12_0 ?r_12_1 ?r_12_2 ?r_12_3 ?r_12_4 ?r_12_5 ?r_12_6 ?r_12_7 ?r_12_8 ?r_12_9 ?r_12_10 ?r_12_11 ?r_12_12 ?r_12_13 ?r_12_14 ?j_12_0 ?j_12_1 ?j_12_2 ?j_12_3 ?j_12_4 ?f_12_name ?f_12_index ?f_12_event ?f_12_many ?f_12_endpoint ?f_12_line ?f_12_column ?w_13 ?v_13 ?u_13 ?o_13 ?r_13_0 ?r_13_1 ?r_13_2 ?r_13_3 ?r_13_4 ?r_13_5 ?r_13_6 ?r_13_7 ?r_13_8 ?r_13_9 ?r_13_10 ?r_13_11 ?r_13_12 ?r_13_13 ?r_13_14 ?j_13_0 ?j_13_1 ?j_13_2 ?j_13_3 ?j_13_4 ?f_13_name ?f_13_index ?f_13_event ?f_13_many ?f_13_endpoint ?f_13_line ?f_13_column ?qz13 ?zisinstance ?zint ?zlen ?zrange ?zrepr ?zmax ?zmin ?zabs ?zenumerate ?zValueError ?zLookupError ?zIndexError ?zKeyError ?zRuntimeError
    (case a1 => k_is)
    (case l1 => k_is)
    (case c1 => k_is)
    (case k1 => k_is)
    (case a2 => k_is)
    (case l2 => k_is)
    (case c2 => k_is)
    (case k2 => k_is)
    (case a3 => k_is)
    (case l3 => k_is)
    (case c3 => k_is)
    (case k3 => k_is)
    (case a4 => k_is)
    (case l4 => k_is)
    (case c4 => k_is)
    (case k4 => k_is)
    (case a5 => k_is)
    (case l5 => k_is)
    (case c5 => k_is)
    (case k5 => k_is)
    (case a6 => k_is)
    (case l6 => k_is)
    (case c6 => k_is)
    (case k6 => k_is)
    (case a7 => k_is)
    (case l7 => k_is)
    (case c7 => k_is)
    (case k7 => k_is)
    (case a8 => k_is)
    (case l8 => k_is)
    (case c8 => k_is)
    (case k8 => k_is)
    (case a9 => k_is)
    (case l9 => k_is)
    (case c9 => k_is)
    (case k9 => k_is)
    (case a10 => k_is)
    (case l10 => k_is)
    (case c10 => k_is)
    (case k10 => k_is)
    (case g_0 => k_is)
    (case g_1 => k_is)
    (case g_2 => k_is)
    (case g_3 => k_is)
    (case g_4 => k_is)
    (case g_5 => k_is)
    (case g_6 => k_is)
    (case g_7 => k_is)
    (case g_8 => k_is)
    (case g_9 => k_is)
    (case g_10 => k_is)
    (case g_11 => k_is)
    (case g_12 => k_is)
    (case g_13 => k_is)
    (case g_14 => k_is)
    (case a_0 => k_is)
    (case l_0 => k_is)
    (case c_0 => k_is)
    (case k_0 => k_is)
    (case x_0 => k_is)
    (case s_0 => k_is)
    (case t_0 => k_is)
    (case a_1 => k_is)
    (case l_1 => k_is)
    (case c_1 => k_is)
    (case k_1 => k_is)
    (case x_1 => k_is)
    (case s_1 => k_is)
    (case t_1 => k_is)
    (case a_2 => k_is)
    (case l_2 => k_is)
    (case c_2 => k_is)
    (case k_2 => k_is)
    (case x_2 => k_is)
    (case s_2 => k_is)
    (case t_2 => k_is)
    (case a_3 => k_is)
    (case l_3 => k_is)
    (case c_3 => k_is)
    (case k_3 => k_is)
    (case x_3 => k_is)
    (case s_3 => k_is)
    (case t_3 => k_is)
    (case a_4 => k_is)
    (case l_4 => k_is)
    (case c_4 => k_is)
    (case k_4 => k_is)
    (case x_4 => k_is)
    (case s_4 => k_is)
    (case t_4 => k_is)
    (case a_5 => k_is)
    (case l_5 => k_is)
    (case c_5 => k_is)
    (case k_5 => k_is)
    (case x_5 => k_is)
    (case s_5 => k_is)
    (case t_5 => k_is)
    (case a_6 => k_is)
    (case l_6 => k_is)
    (case c_6 => k_is)
    (case k_6 => k_is)
    (case x_6 => k_is)
    (case s_6 => k_is)
    (case t_6 => k_is)
    (case a_7 => k_is)
    (case l_7 => k_is)
    (case c_7 => k_is)
    (case k_7 => k_is)
    (case x_7 => k_is)
    (case s_7 => k_is)
    (case t_7 => k_is)
    (case a_8 => k_is)
    (case l_8 => k_is)
    (case c_8 => k_is)
    (case k_8 => k_is)
    (case x_8 => k_is)
    (case s_8 => k_is)
    (case t_8 => k_is)
    (case a_9 => k_is)
    (case l_9 => k_is)
    (case c_9 => k_is)
    (case k_9 => k_is)
    (case x_9 => k_is)
    (case s_9 => k_is)
    (case t_9 => k_is)
    (case a_10 => k_is)
    (case l_10 => k_is)
    (case c_10 => k_is)
    (case k_10 => k_is)
    (case x_10 => k_is)
    (case s_10 => k_is)
    (case t_10 => k_is)
    (case a_11 => k_is)
    (case l_11 => k_is)
    (case c_11 => k_is)
    (case k_11 => k_is)
    (case x_11 => k_is)
    (case s_11 => k_is)
    (case t_11 => k_is)
    (case a_12 => k_is)
    (case l_12 => k_is)
    (case c_12 => k_is)
    (case k_12 => k_is)
    (case x_12 => k_is)
    (case s_12 => k_is)
    (case t_12 => k_is)
    (case e_0 => k_is)
    (case y_0 => k_is)
    (case h_0 => k_is)
    (case p_0 => k_is)
    (case e_1 => k_is)
    (case y_1 => k_is)
    (case h_1 => k_is)
    (case p_1 => k_is)
    (case e_2 => k_is)
    (case y_2 => k_is)
    (case h_2 => k_is)
    (case p_2 => k_is)
    (case e_3 => k_is)
    (case y_3 => k_is)
    (case h_3 => k_is)
    (case p_3 => k_is)
    (case e_4 => k_is)
    (case y_4 => k_is)
    (case h_4 => k_is)
    (case p_4 => k_is)
    (case e_5 => k_is)
    (case y_5 => k_is)
    (case h_5 => k_is)
    (case p_5 => k_is)
    (case e_6 => k_is)
    (case y_6 => k_is)
    (case h_6 => k_is)
    (case p_6 => k_is)
    (case e_7 => k_is)
    (case y_7 => k_is)
    (case h_7 => k_is)
    (case p_7 => k_is)
    (case e_8 => k_is)
    (case y_8 => k_is)
    (case h_8 => k_is)
    (case p_8 => k_is)
    (case e_9 => k_is)
    (case y_9 => k_is)
    (case h_9 => k_is)
    (case p_9 => k_is)
    (case e_10 => k_is)
    (case y_10 => k_is)
    (case h_10 => k_is)
    (case p_10 => k_is)
    (case e_11 => k_is)
    (case y_11 => k_is)
    (case h_11 => k_is)
    (case p_11 => k_is)
    (case e_12 => k_is)
    (case y_12 => k_is)
    (case h_12 => k_is)
    (case p_12 => k_is)
    (case e_13 => k_is)
    (case y_13 => k_is)
    (case h_13 => k_is)
    (case p_13 => k_is)
    (case e_14 => k_is)
    (case y_14 => k_is)
    (case h_14 => k_is)
    (case n10 => k_is)
    (case n11 => k_is)
    (case hn => k_is)
    (case ht => k_is)
    (case w_0 => k_is)
    (case v_0 => k_is)
    (case u_0 => k_is)
    (case o_0 => k_is)
    (case r_0_0 => k_is)
    (case r_0_1 => k_is)
    (case r_0_2 => k_is)
    (case r_0_3 => k_is)
    (case r_0_4 => k_is)
    (case r_0_5 => k_is)
    (case r_0_6 => k_is)
    (case r_0_7 => k_is)
    (case r_0_8 => k_is)
    (case r_0_9 => k_is)
    (case r_0_10 => k_is)
    (case r_0_11 => k_is)
    (case r_0_12 => k_is)
    (case r_0_13 => k_is)
    (case r_0_14 => k_is)
    (case j_0_0 => k_is)
    (case j_0_1 => k_is)
    (case j_0_2 => k_is)
    (case j_0_3 => k_is)
    (case j_0_4 => k_is)
    (case f_0_name => k_is)
    (case f_0_index => k_is)
    (case f_0_event => k_is)
    (case f_0_many => k_is)
    (case f_0_endpoint => k_is)
    (case f_0_line => k_is)
    (case f_0_column => k_is)
    (case w_1 => k_is)
    (case v_1 => k_is)
    (case u_1 => k_is)
    (case o_1 => k_is)
    (case r_1_0 => k_is)
    (case r_1_1 => k_is)
    (case r_1_2 => k_is)
    (case r_1_3 => k_is)
    (case r_1_4 => k_is)
    (case r_1_5 => k_is)
    (case r_1_6 => k_is)
    (case r_1_7 => k_is)
    (case r_1_8 => k_is)
    (case r_1_9 => k_is)
    (case r_1_10 => k_is)
    (case r_1_11 => k_is)
    (case r_1_12 => k_is)
    (case r_1_13 => k_is)
    (case r_1_14 => k_is)
    (case j_1_0 => k_is)
    (case j_1_1 => k_is)
    (case j_1_2 => k_is)
    (case j_1_3 => k_is)
    (case j_1_4 => k_is)
    (case f_1_name => k_is)
    (case f_1_index => k_is)
    (case f_1_event => k_is)
    (case f_1_many => k_is)
    (case f_1_endpoint => k_is)
    (case f_1_line => k_is)
    (case f_1_column => k_is)
    (case w_2 => k_is)
    (case v_2 => k_is)
    (case u_2 => k_is)
    (case o_2 => k_is)
    (case r_2_0 => k_is)
    (case r_2_1 => k_is)
    (case r_2_2 => k_is)
    (case r_2_3 => k_is)
    (case r_2_4 => k_is)
    (case r_2_5 => k_is)
    (case r_2_6 => k_is)
    (case r_2_7 => k_is)
    (case r_2_8 => k_is)
    (case r_2_9 => k_is)
    (case r_2_10 => k_is)
    (case r_2_11 => k_is)
    (case r_2_12 => k_is)
    (case r_2_13 => k_is)
    (case r_2_14 => k_is)
    (case j_2_0 => k_is)
    (case j_2_1 => k_is)
    (case j_2_2 => k_is)
    (case j_2_3 => k_is)
    (case j_2_4 => k_is)
    (case f_2_name => k_is)
    (case f_2_index => k_is)
    (case f_2_event => k_is)
    (case f_2_many => k_is)
    (case f_2_endpoint => k_is)
    (case f_2_line => k_is)
    (case f_2_column => k_is)
    (case w_3 => k_is)
    (case v_3 => k_is)
    (case u_3 => k_is)
    (case o_3 => k_is)
    (case r_3_0 => k_is)
    (case r_3_1 => k_is)
    (case r_3_2 => k_is)
    (case r_3_3 => k_is)
    (case r_3_4 => k_is)
    (case r_3_5 => k_is)
    (case r_3_6 => k_is)
    (case r_3_7 => k_is)
    (case r_3_8 => k_is)
    (case r_3_9 => k_is)
    (case r_3_10 => k_is)
    (case r_3_11 => k_is)
    (case r_3_12 => k_is)
    (case r_3_13 => k_is)
    (case r_3_14 => k_is)
    (case j_3_0 => k_is)
    (case j_3_1 => k_is)
    (case j_3_2 => k_is)
    (case j_3_3 => k_is)
    (case j_3_4 => k_is)
    (case f_3_name => k_is)
    (case f_3_index => k_is)
    (case f_3_event => k_is)
    (case f_3_many => k_is)
    (case f_3_endpoint => k_is)
    (case f_3_line => k_is)
    (case f_3_column => k_is)
    (case w_4 => k_is)
    (case v_4 => k_is)
    (case u_4 => k_is)
    (case o_4 => k_is)
    (case r_4_0 => k_is)
    (case r_4_1 => k_is)
    (case r_4_2 => k_is)
    (case r_4_3 => k_is)
    (case r_4_4 => k_is)
    (case r_4_5 => k_is)
    (case r_4_6 => k_is)
    (case r_4_7 => k_is)
    (case r_4_8 => k_is)
    (case r_4_9 => k_is)
    (case r_4_10 => k_is)
    (case r_4_11 => k_is)
    (case r_4_12 => k_is)
    (case r_4_13 => k_is)
    (case r_4_14 => k_is)
    (case j_4_0 => k_is)
    (case j_4_1 => k_is)
    (case j_4_2 => k_is)
    (case j_4_3 => k_is)
    (case j_4_4 => k_is)
    (case f_4_name => k_is)
    (case f_4_index => k_is)
    (case f_4_event => k_is)
    (case f_4_many => k_is)
    (case f_4_endpoint => k_is)
    (case f_4_line => k_is)
    (case f_4_column => k_is)
    (case w_5 => k_is)
    (case v_5 => k_is)
    (case u_5 => k_is)
    (case o_5 => k_is)
    (case r_5_0 => k_is)
    (case r_5_1 => k_is)
    (case r_5_2 => k_is)
    (case r_5_3 => k_is)
    (case r_5_4 => k_is)
    (case r_5_5 => k_is)
    (case r_5_6 => k_is)
    (case r_5_7 => k_is)
    (case r_5_8 => k_is)
    (case r_5_9 => k_is)
    (case r_5_10 => k_is)
    (case r_5_11 => k_is)
    (case r_5_12 => k_is)
    (case r_5_13 => k_is)
    (case r_5_14 => k_is)
    (case j_5_0 => k_is)
    (case j_5_1 => k_is)
    (case j_5_2 => k_is)
    (case j_5_3 => k_is)
    (case j_5_4 => k_is)
    (case f_5_name => k_is)
    (case f_5_index => k_is)
    (case f_5_event => k_is)
    (case f_5_many => k_is)
    (case f_5_endpoint => k_is)
    (case f_5_line => k_is)
    (case f_5_column => k_is)
    (case w_6 => k_is)
    (case v_6 => k_is)
    (case u_6 => k_is)
    (case o_6 => k_is)
    (case r_6_0 => k_is)
    (case r_6_1 => k_is)
    (case r_6_2 => k_is)
    (case r_6_3 => k_is)
    (case r_6_4 => k_is)
    (case r_6_5 => k_is)
    (case r_6_6 => k_is)
    (case r_6_7 => k_is)
    (case r_6_8 => k_is)
    (case r_6_9 => k_is)
    (case r_6_10 => k_is)
    (case r_6_11 => k_is)
    (case r_6_12 => k_is)
    (case r_6_13 => k_is)
    (case r_6_14 => k_is)
    (case j_6_0 => k_is)
    (case j_6_1 => k_is)
    (case j_6_2 => k_is)
    (case j_6_3 => k_is)
    (case j_6_4 => k_is)
    (case f_6_name => k_is)
    (case f_6_index => k_is)
    (case f_6_event => k_is)
    (case f_6_many => k_is)
    (case f_6_endpoint => k_is)
    (case f_6_line => k_is)
    (case f_6_column => k_is)
    (case w_7 => k_is)
    (case v_7 => k_is)
    (case u_7 => k_is)
    (case o_7 => k_is)
    (case r_7_0 => k_is)
    (case r_7_1 => k_is)
    (case r_7_2 => k_is)
    (case r_7_3 => k_is)
    (case r_7_4 => k_is)
    (case r_7_5 => k_is)
    (case r_7_6 => k_is)
    (case r_7_7 => k_is)
    (case r_7_8 => k_is)
    (case r_7_9 => k_is)
    (case r_7_10 => k_is)
    (case r_7_11 => k_is)
    (case r_7_12 => k_is)
    (case r_7_13 => k_is)
    (case r_7_14 => k_is)
    (case j_7_0 => k_is)
    (case j_7_1 => k_is)
    (case j_7_2 => k_is)
    (case j_7_3 => k_is)
    (case j_7_4 => k_is)
    (case f_7_name => k_is)
    (case f_7_index => k_is)
    (case f_7_event => k_is)
    (case f_7_many => k_is)
    (case f_7_endpoint => k_is)
    (case f_7_line => k_is)
    (case f_7_column => k_is)
    (case w_8 => k_is)
    (case v_8 => k_is)
    (case u_8 => k_is)
    (case o_8 => k_is)
    (case r_8_0 => k_is)
    (case r_8_1 => k_is)
    (case r_8_2 => k_is)
    (case r_8_3 => k_is)
    (case r_8_4 => k_is)
    (case r_8_5 => k_is)
    (case r_8_6 => k_is)
    (case r_8_7 => k_is)
    (case r_8_8 => k_is)
    (case r_8_9 => k_is)
    (case r_8_10 => k_is)
    (case r_8_11 => k_is)
    (case r_8_12 => k_is)
    (case r_8_13 => k_is)
    (case r_8_14 => k_is)
    (case j_8_0 => k_is)
    (case j_8_1 => k_is)
    (case j_8_2 => k_is)
    (case j_8_3 => k_is)
    (case j_8_4 => k_is)
    (case f_8_name => k_is)
    (case f_8_index => k_is)
    (case f_8_event => k_is)
    (case f_8_many => k_is)
    (case f_8_endpoint => k_is)
    (case f_8_line => k_is)
    (case f_8_column => k_is)
    (case w_9 => k_is)
    (case v_9 => k_is)
    (case u_9 => k_is)
    (case o_9 => k_is)
    (case r_9_0 => k_is)
    (case r_9_1 => k_is)
    (case r_9_2 => k_is)
    (case r_9_3 => k_is)
    (case r_9_4 => k_is)
    (case r_9_5 => k_is)
    (case r_9_6 => k_is)
    (case r_9_7 => k_is)
    (case r_9_8 => k_is)
    (case r_9_9 => k_is)
    (case r_9_10 => k_is)
    (case r_9_11 => k_is)
    (case r_9_12 => k_is)
    (case r_9_13 => k_is)
    (case r_9_14 => k_is)
    (case j_9_0 => k_is)
    (case j_9_1 => k_is)
    (case j_9_2 => k_is)
    (case j_9_3 => k_is)
    (case j_9_4 => k_is)
    (case f_9_name => k_is)
    (case f_9_index => k_is)
    (case f_9_event => k_is)
    (case f_9_many => k_is)
    (case f_9_endpoint => k_is)
    (case f_9_line => k_is)
    (case f_9_column => k_is)
    (case w_10 => k_is)
    (case v_10 => k_is)
    (case u_10 => k_is)
    (case o_10 => k_is)
    (case r_10_0 => k_is)
    (case r_10_1 => k_is)
    (case r_10_2 => k_is)
    (case r_10_3 => k_is)
    (case r_10_4 => k_is)
    (case r_10_5 => k_is)
    (case r_10_6 => k_is)
    (case r_10_7 => k_is)
    (case r_10_8 => k_is)
    (case r_10_9 => k_is)
    (case r_10_10 => k_is)
    (case r_10_11 => k_is)
    (case r_10_12 => k_is)
    (case r_10_13 => k_is)
    (case r_10_14 => k_is)
    (case j_10_0 => k_is)
    (case j_10_1 => k_is)
    (case j_10_2 => k_is)
    (case j_10_3 => k_is)
    (case j_10_4 => k_is)
    (case f_10_name => k_is)
    (case f_10_index => k_is)
    (case f_10_event => k_is)
    (case f_10_many => k_is)
    (case f_10_endpoint => k_is)
    (case f_10_line => k_is)
    (case f_10_column => k_is)
    (case w_11 => k_is)
    (case v_11 => k_is)
    (case u_11 => k_is)
    (case o_11 => k_is)
    (case r_11_0 => k_is)
    (case r_11_1 => k_is)
    (case r_11_2 => k_is)
    (case r_11_3 => k_is)
    (case r_11_4 => k_is)
    (case r_11_5 => k_is)
    (case r_11_6 => k_is)
    (case r_11_7 => k_is)
    (case r_11_8 => k_is)
    (case r_11_9 => k_is)
    (case r_11_10 => k_is)
    (case r_11_11 => k_is)
    (case r_11_12 => k_is)
    (case r_11_13 => k_is)
    (case r_11_14 => k_is)
    (case j_11_0 => k_is)
    (case j_11_1 => k_is)
    (case j_11_2 => k_is)
    (case j_11_3 => k_is)
    (case j_11_4 => k_is)
    (case f_11_name => k_is)
    (case f_11_index => k_is)
    (case f_11_event => k_is)
    (case f_11_many => k_is)
    (case f_11_endpoint => k_is)
    (case f_11_line => k_is)
    (case f_11_column => k_is)
    (case w_12 => k_is)
    (case v_12 => k_is)
    (case u_12 => k_is)
    (case o_12 => k_is)
    (case r_12_0 => k_is)
    (case r_12_1 => k_is)
    (case r_12_2 => k_is)
    (case r_12_3 => k_is)
    (case r_12_4 => k_is)
    (case r_12_5 => k_is)
    (case r_12_6 => k_is)
    (case r_12_7 => k_is)
    (case r_12_8 => k_is)
    (case r_12_9 => k_is)
    (case r_12_10 => k_is)
    (case r_12_11 => k_is)
    (case r_12_12 => k_is)
    (case r_12_13 => k_is)
    (case r_12_14 => k_is)
    (case j_12_0 => k_is)
    (case j_12_1 => k_is)
    (case j_12_2 => k_is)
    (case j_12_3 => k_is)
    (case j_12_4 => k_is)
    (case f_12_name => k_is)
    (case f_12_index => k_is)
    (case f_12_event => k_is)
    (case f_12_many => k_is)
    (case f_12_endpoint => k_is)
    (case f_12_line => k_is)
    (case f_12_column => k_is)
    (case w_13 => k_is)
    (case v_13 => k_is)
    (case u_13 => k_is)
    (case o_13 => k_is)
    (case r_13_0 => k_is)
    (case r_13_1 => k_is)
    (case r_13_2 => k_is)
    (case r_13_3 => k_is)
    (case r_13_4 => k_is)
    (case r_13_5 => k_is)
    (case r_13_6 => k_is)
    (case r_13_7 => k_is)
    (case r_13_8 => k_is)
    (case r_13_9 => k_is)
    (case r_13_10 => k_is)
    (case r_13_11 => k_is)
    (case r_13_12 => k_is)
    (case r_13_13 => k_is)
    (case r_13_14 => k_is)
    (case j_13_0 => k_is)
    (case j_13_1 => k_is)
    (case j_13_2 => k_is)
    (case j_13_3 => k_is)
    (case j_13_4 => k_is)
    (case f_13_name => k_is)
    (case f_13_index => k_is)
    (case f_13_event => k_is)
    (case f_13_many => k_is)
    (case f_13_endpoint => k_is)
    (case f_13_line => k_is)
    (case f_13_column => k_is)
    (case qz13 => k_exc)
    (case zisinstance => k_is)
    (case zint => k_is)
    (case zlen => k_is)
    (case zrange => k_is)
    (case zrepr => k_is)
    (case zmax => k_is)
    (case zmin => k_is)
    (case zabs => k_is)
    (case zenumerate => k_is)
    (case zValueError => k_is)
    (case zLookupError => k_is)
    (case zIndexError => k_is)
    (case zKeyError => k_is)
    (case zRuntimeError => k_is)
#print axioms PySem.Challenge.cw_latewords_k76_errors_made_holds
