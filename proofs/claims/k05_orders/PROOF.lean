import PyProof.Rows.All
import Wide.All
import OpenK.AllK
import Wide.FinOn
import HandS.ForMost
import HandS.Exc
import HandS.ExcOwn
import HandS.ExcInit
import HandS.ExcField
import HandS.TryMany
import HandS.WordsExc
import HandS.IsInst
import HandS.Wide
import HandS.Evl
import HandS.RaiseMore
import HandS.Defaults
import HandS.Flow
import HandS.Walk
import PyProof.ReprLen
import HandS.DeepEq
import HandS.ExcIs
import PySem.Challenge.RW_latewords_k05_orders
set_option Elab.async false
set_option linter.all false
set_option maxRecDepth 100000
set_option maxHeartbeats 8000000
namespace L3
open PySem PySem.Spec PyProof.Rows L2 Evl
/-! ### data in a heap that grows -/
section
variable {K : PySem.W.Frag} {H H1 : Hp}
mutual
theorem dp_ex (e : Ex H H1) : ∀ {d : PyData} {x : V}, Dp K H x d → Dp K H1 x d
  | _, _, .non => .non
  | _, _, .bl b => .bl b
  | _, _, .int i => .int i
  | _, _, .str x => .str x
  | _, _, .lst h a => .lst (ex_l e h) (dps_ex e a)
  | _, _, .tup h a => .tup (ex_t e h) (dps_ex e a)
theorem dps_ex (e : Ex H H1) : ∀ {ds : List PyData} {xs : List V}, DpAll K H xs ds → DpAll K H1 xs ds
  | _, _, .nil => .nil
  | _, _, .cons a r => .cons (dp_ex e a) (dps_ex e r)
end
/-- the name of a datum's type -/
def tyN : PyData → String
  | .none => "NoneType"
  | .bool _ => "bool"
  | .int _ => "int"
  | .str _ => "str"
  | .list _ => "list"
  | .tuple _ => "tuple"
  | .dict _ => "dict"
theorem ty_list {a : Addr} {xs : List V} (h : SqL K H a xs) : TyX K H (.ref a) (.type "list") := by
  rcases h with (h | ⟨o, h⟩) | ⟨o, its, n, h, c, _⟩
  · exact .base (.lst h)
  · exact .base (.frz h)
  · exact .kList h c
theorem ty_tup {a : Addr} {xs : List V} (h : SqT K H a xs) : TyX K H (.ref a) (.type "tuple") := by
  rcases h with (h | ⟨o, h⟩) | ⟨o, its, n, h, c, _⟩
  · exact .base (.tup h)
  · exact .fTuple h
  · exact .kTuple h c
theorem dp_ty {d : PyData} {x : V} (h : Dp K H x d) : TyX K H x (.type (tyN d)) := by
  cases h with
  | non => exact .base .non
  | bl b => exact .base (.bl b)
  | int i => exact .base (.int i)
  | str z => exact .base (.str z)
  | lst h _ => exact ty_list h
  | tup h _ => exact ty_tup h
end
def isIntD : PyData → Bool
  | .int _ => true
  | .bool _ => true
  | _ => false
def isBoolD : PyData → Bool
  | .bool _ => true
  | _ => false
def isListD : PyData → Bool
  | .list _ => true
  | _ => false
def isTupD : PyData → Bool
  | .tuple _ => true
  | _ => false
def isStrD : PyData → Bool
  | .str _ => true
  | _ => false
theorem kit_int (d : PyData) : kitB (tyN d) "int" = some (isIntD d) := by
  cases d <;> (dsimp only [tyN, isIntD, isBoolD, isListD, isTupD, isStrD]; decide +kernel)
theorem kit_bool (d : PyData) : kitB (tyN d) "bool" = some (isBoolD d) := by
  cases d <;> (dsimp only [tyN, isIntD, isBoolD, isListD, isTupD, isStrD]; decide +kernel)
theorem kit_list (d : PyData) : kitB (tyN d) "list" = some (isListD d) := by
  cases d <;> (dsimp only [tyN, isIntD, isBoolD, isListD, isTupD, isStrD]; decide +kernel)
theorem kit_tuple (d : PyData) : kitB (tyN d) "tuple" = some (isTupD d) := by
  cases d <;> (dsimp only [tyN, isIntD, isBoolD, isListD, isTupD, isStrD]; decide +kernel)
theorem kit_str (d : PyData) : kitB (tyN d) "str" = some (isStrD d) := by
  cases d <;> (dsimp only [tyN, isIntD, isBoolD, isListD, isTupD, isStrD]; decide +kernel)
section
variable {K : PySem.W.Frag} {σ : L2.St} {H H' : Hp} {ta tb tc te tx : TE} {t u : TT} {x y z v : V} {r : R2}
/-- isinstance(x, T), T a built-in type by its name -/
theorem ev_isi {d : PyData} {n : String} {b : Bool} (ha : Ev ta σ H x) (hd : Dp K H x d) (hb : kitB (tyN d) n = some b) :
    Ev (tCB (rIsi K) (tCons ta (tCons (tC (.ty n)) tNil))) σ H (.bl b) :=
  ev_cb (ea_cons ha (ea_cons ev_c ea_nil)) fun H1 e Q q => ⟨x, .ty n, _, _, b, rfl, .ty n, dp_ty (dp_ex e hd), kit_ty hb, q H1 (Ex.refl H1)⟩
/-- a op b op c of three ints -/
theorem ev_chain {g g' : Int → Int → Bool} {i j k : Int} (ha : Ev ta σ H (.int i)) (hb : Ev tb σ H (.int j)) (hc : Ev tc σ H (.int k)) :
    Ev (tChain (rI0 fun i j => .bl (g i j)) (rI0 fun i j => .bl (g' i j)) ta tb tc) σ H (.bl (g i j && g' j k)) := fun H1 e Q q =>
  ha H1 e _ fun H2 e2 => hb H2 (e.trans e2) _ fun H3 e3 => ⟨i, j, rfl, rfl, g i j, rfl, by
    cases h : g i j with
    | true =>
      rw [h] at q
      show tc σ H3 _
      exact hc H3 ((e.trans e2).trans e3) _ fun H4 e4 => ⟨j, k, rfl, rfl, q H4 ((e2.trans e3).trans e4)⟩
    | false =>
      rw [h] at q
      show Q (.bl false) H3
      exact q H3 (e2.trans e3)⟩
end
/-- a built-in type by its name, as a value -/
theorem pe_ty {X : Cx} {x : Str} {pos : Pos} (n : String) (hm : X.mg x = none) (hv : bootBuiltins x = some (.type n) := by decide +kernel) (hg : Gl X x := by rfl)
    (hn : x ≠ "__name__" := by decide) (hd : (x == ("__debug__" : Str)) = false := by decide) : PE X (.Name x pos) (tC (.ty n)) :=
  pe_bltn (v := .ty n) (u := .type n) hg hm hv rfl hn hd
end L3

namespace L3
open PySem PySem.Spec PyProof.Rows L2 Evl
/-! ### loops over new pairs -/
section
variable {K : PySem.W.Frag} {σ : L2.St} {H : Hp} {D : Ends} {tu tz : TS}
/-- for i, x in enumerate(list): slots j and k -/
theorem s_forEn {a : Addr} {xs : List V} {ta : TA} {j k : Nat} (h : EvA ta σ H [.ref a]) (hx : SqL K H a xs) (Pv : Nat → L2.St → Hp → Prop) (h0 : ∀ H1, Ex H H1 → Pv 0 σ H1)
    (hl : ∀ i σ' H', i ≤ xs.length → Pv i σ' H' → SqL K H' a xs)
    (hs : ∀ i x σ' H', xs[i]? = some x → Pv i σ' H' → ∀ H1, Ex H' H1 → tu { D with nx := Pv (i + 1), ct := Pv (i + 1), bk := D.nx } ((σ'.set j (some (.int (i : Nat)))).set k (some x)) H1)
    (hd : ∀ σ' H', Pv xs.length σ' H' → D.nx σ' H') : tFor (iEnum K ta) (gTup K 2 (gCons (gName j) (gCons (gName k) gNil))) tu D σ H :=
  h H (Ex.refl H) _ fun H1 e => ⟨a, xs, rfl, ex_l e hx, for_it (walk_enum (xs := xs)) Pv (h0 H1 e) (fun i σ' H' hi p => hl i σ' H' hi p) (fun i v σ' H' H2 hi p y => by
    obtain ⟨T, x, z, rfl, hT, rfl, hx1, hz⟩ := y
    cases hx1
    refine ⟨T, _, rfl, Or.inl (Or.inl upd_same), rfl, ?_⟩
    refine ⟨_, _, rfl, _, _, rfl, rfl, ?_⟩
    exact hs i z σ' H' hz p _ (Ex.new hT)) hd⟩
theorem q_forEn {a : Addr} {xs : List V} {ta : TA} {j k : Nat} (h : EvA ta σ H [.ref a]) (hx : SqL K H a xs) (Pv : Nat → L2.St → Hp → Prop) (h0 : ∀ H1, Ex H H1 → Pv 0 σ H1)
    (hl : ∀ i σ' H', i ≤ xs.length → Pv i σ' H' → SqL K H' a xs)
    (hs : ∀ i x σ' H', xs[i]? = some x → Pv i σ' H' → ∀ H1, Ex H' H1 → tu { D with nx := Pv (i + 1), ct := Pv (i + 1), bk := tz D } ((σ'.set j (some (.int (i : Nat)))).set k (some x)) H1)
    (hd : ∀ σ' H', Pv xs.length σ' H' → tz D σ' H') : tSeq (tFor (iEnum K ta) (gTup K 2 (gCons (gName j) (gCons (gName k) gNil))) tu) tz D σ H :=
  s_forEn (D := { D with nx := tz D }) h hx Pv h0 hl hs hd
end
/-! ### an own error class with one field, told by its __init__ -/
/-- an error of the class at C is in the air, its own dict holds f = v; all that stood stands -/
def ErrV (C : Addr) (f : Str) (v : V) (H : Hp) (E : XK) : Prop := ∀ (d : Addr) (H' : Hp), Ex H H' → H d = none → H' d = some (.xd [(f, v)]) → E (.ref C) (some d) H'
theorem ErrV.go {C : Addr} {f : Str} {v : V} {H H1 : Hp} {E : XK} (k : ErrV C f v H E) (e : Ex H H1) : ErrV C f v H1 E := fun d H' e2 hd h => k d H' (e.trans e2) (fresh_back e hd) h
/-- __init__(self, f): self.f = f, for a fresh error -/
def spErr (K : PySem.W.Frag) (C : Addr) (f : Str) : Sp := fun vs H Q _ => ∃ (a : Addr) (v : V), vs = [.ref a, v] ∧ OexC K C ∧ PySem.W.findIn K (.ref C) f = some none ∧ H a = some (exo a C none) ∧
  ∀ dx, H dx = none → dx ≠ a → Q .non (upd (upd H dx (exd dx [(f, v)])) a (exo a C (some dx)))
/-- what is known of such a class and of its __init__, at fI -/
structure ErC (P : Program) (w : World) (K : PySem.W.Frag) (mg : Str → Option Value) (base : Heap) (x : Str) (f : Str) (C fI : Addr) (fd : FuncData) : Prop where
  oex : OexC K C
  hm : mg x = some (.ref C)
  iC : PySem.W.findIn K (.ref C) "__init__" = some (some (.ref fI))
  tI : PySem.W.typeIn K (.ref fI) = some (.type "function")
  no : PySem.W.findIn K (.ref C) f = some none
  ok : FnOk P w K mg base CX0 1 fI fd ["self", f] (spErr K C f)
  bi : Binds K fd ["self", f] []
/-- raise C(e) -/
def tRz (K : PySem.W.Frag) (C : Addr) (f : Str) (W : WX) (te : TE) : TS := fun _ σ H => tMkO C (spErr K C f) [] (tCons te tNil) σ H fun cls d H' => W cls d σ H'
theorem ps_rz {X : Cx} {x f : Str} {C fI : Addr} {fd : FuncData} {W : WX} {e : Expr} {te : TE} {p pos pos' : Pos} (hc : X.calm = true) (T : ErC X.prog X.w X.K X.mg X.base x f C fI fd) (hr : Room 2 X.A) (tk : Takes X W) (he : PA X [e] (tCons te tNil)) (hg : Gl X x := by rfl)
    (hdb : (x == ("__debug__" : Str)) = false := by decide) (hst : starEach (e :: []) X.env = (false, eval e X.env) :: starEach [] X.env := by rfl) (hpl : (backTo pos (starEach [] X.env)).any (·.1) = false := by rfl) :
    PS X (.Raise (some (.Call (.Name x p) [e] [] pos)) none pos') (tRz X.K C f W te) :=
  ps_raise hc tk (pmk_oex (sp := spErr X.K C f) T.oex T.iC T.tI T.ok hr T.bi .nil pass0 hg T.hm he hdb hst hpl)
theorem s_rz {K : PySem.W.Frag} {C : Addr} {f : Str} {W : WX} {te : TE} {σ : L2.St} {H : Hp} {v : V} {D : Ends} (h : Ev te σ H v) (ox : OexC K C) (no : PySem.W.findIn K (.ref C) f = some none)
    (k : ErrV C f v H fun cls d H' => W cls d σ H') : tRz K C f W te D σ H := by
  refine h H (Ex.refl H) _ fun H1 e => ?_
  refine ⟨by show 1 ≤ 1000; decide, fun a ha => ⟨a, v, rfl, ox, no, upd_same, fun dx hdx hne => ⟨rfl, dx, [(f, v)], upd_same, ?_, ?_, ?_⟩⟩⟩
  · rw [upd_ne hne]
    exact upd_same
  · rw [upd_ne hne] at hdx
    exact hdx
  · rw [upd_ne hne] at hdx
    have eH : upd (del (upd (upd (upd H1 a (exo a C none)) dx (exd dx [(f, v)])) a (exo a C (some dx))) a) dx (.xd [(f, v)]) = upd H1 dx (.xd [(f, v)]) := by
      funext b
      by_cases hb : b = dx
      · rw [hb, upd_same, upd_same]
      · rw [upd_ne hb, upd_ne hb]
        by_cases hba : b = a
        · rw [hba, del_same, ha]
        · rw [del_ne hba, upd_ne hba, upd_ne hb, upd_ne hba]
    rw [eH]
    exact k dx _ (e.trans (Ex.new hdx)) (fresh_back e hdx) upd_same
/-- the body of such an __init__ -/
theorem s_ini {K : PySem.W.Frag} {C : Addr} {f : Str} {vs : List V} {H : Hp} {Q : VK} {E : XK} {N : List Str} (h : spErr K C f vs H Q E) (hN : start N vs = vs.map some) :
    tOst K f (tVar 0) (tVar 1) { nx := fun _ H' => Q .non H', rt := Q } (start N vs) H := by
  obtain ⟨a, v, rfl, ox, no, ha, k⟩ := h
  rw [hN]
  exact ⟨v, rfl, .ref a, rfl, a, C, rfl, ox, no, .inl ⟨ha, k⟩⟩
end L3

namespace L3
open PySem PySem.Spec PyProof.Rows L2 Evl
/-! ### a list of one's own beside what stands -/
section
variable {K : PySem.W.Frag} {H H1 H2 : Hp} {l : Addr}
theorem ex_del_self : Ex (del H l) H := fun a o e => by
  by_cases h : a = l
  · rw [h, del_same] at e
    cases e
  · rw [del_ne h] at e
    exact e
theorem ex_del (e : Ex H H1) : Ex (del H l) (del H1 l) := fun a o h => by
  by_cases c : a = l
  · rw [c, del_same] at h
    cases h
  · rw [del_ne c] at h ⊢
    exact e a o h
theorem del_upd {o : HO} : del (upd H l o) l = del H l := by
  funext b
  by_cases c : b = l
  · rw [c, del_same, del_same]
  · rw [del_ne c, del_ne c, upd_ne c]
/-- what does not know l stands beside l -/
theorem ex_beside (e : Ex H H1) (h : H l = none) : Ex H (del H1 l) := fun a o q => by
  have c : a ≠ l := ne_of_none q h
  rw [del_ne c]
  exact e a o q
/-- a new list of data is handed back: what stood stands beside it -/
def RetLD (K : PySem.W.Frag) (ds : List PyData) (H : Hp) (Q : VK) : Prop := ∀ p xs H2, H p = none → Ex H (del H2 p) → H2 p = some (.lst xs) → DpAll K (del H2 p) xs ds → Q (.ref p) H2
theorem RetLD.go {ds : List PyData} {Q : VK} (k : RetLD K ds H Q) (e : Ex H H1) : RetLD K ds H1 Q := fun p xs H2 h1 h2 h3 h4 => k p xs H2 (fresh_back e h1) (e.trans h2) h3 h4
theorem dps_snoc {xs : List V} {ds : List PyData} {x : V} {d : PyData} (h : DpAll K H xs ds) (hx : Dp K H x d) : DpAll K H (xs ++ [x]) (ds ++ [d]) := by
  induction ds generalizing xs with
  | nil =>
    cases h
    exact .cons hx .nil
  | cons e es ih =>
    cases h with
    | cons a r => exact .cons a (ih r)
theorem dps_len' : ∀ {xs : List V} {ds : List PyData}, DpAll K H xs ds → xs.length = ds.length
  | _, _, .nil => rfl
  | _, _, .cons _ r => by rw [List.length_cons, List.length_cons, dps_len' r]
theorem dps_at {xs : List V} {ds : List PyData} {i : Nat} {d : PyData} (h : DpAll K H xs ds) (hi : ds[i]? = some d) : ∃ x, xs[i]? = some x ∧ Dp K H x d := by
  induction ds generalizing xs i with
  | nil => simp at hi
  | cons e es ih =>
    cases h with
    | @cons v vs _ _ a r =>
      cases i with
      | zero =>
        simp at hi
        exact ⟨v, by simp, hi ▸ a⟩
      | succ j =>
        obtain ⟨x, h1, h2⟩ := ih r (by simpa using hi)
        exact ⟨x, by simpa using h1, h2⟩
end
/-! ### a conversation: its writes -/
abbrev Wr := Int × Int × Str
def wD (w : Wr) : PyData := .tuple [.int w.1, .int w.2.1, .str w.2.2]
def cD (ws : List Wr) : PyData := .list (ws.map wD)
/-- the endpoint of the j-th write -/
def spk (ws : List Wr) (j : Nat) : Int := (ws.getD j (0, 0, "")).1
theorem spk_of {ws : List Wr} {j : Nat} {w : Wr} (h : ws[j]? = some w) : spk ws j = w.1 := by
  unfold spk
  rw [List.getD_eq_getElem?_getD, h]
  rfl
section
variable {K : PySem.W.Frag} {H : Hp}
theorem wr_at {xs : List V} {ws : List Wr} {j : Nat} (h : DpAll K H xs (ws.map wD)) (hj : j < ws.length) : ∃ (t : Addr) (w : Wr), ws[j]? = some w ∧ xs[j]? = some (.ref t) ∧ SqT K H t [.int w.1, .int w.2.1, .str w.2.2] := by
  have e : ws[j]? = some ws[j] := by simp [hj]
  obtain ⟨x, h1, h2⟩ := dps_at h (i := j) (d := wD ws[j]) (by rw [List.getElem?_map, e]; rfl)
  cases h2 with
  | tup hs ha =>
    cases ha with
    | cons a1 r1 =>
    cases r1 with
    | cons a2 r2 =>
    cases r2 with
    | cons a3 r3 =>
    cases r3
    cases a1
    cases a2
    cases a3
    exact ⟨_, _, e, h1, hs⟩
end
/-! ### turns -/
/-- one step of the search for turns: what is found, the start of the running one -/
def tstep (ws : List Wr) (a : List (Int × Nat × Nat) × Nat) (stop : Nat) : List (Int × Nat × Nat) × Nat :=
  if stop = ws.length ∨ spk ws stop ≠ spk ws a.2 then (a.1 ++ [(spk ws a.2, a.2, stop)], stop) else a
def tN (ws : List Wr) : Nat → List (Int × Nat × Nat) × Nat
  | 0 => ([], 0)
  | i + 1 => tstep ws (tN ws i) (i + 1)
def turnsM (ws : List Wr) : List (Int × Nat × Nat) := (tN ws ws.length).1
def tD (t : Int × Nat × Nat) : PyData := .tuple [.int t.1, .int (t.2.1 : Int), .int (t.2.2 : Int)]
theorem tN_le (ws : List Wr) : ∀ i, (tN ws i).2 ≤ i
  | 0 => Nat.le_refl _
  | i + 1 => by
    have h := tN_le ws i
    show (tstep ws (tN ws i) (i + 1)).2 ≤ i + 1
    unfold tstep
    split
    · exact Nat.le_refl _
    · omega
theorem tN_len (ws : List Wr) : ∀ i, (tN ws i).1.length ≤ i
  | 0 => Nat.le_refl _
  | i + 1 => by
    have h := tN_len ws i
    show (tstep ws (tN ws i) (i + 1)).1.length ≤ i + 1
    unfold tstep
    split
    · rw [List.length_append, List.length_singleton]
      omega
    · omega
/-- a turn begins at the j-th write -/
def isSt (ws : List Wr) (j : Nat) : Prop := j = 0 ∨ spk ws (j - 1) ≠ spk ws j
instance (ws : List Wr) (j : Nat) : Decidable (isSt ws j) := inferInstanceAs (Decidable (_ ∨ _))
def starts (ts : List (Int × Nat × Nat)) : List Nat := ts.map fun t => t.2.1
structure TI (ws : List Wr) (i : Nat) : Prop where
  mem : ∀ j, j ∈ starts (tN ws i).1 ↔ j < (tN ws i).2 ∧ isSt ws j
  here : (tN ws i).2 < ws.length → isSt ws (tN ws i).2
  run : i < ws.length → ∀ j, (tN ws i).2 ≤ j → j ≤ i → spk ws j = spk ws (tN ws i).2
  fin : i = ws.length → (tN ws i).2 = ws.length
theorem ti_all (ws : List Wr) : ∀ i, i ≤ ws.length → TI ws i
  | 0, _ => ⟨fun j => ⟨(fun h => nomatch h), fun h => absurd h.1 (Nat.not_lt_zero _)⟩, fun _ => Or.inl rfl, fun _ j _ h => by rw [Nat.le_zero.mp h] <;> rfl, fun h => h⟩
  | i + 1, hi => by
    have I := ti_all ws i (by omega)
    have hst := tN_le ws i
    by_cases c : i + 1 = ws.length ∨ spk ws (i + 1) ≠ spk ws (tN ws i).2
    · have eN : tN ws (i + 1) = ((tN ws i).1 ++ [(spk ws (tN ws i).2, (tN ws i).2, i + 1)], i + 1) := if_pos c
      refine ⟨fun j => ?_, fun h => ?_, fun h j h1 h2 => ?_, fun h => ?_⟩
      · rw [eN]
        show j ∈ List.map (fun t => t.2.1) ((tN ws i).1 ++ [(spk ws (tN ws i).2, (tN ws i).2, i + 1)]) ↔ j < i + 1 ∧ isSt ws j
        rw [List.map_append, List.mem_append]
        have m := I.mem j
        constructor
        · intro h
          rcases h with h | h
          · have q := m.mp h
            exact ⟨by omega, q.2⟩
          · have q : j = (tN ws i).2 := by simpa using h
            rw [q]
            exact ⟨by omega, I.here (by omega)⟩
        · rintro ⟨h1, h2⟩
          by_cases c1 : j < (tN ws i).2
          · exact Or.inl (m.mpr ⟨c1, h2⟩)
          · by_cases c2 : j = (tN ws i).2
            · right
              rw [c2]
              simp
            · exfalso
              have r1 := I.run (by omega) j (by omega) (by omega)
              have r2 := I.run (by omega) (j - 1) (by omega) (by omega)
              rcases h2 with h2 | h2
              · omega
              · exact h2 (r2.trans r1.symm)
      · rw [eN] at h ⊢
        have h' : i + 1 < ws.length := h
        have c' : spk ws (i + 1) ≠ spk ws (tN ws i).2 := c.resolve_left (by omega)
        have r1 := I.run (by omega) i (by omega) (Nat.le_refl _)
        refine Or.inr fun z => c' ?_
        have z' : spk ws i = spk ws (i + 1) := z
        rw [← z', r1]
      · rw [eN] at h1 ⊢
        have h1' : i + 1 ≤ j := h1
        have e : j = i + 1 := by omega
        rw [e]
      · rw [eN]
        exact h
    · have eN : tN ws (i + 1) = tN ws i := if_neg c
      have c1 : i + 1 ≠ ws.length := fun z => c (Or.inl z)
      have c2 : spk ws (i + 1) = spk ws (tN ws i).2 := Classical.byContradiction fun z => c (Or.inr z)
      refine ⟨fun j => ?_, fun h => ?_, fun h j h1 h2 => ?_, fun h => absurd h c1⟩
      · rw [eN]
        exact I.mem j
      · rw [eN] at h ⊢
        exact I.here h
      · rw [eN] at h1 ⊢
        by_cases c3 : j = i + 1
        · rw [c3, c2]
        · exact I.run (by omega) j h1 (by omega)
theorem starts_turns (ws : List Wr) (j : Nat) : j ∈ starts (turnsM ws) ↔ j < ws.length ∧ isSt ws j := by
  have I := ti_all ws ws.length (Nat.le_refl _)
  have m := I.mem j
  rw [I.fin rfl] at m
  exact m
/-- how many clearings may stand ahead of each write -/
def limM (ws : List Wr) : List Int := (List.range ws.length).map fun j => if isSt ws j then 0 else 2
theorem set_all {α : Type} (z : α) : ∀ (ss : List Nat) (L : List α) (j : Nat), (ss.foldl (fun L s => L.set s z) L)[j]? = if j ∈ ss then L[j]?.map (fun _ => z) else L[j]?
  | [], L, j => by simp
  | s :: ss, L, j => by
    rw [List.foldl_cons, set_all z ss (L.set s z) j]
    by_cases c : j = s
    · subst c
      rw [if_pos (List.mem_cons_self)]
      by_cases h : j < L.length
      · have e1 : (L.set j z)[j]? = some z := List.getElem?_set_self h
        rw [e1]
        have e2 : L[j]? = some L[j] := by simp [h]
        rw [e2]
        split <;> rfl
      · have e2 : L[j]? = none := by simp; omega
        have e1 : (L.set j z)[j]? = none := by simp; omega
        rw [e1, e2]
        split <;> rfl
    · have e1 : (L.set s z)[j]? = L[j]? := List.getElem?_set_ne (fun q => c q.symm)
      rw [e1]
      have e2 : (j ∈ s :: ss) ↔ j ∈ ss := by
        rw [List.mem_cons]
        exact ⟨fun q => q.resolve_left c, Or.inr⟩
      by_cases h : j ∈ ss
      · rw [if_pos h, if_pos (e2.mpr h)]
      · rw [if_neg h, if_neg fun q => h (e2.mp q)]
theorem lim_set (ws : List Wr) : (starts (turnsM ws)).foldl (fun L s => L.set s (0 : Int)) (List.replicate ws.length 2) = limM ws := by
  refine List.ext_getElem? fun j => ?_
  rw [set_all]
  unfold limM
  rw [List.getElem?_map]
  by_cases h : j < ws.length
  · have e1 : (List.replicate ws.length (2 : Int))[j]? = some 2 := by simp [h]
    have e2 : (List.range ws.length)[j]? = some j := by simp [h]
    rw [e1, e2]
    by_cases c : isSt ws j
    · rw [if_pos ((starts_turns ws j).mpr ⟨h, c⟩)]
      show some (0 : Int) = some (if isSt ws j then 0 else 2)
      rw [if_pos c]
    · rw [if_neg fun q => c ((starts_turns ws j).mp q).2]
      show some (2 : Int) = some (if isSt ws j then 0 else 2)
      rw [if_neg c]
  · have e1 : (List.replicate ws.length (2 : Int))[j]? = none := by simp; omega
    have e2 : (List.range ws.length)[j]? = none := by simp; omega
    rw [e1, e2]
    split <;> rfl
theorem yes_then {te : TE} {σ : L2.St} {H : Hp} {k1 : V → Hp → Prop} {k2 : Hp → Prop} (h : te σ H k1) : tYes σ H fun b H3 => if b = true then te σ H3 k1 else k2 H3 := by
  show (if true = true then te σ H k1 else k2 H)
  rw [if_pos rfl]
  exact h
/-! ### [v] * n -/
section
variable {K : PySem.W.Frag} {σ : L2.St} {H : Hp} {te tn : TE} {v : V}
theorem el_rep {n : Nat} (h : Ev te σ H v) (hn : Ev tn σ H (.int (n : Int))) (hz : n ≤ 100000) : EvL (tOp rRep (tLst (tCons te tNil)) tn) σ H (List.replicate n v) := fun H1 e Q q =>
  h H1 e _ fun H2 e2 => ⟨by show 1 ≤ sizeLine; decide, fun l hl => hn _ ((e.trans e2).trans (Ex.new hl)) _ fun H3 e3 => ⟨l, (n : Int), [v], rfl, rfl, e3 l _ upd_same, by omega, by omega, by
      have q1 : [v].length * ((n : Int)).toNat = n := by simp
      rw [q1]
      exact sz_of hz, fun p hp => by
        have q2 : (List.replicate ((n : Int)).toNat [v]).flatten = List.replicate n v := by simp
        rw [q2]
        have hp1 : H1 p = none := fresh_back (e2.trans ((Ex.new hl).trans e3)) hp
        exact q p _ hp1 ((e2.trans ((Ex.new hl).trans e3)).trans (Ex.new hp)) upd_same⟩⟩
end
section
variable {K : PySem.W.Frag} {σ : L2.St} {H : Hp} {ta tb : TE} {x y : V} {d e : PyData}
theorem rv_eqD (hd : Dp K H x d) (he : Dp K H y e) (s1 : SeqAt.shaped d = true) (s2 : SeqAt.shaped e = true) : RV (rEqD K) x y H (.bl (PyData.eqv d e)) := fun H1 ex Q q => ⟨d, e, dp_ex ex hd, dp_ex ex he, s1, s2, q H1 (Ex.refl H1)⟩
theorem rv_neD (hd : Dp K H x d) (he : Dp K H y e) (s1 : SeqAt.shaped d = true) (s2 : SeqAt.shaped e = true) : RV (rNeD K) x y H (.bl (!PyData.eqv d e)) := fun H1 ex Q q => ⟨d, e, dp_ex ex hd, dp_ex ex he, s1, s2, q H1 (Ex.refl H1)⟩
theorem eqv_str (d : PyData) (s : Str) : PyData.eqv d (.str s) = (match d with | .str z => decide (z = s) | _ => false) := by
  cases d with
  | str z =>
    show (z == s) = decide (z = s)
    by_cases q : z = s
    · rw [q, decide_eq_true rfl, beq_self_eq_true]
    · rw [decide_eq_false q]
      exact beq_eq_false_iff_ne.mpr q
  | _ => rfl
end
end L3

namespace L3
open PySem PySem.Spec PyProof.Rows L2 Evl
/-! ### a try whose clauses stand one after the other, some with a name -/
abbrev Clause := Value × Option Nat × (Addr → Value → Option Addr → TS)
/-- behind a named suite the name is gone -/
def gone (D : Ends) (i : Nat) : Ends := { nx := fun σ H => D.nx (σ.set i none) H, rt := D.rt, bk := fun σ H => D.bk (σ.set i none) H, ct := fun σ H => D.ct (σ.set i none) H }
def suiteOf (D : Ends) (o : Option Nat) (t : TS) (a : Addr) : L2.St → Hp → Prop := match o with
  | none => fun σ H => t D σ H
  | some i => fun σ H => t (gone D i) (σ.set i (some (.ref a))) H
def wCl (K : PySem.W.Frag) (Wout : WX) (D : Ends) : List Clause → WX
  | [] => Wout
  | (c, o, t) :: r => fun cls d σ H => ∃ b, PySem.W.exmOne K cls c = some b ∧ (b = true → ∀ a, H a = none → suiteOf D o (t a cls d) a σ H) ∧ (b = false → wCl K Wout D r cls d σ H)
inductive ClsOk (X : Cx) : List ExceptHandler → List Clause → Prop
  | nil : ClsOk X [] []
  | bare {x : Str} {c : Value} {t : Addr → Value → Option Addr → TS} {b : Stmt} {bs : List Stmt} {p q : Pos} {hs : List ExceptHandler} {l : List Clause} (hc : Names X x c)
      (hsu : ∀ (a : Addr) (o : Obj) (cls : Value) (d : Option Addr) (pn : List (Addr × Obj)), Zc cls d o → (∃ vs, o.data = .fields vs) → PSs (X.suite a ((a, o) :: pn)) (b :: bs) (t a cls d)) (r : ClsOk X hs l) :
      ClsOk X (.ExceptHandler (some (.Name x p)) none (b :: bs) q :: hs) ((c, none, t) :: l)
  | named {x n : Str} {i : Nat} {c : Value} {t : Addr → Value → Option Addr → TS} {b : Stmt} {bs : List Stmt} {p q : Pos} {hs : List ExceptHandler} {l : List Clause} (hN : X.N.Nodup) (hi : X.N[i]? = some n) (hn : X.env.kindOf n = some .local) (hc : Names X x c)
      (hsu : ∀ (a : Addr) (o : Obj) (cls : Value) (d : Option Addr) (pn : List (Addr × Obj)), Zc cls d o → (∃ vs, o.data = .fields vs) → PSs (X.suite a ((a, o) :: pn)) (b :: bs) (t a cls d)) (r : ClsOk X hs l) :
      ClsOk X (.ExceptHandler (some (.Name x p)) (some n) (b :: bs) q :: hs) ((c, some i, t) :: l)
theorem ps_tryC {X : Cx} {body : List Stmt} {h : ExceptHandler} {hs : List ExceptHandler} {l : List Clause} {pos : Pos} {tb : WX → TS} {Wout : WX} (st : X.stack = X.env :: X.outer) (fr : X.env.frame = some X.env.locals) (tk : Takes X Wout)
    (bo : ∀ (W : WX) (pn : List (Addr × Obj)) (xe : Value → Shared → Prop), Takes (X.tr pn xe) W → PassesOwn (model X.prog X.w) X.A X.env xe → PSs (X.tr pn xe) body (tb W))
    (cl : ClsOk X (h :: hs) l) : PS X (.Try body (h :: hs) [] [] pos) (fun D σ H => tb (wCl X.K Wout D l) D σ H) := by
  refine ⟨fun pins s σ H D I rd => ?_⟩
  have ok := I.ok
  have hfr : X.A.frames = some (X.env :: X.outer) := by rw [ok.frames, st]
  refine wpAny_Try_except ?_
  refine wpAny_mono ((bo (wCl X.K Wout D l) (X.pn ++ pins) (fun e z => wpAny (model X.prog X.w) X.A (noteFrame e X.env) (fun _ z2 => wpAny (model X.prog X.w) X.A (setFlight e none) (fun _ z3 =>
    wpAny (model X.prog X.w) X.A (handleBy e X.env (h :: hs)) (SP X pins D) X.xe z3) X.xe z2) X.xe z) (fun u s' hit => ?_) PassesOwn.looking).run [] s σ H D (I.toTry _) rd) (fun f z sp => ?_) (fun e z he => he)
  · obtain ⟨a, B, s0, pins', σ', H', cls, d, rfl, J', nb, up, sky, na, os, ag, wish⟩ := hit
    have J : Inv X pins σ' H' s0 := J'.ofTry ok
    have sky' : Sky B (X.env :: X.outer) a (Zc cls d) X.env.locals s'.heap := by
      rw [← st]
      exact sky
    show wpAny (model X.prog X.w) X.A (noteFrame (.ref a) X.env) _ _ _
    refine Sky.land Zc.steady hfr fr sky' fun h3 fl up3 => ?_
    have J3 : Inv X pins σ' H' { s' with heap := h3 } := J.landed nb fl.1 (up.trans up3) os ag
    obtain ⟨o3, v3, at3, z3, d3⟩ := fl.there
    have off : a ∉ frs (X.env :: X.outer) := fun hm => by
      obtain ⟨_, o', e', nf⟩ := fl.2.2.1.mem hm
      rw [at3] at e'
      cases e'
      exact nf _ d3
    have nL : a ≠ X.env.locals := fun z => off (List.mem_filterMap.mpr ⟨X.env, List.mem_cons_self, by rw [fr, z]⟩)
    have nF : a ∉ X.fs := fun hm => by
      obtain ⟨e, he, q⟩ := List.mem_filterMap.mp hm
      exact off (List.mem_filterMap.mpr ⟨e, List.mem_cons_of_mem _ he, q⟩)
    have S3 := J3.suite at3 d3 na nL nF
    have typ : PySem.W.Looks (model X.prog X.w) h3 (typeOf (.ref a)) cls := fun A Q E s k q => wpAny_typeOf_ref (k _ _ at3) (by rw [z3.1]; exact q)
    have named : ∀ {x : Str} {c : Value} {p : Pos} {Q E : Value → Shared → Prop}, Names X x c → Q c { s' with heap := h3 } →
        wpAny (model X.prog X.w) (X.A.mark (some (.ref a))) (eval (.Name x p) X.env) Q E { s' with heap := h3 } := fun {x c p Q E} hc q => by
      obtain ⟨hg, hdb, hm | ⟨hm, hv, hne⟩⟩ := hc
      · exact ld_glob (X := X.suite a ((a, o3) :: (X.pn ++ pins))) S3 hg hm q hdb
      · exact ld_blt (X := X.suite a ((a, o3) :: (X.pn ++ pins))) S3 hg hm hv q hne hdb
    have go : ∀ {ks : List ExceptHandler} {ls : List Clause}, ClsOk X ks ls → wCl X.K Wout D ls cls d σ' H' →
        wpAny (model X.prog X.w) X.A (handleBy (.ref a) X.env ks) (SP X pins D) X.xe { s' with heap := h3 } := by
      intro ks ls hk
      induction hk with
      | nil =>
        intro wi
        refine wpAny_handleBy_nil ?_
        obtain ⟨y1, y2, y3, oe, vs, Ta, oT, ts, he, hz, hd, hv1, hrest⟩ := id fl
        unfold PySem.passOn
        refine wpAny_bind (wpAny_field he hd hv1 ?_)
        rw [if_neg (show ¬ ((Value.ref Ta == Value.none) = true) by simp)]
        have fin : wpAny (model X.prog X.w) X.A (setFlight (.ref a) X.env.frame) (fun _ w4 => wpAny (model X.prog X.w) X.A (throw (.ref a) : Sem Flow) (SP X pins D) X.xe w4) X.xe { s' with heap := h3 } := by
          rw [fr]
          refine HandSPX.setFlight_upZ fl fun h4 hh up4 => wpAny_throw (tk _ _ ?_)
          exact ⟨a, B, s0, pins, σ', H', cls, d, rfl, J, nb, (up.trans up3).trans up4, .inr (.inr (by rw [st]; exact hh)), na, os, ag, wi⟩
        first | exact wpAny_bind (wpAny_pure (wpAny_bind fin)) | exact wpAny_bind fin
      | @bare x c t b bs p q hs2 l2 hc hsu r ih =>
        intro wi
        obtain ⟨y, hy, yes, no⟩ := wi
        refine wpAny_handleBy_cons (codeAny_handlers_test ?_) (by intro q; cases q)
        have LM := PySem.W.exm_one (M := model X.prog X.w) (J3.kIn) typ hy
        refine named hc (LM.here ?_)
        cases y with
        | false =>
          show wpAny _ X.A (handleBy (.ref a) X.env hs2) _ _ _
          exact ih (no rfl)
        | true =>
          refine codeAny_handlers_suite ?_
          refine HandSPX.lands_againZ fl fun h4 fl4 up4 => ?_
          have J4 : Inv X pins σ' H' { s' with heap := h4 } := J.landed nb fl4.1 ((up.trans up3).trans up4) os ag
          obtain ⟨o4, v4, at4, z4, d4⟩ := fl4.there
          have S4 := J4.suite at4 d4 na nL nF
          refine wpAny_mono ((hsu a o4 cls d (X.pn ++ pins) z4 ⟨_, d4⟩).run [] _ _ H' D S4 (yes rfl a na)) (fun f s6 sp => ?_) (fun _ _ z => False.elim z)
          cases f with
          | ret u =>
            obtain ⟨v6, σ6, H6, S6, r6, q6⟩ := sp
            exact ⟨v6, σ6, H6, S6.unsuite ok, r6, q6⟩
          | next =>
            obtain ⟨σ6, H6, S6, q6⟩ := sp
            exact ⟨σ6, H6, S6.unsuite ok, q6⟩
          | brk =>
            obtain ⟨σ6, H6, S6, q6⟩ := sp
            exact ⟨σ6, H6, S6.unsuite ok, q6⟩
          | cont =>
            obtain ⟨σ6, H6, S6, q6⟩ := sp
            exact ⟨σ6, H6, S6.unsuite ok, q6⟩
      | @named x n i c t b bs p q hs2 l2 hN hi hn hc hsu r ih =>
        intro wi
        obtain ⟨y, hy, yes, no⟩ := wi
        refine wpAny_handleBy_cons (codeAny_handlers_test ?_) (by intro q; cases q)
        have LM := PySem.W.exm_one (M := model X.prog X.w) (J3.kIn) typ hy
        refine named hc (LM.here ?_)
        cases y with
        | false =>
          show wpAny _ X.A (handleBy (.ref a) X.env hs2) _ _ _
          exact ih (no rfl)
        | true =>
          refine codeAny_handlers_suite_as ?_
          refine HandSPX.lands_againZ fl fun h4 fl4 up4 => ?_
          have J4 : Inv X pins σ' H' { s' with heap := h4 } := J.landed nb fl4.1 ((up.trans up3).trans up4) os ag
          obtain ⟨o4, v4, at4, z4, d4⟩ := fl4.there
          have S4 := J4.suite at4 d4 na nL nF
          refine store_ok (X := X.suite a ((a, o4) :: (X.pn ++ pins))) (v := .ref a) S4 hN hi (.inl hn) rfl (fun s5 S5 => ?_) (.inr hn)
          refine wpAny_mono ((hsu a o4 cls d (X.pn ++ pins) z4 ⟨_, d4⟩).run [] s5 _ H' (gone D i) S5 (yes rfl a na)) (fun f s6 sp => ?_) (fun _ _ z => False.elim z)
          have out : ∀ {σ6 : L2.St} {H6 : Hp} {Q : Shared → Prop}, Inv (X.suite a ((a, o4) :: (X.pn ++ pins))) [] σ6 H6 s6 → (∀ s7, Inv X pins (σ6.set i none) H6 s7 → Q s7) →
              wpAny (model X.prog X.w) X.A (do bindName X.env n .none; unbindBehindTheSuite X.env n q) (fun _ s7 => Q s7) X.xe s6 := fun {σ6 H6 Q} S6 hq => gone_ok (S6.unsuite ok) hN hi hn hq
          cases f with
          | ret u =>
            obtain ⟨v6, σ6, H6, S6, r6, q6⟩ := sp
            exact out S6 fun s7 J7 => ⟨v6, _, H6, J7, r6, q6⟩
          | next =>
            obtain ⟨σ6, H6, S6, q6⟩ := sp
            exact out S6 fun s7 J7 => ⟨_, H6, J7, q6⟩
          | brk =>
            obtain ⟨σ6, H6, S6, q6⟩ := sp
            exact out S6 fun s7 J7 => ⟨_, H6, J7, q6⟩
          | cont =>
            obtain ⟨σ6, H6, S6, q6⟩ := sp
            exact out S6 fun s7 J7 => ⟨_, H6, J7, q6⟩
    exact go cl wish
  · cases f with
    | ret u =>
      obtain ⟨v, σ', H', J', r, q⟩ := sp
      exact ⟨v, σ', H', J'.ofTry ok, r, q⟩
    | next =>
      obtain ⟨σ', H', J', q⟩ := sp
      exact wpAny_execs_nil ⟨σ', H', J'.ofTry ok, q⟩
    | brk =>
      obtain ⟨σ', H', J', q⟩ := sp
      exact ⟨σ', H', J'.ofTry ok, q⟩
    | cont =>
      obtain ⟨σ', H', J', q⟩ := sp
      exact ⟨σ', H', J'.ofTry ok, q⟩
end L3

namespace L3
open PySem PySem.Spec PyProof.Rows L2 Evl
/-! ### repr of data -/
/-- what may be shown: no dict, not deep, a text of bounded length -/
structure Shw (d : PyData) : Prop where
  ok : d.showable = true
  nd : d.hasDict = false
  dp : d.depth ≤ 60
  sz : d.shown.length ≤ sizeLine
def rRepr (K : PySem.W.Frag) : List V → Hp → VK → Prop := fun xs H Q => ∃ x d, xs = [x] ∧ Dp K H x d ∧ Shw d ∧ Q (.str d.shown) H
theorem call_reprD {X : Cx} (hg : X.A.guards = some []) (hu : X.A.units + 64 < cLine) : CallR X (.builtin "repr") (rRepr X.K) := by
  intro pins s σ H xs us Q I r h
  obtain ⟨x, d, rfl, hd, sh, q⟩ := h
  obtain ⟨u, rfl, rx⟩ := vals1 r
  cases hd with
  | non =>
    cases (show u = Value.none from rx)
    exact PySem.P.repr_of_none ⟨.str _, H, I.tok _, ⟨_, rfl⟩, q⟩
  | bl b =>
    cases (show u = Value.bool b from rx)
    exact PySem.P.repr_of_bool ⟨.str _, H, I.tok _, ⟨_, rfl⟩, q⟩
  | int i =>
    obtain ⟨t, rfl⟩ := (show ∃ t, u = Value.int i t from rx)
    exact PySem.P.repr_of_int (of_decide_eq_true sh.ok) ⟨.str _, H, I.tok _, ⟨_, rfl⟩, q⟩
  | str z =>
    obtain ⟨t, rfl⟩ := (show ∃ t, u = Value.str z t from rx)
    exact PySem.P.repr_of_str ⟨.str _, H, I.tok _, ⟨_, rfl⟩, q⟩ sh.sz
  | lst hs ha =>
    obtain ⟨as, rd⟩ := Dp.reads I _ _ u (.lst hs ha) rx
    cases (show u = Value.ref _ from rx)
    exact repr_of_reads' rd sh.ok (fun z => by rw [sh.nd] at z; cases z) hg (by have := sh.dp; omega) (fun _ _ e => e) (fun h' uu tk hk => ⟨.str _, H, I.kept hk, ⟨_, rfl⟩, q⟩) sh.sz
  | tup hs ha =>
    obtain ⟨as, rd⟩ := Dp.reads I _ _ u (.tup hs ha) rx
    cases (show u = Value.ref _ from rx)
    exact repr_of_reads' rd sh.ok (fun z => by rw [sh.nd] at z; cases z) hg (by have := sh.dp; omega) (fun _ _ e => e) (fun h' uu tk hk => ⟨.str _, H, I.kept hk, ⟨_, rfl⟩, q⟩) sh.sz
/-! ### a def's promise where no repr is under way -/
structure FnG (P : Program) (w : World) (K : PySem.W.Frag) (mg : Str → Option Value) (base : Heap) (k : Nat) (f : Addr) (fd : FuncData) (ps : List Str) (sp : Sp) : Prop where
  len : ∀ vs H Q E, sp vs H Q E → vs.length = ps.length
  run : ∀ (A : Around) (outer : List Env) (s : Shared) (H : Hp) (args : Args) (us : List Value) (vs : List V) (Q : VK) (E : XK), A.guards = some [] → Room k A → Env0 P w K mg base A outer s H → BindsTo s fd args (ps.zip us) → Vals vs us → sp vs H Q E →
    codeAny (model P w) A (.call (.ref f) args) (CR CX0 outer P w H s Q E) s
section
variable {P : Program} {w : World} {K : PySem.W.Frag} {mg : Str → Option Value} {base : Heap}
theorem okG {x qual : Str} {st : Stmt} {f : Addr} {fd : FuncData} {N ps : List Str} {k : Nat} {sp : Sp} (F : Fun K x qual st f fd) (S : FnScope N ps (defScope st)) (len : ∀ vs H Q E, sp vs H Q E → vs.length = ps.length)
    (body : ∀ (cd : Value) (A : Around) (outer : List Env) (s : Shared) (H : Hp) (vs : List V) (Q : VK) (E : XK), (A.deeper (envOfC qual (defScope st) s.heap.objs.size f cd)).guards = some [] → Room k (A.deeper (envOfC qual (defScope st) s.heap.objs.size f cd)) → sp vs H Q E →
      ∃ t, PSs (cxOf CX0 P w K mg base N qual (defScope st) f cd A outer s H E).nox (defBody st) t ∧ t { nx := fun _ H' => Q .non H', rt := Q } (start N vs) H) : FnG P w K mg base (k + 1) f fd ps sp := by
  obtain ⟨oc, od, kV, doc, pm, an, cd, ct, osl, rfl, lk, hcd⟩ := F.ex
  refine ⟨len, fun A outer s H args us vs Q E hg hr e0 hb r hsp => ?_⟩
  have hl := len vs H Q E hsp
  have KX : K.In s.heap := e0.mod.kin.keeps fun b o e => (e0.bs b o e).1
  have lim : s.heap.NoLimit := e0.mod.nolimit.keeps fun b o e => (e0.bs b o e).1
  have kinds : ∀ y ∈ ps.zip us, (defScope st).names.lookup y.1 = some .local ∨ ((defScope st).names.lookup y.1 = some .cell ∧ ((cellsFrom (s.heap.objs.size + 1) (defScope st).names []).lookup y.1).isSome = true) := fun ⟨n, v⟩ hy =>
    (S.par n (List.of_mem_zip hy).1).elim Or.inl fun q => Or.inr ⟨q, PySem.W.cellsFrom_some _ _ _ (.inl q)⟩
  refine codeAny_call_function hr.depth (KX _ _ lk) rfl S.co S.gen rfl (PySem.W.codeRec_of KX hcd) (hb _ _ _ _ ?_)
  refine wpAny_newFunctionEnv_cells S.kind kinds fun env he s1 x => ?_
  subst he
  refine ⟨lim.keeps x.toInCall.keep, codeAny_func ?_⟩
  obtain ⟨t, ht, hq⟩ := body cd A outer s H vs Q E hg (hr.deeper _) hsp
  have I : Inv (cxOf CX0 P w K mg base N qual (defScope st) f cd A outer s H E) [] (start N vs) H s1 := inv_start S hr.hd e0 hl r x
  refine wpAny_mono (ht.nox.run [] s1 (start N vs) H _ I hq) (fun fl s' hs => ?_) fun e s' hs => hs
  cases fl with
  | next =>
    obtain ⟨σ', H', J, q⟩ := hs
    exact ⟨V.non, H', J.os, J.bare, J.base, J.hok, rfl, q⟩
  | ret u =>
    obtain ⟨v, σ', H', J, rv, q⟩ := hs
    exact ⟨v, H', J.os, J.bare, J.base, J.hok, rv, q⟩
  | brk =>
    obtain ⟨σ', H', J, q⟩ := hs
    exact q.elim
  | cont =>
    obtain ⟨σ', H', J, q⟩ := hs
    exact q.elim
end
/-- a def at level 0: it calls no def -/
theorem ok0 {P : Program} {w : World} {K : PySem.W.Frag} {mg : Str → Option Value} {base : Heap} {x qual : Str} {st : Stmt} {f : Addr} {fd : FuncData} {N ps : List Str} {sp : Sp} (F : Fun K x qual st f fd) (S : FnScope N ps (defScope st)) (len : ∀ vs H Q E, sp vs H Q E → vs.length = ps.length)
    (body : ∀ (cd : Value) (A : Around) (outer : List Env) (s : Shared) (H : Hp) (vs : List V) (Q : VK) (E : XK), sp vs H Q E →
      ∃ t, PSs (cxOf CX0 P w K mg base N qual (defScope st) f cd A outer s H E).nox (defBody st) t ∧ t { nx := fun _ H' => Q .non H', rt := Q } (start N vs) H) : FnOk P w K mg base CX0 0 f fd ps sp := by
  obtain ⟨oc, od, kV, doc, pm, an, cd, ct, osl, rfl, lk, hcd⟩ := F.ex
  refine ⟨len, fun A outer s H args us vs Q E hr e0 hb r hsp => ?_⟩
  have hl := len vs H Q E hsp
  have KX : K.In s.heap := e0.mod.kin.keeps fun b o e => (e0.bs b o e).1
  have lim : s.heap.NoLimit := e0.mod.nolimit.keeps fun b o e => (e0.bs b o e).1
  have kinds : ∀ y ∈ ps.zip us, (defScope st).names.lookup y.1 = some .local ∨ ((defScope st).names.lookup y.1 = some .cell ∧ ((cellsFrom (s.heap.objs.size + 1) (defScope st).names []).lookup y.1).isSome = true) := fun ⟨n, v⟩ hy =>
    (S.par n (List.of_mem_zip hy).1).elim Or.inl fun q => Or.inr ⟨q, PySem.W.cellsFrom_some _ _ _ (.inl q)⟩
  refine codeAny_call_function hr.depth (KX _ _ lk) rfl S.co S.gen rfl (PySem.W.codeRec_of KX hcd) (hb _ _ _ _ ?_)
  refine wpAny_newFunctionEnv_cells S.kind kinds fun env he s1 x => ?_
  subst he
  refine ⟨lim.keeps x.toInCall.keep, codeAny_func ?_⟩
  obtain ⟨t, ht, hq⟩ := body cd A outer s H vs Q E hsp
  have I : Inv (cxOf CX0 P w K mg base N qual (defScope st) f cd A outer s H E) [] (start N vs) H s1 := inv_start S hr.hd e0 hl r x
  refine wpAny_mono (ht.nox.run [] s1 (start N vs) H _ I hq) (fun fl s' hs => ?_) fun e s' hs => hs
  cases fl with
  | next =>
    obtain ⟨σ', H', J, q⟩ := hs
    exact ⟨V.non, H', J.os, J.bare, J.base, J.hok, rfl, q⟩
  | ret u =>
    obtain ⟨v, σ', H', J, rv, q⟩ := hs
    exact ⟨v, H', J.os, J.bare, J.base, J.hok, rv, q⟩
  | brk =>
    obtain ⟨σ', H', J, q⟩ := hs
    exact q.elim
  | cont =>
    obtain ⟨σ', H', J, q⟩ := hs
    exact q.elim
theorem pe_callG {X : Cx} {k : Nat} {f : Addr} {fd : FuncData} {ps : List Str} {sp : Sp} {x : Str} {p pos : Pos} {e : Expr} {es : List Expr} {t : TA} (F : FnG X.prog X.w X.K X.mg X.base k f fd ps sp) (hgu : X.A.guards = some []) (hr : Room k X.A) (hg : Gl X x) (hm : X.mg x = some (.ref f))
    (hk : PySem.W.keepIn X.K (.ref f) = true) (hb : Binds X.K fd ps []) (ha : PA X (e :: es) t) (hdb : (x == ("__debug__" : Str)) = false := by decide)
    (he : starEach (e :: es) X.env = (false, eval e X.env) :: starEach es X.env := by rfl) (hpl : (backTo pos (starEach es X.env)).any (·.1) = false := by rfl) :
    PE X (.Call (.Name x p) (e :: es) [] pos) (tCall sp [] E0 t) := by
  refine ⟨fun pins s σ H Q I h => ?_⟩
  refine wpAny_Call_Name_kw (ld_glob I hg hm ?_ hdb)
  refine PySem.W.callWith_K (h₀ := X.base) I.ok.mod.kin hk (thn (ha.run pos pins s σ H _ I h) fun us s1 ⟨vs, H1, I1, r, q⟩ => ⟨I1.kIn, ?_⟩) he hpl
  have q' : sp vs H1 Q E0 := by
    have z : sp (vs ++ []) H1 Q E0 := q
    rw [List.append_nil] at z
    exact z
  have hl : us.length = ps.length := by
    rw [← r.length]
    exact F.len _ _ _ _ q'
  have hb' := hb s1 us I1.kIn (by rw [List.append_nil]; exact hl)
  rw [List.append_nil] at hb'
  refine wpAny_call (codeAny_mono (F.run X.A X.stack s1 H1 ⟨us, []⟩ us vs Q E0 hgu hr I1.env0 hb' r q') fun r s' hq => ?_)
  cases r with
  | error e => exact hq.elim
  | ok fl =>
    cases fl with
    | ret u => exact I1.after hq
    | next => exact hq.elim
    | brk => exact hq.elim
    | cont => exact hq.elim
end L3

namespace L3
open PySem PySem.Spec PyProof.Rows L2 Evl
/-! ### data that is small: it may be compared and shown -/
mutual
def niceD : PyData → Bool
  | .none | .bool _ => true
  | .int i => decide (i.natAbs < 10 ^ 50)
  | .str x => PyData.strOk x && decide (x.cps.size ≤ 100)
  | .list xs | .tuple xs => niceAll xs
  | .dict _ => false
def niceAll : List PyData → Bool
  | [] => true
  | x :: xs => niceD x && niceAll xs
end
mutual
def nodes : PyData → Nat
  | .list xs | .tuple xs => nodesAll xs + 1
  | _ => 1
def nodesAll : List PyData → Nat
  | [] => 0
  | x :: xs => nodes x + nodesAll xs
end
mutual
theorem nice_nd : ∀ d : PyData, niceD d = true → d.hasDict = false
  | .none, _ | .bool _, _ | .int _, _ | .str _, _ => rfl
  | .list xs, h => nice_ndAll xs h
  | .tuple xs, h => nice_ndAll xs h
theorem nice_ndAll : ∀ xs : List PyData, niceAll xs = true → PyData.hasDictAll xs = false
  | [], _ => rfl
  | x :: xs, h => by
    have h' := Bool.and_eq_true_iff.mp (show (niceD x && niceAll xs) = true from h)
    show (x.hasDict || PyData.hasDictAll xs) = false
    rw [nice_nd x h'.1, nice_ndAll xs h'.2] <;> rfl
end
theorem log_small {i : Int} (h : i.natAbs < 10 ^ 50) : i.natAbs.log2 < 180 := by
  by_cases z : i.natAbs = 0
  · rw [z]
    decide
  · exact (Nat.log2_lt z).mpr (Nat.lt_of_lt_of_le h (by decide))
mutual
theorem nice_show : ∀ d : PyData, niceD d = true → d.showable = true
  | .none, _ | .bool _, _ | .str _, _ => rfl
  | .int i, h => decide_eq_true (Nat.lt_of_lt_of_le (log_small (of_decide_eq_true h)) (by decide))
  | .list xs, h => nice_showAll xs h
  | .tuple xs, h => nice_showAll xs h
theorem nice_showAll : ∀ xs : List PyData, niceAll xs = true → PyData.showableAll xs = true
  | [], _ => rfl
  | x :: xs, h => by
    have h' := Bool.and_eq_true_iff.mp (show (niceD x && niceAll xs) = true from h)
    show (x.showable && PyData.showableAll xs) = true
    rw [nice_show x h'.1, nice_showAll xs h'.2] <;> rfl
end
mutual
theorem nice_lay : ∀ d : PyData, niceD d = true → d.canLay0 = true
  | .none, _ | .bool _, _ | .int _, _ => rfl
  | .str x, h => (Bool.and_eq_true_iff.mp (show (PyData.strOk x && decide (x.cps.size ≤ 100)) = true from h)).1
  | .list xs, h => nice_layAll xs h
  | .tuple xs, h => nice_layAll xs h
theorem nice_layAll : ∀ xs : List PyData, niceAll xs = true → PyData.canLayAll0 xs = true
  | [], _ => rfl
  | x :: xs, h => by
    have h' := Bool.and_eq_true_iff.mp (show (niceD x && niceAll xs) = true from h)
    show (x.canLay0 && PyData.canLayAll0 xs) = true
    rw [nice_lay x h'.1, nice_layAll xs h'.2] <;> rfl
end
mutual
theorem nice_short : ∀ d : PyData, niceD d = true → PyData.leavesShort 61 d = true
  | .none, _ | .bool _, _ => rfl
  | .int i, h => decide_eq_true (by
      have z := int_text_length_le10 (a := i) (k := 50) (by decide) (of_decide_eq_true h)
      show (Str.ofString (toString i)).length ≤ 61
      rw [PySem.ofString_length]
      omega)
  | .str x, h => by
    have q := (Bool.and_eq_true_iff.mp (show (PyData.strOk x && decide (x.cps.size ≤ 100)) = true from h)).1
    show (x.cps.toList.all fun c => decide (c < 16 ^ 8)) = true
    rw [List.all_eq_true]
    intro c hc
    have q2 : x.cps.all (fun c => decide (c < 0x110000)) = true := q
    have q3 : x.cps.toList.all (fun c => decide (c < 0x110000)) = true := by
      rw [← q2]
      simp
    have z := of_decide_eq_true (List.all_eq_true.mp q3 c hc)
    exact decide_eq_true (Nat.lt_of_lt_of_le z (by decide))
  | .list xs, h => nice_shortAll xs h
  | .tuple xs, h => nice_shortAll xs h
theorem nice_shortAll : ∀ xs : List PyData, niceAll xs = true → PyData.leavesShortAll 61 xs = true
  | [], _ => rfl
  | x :: xs, h => by
    have h' := Bool.and_eq_true_iff.mp (show (niceD x && niceAll xs) = true from h)
    show (PyData.leavesShort 61 x && PyData.leavesShortAll 61 xs) = true
    rw [nice_short x h'.1, nice_shortAll xs h'.2] <;> rfl
end
mutual
theorem nice_weight : ∀ d : PyData, niceD d = true → d.weight + 1 ≤ 201 * nodes d
  | .none, _ | .bool _, _ => by show 0 + 1 ≤ 201 * 1; decide
  | .int i, h => by
    show (if i == 0 then 0 else i.natAbs.log2 + 1) + 1 ≤ 201 * 1
    have z := log_small (of_decide_eq_true h)
    split <;> omega
  | .str x, h => by
    have q := of_decide_eq_true (Bool.and_eq_true_iff.mp (show (PyData.strOk x && decide (x.cps.size ≤ 100)) = true from h)).2
    show x.cps.size + 1 ≤ 201 * 1
    omega
  | .list xs, h => by
    have z := nice_weightAll xs h
    show PyData.weightAll xs + 1 ≤ 201 * (nodesAll xs + 1)
    omega
  | .tuple xs, h => by
    have z := nice_weightAll xs h
    show PyData.weightAll xs + 1 ≤ 201 * (nodesAll xs + 1)
    omega
theorem nice_weightAll : ∀ xs : List PyData, niceAll xs = true → PyData.weightAll xs ≤ 201 * nodesAll xs
  | [], _ => by show 0 ≤ 201 * 0; decide
  | x :: xs, h => by
    have h' := Bool.and_eq_true_iff.mp (show (niceD x && niceAll xs) = true from h)
    have z1 := nice_weight x h'.1
    have z2 := nice_weightAll xs h'.2
    show x.weight + 1 + PyData.weightAll xs ≤ 201 * (nodes x + nodesAll xs)
    omega
end
structure Nice (d : PyData) : Prop where
  ok : niceD d = true
  dp : d.depth ≤ 10
  nd : nodes d ≤ 1200
theorem Nice.shaped {d : PyData} (h : Nice d) : SeqAt.shaped d = true := by
  show (d.canLay0 && decide (d.depth ≤ 64)) = true
  rw [nice_lay d h.ok, decide_eq_true (by have := h.dp; omega : d.depth ≤ 64)] <;> rfl
theorem Nice.shw {d : PyData} (h : Nice d) : Shw d where
  ok := nice_show d h.ok
  nd := nice_nd d h.ok
  dp := by have := h.dp; omega
  sz := by
    have z := PyData.shown_le 61 (by decide) d (nice_short d h.ok)
    have z2 := nice_weight d h.ok
    have z3 := h.nd
    rw [sizeLine_eq]
    omega
mutual
theorem eqv_refl : ∀ d : PyData, d.hasDict = false → PyData.eqv d d = true
  | .none, _ => rfl
  | .bool b, _ => by show (b == b) = true; simp
  | .int i, _ => by show (i == i) = true; simp
  | .str x, _ => by show (x == x) = true; simp
  | .list xs, h => eqv_reflAll xs h
  | .tuple xs, h => eqv_reflAll xs h
theorem eqv_reflAll : ∀ xs : List PyData, PyData.hasDictAll xs = false → PyData.eqvAll xs xs = true
  | [], _ => rfl
  | x :: xs, h => by
    have h' : x.hasDict = false ∧ PyData.hasDictAll xs = false := by
      have z : (x.hasDict || PyData.hasDictAll xs) = false := h
      exact Bool.or_eq_false_iff.mp z
    show (PyData.eqv x x && PyData.eqvAll xs xs) = true
    rw [eqv_refl x h'.1, eqv_reflAll xs h'.2] <;> rfl
end
theorem Nice.refl {d : PyData} (h : Nice d) : PyData.eqv d d = true := eqv_refl d (nice_nd d h.ok)
/-- a list of small things -/
theorem nice_list {xs : List PyData} {k m : Nat} (h1 : ∀ x ∈ xs, niceD x = true ∧ x.depth ≤ k ∧ nodes x ≤ m) (hk : k ≤ 8) (hm : m * xs.length ≤ 1100) : Nice (.list xs) ∧ Nice (.tuple xs) := by
  have all : ∀ ys : List PyData, (∀ x ∈ ys, niceD x = true ∧ x.depth ≤ k ∧ nodes x ≤ m) → niceAll ys = true ∧ PyData.depthAll ys ≤ k ∧ nodesAll ys ≤ m * ys.length := by
    intro ys
    induction ys with
    | nil => intro _; exact ⟨rfl, Nat.zero_le _, Nat.zero_le _⟩
    | cons y r ih =>
      intro h
      obtain ⟨a1, a2, a3⟩ := h y List.mem_cons_self
      obtain ⟨b1, b2, b3⟩ := ih fun x hx => h x (List.mem_cons_of_mem _ hx)
      refine ⟨?_, ?_, ?_⟩
      · show (niceD y && niceAll r) = true
        rw [a1, b1] <;> rfl
      · show max y.depth (PyData.depthAll r) ≤ k
        omega
      · show nodes y + nodesAll r ≤ m * (r.length + 1)
        rw [Nat.mul_add, Nat.mul_one]
        omega
  obtain ⟨a, b, c⟩ := all xs h1
  constructor
  · exact ⟨a, by show PyData.depthAll xs + 1 ≤ 10; omega, by show nodesAll xs + 1 ≤ 1200; omega⟩
  · exact ⟨a, by show PyData.depthAll xs + 1 ≤ 10; omega, by show nodesAll xs + 1 ≤ 1200; omega⟩
/-! ### comprehensions over a tuple -/
section
variable {K : PySem.W.Frag} {σ : L2.St} {H : Hp} {te tl : TE} {t : TT}
theorem el_lcT {a : Addr} {xs : List V} {j : Nat} {vs : List Nat} (f : Nat → Bool) (v : Nat → V) (h : Ev tl σ H (.ref a)) (hx : SqT K H a xs) (hz : xs.length ≤ 40000) (hw : ∀ x, wipe ((wipe σ vs).set j (some x)) vs = wipe σ vs)
    (ht : ∀ (i : Nat) (x : V) H1, Ex H H1 → xs[i]? = some x → EvT t ((wipe σ vs).set j (some x)) H1 (f i)) (he : ∀ (i : Nat) (x : V) H1, Ex H H1 → xs[i]? = some x → f i = true → Ev te ((wipe σ vs).set j (some x)) H1 (v i)) :
    EvL (tLc (iTup K tl) (gName j) t te vs) σ H (given xs.length f v) := by
  intro H0 e Q q
  refine h H0 e _ fun H1 e1 => ⟨a, rfl, ⟨xs, ex_t (e.trans e1) hx⟩, fun Dl hD => ?_⟩
  refine lc_tup (xs := xs) (Cw H1 f v Dl) ⟨hD, Ex.new hD, upd_same⟩ (fun i H' _ p => ex_t ((e.trans e1).trans p.2.1) hx) (fun i x H' hi p => ?_) (fun H' p => q Dl H' (fresh_back e1 p.1) (e1.trans p.2.1) p.2.2)
  exact ⟨hw x, cw_turn p (by have := (List.getElem?_eq_some_iff.mp hi).1; omega) (ht i x H1 (e.trans e1) hi) (fun hf => he i x H1 (e.trans e1) hi hf)⟩
end
end L3

namespace L3
open PySem PySem.Spec PyProof.Rows L2 Evl
/-! ### the end, for a promise that holds where no repr is under way -/
section
variable {P : Program} {w : World} {K : PySem.W.Frag} {mg mb : Str → Option Value} {k : Nat} {fa a : Addr} {fd : FuncData} {x : Str} {sp : Sp} {z : Shared} {vs : List Value} {ns : List Int}
/-- from an abstract heap H that may track the script alone -/
theorem endAt (KX : K.In z.heap) (hn : z.heap.Ns mainGlobals mg) (hb : z.heap.Ns builtinsNs mb) (hbb : ∀ x : Str, x ≠ "__name__" → mb x = bootBuiltins x) (lim : z.heap.NoLimit) (hg : z.gens = #[])
    (ha : z.heap.get? a = some { cls := .type "list", data := .seq vs.toArray }) (hr : Room k callerA) (F : ∀ base : Heap, K.In base → base.Ns mainGlobals mg → FnG P w K mg base k fa fd [x] sp)
    (bi : ∀ (s : Shared) (u : Value), BindsTo s fd ⟨[u], []⟩ [(x, u)]) {H : Hp} (only : Only H) (hok : HOk P w H z.heap) (hA : ∀ b, H b ≠ none → b = a) (hK : H a ≠ none → K.lookup a = none) (hsp : sp [.ref a] H (fun v _ => v = .bl true) fun _ _ _ => False) :
    codeAny (model P w) callerA (.call (.ref fa) ⟨[.ref a], []⟩) (fun r s' => r = .ok (.ret (.bool true)) ∧ OldK z.heap s'.heap ∧ s'.os = z.os ∧ AllBare s'.gens) z := by
  have off : ∀ {b : Addr}, b ≠ a → H b = none := fun {b} hb => by
    cases q : H b with
    | none => rfl
    | some u => exact absurd (hA b (by rw [q]; simp)) hb
  have offD : ∀ {b : Addr} {o : Obj} {es : Array DictEntry} {ep : Nat}, z.heap.get? b = some o → o.data = .dict es ep → H b = none := fun {b o es ep} e d => off fun y => by
    rw [y, ha] at e
    cases e
    have d' : Data.seq vs.toArray _ = Data.dict es ep := d
    cases d'
  have offK : ∀ {b : Addr} {o : Obj}, K.lookup b = some o → H b = none := fun {b o} e => by
    by_cases c : b = a
    · cases q : H b with
      | none => rfl
      | some u =>
        have n := hK (by rw [← c, q]; simp)
        rw [← c, e] at n
        cases n
    · exact off c
  have nsK : ∀ {b : Addr} {m : Str → Option Value}, z.heap.Ns b m → (hidT z.heap H).Ns b m := fun {b m} ⟨o, es, ep, e, d, r⟩ => ⟨o, es, ep, hidT_get e (offD e d), d, r⟩
  have kb : K.In (hidT z.heap H) := fun b o e => hidT_get (KX b o e) (offK e)
  have md : Mod K mg (hidT z.heap H) := ⟨kb, nsK hn, ⟨mb, nsK hb, hbb⟩, let ⟨mc, h1, h2⟩ := lim; ⟨mc, nsK h1, h2⟩⟩
  have e0 : Env0 P w K mg (hidT z.heap H) callerA [] z H := ⟨rfl, md, fun b o e => of_hidT e, Nat.le_of_eq (hidT_size _ _), trivial, (fun b hb => absurd (show b ∈ ([] : List Addr) from hb) (by simp)), hok, .of_eq hg⟩
  refine codeAny_mono ((F _ kb (nsK hn)).run callerA [] z H ⟨[.ref a], []⟩ [.ref a] [.ref a] _ _ rfl hr e0 (bi z (.ref a)) (.cons rfl .nil) hsp) fun r s' h => ?_
  cases r with
  | error e => exact h.elim
  | ok fl =>
    cases fl with
    | ret u =>
      obtain ⟨v, H', os, bare, un, hok', rv, q⟩ := h
      obtain rfl : v = .bl true := q
      obtain rfl : u = Value.bool true := rv
      refine ⟨rfl, OldK.of_keep fun b o e => ?_, os, bare⟩
      rcases only b with n | ⟨ob, xs, n⟩
      · exact un.keep b o e n (fun y => absurd (show b ∈ ([] : List Addr) from y) (by simp)) (by simp)
      · obtain ⟨e1, _⟩ := hok b _ n
        obtain ⟨e2, _⟩ := hok' b _ (un.frzs b ob _ n)
        rw [e] at e1
        cases e1
        exact e2
    | next => exact h.elim
    | brk => exact h.elim
    | cont => exact h.elim
theorem endG (KX : K.In z.heap) (hn : z.heap.Ns mainGlobals mg) (hb : z.heap.Ns builtinsNs mb) (hbb : ∀ x : Str, x ≠ "__name__" → mb x = bootBuiltins x) (lim : z.heap.NoLimit) (hg : z.gens = #[])
    (ha : z.heap.get? a = some { cls := .type "list", data := .seq vs.toArray }) (hi : IntsAre vs ns) (hl : ns.length ≤ sizeLine) (hr : Room k callerA) (F : ∀ base : Heap, K.In base → base.Ns mainGlobals mg → FnG P w K mg base k fa fd [x] sp)
    (bi : ∀ (s : Shared) (u : Value), BindsTo s fd ⟨[u], []⟩ [(x, u)]) (hsp : ∀ H : Hp, Only H → SqL K H a (ns.map V.int) → sp [.ref a] H (fun v _ => v = .bl true) fun _ _ _ => False) :
    codeAny (model P w) callerA (.call (.ref fa) ⟨[.ref a], []⟩) (fun r s' => r = .ok (.ret (.bool true)) ∧ OldK z.heap s'.heap ∧ s'.os = z.os ∧ AllBare s'.gens) z := by
  have rv := vals_ints hi
  cases hk : K.lookup a with
  | some o =>
    have e := KX a o hk
    rw [ha] at e
    cases e
    have hS : SqL K (fun _ => none) a (ns.map V.int) := Or.inr ⟨_, vs.toArray, _, hk, rfl, rfl, rfl, by rw [List.size_toArray, hi.length]; exact hl, by simpa using rv⟩
    have on : Only (fun _ => none) := fun _ => Or.inl rfl
    exact endAt KX hn hb hbb lim hg ha hr F bi on (fun b u y => nomatch (show (none : Option HO) = some u from y)) (fun b y => absurd rfl y) (fun y => absurd rfl y) (hsp _ on hS)
  | none =>
    have at_ : (fun b : Addr => if b = a then some (HO.frz { cls := .type "list", data := .seq vs.toArray } (.lst (ns.map V.int))) else none) a = some (.frz { cls := .type "list", data := .seq vs.toArray } (.lst (ns.map V.int))) := if_pos rfl
    have on : Only (fun b : Addr => if b = a then some (HO.frz { cls := .type "list", data := .seq vs.toArray } (.lst (ns.map V.int))) else none) := fun b => by
      by_cases c : b = a
      · exact Or.inr ⟨_, _, if_pos c⟩
      · exact Or.inl (if_neg c)
    refine endAt KX hn hb hbb lim hg ha hr F bi on (fun b u y => ?_) (fun b y => ?_) (fun _ => hk) (hsp _ on (Or.inl (Or.inr ⟨_, at_⟩)))
    · by_cases c : b = a
      · have y' := (if_pos c).symm.trans y
        cases y'
        rw [c]
        exact ⟨ha, by rw [List.length_map]; exact hl, vs, _, rv, ha⟩
      · have y' := (if_neg c).symm.trans y
        cases y'
    · by_cases c : b = a
      · exact c
      · exact absurd (if_neg c) y
end
theorem walkG {l : PySem.W.OpenLaw} {n k : Nat} {q : Program} {loose : List Str} {XP : (Str → Option Value) → Heap → Prop} {YP : World → Heap → Prop} {d : DefRec} {K : Params → PySem.W.Frag} {sp : World → Sp} {x : Str} (hn : l.most = some n) (hn2 : n ≤ sizeLine) (hdf : d.params.defaults = []) (hr : Room k callerA)
    (hY : ∀ (w : World) (h : Heap), YP w h → (K w.params).In h)
    (F : ∀ (w : World) (mg : Str → Option Value) (fa : Addr) (h : Heap), (K w.params).In h → h.Ns mainGlobals mg → mg d.name = some (.ref fa) →
      ∃ fd : FuncData, (∀ (s : Shared) (u : Value), BindsTo s fd ⟨[u], []⟩ [(x, u)]) ∧ ∀ base : Heap, (K w.params).In base → base.Ns mainGlobals mg → FnG l.prog w (K w.params) mg base k fa fd [x] (sp w))
    (hsp : ∀ (w : World) (H : Hp) (a : Addr) (ns : List Int), ns.length ≤ n → Only H → SqL (K w.params) H a (ns.map V.int) → sp w [.ref a] H (fun v _ => v = .bl true) fun _ _ _ => False) :
    PySem.W.WalkO q loose XP YP l.row.toRowW d [] (fun f vs => PySem.call f vs) := by
  refine Att.attach_call hn hdf fun w s₀ z mg mb fa o pm cd doc a vs ns G Y ho hd hcd hmg hobj hints hlen hg => ?_
  have KX := hY w _ Y
  obtain ⟨fd, hb, hF⟩ := F w mg fa _ KX G.T.g hmg
  exact endG KX G.T.g G.T.b G.T.builtins G.T.nolimit hg hobj hints (Nat.le_trans hlen hn2) hr hF hb fun H hO hS => hsp w H a ns hlen hO hS
end L3

namespace Lw
open PySem PySem.Spec PyProof.Rows L2 Evl L3
def top (i : Nat) : Stmt := PySem.Challenge.pw_latewords_k05_orders.main.body.getD i (.Pass ⟨0, 0, 0, 0⟩)
abbrev sIsInt : Stmt := top 5
abbrev sBetw : Stmt := top 6
abbrev sIsW : Stmt := top 13
/-- what is read of the top -/
structure Txt (K : PySem.W.Frag) (mg : Str → Option Value) : Prop where
  isi : mg "isinstance" = none
  isint : ∃ (f : Addr) (fd : FuncData), Fun K "is_integer" "is_integer" sIsInt f fd ∧ Binds K fd ["value"] [] ∧ mg "is_integer" = some (.ref f)
  int : mg "int" = none
  bool : mg "bool" = none
  tuple : mg "tuple" = none
  list : mg "list" = none
  len : mg "len" = none
  enumerate : mg "enumerate" = none
  range : mg "range" = none
  mlen : ∃ t, mg "MOST_LENGTH" = some (.int 1000000000000000000 t)
  modes : ∃ a, mg "MODES" = some (.ref a) ∧ ∀ H, SqT K H a [.str "plain", .str "push", .str "more"]
/-! ### is_integer -/
def isInD (d : PyData) : Bool := match d with
  | .int _ => true
  | _ => false
def spIsInt (K : PySem.W.Frag) : Sp := fun vs H Q _ => ∃ (x : V) (d : PyData), vs = [x] ∧ Dp K H x d ∧ RetV (.bl (isInD d)) H Q
theorem scIsInt : FnScope ["value"] ["value"] (defScope sIsInt) := ⟨rfl, rfl, rfl, by decide +kernel, rfl, by decide +kernel, by decide +kernel⟩
theorem ok_isInt {P : Program} {w : World} {K : PySem.W.Frag} {mg : Str → Option Value} {base : Heap} {f : Addr} {fd : FuncData} (F : Fun K "is_integer" "is_integer" sIsInt f fd) (T : Txt K mg) : FnOk P w K mg base CX0 0 f fd ["value"] (spIsInt K) := by
  refine ok0 F scIsInt (fun vs H Q E h => ?_) (fun cdv A outer s H vs Q E h => ?_)
  · obtain ⟨x, d, rfl, _⟩ := h
    rfl
  · obtain ⟨x, d, rfl, hd, k⟩ := h
    refine ⟨_, pss_one (ps_ret (pe_and (pe_callB call_isi (by rfl) T.isi (by decide +kernel) (pa_cons (pv 0) (pa_cons (pe_ty "int" T.int) pa_nil)))
      (pe_one (pe_not (pe_callB call_isi (by rfl) T.isi (by decide +kernel) (pa_cons (pv 0) (pa_cons (pe_ty "bool" T.bool) pa_nil))))))), ?_⟩
    refine s_ret (v := .bl (isInD d)) ?_ k
    cases d with
    | int i =>
      cases hd
      exact ev_is (ev_andV (ev_isi (ev_var rfl) (.int i) (kit_int _)) fun _ => ev_notV (ev_isi (ev_var rfl) (.int i) (kit_bool _))) rfl
    | bool b => exact ev_is (ev_andV (b := false) (ev_isi (ev_var rfl) hd (kit_int _)) fun _ => ev_notV (ev_isi (ev_var rfl) hd (kit_bool _))) rfl
    | none => exact ev_is (ev_andV (b := false) (ev_isi (ev_var rfl) hd (kit_int _)) fun z => nomatch z) rfl
    | str b => exact ev_is (ev_andV (b := false) (ev_isi (ev_var rfl) hd (kit_int _)) fun z => nomatch z) rfl
    | list b => exact ev_is (ev_andV (b := false) (ev_isi (ev_var rfl) hd (kit_int _)) fun z => nomatch z) rfl
    | tuple b => exact ev_is (ev_andV (b := false) (ev_isi (ev_var rfl) hd (kit_int _)) fun z => nomatch z) rfl
    | dict b => exact ev_is (ev_andV (b := false) (ev_isi (ev_var rfl) hd (kit_int _)) fun z => nomatch z) rfl
theorem sp_isInt {K : PySem.W.Frag} {x : V} {d : PyData} {H : Hp} (hd : Dp K H x d) : SpV (spIsInt K) [x] H (.bl (isInD d)) :=
  fun H1 e Q q E => ⟨x, d, rfl, dp_ex e hd, fun H2 e2 => q H2 e2⟩
/-! ### between -/
def betwD (d : PyData) (lo hi : Int) : Bool := match d with
  | .int i => decide (lo ≤ i) && decide (i ≤ hi)
  | _ => false
def spBetw (K : PySem.W.Frag) : Sp := fun vs H Q _ => ∃ (x : V) (d : PyData) (lo hi : Int), vs = [x, .int lo, .int hi] ∧ Dp K H x d ∧ RetV (.bl (betwD d lo hi)) H Q
section
variable {P : Program} {w : World} {K : PySem.W.Frag} {mg : Str → Option Value} {base : Heap}
theorem scB : FnScope ["value", "low", "high"] ["value", "low", "high"] (defScope sBetw) := ⟨rfl, rfl, rfl, by decide +kernel, rfl, by decide +kernel, by decide +kernel⟩
theorem ok_betw {f : Addr} {fd : FuncData} (F : Fun K "between" "between" sBetw f fd) (T : Txt K mg) : FnOk P w K mg base CX0 1 f fd ["value", "low", "high"] (spBetw K) := by
  refine F.ok scB (fun vs H Q E h => ?_) (fun cdv A outer s H vs Q E hr h => ?_)
  · obtain ⟨x, d, lo, hi, rfl, _⟩ := h
    rfl
  · obtain ⟨x, d, lo, hi, rfl, hd, k⟩ := h
    obtain ⟨fI, fdI, FI, bI, gI⟩ := T.isint
    have GI : FnOk P w K mg base CX0 0 fI fdI ["value"] (spIsInt K) := ok_isInt FI T
    refine ⟨_, pss_one (ps_ret (pe_and (pe_call GI hr rfl gI FI.kp bI .nil pass0 (pa_cons (pv 0) pa_nil)) (pe_one (pe_chain op_le op_le (pv 1) (pv 0) (pv 2))))), ?_⟩
    refine s_ret (v := .bl (betwD d lo hi)) ?_ k
    cases d with
    | int i =>
      cases hd
      exact ev_is (ev_andV (a := true) (ev_call (ea_cons (ev_var rfl) ea_nil) (sp_isInt (.int i))) fun _ => ev_chain (ev_var rfl) (ev_var rfl) (ev_var rfl)) rfl
    | bool b => exact ev_is (ev_andV (a := false) (b := false) (ev_call (ea_cons (ev_var rfl) ea_nil) (sp_isInt hd)) fun z => nomatch z) rfl
    | none => exact ev_is (ev_andV (a := false) (b := false) (ev_call (ea_cons (ev_var rfl) ea_nil) (sp_isInt hd)) fun z => nomatch z) rfl
    | str b => exact ev_is (ev_andV (a := false) (b := false) (ev_call (ea_cons (ev_var rfl) ea_nil) (sp_isInt hd)) fun z => nomatch z) rfl
    | list b => exact ev_is (ev_andV (a := false) (b := false) (ev_call (ea_cons (ev_var rfl) ea_nil) (sp_isInt hd)) fun z => nomatch z) rfl
    | tuple b => exact ev_is (ev_andV (a := false) (b := false) (ev_call (ea_cons (ev_var rfl) ea_nil) (sp_isInt hd)) fun z => nomatch z) rfl
    | dict b => exact ev_is (ev_andV (a := false) (b := false) (ev_call (ea_cons (ev_var rfl) ea_nil) (sp_isInt hd)) fun z => nomatch z) rfl
theorem sp_betw {x : V} {d : PyData} {lo hi : Int} {H : Hp} (hd : Dp K H x d) : SpV (spBetw K) [x, .int lo, .int hi] H (.bl (betwD d lo hi)) :=
  fun H1 e Q q E => ⟨x, d, lo, hi, rfl, dp_ex e hd, fun H2 e2 => q H2 e2⟩
/-! ### is_write -/
def flatD : PyData → Bool
  | .none => true
  | .bool _ => true
  | .int _ => true
  | .str _ => true
  | _ => false
def modeD : PyData → Bool
  | .str s => decide (s = "plain") || decide (s = "push") || decide (s = "more")
  | _ => false
def isWD : PyData → Bool
  | .tuple [e, l, m] => betwD e 0 1 && (betwD l 1 1000000000000000000 && modeD m)
  | _ => false
/-- where a third item stands, it is flat -/
def third : PyData → Bool
  | .tuple [_, _, m] => flatD m
  | _ => true
theorem dps_len {H : Hp} {xs : List V} {ds : List PyData} (h : DpAll K H xs ds) : xs.length = ds.length := by
  induction ds generalizing xs with
  | nil => cases h; rfl
  | cons d ds ih =>
    cases h with
    | cons _ r => rw [List.length_cons, List.length_cons, ih r]
theorem dp_flat {H : Hp} {x : V} {d : PyData} (h : Dp K H x d) (f : flatD d = true) : flatV x = true := by
  cases h with
  | lst _ _ => exact absurd (show false = true from f) Bool.false_ne_true
  | tup _ _ => exact absurd (show false = true from f) Bool.false_ne_true
  | _ => rfl
theorem in_modes {H : Hp} {x : V} {d : PyData} (h : Dp K H x d) (f : flatD d = true) : inV x [.str "plain", .str "push", .str "more"] = modeD d := by
  cases h with
  | lst _ _ => exact absurd (show false = true from f) Bool.false_ne_true
  | tup _ _ => exact absurd (show false = true from f) Bool.false_ne_true
  | str s =>
    show (("plain" : Str) == s || (("push" : Str) == s || (("more" : Str) == s || false))) = (decide (s = "plain") || decide (s = "push") || decide (s = "more"))
    have e : ∀ a : Str, (a == s) = decide (s = a) := fun a => by
      by_cases q : s = a
      · rw [q, decide_eq_true rfl, beq_self_eq_true]
      · rw [decide_eq_false q]
        exact beq_eq_false_iff_ne.mpr fun z => q z.symm
    rw [e, e, e, Bool.or_false, Bool.or_assoc]
  | _ => rfl
def spIsW (K : PySem.W.Frag) : Sp := fun vs H Q _ => ∃ (x : V) (d : PyData), vs = [x] ∧ Dp K H x d ∧ third d = true ∧ RetV (.bl (isWD d)) H Q
theorem sp_isW {x : V} {d : PyData} {H : Hp} (hd : Dp K H x d) (ht : third d = true) : SpV (spIsW K) [x] H (.bl (isWD d)) :=
  fun H1 e Q q E => ⟨x, d, rfl, dp_ex e hd, ht, fun H2 e2 => q H2 e2⟩
theorem scI : FnScope ["value", "endpoint", "length", "mode"] ["value"] (defScope sIsW) := ⟨rfl, rfl, rfl, by decide +kernel, rfl, by decide +kernel, by decide +kernel⟩
theorem ok_isW {f fB : Addr} {fd fdB : FuncData} (F : Fun K "is_write" "is_write" sIsW f fd) (T : Txt K mg) (FB : Fun K "between" "between" sBetw fB fdB) (bB : Binds K fdB ["value", "low", "high"] []) (gB : mg "between" = some (.ref fB)) :
    FnOk P w K mg base CX0 2 f fd ["value"] (spIsW K) := by
  have GB : FnOk P w K mg base CX0 1 fB fdB ["value", "low", "high"] (spBetw K) := ok_betw FB T
  obtain ⟨tL, hL⟩ := T.mlen
  obtain ⟨aM, hM, sM⟩ := T.modes
  refine F.ok scI (fun vs H Q E h => ?_) (fun cdv A outer s H vs Q E hr h => ?_)
  · obtain ⟨x, d, rfl, _⟩ := h
    rfl
  · obtain ⟨x, d, rfl, hd, ht, k⟩ := h
    refine ⟨_, pss_cons (ps_if (PW.pt (pw_or (pt_not (pt_val (pe_callB call_isi (by rfl) T.isi boot_isinstance (pa_cons (pv 0) (pa_cons (pe_ty "tuple" T.tuple) pa_nil)))))
        (pw_or1 (pt_cmpR op_ne (pe_callB call_len_seq (by rfl) T.len PySem.boot_len (pa_cons (pv 0) pa_nil)) pe_int (nomark _)))))
        (pss_one (ps_ret pe_bl)) pss_nil)
      (pss_cons (ps_asg (pv 0) (pg_tup rfl (pgs_cons (pg_name (i := 1) scI.nd rfl (Or.inl rfl)) (pgs_cons (pg_name (i := 2) scI.nd rfl (Or.inl rfl)) (pgs_cons (pg_name (i := 3) scI.nd rfl (Or.inl rfl)) pgs_nil)))))
      (pss_one (ps_ret (pe_and (pe_call GB hr rfl gB FB.kp bB .nil pass0 (pa_cons (pv 1) (pa_cons pe_int (pa_cons pe_int pa_nil))))
        (pe_and (pe_call GB hr rfl gB FB.kp bB .nil pass0 (pa_cons (pv 2) (pa_cons pe_int (pa_cons (pe_glob (v := .int 1000000000000000000) rfl hL ⟨_, rfl⟩) pa_nil))))
          (pe_one (pe_cmpR op_in_seq (pv 3) (pe_glob (v := .ref aM) rfl hM rfl) rfl))))))), ?_⟩
    have no : isTupD d = false → isWD d = false := fun z => by cases d <;> first | rfl | exact absurd (show true = false from z) (by decide)
    cases hT : isTupD d with
    | false =>
      have e0 : isWD d = false := no hT
      rw [e0] at k
      refine q_when (b := true) (et_is (et_or (a := true) (b := false) (et_not (a := false) (et_B (ev_is (ev_isi (ev_var rfl) hd (kit_tuple _)) (by rw [hT])))) fun z => nomatch z) rfl) (fun _ H1 e1 => ?_) (fun hb => nomatch hb)
      exact s_ret ev_c fun H2 e2 => k H2 (e1.trans e2)
    | true =>
      obtain ⟨a, xs, ds, rfl, rfl, hs, ha⟩ : ∃ a xs ds, d = .tuple ds ∧ x = .ref a ∧ SqT K H a xs ∧ DpAll K H xs ds := by
        cases hd with
        | tup hs ha => exact ⟨_, _, _, rfl, rfl, hs, ha⟩
        | _ => exact absurd (show false = true from hT) Bool.false_ne_true
      have hl := dps_len ha
      refine q_when (b := decide (ds.length ≠ 3)) ?_ (fun hb H1 e1 => ?_) (fun hb H1 e1 => ?_)
      · refine et_is (et_or (a := false) (b := decide (ds.length ≠ 3)) (et_not (a := true) (et_B (ev_isi (ev_var rfl) (.tup hs ha) (kit_tuple _)))) fun _ => ?_) (Bool.false_or _)
        refine et_is (et_test (ev_op (ev_cb (ea_cons (ev_var rfl) ea_nil) (fun H1 e Q q => ⟨a, xs, rfl, Or.inr (ex_t e hs), q H1 (Ex.refl H1)⟩)) ev_c (rv_ne rfl))) ?_
        rw [hl]
        by_cases c : ds.length = 3
        · rw [c] <;> rfl
        · rw [decide_eq_true c]
          have c2 : ¬ V.int (ds.length : Int) = V.int 3 := fun z => c (by injection z with z; omega)
          rw [decide_eq_false c2] <;> rfl
      · have c : ds.length ≠ 3 := of_decide_eq_true hb
        have e0 : isWD (.tuple ds) = false := by
          match ds, c with
          | [], _ => rfl
          | [_], _ => rfl
          | [_, _], _ => rfl
          | [_, _, _], c => exact absurd rfl c
          | _ :: _ :: _ :: _ :: _, _ => rfl
        rw [e0] at k
        exact s_ret ev_c fun H2 e2 => k H2 (e1.trans e2)
      · have c : ds.length = 3 := by
          have z := of_decide_eq_false hb
          omega
        match ds, c, ha with
        | [de, dl, dm], _, ha =>
          cases ha with
          | @cons xe xs1 _ _ he ha1 =>
          cases ha1 with
          | @cons xl xs2 _ _ hl2 ha2 =>
          cases ha2 with
          | @cons xm xs3 _ _ hm ha3 =>
          cases ha3
          refine ⟨_, rfl, a, _, rfl, ex_t e1 hs, rfl, ?_⟩
          refine ⟨_, _, rfl, _, _, rfl, _, _, rfl, rfl, ?_⟩
          have fm : flatD dm = true := ht
          dsimp only
          refine s_ret (v := .bl (isWD (.tuple [de, dl, dm]))) ?_ (fun H2 e2 => ?_)
          case refine_2 => exact k H2 (e1.trans e2)
          refine ev_andV (ev_call (ea_cons (ev_var rfl) (ea_cons ev_c (ea_cons ev_c ea_nil))) (sp_betw (dp_ex e1 he))) fun _ =>
            ev_andV (ev_call (ea_cons (ev_var rfl) (ea_cons ev_c (ea_cons ev_c ea_nil))) (sp_betw (dp_ex e1 hl2))) fun _ =>
              ev_is (ev_op (ev_var rfl) ev_c (rv_isT (sM _) (dp_flat hm fm) rfl)) (congrArg V.bl (in_modes hm fm))
end
end Lw

namespace Lw
open PySem PySem.Spec PyProof.Rows L2 Evl L3
abbrev sIniW : Stmt := inClass (top 2) 0
abbrev sIniO : Stmt := inClass (top 3) 0
abbrev sChk : Stmt := top 12
abbrev sTurns : Stmt := top 14
abbrev sNorm : Stmt := top 15
abbrev sMost : Stmt := top 16
section
variable {P : Program} {w : World} {K : PySem.W.Frag} {mg : Str → Option Value} {base : Heap}
theorem scIni : FnScope ["self", "index"] ["self", "index"] (defScope sIniW) := ⟨rfl, rfl, rfl, by decide +kernel, rfl, by decide +kernel, by decide +kernel⟩
theorem scIniO : FnScope ["self", "index"] ["self", "index"] (defScope sIniO) := ⟨rfl, rfl, rfl, by decide +kernel, rfl, by decide +kernel, by decide +kernel⟩
theorem ok_iniW {f C : Addr} {fd : FuncData} (F : Fun K "__init__" "BadWrite.__init__" sIniW f fd) : FnOk P w K mg base CX0 1 f fd ["self", "index"] (spErr K C "index") := by
  refine F.ok scIni (fun vs H Q E h => ?_) (fun cdv A outer s H vs Q E hr h => ⟨_, pss_one (ps_ost (pv 0) (pv 1)), ?_⟩)
  · obtain ⟨a, v, rfl, _⟩ := h
    rfl
  · exact s_ini h (by obtain ⟨a, v, rfl, _⟩ := h; rfl)
theorem ok_iniO {f C : Addr} {fd : FuncData} (F : Fun K "__init__" "BadOrder.__init__" sIniO f fd) : FnOk P w K mg base CX0 1 f fd ["self", "index"] (spErr K C "index") := by
  refine F.ok scIniO (fun vs H Q E h => ?_) (fun cdv A outer s H vs Q E hr h => ⟨_, pss_one (ps_ost (pv 0) (pv 1)), ?_⟩)
  · obtain ⟨a, v, rfl, _⟩ := h
    rfl
  · exact s_ini h (by obtain ⟨a, v, rfl, _⟩ := h; rfl)
/-! ### check -/
def thirds : PyData → Bool
  | .list ds => ds.all third
  | _ => true
def fbad : List PyData → Nat → Option Nat
  | [], _ => none
  | d :: r, i => if isWD d = true then fbad r (i + 1) else some i
/-- what check tells of a value: none, or what BadWrite bears -/
def chkD : PyData → Option V
  | .list ds => if 200 < ds.length then some .non else (fbad ds 0).map fun i => V.int (i : Int)
  | _ => some .non
theorem fbad_step {ds : List PyData} {i : Nat} {d : PyData} (h : ds[i]? = some d) : fbad (ds.drop i) i = if isWD d = true then fbad (ds.drop (i + 1)) (i + 1) else some i := by
  have hi := (List.getElem?_eq_some_iff.mp h).1
  rw [List.drop_eq_getElem_cons hi, (List.getElem?_eq_some_iff.mp h).2]
  rfl
theorem dps_get {H : Hp} : ∀ {xs : List V} {ds : List PyData} {i : Nat} {x : V}, DpAll K H xs ds → xs[i]? = some x → ∃ d, ds[i]? = some d ∧ Dp K H x d
  | _, _, 0, x, .cons a _, e => by
    simp at e
    exact ⟨_, by simp, e ▸ a⟩
  | _, _, i + 1, x, .cons _ r, e => by
    obtain ⟨d, h1, h2⟩ := dps_get (i := i) r (by simpa using e)
    exact ⟨d, by simpa using h1, h2⟩
  | _, _, _, _, .nil, e => by simp at e
def spChk (K : PySem.W.Frag) (CW : Addr) : Sp := fun vs H Q E => ∃ (x : V) (d : PyData), vs = [x] ∧ Dp K H x d ∧ thirds d = true ∧ (chkD d = none → RetV .non H Q) ∧ ∀ v, chkD d = some v → ErrV CW "index" v H E
theorem scC : FnScope ["conversation", "index", "write"] ["conversation"] (defScope sChk) := ⟨rfl, rfl, rfl, by decide +kernel, rfl, by decide +kernel, by decide +kernel⟩
theorem ok_chk {f fI CW fN : Addr} {fd fdI fdN : FuncData} (F : Fun K "check" "check" sChk f fd) (T : Txt K mg) (hW : ∃ t, mg "MOST_WRITES" = some (.int 200 t)) (TW : ErC P w K mg base "BadWrite" "index" CW fN fdN)
    (FI : Fun K "is_write" "is_write" sIsW fI fdI) (bI : Binds K fdI ["value"] []) (gI : mg "is_write" = some (.ref fI)) (GI : FnOk P w K mg base CX0 2 fI fdI ["value"] (spIsW K)) :
    FnOk P w K mg base (L2.CX P w) 3 f fd ["conversation"] (spChk K CW) := by
  obtain ⟨tW, hW⟩ := hW
  refine F.okX scC (fun vs H Q E h => ?_) (fun cdv A outer s H vs Q E hr h => ?_)
  · obtain ⟨x, d, rfl, _⟩ := h
    rfl
  · obtain ⟨x, d, rfl, hd, ht, k0, k1⟩ := h
    refine ⟨_, pss_cons (ps_if (PW.pt (pw_or (pt_not (pt_val (pe_callB call_isi (by rfl) T.isi boot_isinstance (pa_cons (pv 0) (pa_cons (pe_ty "list" T.list) pa_nil)))))
        (pw_or1 (pt_cmpR op_gt (pe_callB call_len_seq (by rfl) T.len PySem.boot_len (pa_cons (pv 0) pa_nil)) (pe_glob (v := .int 200) rfl hW ⟨_, rfl⟩) (nomark _)))))
        (pss_one (ps_rz rfl TW hr (takes_of rfl rfl rfl rfl) (by exact pa_cons pe_non pa_nil))) pss_nil)
      (pss_one (ps_for (passes_of rfl) rfl (pi_enum (by rfl) T.enumerate (pa_cons (pv 0) pa_nil)) (pg_tup rfl (pgs_cons (pg_name (i := 1) scC.nd rfl (Or.inl rfl)) (pgs_cons (pg_name (i := 2) scC.nd rfl (Or.inl rfl)) pgs_nil)))
        (pss_one (ps_if (pt_not (pt_val (pe_call GI hr rfl gI FI.kp bI .nil pass0 (pa_cons (pv 2) pa_nil)))) (pss_one (ps_rz rfl TW hr (takes_of rfl rfl rfl rfl) (by exact pa_cons (pv 1) pa_nil))) pss_nil)))), ?_⟩
    cases hT : isListD d with
    | false =>
      have e0 : chkD d = some .non := by cases d <;> first | rfl | exact absurd (show true = false from hT) (by decide)
      refine q_when (b := true) (et_is (et_or (a := true) (b := false) (et_not (a := false) (et_B (ev_is (ev_isi (ev_var rfl) hd (kit_list _)) (by rw [hT])))) fun z => nomatch z) rfl) (fun _ H1 e1 => ?_) (fun hb => nomatch hb)
      exact s_rz ev_c TW.oex TW.no ((k1 _ e0).go e1)
    | true =>
      obtain ⟨a, xs, ds, rfl, rfl, hs, ha⟩ : ∃ a xs ds, d = .list ds ∧ x = .ref a ∧ SqL K H a xs ∧ DpAll K H xs ds := by
        cases hd with
        | lst hs ha => exact ⟨_, _, _, rfl, rfl, hs, ha⟩
        | _ => exact absurd (show false = true from hT) Bool.false_ne_true
      have hl := dps_len ha
      refine q_when (b := decide (200 < ds.length)) ?_ (fun hb H1 e1 => ?_) (fun hb H1 e1 => ?_)
      · refine et_is (et_or (a := false) (b := decide (200 < ds.length)) (et_not (a := true) (et_B (ev_isi (ev_var rfl) (.lst hs ha) (kit_list _)))) fun _ => ?_) (Bool.false_or _)
        refine et_is (et_test (ev_op (ev_cb (ea_cons (ev_var rfl) ea_nil) (fun H1 e Q q => ⟨a, xs, rfl, Or.inl (ex_l e hs), q H1 (Ex.refl H1)⟩)) ev_c rv_I0)) ?_
        rw [hl]
        exact decide_eq_decide.mpr (by omega)
      · have c : 200 < ds.length := of_decide_eq_true hb
        have e0 : chkD (.list ds) = some .non := if_pos c
        exact s_rz ev_c TW.oex TW.no ((k1 _ e0).go e1)
      · have c : ¬ 200 < ds.length := of_decide_eq_false hb
        have e0 : chkD (.list ds) = (fbad ds 0).map fun i => V.int (i : Int) := if_neg c
        refine s_forEn (ea_cons (ev_var rfl) ea_nil) (ex_l e1 hs) (fun i σ' H' => Ex H H' ∧ (∃ o1 o2, σ' = [some (.ref a), o1, o2]) ∧ fbad ds 0 = fbad (ds.drop i) i) (fun H2 e2 => ⟨e1.trans e2, ⟨none, none, rfl⟩, rfl⟩) (fun i σ' H' _ p => ex_l p.1 hs) ?_ ?_
        · rintro i y σ' H' hy ⟨e3, ⟨o1, o2, rfl⟩, hf⟩ H2 e2
          obtain ⟨dy, h1, h2⟩ := dps_get ha hy
          have t3 : third dy = true := by
            have z : ds.all third = true := ht
            exact List.all_eq_true.mp z _ (List.mem_of_getElem? h1)
          rw [fbad_step h1] at hf
          refine s_when (b := !isWD dy) (et_not (et_B (ev_call (ea_cons (ev_var rfl) ea_nil) (sp_isW (dp_ex (e3.trans e2) h2) t3)))) (fun hb H3 e4 => ?_) (fun hb H3 e4 => ?_)
          · have c2 : isWD dy = false := by simpa using hb
            rw [c2, if_neg Bool.false_ne_true] at hf
            rw [hf] at e0
            exact s_rz (ev_var rfl) TW.oex TW.no ((k1 _ e0).go ((e3.trans e2).trans e4))
          · have c2 : isWD dy = true := by simpa using hb
            rw [c2, if_pos rfl] at hf
            exact ⟨(e3.trans e2).trans e4, ⟨_, _, rfl⟩, hf⟩
        · rintro σ' H' ⟨e3, _, hf⟩
          rw [hl, List.drop_length] at hf
          rw [hf] at e0
          exact k0 e0 _ e3
end
end Lw

namespace Lw
open PySem PySem.Spec PyProof.Rows L2 Evl L3
/-! ### what check lets by -/
def okW (w : Wr) : Bool := betwD (.int w.1) 0 1 && (betwD (.int w.2.1) 1 1000000000000000000 && modeD (.str w.2.2))
theorem isWD_wD (w : Wr) : isWD (wD w) = okW w := rfl
theorem isWD_some {d : PyData} (h : isWD d = true) : ∃ w, d = wD w ∧ okW w = true := by
  match d, h with
  | .tuple [e, l, m], h =>
    have h' : (betwD e 0 1 && (betwD l 1 1000000000000000000 && modeD m)) = true := h
    simp only [Bool.and_eq_true] at h'
    obtain ⟨h1, h2, h3⟩ := h'
    match e, h1 with
    | .int i, h1 =>
    match l, h2 with
    | .int j, h2 =>
    match m, h3 with
    | .str s, h3 =>
      refine ⟨(i, j, s), rfl, ?_⟩
      unfold okW
      simp only [Bool.and_eq_true]
      exact ⟨h1, h2, h3⟩
theorem fbad_good : ∀ {ds : List PyData} {i : Nat}, fbad ds i = none → ∃ ws : List Wr, ds = ws.map wD ∧ ∀ w ∈ ws, okW w = true
  | [], _, _ => ⟨[], rfl, fun _ h => nomatch h⟩
  | d :: r, i, h => by
    have h' : (if isWD d = true then fbad r (i + 1) else some i) = none := h
    by_cases c : isWD d = true
    · rw [if_pos c] at h'
      obtain ⟨ws, e, a⟩ := fbad_good h'
      obtain ⟨w, e1, a1⟩ := isWD_some c
      refine ⟨w :: ws, by rw [e1, e]; rfl, fun v hv => ?_⟩
      rcases List.mem_cons.mp hv with q | q
      · rw [q]; exact a1
      · exact a v q
    · rw [if_neg c] at h'
      cases h'
theorem good_fbad : ∀ {ws : List Wr} {i : Nat}, (∀ w ∈ ws, okW w = true) → fbad (ws.map wD) i = none
  | [], _, _ => rfl
  | w :: r, i, h => by
    show (if isWD (wD w) = true then fbad (r.map wD) (i + 1) else some i) = none
    rw [isWD_wD, h w List.mem_cons_self, if_pos rfl]
    exact good_fbad fun v hv => h v (List.mem_cons_of_mem _ hv)
theorem chk_good {d : PyData} (h : chkD d = none) : ∃ ws : List Wr, d = cD ws ∧ ws.length ≤ 200 ∧ ∀ w ∈ ws, okW w = true := by
  match d, h with
  | .list ds, h =>
    have h' : (if 200 < ds.length then some V.non else (fbad ds 0).map fun i => V.int (i : Int)) = none := h
    by_cases c : 200 < ds.length
    · rw [if_pos c] at h'
      cases h'
    · rw [if_neg c] at h'
      cases e : fbad ds 0 with
      | some i =>
        rw [e] at h'
        cases h'
      | none =>
        obtain ⟨ws, e1, a⟩ := fbad_good e
        exact ⟨ws, by rw [e1] <;> rfl, by rw [e1, List.length_map] at c; omega, a⟩
theorem good_chk {ws : List Wr} (hl : ws.length ≤ 200) (h : ∀ w ∈ ws, okW w = true) : chkD (cD ws) = none := by
  show (if 200 < (ws.map wD).length then some V.non else (fbad (ws.map wD) 0).map fun i => V.int (i : Int)) = none
  rw [if_neg (by rw [List.length_map]; omega), good_fbad h] <;> rfl
theorem third_wD (ws : List Wr) : thirds (cD ws) = true := by
  show (ws.map wD).all third = true
  rw [List.all_eq_true]
  intro d hd
  obtain ⟨w, _, e⟩ := List.mem_map.mp hd
  rw [← e] <;> rfl
section
variable {P : Program} {w : World} {K : PySem.W.Frag} {mg : Str → Option Value} {base : Heap}
def spTurns (K : PySem.W.Frag) (CW : Addr) : Sp := fun vs H Q E => ∃ (x : V) (d : PyData), vs = [x] ∧ Dp K H x d ∧ thirds d = true ∧
  (∀ ws : List Wr, d = cD ws → chkD d = none → RetLD K ((turnsM ws).map tD) H Q) ∧ ∀ v, chkD d = some v → ErrV CW "index" v H E
theorem scTu : FnScope ["conversation", "found", "start", "stop", "speaker"] ["conversation"] (defScope sTurns) := ⟨rfl, rfl, rfl, by decide +kernel, rfl, by decide +kernel, by decide +kernel⟩
theorem ok_turns {f fC CW : Addr} {fd fdC : FuncData} (F : Fun K "turns" "turns" sTurns f fd) (T : Txt K mg)
    (FC : Fun K "check" "check" sChk fC fdC) (bC : Binds K fdC ["conversation"] []) (gC : mg "check" = some (.ref fC)) (GC : FnOk P w K mg base (L2.CX P w) 3 fC fdC ["conversation"] (spChk K CW)) :
    FnOk P w K mg base (L2.CX P w) 4 f fd ["conversation"] (spTurns K CW) := by
  refine F.okX scTu (fun vs H Q E h => ?_) (fun cdv A outer s H vs Q E hr h => ?_)
  · obtain ⟨x, d, rfl, _⟩ := h
    rfl
  · obtain ⟨x, d, rfl, hd, ht, k0, k1⟩ := h
    refine ⟨_, pss_cons (ps_expr (pe_call GC hr rfl gC FC.kp bC .nil (passes_call (takes_of rfl rfl rfl rfl) fun _ _ _ _ z => z) (by exact pa_cons (pv 0) pa_nil)))
      (pss_cons (ps_set (i := 1) scTu.nd rfl (Or.inl rfl) (pe_lst pa_nil)) (pss_cons (ps_set (i := 2) scTu.nd rfl (Or.inl rfl) pe_int)
      (pss_cons (ps_for (passes_of rfl) rfl (pi_range2 rfl T.range (pa_cons pe_int (pa_cons (pe_op op_add (pe_callB call_len_seq (by rfl) T.len PySem.boot_len (pa_cons (pv 0) pa_nil)) pe_int) pa_nil))) (pg_name (i := 3) scTu.nd rfl (Or.inl rfl))
        (pss_cons (ps_set (i := 4) scTu.nd rfl (Or.inl rfl) (pe_ix ix_tup (pe_ix ix_list (pv 0) (pv 2) (fun _ _ => rfl)) pe_int (fun _ _ => rfl)))
        (pss_one (ps_if (PW.pt (pw_or (pt_cmpR op_eq (pv 3) (pe_callB call_len_seq (by rfl) T.len PySem.boot_len (pa_cons (pv 0) pa_nil)) (nomark _))
            (pw_or1 (pt_cmpR op_ne (pe_ix ix_tup (pe_ix ix_list (pv 0) (pv 3) (fun _ _ => rfl)) pe_int (fun _ _ => rfl)) (pv 4) (nomark _)))))
          (pss_cons (ps_expr (pe_bm PySem.F.plainAttrs_list PySem.F.slot_list_append PySem.F.type_list_append mt_append (pv 1) (pa_cons (pe_tup (pa_cons (pv 4) (pa_cons (pv 2) (pa_cons (pv 3) pa_nil)))) pa_nil)))
            (pss_one (ps_set (i := 2) scTu.nd rfl (Or.inl rfl) (pv 3)))) pss_nil))))
      (pss_one (ps_ret (pv 1)))))), ?_⟩
    refine ⟨_, rfl, x, d, rfl, hd, ht, fun c0 H1 e1 => ?_, k1⟩
    obtain ⟨ws, rfl, hlen, _⟩ := chk_good c0
    have kk := k0 ws rfl c0
    cases hd with
    | @lst a xs _ hs ha =>
    have hl : xs.length = ws.length := by rw [dps_len' ha, List.length_map]
    refine q_asgL (el_lst ea_nil (by show 0 ≤ 100000; decide)) fun p H2 hp2 e2 h2 => ?_
    refine q_asg ev_c fun H3 e3 => ?_
    have evlen : ∀ {σ : L2.St} {H' : Hp}, σ[0]? = some (some (V.ref a)) → Ex H H' → Ev (tCB (rLenS K) (tCons (tVar 0) tNil)) σ H' (.int (ws.length : Int)) := fun hσ e => by
      rw [← hl]
      exact ev_len (ev_var hσ) (ex_l e hs)
    have hp0 : H p = none := fresh_back e1 hp2
    refine q_forR2 (ea_cons ev_c (ea_cons (ev_op (evlen rfl ((e1.trans e2).trans e3)) ev_c rv_I0) ea_nil)) (by omega)
      (fun i σ' H' => ∃ o3 o4 ys, σ' = [some (.ref a), some (.ref p), some (.int ((tN ws i).2 : Int)), o3, o4] ∧ Ex H (del H' p) ∧ H' p = some (.lst ys) ∧ DpAll K (del H' p) ys ((tN ws i).1.map tD))
      (fun H4 e4 => ⟨none, none, [], rfl, ex_beside (((e1.trans e2).trans e3).trans e4) hp0, e4 p _ (e3 p _ h2), .nil⟩) ?_ ?_
    · rintro i σ' H' hi ⟨o3, o4, ys, rfl, ex, hys, hda⟩
      have hi2 : i < ws.length := by omega
      have eH : Ex H H' := ex.trans ex_del_self
      have hst := tN_le ws i
      obtain ⟨t1, w1, q1, x1, s1⟩ := wr_at ha (j := (tN ws i).2) (by omega)
      have sp1 : w1.1 = spk ws (tN ws i).2 := (spk_of q1).symm
      refine q_asg (v := .int (spk ws (tN ws i).2)) ?_ fun H4 e4 => ?_
      · rw [← sp1]
        exact ev_op (ev_op (ev_var rfl) (ev_var rfl) (rv_ixL (ex_l eH hs) (atI_nat x1))) ev_c (rv_ixT (ex_t eH s1) (atI_nat (j := 0) rfl))
      have e14 : ((1 : Int) + (i : Int)) = ((i + 1 : Nat) : Int) := by omega
      refine s_when (b := decide (i + 1 = ws.length ∨ spk ws (i + 1) ≠ spk ws (tN ws i).2)) ?_ (fun hb H5 e5 => ?_) (fun hb H5 e5 => ?_)
      · by_cases c : i + 1 = ws.length
        · refine et_is (et_or (a := true) (b := true) (et_is (et_test (ev_op (ev_var rfl) (evlen rfl (eH.trans e4)) (rv_eq rfl))) (decide_eq_true (by rw [← c, e14]))) fun z => nomatch z) ?_
          rw [decide_eq_true (Or.inl c)] <;> rfl
        · obtain ⟨t2, w2, q2, x2, s2⟩ := wr_at ha (j := i + 1) (by omega)
          have sp2 : w2.1 = spk ws (i + 1) := (spk_of q2).symm
          refine et_is (et_or (a := false) (b := decide (spk ws (i + 1) ≠ spk ws (tN ws i).2)) (et_is (et_test (ev_op (ev_var rfl) (evlen rfl (eH.trans e4)) (rv_eq rfl))) (decide_eq_false (fun z => c (by injection z with z; omega)))) fun _ => ?_) ?_
          · refine et_is (et_test (ev_op (x := .int (spk ws (i + 1))) ?_ (ev_var rfl) (rv_ne rfl))) ?_
            · rw [← sp2]
              refine ev_op (ev_op (ev_var rfl) (ev_var (v := .int ((i + 1 : Nat) : Int)) (by rw [← e14]; rfl)) (rv_ixL (ex_l (eH.trans e4) hs) (atI_nat x2))) ev_c (rv_ixT (ex_t (eH.trans e4) s2) (atI_nat (j := 0) rfl))
            · by_cases c2 : spk ws (i + 1) = spk ws (tN ws i).2
              · rw [c2, decide_eq_true rfl, decide_eq_false (fun z => z rfl)] <;> rfl
              · rw [decide_eq_true c2, decide_eq_false (fun z => c2 (by injection z))] <;> rfl
          · rw [Bool.false_or]
            exact decide_eq_decide.mpr ⟨Or.inr, fun z => z.resolve_left c⟩
      · have c := of_decide_eq_true hb
        have eN : tN ws (i + 1) = ((tN ws i).1 ++ [(spk ws (tN ws i).2, (tN ws i).2, i + 1)], i + 1) := if_pos c
        have hys5 : H5 p = some (.lst ys) := e5 p _ (e4 p _ hys)
        refine q_appU hys5 (ev_var rfl) (eu_tup (ea_cons (ev_var rfl) (ea_cons (ev_var rfl) (ea_cons (ev_var rfl) ea_nil))) (by show 3 ≤ 100000; decide)) ?_ fun u H6 hu e6 h6 => ?_
        · have z1 := dps_len' hda
          have z2 := tN_len ws i
          rw [List.length_map] at z1
          omega
        have nup : u ≠ p := fun z => by
          rw [z, hys5] at hu
          cases hu
        refine s_asg (ev_var rfl) fun H7 e7 => ?_
        refine ⟨some (.int (1 + (i : Int))), some (.int (spk ws (tN ws i).2)), ys ++ [.ref u], ?_, ?_, e7 p _ upd_same, ?_⟩
        · rw [eN, ← e14] <;> rfl
        · refine (ex.trans (ex_del ((e4.trans e5).trans e6))).trans ?_
          rw [← del_upd (H := H6) (l := p) (o := .lst (ys ++ [.ref u]))]
          exact ex_del e7
        · rw [eN, List.map_append]
          have k7 : Ex (del H6 p) (del H7 p) := by
            rw [← del_upd (H := H6) (l := p) (o := .lst (ys ++ [.ref u]))]
            exact ex_del e7
          refine dps_snoc (dps_ex (((ex_del ((e4.trans e5).trans e6))).trans k7) hda) ?_
          have hu6 : (del H6 p) u = some (.tup [.int (spk ws (tN ws i).2), .int ((tN ws i).2 : Int), .int ((i + 1 : Nat) : Int)]) := by
            rw [del_ne nup, h6, e14]
          exact .tup (st_of (k7 u _ hu6)) (.cons (.int _) (.cons (.int _) (.cons (.int _) .nil)))
      · have c := of_decide_eq_false hb
        have eN : tN ws (i + 1) = tN ws i := if_neg c
        have k5 : Ex (del H' p) (del H5 p) := ex_del (e4.trans e5)
        refine ⟨some (.int (1 + (i : Int))), some (.int (spk ws (tN ws i).2)), ys, ?_, ex.trans k5, e5 p _ (e4 p _ hys), ?_⟩
        · rw [eN] <;> rfl
        · rw [eN]
          exact dps_ex k5 hda
    · rintro σ' H' ⟨o3, o4, ys, rfl, ex, hys, hda⟩
      have e0 : (((ws.length : Nat) : Int) + 1 - 1).toNat = ws.length := by omega
      rw [e0] at hda
      exact s_ret (ev_var rfl) fun H4 e4 => kk p ys H4 hp0 (ex.trans (ex_del e4)) (e4 p _ hys) (dps_ex (ex_del e4) hda)
end
end Lw

namespace Lw
open PySem PySem.Spec PyProof.Rows L2 Evl L3
section
variable {P : Program} {w : World} {K : PySem.W.Frag} {mg : Str → Option Value} {base : Heap}
/-- a new list of values is handed back -/
def RetLV (xs : List V) (H : Hp) (Q : VK) : Prop := ∀ p H2, H p = none → Ex H (del H2 p) → H2 p = some (.lst xs) → Q (.ref p) H2
theorem RetLV.go {xs : List V} {H H1 : Hp} {Q : VK} (k : RetLV xs H Q) (e : Ex H H1) : RetLV xs H1 Q := fun p H2 h1 h2 h3 => k p H2 (fresh_back e h1) (e.trans h2) h3
def spMost (K : PySem.W.Frag) (CW : Addr) : Sp := fun vs H Q E => ∃ (x : V) (d : PyData), vs = [x] ∧ Dp K H x d ∧ thirds d = true ∧
  (∀ ws : List Wr, d = cD ws → chkD d = none → RetLV ((limM ws).map V.int) H Q) ∧ ∀ v, chkD d = some v → ErrV CW "index" v H E
theorem scMo : FnScope ["conversation", "start", "starts", "highest", "endpoint", "stop"] ["conversation"] (defScope sMost) := ⟨rfl, rfl, rfl, by decide +kernel, rfl, by decide +kernel, by decide +kernel⟩
theorem ok_most {f fT CW : Addr} {fd fdT : FuncData} (F : Fun K "most_clearings" "most_clearings" sMost f fd) (T : Txt K mg) (hC : ∃ t, mg "MOST_CLEARINGS" = some (.int 2 t))
    (FT : Fun K "turns" "turns" sTurns fT fdT) (bT : Binds K fdT ["conversation"] []) (gT : mg "turns" = some (.ref fT)) (GT : FnOk P w K mg base (L2.CX P w) 4 fT fdT ["conversation"] (spTurns K CW)) :
    FnOk P w K mg base (L2.CX P w) 5 f fd ["conversation"] (spMost K CW) := by
  obtain ⟨tC, hC⟩ := hC
  refine F.okX scMo (fun vs H Q E h => ?_) (fun cdv A outer s H vs Q E hr h => ?_)
  · obtain ⟨x, d, rfl, _⟩ := h
    rfl
  · obtain ⟨x, d, rfl, hd, ht, k0, k1⟩ := h
    refine ⟨_, pss_cons (ps_setLc (i := 2) (own := [("endpoint", 4), ("start", 1), ("stop", 5)]) (g := gTup K 3 (gCons (gName 4) (gCons (gName 1) (gCons (gName 5) gNil)))) (tt := tYes) (te := tVar 1) rfl scMo.nd rfl rfl (sw_true rfl rfl rfl (by decide +kernel))
        (pi_list (pe_call GT hr rfl gT FT.kp bT .nil (passes_call (takes_of rfl rfl rfl rfl) fun _ _ _ _ z => z) (by exact pa_cons (pv 0) pa_nil)))
        (blkOk_by (N := ["conversation", "start", "starts", "highest", "endpoint", "stop"]) (sc := defScope sMost) (by decide +kernel))
        (fun _ _ _ _ _ => pg_tup rfl (pgs_cons (pg_name (i := 4) scMo.nd rfl (Or.inl rfl)) (pgs_cons (pg_name (i := 1) scMo.nd rfl (Or.inl rfl)) (pgs_cons (pg_name (i := 5) scMo.nd rfl (Or.inl rfl)) pgs_nil))))
        (fun _ _ _ _ _ => pts_nil) (fun _ _ _ _ _ => pv 1))
      (pss_cons (ps_set (i := 3) scMo.nd rfl (Or.inl rfl) (pe_op op_rep (pe_lst (pa_cons (pe_glob (v := .int 2) rfl hC ⟨_, rfl⟩) pa_nil)) (pe_callB call_len_seq (by rfl) T.len PySem.boot_len (pa_cons (pv 0) pa_nil))))
      (pss_cons (ps_for (passes_of rfl) rfl (pi_list (pv 2)) (pg_name (i := 1) scMo.nd rfl (Or.inl rfl)) (pss_one (ps_asg pe_int (pg_sub (pv 3) (pv 1) set_list))))
      (pss_one (ps_ret (pv 3))))), ?_⟩
    refine ⟨_, rfl, x, d, rfl, hd, ht, fun ws e0 c0 => ?_, k1⟩
    subst e0
    have kk := k0 ws rfl c0
    have hlen : ws.length ≤ 200 := by
      obtain ⟨ws', e, hl, _⟩ := chk_good c0
      have z : (PyData.list (ws.map wD)) = .list (ws'.map wD) := e
      injection z with z
      have z2 := congrArg List.length z
      rw [List.length_map, List.length_map] at z2
      omega
    obtain ⟨a, xs0, rfl, hs, ha⟩ : ∃ a xs, x = .ref a ∧ SqL K H a xs ∧ DpAll K H xs (ws.map wD) := by
      cases hd with
      | lst hs ha => exact ⟨_, _, rfl, hs, ha⟩
    have hl0 : xs0.length = ws.length := by rw [dps_len' ha, List.length_map]
    intro p xs H2 hp2 e2 h2 hda
    have hlx : xs.length = (turnsM ws).length := by rw [dps_len' hda, List.length_map]
    have hlt : (turnsM ws).length ≤ ws.length := tN_len ws _
    have e02 : Ex H H2 := e2.trans ex_del_self
    refine ⟨p, rfl, ⟨xs, sq_of h2⟩, fun Dl hD => lc_list (xs := xs) (fun i H' => Ex H2 (del H' Dl) ∧ H' Dl = some (.lst (((starts (turnsM ws)).take i).map fun (j : Nat) => V.int (j : Int)))) ⟨ex_beside (Ex.new hD) hD, upd_same⟩
      (fun i H' _ q => sq_of (ex_del_self p _ (q.1 p _ h2))) ?_ ?_⟩
    · rintro i y H' hy ⟨q1, q2⟩
      obtain ⟨dy, h3, h4⟩ := dps_get hda hy
      rw [List.getElem?_map] at h3
      cases ht2 : (turnsM ws)[i]? with
      | none =>
        rw [ht2] at h3
        cases h3
      | some tu =>
        rw [ht2] at h3
        have e3 : tD tu = dy := Option.some.inj h3
        subst e3
        have h5 : Dp K H' y (tD tu) := dp_ex ((ex_del_self.trans q1).trans ex_del_self) h4
        cases h5 with
        | @tup t ys _ ts ta =>
        cases ta with
        | cons a1 r1 =>
        cases r1 with
        | cons a2 r2 =>
        cases r2 with
        | cons a3 r3 =>
        cases r3
        cases a1
        cases a2
        cases a3
        refine ⟨t, _, rfl, ts, rfl, ?_⟩
        refine ⟨_, _, rfl, _, _, rfl, _, _, rfl, rfl, rfl, ?_⟩
        refine yes_then ⟨.int (tu.2.1 : Int), rfl, _, q2, ?_, ?_⟩
        · rw [List.length_map, List.length_take]
          have z := Nat.min_le_left i (starts (turnsM ws)).length
          have z2 : i < xs.length := (List.getElem?_eq_some_iff.mp hy).1
          exact sz_lt (by omega)
        · refine ⟨?_, ?_⟩
          · rw [del_upd]
            exact q1
          · rw [upd_same]
            have e4 : (starts (turnsM ws)).take (i + 1) = (starts (turnsM ws)).take i ++ [tu.2.1] := by
              have z : (starts (turnsM ws))[i]? = some tu.2.1 := by
                unfold starts
                rw [List.getElem?_map, ht2] <;> rfl
              rw [List.take_add_one, z] <;> rfl
            rw [e4, List.map_append] <;> rfl
    · rintro H3 ⟨q1, q2⟩
      have eS : (starts (turnsM ws)).take xs.length = starts (turnsM ws) := by
        refine List.take_of_length_le ?_
        unfold starts
        rw [List.length_map]
        omega
      rw [eS] at q2
      have e03 : Ex H H3 := e02.trans (q1.trans ex_del_self)
      have evlen : ∀ {σ : L2.St} {H' : Hp}, σ[0]? = some (some (V.ref a)) → Ex H H' → Ev (tCB (rLenS K) (tCons (tVar 0) tNil)) σ H' (.int (ws.length : Int)) := fun hσ e => by
        rw [← hl0]
        exact ev_len (ev_var hσ) (ex_l e hs)
      refine q_asgL (el_rep ev_c (evlen rfl e03) (by omega)) fun hp H4 hn4 e4 h4 => ?_
      have hD4 : H4 Dl = some (.lst ((starts (turnsM ws)).map fun (j : Nat) => V.int (j : Int))) := e4 Dl _ q2
      have nDh : Dl ≠ hp := ne_of_none q2 hn4
      have hp0 : H hp = none := fresh_back e03 hn4
      refine q_forLn (ev_var rfl) (sq_of hD4) (fun i σ' H' => ∃ o1 o4 o5, σ' = [some (.ref a), o1, some (.ref Dl), some (.ref hp), o4, o5] ∧ Ex (del H4 hp) (del H' hp) ∧
          H' hp = some (.lst ((((starts (turnsM ws)).take i).foldl (fun L s => L.set s (0 : Int)) (List.replicate ws.length 2)).map V.int)))
        (fun H5 e5 => ⟨_, _, _, rfl, ex_del e5, ?_⟩) (fun i σ' H' _ ⟨_, _, _, _, q, _⟩ => sq_of (ex_del_self Dl _ (q Dl _ (by rw [del_ne nDh]; exact hD4)))) ?_ ?_
      · rw [List.take_zero, e5 hp _ h4]
        show some (HO.lst (List.replicate ws.length (V.int 2))) = some (HO.lst ((List.replicate ws.length (2 : Int)).map V.int))
        rw [List.map_replicate]
      · rintro i y σ' H' hy ⟨o1, o4, o5, rfl, q3, q4⟩
        rw [List.getElem?_map] at hy
        cases hst : (starts (turnsM ws))[i]? with
        | none =>
          rw [hst] at hy
          cases hy
        | some sj =>
          rw [hst] at hy
          have ey : V.int (sj : Int) = y := Option.some.inj hy
          subst ey
          have hsj : sj < ws.length := ((starts_turns ws sj).mp (List.mem_of_getElem? hst)).1
          have hfl : ∀ (ss : List Nat) (L : List Int), (ss.foldl (fun L s => L.set s (0 : Int)) L).length = L.length := fun ss => by
            induction ss with
            | nil => intro L; rfl
            | cons s r ih => intro L; rw [List.foldl_cons, ih, List.length_set]
          refine s_setL (j := sj) q4 ev_c (ev_var rfl) (ev_var rfl) (by rw [List.length_map, hfl, List.length_replicate]; exact hsj) fun H5 e5 => ?_
          refine ⟨_, _, _, rfl, ?_, ?_⟩
          · rw [del_upd]
            exact q3.trans (ex_del e5)
          · have e4 : (starts (turnsM ws)).take (i + 1) = (starts (turnsM ws)).take i ++ [sj] := by
              rw [List.take_add_one, hst] <;> rfl
            rw [upd_same, e4, List.foldl_append]
            show some (HO.lst (List.set (List.map V.int _) sj (V.int 0))) = some (HO.lst (List.map V.int (List.set _ sj 0)))
            rw [List.map_set]
      · rintro σ' H' ⟨o1, o4, o5, rfl, q3, q4⟩
        have eS2 : (starts (turnsM ws)).take ((starts (turnsM ws)).map fun (j : Nat) => V.int (j : Int)).length = starts (turnsM ws) := by
          rw [List.length_map, List.take_length]
        rw [eS2, lim_set] at q4
        exact s_ret (ev_var rfl) fun H5 e5 => kk hp H5 hp0 ((ex_beside (e03.trans e4) hp0).trans (q3.trans (ex_del e5))) (e5 hp _ q4)
end
end Lw

namespace Lw
open PySem PySem.Spec PyProof.Rows L2 Evl L3
/-! ### normal_order -/
def obad : List PyData → List Int → Nat → Option Nat
  | d :: r, l :: ls, i => if betwD d 0 l = true then obad r ls (i + 1) else some i
  | _, _, _ => none
/-- the order as a list, or what BadOrder bears -/
inductive NO where
  | ok (xs : List PyData)
  | bad (v : V)
def normO (ws : List Wr) : PyData → NO
  | .str s => if s = "quick" then .ok ((limM ws).map .int) else if s = "slow" then .ok (List.replicate ws.length (.int 0)) else .bad .non
  | .list ds => if ds.length = ws.length then (match obad ds (limM ws) 0 with | none => .ok ds | some i => .bad (.int (i : Int))) else .bad .non
  | _ => .bad .non
theorem lim_len (ws : List Wr) : (limM ws).length = ws.length := by
  unfold limM
  rw [List.length_map, List.length_range]
theorem obad_step {ds : List PyData} {ls : List Int} {i : Nat} {d : PyData} {l : Int} (h : ds[i]? = some d) (h2 : ls[i]? = some l) :
    obad (ds.drop i) (ls.drop i) i = if betwD d 0 l = true then obad (ds.drop (i + 1)) (ls.drop (i + 1)) (i + 1) else some i := by
  have hi := (List.getElem?_eq_some_iff.mp h).1
  have hj := (List.getElem?_eq_some_iff.mp h2).1
  rw [List.drop_eq_getElem_cons hi, (List.getElem?_eq_some_iff.mp h).2, List.drop_eq_getElem_cons hj, (List.getElem?_eq_some_iff.mp h2).2]
  rfl
section
variable {P : Program} {w : World} {K : PySem.W.Frag} {mg : Str → Option Value} {base : Heap}
theorem dps_ints {H : Hp} : ∀ ns : List Int, DpAll K H (ns.map V.int) (ns.map PyData.int)
  | [] => .nil
  | n :: r => .cons (.int n) (dps_ints r)
theorem dps_rep {H : Hp} : ∀ n : Nat, DpAll K H (List.replicate n (V.int 0)) (List.replicate n (PyData.int 0))
  | 0 => .nil
  | n + 1 => .cons (.int 0) (dps_rep n)
/-- conversation x, order y -/
def spNorm (K : PySem.W.Frag) (CW CO : Addr) : Sp := fun vs H Q E => ∃ (x y : V) (d o : PyData), vs = [x, y] ∧ Dp K H x d ∧ thirds d = true ∧ Dp K H y o ∧ SeqAt.shaped o = true ∧
  (∀ ws : List Wr, d = cD ws → chkD d = none → (∀ xs, normO ws o = .ok xs → RetLD K xs H Q) ∧ ∀ v, normO ws o = .bad v → ErrV CO "index" v H E) ∧ ∀ v, chkD d = some v → ErrV CW "index" v H E
theorem scNo : FnScope ["conversation", "order", "highest", "index", "clearings"] ["conversation", "order"] (defScope sNorm) := ⟨rfl, rfl, rfl, by decide +kernel, rfl, by decide +kernel, by decide +kernel⟩
theorem ok_norm {f fM fB CW CO fN : Addr} {fd fdM fdB fdN : FuncData} (F : Fun K "normal_order" "normal_order" sNorm f fd) (T : Txt K mg) (TO : ErC P w K mg base "BadOrder" "index" CO fN fdN)
    (FM : Fun K "most_clearings" "most_clearings" sMost fM fdM) (bM : Binds K fdM ["conversation"] []) (gM : mg "most_clearings" = some (.ref fM)) (GM : FnOk P w K mg base (L2.CX P w) 5 fM fdM ["conversation"] (spMost K CW))
    (FB : Fun K "between" "between" sBetw fB fdB) (bB : Binds K fdB ["value", "low", "high"] []) (gB : mg "between" = some (.ref fB)) :
    FnOk P w K mg base (L2.CX P w) 6 f fd ["conversation", "order"] (spNorm K CW CO) := by
  have GB : FnOk P w K mg base CX0 1 fB fdB ["value", "low", "high"] (spBetw K) := ok_betw FB T
  refine F.okX scNo (fun vs H Q E h => ?_) (fun cdv A outer s H vs Q E hr h => ?_)
  · obtain ⟨x, y, d, o, rfl, _⟩ := h
    rfl
  · obtain ⟨x, y, d, o, rfl, hd, ht, ho, hso, k0, k1⟩ := h
    have hr1 : Room 1 _ := hr.mono (by decide)
    have hr2 : Room 2 _ := hr.mono (by decide)
    refine ⟨_, pss_cons (ps_set (i := 2) scNo.nd rfl (Or.inl rfl) (pe_call GM hr rfl gM FM.kp bM .nil (passes_call (takes_of rfl rfl rfl rfl) fun _ _ _ _ z => z) (by exact pa_cons (pv 0) pa_nil)))
      (pss_cons (ps_if (pt_cmpR (op_eqD hr.units) (pv 1) pe_str (nomark _)) (pss_one (ps_ret (pv 2))) pss_nil)
      (pss_cons (ps_if (pt_cmpR (op_eqD hr.units) (pv 1) pe_str (nomark _)) (pss_one (ps_ret (pe_op op_rep (pe_lst (pa_cons pe_int pa_nil)) (pe_callB call_len_seq (by rfl) T.len PySem.boot_len (pa_cons (pv 0) pa_nil))))) pss_nil)
      (pss_cons (ps_if (PW.pt (pw_or (pt_not (pt_val (pe_callB call_isi (by rfl) T.isi boot_isinstance (pa_cons (pv 1) (pa_cons (pe_ty "list" T.list) pa_nil)))))
          (pw_or1 (pt_cmpR op_ne (pe_callB call_len_seq (by rfl) T.len PySem.boot_len (pa_cons (pv 1) pa_nil)) (pe_callB call_len_seq (by rfl) T.len PySem.boot_len (pa_cons (pv 0) pa_nil)) (nomark _)))))
        (pss_one (ps_rz rfl TO hr2 (takes_of rfl rfl rfl rfl) (by exact pa_cons pe_non pa_nil))) pss_nil)
      (pss_cons (ps_for (passes_of rfl) rfl (pi_enum (by rfl) T.enumerate (pa_cons (pv 1) pa_nil)) (pg_tup rfl (pgs_cons (pg_name (i := 3) scNo.nd rfl (Or.inl rfl)) (pgs_cons (pg_name (i := 4) scNo.nd rfl (Or.inl rfl)) pgs_nil)))
        (pss_one (ps_if (pt_not (pt_val (pe_call GB hr1 rfl gB FB.kp bB .nil pass0 (pa_cons (pv 4) (pa_cons pe_int (pa_cons (pe_ix ix_list (pv 2) (pv 3) (fun _ _ => rfl)) pa_nil))))))
          (pss_one (ps_rz rfl TO hr2 (takes_of rfl rfl rfl rfl) (by exact pa_cons (pv 3) pa_nil))) pss_nil)))
      (pss_one (ps_ret (pe_callTy call_list_of (by rfl) T.list (by decide +kernel) (pa_cons (pv 1) pa_nil)))))))), ?_⟩
    refine ⟨_, rfl, x, d, rfl, hd, ht, fun ws e0 c0 => ?_, k1⟩
    subst e0
    obtain ⟨kok, kbad⟩ := k0 ws rfl c0
    have hlen : ws.length ≤ 200 := by
      obtain ⟨ws', e, hl, _⟩ := chk_good c0
      have z : (PyData.list (ws.map wD)) = .list (ws'.map wD) := e
      injection z with z
      have z2 := congrArg List.length z
      rw [List.length_map, List.length_map] at z2
      omega
    obtain ⟨a, xs0, rfl, hs, ha⟩ : ∃ a xs, x = .ref a ∧ SqL K H a xs ∧ DpAll K H xs (ws.map wD) := by
      cases hd with
      | lst hs ha => exact ⟨_, _, rfl, hs, ha⟩
    have hl0 : xs0.length = ws.length := by rw [dps_len' ha, List.length_map]
    intro hp H1 hp0 e1 h1
    have e01 : Ex H H1 := e1.trans ex_del_self
    have evlen : ∀ {σ : L2.St} {H' : Hp}, σ[0]? = some (some (V.ref a)) → Ex H H' → Ev (tCB (rLenS K) (tCons (tVar 0) tNil)) σ H' (.int (ws.length : Int)) := fun hσ e => by
      rw [← hl0]
      exact ev_len (ev_var hσ) (ex_l e hs)
    refine q_when (et_test (ev_op (ev_var rfl) ev_c (rv_eqD (dp_ex e01 ho) (.str "quick") hso (by decide +kernel)))) (fun hb H2 e2 => ?_) (fun hb H2 e2 => ?_)
    · rw [eqv_str] at hb
      cases o with
      | str z =>
        have ez : z = "quick" := of_decide_eq_true hb
        have en : normO ws (.str z) = .ok ((limM ws).map .int) := if_pos ez
        exact s_ret (ev_var rfl) fun H3 e3 => kok _ en hp _ H3 hp0 (e1.trans (ex_del (e2.trans e3))) (e3 hp _ (e2 hp _ h1)) (dps_ints _)
      | _ => cases hb
    refine q_when (et_test (ev_op (ev_var rfl) ev_c (rv_eqD (dp_ex (e01.trans e2) ho) (.str "slow") hso (by decide +kernel)))) (fun hb2 H3 e3 => ?_) (fun hb2 H3 e3 => ?_)
    · rw [eqv_str] at hb hb2
      cases o with
      | str z =>
        have ez : ¬ z = "quick" := of_decide_eq_false hb
        have ez2 : z = "slow" := of_decide_eq_true hb2
        have en : normO ws (.str z) = .ok (List.replicate ws.length (.int 0)) := by
          show (if z = "quick" then _ else if z = "slow" then _ else _) = _
          rw [if_neg ez, if_pos ez2]
        exact s_retL (el_rep ev_c (evlen rfl ((e01.trans e2).trans e3)) (by omega)) fun p H4 hn4 e4 h4 =>
          kok _ en p _ H4 (fresh_back ((e01.trans e2).trans e3) hn4) (ex_beside (((e01.trans e2).trans e3).trans e4) (fresh_back ((e01.trans e2).trans e3) hn4)) h4 (dps_rep _)
      | _ => cases hb2
    have e03 : Ex H H3 := (e01.trans e2).trans e3
    have h3 : H3 hp = some (.lst ((limM ws).map V.int)) := e3 hp _ (e2 hp _ h1)
    cases hT : isListD o with
    | false =>
      have en : normO ws o = .bad .non := by
        cases o with
        | str z =>
          rw [eqv_str] at hb hb2
          show (if z = "quick" then _ else if z = "slow" then _ else _) = _
          rw [if_neg (of_decide_eq_false hb), if_neg (of_decide_eq_false hb2)]
        | list _ => cases hT
        | _ => rfl
      refine q_when (b := true) (et_is (et_or (a := true) (b := false) (et_not (a := false) (et_B (ev_is (ev_isi (ev_var rfl) (dp_ex e03 ho) (kit_list _)) (by rw [hT])))) fun z => nomatch z) rfl) (fun _ H4 e4 => ?_) (fun hb => nomatch hb)
      exact s_rz ev_c TO.oex TO.no ((kbad _ en).go (e03.trans e4))
    | true =>
      obtain ⟨b, ys, ds, rfl, rfl, hsy, hay⟩ : ∃ b ys ds, o = .list ds ∧ y = .ref b ∧ SqL K H b ys ∧ DpAll K H ys ds := by
        cases ho with
        | lst hs ha => exact ⟨_, _, _, rfl, rfl, hs, ha⟩
        | _ => exact absurd (show false = true from hT) Bool.false_ne_true
      have hly : ys.length = ds.length := dps_len' hay
      have evlen1 : ∀ {σ : L2.St} {H' : Hp}, σ[1]? = some (some (V.ref b)) → Ex H H' → Ev (tCB (rLenS K) (tCons (tVar 1) tNil)) σ H' (.int (ds.length : Int)) := fun hσ e => by
        rw [← hly]
        exact ev_len (ev_var hσ) (ex_l e hsy)
      refine q_when (b := decide (ds.length ≠ ws.length)) ?_ (fun hb3 H4 e4 => ?_) (fun hb3 H4 e4 => ?_)
      · refine et_is (et_or (a := false) (b := decide (ds.length ≠ ws.length)) (et_not (a := true) (et_B (ev_isi (ev_var rfl) (dp_ex e03 ho) (kit_list _)))) fun _ => ?_) (Bool.false_or _)
        refine et_is (et_test (ev_op (evlen1 rfl e03) (evlen rfl e03) (rv_ne rfl))) ?_
        by_cases c : ds.length = ws.length
        · rw [decide_eq_true (congrArg (fun (n : Nat) => V.int (n : Int)) c), decide_eq_false (fun z => z c)] <;> rfl
        · rw [decide_eq_true c, decide_eq_false (fun z => c (by injection z with z; omega))] <;> rfl
      · have en : normO ws (.list ds) = .bad .non := if_neg (of_decide_eq_true hb3)
        exact s_rz ev_c TO.oex TO.no ((kbad _ en).go (e03.trans e4))
      · have c : ds.length = ws.length := by
          have z := of_decide_eq_false hb3
          omega
        have en : normO ws (.list ds) = (match obad ds (limM ws) 0 with | none => .ok ds | some i => .bad (.int (i : Int))) := if_pos c
        have h4 : H4 hp = some (.lst ((limM ws).map V.int)) := e4 hp _ h3
        refine q_forEn (ea_cons (ev_var rfl) ea_nil) (ex_l (e03.trans e4) hsy) (fun i σ' H' => Ex H4 H' ∧ (∃ o3 o4, σ' = [some (.ref a), some (.ref b), some (.ref hp), o3, o4]) ∧ obad ds (limM ws) 0 = obad (ds.drop i) ((limM ws).drop i) i)
          (fun H5 e5 => ⟨e5, ⟨none, none, rfl⟩, rfl⟩) (fun i σ' H' _ q => ex_l ((e03.trans e4).trans q.1) hsy) ?_ ?_
        · rintro i v σ' H' hv ⟨e5, ⟨o3, o4, rfl⟩, hf⟩ H6 e6
          obtain ⟨dv, g1, g2⟩ := dps_get hay hv
          have hi : i < ds.length := (List.getElem?_eq_some_iff.mp g1).1
          have hli : i < (limM ws).length := by rw [lim_len]; omega
          have g3 : (limM ws)[i]? = some (limM ws)[i] := by simp [hli]
          rw [obad_step g1 g3] at hf
          have e06 : Ex H H6 := ((e03.trans e4).trans e5).trans e6
          have h6 : H6 hp = some (.lst ((limM ws).map V.int)) := e6 hp _ (e5 hp _ h4)
          refine s_when (b := !betwD dv 0 (limM ws)[i]) (et_not (et_B (ev_call (ea_cons (ev_var rfl) (ea_cons ev_c (ea_cons (ev_op (ev_var rfl) (ev_var rfl) (rv_ixL (sq_of h6) (atI_nat (by rw [List.getElem?_map, g3]; rfl)))) ea_nil))) (sp_betw (dp_ex e06 g2))))) (fun hb4 H7 e7 => ?_) (fun hb4 H7 e7 => ?_)
          · have c2 : betwD dv 0 (limM ws)[i] = false := by simpa using hb4
            rw [c2, if_neg Bool.false_ne_true] at hf
            rw [hf] at en
            exact s_rz (ev_var rfl) TO.oex TO.no ((kbad _ en).go (e06.trans e7))
          · have c2 : betwD dv 0 (limM ws)[i] = true := by simpa using hb4
            rw [c2, if_pos rfl] at hf
            exact ⟨(e5.trans e6).trans e7, ⟨_, _, rfl⟩, hf⟩
        · rintro σ' H' ⟨e5, ⟨o3, o4, rfl⟩, hf⟩
          have z1 : ds.drop ys.length = [] := by rw [hly, List.drop_length]
          rw [z1] at hf
          have hf' : obad ds (limM ws) 0 = none := hf
          rw [hf'] at en
          have e05 : Ex H H' := (e03.trans e4).trans e5
          refine s_retL (el_cb (ea_cons (ev_var rfl) ea_nil) (fun H6 e6 Q' q => ⟨b, ys, rfl, Or.inl (ex_l (e05.trans e6) hsy), fun l hl => q l _ hl (Ex.new hl) upd_same⟩)) fun p H6 hn6 e6 h6 => ?_
          have hp6 : H p = none := fresh_back e05 hn6
          have ex6 : Ex H (del H6 p) := ex_beside (e05.trans e6) hp6
          exact kok _ en p _ H6 hp6 ex6 h6 (dps_ex ex6 hay)
end
end Lw

namespace Lw
open PySem PySem.Spec PyProof.Rows L2 Evl L3
abbrev sBag : Stmt := top 18
abbrev sTake : Stmt := top 19
/-- the bag at g: digits, a seed, a count that leaves room for n more draws -/
def BagAt (H : Hp) (g : Addr) (n : Nat) : Prop := ∃ d s c : Int, H g = some (.lst [.int d, .int s, .int c]) ∧ 0 ≤ d ∧ 0 ≤ s ∧ s < 4294967296 ∧ 0 ≤ c ∧ c + 3 * n ≤ 1099511627776
theorem BagAt.ex {H H1 : Hp} {g : Addr} {n : Nat} (b : BagAt H g n) (e : Ex H H1) : BagAt H1 g n := by
  obtain ⟨d, s, c, h, r⟩ := b
  exact ⟨d, s, c, e g _ h, r⟩
theorem BagAt.less {H : Hp} {g : Addr} {n m : Nat} (b : BagAt H g n) (h : m ≤ n) : BagAt H g m := by
  obtain ⟨d, s, c, h1, h2, h3, h4, h5, h6⟩ := b
  exact ⟨d, s, c, h1, h2, h3, h4, h5, by omega⟩
/-- one draw -/
def spTake : Sp := fun vs H Q _ => ∃ (g : Addr) (n : Nat) (m : Int), vs = [.ref g, .int m] ∧ BagAt H g (n + 1) ∧ 1 ≤ m ∧ m ≤ 100000000000000000000 ∧
  ∀ (r : Int) (H' : Hp), 0 ≤ r → r < m → Ex (del H g) (del H' g) → BagAt H' g n → Q (.int r) H'
section
variable {P : Program} {w : World} {K : PySem.W.Frag} {mg : Str → Option Value} {base : Heap}
theorem rc_int {H : Hp} {i : Int} : RC (fun xs H Q => (∃ i, xs = [V.int i] ∧ Q (.int i) H) ∨ ∃ k, xs = [V.bl k] ∧ Q (.int (if k then 1 else 0)) H) [.int i] H (.int i) := fun H1 e Q q => Or.inl ⟨i, rfl, q H1 (Ex.refl H1)⟩
theorem scTa : FnScope ["_law_bag_here", "_law_many", "_law_digit", "_law_found", "_law_reach", "_law_more"] ["_law_bag_here", "_law_many"] (defScope sTake) := ⟨rfl, rfl, rfl, by decide +kernel, rfl, by decide +kernel, by decide +kernel⟩
theorem ok_take {f : Addr} {fd : FuncData} (F : Fun K "_law_take" "_law_take" sTake f fd) (T : Txt K mg) : FnOk P w K mg base CX0 1 f fd ["_law_bag_here", "_law_many"] spTake := by
  refine F.ok scTa (fun vs H Q E h => ?_) (fun cdv A outer s H vs Q E hr h => ?_)
  · obtain ⟨g, n, m, rfl, _⟩ := h
    rfl
  · obtain ⟨g, n, m, rfl, ⟨d, s, c, hg, hd, hs0, hs1, hc0, hc1⟩, hm1, hm2, k⟩ := h
    refine ⟨_, pss_cons (ps_if (pt_cmpR op_gt (pe_ix ix_list (pv 0) pe_int (fun _ _ => rfl)) pe_int (nomark _))
        (pss_cons (ps_set (i := 2) scTa.nd rfl (Or.inl rfl) (pe_op op_mod (pe_callTy call_int1 (by rfl) T.int PyProof.Rows.boot_int (pa_cons (pe_ix ix_list (pv 0) pe_int (fun _ _ => rfl)) pa_nil)) (pv 1)))
        (pss_cons (ps_asg (pe_op op_fdivW (pe_ix ix_list (pv 0) pe_int (fun _ _ => rfl)) (pv 1)) (pg_sub (pv 0) pe_int set_list))
        (pss_one (ps_ret (pv 2))))) pss_nil)
      (pss_cons (ps_asg (pe_tup (pa_cons pe_int (pa_cons pe_int pa_nil))) (pg_tup rfl (pgs_cons (pg_name (i := 3) scTa.nd rfl (Or.inl rfl)) (pgs_cons (pg_name (i := 4) scTa.nd rfl (Or.inl rfl)) pgs_nil))))
      (pss_cons (ps_while PassesOwn.never (pt_cmpR op_lt (pv 4) (pv 1) (nomark _))
        (pss_cons (ps_asg (pe_op op_add (pe_ix ix_list (pv 0) pe_int (fun _ _ => rfl)) pe_int) (pg_sub (pv 0) pe_int set_list))
        (pss_cons (ps_asg (pe_op op_mod (pe_callTy call_int1 (by rfl) T.int PyProof.Rows.boot_int (pa_cons (pe_op op_add (pe_op op_add (pe_op op_mul (pe_ix ix_list (pv 0) pe_int (fun _ _ => rfl)) pe_int)
            (pe_op op_mul (pe_op op_mul pe_int (pe_ix ix_list (pv 0) pe_int (fun _ _ => rfl))) (pe_ix ix_list (pv 0) pe_int (fun _ _ => rfl)))) pe_int) pa_nil)) pe_int) (pg_sub (pv 0) pe_int set_list))
        (pss_cons (ps_set (i := 5) scTa.nd rfl (Or.inl rfl) (pe_op op_mod (pe_callTy call_int1 (by rfl) T.int PyProof.Rows.boot_int (pa_cons (pe_op op_mul (pe_op op_fdiv (pe_ix ix_list (pv 0) pe_int (fun _ _ => rfl)) pe_int)
            (pe_op op_add (pe_op op_fdiv (pe_ix ix_list (pv 0) pe_int (fun _ _ => rfl)) pe_int) (pe_ix ix_list (pv 0) pe_int (fun _ _ => rfl)))) pa_nil)) pe_int))
        (pss_cons (ps_set (i := 3) scTa.nd rfl (Or.inl rfl) (pe_op op_add (pe_op op_mul (pv 3) pe_int) (pe_op op_mod (pe_callTy call_int1 (by rfl) T.int PyProof.Rows.boot_int (pa_cons (pe_op op_fdiv (pv 5) pe_int) pa_nil)) pe_int)))
        (pss_one (ps_set (i := 4) scTa.nd rfl (Or.inl rfl) (pe_op op_mul (pv 4) pe_int))))))))
      (pss_one (ps_ret (pe_op op_mod (pv 3) (pv 1)))))), ?_⟩
    refine q_when (b := decide (0 < d)) (et_test (ev_op (ev_op (ev_var rfl) ev_c (rv_ixL (sq_of hg) (atI_nat (j := 0) rfl))) ev_c rv_I0)) (fun hb H1 e1 => ?_) (fun hb H1 e1 => ?_)
    · have hd1 : 0 < d := of_decide_eq_true hb
      refine q_asg (ev_op (ev_cb (ea_cons (ev_op (ev_var rfl) ev_c (rv_ixL (sq_of (e1 g _ hg)) (atI_nat (j := 0) rfl))) ea_nil) rc_int) (ev_var rfl) (rv_I (show 0 < m by omega))) fun H2 e2 => ?_
      have hg2 : H2 g = some (.lst [.int d, .int s, .int c]) := e2 g _ (e1 g _ hg)
      refine q_setL (j := 0) hg2 (ev_op (ev_op (ev_var rfl) ev_c (rv_ixL (sq_of hg2) (atI_nat (j := 0) rfl))) (ev_var rfl) (rv_I (wide_div (b := 100) (show 0 < m by omega) (by omega) (by decide) (by decide)))) (ev_var rfl) ev_c (by show 0 < 3; decide) fun H3 e3 => ?_
      refine s_ret (ev_var rfl) fun H4 e4 => ?_
      refine k (d % m) H4 (Int.emod_nonneg _ (by omega)) (Int.emod_lt_of_pos _ (by omega)) ?_ ⟨d / m, s, c, e4 g _ upd_same, Int.ediv_nonneg hd (by omega), hs0, hs1, hc0, by omega⟩
      refine (ex_del ((e1.trans e2).trans e3)).trans ?_
      rw [← del_upd (H := H3) (l := g) (o := .lst (List.set [V.int d, V.int s, V.int c] 0 (V.int (d / m))))]
      exact ex_del e4
    · have hd1 : d = 0 := by
        have z := of_decide_eq_false hb
        omega
      refine ⟨by show 2 ≤ sizeLine; decide, fun pt hpt => ⟨pt, _, rfl, st_of upd_same, rfl, _, _, rfl, _, _, rfl, rfl, ?_⟩⟩
      have e1 : Ex H (upd H1 pt (.tup [.int 0, .int 1])) := e1.trans (Ex.new hpt)
      refine q_while (fun j σ' H' => ∃ (i : Nat) (fd : Int) (o2 o5 : Option V) (s' c' : Int), j = 3 - i ∧ i ≤ 3 ∧ σ' = [some (.ref g), some (.int m), o2, some (.int fd), some (.int (33554432 ^ i)), o5] ∧
          Ex (del H g) (del H' g) ∧ H' g = some (.lst [.int d, .int s', .int c']) ∧ 0 ≤ s' ∧ s' < 4294967296 ∧ 0 ≤ c' ∧ c' ≤ c + i) 3
        ⟨0, 0, none, none, s, c, rfl, by decide, rfl, ex_del e1, e1 g _ hg, hs0, hs1, hc0, by omega⟩ ?_
      rintro j σ' H' ⟨i, fd, o2, o5, s', c', rfl, hi, rfl, ex, hg', b1, b2, b3, b4⟩
      refine ⟨decide ((33554432 : Int) ^ i < m), et_test (ev_op (ev_var rfl) (ev_var rfl) rv_I0), fun hb2 H2 e2 => ?_, fun hb2 H2 e2 => ?_⟩
      · have hlt : (33554432 : Int) ^ i < m := of_decide_eq_true hb2
        have hi3 : i < 3 := by
          match i, hi, hlt with
          | 0, _, _ => decide
          | 1, _, _ => decide
          | 2, _, _ => decide
          | 3, _, hlt =>
            exfalso
            have z : (33554432 : Int) ^ 3 = 37778931862957161709568 := by decide
            omega
          | i + 4, hi, _ => omega
        have hg2 : H2 g = some (.lst [.int d, .int s', .int c']) := e2 g _ hg'
        refine ⟨_, fun σ2 H3 q => q, ?_⟩
        refine q_setL (j := 2) hg2 (ev_op (ev_op (ev_var rfl) ev_c (rv_ixL (sq_of hg2) (atI_nat (j := 2) rfl))) ev_c rv_I0) (ev_var rfl) ev_c (by show 2 < 3; decide) fun H3 e3 => ?_
        have hg3 : upd H3 g (.lst [.int d, .int s', .int (c' + 1)]) g = some (.lst [.int d, .int s', .int (c' + 1)]) := upd_same
        have ix0 : ∀ {σ : L2.St} {HH : Hp} {xs : List V} {q : Nat} {v : V}, σ[0]? = some (some (V.ref g)) → HH g = some (.lst xs) → xs[q]? = some v → Ev (tOp (rIxL K) (tVar 0) (tC (.int (q : Int)))) σ HH v :=
          fun h1 h2 h3 => ev_op (ev_var h1) ev_c (rv_ixL (sq_of h2) (atI_nat h3))
        obtain ⟨s2, hs2⟩ : ∃ s2, s2 = (s' * 40014 + 7919 * (c' + 1) * (c' + 1) + 83) % 2147483563 := ⟨_, rfl⟩
        have hs2a : 0 ≤ s2 := by rw [hs2]; exact Int.emod_nonneg _ (by decide)
        have hs2b : s2 < 2147483563 := by rw [hs2]; exact Int.emod_lt_of_pos _ (by decide)
        refine q_setL (j := 1) (v := .int s2) hg3 (ev_is ?_ (congrArg V.int hs2.symm)) (ev_var rfl) ev_c (by show 1 < 3; decide) fun H4 e4 => ?_
        · refine ev_op (ev_cb (ea_cons (ev_op (ev_op (ev_op (ix0 (q := 1) rfl hg3 rfl) ev_c (rv_I (Or.inr (by decide)))) (ev_op (ev_op ev_c (ix0 (q := 2) rfl hg3 rfl) (rv_I (Or.inl (by decide)))) (ix0 (q := 2) rfl hg3 rfl) (rv_I (Or.inr (by omega)))) rv_I0) ev_c rv_I0) ea_nil) rc_int) ev_c (rv_I (by show (0 : Int) < 2147483563; decide))
        have hg4 : upd H4 g (.lst [.int d, .int s2, .int (c' + 1)]) g = some (.lst [.int d, .int s2, .int (c' + 1)]) := upd_same
        refine q_asg (v := .int ((s2 / 7 * (s2 / 131 + (c' + 1))) % 2147483399)) ?_ fun H5 e5 => ?_
        · refine ev_op (ev_cb (ea_cons (ev_op (ev_op (ix0 (q := 1) rfl hg4 rfl) ev_c (rv_I ⟨by decide, by decide⟩)) (ev_op (ev_op (ix0 (q := 1) rfl hg4 rfl) ev_c (rv_I ⟨by decide, by decide⟩)) (ix0 (q := 2) rfl hg4 rfl) rv_I0) (rv_I (Or.inl (by omega)))) ea_nil) rc_int) ev_c (rv_I (by show (0 : Int) < 2147483399; decide))
        refine q_asg (ev_op (ev_op (ev_var rfl) ev_c (rv_I (Or.inr (by decide)))) (ev_op (ev_cb (ea_cons (ev_op (ev_var rfl) ev_c (rv_I ⟨by decide, by decide⟩)) ea_nil) rc_int) ev_c (rv_I (by show (0 : Int) < 33554432; decide))) rv_I0) fun H6 e6 => ?_
        refine s_asg (ev_op (ev_var rfl) ev_c (rv_I (Or.inr (by decide)))) fun H7 e7 => ?_
        refine ⟨3 - (i + 1), by omega, i + 1, fd * 33554432 + s2 / 7 * (s2 / 131 + (c' + 1)) % 2147483399 / 64 % 33554432, o2, some (.int (s2 / 7 * (s2 / 131 + (c' + 1)) % 2147483399)), s2, c' + 1, rfl, by omega, ?_, ?_, e7 g _ (e6 g _ (e5 g _ hg4)), hs2a, by omega, by omega, by omega⟩
        · rw [Int.pow_succ] <;> rfl
        · have q1 : Ex (del H' g) (del H3 g) := ex_del (e2.trans e3)
          have q2 : Ex (del H3 g) (del H4 g) := by
            rw [← del_upd (H := H3) (l := g) (o := .lst (List.set [V.int d, V.int s', V.int c'] 2 (V.int (c' + 1))))]
            exact ex_del e4
          have q3 : Ex (del H4 g) (del H7 g) := by
            rw [← del_upd (H := H4) (l := g) (o := .lst [.int d, .int s2, .int (c' + 1)])]
            exact ex_del ((e5.trans e6).trans e7)
          exact ((ex.trans q1).trans q2).trans q3
      · refine s_ret (ev_op (ev_var rfl) (ev_var rfl) (rv_I (show 0 < m by omega))) fun H3 e3 => ?_
        exact k (fd % m) H3 (Int.emod_nonneg _ (by omega)) (Int.emod_lt_of_pos _ (by omega)) (ex.trans (ex_del (e2.trans e3))) ⟨d, s', c', e3 g _ (e2 g _ hg'), hd, b1, b2, b3, by omega⟩
end
end Lw

namespace Lw
open PySem PySem.Spec PyProof.Rows L2 Evl L3
abbrev sAmount : Stmt := top 20
abbrev sWrites : Stmt := top 21
/-- the bag of the j-th cell -/
def spBag (K : PySem.W.Frag) : Sp := fun vs H Q _ => ∃ (a : Addr) (ns : List Int) (j : Nat), vs = [.ref a, .int (j : Int)] ∧ SqL K H a (ns.map V.int) ∧ j ≤ 63 ∧
  ∀ p H2, H p = none → Ex H (del H2 p) → BagAt H2 p 100000000000 → Q (.ref p) H2
section
variable {P : Program} {w : World} {K : PySem.W.Frag} {mg : Str → Option Value} {base : Heap}
theorem rc_intb {H : Hp} {b : Bool} : RC (fun xs H Q => (∃ i, xs = [V.int i] ∧ Q (.int i) H) ∨ ∃ k, xs = [V.bl k] ∧ Q (.int (if k then 1 else 0)) H) [.bl b] H (.int (if b then 1 else 0)) := fun H1 e Q q => Or.inr ⟨b, rfl, q H1 (Ex.refl H1)⟩
theorem rc_abs {H : Hp} {i : Int} : RC (fun xs H Q => ∃ i, xs = [V.int i] ∧ Q (.int (if i < 0 then -i else i)) H) [.int i] H (.int (if i < 0 then -i else i)) := fun H1 e Q q => ⟨i, rfl, q H1 (Ex.refl H1)⟩
theorem scBa : FnScope ["_law_script", "_law_at", "_law_cell", "_law_digits"] ["_law_script", "_law_at"] (defScope sBag) := ⟨rfl, rfl, rfl, by decide +kernel, rfl, by decide +kernel, by decide +kernel⟩
theorem ok_bag {f : Addr} {fd : FuncData} (F : Fun K "_law_bag" "_law_bag" sBag f fd) (T : Txt K mg) (hA : mg "abs" = none) : FnOk P w K mg base CX0 1 f fd ["_law_script", "_law_at"] (spBag K) := by
  refine F.ok scBa (fun vs H Q E h => ?_) (fun cdv A outer s H vs Q E hr h => ?_)
  · obtain ⟨a, ns, j, rfl, _⟩ := h
    rfl
  · obtain ⟨a, ns, j, rfl, hs, hj, k⟩ := h
    refine ⟨_, pss_cons (ps_set (i := 2) scBa.nd rfl (Or.inl rfl) (pe_ifExp (pt_cmpR op_lt (pv 1) (pe_callB call_len_seq (by rfl) T.len PySem.boot_len (pa_cons (pv 0) pa_nil)) (nomark _)) (pe_ix ix_list (pv 0) (pv 1) (fun _ _ => rfl)) pe_int))
      (pss_cons (ps_set (i := 3) scBa.nd rfl (Or.inl rfl) (pe_op op_mul (pe_callB call_abs (by rfl) hA PyProof.Rows.boot_abs (pa_cons (pv 2) pa_nil))
        (pe_callTy call_int1 (by rfl) T.int PyProof.Rows.boot_int (pa_cons (pe_cmpR op_ge (pe_callB call_abs (by rfl) hA PyProof.Rows.boot_abs (pa_cons (pv 2) pa_nil)) (pe_op op_pow pe_int pe_int) (nomark _)) pa_nil))))
      (pss_one (ps_ret (pe_lst (pa_cons (pv 3) (pa_cons (pe_op op_add (pe_op op_add (pe_op op_mod (pe_callTy call_int1 (by rfl) T.int PyProof.Rows.boot_int (pa_cons (pv 2) pa_nil)) pe_int) (pe_op op_mul pe_int (pv 1))) pe_int)
        (pa_cons pe_int pa_nil))))))), ?_⟩
    obtain ⟨cell, hcell⟩ : ∃ cell : Int, cell = ns.getD j 0 := ⟨_, rfl⟩
    have evl : Ev (tCB (rLenS K) (tCons (tVar 0) tNil)) (start ["_law_script", "_law_at", "_law_cell", "_law_digits"] [V.ref a, V.int (j : Int)]) H (.int (ns.length : Int)) := by
      have z := ev_len (K := K) (σ := start ["_law_script", "_law_at", "_law_cell", "_law_digits"] [V.ref a, V.int (j : Int)]) (H := H) (ta := tVar 0) (ev_var rfl) hs
      rw [List.length_map] at z
      exact z
    refine q_asg (v := .int cell) (ev_if (b := decide ((j : Int) < (ns.length : Int))) (et_test (ev_op (ev_var rfl) evl rv_I0)) (fun hb => ?_) fun hb => ?_) fun H1 e1 => ?_
    · have hlt := of_decide_eq_true hb
      refine ev_op (ev_var rfl) (ev_var rfl) (rv_ixL hs (atI_nat ?_))
      rw [List.getElem?_map, hcell, List.getD_eq_getElem?_getD]
      have hlt2 : j < ns.length := by omega
      have e : ns[j]? = some ns[j] := by simp [hlt2]
      rw [e] <;> rfl
    · have hge := of_decide_eq_false hb
      have e : ns[j]? = none := by simp; omega
      have e0 : cell = 0 := by rw [hcell, List.getD_eq_getElem?_getD, e] <;> rfl
      rw [e0]
      exact ev_c
    obtain ⟨ab, hab⟩ : ∃ ab : Int, ab = if cell < 0 then -cell else cell := ⟨_, rfl⟩
    have ab0 : 0 ≤ ab := by rw [hab]; split <;> omega
    obtain ⟨bb, hbb⟩ : ∃ bb : Bool, bb = decide ((10 : Int) ^ (18 : Int).toNat ≤ ab) := ⟨_, rfl⟩
    refine q_asg (v := .int (ab * (if bb then 1 else 0))) ?_ fun H2 e2 => ?_
    · have ea : ∀ {H' : Hp}, Ev (tCB (fun xs H Q => ∃ i, xs = [V.int i] ∧ Q (.int (if i < 0 then -i else i)) H) (tCons (tVar 2) tNil)) ((start ["_law_script", "_law_at", "_law_cell", "_law_digits"] [V.ref a, V.int (j : Int)]).set 2 (some (.int cell))) H' (.int ab) := fun {H'} => by
        rw [hab]
        exact ev_cb (ea_cons (ev_var rfl) ea_nil) rc_abs
      refine ev_op ea (ev_cb (ea_cons (ev_is (ev_op ea (ev_op ev_c ev_c (rv_I ⟨by decide, by decide, by decide⟩)) rv_I0) (congrArg V.bl hbb.symm)) ea_nil) rc_intb) (rv_I (Or.inr ?_))
      cases bb <;> exact ⟨by decide, by decide⟩
    refine s_retL (el_lst (ea_cons (ev_var rfl) (ea_cons (ev_op (ev_op (ev_op (ev_cb (ea_cons (ev_var rfl) ea_nil) rc_int) ev_c (rv_I (by show (0 : Int) < 2147483563; decide))) (ev_op ev_c (ev_var rfl) (rv_I (Or.inl ⟨by decide, by decide⟩))) rv_I0) ev_c rv_I0) (ea_cons ev_c ea_nil))) (by show 3 ≤ 100000; decide)) fun p H3 hp e3 h3 => ?_
    have q1 := Int.emod_nonneg cell (b := 2147483563) (by decide)
    have q2 := Int.emod_lt_of_pos cell (b := 2147483563) (by decide)
    have hp0 : H p = none := fresh_back (e1.trans e2) hp
    refine k p H3 hp0 (ex_beside ((e1.trans e2).trans e3) hp0) ⟨_, _, _, h3, ?_, by omega, by omega, by omega, by omega⟩
    cases bb
    · show 0 ≤ ab * 0
      omega
    · show 0 ≤ ab * 1
      omega
end
end Lw
namespace Lw
open PySem PySem.Spec PyProof.Rows L2 Evl L3
theorem take_go {σ : L2.St} {H : Hp} {Q : VK} {E : XK} {g : Addr} {n : Nat} {m : Int} {tg tm : TE} (h1 : Ev tg σ H (.ref g)) (h2 : Ev tm σ H (.int m)) (b : BagAt H g (n + 1)) (m1 : 1 ≤ m) (m2 : m ≤ 100000000000000000000)
    (k : ∀ (r : Int) (H' : Hp), 0 ≤ r → r < m → Ex (del H g) (del H' g) → BagAt H' g n → Q (.int r) H') : tCall spTake [] E (tCons tg (tCons tm tNil)) σ H Q :=
  h1 H (Ex.refl H) _ fun H1 e1 => h2 H1 e1 _ fun H2 e2 => ⟨g, n, m, rfl, b.ex (e1.trans e2), m1, m2, fun r H' r0 r1 ex bg => k r H' r0 r1 ((ex_del (e1.trans e2)).trans ex) bg⟩
/-- a drawn item of a short list -/
theorem atI_mem {xs : List V} {r : Int} (h0 : 0 ≤ r) (h1 : r < (xs.length : Int)) : ∃ v, atI xs r = some v ∧ v ∈ xs := by
  obtain ⟨j, rfl⟩ : ∃ j : Nat, r = (j : Int) := ⟨r.toNat, by omega⟩
  have hj : j < xs.length := by omega
  have e : xs[j]? = some xs[j] := by simp [hj]
  exact ⟨xs[j], atI_nat e, List.getElem_mem hj⟩
theorem bag_ne {H : Hp} {g p : Addr} {n : Nat} (b : BagAt H g n) (h : H p = none) : p ≠ g := fun z => by
  obtain ⟨d, s, c, hg, _⟩ := b
  rw [z, hg] at h
  cases h
theorem del_at {H H' : Hp} {g p : Addr} {o : HO} (e : Ex (del H g) (del H' g)) (h : H p = some o) (n : p ≠ g) : H' p = some o := by
  have z : (del H g) p = some o := by rw [del_ne n]; exact h
  have z2 := e p o z
  rw [del_ne n] at z2
  exact z2
theorem del_fresh {H H' : Hp} {g p : Addr} (e : Ex (del H g) (del H' g)) (h : H' p = none) (n : p ≠ g) : H p = none := by
  cases q : H p with
  | none => rfl
  | some o =>
    rw [del_at e q n] at h
    cases h
/-- a length: 1 to 5 times the width -/
def spAmount : Sp := fun vs H Q _ => ∃ (g : Addr) (n : Nat) (wd : Int), vs = [.ref g, .int wd] ∧ BagAt H g (n + 4) ∧ 1 ≤ wd ∧ wd ≤ 1000000 ∧
  ∀ (r : Int) (H' : Hp), 1 ≤ r → r ≤ 5 * wd → Ex (del H g) (del H' g) → BagAt H' g n → Q (.int r) H'
section
variable {P : Program} {w : World} {K : PySem.W.Frag} {mg : Str → Option Value} {base : Heap}
theorem scAm : FnScope ["_law_bag_here", "_law_width", "_law_more"] ["_law_bag_here", "_law_width"] (defScope sAmount) := ⟨rfl, rfl, rfl, by decide +kernel, rfl, by decide +kernel, by decide +kernel⟩
theorem ok_amount {f fT : Addr} {fd fdT : FuncData} (F : Fun K "_law_amount" "_law_amount" sAmount f fd) (T : Txt K mg) (FT : Fun K "_law_take" "_law_take" sTake fT fdT) (bT : Binds K fdT ["_law_bag_here", "_law_many"] []) (gT : mg "_law_take" = some (.ref fT)) :
    FnOk P w K mg base CX0 2 f fd ["_law_bag_here", "_law_width"] spAmount := by
  have GT : FnOk P w K mg base CX0 1 fT fdT ["_law_bag_here", "_law_many"] spTake := ok_take FT T
  refine F.ok scAm (fun vs H Q E h => ?_) (fun cdv A outer s H vs Q E hr h => ?_)
  · obtain ⟨g, n, wd, rfl, _⟩ := h
    rfl
  · obtain ⟨g, n, wd, rfl, bg, w1, w2, k⟩ := h
    refine ⟨_, pss_cons (ps_set (i := 2) scAm.nd rfl (Or.inl rfl) (pe_op op_add pe_int (pe_call GT hr rfl gT FT.kp bT .nil pass0 (pa_cons (pv 0) (pa_cons (pv 1) pa_nil)))))
      (pss_one (ps_ret (pe_ix ix_list (pe_lst (pa_cons (pv 2) (pa_cons (pv 2) (pa_cons (pe_op op_mul (pv 1) (pe_op op_add pe_int (pe_call GT hr rfl gT FT.kp bT .nil pass0 (pa_cons (pv 0) (pa_cons pe_int pa_nil)))))
        (pa_cons (pe_op op_add (pe_op op_mul (pv 1) (pe_call GT hr rfl gT FT.kp bT .nil pass0 (pa_cons (pv 0) (pa_cons pe_int pa_nil)))) (pv 2)) pa_nil))))) (pe_call GT hr rfl gT FT.kp bT .nil pass0 (pa_cons (pv 0) (pa_cons pe_int pa_nil))) (fun _ _ => rfl)))), ?_⟩
    refine take_go (n := n + 3) (ev_var rfl) (ev_var rfl) bg w1 (by omega) fun r1 H1 r10 r11 x1 b1 => ?_
    refine ⟨_, _, rfl, rfl, ?_⟩
    refine ⟨_, rfl, _, rfl, _, rfl, ?_⟩
    refine take_go (n := n + 2) (ev_var rfl) ev_c b1 (by decide) (by decide) fun r2 H2 r20 r21 x2 b2 => ?_
    refine ⟨_, _, rfl, rfl, _, _, rfl, rfl, Or.inl ⟨by omega, by omega⟩, ?_⟩
    refine ⟨_, rfl, take_go (n := n + 1) (ev_var rfl) ev_c b2 (by decide) (by decide) fun r3 H3 r30 r31 x3 b3 => ?_⟩
    refine ⟨_, _, rfl, rfl, Or.inl ⟨by omega, by omega⟩, _, rfl, _, _, rfl, rfl, ?_⟩
    refine ⟨by show 4 ≤ sizeLine; decide, fun p hp => ?_⟩
    have npg : p ≠ g := bag_ne b3 hp
    refine take_go (n := n) (ev_var rfl) ev_c (b3.ex (Ex.new hp)) (by decide) (by decide) fun r4 H4 r40 r41 x4 b4 => ?_
    have h4 := del_at x4 (upd_same (H := H3) (a := p) (o := .lst [.int (1 + r1), .int (1 + r1), .int (wd * (1 + r2)), .int (wd * r3 + (1 + r1))])) npg
    obtain ⟨v, hv, hm⟩ := atI_mem (xs := [.int (1 + r1), .int (1 + r1), .int (wd * (1 + r2)), .int (wd * r3 + (1 + r1))]) (r := r4) r40 (by show r4 < 4; omega)
    refine ⟨p, _, r4, v, rfl, rfl, sq_of h4, hv, ?_⟩
    have xx : Ex (del H g) (del H4 g) := ((x1.trans x2).trans x3).trans ((ex_del (Ex.new hp)).trans x4)
    have m2 : wd * (1 + r2) ≤ wd * 4 := Int.mul_le_mul_of_nonneg_left (by omega) (by omega)
    have m2' : wd * 1 ≤ wd * (1 + r2) := Int.mul_le_mul_of_nonneg_left (by omega) (by omega)
    have m3 : wd * r3 ≤ wd * 3 := Int.mul_le_mul_of_nonneg_left (by omega) (by omega)
    have m3' : 0 ≤ wd * r3 := Int.mul_nonneg (by omega) r30
    have fin : ∃ z, v = .int z ∧ 1 ≤ z ∧ z ≤ 5 * wd := by
      simp only [List.mem_cons, List.not_mem_nil, or_false] at hm
      rcases hm with rfl | rfl | rfl | rfl
      · exact ⟨_, rfl, by omega, by omega⟩
      · exact ⟨_, rfl, by omega, by omega⟩
      · exact ⟨_, rfl, by omega, by omega⟩
      · exact ⟨_, rfl, by omega, by omega⟩
    obtain ⟨z, rfl, z1, z2⟩ := fin
    exact k z H4 z1 z2 xx b4
end
end Lw

namespace Lw
open PySem PySem.Spec PyProof.Rows L2 Evl L3
def del2 (H : Hp) (g p : Addr) : Hp := del (del H g) p
theorem ex2 {H H1 : Hp} {g p : Addr} (e : Ex H H1) : Ex (del2 H g p) (del2 H1 g p) := ex_del (ex_del e)
theorem ex2g {H H1 : Hp} {g p : Addr} (e : Ex (del H g) (del H1 g)) : Ex (del2 H g p) (del2 H1 g p) := ex_del e
theorem del2_upd {H : Hp} {g p : Addr} {o : HO} : del2 (upd H p o) g p = del2 H g p := by
  funext b
  unfold del2
  by_cases c : b = p
  · rw [c, del_same, del_same]
  · rw [del_ne c, del_ne c]
    by_cases c2 : b = g
    · rw [c2, del_same, del_same]
    · rw [del_ne c2, del_ne c2, upd_ne c]
theorem ex2_self {H : Hp} {g p : Addr} : Ex (del2 H g p) H := (ex_del_self).trans ex_del_self
theorem ex2_g {H : Hp} {g p : Addr} : Ex (del2 H g p) (del H g) := ex_del_self
theorem at2 {H : Hp} {g p b : Addr} {o : HO} (h : H b = some o) (n1 : b ≠ g) (n2 : b ≠ p) : (del2 H g p) b = some o := by
  unfold del2
  rw [del_ne n2, del_ne n1]
  exact h
/-- a drawn write: small -/
def okS (wd : Int) (w : Wr) : Prop := okW w = true ∧ w.2.1 ≤ 5 * wd
/-- many drawn writes -/
def spWrites (K : PySem.W.Frag) : Sp := fun vs H Q _ => ∃ (g : Addr) (n m : Nat) (wd : Int), vs = [.ref g, .int wd, .int (m : Int)] ∧ BagAt H g (n + 1 + 6 * m) ∧ 1 ≤ wd ∧ wd ≤ 1000000 ∧ m ≤ 1000 ∧
  ∀ (p : Addr) (xs : List V) (ws : List Wr) (H' : Hp), ws.length = m → (∀ w ∈ ws, okS wd w) → H p = none → p ≠ g → Ex (del H g) (del2 H' g p) → H' p = some (.lst xs) → DpAll K (del2 H' g p) xs (ws.map wD) → BagAt H' g n → Q (.ref p) H'
section
variable {P : Program} {w : World} {K : PySem.W.Frag} {mg : Str → Option Value} {base : Heap}
theorem scWr : FnScope ["_law_bag_here", "_law_width", "_law_many", "_law_found", "_law_who", "_law_at", "_law_word"] ["_law_bag_here", "_law_width", "_law_many"] (defScope sWrites) := ⟨rfl, rfl, rfl, by decide +kernel, rfl, by decide +kernel, by decide +kernel⟩
theorem ok_writes {f fT fA : Addr} {fd fdT fdA : FuncData} (F : Fun K "_law_writes" "_law_writes" sWrites f fd) (T : Txt K mg) (FT : Fun K "_law_take" "_law_take" sTake fT fdT) (bT : Binds K fdT ["_law_bag_here", "_law_many"] []) (gT : mg "_law_take" = some (.ref fT))
    (FA : Fun K "_law_amount" "_law_amount" sAmount fA fdA) (bA : Binds K fdA ["_law_bag_here", "_law_width"] []) (gA : mg "_law_amount" = some (.ref fA)) :
    FnOk P w K mg base CX0 3 f fd ["_law_bag_here", "_law_width", "_law_many"] (spWrites K) := by
  have GT : FnOk P w K mg base CX0 1 fT fdT ["_law_bag_here", "_law_many"] spTake := ok_take FT T
  have GA : FnOk P w K mg base CX0 2 fA fdA ["_law_bag_here", "_law_width"] spAmount := ok_amount FA T FT bT gT
  refine F.ok scWr (fun vs H Q E h => ?_) (fun cdv A outer s H vs Q E hr h => ?_)
  · obtain ⟨g, n, m, wd, rfl, _⟩ := h
    rfl
  · obtain ⟨g, n, m, wd, rfl, bg, w1, w2, hm, k⟩ := h
    have hr1 : Room 1 _ := hr.mono (by decide)
    refine ⟨_, pss_cons (ps_par (i := 3) (j := 4) rfl scWr.nd rfl rfl (by decide) rfl rfl (pa_cons (pe_lst pa_nil) (pa_cons (pe_call GT hr1 rfl gT FT.kp bT .nil pass0 (pa_cons (pv 0) (pa_cons pe_int pa_nil))) pa_nil)) (by rfl))
      (pss_cons (ps_for PassesOwn.never rfl (pi_range1 rfl T.range (pa_cons (pv 2) pa_nil)) (pg_name (i := 5) scWr.nd rfl (Or.inl rfl))
        (pss_cut (ps_if (pt_cmpR op_eq (pe_call GT hr1 rfl gT FT.kp bT .nil pass0 (pa_cons (pv 0) (pa_cons pe_int pa_nil))) pe_int (nomark _)) (pss_one (ps_set (i := 4) scWr.nd rfl (Or.inl rfl) (pe_op op_sub pe_int (pv 4)))) pss_nil)
        (pss_cons (ps_set (i := 6) scWr.nd rfl (Or.inl rfl) (pe_ix ix_list (pe_lst (pa_cons pe_str (pa_cons pe_str (pa_cons pe_str (pa_cons pe_str (pa_cons pe_str (pa_cons pe_str pa_nil))))))) (pe_call GT hr1 rfl gT FT.kp bT .nil pass0 (pa_cons (pv 0) (pa_cons pe_int pa_nil))) (fun _ _ => rfl)))
        (pss_one (ps_expr (pe_bm PySem.F.plainAttrs_list PySem.F.slot_list_append PySem.F.type_list_append mt_append (pv 3) (pa_cons (pe_tup (pa_cons (pv 4) (pa_cons (pe_call GA hr rfl gA FA.kp bA .nil pass0 (pa_cons (pv 0) (pa_cons (pv 1) pa_nil))) (pa_cons (pv 6) pa_nil)))) pa_nil)))))))
      (pss_one (ps_ret (pv 3)))), ?_⟩
    refine ⟨Nat.zero_le _, fun p hp => ?_⟩
    have npg : p ≠ g := bag_ne bg hp
    refine take_go (n := n + 6 * m) (ev_var rfl) ev_c ((bg.less (by omega)).ex (Ex.new hp)) (by decide) (by decide) fun r H1 r0 r1 x1 b1 => ?_
    have hp1 : H1 p = some (.lst []) := del_at x1 upd_same npg
    refine ⟨_, _, rfl, ?_⟩
    have ex1 : Ex (del H g) (del2 H1 g p) := by
      have z : Ex (del H g) (del2 (upd H p (.lst [])) g p) := by
        rw [del2_upd]
        exact ex_beside (Ex.refl _) (by rw [del_ne npg]; exact hp)
      exact z.trans (ex2g x1)
    refine q_forR1 (ea_cons (ev_var rfl) ea_nil) (by omega) (fun i σ' H' => ∃ (who : Int) (o5 o6 : Option V) (ws : List Wr) (xs : List V), σ' = [some (.ref g), some (.int wd), some (.int (m : Int)), some (.ref p), some (.int who), o5, o6] ∧ (who = 0 ∨ who = 1) ∧ ws.length = i ∧ (∀ w ∈ ws, okS wd w) ∧
        Ex (del H g) (del2 H' g p) ∧ H' p = some (.lst xs) ∧ DpAll K (del2 H' g p) xs (ws.map wD) ∧ BagAt H' g (n + 6 * (m - i)))
      (fun H2 e2 => ⟨r, none, none, [], [], rfl, by omega, rfl, (fun _ z => nomatch z), ex1.trans (ex2 e2), e2 p _ hp1, .nil, (b1.ex e2).less (by omega)⟩) ?_ ?_
    · rintro i σ' H' hi ⟨who, o5, o6, ws, xs, rfl, hwho, hlen, hok, ex, hxs, hda, bgi⟩
      have him : i < m := by omega
      refine ⟨fun σ4 H4 => ∃ who', (who' = 0 ∨ who' = 1) ∧ σ4 = [some (.ref g), some (.int wd), some (.int (m : Int)), some (.ref p), some (.int who'), some (.int (i : Int)), o6] ∧ Ex (del H' g) (del H4 g) ∧ BagAt H4 g (n + 6 * (m - i) - 1), ?_, ?_⟩
      · refine take_go (n := n + 6 * (m - i) - 1) (ev_var rfl) ev_c (bgi.less (by omega)) (by decide) (by decide) fun r3 H3 r30 r31 x3 b3 => ?_
        refine ⟨rfl, _, rfl, ?_⟩
        refine ite2 (fun _ => ?_) (fun _ => ?_)
        · refine s_asg (ev_op ev_c (ev_var rfl) rv_I0) fun H4 e4 => ⟨1 - who, by omega, rfl, x3.trans (ex_del e4), b3.ex e4⟩
        · exact ⟨who, hwho, rfl, x3, b3⟩
      · rintro σ4 H4 ⟨who', hw', rfl, x4, b4⟩
        have hx4 : H4 p = some (.lst xs) := del_at x4 hxs npg
        refine ⟨by show 6 ≤ sizeLine; decide, fun q hq => ?_⟩
        have nqg : q ≠ g := bag_ne b4 hq
        have nqp : q ≠ p := fun z => by
          rw [z, hx4] at hq
          cases hq
        refine take_go (n := n + 6 * (m - i) - 2) (ev_var rfl) ev_c ((b4.less (by omega)).ex (Ex.new hq)) (by decide) (by decide) fun r5 H5 r50 r51 x5 b5 => ?_
        have hq5 := del_at x5 (upd_same (H := H4) (a := q) (o := .lst [.str "plain", .str "plain", .str "plain", .str "push", .str "more", .str "plain"])) nqg
        obtain ⟨v, hv, hmem⟩ := atI_mem (xs := [.str "plain", .str "plain", .str "plain", .str "push", .str "more", .str "plain"]) (r := r5) r50 (by show r5 < 6; omega)
        refine ⟨q, _, r5, v, rfl, rfl, sq_of hq5, hv, ?_⟩
        obtain ⟨sv, rfl, hmode⟩ : ∃ sv : Str, v = .str sv ∧ modeD (.str sv) = true := by
          simp only [List.mem_cons, List.not_mem_nil, or_false] at hmem
          rcases hmem with rfl | rfl | rfl | rfl | rfl | rfl
          · exact ⟨_, rfl, by decide +kernel⟩
          · exact ⟨_, rfl, by decide +kernel⟩
          · exact ⟨_, rfl, by decide +kernel⟩
          · exact ⟨_, rfl, by decide +kernel⟩
          · exact ⟨_, rfl, by decide +kernel⟩
          · exact ⟨_, rfl, by decide +kernel⟩
        have x45 : Ex (del H4 g) (del H5 g) := (ex_del (Ex.new hq)).trans x5
        have hx5 : H5 p = some (.lst xs) := del_at x45 hx4 npg
        refine ⟨_, rfl, Or.inl ⟨rfl, _, sq_of hx5⟩, ?_⟩
        refine ⟨_, rfl, _, rfl, _, rfl, g, n + 6 * (m - i) - 6, wd, rfl, b5.less (by omega), w1, w2, fun r6 H6 r60 r61 x6 b6 => ?_⟩
        refine ⟨_, rfl, by show 3 ≤ sizeLine; decide, fun t ht => ?_⟩
        have hx6 : H6 p = some (.lst xs) := del_at x6 hx5 npg
        have ntg : t ≠ g := bag_ne b6 ht
        have ntp : t ≠ p := fun z => by
          rw [z, hx6] at ht
          cases ht
        have hlx : xs.length = i := by rw [dps_len' hda, List.length_map, hlen]
        refine ⟨p, xs, .ref t, rfl, rfl, by rw [upd_ne ntp.symm]; exact hx6, sz_lt (by omega), ?_⟩
        have chain : Ex (del2 H' g p) (del2 (upd H6 t (.tup [.int who', .int r6, .str sv])) g p) := ex2g (((x4.trans x45).trans x6).trans (ex_del (Ex.new ht)))
        refine ⟨who', _, _, ws ++ [(who', r6, sv)], xs ++ [.ref t], rfl, hw', by rw [List.length_append, hlen]; rfl, ?_, ?_, upd_same, ?_, ?_⟩
        · intro x hx
          rcases List.mem_append.mp hx with z | z
          · exact hok x z
          · have e : x = (who', r6, sv) := by simpa using z
            rw [e]
            refine ⟨?_, r61⟩
            show (betwD (.int who') 0 1 && (betwD (.int r6) 1 1000000000000000000 && modeD (.str sv))) = true
            rw [hmode]
            have q1 : betwD (.int who') 0 1 = true := by
              rcases hw' with z | z <;> rw [z] <;> rfl
            have q2 : betwD (.int r6) 1 1000000000000000000 = true := by
              show (decide (1 ≤ r6) && decide (r6 ≤ 1000000000000000000)) = true
              rw [decide_eq_true r60, decide_eq_true (by omega : r6 ≤ 1000000000000000000)] <;> rfl
            rw [q1, q2] <;> rfl
        · rw [del2_upd]
          exact ex.trans chain
        · rw [del2_upd, List.map_append]
          refine dps_snoc (dps_ex chain hda) ?_
          exact .tup (st_of (at2 upd_same ntg ntp)) (.cons (.int _) (.cons (.int _) (.cons (.str _) .nil)))
        · obtain ⟨bd, bs, bc, c1, c2⟩ := b6.less (m := n + 6 * (m - (i + 1))) (by omega)
          exact ⟨bd, bs, bc, by rw [upd_ne npg.symm, upd_ne ntg.symm]; exact c1, c2⟩
    · rintro σ' H' ⟨who, o5, o6, ws, xs, rfl, hwho, hlen, hok, ex, hxs, hda, bgi⟩
      refine s_ret (ev_var rfl) fun H2 e2 => ?_
      exact k p xs ws H2 (by simpa using hlen) hok hp npg (ex.trans (ex2 e2)) (e2 p _ hxs) (dps_ex (ex2 e2) hda) ((bgi.ex e2).less (by omega))
end
end Lw

namespace Lw
open PySem PySem.Spec PyProof.Rows L2 Evl L3
abbrev sSteps : Stmt := top 22
abbrev sWhole : Stmt := top 23
/-- a drawn order: it may stand -/
def StepsOk (ws : List Wr) (L : List Int) : Prop := L.length = ws.length ∧ ∀ (j : Nat) (l : Int), L[j]? = some l → 0 ≤ l ∧ l ≤ (if isSt ws j then 0 else 2)
def spSteps (K : PySem.W.Frag) : Sp := fun vs H Q _ => ∃ (g c : Addr) (n : Nat) (ws : List Wr), vs = [.ref g, .ref c] ∧ Dp K (del H g) (.ref c) (cD ws) ∧ BagAt H g (n + 2 * ws.length) ∧ ws.length ≤ 200 ∧
  ∀ (p : Addr) (L : List Int) (H' : Hp), StepsOk ws L → H p = none → p ≠ g → Ex (del H g) (del2 H' g p) → H' p = some (.lst (L.map V.int)) → BagAt H' g n → Q (.ref p) H'
section
variable {P : Program} {w : World} {K : PySem.W.Frag} {mg : Str → Option Value} {base : Heap}
theorem scSt : FnScope ["_law_bag_here", "_law_writes_here", "_law_found", "_law_at", "_law_is_first"] ["_law_bag_here", "_law_writes_here"] (defScope sSteps) := ⟨rfl, rfl, rfl, by decide +kernel, rfl, by decide +kernel, by decide +kernel⟩
theorem ok_steps {f fT : Addr} {fd fdT : FuncData} (F : Fun K "_law_steps" "_law_steps" sSteps f fd) (T : Txt K mg) (FT : Fun K "_law_take" "_law_take" sTake fT fdT) (bT : Binds K fdT ["_law_bag_here", "_law_many"] []) (gT : mg "_law_take" = some (.ref fT)) :
    FnOk P w K mg base CX0 2 f fd ["_law_bag_here", "_law_writes_here"] (spSteps K) := by
  have GT : FnOk P w K mg base CX0 1 fT fdT ["_law_bag_here", "_law_many"] spTake := ok_take FT T
  refine F.ok scSt (fun vs H Q E h => ?_) (fun cdv A outer s H vs Q E hr h => ?_)
  · obtain ⟨g, c, n, ws, rfl, _⟩ := h
    rfl
  · obtain ⟨g, c, n, ws, rfl, hd, bg, hm, k⟩ := h
    refine ⟨_, pss_cons (ps_set (i := 2) scSt.nd rfl (Or.inl rfl) (pe_lst pa_nil))
      (pss_cons (ps_for PassesOwn.never rfl (pi_range1 rfl T.range (pa_cons (pe_callB call_len_seq (by rfl) T.len PySem.boot_len (pa_cons (pv 1) pa_nil)) pa_nil)) (pg_name (i := 3) scSt.nd rfl (Or.inl rfl))
        (pss_cons (ps_set (i := 4) scSt.nd rfl (Or.inl rfl) (pe_or (pe_cmpR op_eq (pv 3) pe_int (nomark _)) (pe_one (pe_cmpR op_ne (pe_ix ix_tup (pe_ix ix_list (pv 1) (pe_op op_sub (pv 3) pe_int) (fun _ _ => rfl)) pe_int (fun _ _ => rfl))
            (pe_ix ix_tup (pe_ix ix_list (pv 1) (pv 3) (fun _ _ => rfl)) pe_int (fun _ _ => rfl)) (nomark _)))))
        (pss_one (ps_expr (pe_bm PySem.F.plainAttrs_list PySem.F.slot_list_append PySem.F.type_list_append mt_append (pv 2) (pa_cons (pe_op op_mul
          (pe_ix ix_list (pe_lst (pa_cons (pe_op op_add pe_int (pe_call GT hr rfl gT FT.kp bT .nil pass0 (pa_cons (pv 0) (pa_cons pe_int pa_nil)))) (pa_cons pe_int (pa_cons pe_int pa_nil)))) (pe_call GT hr rfl gT FT.kp bT .nil pass0 (pa_cons (pv 0) (pa_cons pe_int pa_nil))) (fun _ _ => rfl))
          (pe_callTy call_int1 (by rfl) T.int PyProof.Rows.boot_int (pa_cons (pe_not (pv 4)) pa_nil))) pa_nil))))))
      (pss_one (ps_ret (pv 2)))), ?_⟩
    obtain ⟨xs0, hs, ha⟩ : ∃ xs, SqL K (del H g) c xs ∧ DpAll K (del H g) xs (ws.map wD) := by
      cases hd with
      | lst hs ha => exact ⟨_, hs, ha⟩
    have hl0 : xs0.length = ws.length := by rw [dps_len' ha, List.length_map]
    have evlen : Ev (tCB (rLenS K) (tCons (tVar 1) tNil)) (start ["_law_bag_here", "_law_writes_here", "_law_found", "_law_at", "_law_is_first"] [V.ref g, V.ref c]) H (.int (ws.length : Int)) := by
      rw [← hl0]
      exact ev_len (ev_var rfl) (ex_l ex_del_self hs)
    refine q_asgL (el_lst ea_nil (by show 0 ≤ 100000; decide)) fun p H1 hp e1 h1 => ?_
    have npg : p ≠ g := bag_ne bg hp
    have evlen1 : Ev (tCB (rLenS K) (tCons (tVar 1) tNil)) ((start ["_law_bag_here", "_law_writes_here", "_law_found", "_law_at", "_law_is_first"] [V.ref g, V.ref c]).set 2 (some (.ref p))) H1 (.int (ws.length : Int)) := by
      rw [← hl0]
      exact ev_len (ev_var rfl) (ex_l (ex_del_self.trans e1) hs)
    refine q_forR1 (ea_cons evlen1 ea_nil) (by omega) (fun i σ' H' => ∃ (o3 o4 : Option V) (L : List Int), σ' = [some (.ref g), some (.ref c), some (.ref p), o3, o4] ∧ L.length = i ∧ (∀ (j : Nat) (l : Int), L[j]? = some l → 0 ≤ l ∧ l ≤ (if isSt ws j then 0 else 2)) ∧
        Ex (del H g) (del2 H' g p) ∧ H' p = some (.lst (L.map V.int)) ∧ BagAt H' g (n + 2 * (ws.length - i)))
      (fun H2 e2 => ⟨none, none, [], rfl, rfl, (fun j l z => by simp at z), (ex_beside (ex_del (e1.trans e2)) (by rw [del_ne npg]; exact hp)), e2 p _ h1, (bg.ex (e1.trans e2)).less (by omega)⟩) ?_ ?_
    · rintro i σ' H' hi ⟨o3, o4, L, rfl, hlen, hok, ex, hxs, bgi⟩
      have him : i < ws.length := by omega
      have eg : Ex (del H g) H' := ex.trans ex2_self
      obtain ⟨t1, w1, q1, x1, s1⟩ := wr_at ha (j := i) him
      have sp1 : w1.1 = spk ws i := (spk_of q1).symm
      refine q_asg (v := .bl (decide (isSt ws i))) ?_ fun H2 e2 => ?_
      · refine ev_is (ev_orV (a := decide (i = 0)) (b := decide (spk ws (i - 1) ≠ spk ws i)) (ev_is (ev_op (ev_var rfl) ev_c (rv_eq rfl)) ?_) fun hz => ?_) ?_
        · refine congrArg V.bl (decide_eq_decide.mpr ⟨fun z => by injection z with z; omega, fun z => by rw [z] <;> rfl⟩)
        · have hi0 : ¬ i = 0 := of_decide_eq_false hz
          obtain ⟨t2, w2, q2, x2, s2⟩ := wr_at ha (j := i - 1) (by omega)
          have sp2 : w2.1 = spk ws (i - 1) := (spk_of q2).symm
          have ei : (i : Int) - 1 = ((i - 1 : Nat) : Int) := by omega
          refine ev_is (ev_op (ev_op (ev_op (ev_var rfl) (ev_is (ev_op (ev_var rfl) ev_c rv_I0) (congrArg V.int ei)) (rv_ixL (ex_l eg hs) (atI_nat x2))) ev_c (rv_ixT (ex_t eg s2) (atI_nat (j := 0) rfl)))
            (ev_op (ev_op (ev_var rfl) (ev_var rfl) (rv_ixL (ex_l eg hs) (atI_nat x1))) ev_c (rv_ixT (ex_t eg s1) (atI_nat (j := 0) rfl))) (rv_ne rfl)) ?_
          rw [sp1, sp2]
          by_cases c2 : spk ws (i - 1) = spk ws i
          · rw [c2, decide_eq_true rfl, decide_eq_false (fun z => z rfl)] <;> rfl
          · rw [decide_eq_true c2, decide_eq_false (fun z => c2 (by injection z))] <;> rfl
        · refine congrArg V.bl ?_
          by_cases c1 : i = 0
          · rw [decide_eq_true c1, decide_eq_true (show isSt ws i from Or.inl c1)] <;> rfl
          · rw [decide_eq_false c1, Bool.false_or]
            exact decide_eq_decide.mpr ⟨Or.inr, fun z => z.resolve_left c1⟩
      have hx2 : H2 p = some (.lst (L.map V.int)) := e2 p _ hxs
      refine ⟨_, rfl, Or.inl ⟨rfl, _, sq_of hx2⟩, ?_⟩
      refine take_go (n := n + 2 * (ws.length - i) - 1) (ev_var rfl) ev_c ((bgi.ex e2).less (by omega)) (by decide) (by decide) fun r3 H3 r30 r31 x3 b3 => ?_
      refine ⟨_, _, rfl, rfl, ?_⟩
      refine ⟨by show 3 ≤ sizeLine; decide, fun q hq => ?_⟩
      have nqg : q ≠ g := bag_ne b3 hq
      refine take_go (n := n + 2 * (ws.length - i) - 2) (ev_var rfl) ev_c ((b3.less (by omega)).ex (Ex.new hq)) (by decide) (by decide) fun r4 H4 r40 r41 x4 b4 => ?_
      have hq4 := del_at x4 (upd_same (H := H3) (a := q) (o := .lst [.int (1 + r3), .int 0, .int 2])) nqg
      obtain ⟨v, hv, hmem⟩ := atI_mem (xs := [.int (1 + r3), .int 0, .int 2]) (r := r4) r40 (by show r4 < 3; omega)
      obtain ⟨z, rfl, z1, z2⟩ : ∃ z, v = .int z ∧ 0 ≤ z ∧ z ≤ 2 := by
        simp only [List.mem_cons, List.not_mem_nil, or_false] at hmem
        rcases hmem with rfl | rfl | rfl
        · exact ⟨_, rfl, by omega, by omega⟩
        · exact ⟨_, rfl, by omega, by omega⟩
        · exact ⟨_, rfl, by omega, by omega⟩
      refine ⟨q, _, r4, _, rfl, rfl, sq_of hq4, hv, ?_⟩
      refine ⟨_, rfl, _, rfl, ?_⟩
      refine Or.inr ⟨!decide (isSt ws i), rfl, ?_⟩
      refine ⟨_, _, rfl, rfl, Or.inl ⟨by omega, by omega⟩, ?_⟩
      have x34 : Ex (del H2 g) (del H4 g) := x3.trans ((ex_del (Ex.new hq)).trans x4)
      have hx4 : H4 p = some (.lst (L.map V.int)) := del_at x34 hx2 npg
      refine ⟨p, _, _, rfl, rfl, hx4, sz_lt (by rw [List.length_map]; omega), ?_⟩
      obtain ⟨y, hy⟩ : ∃ y : Int, y = z * (if (!decide (isSt ws i)) = true then 1 else 0) := ⟨_, rfl⟩
      have hy1 : 0 ≤ y ∧ y ≤ (if isSt ws i then 0 else 2) := by
        rw [hy]
        by_cases cs : isSt ws i
        · rw [decide_eq_true cs, if_pos cs]
          show 0 ≤ z * 0 ∧ z * 0 ≤ 0
          omega
        · rw [decide_eq_false cs, if_neg cs]
          show 0 ≤ z * 1 ∧ z * 1 ≤ 2
          omega
      refine ⟨_, _, L ++ [y], rfl, by rw [List.length_append, hlen]; rfl, ?_, ?_, ?_, ?_⟩
      · intro j l hj
        by_cases cj : j < L.length
        · rw [List.getElem?_append_left cj] at hj
          exact hok j l hj
        · have ej : j = i := by
            have z := (List.getElem?_eq_some_iff.mp hj).1
            rw [List.length_append, List.length_singleton] at z
            omega
          rw [ej, List.getElem?_append_right (by omega), hlen, Nat.sub_self] at hj
          have el : y = l := by simpa using hj
          rw [← el, ej]
          exact hy1
      · rw [del2_upd]
        exact (ex.trans (ex2 e2)).trans (ex2g x34)
      · rw [upd_same, hy, List.map_append] <;> rfl
      · obtain ⟨bd, bs, bc, c1, c2⟩ := b4.less (m := n + 2 * (ws.length - (i + 1))) (by omega)
        exact ⟨bd, bs, bc, by rw [upd_ne npg.symm]; exact c1, c2⟩
    · rintro σ' H' ⟨o3, o4, L, rfl, hlen, hok, ex, hxs, bgi⟩
      refine s_ret (ev_var rfl) fun H2 e2 => ?_
      exact k p L H2 ⟨by simpa using hlen, hok⟩ hp npg (ex.trans (ex2 e2)) (e2 p _ hxs) ((bgi.ex e2).less (by omega))
/-! ### _law_whole -/
def wholeD : PyData → Bool
  | .int _ => true
  | _ => false
def spWhole (K : PySem.W.Frag) : Sp := fun vs H Q _ => ∃ (x : V) (d : PyData), vs = [x] ∧ Dp K H x d ∧ RetV (.bl (wholeD d)) H Q
theorem sp_whole {x : V} {d : PyData} {H : Hp} (hd : Dp K H x d) : SpV (spWhole K) [x] H (.bl (wholeD d)) := fun H1 e Q q E => ⟨x, d, rfl, dp_ex e hd, fun H2 e2 => q H2 e2⟩
theorem scWh : FnScope ["_law_value"] ["_law_value"] (defScope sWhole) := ⟨rfl, rfl, rfl, by decide +kernel, rfl, by decide +kernel, by decide +kernel⟩
theorem ok_whole {f : Addr} {fd : FuncData} (F : Fun K "_law_whole" "_law_whole" sWhole f fd) (T : Txt K mg) : FnOk P w K mg base CX0 1 f fd ["_law_value"] (spWhole K) := by
  refine F.ok scWh (fun vs H Q E h => ?_) (fun cdv A outer s H vs Q E hr h => ?_)
  · obtain ⟨x, d, rfl, _⟩ := h
    rfl
  · obtain ⟨x, d, rfl, hd, k⟩ := h
    refine ⟨_, pss_one (ps_ret (pe_and (pe_callB call_isi (by rfl) T.isi boot_isinstance (pa_cons (pv 0) (pa_cons (pe_ty "int" T.int) pa_nil)))
      (pe_one (pe_not (pe_callB call_isi (by rfl) T.isi boot_isinstance (pa_cons (pv 0) (pa_cons (pe_ty "bool" T.bool) pa_nil))))))), ?_⟩
    refine s_ret (v := .bl (wholeD d)) (ev_is (ev_andV (b := !isBoolD d) (ev_isi (ev_var rfl) hd (kit_int _)) fun _ => ev_notV (ev_isi (ev_var rfl) hd (kit_bool _))) (congrArg V.bl ?_)) k
    cases d <;> rfl
end
end Lw

namespace Lw
open PySem PySem.Spec PyProof.Rows L2 Evl L3
abbrev sDue : Stmt := top 24
def vD : V → PyData
  | .int i => .int i
  | _ => .none
def nD : NO → PyData
  | .ok xs => .list xs
  | .bad v => .tuple [vD v]
/-- some value that is such data -/
def RetX (K : PySem.W.Frag) (d : PyData) (H : Hp) (Q : VK) : Prop := ∀ z H2, Ex H H2 → Dp K H2 z d → Q z H2
theorem RetX.go {K : PySem.W.Frag} {d : PyData} {H H1 : Hp} {Q : VK} (k : RetX K d H Q) (e : Ex H H1) : RetX K d H1 Q := fun z H2 h1 h2 => k z H2 (e.trans h1) h2
section
variable {P : Program} {w : World} {K : PySem.W.Frag} {mg : Str → Option Value} {base : Heap}
theorem et_yes {σ : L2.St} {H : Hp} : EvT tYes σ H true := fun H1 e Q q => q H1 (Ex.refl H1)
theorem given_all {n : Nat} {v : Nat → V} : given n (fun _ => true) v = (List.range n).map v := by
  unfold given
  rw [List.filter_eq_self.mpr (fun _ _ => rfl)]
def spDue (K : PySem.W.Frag) : Sp := fun vs H Q _ => ∃ (x y : V) (ws : List Wr) (o : PyData), vs = [x, y] ∧ Dp K H x (cD ws) ∧ ws.length ≤ 200 ∧ Dp K H y o ∧ SeqAt.shaped o = true ∧ RetX K (nD (normO ws o)) H Q
theorem scDu : FnScope ["_law_some", "_law_value", "_law_at", "_law_limits"] ["_law_some", "_law_value"] (defScope sDue) := ⟨rfl, rfl, rfl, by decide +kernel, rfl, by decide +kernel, by decide +kernel⟩
theorem ok_due {f fW : Addr} {fd fdW : FuncData} (F : Fun K "_law_due" "_law_due" sDue f fd) (T : Txt K mg) (hS : mg "str" = none) (FW : Fun K "_law_whole" "_law_whole" sWhole fW fdW) (bW : Binds K fdW ["_law_value"] []) (gW : mg "_law_whole" = some (.ref fW)) :
    FnOk P w K mg base CX0 2 f fd ["_law_some", "_law_value"] (spDue K) := by
  have GW : FnOk P w K mg base CX0 1 fW fdW ["_law_value"] (spWhole K) := ok_whole FW T
  refine F.ok scDu (fun vs H Q E h => ?_) (fun cdv A outer s H vs Q E hr h => ?_)
  · obtain ⟨x, y, ws, o, rfl, _⟩ := h
    rfl
  · obtain ⟨x, y, ws, o, rfl, hd, hlen, ho, hso, k⟩ := h
    refine ⟨_, pss_cons (ps_setLc (i := 3) (own := [("_law_at", 2)]) (g := gName 2) (tt := tYes) rfl scDu.nd rfl rfl (sw_true rfl rfl rfl (by decide +kernel))
        (pi_range1 rfl T.range (pa_cons (pe_callB call_len_seq (by rfl) T.len PySem.boot_len (pa_cons (pv 0) pa_nil)) pa_nil))
        (blkOk_by (N := ["_law_some", "_law_value", "_law_at", "_law_limits"]) (sc := defScope sDue) (by decide +kernel))
        (fun _ _ _ _ _ => pg_name (i := 2) scDu.nd rfl (Or.inl rfl)) (fun _ _ _ _ _ => pts_nil)
        (fun _ _ _ _ _ => pe_op op_mul pe_int (pe_callTy call_int1 (by rfl) T.int PyProof.Rows.boot_int (pa_cons (pe_and (pe_cmpR op_gt (pv 2) pe_int (nomark _))
          (pe_one (pe_cmpR op_eq (pe_ix (r := rIxT K) ix_tup (pe_ix (r := rIxL K) ix_list (pv 0) (pe_op op_sub (pv 2) pe_int) (fun _ _ => rfl)) pe_int (fun _ _ => rfl)) (pe_ix (r := rIxT K) ix_tup (pe_ix (r := rIxL K) ix_list (pv 0) (pv 2) (fun _ _ => rfl)) pe_int (fun _ _ => rfl)) (nomark _)))) pa_nil))))
      (pss_cons (ps_if (PW.pt (pw_and (pt_val (pe_callB call_isi (by rfl) T.isi boot_isinstance (pa_cons (pv 1) (pa_cons (pe_ty "str" hS) pa_nil)))) (pw_and1 (pt_cmpR (op_eqD hr.units) (pv 1) pe_str (nomark _))))) (pss_one (ps_ret (pv 3))) pss_nil)
      (pss_cons (ps_if (PW.pt (pw_and (pt_val (pe_callB call_isi (by rfl) T.isi boot_isinstance (pa_cons (pv 1) (pa_cons (pe_ty "str" hS) pa_nil)))) (pw_and1 (pt_cmpR (op_eqD hr.units) (pv 1) pe_str (nomark _)))))
        (pss_one (ps_ret (pe_op op_rep (pe_lst (pa_cons pe_int pa_nil)) (pe_callB call_len_seq (by rfl) T.len PySem.boot_len (pa_cons (pv 0) pa_nil))))) pss_nil)
      (pss_cons (ps_if (PW.pt (pw_or (pt_not (pt_val (pe_callB call_isi (by rfl) T.isi boot_isinstance (pa_cons (pv 1) (pa_cons (pe_ty "list" T.list) pa_nil)))))
          (pw_or1 (pt_cmpR op_ne (pe_callB call_len_seq (by rfl) T.len PySem.boot_len (pa_cons (pv 1) pa_nil)) (pe_callB call_len_seq (by rfl) T.len PySem.boot_len (pa_cons (pv 0) pa_nil)) (nomark _)))))
        (pss_one (ps_ret (pe_tup (pa_cons pe_non pa_nil)))) pss_nil)
      (pss_cons (ps_for PassesOwn.never rfl (pi_range1 rfl T.range (pa_cons (pe_callB call_len_seq (by rfl) T.len PySem.boot_len (pa_cons (pv 0) pa_nil)) pa_nil)) (pg_name (i := 2) scDu.nd rfl (Or.inl rfl))
        (pss_one (ps_if (PW.pt (pw_or (pt_not (pt_val (pe_call GW hr rfl gW FW.kp bW .nil pass0 (pa_cons (pe_ix ix_list (pv 1) (pv 2) (fun _ _ => rfl)) pa_nil))))
            (pw_or1 (pt_not (pt_chain op_le op_le pe_int (pe_ix ix_list (pv 1) (pv 2) (fun _ _ => rfl)) (pe_ix ix_list (pv 3) (pv 2) (fun _ _ => rfl)))))))
          (pss_one (ps_ret (pe_tup (pa_cons (pv 2) pa_nil)))) pss_nil)))
      (pss_one (ps_ret (pv 1))))))), ?_⟩
    obtain ⟨a, xs0, rfl, hs, ha⟩ : ∃ a xs, x = .ref a ∧ SqL K H a xs ∧ DpAll K H xs (ws.map wD) := by
      cases hd with
      | lst hs ha => exact ⟨_, _, rfl, hs, ha⟩
    have hl0 : xs0.length = ws.length := by rw [dps_len' ha, List.length_map]
    have evlen : ∀ {σ : L2.St} {H' : Hp}, σ[0]? = some (some (V.ref a)) → Ex H H' → Ev (tCB (rLenS K) (tCons (tVar 0) tNil)) σ H' (.int (ws.length : Int)) := fun hσ e => by
      rw [← hl0]
      exact ev_len (ev_var hσ) (ex_l e hs)
    refine q_asgL (el_lcR1 (fun _ => true) (fun i => .int (if isSt ws i then 0 else 2)) (ea_cons (evlen rfl (Ex.refl H)) ea_nil) (by omega) (fun _ => rfl) (fun _ _ _ _ => et_yes) (fun i H1 e1 hi _ => ?_)) fun p H1 hp e1 h1 => ?_
    · have him : i < ws.length := by omega
      obtain ⟨t1, w1, q1, x1, s1⟩ := wr_at ha (j := i) him
      have sp1 : w1.1 = spk ws i := (spk_of q1).symm
      refine ev_is (ev_op ev_c (ev_cb (ea_cons (ev_is (ev_andV (a := decide (0 < i)) (b := decide (spk ws (i - 1) = spk ws i)) (ev_is (ev_op (ev_var rfl) ev_c rv_I0) ?_) fun hz => ?_) (w := .bl (!decide (isSt ws i))) ?_) ea_nil) rc_intb) (rv_I (Or.inl ⟨by decide, by decide⟩))) ?_
      · exact congrArg V.bl (decide_eq_decide.mpr (by omega))
      · have hi0 : 0 < i := of_decide_eq_true hz
        obtain ⟨t2, w2, q2, x2, s2⟩ := wr_at ha (j := i - 1) (by omega)
        have sp2 : w2.1 = spk ws (i - 1) := (spk_of q2).symm
        have ei : (i : Int) - 1 = ((i - 1 : Nat) : Int) := by omega
        refine ev_is (ev_op (ev_op (ev_op (ev_var rfl) (ev_is (ev_op (ev_var rfl) ev_c rv_I0) (congrArg V.int ei)) (rv_ixL (ex_l e1 hs) (atI_nat x2))) ev_c (rv_ixT (ex_t e1 s2) (atI_nat (j := 0) rfl)))
          (ev_op (ev_op (ev_var rfl) (ev_var rfl) (rv_ixL (ex_l e1 hs) (atI_nat x1))) ev_c (rv_ixT (ex_t e1 s1) (atI_nat (j := 0) rfl))) (rv_eq rfl)) ?_
        rw [sp1, sp2]
        exact congrArg V.bl (decide_eq_decide.mpr ⟨fun z => by injection z, fun z => by rw [z]⟩)
      · refine congrArg V.bl ?_
        by_cases c1 : i = 0
        · rw [decide_eq_true (show isSt ws i from Or.inl c1), decide_eq_false (show ¬ 0 < i by omega)] <;> rfl
        · rw [decide_eq_true (show 0 < i by omega), Bool.true_and]
          by_cases c2 : spk ws (i - 1) = spk ws i
          · rw [decide_eq_true c2, decide_eq_false (show ¬ isSt ws i from fun z => Or.elim z c1 (fun q => q c2))] <;> rfl
          · rw [decide_eq_false c2, decide_eq_true (show isSt ws i from Or.inr c2)] <;> rfl
      · by_cases cs : isSt ws i
        · rw [decide_eq_true cs, if_pos cs] <;> rfl
        · rw [decide_eq_false cs, if_neg cs] <;> rfl
    have h1' : H1 p = some (.lst ((limM ws).map V.int)) := by
      rw [h1, given_all]
      unfold limM
      rw [List.map_map] <;> rfl
    refine q_when (b := isStrD o && PyData.eqv o (.str "quick")) (et_and (et_B (ev_isi (ev_var rfl) (dp_ex e1 ho) (kit_str _))) fun _ => et_test (ev_op (ev_var rfl) ev_c (rv_eqD (dp_ex e1 ho) (.str "quick") hso (by decide +kernel)))) (fun hb H2 e2 => ?_) (fun hb H2 e2 => ?_)
    · cases o with
      | str z =>
        have hb' : (true && PyData.eqv (.str z) (.str "quick")) = true := hb
        rw [eqv_str, Bool.true_and] at hb'
        have ez : z = "quick" := of_decide_eq_true hb'
        have en : normO ws (.str z) = .ok ((limM ws).map .int) := if_pos ez
        rw [en] at k
        exact s_ret (ev_var rfl) fun H3 e3 => k _ H3 ((e1.trans e2).trans e3) (.lst (sq_of (e3 p _ (e2 p _ h1'))) (dps_ints _))
      | _ => cases hb
    refine q_when (b := isStrD o && PyData.eqv o (.str "slow")) (et_and (et_B (ev_isi (ev_var rfl) (dp_ex (e1.trans e2) ho) (kit_str _))) fun _ => et_test (ev_op (ev_var rfl) ev_c (rv_eqD (dp_ex (e1.trans e2) ho) (.str "slow") hso (by decide +kernel)))) (fun hb2 H3 e3 => ?_) (fun hb2 H3 e3 => ?_)
    · cases o with
      | str z =>
        have hb' : (true && PyData.eqv (.str z) (.str "quick")) = false := hb
        have hb2' : (true && PyData.eqv (.str z) (.str "slow")) = true := hb2
        rw [eqv_str, Bool.true_and] at hb' hb2'
        have ez : ¬ z = "quick" := of_decide_eq_false hb'
        have ez2 : z = "slow" := of_decide_eq_true hb2'
        have en : normO ws (.str z) = .ok (List.replicate ws.length (.int 0)) := by
          show (if z = "quick" then _ else if z = "slow" then _ else _) = _
          rw [if_neg ez, if_pos ez2]
        rw [en] at k
        exact s_retL (el_rep ev_c (evlen rfl ((e1.trans e2).trans e3)) (by omega)) fun q H4 hn4 e4 h4 => k _ H4 (((e1.trans e2).trans e3).trans e4) (.lst (sq_of h4) (dps_rep _))
      | _ => cases hb2
    have e03 : Ex H H3 := (e1.trans e2).trans e3
    cases hT : isListD o with
    | false =>
      have en : normO ws o = .bad .non := by
        cases o with
        | str z =>
          have hb' : (true && PyData.eqv (.str z) (.str "quick")) = false := hb
          have hb2' : (true && PyData.eqv (.str z) (.str "slow")) = false := hb2
          rw [eqv_str, Bool.true_and] at hb' hb2'
          show (if z = "quick" then _ else if z = "slow" then _ else _) = _
          rw [if_neg (of_decide_eq_false hb'), if_neg (of_decide_eq_false hb2')]
        | list _ => cases hT
        | _ => rfl
      rw [en] at k
      refine q_when (b := true) (et_is (et_or (a := true) (b := false) (et_not (a := false) (et_B (ev_is (ev_isi (ev_var rfl) (dp_ex e03 ho) (kit_list _)) (by rw [hT])))) fun z => nomatch z) rfl) (fun _ H4 e4 => ?_) (fun hb => nomatch hb)
      exact s_retU (eu_tup (ea_cons ev_c ea_nil) (by show 1 ≤ 100000; decide)) fun q H5 hq e5 h5 => k _ H5 ((e03.trans e4).trans e5) (.tup (st_of h5) (.cons .non .nil))
    | true =>
      obtain ⟨b, ys, ds, rfl, rfl, hsy, hay⟩ : ∃ b ys ds, o = .list ds ∧ y = .ref b ∧ SqL K H b ys ∧ DpAll K H ys ds := by
        cases ho with
        | lst hs ha => exact ⟨_, _, _, rfl, rfl, hs, ha⟩
        | _ => exact absurd (show false = true from hT) Bool.false_ne_true
      have hly : ys.length = ds.length := dps_len' hay
      have evlen1 : ∀ {σ : L2.St} {H' : Hp}, σ[1]? = some (some (V.ref b)) → Ex H H' → Ev (tCB (rLenS K) (tCons (tVar 1) tNil)) σ H' (.int (ds.length : Int)) := fun hσ e => by
        rw [← hly]
        exact ev_len (ev_var hσ) (ex_l e hsy)
      refine q_when (b := decide (ds.length ≠ ws.length)) ?_ (fun hb3 H4 e4 => ?_) (fun hb3 H4 e4 => ?_)
      · refine et_is (et_or (a := false) (b := decide (ds.length ≠ ws.length)) (et_not (a := true) (et_B (ev_isi (ev_var rfl) (dp_ex e03 ho) (kit_list _)))) fun _ => ?_) (Bool.false_or _)
        refine et_is (et_test (ev_op (evlen1 rfl e03) (evlen rfl e03) (rv_ne rfl))) ?_
        by_cases c : ds.length = ws.length
        · rw [decide_eq_true (congrArg (fun (n : Nat) => V.int (n : Int)) c), decide_eq_false (fun z => z c)] <;> rfl
        · rw [decide_eq_true c, decide_eq_false (fun z => c (by injection z with z; omega))] <;> rfl
      · have en : normO ws (.list ds) = .bad .non := if_neg (of_decide_eq_true hb3)
        rw [en] at k
        exact s_retU (eu_tup (ea_cons ev_c ea_nil) (by show 1 ≤ 100000; decide)) fun q H5 hq e5 h5 => k _ H5 ((e03.trans e4).trans e5) (.tup (st_of h5) (.cons .non .nil))
      · have c : ds.length = ws.length := by
          have z := of_decide_eq_false hb3
          omega
        have en : normO ws (.list ds) = (match obad ds (limM ws) 0 with | none => .ok ds | some i => .bad (.int (i : Int))) := if_pos c
        have h4 : H4 p = some (.lst ((limM ws).map V.int)) := e4 p _ (e3 p _ (e2 p _ h1'))
        have e04 : Ex H H4 := e03.trans e4
        refine q_forR1 (ea_cons (evlen rfl e04) ea_nil) (by omega) (fun i σ' H' => Ex H4 H' ∧ (∃ o2, σ' = [some (.ref a), some (.ref b), o2, some (.ref p)]) ∧ obad ds (limM ws) 0 = obad (ds.drop i) ((limM ws).drop i) i)
          (fun H5 e5 => ⟨e5, ⟨none, rfl⟩, rfl⟩) ?_ ?_
        · rintro i σ' H' hi ⟨e5, ⟨o2, rfl⟩, hf⟩
          have him : i < ws.length := by omega
          have g1 : ds[i]? = some (ds[i]'(by omega)) := by simp [show i < ds.length by omega]
          obtain ⟨yv, g2, g4⟩ := dps_at hay g1
          have hli : i < (limM ws).length := by rw [lim_len]; omega
          have g3 : (limM ws)[i]? = some (limM ws)[i] := by simp [hli]
          rw [obad_step g1 g3] at hf
          generalize (ds[i]'(by omega)) = dv at hf g4 g1
          have e05 : Ex H H' := e04.trans e5
          have h5 : H' p = some (.lst ((limM ws).map V.int)) := e5 p _ h4
          have bw : betwD dv 0 (limM ws)[i] = (wholeD dv && betwD dv 0 (limM ws)[i]) := by cases dv <;> rfl
          refine s_when (b := !betwD dv 0 (limM ws)[i]) ?_ (fun hb4 H7 e7 => ?_) (fun hb4 H7 e7 => ?_)
          · have t1 : EvT (tNot (tB (tCall (spWhole K) [] E0 (tCons (tOp (rIxL K) (tVar 1) (tVar 2)) tNil)))) [some (.ref a), some (.ref b), some (.int (i : Int)), some (.ref p)] H' (!wholeD dv) :=
              et_not (et_B (ev_call (ea_cons (ev_op (ev_var rfl) (ev_var rfl) (rv_ixL (ex_l e05 hsy) (atI_nat g2))) ea_nil) (sp_whole (dp_ex e05 g4))))
            refine et_is (et_or t1 (b := !betwD dv 0 (limM ws)[i]) fun hw => ?_) ?_
            · have hw' : wholeD dv = true := by simpa using hw
              cases dv with
              | int iv =>
                cases g4
                refine et_is (et_not (et_test (ev_chain ev_c (ev_op (ev_var rfl) (ev_var rfl) (rv_ixL (ex_l e05 hsy) (atI_nat g2))) (ev_op (ev_var rfl) (ev_var rfl) (rv_ixL (sq_of h5) (atI_nat (by rw [List.getElem?_map, g3]; rfl))))))) rfl
              | _ => cases hw'
            · cases dv <;> first | rfl | exact Bool.false_or _
          · have c2 : betwD dv 0 (limM ws)[i] = false := by simpa using hb4
            rw [c2, if_neg Bool.false_ne_true] at hf
            rw [hf] at en
            rw [en] at k
            exact s_retU (eu_tup (ea_cons (ev_var rfl) ea_nil) (by show 1 ≤ 100000; decide)) fun q H8 hq e8 h8 => k _ H8 ((e05.trans e7).trans e8) (.tup (st_of h8) (.cons (.int _) .nil))
          · have c2 : betwD dv 0 (limM ws)[i] = true := by simpa using hb4
            rw [c2, if_pos rfl] at hf
            exact ⟨e5.trans e7, ⟨_, rfl⟩, hf⟩
        · rintro σ' H' ⟨e5, ⟨o2, rfl⟩, hf⟩
          have z1 : ds.drop ((ws.length : Int)).toNat = [] := by
            rw [List.drop_eq_nil_iff]
            omega
          rw [z1] at hf
          have hf' : obad ds (limM ws) 0 = none := hf
          rw [hf'] at en
          rw [en] at k
          exact s_ret (ev_var rfl) fun H6 e6 => k _ H6 ((e04.trans e5).trans e6) (dp_ex ((e04.trans e5).trans e6) (.lst hsy hay))
end
end Lw

namespace Lw
open PySem PySem.Spec PyProof.Rows L2 Evl L3
abbrev sTold : Stmt := top 25
section
variable {P : Program} {w : World} {K : PySem.W.Frag} {mg : Str → Option Value} {base : Heap}
/-- which clause takes which error -/
structure Exm (K : PySem.W.Frag) (CW CO : Addr) : Prop where
  ww : PySem.W.exmOne K (.ref CW) (.ref CW) = some true
  ow : PySem.W.exmOne K (.ref CO) (.ref CW) = some false
  oo : PySem.W.exmOne K (.ref CO) (.ref CO) = some true
  xo : XfC K CO
def RetT (xs : List V) (H : Hp) (Q : VK) : Prop := ∀ p H2, H p = none → Ex H H2 → H2 p = some (.tup xs) → Q (.ref p) H2
def spTold (K : PySem.W.Frag) : Sp := fun vs H Q _ => ∃ (x y : V) (d o : PyData), vs = [x, y] ∧ Dp K H x d ∧ thirds d = true ∧ Dp K H y o ∧ SeqAt.shaped o = true ∧
  (∀ ws : List Wr, d = cD ws → chkD d = none → (∀ xs, normO ws o = .ok xs → RetLD K xs H Q) ∧ ∀ v, normO ws o = .bad v → RetT [v] H Q) ∧ ((∃ v, chkD d = some v) → RetV (.str "write") H Q)
theorem scTo : FnScope ["_law_some", "_law_value", "_law_found", "e"] ["_law_some", "_law_value"] (defScope sTold) := ⟨rfl, rfl, rfl, by decide +kernel, rfl, by decide +kernel, by decide +kernel⟩
theorem ok_told {f fN CW CO fI : Addr} {fd fdN fdI : FuncData} (F : Fun K "_law_told" "_law_told" sTold f fd) (X : Exm K CW CO) (hW : mg "BadWrite" = some (.ref CW)) (TO : ErC P w K mg base "BadOrder" "index" CO fI fdI)
    (FN : Fun K "normal_order" "normal_order" sNorm fN fdN) (bN : Binds K fdN ["conversation", "order"] []) (gN : mg "normal_order" = some (.ref fN)) (GN : FnOk P w K mg base (L2.CX P w) 6 fN fdN ["conversation", "order"] (spNorm K CW CO)) :
    FnOk P w K mg base CX0 7 f fd ["_law_some", "_law_value"] (spTold K) := by
  refine F.ok scTo (fun vs H Q E h => ?_) (fun cdv A outer s H vs Q E hr h => ?_)
  · obtain ⟨x, y, d, o, rfl, _⟩ := h
    rfl
  · obtain ⟨x, y, d, o, rfl, hd, ht, ho, hso, k, kw⟩ := h
    refine ⟨_, pss_cons (ps_tryC (tb := fun W => tAsg (tCallS (spNorm K CW CO) (WE W) (tCons (tVar 0) (tCons (tVar 1) tNil))) (gName 2)) (Wout := fun _ _ _ _ => False)
        (l := [(.ref CW, none, fun _ _ _ => tRet (tC (.str "write"))), (.ref CO, some 3, fun a cls d => tRet (tTup (tCons (tXf a cls d CO "index" (tVar 3)) tNil)))]) rfl rfl takes0
        (fun W pn xe tk _ => pss_one (ps_set (i := 2) scTo.nd rfl (Or.inl rfl) (by exact (pe_callS GN hr rfl gN FN.kp bN (fun σ => passAt tk σ) (by exact (pa_cons (pv 0) (pa_cons (pv 1) pa_nil)))))))
        (.bare ⟨rfl, by decide, Or.inl hW⟩ (fun a oe cls d pn hz hf => pss_one (ps_ret pe_str))
          (.named scTo.nd rfl rfl ⟨rfl, by decide, Or.inl TO.hm⟩ (fun a oe cls d pn hz hf => pss_one (ps_ret (by exact (pe_tup (by exact (pa_cons (by exact (pe_xf X.xo TO.no hz hf (pv 3))) pa_nil)))))) .nil)))
      (pss_one (ps_ret (pv 2))), ?_⟩
    refine ⟨_, rfl, _, rfl, x, y, d, o, rfl, hd, ht, ho, hso, fun ws e0 c0 => ?_, fun v hv => ?_⟩
    · obtain ⟨kok, kbad⟩ := k ws e0 c0
      refine ⟨fun xs en => ?_, fun v en => ?_⟩
      · intro p ys H2 hp e2 h2 hda
        exact s_ret (ev_var rfl) fun H3 e3 => kok xs en p ys H3 hp (e2.trans (ex_del e3)) (e3 p _ h2) (dps_ex (ex_del e3) hda)
      · intro dd H2 e2 hdd h2
        refine ⟨false, X.ow, (fun z => nomatch z), fun _ => ⟨true, X.oo, fun _ a ha => ?_, fun z => nomatch z⟩⟩
        refine ⟨_, rfl, rfl, rfl, dd, _, v, rfl, h2, ?_, by show 1 ≤ sizeLine; decide, fun p hp => ?_⟩
        · show List.lookup ("index" : Str) [(("index" : Str), v)] = some v
          simp [List.lookup]
        · exact kbad v en p _ (fresh_back e2 hp) (e2.trans (Ex.new hp)) upd_same
    · intro dd H2 e2 hdd h2
      refine ⟨true, X.ww, fun _ a ha => ?_, fun z => nomatch z⟩
      exact kw ⟨v, hv⟩ H2 e2
end
end Lw

namespace Lw
open PySem PySem.Spec PyProof.Rows L2 Evl L3
abbrev sRight : Stmt := top 26
/-! ### what is told is small -/
theorem betw_int {d : PyData} {lo hi : Int} (h : betwD d lo hi = true) : ∃ i, d = .int i ∧ lo ≤ i ∧ i ≤ hi := by
  cases d with
  | int i =>
    have h' : (decide (lo ≤ i) && decide (i ≤ hi)) = true := h
    rw [Bool.and_eq_true] at h'
    exact ⟨i, rfl, of_decide_eq_true h'.1, of_decide_eq_true h'.2⟩
  | _ => cases h
theorem obad_ints : ∀ {ds : List PyData} {ls : List Int} {i : Nat}, ds.length = ls.length → (∀ l ∈ ls, l ≤ 2) → obad ds ls i = none → ∀ d ∈ ds, ∃ z, d = .int z ∧ 0 ≤ z ∧ z ≤ 2
  | [], _, _, _, _, _, _, h => nomatch h
  | d :: r, l :: ls, i, hl, hb, h, e, he => by
    have h' : (if betwD d 0 l = true then obad r ls (i + 1) else some i) = none := h
    by_cases c : betwD d 0 l = true
    · rw [if_pos c] at h'
      rcases List.mem_cons.mp he with q | q
      · obtain ⟨z, h1, h2, h3⟩ := betw_int c
        exact ⟨z, by rw [q, h1], h2, Int.le_trans h3 (hb l List.mem_cons_self)⟩
      · exact obad_ints (by simpa using hl) (fun x hx => hb x (List.mem_cons_of_mem _ hx)) h' e q
    · rw [if_neg c] at h'
      cases h'
theorem lim_le {ws : List Wr} : ∀ l ∈ limM ws, 0 ≤ l ∧ l ≤ 2 := fun l h => by
  unfold limM at h
  obtain ⟨j, _, e⟩ := List.mem_map.mp h
  rw [← e]
  split <;> omega
theorem norm_ok {ws : List Wr} {o : PyData} {xs : List PyData} (h : normO ws o = .ok xs) : xs.length = ws.length ∧ ∀ d ∈ xs, ∃ z, d = .int z ∧ 0 ≤ z ∧ z ≤ 2 := by
  cases o with
  | str s =>
    have h' : (if s = "quick" then NO.ok ((limM ws).map .int) else if s = "slow" then .ok (List.replicate ws.length (.int 0)) else .bad .non) = .ok xs := h
    by_cases c : s = "quick"
    · rw [if_pos c] at h'
      injection h' with e
      rw [← e]
      refine ⟨by rw [List.length_map, lim_len], fun d hd => ?_⟩
      obtain ⟨z, hz, q⟩ := List.mem_map.mp hd
      exact ⟨z, q.symm, (lim_le z hz).1, (lim_le z hz).2⟩
    · rw [if_neg c] at h'
      by_cases c2 : s = "slow"
      · rw [if_pos c2] at h'
        injection h' with e
        rw [← e]
        refine ⟨List.length_replicate, fun d hd => ⟨0, (List.mem_replicate.mp hd).2, by decide, by decide⟩⟩
      · rw [if_neg c2] at h'
        cases h'
  | list ds =>
    have h' : (if ds.length = ws.length then (match obad ds (limM ws) 0 with | none => NO.ok ds | some i => .bad (.int (i : Int))) else .bad .non) = .ok xs := h
    by_cases c : ds.length = ws.length
    · rw [if_pos c] at h'
      cases e : obad ds (limM ws) 0 with
      | none =>
        rw [e] at h'
        injection h' with e2
        rw [← e2]
        exact ⟨c, obad_ints (by rw [lim_len]; exact c) (fun l hl => (lim_le l hl).2) e⟩
      | some i =>
        rw [e] at h'
        cases h'
    · rw [if_neg c] at h'
      cases h'
  | _ => cases h
theorem obad_lt : ∀ {ds : List PyData} {ls : List Int} {i k : Nat}, obad ds ls i = some k → k < i + ds.length
  | d :: r, l :: ls, i, k, h => by
    have h' : (if betwD d 0 l = true then obad r ls (i + 1) else some i) = some k := h
    by_cases c : betwD d 0 l = true
    · rw [if_pos c] at h'
      have z := obad_lt h'
      rw [List.length_cons]
      omega
    · rw [if_neg c] at h'
      injection h' with e
      rw [List.length_cons]
      omega
theorem norm_bad {ws : List Wr} {o : PyData} {v : V} (hl : ws.length ≤ 200) (h : normO ws o = .bad v) : v = .non ∨ ∃ k : Nat, v = .int (k : Int) ∧ k ≤ 200 := by
  cases o with
  | str s =>
    have h' : (if s = "quick" then NO.ok ((limM ws).map .int) else if s = "slow" then .ok (List.replicate ws.length (.int 0)) else .bad .non) = .bad v := h
    by_cases c : s = "quick"
    · rw [if_pos c] at h'
      cases h'
    · rw [if_neg c] at h'
      by_cases c2 : s = "slow"
      · rw [if_pos c2] at h'
        cases h'
      · rw [if_neg c2] at h'
        injection h' with e
        exact Or.inl e.symm
  | list ds =>
    have h' : (if ds.length = ws.length then (match obad ds (limM ws) 0 with | none => NO.ok ds | some i => .bad (.int (i : Int))) else .bad .non) = .bad v := h
    by_cases c : ds.length = ws.length
    · rw [if_pos c] at h'
      cases e : obad ds (limM ws) 0 with
      | none =>
        rw [e] at h'
        cases h'
      | some i =>
        rw [e] at h'
        injection h' with e2
        have z := obad_lt e
        exact Or.inr ⟨i, e2.symm, by omega⟩
    · rw [if_neg c] at h'
      injection h' with e
      exact Or.inl e.symm
  | _ =>
    injection h with e
    exact Or.inl e.symm
theorem nice_int {z : Int} (h0 : 0 ≤ z) (h1 : z ≤ 1000000000000000000) : niceD (.int z) = true ∧ (PyData.int z).depth ≤ 0 ∧ nodes (.int z) ≤ 1 :=
  ⟨decide_eq_true (by omega), Nat.le_refl _, Nat.le_refl _⟩
theorem nice_told {ws : List Wr} {o : PyData} (hl : ws.length ≤ 200) : Nice (nD (normO ws o)) := by
  cases e : normO ws o with
  | ok xs =>
    obtain ⟨h1, h2⟩ := norm_ok e
    refine (nice_list (k := 0) (m := 1) (fun x hx => ?_) (by decide) (by omega)).1
    obtain ⟨z, rfl, a, b⟩ := h2 x hx
    exact nice_int a (by omega)
  | bad v =>
    refine (nice_list (xs := [vD v]) (k := 0) (m := 1) (fun x hx => ?_) (by decide) (by show 1 * 1 ≤ 1100; decide)).2
    have ex : x = vD v := by simpa using hx
    rw [ex]
    rcases norm_bad hl e with rfl | ⟨k, rfl, hk⟩
    · exact ⟨rfl, Nat.le_refl _, Nat.le_refl _⟩
    · exact nice_int (by omega) (by omega)
section
variable {P : Program} {w : World} {K : PySem.W.Frag} {mg : Str → Option Value} {base : Heap}
theorem wD_inj {a b : Wr} (h : wD a = wD b) : a = b := by
  obtain ⟨a1, a2, a3⟩ := a
  obtain ⟨b1, b2, b3⟩ := b
  have h' : PyData.tuple [.int a1, .int a2, .str a3] = .tuple [.int b1, .int b2, .str b3] := h
  injection h' with q
  injection q with p1 q
  injection q with p2 q
  injection q with p3 q
  injection p1 with p1
  injection p2 with p2
  injection p3 with p3
  rw [p1, p2, p3]
theorem wDs_inj : ∀ {a b : List Wr}, a.map wD = b.map wD → a = b
  | [], [], _ => rfl
  | [], _ :: _, h => by cases h
  | _ :: _, [], h => by cases h
  | u :: r, u' :: r', h => by
    have h' : wD u :: r.map wD = wD u' :: r'.map wD := h
    injection h' with h1 h2
    rw [wD_inj h1, wDs_inj h2]
theorem cD_inj {a b : List Wr} (h : cD a = cD b) : a = b := by
  have z : PyData.list (a.map wD) = .list (b.map wD) := h
  injection z with z
  exact wDs_inj z
/-- some value that is such data, behind what stood -/
def EvD (K : PySem.W.Frag) (te : TE) (σ : L2.St) (H : Hp) (d : PyData) : Prop := ∀ H1, Ex H H1 → ∀ Q : VK, (∀ z H2, Ex H1 H2 → Dp K H2 z d → Q z H2) → te σ H1 Q
theorem retLD_D {xs : List PyData} {H : Hp} {Q : VK} (k : ∀ z H2, Ex H H2 → Dp K H2 z (.list xs) → Q z H2) : RetLD K xs H Q := fun p ys H2 hp e h hda => k _ H2 (e.trans ex_del_self) (.lst (sq_of h) (dps_ex ex_del_self hda))
theorem dp_v {H : Hp} {v : V} {ws : List Wr} {o : PyData} (hl : ws.length ≤ 200) (h : normO ws o = .bad v) : Dp K H v (vD v) := by
  rcases norm_bad hl h with rfl | ⟨k, rfl, _⟩
  · exact .non
  · exact .int _
theorem evd_told {x y : V} {ws : List Wr} {o : PyData} {σ : L2.St} {H : Hp} (h0 : σ[0]? = some (some x)) (h1 : σ[1]? = some (some y)) (hd : Dp K H x (cD ws)) (hl : ws.length ≤ 200) (hc : chkD (cD ws) = none) (ho : Dp K H y o) (hs : SeqAt.shaped o = true) :
    EvD K (tCall (spTold K) [] E0 (tCons (tVar 0) (tCons (tVar 1) tNil))) σ H (nD (normO ws o)) := fun H1 e Q q =>
  ⟨x, h0, y, h1, x, y, _, o, rfl, dp_ex e hd, third_wD ws, dp_ex e ho, hs, fun ws' e0 _ => by
    have e1 : ws' = ws := (cD_inj e0).symm
    rw [e1]
    refine ⟨fun xs en => ?_, fun v en => ?_⟩
    · rw [en] at q
      exact retLD_D q
    · rw [en] at q
      exact fun p H2 hp e2 h2 => q _ H2 e2 (.tup (st_of h2) (.cons (dp_v hl en) .nil)), fun ⟨v, hv⟩ => by rw [hc] at hv; cases hv⟩
/-- one look at a conversation and what stands for its order -/
def spRight (K : PySem.W.Frag) : Sp := fun vs H Q _ => ∃ (x y : V) (ws : List Wr) (o : PyData), vs = [x, y] ∧ Dp K H x (cD ws) ∧ ws.length ≤ 200 ∧ (∀ w ∈ ws, okW w = true) ∧ Nice (cD ws) ∧ Dp K H y o ∧ Nice o ∧ RetV (.bl true) H Q
theorem scRi : FnScope ["_law_some", "_law_value", "_law_kept", "_law_due_here", "_law_found", "_law_one"] ["_law_some", "_law_value"] (defScope sRight) := ⟨rfl, rfl, rfl, by decide +kernel, rfl, by decide +kernel, by decide +kernel⟩
theorem ok_right {f fD fT : Addr} {fd fdD fdT : FuncData} (F : Fun K "_law_right" "_law_right" sRight f fd) (T : Txt K mg) (hRe : mg "repr" = none)
    (FD : Fun K "_law_due" "_law_due" sDue fD fdD) (bD : Binds K fdD ["_law_some", "_law_value"] []) (gD : mg "_law_due" = some (.ref fD)) (GD : FnOk P w K mg base CX0 2 fD fdD ["_law_some", "_law_value"] (spDue K))
    (FT : Fun K "_law_told" "_law_told" sTold fT fdT) (bT : Binds K fdT ["_law_some", "_law_value"] []) (gT : mg "_law_told" = some (.ref fT)) (GT : FnOk P w K mg base CX0 7 fT fdT ["_law_some", "_law_value"] (spTold K)) :
    FnG P w K mg base 8 f fd ["_law_some", "_law_value"] (spRight K) := by
  refine okG F scRi (fun vs H Q E h => ?_) (fun cdv A outer s H vs Q E hgu hr h => ?_)
  · obtain ⟨x, y, ws, o, rfl, _⟩ := h
    rfl
  · obtain ⟨x, y, ws, o, rfl, hd, hlen, hok, nw, ho, no, k⟩ := h
    have hr2 : Room 2 _ := hr.mono (by decide)
    have hc := good_chk hlen hok
    have nt : Nice (nD (normO ws o)) := nice_told hlen
    have hrep : ∀ {σ : L2.St} {H' : Hp} {i : Nat} {v : V} {d : PyData}, σ[i]? = some (some v) → Dp K H' v d → Nice d → Ev (tCB (rRepr K) (tCons (tVar i) tNil)) σ H' (.str d.shown) := fun h1 h2 h3 =>
      ev_cb (ea_cons (ev_var h1) ea_nil) fun H1 e Q q => ⟨_, _, rfl, dp_ex e h2, h3.shw, q H1 (Ex.refl H1)⟩
    have hkept : ∀ {σ : L2.St} {H' : Hp}, σ[0]? = some (some x) → σ[1]? = some (some y) → Ex H H' → EvL (tLst (tCons (tCB (rRepr K) (tCons (tVar 0) tNil)) (tCons (tCB (rRepr K) (tCons (tVar 1) tNil)) tNil))) σ H' [.str (cD ws).shown, .str o.shown] := fun h0 h1 e =>
      el_lst (ea_cons (hrep h0 (dp_ex e hd) nw) (ea_cons (hrep h1 (dp_ex e ho) no) ea_nil)) (by show 2 ≤ 100000; decide)
    have hret : ∀ {σ : L2.St} {H' : Hp} {pk : Addr} {z : V}, σ[0]? = some (some x) → σ[1]? = some (some y) → σ[2]? = some (some (.ref pk)) → σ[3]? = some (some z) → Ex H H' → H' pk = some (.lst [.str (cD ws).shown, .str o.shown]) → Dp K H' z (nD (normO ws o)) →
        tRet (tAndV (tOp (rEqV K) (tLst (tCons (tCB (rRepr K) (tCons (tVar 0) tNil)) (tCons (tCB (rRepr K) (tCons (tVar 1) tNil)) tNil))) (tVar 2))
          (tOp (rEqD K) (tCall (spTold K) [] E0 (tCons (tVar 0) (tCons (tVar 1) tNil))) (tVar 3))) { nx := fun _ H' => Q .non H', rt := Q } σ H' := by
      intro σ H' pk z h0 h1 h2 h3 e hk hz
      unfold tRet tAndV tOp
      refine hkept h0 h1 e H' (Ex.refl H') _ fun q H1 hq e1 hq1 => ?_
      refine ⟨_, h2, 59, by decide, Or.inl ⟨q, pk, _, _, rfl, rfl, sq_of hq1, sq_of (e1 pk _ hk), .cons (Or.inl ⟨rfl, rfl⟩) (.cons (Or.inl ⟨rfl, rfl⟩) .nil)⟩, true, rfl, ?_⟩
      refine evd_told h0 h1 (dp_ex (e.trans e1) hd) hlen hc (dp_ex (e.trans e1) ho) no.shaped H1 (Ex.refl H1) _ fun z2 H2 e2 hz2 => ?_
      refine ⟨_, h3, _, _, hz2, dp_ex (e1.trans e2) hz, nt.shaped, nt.shaped, ?_⟩
      rw [nt.refl]
      exact k H2 ((e.trans e1).trans e2)
    have hne : ∀ {σ : L2.St} {H' : Hp} {i j : Nat} {u v : V}, σ[i]? = some (some u) → σ[j]? = some (some v) → Dp K H' u (nD (normO ws o)) → Dp K H' v (nD (normO ws o)) → EvT (tTest (tOp (rNeD K) (tVar i) (tVar j))) σ H' false := fun h1 h2 h3 h4 =>
      et_is (et_test (ev_op (ev_var h1) (ev_var h2) (rv_neD h3 h4 nt.shaped nt.shaped))) (by rw [nt.refl] <;> rfl)
    have hne2 : ∀ {σ : L2.St} {H' : Hp} {u : V}, σ[0]? = some (some x) → σ[1]? = some (some y) → σ[4]? = some (some u) → Ex H H' → Dp K H' u (nD (normO ws o)) → EvT (tTest (tOp (rNeD K) (tVar 4) (tCall (spTold K) [] E0 (tCons (tVar 0) (tCons (tVar 1) tNil))))) σ H' false := by
      intro σ H' u h0 h1 h4 e hu H1 e1 Q' q
      refine ⟨_, h4, ?_⟩
      refine evd_told h0 h1 (dp_ex (e.trans e1) hd) hlen hc (dp_ex (e.trans e1) ho) no.shaped H1 (Ex.refl H1) _ fun z2 H2 e2 hz2 => ?_
      refine ⟨_, _, dp_ex (e1.trans e2) hu, hz2, nt.shaped, nt.shaped, _, rfl, ?_⟩
      rw [nt.refl]
      exact q H2 e2
    have hcmp : ∀ {σ : L2.St} {H' : Hp} {tl : TE}, EvL tl σ H' [] → EvT (tTest (tOp (rNeD K) tl (tLst tNil))) σ H' false := fun hl =>
      et_test (ev_opLL hl (el_lst ea_nil (by show 0 ≤ 100000; decide)) fun p q H1 h1 h2 _ => rv_neD (.lst (sq_of h1) .nil) (.lst (sq_of h2) .nil) rfl rfl)
    cases en : normO ws o with
    | ok xs =>
      refine ⟨_, pss_cons (ps_set (i := 2) scRi.nd rfl (Or.inl rfl) (pe_lst (pa_cons (pe_callB (call_reprD hgu hr.units) (by rfl) hRe boot_repr (pa_cons (pv 0) pa_nil)) (pa_cons (pe_callB (call_reprD hgu hr.units) (by rfl) hRe boot_repr (pa_cons (pv 1) pa_nil)) pa_nil))))
        (pss_cons (ps_set (i := 3) scRi.nd rfl (Or.inl rfl) (pe_call GD hr2 rfl gD FD.kp bD .nil pass0 (pa_cons (pv 0) (pa_cons (pv 1) pa_nil))))
        (pss_cons (ps_set (i := 4) scRi.nd rfl (Or.inl rfl) (pe_call GT hr rfl gT FT.kp bT .nil pass0 (pa_cons (pv 0) (pa_cons (pv 1) pa_nil))))
        (pss_cons (ps_if (PW.pt (pw_or (pt_cmpR (op_neD hr.units) (pv 4) (pv 3) (nomark _))
            (pw_or (pt_cmpR (op_neD hr.units) (pe_lc (own := [("_law_one", 5)]) (g := gName 5) (tt := tB (tCB (rIsi K) (tCons (tVar 5) (tCons (tC (.ty "bool")) tNil)))) (te := tVar 5) rfl scRi.nd (pi_list (pv 4))
                (blkOk_by (N := ["_law_some", "_law_value", "_law_kept", "_law_due_here", "_law_found", "_law_one"]) (sc := defScope sRight) (by decide +kernel))
                (fun _ _ _ _ _ => pg_name (i := 5) scRi.nd rfl (Or.inl rfl)) (fun _ _ _ _ _ => pts_one (pt_val (pe_callB call_isi (by rfl) T.isi boot_isinstance (pa_cons (pv 5) (pa_cons (pe_ty "bool" T.bool) pa_nil))))) (fun _ _ _ _ _ => pv 5)) (pe_lst pa_nil) (nomark _))
              (pw_or1 (pt_cmpR (op_neD hr.units) (pv 4) (pe_call GT hr rfl gT FT.kp bT .nil pass0 (pa_cons (pv 0) (pa_cons (pv 1) pa_nil))) (nomark _))))))
          (pss_one (ps_ret pe_bl)) pss_nil)
        (pss_cons (ps_if (pt_val (pe_callB call_isi (by rfl) T.isi boot_isinstance (pa_cons (pv 4) (pa_cons (pe_ty "list" T.list) pa_nil)))) (pss_one (ps_expr (pe_bm PySem.F.plainAttrs_list PySem.F.slot_list_append PySem.F.type_list_append mt_append (pv 4) (pa_cons pe_int pa_nil)))) pss_nil)
        (pss_one (ps_ret (pe_and (pe_cmpR (op_eqV hr.units) (pe_lst (pa_cons (pe_callB (call_reprD hgu hr.units) (by rfl) hRe boot_repr (pa_cons (pv 0) pa_nil)) (pa_cons (pe_callB (call_reprD hgu hr.units) (by rfl) hRe boot_repr (pa_cons (pv 1) pa_nil)) pa_nil))) (pv 2) (nomark _))
          (pe_one (pe_cmpR (op_eqD hr.units) (pe_call GT hr rfl gT FT.kp bT .nil pass0 (pa_cons (pv 0) (pa_cons (pv 1) pa_nil))) (pv 3) (nomark _)))))))))), ?_⟩
      obtain ⟨hxl, hxi⟩ := norm_ok en
      refine q_asgL (hkept rfl rfl (Ex.refl H)) fun pk H1 hpk e1 hk => ?_
      refine ⟨_, rfl, _, rfl, x, y, ws, o, rfl, dp_ex e1 hd, hlen, dp_ex e1 ho, no.shaped, fun z H2 e2 hz => ?_⟩
      refine ⟨_, rfl, _, rfl, x, y, _, o, rfl, dp_ex (e1.trans e2) hd, third_wD ws, dp_ex (e1.trans e2) ho, no.shaped, fun ws' e0 _ => ?_, fun ⟨v, hv⟩ => by rw [hc] at hv; cases hv⟩
      have e0' := cD_inj e0
      subst e0'
      refine ⟨fun xs' en' => ?_, fun v en' => by rw [en] at en'; cases en'⟩
      have exx : xs = xs' := by
        rw [en] at en'
        injection en'
      subst exx
      intro p ys H3 hp e3 h3 hda
      have e03 : Ex H H3 := (e1.trans e2).trans (e3.trans ex_del_self)
      have hz3 : Dp K (del H3 p) z (nD (normO ws o)) := dp_ex e3 hz
      have hk3 : (del H3 p) pk = some (.lst [.str (cD ws).shown, .str o.shown]) := e3 pk _ (e2 pk _ hk)
      have hf3 : Dp K H3 (.ref p) (nD (normO ws o)) := by
        rw [en]
        exact .lst (sq_of h3) (dps_ex ex_del_self hda)
      refine q_when (b := false) (et_is (et_or (a := false) (b := false) (hne rfl rfl hf3 (dp_ex ex_del_self hz3)) fun _ => et_is (et_or (a := false) (b := false) (hcmp ?_) fun _ => hne2 rfl rfl rfl e03 hf3) rfl) rfl) (fun hb => nomatch hb) fun _ H4 e4 => ?_
      · have z := el_lcL (K := K) (σ := ((((start ["_law_some", "_law_value", "_law_kept", "_law_due_here", "_law_found", "_law_one"] [x, y]).set 2 (some (.ref pk))).set 3 (some z)).set 4 (some (.ref p)))) (H := H3) (xs := ys) (a := p) (tl := tVar 4) (j := 5) (vs := [5]) (t := tB (tCB (rIsi K) (tCons (tVar 5) (tCons (tC (.ty "bool")) tNil)))) (te := tVar 5)
          (fun _ => false) (fun _ => .non) (ev_var rfl) (sq_of h3) (by rw [dps_len' hda]; omega) (fun _ => rfl) (fun i u H5 e5 hu => by
            obtain ⟨d, g1, g2⟩ := dps_get hda hu
            obtain ⟨zi, rfl, _, _⟩ := hxi d (List.mem_of_getElem? g1)
            exact et_B (ev_isi (ev_var rfl) (dp_ex (ex_del_self.trans e5) g2) (kit_bool _))) (fun _ _ _ _ _ hf => nomatch hf)
        have ee : given ys.length (fun _ => false) (fun _ => V.non) = [] := by
          unfold given
          rw [List.filter_eq_nil_iff.mpr (fun _ _ => Bool.false_ne_true)] <;> rfl
        rw [ee] at z
        exact z
      have h4 : H4 p = some (.lst ys) := e4 p _ h3
      refine q_when (b := true) (et_B (ev_isi (ev_var rfl) (dp_ex e4 (by rw [en] at hf3; exact hf3)) (kit_list _))) (fun _ H5 e5 => ?_) (fun hb => nomatch hb)
      have h5 : H5 p = some (.lst ys) := e5 p _ h4
      refine s_app h5 (ev_var rfl) ev_c (by rw [dps_len' hda]; omega) fun H6 e6 => ?_
      have e36 : Ex (del H3 p) (upd H6 p (.lst (ys ++ [.int 5]))) := by
        have q1 : Ex (del H3 p) (del H6 p) := ex_del ((e4.trans e5).trans e6)
        have q2 : Ex (del H6 p) (upd H6 p (.lst (ys ++ [.int 5]))) := by
          rw [← del_upd (H := H6) (l := p) (o := .lst (ys ++ [.int 5]))]
          exact ex_del_self
        exact q1.trans q2
      exact hret rfl rfl rfl rfl (((e1.trans e2).trans e3).trans e36) (e36 pk _ hk3) (dp_ex e36 hz3)
    | bad v =>
      refine ⟨_, pss_cons (ps_set (i := 2) scRi.nd rfl (Or.inl rfl) (pe_lst (pa_cons (pe_callB (call_reprD hgu hr.units) (by rfl) hRe boot_repr (pa_cons (pv 0) pa_nil)) (pa_cons (pe_callB (call_reprD hgu hr.units) (by rfl) hRe boot_repr (pa_cons (pv 1) pa_nil)) pa_nil))))
        (pss_cons (ps_set (i := 3) scRi.nd rfl (Or.inl rfl) (pe_call GD hr2 rfl gD FD.kp bD .nil pass0 (pa_cons (pv 0) (pa_cons (pv 1) pa_nil))))
        (pss_cons (ps_set (i := 4) scRi.nd rfl (Or.inl rfl) (pe_call GT hr rfl gT FT.kp bT .nil pass0 (pa_cons (pv 0) (pa_cons (pv 1) pa_nil))))
        (pss_cons (ps_if (PW.pt (pw_or (pt_cmpR (op_neD hr.units) (pv 4) (pv 3) (nomark _))
            (pw_or (pt_cmpR (op_neD hr.units) (pe_lc (own := [("_law_one", 5)]) (g := gName 5) (tt := tB (tCB (rIsi K) (tCons (tVar 5) (tCons (tC (.ty "bool")) tNil)))) (te := tVar 5) rfl scRi.nd (pi_tup (pv 4))
                (blkOk_by (N := ["_law_some", "_law_value", "_law_kept", "_law_due_here", "_law_found", "_law_one"]) (sc := defScope sRight) (by decide +kernel))
                (fun _ _ _ _ _ => pg_name (i := 5) scRi.nd rfl (Or.inl rfl)) (fun _ _ _ _ _ => pts_one (pt_val (pe_callB call_isi (by rfl) T.isi boot_isinstance (pa_cons (pv 5) (pa_cons (pe_ty "bool" T.bool) pa_nil))))) (fun _ _ _ _ _ => pv 5)) (pe_lst pa_nil) (nomark _))
              (pw_or1 (pt_cmpR (op_neD hr.units) (pv 4) (pe_call GT hr rfl gT FT.kp bT .nil pass0 (pa_cons (pv 0) (pa_cons (pv 1) pa_nil))) (nomark _))))))
          (pss_one (ps_ret pe_bl)) pss_nil)
        (pss_cons (ps_if (pt_val (pe_callB call_isi (by rfl) T.isi boot_isinstance (pa_cons (pv 4) (pa_cons (pe_ty "list" T.list) pa_nil)))) (pss_one (ps_expr (pe_bm PySem.F.plainAttrs_list PySem.F.slot_list_append PySem.F.type_list_append mt_append (pv 4) (pa_cons pe_int pa_nil)))) pss_nil)
        (pss_one (ps_ret (pe_and (pe_cmpR (op_eqV hr.units) (pe_lst (pa_cons (pe_callB (call_reprD hgu hr.units) (by rfl) hRe boot_repr (pa_cons (pv 0) pa_nil)) (pa_cons (pe_callB (call_reprD hgu hr.units) (by rfl) hRe boot_repr (pa_cons (pv 1) pa_nil)) pa_nil))) (pv 2) (nomark _))
          (pe_one (pe_cmpR (op_eqD hr.units) (pe_call GT hr rfl gT FT.kp bT .nil pass0 (pa_cons (pv 0) (pa_cons (pv 1) pa_nil))) (pv 3) (nomark _)))))))))), ?_⟩
      refine q_asgL (hkept rfl rfl (Ex.refl H)) fun pk H1 hpk e1 hk => ?_
      refine ⟨_, rfl, _, rfl, x, y, ws, o, rfl, dp_ex e1 hd, hlen, dp_ex e1 ho, no.shaped, fun z H2 e2 hz => ?_⟩
      refine ⟨_, rfl, _, rfl, x, y, _, o, rfl, dp_ex (e1.trans e2) hd, third_wD ws, dp_ex (e1.trans e2) ho, no.shaped, fun ws' e0 _ => ?_, fun ⟨v, hv⟩ => by rw [hc] at hv; cases hv⟩
      have e0' := cD_inj e0
      subst e0'
      refine ⟨(fun xs' en' => by rw [en] at en'; cases en'), fun v' en' => ?_⟩
      have exx : v = v' := by
        rw [en] at en'
        injection en'
      subst exx
      intro p H3 hp e3 h3
      have e03 : Ex H H3 := (e1.trans e2).trans e3
      have hf3 : Dp K H3 (.ref p) (nD (normO ws o)) := by
        rw [en]
        exact .tup (st_of h3) (.cons (dp_v hlen en) .nil)
      refine q_when (b := false) (et_is (et_or (a := false) (b := false) (hne rfl rfl hf3 (dp_ex e3 hz)) fun _ => et_is (et_or (a := false) (b := false) (hcmp ?_) fun _ => hne2 rfl rfl rfl e03 hf3) rfl) rfl) (fun hb => nomatch hb) fun _ H4 e4 => ?_
      · have z := el_lcT (K := K) (σ := ((((start ["_law_some", "_law_value", "_law_kept", "_law_due_here", "_law_found", "_law_one"] [x, y]).set 2 (some (.ref pk))).set 3 (some z)).set 4 (some (.ref p)))) (H := H3) (xs := [v]) (a := p) (tl := tVar 4) (j := 5) (vs := [5]) (t := tB (tCB (rIsi K) (tCons (tVar 5) (tCons (tC (.ty "bool")) tNil)))) (te := tVar 5)
          (fun _ => false) (fun _ => .non) (ev_var rfl) (st_of h3) (by show 1 ≤ 40000; decide) (fun _ => rfl) (fun i u H5 e5 hu => by
            have eu : u = v := by
              cases i with
              | zero => simpa using hu.symm
              | succ i => simp at hu
            have du : Dp K H5 u (vD v) := by
              rw [eu]
              exact dp_v hlen en
            have nb : isBoolD (vD v) = false := by
              rcases norm_bad hlen en with rfl | ⟨k, rfl, _⟩ <;> rfl
            exact et_is (et_B (ev_isi (ev_var rfl) du (kit_bool _))) nb) (fun _ _ _ _ _ hf => nomatch hf)
        exact z
      refine q_when (b := false) (et_B (ev_isi (ev_var rfl) (dp_ex e4 (by rw [en] at hf3; exact hf3)) (kit_list _))) (fun hb => nomatch hb) fun _ H5 e5 => ?_
      exact hret rfl rfl rfl rfl ((e03.trans e4).trans e5) (e5 pk _ (e4 pk _ (e3 pk _ (e2 pk _ hk)))) (dp_ex ((e3.trans e4).trans e5) hz)
end
end Lw

namespace Lw
open PySem PySem.Spec PyProof.Rows L2 Evl L3
abbrev sLaw : Stmt := top 27
/-- a value that stands in a drawn list -/
def Leaf (K : PySem.W.Frag) (G : Hp) (v : V) : Prop := ∃ d, Dp K G v d ∧ niceD d = true ∧ d.depth ≤ 1 ∧ nodes d ≤ 2
section
variable {P : Program} {w : World} {K : PySem.W.Frag} {mg : Str → Option Value} {base : Heap}
theorem leaf_int {G : Hp} {i : Int} (h : i.natAbs < 10 ^ 50) : Leaf K G (.int i) := ⟨_, .int i, decide_eq_true h, Nat.zero_le _, by show 1 ≤ 2; decide⟩
theorem Leaf.ex {G G1 : Hp} {v : V} (h : Leaf K G v) (e : Ex G G1) : Leaf K G1 v := by
  obtain ⟨d, h1, h2⟩ := h
  exact ⟨d, dp_ex e h1, h2⟩
theorem leaves : ∀ {G : Hp} {xs : List V}, (∀ v ∈ xs, Leaf K G v) → ∃ ds, DpAll K G xs ds ∧ ∀ d ∈ ds, niceD d = true ∧ d.depth ≤ 1 ∧ nodes d ≤ 2
  | _, [], _ => ⟨[], .nil, fun _ h => nomatch h⟩
  | G, v :: r, h => by
    obtain ⟨d, h1, h2⟩ := h v List.mem_cons_self
    obtain ⟨ds, h3, h4⟩ := leaves (xs := r) fun x hx => h x (List.mem_cons_of_mem _ hx)
    exact ⟨d :: ds, .cons h1 h3, fun x hx => (List.mem_cons.mp hx).elim (fun q => q ▸ h2) (h4 x)⟩
/-- small data -/
def Sm (K : PySem.W.Frag) (G : Hp) (v : V) : Prop := ∃ d, Dp K G v d ∧ Nice d
theorem Sm.ex {G G1 : Hp} {v : V} (h : Sm K G v) (e : Ex G G1) : Sm K G1 v := by
  obtain ⟨d, h1, h2⟩ := h
  exact ⟨d, dp_ex e h1, h2⟩
theorem Leaf.sm {G : Hp} {v : V} (h : Leaf K G v) : Sm K G v := by
  obtain ⟨d, h1, h2, h3, h4⟩ := h
  exact ⟨d, h1, h2, by omega, by omega⟩
theorem sm_list {G : Hp} {a : Addr} {xs : List V} (hx : SqL K G a xs) (h : ∀ v ∈ xs, Leaf K G v) (hl : xs.length ≤ 500) : Sm K G (.ref a) := by
  obtain ⟨ds, h1, h2⟩ := leaves h
  exact ⟨_, .lst hx h1, (nice_list h2 (by decide) (by have := dps_len' h1; omega)).1⟩
theorem sm_tup {G : Hp} {a : Addr} {xs : List V} (hx : SqT K G a xs) (h : ∀ v ∈ xs, Leaf K G v) (hl : xs.length ≤ 500) : Sm K G (.ref a) := by
  obtain ⟨ds, h1, h2⟩ := leaves h
  exact ⟨_, .tup hx h1, (nice_list h2 (by decide) (by have := dps_len' h1; omega)).2⟩
theorem nice_conv {wd : Int} {ws : List Wr} (hw : 0 ≤ wd ∧ wd ≤ 1000000) (h : ∀ x ∈ ws, okS wd x) (hl : ws.length ≤ 200) : Nice (cD ws) := by
  refine (nice_list (xs := ws.map wD) (k := 1) (m := 4) (fun x hx => ?_) (by decide) (by rw [List.length_map]; omega)).1
  obtain ⟨u, hu, e⟩ := List.mem_map.mp hx
  rw [← e]
  obtain ⟨h1, h2⟩ := h u hu
  have h1' : (betwD (.int u.1) 0 1 && (betwD (.int u.2.1) 1 1000000000000000000 && modeD (.str u.2.2))) = true := h1
  simp only [Bool.and_eq_true] at h1'
  obtain ⟨a1, a2, a3⟩ := h1'
  obtain ⟨i, e1, b1, b2⟩ := betw_int a1
  injection e1 with e1
  obtain ⟨j, e2, c1, c2⟩ := betw_int a2
  injection e2 with e2
  have m3 : niceD (.str u.2.2) = true := by
    have z : (decide (u.2.2 = "plain") || decide (u.2.2 = "push") || decide (u.2.2 = "more")) = true := a3
    simp only [Bool.or_eq_true, decide_eq_true_eq] at z
    rcases z with (z | z) | z <;> rw [z] <;> decide +kernel
  refine ⟨?_, ?_, ?_⟩
  · show (niceD (.int u.1) && (niceD (.int u.2.1) && (niceD (.str u.2.2) && true))) = true
    rw [m3, e1, e2, (nice_int b1 (by omega)).1, (nice_int (by omega) c2).1] <;> rfl
  · show max (PyData.int u.1).depth (max (PyData.int u.2.1).depth (max (PyData.str u.2.2).depth 0)) + 1 ≤ 1
    exact Nat.le_refl _
  · show 1 + (1 + (1 + 0)) + 1 ≤ 4
    decide
theorem sp_right {x y : V} {ws : List Wr} {H : Hp} (hd : Dp K H x (cD ws)) (hl : ws.length ≤ 200) (hok : ∀ w ∈ ws, okW w = true) (nw : Nice (cD ws)) (hy : Sm K H y) : SpV (spRight K) [x, y] H (.bl true) := fun H1 e Q q E => by
  obtain ⟨d, h1, h2⟩ := hy
  exact ⟨x, y, ws, d, rfl, dp_ex e hd, hl, hok, nw, dp_ex e h1, h2, fun H2 e2 => q H2 e2⟩
/-- what is no conversation -/
theorem tw_go {x y : V} {d o : PyData} {σ : L2.St} {H : Hp} {tx ty : TE} (hx : Ev tx σ H x) (hy : Ev ty σ H y) (hd : Dp K H x d) (ht : thirds d = true) (hc : ∃ v, chkD d = some v) (ho : Dp K H y o) (hs : SeqAt.shaped o = true) :
    EvT (tTest (tOp (rNeD K) (tCall (spTold K) [] E0 (tCons tx (tCons ty tNil))) (tC (.str "write")))) σ H false := by
  refine et_is (et_test (ev_op (ev_call (ea_cons hx (ea_cons hy ea_nil)) (z := .str "write") fun H1 e Q q E => ?_) ev_c (rv_neD (.str "write") (.str "write") (by decide +kernel) (by decide +kernel)))) (by decide +kernel)
  refine ⟨x, y, d, o, rfl, dp_ex e hd, ht, dp_ex e ho, hs, fun ws e0 c => ?_, fun _ => fun H2 e2 => q H2 e2⟩
  obtain ⟨v, hv⟩ := hc
  rw [hv] at c
  cases c
theorem fbad_app {ws : List Wr} {d : PyData} (h : ∀ w ∈ ws, okW w = true) (hd : isWD d = false) : ∀ i, fbad (ws.map wD ++ [d]) i = some (i + ws.length) := by
  induction ws with
  | nil =>
    intro i
    show (if isWD d = true then fbad [] (i + 1) else some i) = some (i + 0)
    rw [hd, if_neg Bool.false_ne_true] <;> rfl
  | cons u r ih =>
    intro i
    show (if isWD (wD u) = true then fbad (r.map wD ++ [d]) (i + 1) else some i) = some (i + (r.length + 1))
    rw [isWD_wD, h u List.mem_cons_self, if_pos rfl, ih fun v hv => h v (List.mem_cons_of_mem _ hv)]
    congr 1
    omega
/-- where the law stands within a turn: g the bag, ps the conversation, pg the drawn order, pv the values -/
structure Stand (K : PySem.W.Frag) (H0 : Hp) (g ps pg pv : Addr) (ws : List Wr) (L : List Int) (H : Hp) (vals : List V) (n : Nat) : Prop where
  at_ : H pv = some (.lst vals)
  sm : ∀ v ∈ vals, Sm K (del2 H g pv) v
  conv : ∃ xs, (del2 H g pv) ps = some (.lst xs) ∧ DpAll K (del2 H g pv) xs (ws.map wD)
  good : (del2 H g pv) pg = some (.lst (L.map V.int))
  bag : BagAt H g n
  ex0 : Ex H0 (del2 H g pv)
  ne : pv ≠ g
section
variable {H0 H H1 : Hp} {g ps pg pw : Addr} {ws : List Wr} {L : List Int} {vals : List V} {n m : Nat}
theorem Stand.go (S : Stand K H0 g ps pg pw ws L H vals n) (e : Ex (del H g) (del H1 g)) (b : BagAt H1 g m) : Stand K H0 g ps pg pw ws L H1 vals m where
  at_ := del_at e S.at_ S.ne
  sm := fun v hv => (S.sm v hv).ex (ex2g e)
  conv := by
    obtain ⟨xs, h1, h2⟩ := S.conv
    exact ⟨xs, ex2g e _ _ h1, dps_ex (ex2g e) h2⟩
  good := ex2g e _ _ S.good
  bag := b
  ex0 := S.ex0.trans (ex2g e)
  ne := S.ne
theorem Stand.ex (S : Stand K H0 g ps pg pw ws L H vals n) (e : Ex H H1) : Stand K H0 g ps pg pw ws L H1 vals n := S.go (ex_del e) (S.bag.ex e)
theorem Stand.app (S : Stand K H0 g ps pg pw ws L H vals n) {v : V} (h : Sm K (del2 H g pw) v) : Stand K H0 g ps pg pw ws L (upd H pw (.lst (vals ++ [v]))) (vals ++ [v]) n where
  at_ := upd_same
  sm := fun u hu => by
    rw [del2_upd]
    rcases List.mem_append.mp hu with z | z
    · exact S.sm u z
    · have e : u = v := by simpa using z
      rw [e]
      exact h
  conv := by
    rw [del2_upd]
    exact S.conv
  good := by
    rw [del2_upd]
    exact S.good
  bag := by
    obtain ⟨d, s, c, h1, h2⟩ := S.bag
    exact ⟨d, s, c, by rw [upd_ne S.ne.symm]; exact h1, h2⟩
  ex0 := by
    rw [del2_upd]
    exact S.ex0
  ne := S.ne
theorem Stand.dp (S : Stand K H0 g ps pg pw ws L H vals n) : Dp K H (.ref ps) (cD ws) := by
  obtain ⟨xs, h1, h2⟩ := S.conv
  exact .lst (sq_of (ex2_self _ _ h1)) (dps_ex ex2_self h2)
theorem Stand.gd (S : Stand K H0 g ps pg pw ws L H vals n) : H pg = some (.lst (L.map V.int)) := ex2_self _ _ S.good
/-- an object that was not there is neither the bag nor the values -/
theorem Stand.off (S : Stand K H0 g ps pg pw ws L H vals n) {p : Addr} (h : H p = none) : p ≠ g ∧ p ≠ pw := ⟨bag_ne S.bag h, fun z => by
  rw [z, S.at_] at h
  cases h⟩
end
theorem at2_ {H : Hp} {g pw b : Addr} {o u : HO} (h : H b = some u) (n : b ≠ g) (hp : H pw = none) : (del2 (upd H pw o) g pw) b = some u := by
  have nb : b ≠ pw := ne_of_none h hp
  exact at2 (by rw [upd_ne nb]; exact h) n nb
theorem leaf_L {ws : List Wr} {L : List Int} (h : StepsOk ws L) {G : Hp} : ∀ v ∈ L.map V.int, Leaf K G v := fun v hv => by
  obtain ⟨l, hl, rfl⟩ := List.mem_map.mp hv
  obtain ⟨j, hj⟩ := List.getElem?_of_mem hl
  have z := h.2 j l hj
  have z2 : l ≤ 2 := by
    have q := z.2
    split at q <;> omega
  exact leaf_int (by have := z.1; omega)
theorem sm_str {G : Hp} {x : Str} (h : niceD (.str x) = true) : Sm K G (.str x) := ⟨_, .str x, h, Nat.zero_le _, by show 1 ≤ 1200; decide⟩
theorem ev_all {σ : L2.St} {H : Hp} {tl : TE} {bs : List Bool} (h : EvL tl σ H (bs.map V.bl)) : Ev (tCB (rAll K) (tCons tl tNil)) σ H (.bl (bs.all id)) := fun H1 e Q q =>
  h H1 e _ fun p H2 _ e2 h2 => ⟨p, bs, rfl, sq_of h2, q H2 e2⟩
theorem rc_min {H : Hp} {i j : Int} : RC (fun xs H Q => ∃ i j, xs = [V.int i, V.int j] ∧ Q (.int (if j < i then j else i)) H) [.int i, .int j] H (.int (if j < i then j else i)) := fun H1 e Q q => ⟨i, j, rfl, q H1 (Ex.refl H1)⟩
theorem rc_max {H : Hp} {i j : Int} : RC (fun xs H Q => ∃ i j, xs = [V.int i, V.int j] ∧ Q (.int (if j > i then j else i)) H) [.int i, .int j] H (.int (if j > i then j else i)) := fun H1 e Q q => ⟨i, j, rfl, q H1 (Ex.refl H1)⟩
theorem del_upd_ne {H : Hp} {g p : Addr} {o : HO} (h : p ≠ g) : del (upd H p o) g = upd (del H g) p o := by
  funext b
  by_cases c : b = g
  · rw [c, del_same, upd_ne h.symm, del_same]
  · rw [del_ne c]
    by_cases c2 : b = p
    · rw [c2, upd_same, upd_same]
    · rw [upd_ne c2, upd_ne c2, del_ne c]
theorem ex_mut_g {H H1 : Hp} {g p : Addr} {o : HO} (e : Ex (del H g) (del H1 g)) (hp : H p = none) (n : p ≠ g) : Ex (del H g) (del (upd H1 p o) g) := by
  rw [del_upd_ne n]
  exact Ex.mut e (by rw [del_ne n]; exact hp)
def spLaw (K : PySem.W.Frag) : Sp := fun vs H Q _ => ∃ (a : Addr) (ns : List Int), vs = [.ref a] ∧ SqL K H a (ns.map V.int) ∧ ns.length ≤ 63 ∧ ∀ H', Q (.bl true) H'
theorem scLa : FnScope ["_law_script", "_law_at", "_law_bag_here", "_law_some", "_law_good", "_law_values", "_law_step", "_law_bent", "_law_odd", "_law_worse", "_law_value"] ["_law_script"] (defScope sLaw) := ⟨rfl, rfl, rfl, by decide +kernel, rfl, by decide +kernel, by decide +kernel⟩
abbrev nLa : List Str := ["_law_script", "_law_at", "_law_bag_here", "_law_some", "_law_good", "_law_values", "_law_step", "_law_bent", "_law_odd", "_law_worse", "_law_value"]
theorem ok_law {f fB fT fW fS fR fO : Addr} {fd fdB fdT fdW fdS fdR fdO : FuncData} (F : Fun K "law" "law" sLaw f fd) (T : Txt K mg) (hMax : mg "max" = none) (hMin : mg "min" = none) (hAll : mg "all" = none)
    (FB : Fun K "_law_bag" "_law_bag" sBag fB fdB) (bB : Binds K fdB ["_law_script", "_law_at"] []) (gB : mg "_law_bag" = some (.ref fB)) (GB : FnOk P w K mg base CX0 1 fB fdB ["_law_script", "_law_at"] (spBag K))
    (FT : Fun K "_law_take" "_law_take" sTake fT fdT) (bT : Binds K fdT ["_law_bag_here", "_law_many"] []) (gT : mg "_law_take" = some (.ref fT)) (GT : FnOk P w K mg base CX0 1 fT fdT ["_law_bag_here", "_law_many"] spTake)
    (FW : Fun K "_law_writes" "_law_writes" sWrites fW fdW) (bW : Binds K fdW ["_law_bag_here", "_law_width", "_law_many"] []) (gW : mg "_law_writes" = some (.ref fW)) (GW : FnOk P w K mg base CX0 3 fW fdW ["_law_bag_here", "_law_width", "_law_many"] (spWrites K))
    (FS : Fun K "_law_steps" "_law_steps" sSteps fS fdS) (bS : Binds K fdS ["_law_bag_here", "_law_writes_here"] []) (gS : mg "_law_steps" = some (.ref fS)) (GS : FnOk P w K mg base CX0 2 fS fdS ["_law_bag_here", "_law_writes_here"] (spSteps K))
    (FR : Fun K "_law_right" "_law_right" sRight fR fdR) (bR : Binds K fdR ["_law_some", "_law_value"] []) (gR : mg "_law_right" = some (.ref fR)) (GR : FnG P w K mg base 8 fR fdR ["_law_some", "_law_value"] (spRight K))
    (FO : Fun K "_law_told" "_law_told" sTold fO fdO) (bO : Binds K fdO ["_law_some", "_law_value"] []) (gO : mg "_law_told" = some (.ref fO)) (GO : FnOk P w K mg base CX0 7 fO fdO ["_law_some", "_law_value"] (spTold K)) :
    FnG P w K mg base 9 f fd ["_law_script"] (spLaw K) := by
  refine okG F scLa (fun vs H Q E h => ?_) (fun cdv A outer s H vs Q E hgu hr h => ?_)
  · obtain ⟨a, ns, rfl, _⟩ := h
    rfl
  · obtain ⟨a, ns, rfl, hs, hl, k⟩ := h
    have hr1 : Room 1 _ := hr.mono (by decide)
    have hr2 : Room 2 _ := hr.mono (by decide)
    have hr3 : Room 3 _ := hr.mono (by decide)
    have hr7 : Room 7 _ := hr.mono (by decide)
    refine ⟨_, pss_cons (ps_for PassesOwn.never rfl (pi_range1 rfl T.range (pa_cons (pe_callB (call_max2 rfl) (by rfl) hMax PyProof.Rows.boot_max (pa_cons pe_int (pa_cons (pe_callB (call_min2 rfl) (by rfl) hMin PyProof.Rows.boot_min (pa_cons pe_int (pa_cons (pe_callB call_len_seq (by rfl) T.len PySem.boot_len (pa_cons (pv 0) pa_nil)) pa_nil))) pa_nil))) pa_nil)) (pg_name (i := 1) scLa.nd rfl (Or.inl rfl))
      (pss_cons (ps_set (i := 2) scLa.nd rfl (Or.inl rfl) (pe_call GB hr1 rfl gB FB.kp bB .nil pass0 (pa_cons (pv 0) (pa_cons (pv 1) pa_nil))))
      (pss_cons (ps_set (i := 3) scLa.nd rfl (Or.inr rfl) (pe_call GW hr3 rfl gW FW.kp bW .nil pass0 (pa_cons (pv 2) (pa_cons (pe_op op_add pe_int (pe_call GT hr1 rfl gT FT.kp bT .nil pass0 (pa_cons (pv 2) (pa_cons pe_int pa_nil)))) (pa_cons (pe_call GT hr1 rfl gT FT.kp bT .nil pass0 (pa_cons (pv 2) (pa_cons pe_int pa_nil))) pa_nil)))))
      (pss_cons (ps_set (i := 4) scLa.nd rfl (Or.inl rfl) (pe_call GS hr2 rfl gS FS.kp bS .nil pass0 (pa_cons (pv 2) (pa_cons (pv 3) pa_nil))))
      (pss_cons (ps_set (i := 5) scLa.nd rfl (Or.inl rfl) (pe_lst (pa_cons pe_str (pa_cons pe_str (pa_cons (pv 4) (pa_cons (pe_callTy call_tuple_of (by rfl) T.tuple (by decide +kernel) (pa_cons (pv 4) pa_nil)) (pa_cons (pe_op op_cat (pv 4) (pe_lst (pa_cons pe_int pa_nil)))
          (pa_cons (pe_slice sl_list (pv 4) (po_some pe_int) po_none) (pa_cons pe_non (pa_cons pe_bl (pa_cons pe_str (pa_cons pe_str (pa_cons pe_str (pa_cons pe_int pa_nil))))))))))))))
      (pss_cons (ps_expr (pe_bm PySem.F.plainAttrs_list PySem.F.slot_list_append PySem.F.type_list_append mt_append (pv 5) (pa_cons (pe_lc (own := [("_law_step", 6)]) (g := gName 6) (tt := tYes) (te := tOp (rI0 fun i j => .int (i - j)) (tC (.int 2)) (tVar 6)) rfl scLa.nd (pi_list (pv 4))
          (blkOk_by (N := nLa) (sc := defScope sLaw) (by decide +kernel)) (fun _ _ _ _ _ => pg_name (i := 6) scLa.nd rfl (Or.inl rfl)) (fun _ _ _ _ _ => pts_nil) (fun _ _ _ _ _ => pe_op op_sub pe_int (pv 6))) pa_nil)))
      (pss_cons (ps_expr (pe_bm PySem.F.plainAttrs_list PySem.F.slot_list_append PySem.F.type_list_append mt_append (pv 5) (pa_cons (pe_lc (own := [("_law_step", 6)]) (g := gName 6) (tt := tYes) (te := tOp (rI CMul fun i j => .int (i * j)) (tVar 6) (tC (.int 3))) rfl scLa.nd (pi_list (pv 4))
          (blkOk_by (N := nLa) (sc := defScope sLaw) (by decide +kernel)) (fun _ _ _ _ _ => pg_name (i := 6) scLa.nd rfl (Or.inl rfl)) (fun _ _ _ _ _ => pts_nil) (fun _ _ _ _ _ => pe_op op_mul (pv 6) pe_int)) pa_nil)))
      (pss_cons (ps_for PassesOwn.never rfl (pi_range1 rfl T.range (pa_cons pe_int pa_nil)) (pg_name (i := 6) scLa.nd rfl (Or.inl rfl))
        (pss_cons (ps_set (i := 7) scLa.nd rfl (Or.inl rfl) (pe_callTy call_list_of (by rfl) T.list (by decide +kernel) (pa_cons (pv 4) pa_nil)))
        (pss_cut (ps_if (pt_cmpR (op_neD hr.units) (pv 7) (pe_lst pa_nil) (nomark _))
          (pss_cons (ps_set (i := 8) scLa.nd rfl (Or.inl rfl) (pe_ix ix_list (pe_lst (pa_cons pe_int (pa_cons (pe_un un_neg pe_int) (pa_cons pe_bl (pa_cons pe_bl (pa_cons pe_non (pa_cons pe_str (pa_cons (pe_lst (pa_cons pe_int pa_nil)) (pa_cons (pe_op op_pow pe_int pe_int) (pa_cons pe_int (pa_cons pe_int pa_nil)))))))))))
              (pe_call GT hr1 rfl gT FT.kp bT .nil pass0 (pa_cons (pv 2) (pa_cons pe_int pa_nil))) (fun _ _ => rfl)))
          (pss_one (ps_asg (pv 8) (pg_sub (pv 7) (pe_call GT hr1 rfl gT FT.kp bT .nil pass0 (pa_cons (pv 2) (pa_cons (pe_callB call_len_seq (by rfl) T.len PySem.boot_len (pa_cons (pv 7) pa_nil)) pa_nil))) set_list)))) pss_nil)
        (pss_one (ps_expr (pe_bm PySem.F.plainAttrs_list PySem.F.slot_list_append PySem.F.type_list_append mt_append (pv 5) (pa_cons (pv 7) pa_nil)))))))
      (pss_cons (ps_if (pt_not (pt_val (pe_callB (cr_all rfl) (by rfl) hAll PyProof.Rows.boot_all (pa_cons (pe_lc (own := [("_law_value", 10)]) (g := gName 10) (tt := tYes) (te := tCall (spRight K) [] E0 (tCons (tVar 3) (tCons (tVar 10) tNil))) rfl scLa.nd (pi_list (pv 5))
          (blkOk_by (N := nLa) (sc := defScope sLaw) (by decide +kernel)) (fun _ _ _ _ _ => pg_name (i := 10) scLa.nd rfl (Or.inl rfl)) (fun _ _ _ _ _ => pts_nil) (fun _ _ _ _ _ => pe_callG GR hgu hr rfl gR FR.kp bR (pa_cons (pv 3) (pa_cons (pv 10) pa_nil)))) pa_nil)))) (pss_one (ps_ret pe_bl)) pss_nil)
      (pss_cons (ps_set (i := 9) scLa.nd rfl (Or.inl rfl) (pe_op op_cat (pv 3) (pe_lst (pa_cons (pe_tup (pa_cons pe_int (pa_cons pe_int (pa_cons pe_str pa_nil)))) pa_nil))))
      (pss_one (ps_if (PW.pt (pw_or (pt_cmpR (op_neD hr.units) (pe_call GO hr7 rfl gO FO.kp bO .nil pass0 (pa_cons (pv 9) (pa_cons pe_str pa_nil))) pe_str (nomark _))
          (pw_or (pt_cmpR (op_neD hr.units) (pe_call GO hr7 rfl gO FO.kp bO .nil pass0 (pa_cons (pv 9) (pa_cons pe_non pa_nil))) pe_str (nomark _))
          (pw_or1 (pt_cmpR (op_neD hr.units) (pe_call GO hr7 rfl gO FO.kp bO .nil pass0 (pa_cons pe_non (pa_cons pe_int pa_nil))) pe_str (nomark _)))))) (pss_one (ps_ret pe_bl)) pss_nil))))))))))))
      (pss_one (ps_ret pe_bl)), ?_⟩
    obtain ⟨M, hM⟩ : ∃ M : Int, M = (if (if (ns.length : Int) < 6 then (ns.length : Int) else 6) > 2 then (if (ns.length : Int) < 6 then (ns.length : Int) else 6) else 2) := ⟨_, rfl⟩
    have hM6 : 0 ≤ M ∧ M ≤ 6 := by
      rw [hM]
      split <;> split <;> omega
    have evl : Ev (tCB (rLenS K) (tCons (tVar 0) tNil)) (start nLa [V.ref a]) H (.int (ns.length : Int)) := by
      have z := ev_len (K := K) (σ := start nLa [V.ref a]) (H := H) (ta := tVar 0) (ev_var rfl) hs
      rw [List.length_map] at z
      exact z
    refine q_forR1 (n := M) (ea_cons (ev_is (ev_cb (ea_cons ev_c (ea_cons (ev_cb (ea_cons ev_c (ea_cons evl ea_nil)) rc_min) ea_nil)) rc_max) (congrArg V.int hM.symm)) ea_nil) (by omega)
      (fun i σ' H' => ∃ o1 o2 o3 o4 o5 o6 o7 o8 o9 o10 : Option V, σ' = [some (.ref a), o1, o2, o3, o4, o5, o6, o7, o8, o9, o10] ∧ Ex H H')
      (fun H1 e1 => ⟨_, _, _, _, _, _, _, _, _, _, rfl, e1⟩) ?_ ?_
    · rintro i σ' H' hi ⟨o1, o2, o3, o4, o5, o6, o7, o8, o9, o10, rfl, e0⟩
      refine ⟨_, rfl, _, rfl, a, ns, i, rfl, ex_l e0 hs, by omega, fun g H1 hg0 e1 b1 => ?_⟩
      -- some
      refine ⟨_, rfl, ?_⟩
      refine take_go (n := 10000) (ev_var rfl) ev_c (b1.less (by decide)) (by decide) (by decide) fun r1 H2 r10 r11 x2 b2 => ?_
      refine ⟨_, _, rfl, rfl, ?_⟩
      refine take_go (n := 9999) (ev_var rfl) ev_c (b2.less (by decide)) (by decide) (by decide) fun r2 H3 r20 r21 x3 b3 => ?_
      obtain ⟨m, rfl⟩ : ∃ m : Nat, r2 = (m : Int) := ⟨r2.toNat, by omega⟩
      refine ⟨g, 1000, m, 1 + r1, rfl, b3.less (by omega), by omega, by omega, by omega, fun ps xs ws H4 hws hoks hps npsg x4 h4 hda b4 => ?_⟩
      have hok : ∀ u ∈ ws, okW u = true := fun u hu => (hoks u hu).1
      have hlen : ws.length ≤ 200 := by omega
      have nw : Nice (cD ws) := nice_conv (wd := 1 + r1) (by omega) hoks hlen
      have e4 : Ex H' (del2 H4 g ps) := ((e1.trans x2).trans x3).trans x4
      -- good
      refine ⟨_, rfl, _, rfl, g, ps, 500, ws, rfl, .lst (sq_of (by rw [del_ne npsg]; exact h4)) (dps_ex ex2_g hda), b4.less (by omega), hlen, fun pg L H5 hL hpg npgg x5 h5 b5 => ?_⟩
      have hLl : L.length = ws.length := hL.1
      have nsp : ps ≠ pg := fun z => by
        rw [← z, h4] at hpg
        cases hpg
      have h5s : (del2 H5 g pg) ps = some (.lst xs) := x5 _ _ (by rw [del_ne npsg]; exact h4)
      have hda5 : DpAll K (del2 H5 g pg) xs (ws.map wD) := dps_ex (ex2_g.trans x5) hda
      have e5 : Ex H' (del2 H5 g pg) := e4.trans (ex2_g.trans x5)
      -- values
      refine ⟨_, rfl, _, rfl, pg, _, rfl, Or.inl ⟨sq_of h5, fun t1 ht1 => ?_⟩⟩
      refine ⟨_, rfl, by show 1 ≤ sizeLine; decide, fun z1 hz1 => ?_⟩
      have y1 : Ex H5 (upd H5 t1 (.tup (L.map V.int))) := Ex.new ht1
      have y2 : Ex H5 (upd (upd H5 t1 (.tup (L.map V.int))) z1 (.lst [.int 0])) := y1.trans (Ex.new hz1)
      refine ⟨pg, z1, _, _, rfl, rfl, y2 _ _ h5, upd_same, by rw [List.length_map, hLl]; exact sz_of (by show ws.length + 1 ≤ 100000; omega), fun c1 hc1 => ?_⟩
      have y3 := y2.trans (Ex.new (o := .lst (L.map V.int ++ [.int 0])) hc1)
      refine ⟨_, rfl, 1, rfl, pg, _, rfl, sq_of (y3 _ _ h5), fun s1 hs1 => ?_⟩
      have y4 := y3.trans (Ex.new (o := .lst (cutV (L.map V.int) (some 1) none)) hs1)
      refine ⟨by show 12 ≤ sizeLine; decide, fun pw hpw => ?_⟩
      have y5 := y4.trans (Ex.new (o := .lst [.str "quick", .str "slow", .ref pg, .ref t1, .ref c1, .ref s1, .non, .bl true, .str "Slow", .str "quick ", .str "", .int 0]) hpw)
      have S6 : Stand K H' g ps pg pw ws L (upd (upd (upd (upd (upd H5 t1 (.tup (L.map V.int))) z1 (.lst [.int 0])) c1 (.lst (L.map V.int ++ [.int 0]))) s1 (.lst (cutV (L.map V.int) (some 1) none))) pw (.lst [.str "quick", .str "slow", .ref pg, .ref t1, .ref c1, .ref s1, .non, .bl true, .str "Slow", .str "quick ", .str "", .int 0]))
          [.str "quick", .str "slow", .ref pg, .ref t1, .ref c1, .ref s1, .non, .bl true, .str "Slow", .str "quick ", .str "", .int 0] 500 := by
        have at1 := (((Ex.new (o := .lst [.int 0]) hz1).trans (Ex.new (o := .lst (L.map V.int ++ [.int 0])) hc1)).trans (Ex.new (o := .lst (cutV (L.map V.int) (some 1) none)) hs1)) t1 _ upd_same
        have at2 := ((Ex.new (o := .lst (cutV (L.map V.int) (some 1) none)) hs1)) c1 _ upd_same
        have n1g : t1 ≠ g := bag_ne b5 ht1
        have n2g : c1 ≠ g := bag_ne (b5.ex y2) hc1
        have n3g : s1 ≠ g := bag_ne (b5.ex y3) hs1
        have npw : pw ≠ g := bag_ne (b5.ex y4) hpw
        have f1 := at2_ (pw := pw) (g := g) (o := .lst [.str "quick", .str "slow", .ref pg, .ref t1, .ref c1, .ref s1, .non, .bl true, .str "Slow", .str "quick ", .str "", .int 0]) at1 n1g hpw
        have f2 := at2_ (pw := pw) (g := g) (o := .lst [.str "quick", .str "slow", .ref pg, .ref t1, .ref c1, .ref s1, .non, .bl true, .str "Slow", .str "quick ", .str "", .int 0]) at2 n2g hpw
        have f3 := at2_ (pw := pw) (g := g) (o := .lst [.str "quick", .str "slow", .ref pg, .ref t1, .ref c1, .ref s1, .non, .bl true, .str "Slow", .str "quick ", .str "", .int 0]) (upd_same (H := upd (upd (upd H5 t1 (.tup (L.map V.int))) z1 (.lst [.int 0])) c1 (.lst (L.map V.int ++ [.int 0]))) (a := s1) (o := .lst (cutV (L.map V.int) (some 1) none))) n3g hpw
        have f4 := at2_ (pw := pw) (g := g) (o := .lst [.str "quick", .str "slow", .ref pg, .ref t1, .ref c1, .ref s1, .non, .bl true, .str "Slow", .str "quick ", .str "", .int 0]) (y4 pg _ h5) npgg hpw
        have e2x : Ex (del2 H5 g pg) (del2 (upd (upd (upd (upd (upd H5 t1 (.tup (L.map V.int))) z1 (.lst [.int 0])) c1 (.lst (L.map V.int ++ [.int 0]))) s1 (.lst (cutV (L.map V.int) (some 1) none))) pw (.lst [.str "quick", .str "slow", .ref pg, .ref t1, .ref c1, .ref s1, .non, .bl true, .str "Slow", .str "quick ", .str "", .int 0])) g pw) := by
          intro b o hb
          have hb5 : H5 b = some o := ex2_self _ _ hb
          have nbg : b ≠ g := fun z => by
            rw [z] at hb
            unfold del2 at hb
            by_cases c : g = pg
            · rw [c, del_same] at hb
              cases hb
            · rw [del_ne c, del_same] at hb
              cases hb
          exact at2_ (y4 b _ hb5) nbg hpw
        have lenL : (L.map V.int).length ≤ 200 := by rw [List.length_map]; omega
        refine ⟨upd_same, fun v hv => ?_, ⟨xs, e2x _ _ h5s, dps_ex e2x hda5⟩, f4, (b5.ex y5).less (by omega), e5.trans e2x, npw⟩
        simp only [List.mem_cons, List.not_mem_nil, or_false] at hv
        rcases hv with rfl | rfl | rfl | rfl | rfl | rfl | rfl | rfl | rfl | rfl | rfl | rfl
        · exact sm_str (by decide +kernel)
        · exact sm_str (by decide +kernel)
        · exact sm_list (sq_of f4) (leaf_L hL) (by omega)
        · exact sm_tup (st_of f1) (leaf_L hL) (by omega)
        · refine sm_list (sq_of f2) (fun v hv => ?_) (by rw [List.length_append]; show _ + 1 ≤ 500; omega)
          rcases List.mem_append.mp hv with z | z
          · exact leaf_L hL v z
          · have ez : v = .int 0 := by simpa using z
            rw [ez]
            exact leaf_int (by decide)
        · refine sm_list (sq_of f3) (fun v hv => leaf_L hL v ?_) (Nat.le_trans (cutV_length _ _ _) (by omega))
          unfold cutV at hv
          exact List.mem_of_mem_drop (List.mem_of_mem_take hv)
        · exact ⟨_, .non, rfl, Nat.zero_le _, by show 1 ≤ 1200; decide⟩
        · exact ⟨_, .bl true, rfl, Nat.zero_le _, by show 1 ≤ 1200; decide⟩
        · exact sm_str (by decide +kernel)
        · exact sm_str (by decide +kernel)
        · exact sm_str (by decide +kernel)
        · exact (leaf_int (i := 0) (by decide)).sm
      clear y1 y2 y3 y4 y5
      -- two more
      have itL : ∀ (q : Nat) (x : V), (L.map V.int)[q]? = some x → x = .int (L.getD q 0) ∧ 0 ≤ L.getD q 0 ∧ L.getD q 0 ≤ 2 := fun q x hx => by
        rw [List.getElem?_map] at hx
        cases c : L[q]? with
        | none =>
          rw [c] at hx
          cases hx
        | some l =>
          rw [c] at hx
          have ex : V.int l = x := Option.some.inj hx
          have eg : L.getD q 0 = l := by rw [List.getD_eq_getElem?_getD, c] <;> rfl
          have z := hL.2 q l c
          have z2 := z.2
          refine ⟨by rw [eg]; exact ex.symm, by rw [eg]; exact z.1, ?_⟩
          rw [eg]
          split at z2 <;> omega
      have lenL : (L.map V.int).length ≤ 200 := by rw [List.length_map]; omega
      have lcS : ∀ {H6 : Hp} {p : Addr} {f : Nat → Int} {G : Hp}, G p = some (.lst (given (L.map V.int).length (fun _ => true) fun q => .int (f q))) → (∀ q, q < L.length → (f q).natAbs < 10 ^ 50) → Sm K G (.ref p) := fun {H6 p f G} hp hf => by
        refine sm_list (sq_of hp) (fun v hv => ?_) (Nat.le_trans (given_len _ _ _) (by omega))
        rw [given_all] at hv
        obtain ⟨q, hq, e⟩ := List.mem_map.mp hv
        rw [← e]
        refine leaf_int (hf q ?_)
        have z := List.mem_range.mp hq
        rw [List.length_map] at z
        exact z
      have inL : ∀ q, q < L.length → 0 ≤ L.getD q 0 ∧ L.getD q 0 ≤ 2 := fun q hq => (itL q (.int L[q]) (by rw [List.getElem?_map]; simp [hq])).2
      refine q_appL S6.at_ (ev_var rfl) (el_lcL (K := K) (a := pg) (xs := L.map V.int) (j := 6) (vs := [6]) (fun _ => true) (fun q => .int (2 - L.getD q 0)) (ev_var rfl) (sq_of S6.gd) (by omega) (fun _ => rfl) (fun _ _ _ _ _ => et_yes) (fun q x H1 _ hx _ => by
        rw [(itL q x hx).1]
        exact ev_op ev_c (ev_var rfl) rv_I0)) (by show 12 < 100000; decide) fun p1 H7 hp1 e7 h7 => ?_
      have S7 := (S6.ex e7).app (v := .ref p1) (lcS (H6 := H7) (at2 h7 (S6.off hp1).1 (S6.off hp1).2) fun q hq => by have := inL q hq; omega)
      refine q_appL S7.at_ (ev_var rfl) (el_lcL (K := K) (a := pg) (xs := L.map V.int) (j := 6) (vs := [6]) (fun _ => true) (fun q => .int (L.getD q 0 * 3)) (ev_var rfl) (sq_of S7.gd) (by omega) (fun _ => rfl) (fun _ _ _ _ _ => et_yes) (fun q x H1 _ hx _ => by
        rw [(itL q x hx).1]
        exact ev_op (ev_var rfl) ev_c (rv_I (Or.inr ⟨by decide, by decide⟩)))) (by show 13 < 100000; decide) fun p2 H8 hp2 e8 h8 => ?_
      have S8 := (S7.ex e8).app (v := .ref p2) (lcS (H6 := H8) (at2 h8 (S7.off hp2).1 (S7.off hp2).2) fun q hq => by have := inL q hq; omega)
      -- four bent ones
      refine q_forR1 (n := 4) (ea_cons ev_c ea_nil) (by omega)
        (fun q σ' Hx => ∃ (u6 u7 u8 : Option V) (vals : List V), σ' = [some (.ref a), some (.int (i : Int)), some (.ref g), some (.ref ps), some (.ref pg), some (.ref pw), u6, u7, u8, o9, o10] ∧ Stand K H' g ps pg pw ws L Hx vals (500 - 2 * q) ∧ vals.length = 14 + q)
        (fun H9 e9 => ⟨_, _, _, _, rfl, S8.ex e9, rfl⟩) ?_ ?_
      · rintro q σ' Hx hq ⟨u6, u7, u8, vals, rfl, S, hvl⟩
        refine q_asgL (el_cb (ea_cons (ev_var rfl) ea_nil) (fun H1 e1 Q q => ⟨pg, _, rfl, Or.inl (sq_of (e1 _ _ S.gd)), fun l hl => q l _ hl (Ex.new hl) upd_same⟩)) fun pb Ha hpb ea hb => ?_
        have npbg := (S.off hpb).1
        have npbw := (S.off hpb).2
        have Sa := S.ex ea
        have eab : Ex (del Hx g) (del Ha g) := ex_del ea
        refine q_cut (M := fun σ4 Hm => ∃ u8' : Option V, σ4 = [some (.ref a), some (.int (i : Int)), some (.ref g), some (.ref ps), some (.ref pg), some (.ref pw), some (.int (q : Int)), some (.ref pb), u8', o9, o10] ∧ Stand K H' g ps pg pw ws L Hm vals (500 - 2 * (q + 1)) ∧ Sm K (del2 Hm g pw) (.ref pb)) ?_ ?_
        · refine s_when (et_test (ev_opL (ev_var rfl) (el_lst ea_nil (by show 0 ≤ 100000; decide)) fun r H1 h1 e1 => rv_neD (.lst (sq_of (e1 _ _ hb)) (dps_ints L)) (.lst (sq_of h1) .nil) ((nice_list (k := 0) (m := 1) (xs := L.map PyData.int) (fun x hx => by
            obtain ⟨l, hl, rfl⟩ := List.mem_map.mp hx
            obtain ⟨j, hj⟩ := List.getElem?_of_mem hl
            have z := hL.2 j l hj
            have z2 := z.2
            refine nice_int z.1 ?_
            split at z2 <;> omega) (by decide) (by rw [List.length_map]; omega)).1.shaped) (by decide +kernel))) (fun hbb Hb eb => ?_) (fun hbb Hb eb => ?_)
          · have hLn : 0 < L.length := by
              cases L with
              | nil => exact absurd (show false = true from hbb) Bool.false_ne_true
              | cons _ _ => exact Nat.succ_pos _
            have hb2 : Hb pb = some (.lst (L.map V.int)) := eb _ _ hb
            have Sb := Sa.ex eb
            refine ⟨1, rfl, ?_⟩
            refine ⟨by show 1 ≤ sizeLine; decide, fun z0 hz0 => ?_⟩
            refine ⟨_, _, rfl, rfl, ⟨by decide, by decide, by decide⟩, ?_⟩
            refine ⟨by show 10 ≤ sizeLine; decide, fun zl hzl => ?_⟩
            have e2z := (Ex.new (o := .lst [.int 0]) hz0).trans (Ex.new (o := .lst [.int 3, .int (-1), .bl true, .bl false, .non, .str "0", .ref z0, .int (10 ^ (20 : Int).toNat), .int 2, .int 1]) hzl)
            have nz0g : z0 ≠ g := (Sb.off hz0).1
            have nz0w : z0 ≠ pw := (Sb.off hz0).2
            have nzlg : zl ≠ g := bag_ne (Sb.bag.ex (Ex.new hz0)) hzl
            refine take_go (n := 500 - 2 * q - 1) (ev_var rfl) ev_c ((Sb.bag.ex e2z).less (by omega)) (by decide) (by decide) fun r6 Hc r60 r61 xc bc => ?_
            have hzl2 := del_at xc (upd_same (H := upd Hb z0 (.lst [.int 0])) (a := zl) (o := .lst [.int 3, .int (-1), .bl true, .bl false, .non, .str "0", .ref z0, .int (10 ^ (20 : Int).toNat), .int 2, .int 1])) nzlg
            have hz02 := del_at xc ((Ex.new (o := .lst [.int 3, .int (-1), .bl true, .bl false, .non, .str "0", .ref z0, .int (10 ^ (20 : Int).toNat), .int 2, .int 1]) hzl) z0 _ upd_same) nz0g
            have hbc := del_at xc (e2z _ _ hb2) npbg
            obtain ⟨v, hv, hmem⟩ := atI_mem (xs := [.int 3, .int (-1), .bl true, .bl false, .non, .str "0", .ref z0, .int (10 ^ (20 : Int).toNat), .int 2, .int 1]) (r := r6) r60 (by show r6 < 10; omega)
            refine ⟨zl, _, r6, v, rfl, rfl, sq_of hzl2, hv, ?_⟩
            refine ⟨_, rfl, _, rfl, ?_⟩
            have evb : ∀ {σ : L2.St}, σ[7]? = some (some (V.ref pb)) → Ev (tCB (rLenS K) (tCons (tVar 7) tNil)) σ Hc (.int (L.length : Int)) := fun h7 => by
              have z := ev_len (K := K) (H := Hc) (ta := tVar 7) (ev_var h7) (sq_of hbc)
              rw [List.length_map] at z
              exact z
            refine take_go (n := 500 - 2 * (q + 1)) (m := (L.length : Int)) (ev_var rfl) (evb rfl) (bc.less (by omega)) (by omega) (by omega) fun r7 Hd r70 r71 xd bd => ?_
            obtain ⟨j, rfl⟩ : ∃ j : Nat, r7 = (j : Int) := ⟨r7.toNat, by omega⟩
            have hbd := del_at xd hbc npbg
            have hz03 := del_at xd hz02 nz0g
            have hjl : j < (L.map V.int).length := by rw [List.length_map]; omega
            refine ⟨pb, _, (j : Int), j, rfl, rfl, hbd, ixN_nat hjl, ?_⟩
            have nz0b : z0 ≠ pb := fun z => by
              rw [z, hb2] at hz0
              cases hz0
            have chain : Ex (del Hx g) (del Hd g) := (((eab.trans (ex_del eb)).trans (ex_del e2z)).trans xc).trans xd
            have Sf := S.go (H1 := upd Hd pb (.lst ((L.map V.int).set j v))) (ex_mut_g chain hpb npbg) (by
              obtain ⟨d', s', c', q1, q2⟩ := bd
              exact ⟨d', s', c', by rw [upd_ne npbg.symm]; exact q1, q2⟩ : BagAt (upd Hd pb (.lst ((L.map V.int).set j v))) g (500 - 2 * (q + 1)))
            refine ⟨_, rfl, Sf, sm_list (sq_of (at2 upd_same npbg npbw)) (fun w hw => ?_) (by rw [List.length_set]; omega)⟩
            rcases List.mem_or_eq_of_mem_set hw with z | z
            · exact leaf_L hL w z
            · rw [z]
              simp only [List.mem_cons, List.not_mem_nil, or_false] at hmem
              rcases hmem with rfl | rfl | rfl | rfl | rfl | rfl | rfl | rfl | rfl | rfl
              · exact leaf_int (by decide)
              · exact leaf_int (by decide)
              · exact ⟨_, .bl true, rfl, Nat.zero_le _, by show 1 ≤ 2; decide⟩
              · exact ⟨_, .bl false, rfl, Nat.zero_le _, by show 1 ≤ 2; decide⟩
              · exact ⟨_, .non, rfl, Nat.zero_le _, by show 1 ≤ 2; decide⟩
              · exact ⟨_, .str "0", by decide +kernel, Nat.zero_le _, by show 1 ≤ 2; decide⟩
              · exact ⟨.list [.int 0], .lst (sq_of (at2 (by rw [upd_ne nz0b]; exact hz03) nz0g nz0w)) (.cons (.int 0) .nil), by decide +kernel, by decide, by decide⟩
              · exact leaf_int (by decide)
              · exact leaf_int (by decide)
              · exact leaf_int (by decide)
          · have Sb := Sa.ex eb
            refine ⟨u8, rfl, ⟨Sb.at_, Sb.sm, Sb.conv, Sb.good, Sb.bag.less (by omega), Sb.ex0, Sb.ne⟩, sm_list (sq_of (at2 (eb _ _ hb) npbg npbw)) (leaf_L hL) (by omega)⟩
        · rintro σ4 Hm ⟨u8', rfl, Sm4, smb⟩
          refine s_app Sm4.at_ (ev_var rfl) (ev_var rfl) (by omega) fun Hn en => ?_
          have Sn := (Sm4.ex en).app (v := .ref pb) (smb.ex (ex2 en))
          exact ⟨_, _, _, vals ++ [.ref pb], rfl, Sn, by rw [List.length_append, hvl]; rfl⟩
      · rintro σ' Hx ⟨u6, u7, u8, vals, rfl, S, hvl⟩
        have hvl' : vals.length = 18 := hvl
        have smv : ∀ v ∈ vals, Sm K Hx v := fun v hv => (S.sm v hv).ex ex2_self
        refine q_when (b := false) (et_is (et_not (a := true) (et_B (ev_is (ev_all (bs := List.replicate 18 true) ?_) rfl))) rfl) (fun hb => nomatch hb) fun _ H9 e9 => ?_
        · have z := el_lcL (K := K) (σ := [some (.ref a), some (.int (i : Int)), some (.ref g), some (.ref ps), some (.ref pg), some (.ref pw), u6, u7, u8, o9, o10]) (H := Hx) (a := pw) (xs := vals) (tl := tVar 5) (j := 10) (vs := [10]) (t := tYes) (te := tCall (spRight K) [] E0 (tCons (tVar 3) (tCons (tVar 10) tNil)))
            (fun _ => true) (fun _ => .bl true) (ev_var rfl) (sq_of S.at_) (by omega) (fun _ => rfl) (fun _ _ _ _ _ => et_yes) (fun q x H1 e1 hx _ => ev_call (ea_cons (ev_var rfl) (ea_cons (ev_var rfl) ea_nil)) (sp_right (dp_ex e1 S.dp) hlen hok nw ((smv x (List.mem_of_getElem? hx)).ex e1)))
          rw [given_all, hvl'] at z
          exact z
        have S9 := S.ex e9
        obtain ⟨xs9, h9, hda9⟩ := S9.conv
        -- worse
        refine ⟨_, rfl, ?_⟩
        refine ⟨by show 3 ≤ sizeLine; decide, fun tt htt => ?_⟩
        refine ⟨by show 1 ≤ sizeLine; decide, fun tl htl => ?_⟩
        have ew := (Ex.new (o := .tup [.int 0, .int 0, .str "plain"]) htt).trans (Ex.new (o := .lst [.ref tt]) htl)
        have hl9 : xs9.length = ws.length := by rw [dps_len' hda9, List.length_map]
        refine ⟨ps, tl, _, _, rfl, rfl, ew _ _ (ex2_self _ _ h9), upd_same, sz_of (by show xs9.length + 1 ≤ 100000; omega), fun pz hpz => ?_⟩
        have ew2 := ew.trans (Ex.new (o := .lst (xs9 ++ [.ref tt])) hpz)
        have dworse : Dp K (upd (upd (upd H9 tt (.tup [.int 0, .int 0, .str "plain"])) tl (.lst [.ref tt])) pz (.lst (xs9 ++ [.ref tt]))) (.ref pz) (.list (ws.map wD ++ [.tuple [.int 0, .int 0, .str "plain"]])) :=
          .lst (sq_of upd_same) (dps_snoc (dps_ex (ex2_self.trans ew2) hda9) (.tup (st_of (((Ex.new (o := .lst [.ref tt]) htl).trans (Ex.new (o := .lst (xs9 ++ [.ref tt])) hpz)) tt _ upd_same)) (.cons (.int 0) (.cons (.int 0) (.cons (.str "plain") .nil)))))
        have tworse : thirds (.list (ws.map wD ++ [.tuple [.int 0, .int 0, .str "plain"]])) = true := by
          show (ws.map wD ++ [PyData.tuple [.int 0, .int 0, .str "plain"]]).all third = true
          rw [List.all_append]
          have z : (ws.map wD).all third = true := third_wD ws
          rw [z] <;> rfl
        have cworse : ∃ v, chkD (.list (ws.map wD ++ [.tuple [.int 0, .int 0, .str "plain"]])) = some v := by
          refine ⟨.int ((0 + ws.length : Nat) : Int), ?_⟩
          show (if 200 < (ws.map wD ++ [PyData.tuple [.int 0, .int 0, .str "plain"]]).length then some V.non else (fbad (ws.map wD ++ [.tuple [.int 0, .int 0, .str "plain"]]) 0).map fun i => V.int (i : Int)) = _
          rw [if_neg (by rw [List.length_append, List.length_map]; show ¬ 200 < ws.length + 1; omega), fbad_app hok (by decide +kernel)] <;> rfl
        refine s_when (b := false) (et_is (et_or (a := false) (b := false) (tw_go (ev_var rfl) ev_c dworse tworse cworse (.str "quick") (by decide +kernel)) fun _ => et_is (et_or (a := false) (b := false) (tw_go (ev_var rfl) ev_c dworse tworse cworse .non rfl) fun _ =>
          tw_go ev_c ev_c .non rfl ⟨.non, rfl⟩ (.int 5) rfl) rfl) rfl) (fun hb => nomatch hb) fun _ Hz ez => ?_
        exact ⟨_, _, _, _, _, _, _, _, _, _, rfl, e0.trans ((S9.ex0.trans ex2_self).trans (ew2.trans ez))⟩
    · rintro σ' H' ⟨o1, o2, o3, o4, o5, o6, o7, o8, o9, o10, rfl, e0⟩
      exact s_ret ev_c fun H1 e1 => k H1
end
end Lw

namespace Lw
open PySem PySem.Spec PyProof.Rows L2 Evl L3
theorem exm_ref' {K : PySem.W.Frag} {C : Addr} {cls : Value} {b : Bool} (h1 : PySem.W.subIn K (.ref C) (.type "BaseException") = some true) (h2 : PySem.W.hasDictIn K C = true) (h3 : PySem.W.typeIn K (.ref C) = some (.type "type")) (h4 : PySem.W.subIn K cls (.ref C) = some b) :
    PySem.W.exmOne K cls (.ref C) = some b := PySem.W.exm_ref h1 h2 h3 h4
theorem all_mk {P : Program} {w : World} {K : PySem.W.Frag} {h : Heap} {mg : Str → Option Value} (X : K.In h) (G : h.Ns mainGlobals mg)
    {f1 f2 f3 f4 f5 f6 f7 f8 f9 f10 f11 f12 f13 f14 f15 f16 f17 fBadWrite fBadOrder : Addr} {CBadWrite EBadWrite NBadWrite CBadOrder EBadOrder NBadOrder : Addr} {fa : Addr} (hfa : mg "law" = some (.ref fa))
    {od1 an1 od2 an2 od3 an3 od4 an4 od5 an5 od6 an6 od7 an7 od8 an8 od9 an9 od10 an10 od11 an11 od12 an12 od13 an13 od14 an14 od15 an15 od16 an16 od17 an17 odBadWrite anBadWrite odBadOrder anBadOrder : Option Addr} {sl1 sl2 sl3 sl4 sl5 sl6 sl7 sl8 sl9 sl10 sl11 sl12 sl13 sl14 sl15 sl16 sl17 slBadWrite slBadOrder : Array (Option Value)} {oc1 kV1 dc1 pm1 cd1 ct1 oc2 kV2 dc2 pm2 cd2 ct2 oc3 kV3 dc3 pm3 cd3 ct3 oc4 kV4 dc4 pm4 cd4 ct4 oc5 kV5 dc5 pm5 cd5 ct5 oc6 kV6 dc6 pm6 cd6 ct6 oc7 kV7 dc7 pm7 cd7 ct7 oc8 kV8 dc8 pm8 cd8 ct8 oc9 kV9 dc9 pm9 cd9 ct9 oc10 kV10 dc10 pm10 cd10 ct10 oc11 kV11 dc11 pm11 cd11 ct11 oc12 kV12 dc12 pm12 cd12 ct12 oc13 kV13 dc13 pm13 cd13 ct13 oc14 kV14 dc14 pm14 cd14 ct14 oc15 kV15 dc15 pm15 cd15 ct15 oc16 kV16 dc16 pm16 cd16 ct16 oc17 kV17 dc17 pm17 cd17 ct17 ocBadWrite kVBadWrite dcBadWrite pmBadWrite cdBadWrite ctBadWrite ocBadOrder kVBadOrder dcBadOrder pmBadOrder cdBadOrder ctBadOrder : Value}
    {nmBadWrite qBadWrite : Str} {bsBadWrite : List Value} {snBadWrite : List Str} {subBadWrite : List Value} {abBadWrite : Bool} {colBadWrite : Option Bool} {ddBadWrite : Option Addr} {m0BadWrite m1BadWrite m2BadWrite m3BadWrite m5BadWrite : Option Value}
    {nmBadOrder qBadOrder : Str} {bsBadOrder : List Value} {snBadOrder : List Str} {subBadOrder : List Value} {abBadOrder : Bool} {colBadOrder : Option Bool} {ddBadOrder : Option Addr} {m0BadOrder m1BadOrder m2BadOrder m3BadOrder m5BadOrder : Option Value}
    {tMOST_LENGTH tMOST_WRITES tMOST_CLEARINGS : Tok}
    {aMODES : Addr} {odMODES : Option Addr} {nMODES : Nat} {slMODES : Array (Option Value)} {tMODES0 tMODES1 tMODES2 : Tok}
    (a1 : PySem.W.nsIn K mainGlobals "between" = some (some (.ref f1)))
    (l1 : K.lookup f1 = some ⟨oc1, od1, .func (PySem.W.fnOf "between" "between" (defArgs sBetw) (defBody sBetw) (defScope sBetw) .none kV1 dc1 pm1 an1 cd1 ct1), sl1⟩)
    (c1 : PySem.W.codeIn K cd1 "between" = true)
    (k1 : PySem.W.keepIn K (.ref f1) = true)
    (a2 : PySem.W.nsIn K mainGlobals "check" = some (some (.ref f2)))
    (l2 : K.lookup f2 = some ⟨oc2, od2, .func (PySem.W.fnOf "check" "check" (defArgs sChk) (defBody sChk) (defScope sChk) .none kV2 dc2 pm2 an2 cd2 ct2), sl2⟩)
    (c2 : PySem.W.codeIn K cd2 "check" = true)
    (k2 : PySem.W.keepIn K (.ref f2) = true)
    (a3 : PySem.W.nsIn K mainGlobals "is_write" = some (some (.ref f3)))
    (l3 : K.lookup f3 = some ⟨oc3, od3, .func (PySem.W.fnOf "is_write" "is_write" (defArgs sIsW) (defBody sIsW) (defScope sIsW) .none kV3 dc3 pm3 an3 cd3 ct3), sl3⟩)
    (c3 : PySem.W.codeIn K cd3 "is_write" = true)
    (k3 : PySem.W.keepIn K (.ref f3) = true)
    (a4 : PySem.W.nsIn K mainGlobals "turns" = some (some (.ref f4)))
    (l4 : K.lookup f4 = some ⟨oc4, od4, .func (PySem.W.fnOf "turns" "turns" (defArgs sTurns) (defBody sTurns) (defScope sTurns) .none kV4 dc4 pm4 an4 cd4 ct4), sl4⟩)
    (c4 : PySem.W.codeIn K cd4 "turns" = true)
    (k4 : PySem.W.keepIn K (.ref f4) = true)
    (a5 : PySem.W.nsIn K mainGlobals "normal_order" = some (some (.ref f5)))
    (l5 : K.lookup f5 = some ⟨oc5, od5, .func (PySem.W.fnOf "normal_order" "normal_order" (defArgs sNorm) (defBody sNorm) (defScope sNorm) .none kV5 dc5 pm5 an5 cd5 ct5), sl5⟩)
    (c5 : PySem.W.codeIn K cd5 "normal_order" = true)
    (k5 : PySem.W.keepIn K (.ref f5) = true)
    (a6 : PySem.W.nsIn K mainGlobals "most_clearings" = some (some (.ref f6)))
    (l6 : K.lookup f6 = some ⟨oc6, od6, .func (PySem.W.fnOf "most_clearings" "most_clearings" (defArgs sMost) (defBody sMost) (defScope sMost) .none kV6 dc6 pm6 an6 cd6 ct6), sl6⟩)
    (c6 : PySem.W.codeIn K cd6 "most_clearings" = true)
    (k6 : PySem.W.keepIn K (.ref f6) = true)
    (a7 : PySem.W.nsIn K mainGlobals "_law_bag" = some (some (.ref f7)))
    (l7 : K.lookup f7 = some ⟨oc7, od7, .func (PySem.W.fnOf "_law_bag" "_law_bag" (defArgs sBag) (defBody sBag) (defScope sBag) .none kV7 dc7 pm7 an7 cd7 ct7), sl7⟩)
    (c7 : PySem.W.codeIn K cd7 "_law_bag" = true)
    (k7 : PySem.W.keepIn K (.ref f7) = true)
    (a8 : PySem.W.nsIn K mainGlobals "_law_take" = some (some (.ref f8)))
    (l8 : K.lookup f8 = some ⟨oc8, od8, .func (PySem.W.fnOf "_law_take" "_law_take" (defArgs sTake) (defBody sTake) (defScope sTake) .none kV8 dc8 pm8 an8 cd8 ct8), sl8⟩)
    (c8 : PySem.W.codeIn K cd8 "_law_take" = true)
    (k8 : PySem.W.keepIn K (.ref f8) = true)
    (a9 : PySem.W.nsIn K mainGlobals "_law_amount" = some (some (.ref f9)))
    (l9 : K.lookup f9 = some ⟨oc9, od9, .func (PySem.W.fnOf "_law_amount" "_law_amount" (defArgs sAmount) (defBody sAmount) (defScope sAmount) .none kV9 dc9 pm9 an9 cd9 ct9), sl9⟩)
    (c9 : PySem.W.codeIn K cd9 "_law_amount" = true)
    (k9 : PySem.W.keepIn K (.ref f9) = true)
    (a10 : PySem.W.nsIn K mainGlobals "_law_writes" = some (some (.ref f10)))
    (l10 : K.lookup f10 = some ⟨oc10, od10, .func (PySem.W.fnOf "_law_writes" "_law_writes" (defArgs sWrites) (defBody sWrites) (defScope sWrites) .none kV10 dc10 pm10 an10 cd10 ct10), sl10⟩)
    (c10 : PySem.W.codeIn K cd10 "_law_writes" = true)
    (k10 : PySem.W.keepIn K (.ref f10) = true)
    (a11 : PySem.W.nsIn K mainGlobals "_law_steps" = some (some (.ref f11)))
    (l11 : K.lookup f11 = some ⟨oc11, od11, .func (PySem.W.fnOf "_law_steps" "_law_steps" (defArgs sSteps) (defBody sSteps) (defScope sSteps) .none kV11 dc11 pm11 an11 cd11 ct11), sl11⟩)
    (c11 : PySem.W.codeIn K cd11 "_law_steps" = true)
    (k11 : PySem.W.keepIn K (.ref f11) = true)
    (a12 : PySem.W.nsIn K mainGlobals "_law_whole" = some (some (.ref f12)))
    (l12 : K.lookup f12 = some ⟨oc12, od12, .func (PySem.W.fnOf "_law_whole" "_law_whole" (defArgs sWhole) (defBody sWhole) (defScope sWhole) .none kV12 dc12 pm12 an12 cd12 ct12), sl12⟩)
    (c12 : PySem.W.codeIn K cd12 "_law_whole" = true)
    (k12 : PySem.W.keepIn K (.ref f12) = true)
    (a13 : PySem.W.nsIn K mainGlobals "_law_due" = some (some (.ref f13)))
    (l13 : K.lookup f13 = some ⟨oc13, od13, .func (PySem.W.fnOf "_law_due" "_law_due" (defArgs sDue) (defBody sDue) (defScope sDue) .none kV13 dc13 pm13 an13 cd13 ct13), sl13⟩)
    (c13 : PySem.W.codeIn K cd13 "_law_due" = true)
    (k13 : PySem.W.keepIn K (.ref f13) = true)
    (a14 : PySem.W.nsIn K mainGlobals "_law_told" = some (some (.ref f14)))
    (l14 : K.lookup f14 = some ⟨oc14, od14, .func (PySem.W.fnOf "_law_told" "_law_told" (defArgs sTold) (defBody sTold) (defScope sTold) .none kV14 dc14 pm14 an14 cd14 ct14), sl14⟩)
    (c14 : PySem.W.codeIn K cd14 "_law_told" = true)
    (k14 : PySem.W.keepIn K (.ref f14) = true)
    (a15 : PySem.W.nsIn K mainGlobals "_law_right" = some (some (.ref f15)))
    (l15 : K.lookup f15 = some ⟨oc15, od15, .func (PySem.W.fnOf "_law_right" "_law_right" (defArgs sRight) (defBody sRight) (defScope sRight) .none kV15 dc15 pm15 an15 cd15 ct15), sl15⟩)
    (c15 : PySem.W.codeIn K cd15 "_law_right" = true)
    (k15 : PySem.W.keepIn K (.ref f15) = true)
    (a16 : PySem.W.nsIn K mainGlobals "law" = some (some (.ref f16)))
    (l16 : K.lookup f16 = some ⟨oc16, od16, .func (PySem.W.fnOf "law" "law" (defArgs sLaw) (defBody sLaw) (defScope sLaw) .none kV16 dc16 pm16 an16 cd16 ct16), sl16⟩)
    (c16 : PySem.W.codeIn K cd16 "law" = true)
    (k16 : PySem.W.keepIn K (.ref f16) = true)
    (a17 : PySem.W.nsIn K mainGlobals "is_integer" = some (some (.ref f17)))
    (l17 : K.lookup f17 = some ⟨oc17, od17, .func (PySem.W.fnOf "is_integer" "is_integer" (defArgs sIsInt) (defBody sIsInt) (defScope sIsInt) .none kV17 dc17 pm17 an17 cd17 ct17), sl17⟩)
    (c17 : PySem.W.codeIn K cd17 "is_integer" = true)
    (k17 : PySem.W.keepIn K (.ref f17) = true)
    (gBadWrite : PySem.W.nsIn K mainGlobals "BadWrite" = some (some (.ref CBadWrite)))
    (aBadWrite : PySem.W.findIn K (.ref CBadWrite) "__init__" = some (some (.ref fBadWrite)))
    (lBadWrite : K.lookup fBadWrite = some ⟨ocBadWrite, odBadWrite, .func (PySem.W.fnOf "__init__" "BadWrite.__init__" (defArgs sIniW) (defBody sIniW) (defScope sIniW) .none kVBadWrite dcBadWrite pmBadWrite anBadWrite cdBadWrite ctBadWrite), slBadWrite⟩)
    (cBadWrite : PySem.W.codeIn K cdBadWrite "BadWrite.__init__" = true)
    (kBadWrite : PySem.W.keepIn K (.ref fBadWrite) = true)
    (xBadWrite : K.lookup CBadWrite = some (excClassObj nmBadWrite qBadWrite CBadWrite NBadWrite bsBadWrite [.ref EBadWrite, .type "ValueError", .type "Exception", .type "BaseException", .type "object"] true snBadWrite subBadWrite abBadWrite colBadWrite ddBadWrite m0BadWrite m1BadWrite m2BadWrite m3BadWrite m5BadWrite "ValueError.__new__"))
    (sBadWrite : PySem.W.findIn K (.ref CBadWrite) "__setattr__" = some (some (.builtin "object.__setattr__")))
    (eBadWrite : PySem.W.subIn K (.ref CBadWrite) (.type "BaseException") = some true)
    (yBadWrite : PySem.W.typeIn K (.ref CBadWrite) = some (.type "type"))
    (pBadWrite : PySem.W.keepIn K (.ref CBadWrite) = true)
    (tBadWrite : PySem.W.typeIn K (.ref fBadWrite) = some (.type "function"))
    (nBadWrite : PySem.W.findIn K (.ref CBadWrite) "index" = some none)
    (hBadWrite : PySem.W.hasDictIn K CBadWrite = true)
    (gBadOrder : PySem.W.nsIn K mainGlobals "BadOrder" = some (some (.ref CBadOrder)))
    (aBadOrder : PySem.W.findIn K (.ref CBadOrder) "__init__" = some (some (.ref fBadOrder)))
    (lBadOrder : K.lookup fBadOrder = some ⟨ocBadOrder, odBadOrder, .func (PySem.W.fnOf "__init__" "BadOrder.__init__" (defArgs sIniO) (defBody sIniO) (defScope sIniO) .none kVBadOrder dcBadOrder pmBadOrder anBadOrder cdBadOrder ctBadOrder), slBadOrder⟩)
    (cBadOrder : PySem.W.codeIn K cdBadOrder "BadOrder.__init__" = true)
    (kBadOrder : PySem.W.keepIn K (.ref fBadOrder) = true)
    (xBadOrder : K.lookup CBadOrder = some (excClassObj nmBadOrder qBadOrder CBadOrder NBadOrder bsBadOrder [.ref EBadOrder, .type "ValueError", .type "Exception", .type "BaseException", .type "object"] true snBadOrder subBadOrder abBadOrder colBadOrder ddBadOrder m0BadOrder m1BadOrder m2BadOrder m3BadOrder m5BadOrder "ValueError.__new__"))
    (sBadOrder : PySem.W.findIn K (.ref CBadOrder) "__setattr__" = some (some (.builtin "object.__setattr__")))
    (eBadOrder : PySem.W.subIn K (.ref CBadOrder) (.type "BaseException") = some true)
    (yBadOrder : PySem.W.typeIn K (.ref CBadOrder) = some (.type "type"))
    (pBadOrder : PySem.W.keepIn K (.ref CBadOrder) = true)
    (tBadOrder : PySem.W.typeIn K (.ref fBadOrder) = some (.type "function"))
    (nBadOrder : PySem.W.findIn K (.ref CBadOrder) "index" = some none)
    (hBadOrder : PySem.W.hasDictIn K CBadOrder = true)
    (qBadWriteBadWrite : PySem.W.subIn K (.ref CBadWrite) (.ref CBadWrite) = some true)
    (qBadOrderBadWrite : PySem.W.subIn K (.ref CBadOrder) (.ref CBadWrite) = some false)
    (qBadOrderBadOrder : PySem.W.subIn K (.ref CBadOrder) (.ref CBadOrder) = some true)
    (waBadOrder : PySem.W.findIn K (.ref CBadOrder) "__getattribute__" = some (some (.builtin "BaseException.__getattribute__")))
    (wgBadOrder : PySem.W.findIn K (.ref CBadOrder) "__getattr__" = some none)
    (zisinstance : PySem.W.nsIn K mainGlobals "isinstance" = some none)
    (zint : PySem.W.nsIn K mainGlobals "int" = some none)
    (zbool : PySem.W.nsIn K mainGlobals "bool" = some none)
    (ztuple : PySem.W.nsIn K mainGlobals "tuple" = some none)
    (zlist : PySem.W.nsIn K mainGlobals "list" = some none)
    (zlen : PySem.W.nsIn K mainGlobals "len" = some none)
    (zenumerate : PySem.W.nsIn K mainGlobals "enumerate" = some none)
    (zrange : PySem.W.nsIn K mainGlobals "range" = some none)
    (zabs : PySem.W.nsIn K mainGlobals "abs" = some none)
    (zstr : PySem.W.nsIn K mainGlobals "str" = some none)
    (zrepr : PySem.W.nsIn K mainGlobals "repr" = some none)
    (zmax : PySem.W.nsIn K mainGlobals "max" = some none)
    (zmin : PySem.W.nsIn K mainGlobals "min" = some none)
    (zall : PySem.W.nsIn K mainGlobals "all" = some none)
    (iMOST_LENGTH : PySem.W.nsIn K mainGlobals "MOST_LENGTH" = some (some (.int 1000000000000000000 tMOST_LENGTH)))
    (iMOST_WRITES : PySem.W.nsIn K mainGlobals "MOST_WRITES" = some (some (.int 200 tMOST_WRITES)))
    (iMOST_CLEARINGS : PySem.W.nsIn K mainGlobals "MOST_CLEARINGS" = some (some (.int 2 tMOST_CLEARINGS)))
    (uMODES : PySem.W.nsIn K mainGlobals "MODES" = some (some (.ref aMODES)))
    (vMODES : K.lookup aMODES = some ⟨.type "tuple", odMODES, .seq #[.str "plain" tMODES0, .str "push" tMODES1, .str "more" tMODES2] nMODES, slMODES⟩) :
    ∃ fd : FuncData, (∀ (s : Shared) (v : Value), BindsTo s fd ⟨[v], []⟩ [("_law_script", v)]) ∧ ∀ base : Heap, K.In base → base.Ns mainGlobals mg → FnG P w K mg base 9 fa fd ["_law_script"] (spLaw K) := by
  have ef := hfa.symm.trans (PySem.W.mg_of X G a16)
  cases ef
  have F1 := fun_mk (st := sBetw) l1 c1 k1
  have b1 := F1.binds (ps := ["value", "low", "high"]) fun _ _ _ _ _ _ us hl => match us, hl with | [_, _, _], _ => rfl
  have g1 := PySem.W.mg_of X G a1
  have F2 := fun_mk (st := sChk) l2 c2 k2
  have b2 := F2.binds (ps := ["conversation"]) fun _ _ _ _ _ _ us hl => match us, hl with | [_], _ => rfl
  have g2 := PySem.W.mg_of X G a2
  have F3 := fun_mk (st := sIsW) l3 c3 k3
  have b3 := F3.binds (ps := ["value"]) fun _ _ _ _ _ _ us hl => match us, hl with | [_], _ => rfl
  have g3 := PySem.W.mg_of X G a3
  have F4 := fun_mk (st := sTurns) l4 c4 k4
  have b4 := F4.binds (ps := ["conversation"]) fun _ _ _ _ _ _ us hl => match us, hl with | [_], _ => rfl
  have g4 := PySem.W.mg_of X G a4
  have F5 := fun_mk (st := sNorm) l5 c5 k5
  have b5 := F5.binds (ps := ["conversation", "order"]) fun _ _ _ _ _ _ us hl => match us, hl with | [_, _], _ => rfl
  have g5 := PySem.W.mg_of X G a5
  have F6 := fun_mk (st := sMost) l6 c6 k6
  have b6 := F6.binds (ps := ["conversation"]) fun _ _ _ _ _ _ us hl => match us, hl with | [_], _ => rfl
  have g6 := PySem.W.mg_of X G a6
  have F7 := fun_mk (st := sBag) l7 c7 k7
  have b7 := F7.binds (ps := ["_law_script", "_law_at"]) fun _ _ _ _ _ _ us hl => match us, hl with | [_, _], _ => rfl
  have g7 := PySem.W.mg_of X G a7
  have F8 := fun_mk (st := sTake) l8 c8 k8
  have b8 := F8.binds (ps := ["_law_bag_here", "_law_many"]) fun _ _ _ _ _ _ us hl => match us, hl with | [_, _], _ => rfl
  have g8 := PySem.W.mg_of X G a8
  have F9 := fun_mk (st := sAmount) l9 c9 k9
  have b9 := F9.binds (ps := ["_law_bag_here", "_law_width"]) fun _ _ _ _ _ _ us hl => match us, hl with | [_, _], _ => rfl
  have g9 := PySem.W.mg_of X G a9
  have F10 := fun_mk (st := sWrites) l10 c10 k10
  have b10 := F10.binds (ps := ["_law_bag_here", "_law_width", "_law_many"]) fun _ _ _ _ _ _ us hl => match us, hl with | [_, _, _], _ => rfl
  have g10 := PySem.W.mg_of X G a10
  have F11 := fun_mk (st := sSteps) l11 c11 k11
  have b11 := F11.binds (ps := ["_law_bag_here", "_law_writes_here"]) fun _ _ _ _ _ _ us hl => match us, hl with | [_, _], _ => rfl
  have g11 := PySem.W.mg_of X G a11
  have F12 := fun_mk (st := sWhole) l12 c12 k12
  have b12 := F12.binds (ps := ["_law_value"]) fun _ _ _ _ _ _ us hl => match us, hl with | [_], _ => rfl
  have g12 := PySem.W.mg_of X G a12
  have F13 := fun_mk (st := sDue) l13 c13 k13
  have b13 := F13.binds (ps := ["_law_some", "_law_value"]) fun _ _ _ _ _ _ us hl => match us, hl with | [_, _], _ => rfl
  have g13 := PySem.W.mg_of X G a13
  have F14 := fun_mk (st := sTold) l14 c14 k14
  have b14 := F14.binds (ps := ["_law_some", "_law_value"]) fun _ _ _ _ _ _ us hl => match us, hl with | [_, _], _ => rfl
  have g14 := PySem.W.mg_of X G a14
  have F15 := fun_mk (st := sRight) l15 c15 k15
  have b15 := F15.binds (ps := ["_law_some", "_law_value"]) fun _ _ _ _ _ _ us hl => match us, hl with | [_, _], _ => rfl
  have g15 := PySem.W.mg_of X G a15
  have F16 := fun_mk (st := sLaw) l16 c16 k16
  have b16 := F16.binds (ps := ["_law_script"]) fun _ _ _ _ _ _ us hl => match us, hl with | [_], _ => rfl
  have g16 := PySem.W.mg_of X G a16
  have F17 := fun_mk (st := sIsInt) l17 c17 k17
  have b17 := F17.binds (ps := ["value"]) fun _ _ _ _ _ _ us hl => match us, hl with | [_], _ => rfl
  have g17 := PySem.W.mg_of X G a17
  have FBadWrite := fun_mk (st := sIniW) lBadWrite cBadWrite kBadWrite
  have bBadWrite := FBadWrite.binds (ps := ["self", "index"]) fun _ _ _ _ _ _ us hl => match us, hl with | [_, _], _ => rfl
  have OBadWrite : OexC K CBadWrite := ⟨⟨nmBadWrite, qBadWrite, NBadWrite, bsBadWrite, _, snBadWrite, subBadWrite, abBadWrite, colBadWrite, ddBadWrite, m0BadWrite, m1BadWrite, m2BadWrite, m3BadWrite, m5BadWrite, xBadWrite, by first | rfl | decide +kernel⟩, sBadWrite, eBadWrite, yBadWrite, pBadWrite⟩
  have FBadOrder := fun_mk (st := sIniO) lBadOrder cBadOrder kBadOrder
  have bBadOrder := FBadOrder.binds (ps := ["self", "index"]) fun _ _ _ _ _ _ us hl => match us, hl with | [_, _], _ => rfl
  have OBadOrder : OexC K CBadOrder := ⟨⟨nmBadOrder, qBadOrder, NBadOrder, bsBadOrder, _, snBadOrder, subBadOrder, abBadOrder, colBadOrder, ddBadOrder, m0BadOrder, m1BadOrder, m2BadOrder, m3BadOrder, m5BadOrder, xBadOrder, by first | rfl | decide +kernel⟩, sBadOrder, eBadOrder, yBadOrder, pBadOrder⟩
  have T : Txt K mg := { isi := PySem.W.mg_none_of X G zisinstance, isint := ⟨_, _, F17, b17, g17⟩, int := PySem.W.mg_none_of X G zint, bool := PySem.W.mg_none_of X G zbool, tuple := PySem.W.mg_none_of X G ztuple, list := PySem.W.mg_none_of X G zlist, len := PySem.W.mg_none_of X G zlen, enumerate := PySem.W.mg_none_of X G zenumerate, range := PySem.W.mg_none_of X G zrange, mlen := ⟨_, PySem.W.mg_of X G iMOST_LENGTH⟩, modes := ⟨_, PySem.W.mg_of X G uMODES, fun H => Or.inr ⟨_, _, _, vMODES, rfl, rfl, by show 3 ≤ sizeLine; decide, .cons ⟨_, rfl⟩ (.cons ⟨_, rfl⟩ (.cons ⟨_, rfl⟩ .nil))⟩⟩ }
  have gW := PySem.W.mg_of X G gBadWrite
  have gO := PySem.W.mg_of X G gBadOrder
  have EX : Exm K CBadWrite CBadOrder := ⟨exm_ref' eBadWrite hBadWrite yBadWrite qBadWriteBadWrite, exm_ref' eBadWrite hBadWrite yBadWrite qBadOrderBadWrite, exm_ref' eBadOrder hBadOrder yBadOrder qBadOrderBadOrder, ⟨waBadOrder, wgBadOrder, eBadOrder, hBadOrder⟩⟩
  refine ⟨PySem.W.fnOf "law" "law" (defArgs sLaw) (defBody sLaw) (defScope sLaw) .none kV16 dc16 pm16 an16 cd16 ct16, fun s v => .of_eq rfl, fun base _ _ => ?_⟩
  have TW : ErC P w K mg base "BadWrite" "index" CBadWrite fBadWrite _ := ⟨OBadWrite, gW, aBadWrite, tBadWrite, nBadWrite, ok_iniW FBadWrite, bBadWrite⟩
  have TO : ErC P w K mg base "BadOrder" "index" CBadOrder fBadOrder _ := ⟨OBadOrder, gO, aBadOrder, tBadOrder, nBadOrder, ok_iniO FBadOrder, bBadOrder⟩
  have G3 : FnOk P w K mg base CX0 2 f3 _ ["value"] (spIsW K) := ok_isW F3 T F1 b1 g1
  have G2 : FnOk P w K mg base (L2.CX P w) 3 f2 _ ["conversation"] (spChk K CBadWrite) := ok_chk F2 T ⟨_, PySem.W.mg_of X G iMOST_WRITES⟩ TW F3 b3 g3 G3
  have G4 : FnOk P w K mg base (L2.CX P w) 4 f4 _ ["conversation"] (spTurns K CBadWrite) := ok_turns F4 T F2 b2 g2 G2
  have G6 : FnOk P w K mg base (L2.CX P w) 5 f6 _ ["conversation"] (spMost K CBadWrite) := ok_most F6 T ⟨_, PySem.W.mg_of X G iMOST_CLEARINGS⟩ F4 b4 g4 G4
  have G5 : FnOk P w K mg base (L2.CX P w) 6 f5 _ ["conversation", "order"] (spNorm K CBadWrite CBadOrder) := ok_norm F5 T TO F6 b6 g6 G6 F1 b1 g1
  have G7 : FnOk P w K mg base CX0 1 f7 _ ["_law_script", "_law_at"] (spBag K) := ok_bag F7 T (PySem.W.mg_none_of X G zabs)
  have G8 : FnOk P w K mg base CX0 1 f8 _ ["_law_bag_here", "_law_many"] spTake := ok_take F8 T
  have G10 : FnOk P w K mg base CX0 3 f10 _ ["_law_bag_here", "_law_width", "_law_many"] (spWrites K) := ok_writes F10 T F8 b8 g8 F9 b9 g9
  have G11 : FnOk P w K mg base CX0 2 f11 _ ["_law_bag_here", "_law_writes_here"] (spSteps K) := ok_steps F11 T F8 b8 g8
  have G13 : FnOk P w K mg base CX0 2 f13 _ ["_law_some", "_law_value"] (spDue K) := ok_due F13 T (PySem.W.mg_none_of X G zstr) F12 b12 g12
  have G14 : FnOk P w K mg base CX0 7 f14 _ ["_law_some", "_law_value"] (spTold K) := ok_told F14 EX gW TO F5 b5 g5 G5
  have G15 : FnG P w K mg base 8 f15 _ ["_law_some", "_law_value"] (spRight K) := ok_right F15 T (PySem.W.mg_none_of X G zrepr) F13 b13 g13 G13 F14 b14 g14 G14
  exact ok_law F16 T (PySem.W.mg_none_of X G zmax) (PySem.W.mg_none_of X G zmin) (PySem.W.mg_none_of X G zall) F7 b7 g7 G7 F8 b8 g8 G8 F10 b10 g10 G10 F11 b11 g11 G11 F15 b15 g15 G15 F14 b14 g14 G14
def walk := @walkG
end Lw
open PySem PySem.W PyProof.Rows
set_option maxRecDepth 100000 in
set_option maxHeartbeats 0 in
theorem PySem.Challenge.cw_latewords_k05_orders_holds : PySem.Challenge.rw_latewords_k05_orders.Holds := by
  w_on; o_law; k_head; (case hw => w_witness2)
  k_fill
  refine L3.walkG (l := PySem.Challenge.rw_latewords_k05_orders) (n := 63) (k := 9) (x := "_law_script") (sp := fun w => Lw.spLaw _) rfl (by decide) rfl ⟨rfl, by decide, by decide⟩ (fun w h Y => PySem.W.kIn_of Y) ?F (fun _ _ a ns hl _ hS => ⟨a, ns, rfl, hS, hl, fun _ => rfl⟩)
  case F =>
    intro w mg fa h KX G hmg
    refine' Lw.all_mk KX G hmg ?a1 ?l1 ?c1 ?k1 ?a2 ?l2 ?c2 ?k2 ?a3 ?l3 ?c3 ?k3 ?a4 ?l4 ?c4 ?k4 ?a5 ?l5 ?c5 ?k5 ?a6 ?l6 ?c6 ?k6 ?a7 ?l7 ?c7 ?k7 ?a8 ?l8 ?c8 ?k8 ?a9 ?l9 ?c9 ?k9 ?a10 ?l10 ?c10 ?k10 ?a11 ?l11 ?c11 ?k11 ?a12 ?l12 ?c12 ?k12 ?a13 ?l13 ?c13 ?k13 ?a14 ?l14 ?c14 ?k14 ?a15 ?l15 ?c15 ?k15 ?a16 ?l16 ?c16 ?k16 ?a17 ?l17 ?c17 ?k17 ?gBadWrite ?aBadWrite ?lBadWrite ?cBadWrite ?kBadWrite ?xBadWrite ?sBadWrite ?eBadWrite ?yBadWrite ?pBadWrite ?tBadWrite ?nBadWrite ?hBadWrite ?gBadOrder ?aBadOrder ?lBadOrder ?cBadOrder ?kBadOrder ?xBadOrder ?sBadOrder ?eBadOrder ?yBadOrder ?pBadOrder ?tBadOrder ?nBadOrder ?hBadOrder ?qBadWriteBadWrite ?qBadOrderBadWrite ?qBadOrderBadOrder ?waBadOrder ?wgBadOrder ?zisinstance ?zint ?zbool ?ztuple ?zlist ?zlen ?zenumerate ?zrange ?zabs ?zstr ?zrepr ?zmax ?zmin ?zall ?iMOST_LENGTH ?iMOST_WRITES ?iMOST_CLEARINGS ?uMODES ?vMODES
    (case a1 => k_is)
    (case l1 => k_is)
    (case c1 => k_is)
    (case k1 => k_is)
    (case a2 => k_is)
    (case l2 => k_is)
    (case c2 => k_is)
    (case k2 => k_is)
    (case a3 => k_is)
    (case l3 => k_is)
    (case c3 => k_is)
    (case k3 => k_is)
    (case a4 => k_is)
    (case l4 => k_is)
    (case c4 => k_is)
    (case k4 => k_is)
    (case a5 => k_is)
    (case l5 => k_is)
    (case c5 => k_is)
    (case k5 => k_is)
    (case a6 => k_is)
    (case l6 => k_is)
    (case c6 => k_is)
    (case k6 => k_is)
    (case a7 => k_is)
    (case l7 => k_is)
    (case c7 => k_is)
    (case k7 => k_is)
    (case a8 => k_is)
    (case l8 => k_is)
    (case c8 => k_is)
    (case k8 => k_is)
    (case a9 => k_is)
    (case l9 => k_is)
    (case c9 => k_is)
    (case k9 => k_is)
    (case a10 => k_is)
    (case l10 => k_is)
    (case c10 => k_is)
    (case k10 => k_is)
    (case a11 => k_is)
    (case l11 => k_is)
    (case c11 => k_is)
    (case k11 => k_is)
    (case a12 => k_is)
    (case l12 => k_is)
    (case c12 => k_is)
    (case k12 => k_is)
    (case a13 => k_is)
    (case l13 => k_is)
    (case c13 => k_is)
    (case k13 => k_is)
    (case a14 => k_is)
    (case l14 => k_is)
    (case c14 => k_is)
    (case k14 => k_is)
    (case a15 => k_is)
    (case l15 => k_is)
    (case c15 => k_is)
    (case k15 => k_is)
    (case a16 => k_is)
    (case l16 => k_is)
    (case c16 => k_is)
    (case k16 => k_is)
    (case a17 => k_is)
    (case l17 => k_is)
    (case c17 => k_is)
    (case k17 => k_is)
    (case gBadWrite => k_is)
    (case aBadWrite => k_is)
    (case lBadWrite => k_is)
    (case cBadWrite => k_is)
    (case kBadWrite => k_is)
    (case xBadWrite => k_is)
    (case sBadWrite => k_is)
    (case eBadWrite => k_is)
    (case yBadWrite => k_is)
    (case pBadWrite => k_is)
    (case tBadWrite => k_is)
    (case nBadWrite => k_is)
    (case hBadWrite => k_is)
    (case gBadOrder => k_is)
    (case aBadOrder => k_is)
    (case lBadOrder => k_is)
    (case cBadOrder => k_is)
    (case kBadOrder => k_is)
    (case xBadOrder => k_is)
    (case sBadOrder => k_is)
    (case eBadOrder => k_is)
    (case yBadOrder => k_is)
    (case pBadOrder => k_is)
    (case tBadOrder => k_is)
    (case nBadOrder => k_is)
    (case hBadOrder => k_is)
    (case qBadWriteBadWrite => first | rfl | k_is | decide +kernel | exact ⟨by decide +kernel, by decide +kernel⟩)
    (case qBadOrderBadWrite => first | rfl | k_is | decide +kernel | exact ⟨by decide +kernel, by decide +kernel⟩)
    (case qBadOrderBadOrder => first | rfl | k_is | decide +kernel | exact ⟨by decide +kernel, by decide +kernel⟩)
    (case waBadOrder => k_is)
    (case wgBadOrder => k_is)
    (case zisinstance => k_is)
    (case zint => k_is)
    (case zbool => k_is)
    (case ztuple => k_is)
    (case zlist => k_is)
    (case zlen => k_is)
    (case zenumerate => k_is)
    (case zrange => k_is)
    (case zabs => k_is)
    (case zstr => k_is)
    (case zrepr => k_is)
    (case zmax => k_is)
    (case zmin => k_is)
    (case zall => k_is)
    (case iMOST_LENGTH => k_is)
    (case iMOST_WRITES => k_is)
    (case iMOST_CLEARINGS => k_is)
    (case uMODES => k_is)
    (case vMODES => k_is)
#print axioms PySem.Challenge.cw_latewords_k05_orders_holds
