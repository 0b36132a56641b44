import PyProof.Rows.All
import Wide.All
import OpenK.AllK
import Wide.FinOn
import HandS.ForMost
import HandS.Exc
import HandS.ExcOwn
import HandS.ExcInit
import HandS.ExcField
import HandS.TryMany
import HandS.WordsExc
import HandS.IsInst
import HandS.Wide
import HandS.Evl
import HandS.RaiseMore
import HandS.Defaults
import HandS.Flow
import HandS.Walk
import PyProof.ReprLen
import HandS.DeepEq
import HandS.ExcIs
import KE.KOpsOwn
import KE.KFmtOwn
import KE.KCallOwn
import PyProof.InstNe
import HandS.FStr
import HandS.OwnEq
import HandS.ClsMeth
import HandS.MakeKwOnly
import HandS.Star
import HandS.Lambda
import HandS.EndTab
import HandS.EndOwn
import PyProof.MeetsIn
import HandS.TupAny
import KE.KDictKeyed
import KE.KDictLaw
import HandS.Dict
import HandS.Small
import HandS.WideBits
import KE.KAssignIn
import HandS.MakeKw
import HandS.Style
import PySem.Challenge.RW_latewords_k08_states_of_great_lengths
set_option Elab.async false
set_option linter.all false
set_option maxRecDepth 100000
set_option maxHeartbeats 8000000
namespace L3
open PySem PySem.Spec PyProof.Rows L2 Evl
/-! ### data in a heap that grows -/
section
variable {K : PySem.W.Frag} {H H1 : Hp}
mutual
theorem dp_ex (e : Ex H H1) : ∀ {d : PyData} {x : V}, Dp K H x d → Dp K H1 x d
  | _, _, .non => .non
  | _, _, .bl b => .bl b
  | _, _, .int i => .int i
  | _, _, .str x => .str x
  | _, _, .lst h a => .lst (ex_l e h) (dps_ex e a)
  | _, _, .tup h a => .tup (ex_t e h) (dps_ex e a)
theorem dps_ex (e : Ex H H1) : ∀ {ds : List PyData} {xs : List V}, DpAll K H xs ds → DpAll K H1 xs ds
  | _, _, .nil => .nil
  | _, _, .cons a r => .cons (dp_ex e a) (dps_ex e r)
end
/-- the name of a datum's type -/
def tyN : PyData → String
  | .none => "NoneType"
  | .bool _ => "bool"
  | .int _ => "int"
  | .str _ => "str"
  | .list _ => "list"
  | .tuple _ => "tuple"
  | .dict _ => "dict"
theorem ty_list {a : Addr} {xs : List V} (h : SqL K H a xs) : TyX K H (.ref a) (.type "list") := by
  rcases h with (h | ⟨o, h⟩) | ⟨o, its, n, h, c, _⟩
  · exact .base (.lst h)
  · exact .base (.frz h)
  · exact .kList h c
theorem ty_tup {a : Addr} {xs : List V} (h : SqT K H a xs) : TyX K H (.ref a) (.type "tuple") := by
  rcases h with (h | ⟨o, h⟩) | ⟨o, its, n, h, c, _⟩
  · exact .base (.tup h)
  · exact .fTuple h
  · exact .kTuple h c
theorem dp_ty {d : PyData} {x : V} (h : Dp K H x d) : TyX K H x (.type (tyN d)) := by
  cases h with
  | non => exact .base .non
  | bl b => exact .base (.bl b)
  | int i => exact .base (.int i)
  | str z => exact .base (.str z)
  | lst h _ => exact ty_list h
  | tup h _ => exact ty_tup h
end
def isIntD : PyData → Bool
  | .int _ => true
  | .bool _ => true
  | _ => false
def isBoolD : PyData → Bool
  | .bool _ => true
  | _ => false
def isListD : PyData → Bool
  | .list _ => true
  | _ => false
def isTupD : PyData → Bool
  | .tuple _ => true
  | _ => false
def isStrD : PyData → Bool
  | .str _ => true
  | _ => false
theorem kit_int (d : PyData) : kitB (tyN d) "int" = some (isIntD d) := by
  cases d <;> (dsimp only [tyN, isIntD, isBoolD, isListD, isTupD, isStrD]; decide +kernel)
theorem kit_bool (d : PyData) : kitB (tyN d) "bool" = some (isBoolD d) := by
  cases d <;> (dsimp only [tyN, isIntD, isBoolD, isListD, isTupD, isStrD]; decide +kernel)
theorem kit_list (d : PyData) : kitB (tyN d) "list" = some (isListD d) := by
  cases d <;> (dsimp only [tyN, isIntD, isBoolD, isListD, isTupD, isStrD]; decide +kernel)
theorem kit_tuple (d : PyData) : kitB (tyN d) "tuple" = some (isTupD d) := by
  cases d <;> (dsimp only [tyN, isIntD, isBoolD, isListD, isTupD, isStrD]; decide +kernel)
theorem kit_str (d : PyData) : kitB (tyN d) "str" = some (isStrD d) := by
  cases d <;> (dsimp only [tyN, isIntD, isBoolD, isListD, isTupD, isStrD]; decide +kernel)
section
variable {K : PySem.W.Frag} {σ : L2.St} {H H' : Hp} {ta tb tc te tx : TE} {t u : TT} {x y z v : V} {r : R2}
/-- isinstance(x, T), T a built-in type by its name -/
theorem ev_isi {d : PyData} {n : String} {b : Bool} (ha : Ev ta σ H x) (hd : Dp K H x d) (hb : kitB (tyN d) n = some b) :
    Ev (tCB (rIsi K) (tCons ta (tCons (tC (.ty n)) tNil))) σ H (.bl b) :=
  ev_cb (ea_cons ha (ea_cons ev_c ea_nil)) fun H1 e Q q => ⟨x, .ty n, _, _, b, rfl, .ty n, dp_ty (dp_ex e hd), kit_ty hb, q H1 (Ex.refl H1)⟩
/-- a op b op c of three ints -/
theorem ev_chain {g g' : Int → Int → Bool} {i j k : Int} (ha : Ev ta σ H (.int i)) (hb : Ev tb σ H (.int j)) (hc : Ev tc σ H (.int k)) :
    Ev (tChain (rI0 fun i j => .bl (g i j)) (rI0 fun i j => .bl (g' i j)) ta tb tc) σ H (.bl (g i j && g' j k)) := fun H1 e Q q =>
  ha H1 e _ fun H2 e2 => hb H2 (e.trans e2) _ fun H3 e3 => ⟨i, j, rfl, rfl, g i j, rfl, by
    cases h : g i j with
    | true =>
      rw [h] at q
      show tc σ H3 _
      exact hc H3 ((e.trans e2).trans e3) _ fun H4 e4 => ⟨j, k, rfl, rfl, q H4 ((e2.trans e3).trans e4)⟩
    | false =>
      rw [h] at q
      show Q (.bl false) H3
      exact q H3 (e2.trans e3)⟩
end
/-- a built-in type by its name, as a value -/
theorem pe_ty {X : Cx} {x : Str} {pos : Pos} (n : String) (hm : X.mg x = none) (hv : bootBuiltins x = some (.type n) := by decide +kernel) (hg : Gl X x := by rfl)
    (hn : x ≠ "__name__" := by decide) (hd : (x == ("__debug__" : Str)) = false := by decide) : PE X (.Name x pos) (tC (.ty n)) :=
  pe_bltn (v := .ty n) (u := .type n) hg hm hv rfl hn hd
end L3

namespace L3
open PySem PySem.Spec PyProof.Rows L2 Evl
/-! ### loops over new pairs -/
section
variable {K : PySem.W.Frag} {σ : L2.St} {H : Hp} {D : Ends} {tu tz : TS}
/-- for i, x in enumerate(list): slots j and k -/
theorem s_forEn {a : Addr} {xs : List V} {ta : TA} {j k : Nat} (h : EvA ta σ H [.ref a]) (hx : SqL K H a xs) (Pv : Nat → L2.St → Hp → Prop) (h0 : ∀ H1, Ex H H1 → Pv 0 σ H1)
    (hl : ∀ i σ' H', i ≤ xs.length → Pv i σ' H' → SqL K H' a xs)
    (hs : ∀ i x σ' H', xs[i]? = some x → Pv i σ' H' → ∀ H1, Ex H' H1 → tu { D with nx := Pv (i + 1), ct := Pv (i + 1), bk := D.nx } ((σ'.set j (some (.int (i : Nat)))).set k (some x)) H1)
    (hd : ∀ σ' H', Pv xs.length σ' H' → D.nx σ' H') : tFor (iEnum K ta) (gTup K 2 (gCons (gName j) (gCons (gName k) gNil))) tu D σ H :=
  h H (Ex.refl H) _ fun H1 e => ⟨a, xs, rfl, ex_l e hx, for_it (walk_enum (xs := xs)) Pv (h0 H1 e) (fun i σ' H' hi p => hl i σ' H' hi p) (fun i v σ' H' H2 hi p y => by
    obtain ⟨T, x, z, rfl, hT, rfl, hx1, hz⟩ := y
    cases hx1
    refine ⟨T, _, rfl, Or.inl (Or.inl upd_same), rfl, ?_⟩
    refine ⟨_, _, rfl, _, _, rfl, rfl, ?_⟩
    exact hs i z σ' H' hz p _ (Ex.new hT)) hd⟩
theorem q_forEn {a : Addr} {xs : List V} {ta : TA} {j k : Nat} (h : EvA ta σ H [.ref a]) (hx : SqL K H a xs) (Pv : Nat → L2.St → Hp → Prop) (h0 : ∀ H1, Ex H H1 → Pv 0 σ H1)
    (hl : ∀ i σ' H', i ≤ xs.length → Pv i σ' H' → SqL K H' a xs)
    (hs : ∀ i x σ' H', xs[i]? = some x → Pv i σ' H' → ∀ H1, Ex H' H1 → tu { D with nx := Pv (i + 1), ct := Pv (i + 1), bk := tz D } ((σ'.set j (some (.int (i : Nat)))).set k (some x)) H1)
    (hd : ∀ σ' H', Pv xs.length σ' H' → tz D σ' H') : tSeq (tFor (iEnum K ta) (gTup K 2 (gCons (gName j) (gCons (gName k) gNil))) tu) tz D σ H :=
  s_forEn (D := { D with nx := tz D }) h hx Pv h0 hl hs hd
end
/-! ### an own error class with one field, told by its __init__ -/
/-- an error of the class at C is in the air, its own dict holds f = v; all that stood stands -/
def ErrV (C : Addr) (f : Str) (v : V) (H : Hp) (E : XK) : Prop := ∀ (d : Addr) (H' : Hp), Ex H H' → H d = none → H' d = some (.xd [(f, v)]) → E (.ref C) (some d) H'
theorem ErrV.go {C : Addr} {f : Str} {v : V} {H H1 : Hp} {E : XK} (k : ErrV C f v H E) (e : Ex H H1) : ErrV C f v H1 E := fun d H' e2 hd h => k d H' (e.trans e2) (fresh_back e hd) h
/-- __init__(self, f): self.f = f, for a fresh error -/
def spErr (K : PySem.W.Frag) (C : Addr) (f : Str) : Sp := fun vs H Q _ => ∃ (a : Addr) (v : V), vs = [.ref a, v] ∧ OexC K C ∧ PySem.W.findIn K (.ref C) f = some none ∧ H a = some (exo a C none) ∧
  ∀ dx, H dx = none → dx ≠ a → Q .non (upd (upd H dx (exd dx [(f, v)])) a (exo a C (some dx)))
/-- what is known of such a class and of its __init__, at fI -/
structure ErC (P : Program) (w : World) (K : PySem.W.Frag) (mg : Str → Option Value) (base : Heap) (x : Str) (f : Str) (C fI : Addr) (fd : FuncData) : Prop where
  oex : OexC K C
  hm : mg x = some (.ref C)
  iC : PySem.W.findIn K (.ref C) "__init__" = some (some (.ref fI))
  tI : PySem.W.typeIn K (.ref fI) = some (.type "function")
  no : PySem.W.findIn K (.ref C) f = some none
  ok : FnOk P w K mg base CX0 1 fI fd ["self", f] (spErr K C f)
  bi : Binds K fd ["self", f] []
/-- raise C(e) -/
def tRz (K : PySem.W.Frag) (C : Addr) (f : Str) (W : WX) (te : TE) : TS := fun _ σ H => tMkO C (spErr K C f) [] (tCons te tNil) σ H fun cls d H' => W cls d σ H'
theorem ps_rz {X : Cx} {x f : Str} {C fI : Addr} {fd : FuncData} {W : WX} {e : Expr} {te : TE} {p pos pos' : Pos} (hc : X.calm = true) (T : ErC X.prog X.w X.K X.mg X.base x f C fI fd) (hr : Room 2 X.A) (tk : Takes X W) (he : PA X [e] (tCons te tNil)) (hg : Gl X x := by rfl)
    (hdb : (x == ("__debug__" : Str)) = false := by decide) (hst : starEach (e :: []) X.env = (false, eval e X.env) :: starEach [] X.env := by rfl) (hpl : (backTo pos (starEach [] X.env)).any (·.1) = false := by rfl) :
    PS X (.Raise (some (.Call (.Name x p) [e] [] pos)) none pos') (tRz X.K C f W te) :=
  ps_raise hc tk (pmk_oex (sp := spErr X.K C f) T.oex T.iC T.tI T.ok hr T.bi .nil pass0 hg T.hm he hdb hst hpl)
theorem s_rz {K : PySem.W.Frag} {C : Addr} {f : Str} {W : WX} {te : TE} {σ : L2.St} {H : Hp} {v : V} {D : Ends} (h : Ev te σ H v) (ox : OexC K C) (no : PySem.W.findIn K (.ref C) f = some none)
    (k : ErrV C f v H fun cls d H' => W cls d σ H') : tRz K C f W te D σ H := by
  refine h H (Ex.refl H) _ fun H1 e => ?_
  refine ⟨by show 1 ≤ 1000; decide, fun a ha => ⟨a, v, rfl, ox, no, upd_same, fun dx hdx hne => ⟨rfl, dx, [(f, v)], upd_same, ?_, ?_, ?_⟩⟩⟩
  · rw [upd_ne hne]
    exact upd_same
  · rw [upd_ne hne] at hdx
    exact hdx
  · rw [upd_ne hne] at hdx
    have eH : upd (del (upd (upd (upd H1 a (exo a C none)) dx (exd dx [(f, v)])) a (exo a C (some dx))) a) dx (.xd [(f, v)]) = upd H1 dx (.xd [(f, v)]) := by
      funext b
      by_cases hb : b = dx
      · rw [hb, upd_same, upd_same]
      · rw [upd_ne hb, upd_ne hb]
        by_cases hba : b = a
        · rw [hba, del_same, ha]
        · rw [del_ne hba, upd_ne hba, upd_ne hb, upd_ne hba]
    rw [eH]
    exact k dx _ (e.trans (Ex.new hdx)) (fresh_back e hdx) upd_same
/-- the body of such an __init__ -/
theorem s_ini {K : PySem.W.Frag} {C : Addr} {f : Str} {vs : List V} {H : Hp} {Q : VK} {E : XK} {N : List Str} (h : spErr K C f vs H Q E) (hN : start N vs = vs.map some) :
    tOst K f (tVar 0) (tVar 1) { nx := fun _ H' => Q .non H', rt := Q } (start N vs) H := by
  obtain ⟨a, v, rfl, ox, no, ha, k⟩ := h
  rw [hN]
  exact ⟨v, rfl, .ref a, rfl, a, C, rfl, ox, no, .inl ⟨ha, k⟩⟩
end L3

namespace L3
open PySem PySem.Spec PyProof.Rows L2 Evl
/-! ### a list of one's own beside what stands -/
section
variable {K : PySem.W.Frag} {H H1 H2 : Hp} {l : Addr}
theorem ex_del_self : Ex (del H l) H := fun a o e => by
  by_cases h : a = l
  · rw [h, del_same] at e
    cases e
  · rw [del_ne h] at e
    exact e
theorem ex_del (e : Ex H H1) : Ex (del H l) (del H1 l) := fun a o h => by
  by_cases c : a = l
  · rw [c, del_same] at h
    cases h
  · rw [del_ne c] at h ⊢
    exact e a o h
theorem del_upd {o : HO} : del (upd H l o) l = del H l := by
  funext b
  by_cases c : b = l
  · rw [c, del_same, del_same]
  · rw [del_ne c, del_ne c, upd_ne c]
/-- what does not know l stands beside l -/
theorem ex_beside (e : Ex H H1) (h : H l = none) : Ex H (del H1 l) := fun a o q => by
  have c : a ≠ l := ne_of_none q h
  rw [del_ne c]
  exact e a o q
/-- a new list of data is handed back: what stood stands beside it -/
def RetLD (K : PySem.W.Frag) (ds : List PyData) (H : Hp) (Q : VK) : Prop := ∀ p xs H2, H p = none → Ex H (del H2 p) → H2 p = some (.lst xs) → DpAll K (del H2 p) xs ds → Q (.ref p) H2
theorem RetLD.go {ds : List PyData} {Q : VK} (k : RetLD K ds H Q) (e : Ex H H1) : RetLD K ds H1 Q := fun p xs H2 h1 h2 h3 h4 => k p xs H2 (fresh_back e h1) (e.trans h2) h3 h4
theorem dps_snoc {xs : List V} {ds : List PyData} {x : V} {d : PyData} (h : DpAll K H xs ds) (hx : Dp K H x d) : DpAll K H (xs ++ [x]) (ds ++ [d]) := by
  induction ds generalizing xs with
  | nil =>
    cases h
    exact .cons hx .nil
  | cons e es ih =>
    cases h with
    | cons a r => exact .cons a (ih r)
theorem dps_len' : ∀ {xs : List V} {ds : List PyData}, DpAll K H xs ds → xs.length = ds.length
  | _, _, .nil => rfl
  | _, _, .cons _ r => by rw [List.length_cons, List.length_cons, dps_len' r]
theorem dps_at {xs : List V} {ds : List PyData} {i : Nat} {d : PyData} (h : DpAll K H xs ds) (hi : ds[i]? = some d) : ∃ x, xs[i]? = some x ∧ Dp K H x d := by
  induction ds generalizing xs i with
  | nil => simp at hi
  | cons e es ih =>
    cases h with
    | @cons v vs _ _ a r =>
      cases i with
      | zero =>
        simp at hi
        exact ⟨v, by simp, hi ▸ a⟩
      | succ j =>
        obtain ⟨x, h1, h2⟩ := ih r (by simpa using hi)
        exact ⟨x, by simpa using h1, h2⟩
end
/-! ### a conversation: its writes -/
abbrev Wr := Int × Int × Str
def wD (w : Wr) : PyData := .tuple [.int w.1, .int w.2.1, .str w.2.2]
def cD (ws : List Wr) : PyData := .list (ws.map wD)
/-- the endpoint of the j-th write -/
def spk (ws : List Wr) (j : Nat) : Int := (ws.getD j (0, 0, "")).1
theorem spk_of {ws : List Wr} {j : Nat} {w : Wr} (h : ws[j]? = some w) : spk ws j = w.1 := by
  unfold spk
  rw [List.getD_eq_getElem?_getD, h]
  rfl
section
variable {K : PySem.W.Frag} {H : Hp}
theorem wr_at {xs : List V} {ws : List Wr} {j : Nat} (h : DpAll K H xs (ws.map wD)) (hj : j < ws.length) : ∃ (t : Addr) (w : Wr), ws[j]? = some w ∧ xs[j]? = some (.ref t) ∧ SqT K H t [.int w.1, .int w.2.1, .str w.2.2] := by
  have e : ws[j]? = some ws[j] := by simp [hj]
  obtain ⟨x, h1, h2⟩ := dps_at h (i := j) (d := wD ws[j]) (by rw [List.getElem?_map, e]; rfl)
  cases h2 with
  | tup hs ha =>
    cases ha with
    | cons a1 r1 =>
    cases r1 with
    | cons a2 r2 =>
    cases r2 with
    | cons a3 r3 =>
    cases r3
    cases a1
    cases a2
    cases a3
    exact ⟨_, _, e, h1, hs⟩
end
/-! ### turns -/
/-- one step of the search for turns: what is found, the start of the running one -/
def tstep (ws : List Wr) (a : List (Int × Nat × Nat) × Nat) (stop : Nat) : List (Int × Nat × Nat) × Nat :=
  if stop = ws.length ∨ spk ws stop ≠ spk ws a.2 then (a.1 ++ [(spk ws a.2, a.2, stop)], stop) else a
def tN (ws : List Wr) : Nat → List (Int × Nat × Nat) × Nat
  | 0 => ([], 0)
  | i + 1 => tstep ws (tN ws i) (i + 1)
def turnsM (ws : List Wr) : List (Int × Nat × Nat) := (tN ws ws.length).1
def tD (t : Int × Nat × Nat) : PyData := .tuple [.int t.1, .int (t.2.1 : Int), .int (t.2.2 : Int)]
theorem tN_le (ws : List Wr) : ∀ i, (tN ws i).2 ≤ i
  | 0 => Nat.le_refl _
  | i + 1 => by
    have h := tN_le ws i
    show (tstep ws (tN ws i) (i + 1)).2 ≤ i + 1
    unfold tstep
    split
    · exact Nat.le_refl _
    · omega
theorem tN_len (ws : List Wr) : ∀ i, (tN ws i).1.length ≤ i
  | 0 => Nat.le_refl _
  | i + 1 => by
    have h := tN_len ws i
    show (tstep ws (tN ws i) (i + 1)).1.length ≤ i + 1
    unfold tstep
    split
    · rw [List.length_append, List.length_singleton]
      omega
    · omega
/-- a turn begins at the j-th write -/
def isSt (ws : List Wr) (j : Nat) : Prop := j = 0 ∨ spk ws (j - 1) ≠ spk ws j
instance (ws : List Wr) (j : Nat) : Decidable (isSt ws j) := inferInstanceAs (Decidable (_ ∨ _))
def starts (ts : List (Int × Nat × Nat)) : List Nat := ts.map fun t => t.2.1
structure TI (ws : List Wr) (i : Nat) : Prop where
  mem : ∀ j, j ∈ starts (tN ws i).1 ↔ j < (tN ws i).2 ∧ isSt ws j
  here : (tN ws i).2 < ws.length → isSt ws (tN ws i).2
  run : i < ws.length → ∀ j, (tN ws i).2 ≤ j → j ≤ i → spk ws j = spk ws (tN ws i).2
  fin : i = ws.length → (tN ws i).2 = ws.length
theorem ti_all (ws : List Wr) : ∀ i, i ≤ ws.length → TI ws i
  | 0, _ => ⟨fun j => ⟨(fun h => nomatch h), fun h => absurd h.1 (Nat.not_lt_zero _)⟩, fun _ => Or.inl rfl, fun _ j _ h => by rw [Nat.le_zero.mp h] <;> rfl, fun h => h⟩
  | i + 1, hi => by
    have I := ti_all ws i (by omega)
    have hst := tN_le ws i
    by_cases c : i + 1 = ws.length ∨ spk ws (i + 1) ≠ spk ws (tN ws i).2
    · have eN : tN ws (i + 1) = ((tN ws i).1 ++ [(spk ws (tN ws i).2, (tN ws i).2, i + 1)], i + 1) := if_pos c
      refine ⟨fun j => ?_, fun h => ?_, fun h j h1 h2 => ?_, fun h => ?_⟩
      · rw [eN]
        show j ∈ List.map (fun t => t.2.1) ((tN ws i).1 ++ [(spk ws (tN ws i).2, (tN ws i).2, i + 1)]) ↔ j < i + 1 ∧ isSt ws j
        rw [List.map_append, List.mem_append]
        have m := I.mem j
        constructor
        · intro h
          rcases h with h | h
          · have q := m.mp h
            exact ⟨by omega, q.2⟩
          · have q : j = (tN ws i).2 := by simpa using h
            rw [q]
            exact ⟨by omega, I.here (by omega)⟩
        · rintro ⟨h1, h2⟩
          by_cases c1 : j < (tN ws i).2
          · exact Or.inl (m.mpr ⟨c1, h2⟩)
          · by_cases c2 : j = (tN ws i).2
            · right
              rw [c2]
              simp
            · exfalso
              have r1 := I.run (by omega) j (by omega) (by omega)
              have r2 := I.run (by omega) (j - 1) (by omega) (by omega)
              rcases h2 with h2 | h2
              · omega
              · exact h2 (r2.trans r1.symm)
      · rw [eN] at h ⊢
        have h' : i + 1 < ws.length := h
        have c' : spk ws (i + 1) ≠ spk ws (tN ws i).2 := c.resolve_left (by omega)
        have r1 := I.run (by omega) i (by omega) (Nat.le_refl _)
        refine Or.inr fun z => c' ?_
        have z' : spk ws i = spk ws (i + 1) := z
        rw [← z', r1]
      · rw [eN] at h1 ⊢
        have h1' : i + 1 ≤ j := h1
        have e : j = i + 1 := by omega
        rw [e]
      · rw [eN]
        exact h
    · have eN : tN ws (i + 1) = tN ws i := if_neg c
      have c1 : i + 1 ≠ ws.length := fun z => c (Or.inl z)
      have c2 : spk ws (i + 1) = spk ws (tN ws i).2 := Classical.byContradiction fun z => c (Or.inr z)
      refine ⟨fun j => ?_, fun h => ?_, fun h j h1 h2 => ?_, fun h => absurd h c1⟩
      · rw [eN]
        exact I.mem j
      · rw [eN] at h ⊢
        exact I.here h
      · rw [eN] at h1 ⊢
        by_cases c3 : j = i + 1
        · rw [c3, c2]
        · exact I.run (by omega) j h1 (by omega)
theorem starts_turns (ws : List Wr) (j : Nat) : j ∈ starts (turnsM ws) ↔ j < ws.length ∧ isSt ws j := by
  have I := ti_all ws ws.length (Nat.le_refl _)
  have m := I.mem j
  rw [I.fin rfl] at m
  exact m
/-- how many clearings may stand ahead of each write -/
def limM (ws : List Wr) : List Int := (List.range ws.length).map fun j => if isSt ws j then 0 else 2
theorem set_all {α : Type} (z : α) : ∀ (ss : List Nat) (L : List α) (j : Nat), (ss.foldl (fun L s => L.set s z) L)[j]? = if j ∈ ss then L[j]?.map (fun _ => z) else L[j]?
  | [], L, j => by simp
  | s :: ss, L, j => by
    rw [List.foldl_cons, set_all z ss (L.set s z) j]
    by_cases c : j = s
    · subst c
      rw [if_pos (List.mem_cons_self)]
      by_cases h : j < L.length
      · have e1 : (L.set j z)[j]? = some z := List.getElem?_set_self h
        rw [e1]
        have e2 : L[j]? = some L[j] := by simp [h]
        rw [e2]
        split <;> rfl
      · have e2 : L[j]? = none := by simp; omega
        have e1 : (L.set j z)[j]? = none := by simp; omega
        rw [e1, e2]
        split <;> rfl
    · have e1 : (L.set s z)[j]? = L[j]? := List.getElem?_set_ne (fun q => c q.symm)
      rw [e1]
      have e2 : (j ∈ s :: ss) ↔ j ∈ ss := by
        rw [List.mem_cons]
        exact ⟨fun q => q.resolve_left c, Or.inr⟩
      by_cases h : j ∈ ss
      · rw [if_pos h, if_pos (e2.mpr h)]
      · rw [if_neg h, if_neg fun q => h (e2.mp q)]
theorem lim_set (ws : List Wr) : (starts (turnsM ws)).foldl (fun L s => L.set s (0 : Int)) (List.replicate ws.length 2) = limM ws := by
  refine List.ext_getElem? fun j => ?_
  rw [set_all]
  unfold limM
  rw [List.getElem?_map]
  by_cases h : j < ws.length
  · have e1 : (List.replicate ws.length (2 : Int))[j]? = some 2 := by simp [h]
    have e2 : (List.range ws.length)[j]? = some j := by simp [h]
    rw [e1, e2]
    by_cases c : isSt ws j
    · rw [if_pos ((starts_turns ws j).mpr ⟨h, c⟩)]
      show some (0 : Int) = some (if isSt ws j then 0 else 2)
      rw [if_pos c]
    · rw [if_neg fun q => c ((starts_turns ws j).mp q).2]
      show some (2 : Int) = some (if isSt ws j then 0 else 2)
      rw [if_neg c]
  · have e1 : (List.replicate ws.length (2 : Int))[j]? = none := by simp; omega
    have e2 : (List.range ws.length)[j]? = none := by simp; omega
    rw [e1, e2]
    split <;> rfl
theorem yes_then {te : TE} {σ : L2.St} {H : Hp} {k1 : V → Hp → Prop} {k2 : Hp → Prop} (h : te σ H k1) : tYes σ H fun b H3 => if b = true then te σ H3 k1 else k2 H3 := by
  show (if true = true then te σ H k1 else k2 H)
  rw [if_pos rfl]
  exact h
/-! ### [v] * n -/
section
variable {K : PySem.W.Frag} {σ : L2.St} {H : Hp} {te tn : TE} {v : V}
theorem el_rep {n : Nat} (h : Ev te σ H v) (hn : Ev tn σ H (.int (n : Int))) (hz : n ≤ 100000) : EvL (tOp rRep (tLst (tCons te tNil)) tn) σ H (List.replicate n v) := fun H1 e Q q =>
  h H1 e _ fun H2 e2 => ⟨by show 1 ≤ sizeLine; decide, fun l hl => hn _ ((e.trans e2).trans (Ex.new hl)) _ fun H3 e3 => ⟨l, (n : Int), [v], rfl, rfl, e3 l _ upd_same, by omega, by omega, by
      have q1 : [v].length * ((n : Int)).toNat = n := by simp
      rw [q1]
      exact sz_of hz, fun p hp => by
        have q2 : (List.replicate ((n : Int)).toNat [v]).flatten = List.replicate n v := by simp
        rw [q2]
        have hp1 : H1 p = none := fresh_back (e2.trans ((Ex.new hl).trans e3)) hp
        exact q p _ hp1 ((e2.trans ((Ex.new hl).trans e3)).trans (Ex.new hp)) upd_same⟩⟩
end
section
variable {K : PySem.W.Frag} {σ : L2.St} {H : Hp} {ta tb : TE} {x y : V} {d e : PyData}
theorem rv_eqD (hd : Dp K H x d) (he : Dp K H y e) (s1 : SeqAt.shaped d = true) (s2 : SeqAt.shaped e = true) : RV (rEqD K) x y H (.bl (PyData.eqv d e)) := fun H1 ex Q q => ⟨d, e, dp_ex ex hd, dp_ex ex he, s1, s2, q H1 (Ex.refl H1)⟩
theorem rv_neD (hd : Dp K H x d) (he : Dp K H y e) (s1 : SeqAt.shaped d = true) (s2 : SeqAt.shaped e = true) : RV (rNeD K) x y H (.bl (!PyData.eqv d e)) := fun H1 ex Q q => ⟨d, e, dp_ex ex hd, dp_ex ex he, s1, s2, q H1 (Ex.refl H1)⟩
theorem eqv_str (d : PyData) (s : Str) : PyData.eqv d (.str s) = (match d with | .str z => decide (z = s) | _ => false) := by
  cases d with
  | str z =>
    show (z == s) = decide (z = s)
    by_cases q : z = s
    · rw [q, decide_eq_true rfl, beq_self_eq_true]
    · rw [decide_eq_false q]
      exact beq_eq_false_iff_ne.mpr q
  | _ => rfl
end
end L3

namespace L3
open PySem PySem.Spec PyProof.Rows L2 Evl
/-! ### a try whose clauses stand one after the other, some with a name -/
abbrev Clause := Value × Option Nat × (Addr → Value → Option Addr → TS)
/-- behind a named suite the name is gone -/
def gone (D : Ends) (i : Nat) : Ends := { nx := fun σ H => D.nx (σ.set i none) H, rt := D.rt, bk := fun σ H => D.bk (σ.set i none) H, ct := fun σ H => D.ct (σ.set i none) H }
def suiteOf (D : Ends) (o : Option Nat) (t : TS) (a : Addr) : L2.St → Hp → Prop := match o with
  | none => fun σ H => t D σ H
  | some i => fun σ H => t (gone D i) (σ.set i (some (.ref a))) H
def wCl (K : PySem.W.Frag) (Wout : WX) (D : Ends) : List Clause → WX
  | [] => Wout
  | (c, o, t) :: r => fun cls d σ H => ∃ b, PySem.W.exmOne K cls c = some b ∧ (b = true → ∀ a, H a = none → suiteOf D o (t a cls d) a σ H) ∧ (b = false → wCl K Wout D r cls d σ H)
inductive ClsOk (X : Cx) : List ExceptHandler → List Clause → Prop
  | nil : ClsOk X [] []
  | bare {x : Str} {c : Value} {t : Addr → Value → Option Addr → TS} {b : Stmt} {bs : List Stmt} {p q : Pos} {hs : List ExceptHandler} {l : List Clause} (hc : Names X x c)
      (hsu : ∀ (a : Addr) (o : Obj) (cls : Value) (d : Option Addr) (pn : List (Addr × Obj)), Zc cls d o → (∃ vs, o.data = .fields vs) → PSs (X.suite a ((a, o) :: pn)) (b :: bs) (t a cls d)) (r : ClsOk X hs l) :
      ClsOk X (.ExceptHandler (some (.Name x p)) none (b :: bs) q :: hs) ((c, none, t) :: l)
  | named {x n : Str} {i : Nat} {c : Value} {t : Addr → Value → Option Addr → TS} {b : Stmt} {bs : List Stmt} {p q : Pos} {hs : List ExceptHandler} {l : List Clause} (hN : X.N.Nodup) (hi : X.N[i]? = some n) (hn : X.env.kindOf n = some .local) (hc : Names X x c)
      (hsu : ∀ (a : Addr) (o : Obj) (cls : Value) (d : Option Addr) (pn : List (Addr × Obj)), Zc cls d o → (∃ vs, o.data = .fields vs) → PSs (X.suite a ((a, o) :: pn)) (b :: bs) (t a cls d)) (r : ClsOk X hs l) :
      ClsOk X (.ExceptHandler (some (.Name x p)) (some n) (b :: bs) q :: hs) ((c, some i, t) :: l)
theorem ps_tryC {X : Cx} {body : List Stmt} {h : ExceptHandler} {hs : List ExceptHandler} {l : List Clause} {pos : Pos} {tb : WX → TS} {Wout : WX} (st : X.stack = X.env :: X.outer) (fr : X.env.frame = some X.env.locals) (tk : Takes X Wout)
    (bo : ∀ (W : WX) (pn : List (Addr × Obj)) (xe : Value → Shared → Prop), Takes (X.tr pn xe) W → PassesOwn (model X.prog X.w) X.A X.env xe → PSs (X.tr pn xe) body (tb W))
    (cl : ClsOk X (h :: hs) l) : PS X (.Try body (h :: hs) [] [] pos) (fun D σ H => tb (wCl X.K Wout D l) D σ H) := by
  refine ⟨fun pins s σ H D I rd => ?_⟩
  have ok := I.ok
  have hfr : X.A.frames = some (X.env :: X.outer) := by rw [ok.frames, st]
  refine wpAny_Try_except ?_
  refine wpAny_mono ((bo (wCl X.K Wout D l) (X.pn ++ pins) (fun e z => wpAny (model X.prog X.w) X.A (noteFrame e X.env) (fun _ z2 => wpAny (model X.prog X.w) X.A (setFlight e none) (fun _ z3 =>
    wpAny (model X.prog X.w) X.A (handleBy e X.env (h :: hs)) (SP X pins D) X.xe z3) X.xe z2) X.xe z) (fun u s' hit => ?_) PassesOwn.looking).run [] s σ H D (I.toTry _) rd) (fun f z sp => ?_) (fun e z he => he)
  · obtain ⟨a, B, s0, pins', σ', H', cls, d, rfl, J', nb, up, sky, na, os, ag, wish⟩ := hit
    have J : Inv X pins σ' H' s0 := J'.ofTry ok
    have sky' : Sky B (X.env :: X.outer) a (Zc cls d) X.env.locals s'.heap := by
      rw [← st]
      exact sky
    show wpAny (model X.prog X.w) X.A (noteFrame (.ref a) X.env) _ _ _
    refine Sky.land Zc.steady hfr fr sky' fun h3 fl up3 => ?_
    have J3 : Inv X pins σ' H' { s' with heap := h3 } := J.landed nb fl.1 (up.trans up3) os ag
    obtain ⟨o3, v3, at3, z3, d3⟩ := fl.there
    have off : a ∉ frs (X.env :: X.outer) := fun hm => by
      obtain ⟨_, o', e', nf⟩ := fl.2.2.1.mem hm
      rw [at3] at e'
      cases e'
      exact nf _ d3
    have nL : a ≠ X.env.locals := fun z => off (List.mem_filterMap.mpr ⟨X.env, List.mem_cons_self, by rw [fr, z]⟩)
    have nF : a ∉ X.fs := fun hm => by
      obtain ⟨e, he, q⟩ := List.mem_filterMap.mp hm
      exact off (List.mem_filterMap.mpr ⟨e, List.mem_cons_of_mem _ he, q⟩)
    have S3 := J3.suite at3 d3 na nL nF
    have typ : PySem.W.Looks (model X.prog X.w) h3 (typeOf (.ref a)) cls := fun A Q E s k q => wpAny_typeOf_ref (k _ _ at3) (by rw [z3.1]; exact q)
    have named : ∀ {x : Str} {c : Value} {p : Pos} {Q E : Value → Shared → Prop}, Names X x c → Q c { s' with heap := h3 } →
        wpAny (model X.prog X.w) (X.A.mark (some (.ref a))) (eval (.Name x p) X.env) Q E { s' with heap := h3 } := fun {x c p Q E} hc q => by
      obtain ⟨hg, hdb, hm | ⟨hm, hv, hne⟩⟩ := hc
      · exact ld_glob (X := X.suite a ((a, o3) :: (X.pn ++ pins))) S3 hg hm q hdb
      · exact ld_blt (X := X.suite a ((a, o3) :: (X.pn ++ pins))) S3 hg hm hv q hne hdb
    have go : ∀ {ks : List ExceptHandler} {ls : List Clause}, ClsOk X ks ls → wCl X.K Wout D ls cls d σ' H' →
        wpAny (model X.prog X.w) X.A (handleBy (.ref a) X.env ks) (SP X pins D) X.xe { s' with heap := h3 } := by
      intro ks ls hk
      induction hk with
      | nil =>
        intro wi
        refine wpAny_handleBy_nil ?_
        obtain ⟨y1, y2, y3, oe, vs, Ta, oT, ts, he, hz, hd, hv1, hrest⟩ := id fl
        unfold PySem.passOn
        refine wpAny_bind (wpAny_field he hd hv1 ?_)
        rw [if_neg (show ¬ ((Value.ref Ta == Value.none) = true) by simp)]
        have fin : wpAny (model X.prog X.w) X.A (setFlight (.ref a) X.env.frame) (fun _ w4 => wpAny (model X.prog X.w) X.A (throw (.ref a) : Sem Flow) (SP X pins D) X.xe w4) X.xe { s' with heap := h3 } := by
          rw [fr]
          refine HandSPX.setFlight_upZ fl fun h4 hh up4 => wpAny_throw (tk _ _ ?_)
          exact ⟨a, B, s0, pins, σ', H', cls, d, rfl, J, nb, (up.trans up3).trans up4, .inr (.inr (by rw [st]; exact hh)), na, os, ag, wi⟩
        first | exact wpAny_bind (wpAny_pure (wpAny_bind fin)) | exact wpAny_bind fin
      | @bare x c t b bs p q hs2 l2 hc hsu r ih =>
        intro wi
        obtain ⟨y, hy, yes, no⟩ := wi
        refine wpAny_handleBy_cons (codeAny_handlers_test ?_) (by intro q; cases q)
        have LM := PySem.W.exm_one (M := model X.prog X.w) (J3.kIn) typ hy
        refine named hc (LM.here ?_)
        cases y with
        | false =>
          show wpAny _ X.A (handleBy (.ref a) X.env hs2) _ _ _
          exact ih (no rfl)
        | true =>
          refine codeAny_handlers_suite ?_
          refine HandSPX.lands_againZ fl fun h4 fl4 up4 => ?_
          have J4 : Inv X pins σ' H' { s' with heap := h4 } := J.landed nb fl4.1 ((up.trans up3).trans up4) os ag
          obtain ⟨o4, v4, at4, z4, d4⟩ := fl4.there
          have S4 := J4.suite at4 d4 na nL nF
          refine wpAny_mono ((hsu a o4 cls d (X.pn ++ pins) z4 ⟨_, d4⟩).run [] _ _ H' D S4 (yes rfl a na)) (fun f s6 sp => ?_) (fun _ _ z => False.elim z)
          cases f with
          | ret u =>
            obtain ⟨v6, σ6, H6, S6, r6, q6⟩ := sp
            exact ⟨v6, σ6, H6, S6.unsuite ok, r6, q6⟩
          | next =>
            obtain ⟨σ6, H6, S6, q6⟩ := sp
            exact ⟨σ6, H6, S6.unsuite ok, q6⟩
          | brk =>
            obtain ⟨σ6, H6, S6, q6⟩ := sp
            exact ⟨σ6, H6, S6.unsuite ok, q6⟩
          | cont =>
            obtain ⟨σ6, H6, S6, q6⟩ := sp
            exact ⟨σ6, H6, S6.unsuite ok, q6⟩
      | @named x n i c t b bs p q hs2 l2 hN hi hn hc hsu r ih =>
        intro wi
        obtain ⟨y, hy, yes, no⟩ := wi
        refine wpAny_handleBy_cons (codeAny_handlers_test ?_) (by intro q; cases q)
        have LM := PySem.W.exm_one (M := model X.prog X.w) (J3.kIn) typ hy
        refine named hc (LM.here ?_)
        cases y with
        | false =>
          show wpAny _ X.A (handleBy (.ref a) X.env hs2) _ _ _
          exact ih (no rfl)
        | true =>
          refine codeAny_handlers_suite_as ?_
          refine HandSPX.lands_againZ fl fun h4 fl4 up4 => ?_
          have J4 : Inv X pins σ' H' { s' with heap := h4 } := J.landed nb fl4.1 ((up.trans up3).trans up4) os ag
          obtain ⟨o4, v4, at4, z4, d4⟩ := fl4.there
          have S4 := J4.suite at4 d4 na nL nF
          refine store_ok (X := X.suite a ((a, o4) :: (X.pn ++ pins))) (v := .ref a) S4 hN hi (.inl hn) rfl (fun s5 S5 => ?_) (.inr hn)
          refine wpAny_mono ((hsu a o4 cls d (X.pn ++ pins) z4 ⟨_, d4⟩).run [] s5 _ H' (gone D i) S5 (yes rfl a na)) (fun f s6 sp => ?_) (fun _ _ z => False.elim z)
          have out : ∀ {σ6 : L2.St} {H6 : Hp} {Q : Shared → Prop}, Inv (X.suite a ((a, o4) :: (X.pn ++ pins))) [] σ6 H6 s6 → (∀ s7, Inv X pins (σ6.set i none) H6 s7 → Q s7) →
              wpAny (model X.prog X.w) X.A (do bindName X.env n .none; unbindBehindTheSuite X.env n q) (fun _ s7 => Q s7) X.xe s6 := fun {σ6 H6 Q} S6 hq => gone_ok (S6.unsuite ok) hN hi hn hq
          cases f with
          | ret u =>
            obtain ⟨v6, σ6, H6, S6, r6, q6⟩ := sp
            exact out S6 fun s7 J7 => ⟨v6, _, H6, J7, r6, q6⟩
          | next =>
            obtain ⟨σ6, H6, S6, q6⟩ := sp
            exact out S6 fun s7 J7 => ⟨_, H6, J7, q6⟩
          | brk =>
            obtain ⟨σ6, H6, S6, q6⟩ := sp
            exact out S6 fun s7 J7 => ⟨_, H6, J7, q6⟩
          | cont =>
            obtain ⟨σ6, H6, S6, q6⟩ := sp
            exact out S6 fun s7 J7 => ⟨_, H6, J7, q6⟩
    exact go cl wish
  · cases f with
    | ret u =>
      obtain ⟨v, σ', H', J', r, q⟩ := sp
      exact ⟨v, σ', H', J'.ofTry ok, r, q⟩
    | next =>
      obtain ⟨σ', H', J', q⟩ := sp
      exact wpAny_execs_nil ⟨σ', H', J'.ofTry ok, q⟩
    | brk =>
      obtain ⟨σ', H', J', q⟩ := sp
      exact ⟨σ', H', J'.ofTry ok, q⟩
    | cont =>
      obtain ⟨σ', H', J', q⟩ := sp
      exact ⟨σ', H', J'.ofTry ok, q⟩
end L3

namespace L3
open PySem PySem.Spec PyProof.Rows L2 Evl
/-! ### repr of data -/
/-- what may be shown: no dict, not deep, a text of bounded length -/
structure Shw (d : PyData) : Prop where
  ok : d.showable = true
  nd : d.hasDict = false
  dp : d.depth ≤ 60
  sz : d.shown.length ≤ sizeLine
def rRepr (K : PySem.W.Frag) : List V → Hp → VK → Prop := fun xs H Q => ∃ x d, xs = [x] ∧ Dp K H x d ∧ Shw d ∧ Q (.str d.shown) H
theorem call_reprD {X : Cx} (hg : X.A.guards = some []) (hu : X.A.units + 64 < cLine) : CallR X (.builtin "repr") (rRepr X.K) := by
  intro pins s σ H xs us Q I r h
  obtain ⟨x, d, rfl, hd, sh, q⟩ := h
  obtain ⟨u, rfl, rx⟩ := vals1 r
  cases hd with
  | non =>
    cases (show u = Value.none from rx)
    exact PySem.P.repr_of_none ⟨.str _, H, I.tok _, ⟨_, rfl⟩, q⟩
  | bl b =>
    cases (show u = Value.bool b from rx)
    exact PySem.P.repr_of_bool ⟨.str _, H, I.tok _, ⟨_, rfl⟩, q⟩
  | int i =>
    obtain ⟨t, rfl⟩ := (show ∃ t, u = Value.int i t from rx)
    exact PySem.P.repr_of_int (of_decide_eq_true sh.ok) ⟨.str _, H, I.tok _, ⟨_, rfl⟩, q⟩
  | str z =>
    obtain ⟨t, rfl⟩ := (show ∃ t, u = Value.str z t from rx)
    exact PySem.P.repr_of_str ⟨.str _, H, I.tok _, ⟨_, rfl⟩, q⟩ sh.sz
  | lst hs ha =>
    obtain ⟨as, rd⟩ := Dp.reads I _ _ u (.lst hs ha) rx
    cases (show u = Value.ref _ from rx)
    exact repr_of_reads' rd sh.ok (fun z => by rw [sh.nd] at z; cases z) hg (by have := sh.dp; omega) (fun _ _ e => e) (fun h' uu tk hk => ⟨.str _, H, I.kept hk, ⟨_, rfl⟩, q⟩) sh.sz
  | tup hs ha =>
    obtain ⟨as, rd⟩ := Dp.reads I _ _ u (.tup hs ha) rx
    cases (show u = Value.ref _ from rx)
    exact repr_of_reads' rd sh.ok (fun z => by rw [sh.nd] at z; cases z) hg (by have := sh.dp; omega) (fun _ _ e => e) (fun h' uu tk hk => ⟨.str _, H, I.kept hk, ⟨_, rfl⟩, q⟩) sh.sz
/-! ### a def's promise where no repr is under way -/
structure FnG (P : Program) (w : World) (K : PySem.W.Frag) (mg : Str → Option Value) (base : Heap) (k : Nat) (f : Addr) (fd : FuncData) (ps : List Str) (sp : Sp) : Prop where
  len : ∀ vs H Q E, sp vs H Q E → vs.length = ps.length
  run : ∀ (A : Around) (outer : List Env) (s : Shared) (H : Hp) (args : Args) (us : List Value) (vs : List V) (Q : VK) (E : XK), A.guards = some [] → Room k A → Env0 P w K mg base A outer s H → BindsTo s fd args (ps.zip us) → Vals vs us → sp vs H Q E →
    codeAny (model P w) A (.call (.ref f) args) (CR CX0 outer P w H s Q E) s
section
variable {P : Program} {w : World} {K : PySem.W.Frag} {mg : Str → Option Value} {base : Heap}
theorem okG {x qual : Str} {st : Stmt} {f : Addr} {fd : FuncData} {N ps : List Str} {k : Nat} {sp : Sp} (F : Fun K x qual st f fd) (S : FnScope N ps (defScope st)) (len : ∀ vs H Q E, sp vs H Q E → vs.length = ps.length)
    (body : ∀ (cd : Value) (A : Around) (outer : List Env) (s : Shared) (H : Hp) (vs : List V) (Q : VK) (E : XK), (A.deeper (envOfC qual (defScope st) s.heap.objs.size f cd)).guards = some [] → Room k (A.deeper (envOfC qual (defScope st) s.heap.objs.size f cd)) → sp vs H Q E →
      ∃ t, PSs (cxOf CX0 P w K mg base N qual (defScope st) f cd A outer s H E).nox (defBody st) t ∧ t { nx := fun _ H' => Q .non H', rt := Q } (start N vs) H) : FnG P w K mg base (k + 1) f fd ps sp := by
  obtain ⟨oc, od, kV, doc, pm, an, cd, ct, osl, rfl, lk, hcd⟩ := F.ex
  refine ⟨len, fun A outer s H args us vs Q E hg hr e0 hb r hsp => ?_⟩
  have hl := len vs H Q E hsp
  have KX : K.In s.heap := e0.mod.kin.keeps fun b o e => (e0.bs b o e).1
  have lim : s.heap.NoLimit := e0.mod.nolimit.keeps fun b o e => (e0.bs b o e).1
  have kinds : ∀ y ∈ ps.zip us, (defScope st).names.lookup y.1 = some .local ∨ ((defScope st).names.lookup y.1 = some .cell ∧ ((cellsFrom (s.heap.objs.size + 1) (defScope st).names []).lookup y.1).isSome = true) := fun ⟨n, v⟩ hy =>
    (S.par n (List.of_mem_zip hy).1).elim Or.inl fun q => Or.inr ⟨q, PySem.W.cellsFrom_some _ _ _ (.inl q)⟩
  refine codeAny_call_function hr.depth (KX _ _ lk) rfl S.co S.gen rfl (PySem.W.codeRec_of KX hcd) (hb _ _ _ _ ?_)
  refine wpAny_newFunctionEnv_cells S.kind kinds fun env he s1 x => ?_
  subst he
  refine ⟨lim.keeps x.toInCall.keep, codeAny_func ?_⟩
  obtain ⟨t, ht, hq⟩ := body cd A outer s H vs Q E hg (hr.deeper _) hsp
  have I : Inv (cxOf CX0 P w K mg base N qual (defScope st) f cd A outer s H E) [] (start N vs) H s1 := inv_start S hr.hd e0 hl r x
  refine wpAny_mono (ht.nox.run [] s1 (start N vs) H _ I hq) (fun fl s' hs => ?_) fun e s' hs => hs
  cases fl with
  | next =>
    obtain ⟨σ', H', J, q⟩ := hs
    exact ⟨V.non, H', J.os, J.bare, J.base, J.hok, rfl, q⟩
  | ret u =>
    obtain ⟨v, σ', H', J, rv, q⟩ := hs
    exact ⟨v, H', J.os, J.bare, J.base, J.hok, rv, q⟩
  | brk =>
    obtain ⟨σ', H', J, q⟩ := hs
    exact q.elim
  | cont =>
    obtain ⟨σ', H', J, q⟩ := hs
    exact q.elim
end
/-- a def at level 0: it calls no def -/
theorem ok0 {P : Program} {w : World} {K : PySem.W.Frag} {mg : Str → Option Value} {base : Heap} {x qual : Str} {st : Stmt} {f : Addr} {fd : FuncData} {N ps : List Str} {sp : Sp} (F : Fun K x qual st f fd) (S : FnScope N ps (defScope st)) (len : ∀ vs H Q E, sp vs H Q E → vs.length = ps.length)
    (body : ∀ (cd : Value) (A : Around) (outer : List Env) (s : Shared) (H : Hp) (vs : List V) (Q : VK) (E : XK), sp vs H Q E →
      ∃ t, PSs (cxOf CX0 P w K mg base N qual (defScope st) f cd A outer s H E).nox (defBody st) t ∧ t { nx := fun _ H' => Q .non H', rt := Q } (start N vs) H) : FnOk P w K mg base CX0 0 f fd ps sp := by
  obtain ⟨oc, od, kV, doc, pm, an, cd, ct, osl, rfl, lk, hcd⟩ := F.ex
  refine ⟨len, fun A outer s H args us vs Q E hr e0 hb r hsp => ?_⟩
  have hl := len vs H Q E hsp
  have KX : K.In s.heap := e0.mod.kin.keeps fun b o e => (e0.bs b o e).1
  have lim : s.heap.NoLimit := e0.mod.nolimit.keeps fun b o e => (e0.bs b o e).1
  have kinds : ∀ y ∈ ps.zip us, (defScope st).names.lookup y.1 = some .local ∨ ((defScope st).names.lookup y.1 = some .cell ∧ ((cellsFrom (s.heap.objs.size + 1) (defScope st).names []).lookup y.1).isSome = true) := fun ⟨n, v⟩ hy =>
    (S.par n (List.of_mem_zip hy).1).elim Or.inl fun q => Or.inr ⟨q, PySem.W.cellsFrom_some _ _ _ (.inl q)⟩
  refine codeAny_call_function hr.depth (KX _ _ lk) rfl S.co S.gen rfl (PySem.W.codeRec_of KX hcd) (hb _ _ _ _ ?_)
  refine wpAny_newFunctionEnv_cells S.kind kinds fun env he s1 x => ?_
  subst he
  refine ⟨lim.keeps x.toInCall.keep, codeAny_func ?_⟩
  obtain ⟨t, ht, hq⟩ := body cd A outer s H vs Q E hsp
  have I : Inv (cxOf CX0 P w K mg base N qual (defScope st) f cd A outer s H E) [] (start N vs) H s1 := inv_start S hr.hd e0 hl r x
  refine wpAny_mono (ht.nox.run [] s1 (start N vs) H _ I hq) (fun fl s' hs => ?_) fun e s' hs => hs
  cases fl with
  | next =>
    obtain ⟨σ', H', J, q⟩ := hs
    exact ⟨V.non, H', J.os, J.bare, J.base, J.hok, rfl, q⟩
  | ret u =>
    obtain ⟨v, σ', H', J, rv, q⟩ := hs
    exact ⟨v, H', J.os, J.bare, J.base, J.hok, rv, q⟩
  | brk =>
    obtain ⟨σ', H', J, q⟩ := hs
    exact q.elim
  | cont =>
    obtain ⟨σ', H', J, q⟩ := hs
    exact q.elim
theorem pe_callG {X : Cx} {k : Nat} {f : Addr} {fd : FuncData} {ps : List Str} {sp : Sp} {x : Str} {p pos : Pos} {e : Expr} {es : List Expr} {t : TA} (F : FnG X.prog X.w X.K X.mg X.base k f fd ps sp) (hgu : X.A.guards = some []) (hr : Room k X.A) (hg : Gl X x) (hm : X.mg x = some (.ref f))
    (hk : PySem.W.keepIn X.K (.ref f) = true) (hb : Binds X.K fd ps []) (ha : PA X (e :: es) t) (hdb : (x == ("__debug__" : Str)) = false := by decide)
    (he : starEach (e :: es) X.env = (false, eval e X.env) :: starEach es X.env := by rfl) (hpl : (backTo pos (starEach es X.env)).any (·.1) = false := by rfl) :
    PE X (.Call (.Name x p) (e :: es) [] pos) (tCall sp [] E0 t) := by
  refine ⟨fun pins s σ H Q I h => ?_⟩
  refine wpAny_Call_Name_kw (ld_glob I hg hm ?_ hdb)
  refine PySem.W.callWith_K (h₀ := X.base) I.ok.mod.kin hk (thn (ha.run pos pins s σ H _ I h) fun us s1 ⟨vs, H1, I1, r, q⟩ => ⟨I1.kIn, ?_⟩) he hpl
  have q' : sp vs H1 Q E0 := by
    have z : sp (vs ++ []) H1 Q E0 := q
    rw [List.append_nil] at z
    exact z
  have hl : us.length = ps.length := by
    rw [← r.length]
    exact F.len _ _ _ _ q'
  have hb' := hb s1 us I1.kIn (by rw [List.append_nil]; exact hl)
  rw [List.append_nil] at hb'
  refine wpAny_call (codeAny_mono (F.run X.A X.stack s1 H1 ⟨us, []⟩ us vs Q E0 hgu hr I1.env0 hb' r q') fun r s' hq => ?_)
  cases r with
  | error e => exact hq.elim
  | ok fl =>
    cases fl with
    | ret u => exact I1.after hq
    | next => exact hq.elim
    | brk => exact hq.elim
    | cont => exact hq.elim
end L3

namespace L3
open PySem PySem.Spec PyProof.Rows L2 Evl
/-! ### data that is small: it may be compared and shown -/
mutual
def niceD : PyData → Bool
  | .none | .bool _ => true
  | .int i => decide (i.natAbs < 10 ^ 50)
  | .str x => PyData.strOk x && decide (x.cps.size ≤ 100)
  | .list xs | .tuple xs => niceAll xs
  | .dict _ => false
def niceAll : List PyData → Bool
  | [] => true
  | x :: xs => niceD x && niceAll xs
end
mutual
def nodes : PyData → Nat
  | .list xs | .tuple xs => nodesAll xs + 1
  | _ => 1
def nodesAll : List PyData → Nat
  | [] => 0
  | x :: xs => nodes x + nodesAll xs
end
mutual
theorem nice_nd : ∀ d : PyData, niceD d = true → d.hasDict = false
  | .none, _ | .bool _, _ | .int _, _ | .str _, _ => rfl
  | .list xs, h => nice_ndAll xs h
  | .tuple xs, h => nice_ndAll xs h
theorem nice_ndAll : ∀ xs : List PyData, niceAll xs = true → PyData.hasDictAll xs = false
  | [], _ => rfl
  | x :: xs, h => by
    have h' := Bool.and_eq_true_iff.mp (show (niceD x && niceAll xs) = true from h)
    show (x.hasDict || PyData.hasDictAll xs) = false
    rw [nice_nd x h'.1, nice_ndAll xs h'.2] <;> rfl
end
theorem log_small {i : Int} (h : i.natAbs < 10 ^ 50) : i.natAbs.log2 < 180 := by
  by_cases z : i.natAbs = 0
  · rw [z]
    decide
  · exact (Nat.log2_lt z).mpr (Nat.lt_of_lt_of_le h (by decide))
mutual
theorem nice_show : ∀ d : PyData, niceD d = true → d.showable = true
  | .none, _ | .bool _, _ | .str _, _ => rfl
  | .int i, h => decide_eq_true (Nat.lt_of_lt_of_le (log_small (of_decide_eq_true h)) (by decide))
  | .list xs, h => nice_showAll xs h
  | .tuple xs, h => nice_showAll xs h
theorem nice_showAll : ∀ xs : List PyData, niceAll xs = true → PyData.showableAll xs = true
  | [], _ => rfl
  | x :: xs, h => by
    have h' := Bool.and_eq_true_iff.mp (show (niceD x && niceAll xs) = true from h)
    show (x.showable && PyData.showableAll xs) = true
    rw [nice_show x h'.1, nice_showAll xs h'.2] <;> rfl
end
mutual
theorem nice_lay : ∀ d : PyData, niceD d = true → d.canLay0 = true
  | .none, _ | .bool _, _ | .int _, _ => rfl
  | .str x, h => (Bool.and_eq_true_iff.mp (show (PyData.strOk x && decide (x.cps.size ≤ 100)) = true from h)).1
  | .list xs, h => nice_layAll xs h
  | .tuple xs, h => nice_layAll xs h
theorem nice_layAll : ∀ xs : List PyData, niceAll xs = true → PyData.canLayAll0 xs = true
  | [], _ => rfl
  | x :: xs, h => by
    have h' := Bool.and_eq_true_iff.mp (show (niceD x && niceAll xs) = true from h)
    show (x.canLay0 && PyData.canLayAll0 xs) = true
    rw [nice_lay x h'.1, nice_layAll xs h'.2] <;> rfl
end
mutual
theorem nice_short : ∀ d : PyData, niceD d = true → PyData.leavesShort 61 d = true
  | .none, _ | .bool _, _ => rfl
  | .int i, h => decide_eq_true (by
      have z := int_text_length_le10 (a := i) (k := 50) (by decide) (of_decide_eq_true h)
      show (Str.ofString (toString i)).length ≤ 61
      rw [PySem.ofString_length]
      omega)
  | .str x, h => by
    have q := (Bool.and_eq_true_iff.mp (show (PyData.strOk x && decide (x.cps.size ≤ 100)) = true from h)).1
    show (x.cps.toList.all fun c => decide (c < 16 ^ 8)) = true
    rw [List.all_eq_true]
    intro c hc
    have q2 : x.cps.all (fun c => decide (c < 0x110000)) = true := q
    have q3 : x.cps.toList.all (fun c => decide (c < 0x110000)) = true := by
      rw [← q2]
      simp
    have z := of_decide_eq_true (List.all_eq_true.mp q3 c hc)
    exact decide_eq_true (Nat.lt_of_lt_of_le z (by decide))
  | .list xs, h => nice_shortAll xs h
  | .tuple xs, h => nice_shortAll xs h
theorem nice_shortAll : ∀ xs : List PyData, niceAll xs = true → PyData.leavesShortAll 61 xs = true
  | [], _ => rfl
  | x :: xs, h => by
    have h' := Bool.and_eq_true_iff.mp (show (niceD x && niceAll xs) = true from h)
    show (PyData.leavesShort 61 x && PyData.leavesShortAll 61 xs) = true
    rw [nice_short x h'.1, nice_shortAll xs h'.2] <;> rfl
end
mutual
theorem nice_weight : ∀ d : PyData, niceD d = true → d.weight + 1 ≤ 201 * nodes d
  | .none, _ | .bool _, _ => by show 0 + 1 ≤ 201 * 1; decide
  | .int i, h => by
    show (if i == 0 then 0 else i.natAbs.log2 + 1) + 1 ≤ 201 * 1
    have z := log_small (of_decide_eq_true h)
    split <;> omega
  | .str x, h => by
    have q := of_decide_eq_true (Bool.and_eq_true_iff.mp (show (PyData.strOk x && decide (x.cps.size ≤ 100)) = true from h)).2
    show x.cps.size + 1 ≤ 201 * 1
    omega
  | .list xs, h => by
    have z := nice_weightAll xs h
    show PyData.weightAll xs + 1 ≤ 201 * (nodesAll xs + 1)
    omega
  | .tuple xs, h => by
    have z := nice_weightAll xs h
    show PyData.weightAll xs + 1 ≤ 201 * (nodesAll xs + 1)
    omega
theorem nice_weightAll : ∀ xs : List PyData, niceAll xs = true → PyData.weightAll xs ≤ 201 * nodesAll xs
  | [], _ => by show 0 ≤ 201 * 0; decide
  | x :: xs, h => by
    have h' := Bool.and_eq_true_iff.mp (show (niceD x && niceAll xs) = true from h)
    have z1 := nice_weight x h'.1
    have z2 := nice_weightAll xs h'.2
    show x.weight + 1 + PyData.weightAll xs ≤ 201 * (nodes x + nodesAll xs)
    omega
end
structure Nice (d : PyData) : Prop where
  ok : niceD d = true
  dp : d.depth ≤ 10
  nd : nodes d ≤ 1200
theorem Nice.shaped {d : PyData} (h : Nice d) : SeqAt.shaped d = true := by
  show (d.canLay0 && decide (d.depth ≤ 64)) = true
  rw [nice_lay d h.ok, decide_eq_true (by have := h.dp; omega : d.depth ≤ 64)] <;> rfl
theorem Nice.shw {d : PyData} (h : Nice d) : Shw d where
  ok := nice_show d h.ok
  nd := nice_nd d h.ok
  dp := by have := h.dp; omega
  sz := by
    have z := PyData.shown_le 61 (by decide) d (nice_short d h.ok)
    have z2 := nice_weight d h.ok
    have z3 := h.nd
    rw [sizeLine_eq]
    omega
mutual
theorem eqv_refl : ∀ d : PyData, d.hasDict = false → PyData.eqv d d = true
  | .none, _ => rfl
  | .bool b, _ => by show (b == b) = true; simp
  | .int i, _ => by show (i == i) = true; simp
  | .str x, _ => by show (x == x) = true; simp
  | .list xs, h => eqv_reflAll xs h
  | .tuple xs, h => eqv_reflAll xs h
theorem eqv_reflAll : ∀ xs : List PyData, PyData.hasDictAll xs = false → PyData.eqvAll xs xs = true
  | [], _ => rfl
  | x :: xs, h => by
    have h' : x.hasDict = false ∧ PyData.hasDictAll xs = false := by
      have z : (x.hasDict || PyData.hasDictAll xs) = false := h
      exact Bool.or_eq_false_iff.mp z
    show (PyData.eqv x x && PyData.eqvAll xs xs) = true
    rw [eqv_refl x h'.1, eqv_reflAll xs h'.2] <;> rfl
end
theorem Nice.refl {d : PyData} (h : Nice d) : PyData.eqv d d = true := eqv_refl d (nice_nd d h.ok)
/-- a list of small things -/
theorem nice_list {xs : List PyData} {k m : Nat} (h1 : ∀ x ∈ xs, niceD x = true ∧ x.depth ≤ k ∧ nodes x ≤ m) (hk : k ≤ 8) (hm : m * xs.length ≤ 1100) : Nice (.list xs) ∧ Nice (.tuple xs) := by
  have all : ∀ ys : List PyData, (∀ x ∈ ys, niceD x = true ∧ x.depth ≤ k ∧ nodes x ≤ m) → niceAll ys = true ∧ PyData.depthAll ys ≤ k ∧ nodesAll ys ≤ m * ys.length := by
    intro ys
    induction ys with
    | nil => intro _; exact ⟨rfl, Nat.zero_le _, Nat.zero_le _⟩
    | cons y r ih =>
      intro h
      obtain ⟨a1, a2, a3⟩ := h y List.mem_cons_self
      obtain ⟨b1, b2, b3⟩ := ih fun x hx => h x (List.mem_cons_of_mem _ hx)
      refine ⟨?_, ?_, ?_⟩
      · show (niceD y && niceAll r) = true
        rw [a1, b1] <;> rfl
      · show max y.depth (PyData.depthAll r) ≤ k
        omega
      · show nodes y + nodesAll r ≤ m * (r.length + 1)
        rw [Nat.mul_add, Nat.mul_one]
        omega
  obtain ⟨a, b, c⟩ := all xs h1
  constructor
  · exact ⟨a, by show PyData.depthAll xs + 1 ≤ 10; omega, by show nodesAll xs + 1 ≤ 1200; omega⟩
  · exact ⟨a, by show PyData.depthAll xs + 1 ≤ 10; omega, by show nodesAll xs + 1 ≤ 1200; omega⟩
/-! ### comprehensions over a tuple -/
section
variable {K : PySem.W.Frag} {σ : L2.St} {H : Hp} {te tl : TE} {t : TT}
theorem el_lcT {a : Addr} {xs : List V} {j : Nat} {vs : List Nat} (f : Nat → Bool) (v : Nat → V) (h : Ev tl σ H (.ref a)) (hx : SqT K H a xs) (hz : xs.length ≤ 40000) (hw : ∀ x, wipe ((wipe σ vs).set j (some x)) vs = wipe σ vs)
    (ht : ∀ (i : Nat) (x : V) H1, Ex H H1 → xs[i]? = some x → EvT t ((wipe σ vs).set j (some x)) H1 (f i)) (he : ∀ (i : Nat) (x : V) H1, Ex H H1 → xs[i]? = some x → f i = true → Ev te ((wipe σ vs).set j (some x)) H1 (v i)) :
    EvL (tLc (iTup K tl) (gName j) t te vs) σ H (given xs.length f v) := by
  intro H0 e Q q
  refine h H0 e _ fun H1 e1 => ⟨a, rfl, ⟨xs, ex_t (e.trans e1) hx⟩, fun Dl hD => ?_⟩
  refine lc_tup (xs := xs) (Cw H1 f v Dl) ⟨hD, Ex.new hD, upd_same⟩ (fun i H' _ p => ex_t ((e.trans e1).trans p.2.1) hx) (fun i x H' hi p => ?_) (fun H' p => q Dl H' (fresh_back e1 p.1) (e1.trans p.2.1) p.2.2)
  exact ⟨hw x, cw_turn p (by have := (List.getElem?_eq_some_iff.mp hi).1; omega) (ht i x H1 (e.trans e1) hi) (fun hf => he i x H1 (e.trans e1) hi hf)⟩
end
end L3

namespace L3
open PySem PySem.Spec PyProof.Rows L2 Evl
/-! ### the end, for a promise that holds where no repr is under way -/
section
variable {P : Program} {w : World} {K : PySem.W.Frag} {mg mb : Str → Option Value} {k : Nat} {fa a : Addr} {fd : FuncData} {x : Str} {sp : Sp} {z : Shared} {vs : List Value} {ns : List Int}
/-- from an abstract heap H that may track the script alone -/
theorem endAt (KX : K.In z.heap) (hn : z.heap.Ns mainGlobals mg) (hb : z.heap.Ns builtinsNs mb) (hbb : ∀ x : Str, x ≠ "__name__" → mb x = bootBuiltins x) (lim : z.heap.NoLimit) (hg : z.gens = #[])
    (ha : z.heap.get? a = some { cls := .type "list", data := .seq vs.toArray }) (hr : Room k callerA) (F : ∀ base : Heap, K.In base → base.Ns mainGlobals mg → FnG P w K mg base k fa fd [x] sp)
    (bi : ∀ (s : Shared) (u : Value), BindsTo s fd ⟨[u], []⟩ [(x, u)]) {H : Hp} (only : Only H) (hok : HOk P w H z.heap) (hA : ∀ b, H b ≠ none → b = a) (hK : H a ≠ none → K.lookup a = none) (hsp : sp [.ref a] H (fun v _ => v = .bl true) fun _ _ _ => False) :
    codeAny (model P w) callerA (.call (.ref fa) ⟨[.ref a], []⟩) (fun r s' => r = .ok (.ret (.bool true)) ∧ OldK z.heap s'.heap ∧ s'.os = z.os ∧ AllBare s'.gens) z := by
  have off : ∀ {b : Addr}, b ≠ a → H b = none := fun {b} hb => by
    cases q : H b with
    | none => rfl
    | some u => exact absurd (hA b (by rw [q]; simp)) hb
  have offD : ∀ {b : Addr} {o : Obj} {es : Array DictEntry} {ep : Nat}, z.heap.get? b = some o → o.data = .dict es ep → H b = none := fun {b o es ep} e d => off fun y => by
    rw [y, ha] at e
    cases e
    have d' : Data.seq vs.toArray _ = Data.dict es ep := d
    cases d'
  have offK : ∀ {b : Addr} {o : Obj}, K.lookup b = some o → H b = none := fun {b o} e => by
    by_cases c : b = a
    · cases q : H b with
      | none => rfl
      | some u =>
        have n := hK (by rw [← c, q]; simp)
        rw [← c, e] at n
        cases n
    · exact off c
  have nsK : ∀ {b : Addr} {m : Str → Option Value}, z.heap.Ns b m → (hidT z.heap H).Ns b m := fun {b m} ⟨o, es, ep, e, d, r⟩ => ⟨o, es, ep, hidT_get e (offD e d), d, r⟩
  have kb : K.In (hidT z.heap H) := fun b o e => hidT_get (KX b o e) (offK e)
  have md : Mod K mg (hidT z.heap H) := ⟨kb, nsK hn, ⟨mb, nsK hb, hbb⟩, let ⟨mc, h1, h2⟩ := lim; ⟨mc, nsK h1, h2⟩⟩
  have e0 : Env0 P w K mg (hidT z.heap H) callerA [] z H := ⟨rfl, md, fun b o e => of_hidT e, Nat.le_of_eq (hidT_size _ _), trivial, (fun b hb => absurd (show b ∈ ([] : List Addr) from hb) (by simp)), hok, .of_eq hg⟩
  refine codeAny_mono ((F _ kb (nsK hn)).run callerA [] z H ⟨[.ref a], []⟩ [.ref a] [.ref a] _ _ rfl hr e0 (bi z (.ref a)) (.cons rfl .nil) hsp) fun r s' h => ?_
  cases r with
  | error e => exact h.elim
  | ok fl =>
    cases fl with
    | ret u =>
      obtain ⟨v, H', os, bare, un, hok', rv, q⟩ := h
      obtain rfl : v = .bl true := q
      obtain rfl : u = Value.bool true := rv
      refine ⟨rfl, OldK.of_keep fun b o e => ?_, os, bare⟩
      rcases only b with n | ⟨ob, xs, n⟩
      · exact un.keep b o e n (fun y => absurd (show b ∈ ([] : List Addr) from y) (by simp)) (by simp)
      · obtain ⟨e1, _⟩ := hok b _ n
        obtain ⟨e2, _⟩ := hok' b _ (un.frzs b ob _ n)
        rw [e] at e1
        cases e1
        exact e2
    | next => exact h.elim
    | brk => exact h.elim
    | cont => exact h.elim
theorem endG (KX : K.In z.heap) (hn : z.heap.Ns mainGlobals mg) (hb : z.heap.Ns builtinsNs mb) (hbb : ∀ x : Str, x ≠ "__name__" → mb x = bootBuiltins x) (lim : z.heap.NoLimit) (hg : z.gens = #[])
    (ha : z.heap.get? a = some { cls := .type "list", data := .seq vs.toArray }) (hi : IntsAre vs ns) (hl : ns.length ≤ sizeLine) (hr : Room k callerA) (F : ∀ base : Heap, K.In base → base.Ns mainGlobals mg → FnG P w K mg base k fa fd [x] sp)
    (bi : ∀ (s : Shared) (u : Value), BindsTo s fd ⟨[u], []⟩ [(x, u)]) (hsp : ∀ H : Hp, Only H → SqL K H a (ns.map V.int) → sp [.ref a] H (fun v _ => v = .bl true) fun _ _ _ => False) :
    codeAny (model P w) callerA (.call (.ref fa) ⟨[.ref a], []⟩) (fun r s' => r = .ok (.ret (.bool true)) ∧ OldK z.heap s'.heap ∧ s'.os = z.os ∧ AllBare s'.gens) z := by
  have rv := vals_ints hi
  cases hk : K.lookup a with
  | some o =>
    have e := KX a o hk
    rw [ha] at e
    cases e
    have hS : SqL K (fun _ => none) a (ns.map V.int) := Or.inr ⟨_, vs.toArray, _, hk, rfl, rfl, rfl, by rw [List.size_toArray, hi.length]; exact hl, by simpa using rv⟩
    have on : Only (fun _ => none) := fun _ => Or.inl rfl
    exact endAt KX hn hb hbb lim hg ha hr F bi on (fun b u y => nomatch (show (none : Option HO) = some u from y)) (fun b y => absurd rfl y) (fun y => absurd rfl y) (hsp _ on hS)
  | none =>
    have at_ : (fun b : Addr => if b = a then some (HO.frz { cls := .type "list", data := .seq vs.toArray } (.lst (ns.map V.int))) else none) a = some (.frz { cls := .type "list", data := .seq vs.toArray } (.lst (ns.map V.int))) := if_pos rfl
    have on : Only (fun b : Addr => if b = a then some (HO.frz { cls := .type "list", data := .seq vs.toArray } (.lst (ns.map V.int))) else none) := fun b => by
      by_cases c : b = a
      · exact Or.inr ⟨_, _, if_pos c⟩
      · exact Or.inl (if_neg c)
    refine endAt KX hn hb hbb lim hg ha hr F bi on (fun b u y => ?_) (fun b y => ?_) (fun _ => hk) (hsp _ on (Or.inl (Or.inr ⟨_, at_⟩)))
    · by_cases c : b = a
      · have y' := (if_pos c).symm.trans y
        cases y'
        rw [c]
        exact ⟨ha, by rw [List.length_map]; exact hl, vs, _, rv, ha⟩
      · have y' := (if_neg c).symm.trans y
        cases y'
    · by_cases c : b = a
      · exact c
      · exact absurd (if_neg c) y
end
theorem walkG {l : PySem.W.OpenLaw} {n k : Nat} {q : Program} {loose : List Str} {XP : (Str → Option Value) → Heap → Prop} {YP : World → Heap → Prop} {d : DefRec} {K : Params → PySem.W.Frag} {sp : World → Sp} {x : Str} (hn : l.most = some n) (hn2 : n ≤ sizeLine) (hdf : d.params.defaults = []) (hr : Room k callerA)
    (hY : ∀ (w : World) (h : Heap), YP w h → (K w.params).In h)
    (F : ∀ (w : World) (mg : Str → Option Value) (fa : Addr) (h : Heap), (K w.params).In h → h.Ns mainGlobals mg → mg d.name = some (.ref fa) →
      ∃ fd : FuncData, (∀ (s : Shared) (u : Value), BindsTo s fd ⟨[u], []⟩ [(x, u)]) ∧ ∀ base : Heap, (K w.params).In base → base.Ns mainGlobals mg → FnG l.prog w (K w.params) mg base k fa fd [x] (sp w))
    (hsp : ∀ (w : World) (H : Hp) (a : Addr) (ns : List Int), ns.length ≤ n → Only H → SqL (K w.params) H a (ns.map V.int) → sp w [.ref a] H (fun v _ => v = .bl true) fun _ _ _ => False) :
    PySem.W.WalkO q loose XP YP l.row.toRowW d [] (fun f vs => PySem.call f vs) := by
  refine Att.attach_call hn hdf fun w s₀ z mg mb fa o pm cd doc a vs ns G Y ho hd hcd hmg hobj hints hlen hg => ?_
  have KX := hY w _ Y
  obtain ⟨fd, hb, hF⟩ := F w mg fa _ KX G.T.g hmg
  exact endG KX G.T.g G.T.b G.T.builtins G.T.nolimit hg hobj hints (Nat.le_trans hlen hn2) hr hF hb fun H hO hS => hsp w H a ns hlen hO hS
end L3

namespace L3
open PySem PySem.Spec PyProof.Rows L2 Evl
/-! ### several clauses, some naming two classes at once -/
def exmC (K : PySem.W.Frag) (cls : Value) : List Value → Option Bool
  | [c] => PySem.W.exmOne K cls c
  | l => PySem.W.exmAny K cls l
abbrev ClauseT := List Value × Option Nat × (Addr → Value → Option Addr → TS)
def wClT (K : PySem.W.Frag) (Wout : WX) (D : Ends) : List ClauseT → WX
  | [] => Wout
  | (cs, o, t) :: r => fun cls d σ H => ∃ b, exmC K cls cs = some b ∧ (b = true → ∀ a, H a = none → suiteOf D o (t a cls d) a σ H) ∧ (b = false → wClT K Wout D r cls d σ H)
inductive TestOk (X : Cx) : Expr → List Value → Prop
  | one {x : Str} {c : Value} {p : Pos} (hc : Names X x c) : TestOk X (.Name x p) [c]
  | two {x y : Str} {c e : Value} {p q r : Pos} {kk : Nat} (hc : Names X x c) (he : Names X y e) : TestOk X (.Tuple [.Name x p, .Name y q] kk r) [c, e]
inductive ClsT (X : Cx) : List ExceptHandler → List ClauseT → Prop
  | nil : ClsT X [] []
  | bare {te : Expr} {cs : List Value} {t : Addr → Value → Option Addr → TS} {b : Stmt} {bs : List Stmt} {q : Pos} {hs : List ExceptHandler} {l : List ClauseT} (hc : TestOk X te cs)
      (hsu : ∀ (a : Addr) (o : Obj) (cls : Value) (d : Option Addr) (pn : List (Addr × Obj)), Zc cls d o → (∃ vs, o.data = .fields vs) → PSs (X.suite a ((a, o) :: pn)) (b :: bs) (t a cls d)) (r : ClsT X hs l) :
      ClsT X (.ExceptHandler (some te) none (b :: bs) q :: hs) ((cs, none, t) :: l)
  | named {te : Expr} {n : Str} {i : Nat} {cs : List Value} {t : Addr → Value → Option Addr → TS} {b : Stmt} {bs : List Stmt} {q : Pos} {hs : List ExceptHandler} {l : List ClauseT} (hN : X.N.Nodup) (hi : X.N[i]? = some n) (hn : X.env.kindOf n = some .local) (hc : TestOk X te cs)
      (hsu : ∀ (a : Addr) (o : Obj) (cls : Value) (d : Option Addr) (pn : List (Addr × Obj)), Zc cls d o → (∃ vs, o.data = .fields vs) → PSs (X.suite a ((a, o) :: pn)) (b :: bs) (t a cls d)) (r : ClsT X hs l) :
      ClsT X (.ExceptHandler (some te) (some n) (b :: bs) q :: hs) ((cs, some i, t) :: l)
/-- a flight bears a further object -/
theorem flying_push {B : Heap} {l : List Env} {a : Addr} {Z : Obj → Prop} {h : Heap} {o : Obj} (fl : HandSPX.FlyingZ B l a Z h) : HandSPX.FlyingZ B l a Z (h.push o) := by
  have kp : ∀ b u, h.get? b = some u → (h.push o).get? b = some u := fun _ _ z => Heap.get?_push_of_some _ z
  obtain ⟨f1, f2, f3, oe, vs, T, oT, ts, g1, g2, g3, g4, g5, g6, g7, g8, g9⟩ := fl
  exact ⟨fun b u e => kp b u (f1 b u e), f2, Heap.FunFrames.of_keeps (fun b u e _ => ⟨u, kp b u e, rfl⟩) f3, oe, vs, T, oT, ts, kp _ _ g1, g2, g3, g4, g5, g6, kp _ _ g7, g8, g9⟩
theorem ps_tryT {X : Cx} {body : List Stmt} {h : ExceptHandler} {hs : List ExceptHandler} {l : List ClauseT} {pos : Pos} {tb : WX → TS} {Wout : WX} (st : X.stack = X.env :: X.outer) (fr : X.env.frame = some X.env.locals) (tk : Takes X Wout)
    (bo : ∀ (W : WX) (pn : List (Addr × Obj)) (xe : Value → Shared → Prop), Takes (X.tr pn xe) W → PassesOwn (model X.prog X.w) X.A X.env xe → PSs (X.tr pn xe) body (tb W))
    (cl : ClsT X (h :: hs) l) : PS X (.Try body (h :: hs) [] [] pos) (fun D σ H => tb (wClT X.K Wout D l) D σ H) := by
  refine ⟨fun pins s σ H D I rd => ?_⟩
  have ok := I.ok
  have hfr : X.A.frames = some (X.env :: X.outer) := by rw [ok.frames, st]
  refine wpAny_Try_except ?_
  refine wpAny_mono ((bo (wClT X.K Wout D l) (X.pn ++ pins) (fun e z => wpAny (model X.prog X.w) X.A (noteFrame e X.env) (fun _ z2 => wpAny (model X.prog X.w) X.A (setFlight e none) (fun _ z3 =>
    wpAny (model X.prog X.w) X.A (handleBy e X.env (h :: hs)) (SP X pins D) X.xe z3) X.xe z2) X.xe z) (fun u s' hit => ?_) PassesOwn.looking).run [] s σ H D (I.toTry _) rd) (fun f z sp => ?_) (fun e z he => he)
  · obtain ⟨a, B, s0, pins', σ', H', cls, d, rfl, J', nb, up, sky, na, os, ag, wish⟩ := hit
    have J : Inv X pins σ' H' s0 := J'.ofTry ok
    have sky' : Sky B (X.env :: X.outer) a (Zc cls d) X.env.locals s'.heap := by
      rw [← st]
      exact sky
    show wpAny (model X.prog X.w) X.A (noteFrame (.ref a) X.env) _ _ _
    refine Sky.land Zc.steady hfr fr sky' fun h0 fl0 up0 => ?_
    have off : ∀ {hh : Heap} {o3 : Obj} {v3 : Array Value}, Inv X pins σ' H' { s' with heap := hh } → HandSPX.FlyingZ B (X.env :: X.outer) a (Zc cls d) hh → hh.get? a = some o3 → o3.data = .fields v3 → a ≠ X.env.locals ∧ a ∉ X.fs := fun {hh o3 v3} _ fl at3 d3 => by
      have of1 : a ∉ frs (X.env :: X.outer) := fun hm => by
        obtain ⟨_, o', e', nf⟩ := fl.2.2.1.mem hm
        rw [at3] at e'
        cases e'
        exact nf _ d3
      exact ⟨fun z => of1 (List.mem_filterMap.mpr ⟨X.env, List.mem_cons_self, by rw [fr, z]⟩), fun hm => by
        obtain ⟨e, he, q⟩ := List.mem_filterMap.mp hm
        exact of1 (List.mem_filterMap.mpr ⟨e, List.mem_cons_of_mem _ he, q⟩)⟩
    have tst : ∀ {te : Expr} {cs : List Value} {b : Bool} {R : Bool → Shared → Prop} {E1 E2 : Value → Shared → Prop}, TestOk X te cs → exmC X.K cls cs = some b → ∀ h3, HandSPX.FlyingZ B (X.env :: X.outer) a (Zc cls d) h3 → s'.heap.UpToSlots h3 →
        (∀ h4, HandSPX.FlyingZ B (X.env :: X.outer) a (Zc cls d) h4 → s'.heap.UpToSlots h4 → R b { s' with heap := h4 }) →
        wpAny (model X.prog X.w) (X.A.mark (some (.ref a))) (eval te X.env) (fun c s2 => wpAny (model X.prog X.w) (X.A.mark (some (.ref a))) (excMatches (.ref a) c) R E1 s2) E2 { s' with heap := h3 } := by
      intro te cs b R E1 E2 ht hb h3 fl up3 q
      have J3 : Inv X pins σ' H' { s' with heap := h3 } := J.landed nb fl.1 (up.trans up3) os ag
      obtain ⟨o3, v3, at3, z3, d3⟩ := fl.there
      obtain ⟨nL, nF⟩ := off J3 fl at3 d3
      have S3 := J3.suite at3 d3 na nL nF
      have typ : PySem.W.Looks (model X.prog X.w) h3 (typeOf (.ref a)) cls := fun A Q E s k q => wpAny_typeOf_ref (k _ _ at3) (by rw [z3.1]; exact q)
      have named : ∀ {x : Str} {c : Value} {p : Pos} {Q E0 : Value → Shared → Prop}, Names X x c → Q c { s' with heap := h3 } →
          wpAny (model X.prog X.w) (X.A.mark (some (.ref a))) (eval (.Name x p) X.env) Q E0 { s' with heap := h3 } := fun {x c p Q E0} hc q => by
        obtain ⟨hg, hdb, hm | ⟨hm, hv, hne⟩⟩ := hc
        · exact ld_glob (X := X.suite a ((a, o3) :: (X.pn ++ pins))) S3 hg hm q hdb
        · exact ld_blt (X := X.suite a ((a, o3) :: (X.pn ++ pins))) S3 hg hm hv q hne hdb
      cases ht with
      | one hc => exact named hc ((PySem.W.exm_one (M := model X.prog X.w) (J3.kIn) typ hb).here (q h3 fl up3))
      | @two x y c e p r r2 kk hc he =>
        refine wpAny_Tuple ?_
        refine wpAny_items_cons (named hc ?_)
        refine wpAny_items_cons (named he ?_)
        refine wpAny_items_nil ⟨by size_fits, ?_⟩
        have kp : ∀ b o, h3.get? b = some o → (h3.push { cls := .type "tuple", data := .seq [c, e].toArray }).get? b = some o := fun _ _ z => Heap.get?_push_of_some _ z
        refine (PySem.W.exm_tup2 (M := model X.prog X.w) (J3.kIn.keeps kp) (typ.keeps kp) (Heap.get?_push_size h3 rfl) hb).here (q _ (flying_push fl) (up3.trans (Heap.UpToSlots.of_keeps kp)))
    have go : ∀ {ks : List ExceptHandler} {ls : List ClauseT}, ClsT X ks ls → wClT X.K Wout D ls cls d σ' H' → ∀ h3, HandSPX.FlyingZ B (X.env :: X.outer) a (Zc cls d) h3 → s'.heap.UpToSlots h3 →
        wpAny (model X.prog X.w) X.A (handleBy (.ref a) X.env ks) (SP X pins D) X.xe { s' with heap := h3 } := by
      intro ks ls hk
      induction hk with
      | nil =>
        intro wi h3 fl up3
        have J3 : Inv X pins σ' H' { s' with heap := h3 } := J.landed nb fl.1 (up.trans up3) os ag
        refine wpAny_handleBy_nil ?_
        obtain ⟨y1, y2, y3, oe, vs, Ta, oT, ts, he, hz, hd, hv1, hrest⟩ := id fl
        unfold PySem.passOn
        refine wpAny_bind (wpAny_field he hd hv1 ?_)
        rw [if_neg (show ¬ ((Value.ref Ta == Value.none) = true) by simp)]
        have fin : wpAny (model X.prog X.w) X.A (setFlight (.ref a) X.env.frame) (fun _ w4 => wpAny (model X.prog X.w) X.A (throw (.ref a) : Sem Flow) (SP X pins D) X.xe w4) X.xe { s' with heap := h3 } := by
          rw [fr]
          refine HandSPX.setFlight_upZ fl fun h4 hh up4 => wpAny_throw (tk _ _ ?_)
          exact ⟨a, B, s0, pins, σ', H', cls, d, rfl, J, nb, (up.trans up3).trans up4, .inr (.inr (by rw [st]; exact hh)), na, os, ag, wi⟩
        first | exact wpAny_bind (wpAny_pure (wpAny_bind fin)) | exact wpAny_bind fin
      | @bare te cs t b bs q hs2 l2 hc hsu r ih =>
        intro wi h3 fl up3
        obtain ⟨y, hy, yes, no⟩ := wi
        refine wpAny_handleBy_cons (codeAny_handlers_test ?_) (by cases hc <;> (intro q; cases q))
        refine tst hc hy h3 fl up3 fun h4 fl4 up4 => ?_
        cases y with
        | false =>
          show wpAny _ X.A (handleBy (.ref a) X.env hs2) _ _ _
          exact ih (no rfl) h4 fl4 up4
        | true =>
          refine codeAny_handlers_suite ?_
          refine HandSPX.lands_againZ fl4 fun h5 fl5 up5 => ?_
          have J5 : Inv X pins σ' H' { s' with heap := h5 } := J.landed nb fl5.1 ((up.trans up4).trans up5) os ag
          obtain ⟨o5, v5, at5, z5, d5⟩ := fl5.there
          obtain ⟨nL, nF⟩ := off J5 fl5 at5 d5
          have S5 := J5.suite at5 d5 na nL nF
          refine wpAny_mono ((hsu a o5 cls d (X.pn ++ pins) z5 ⟨_, d5⟩).run [] _ _ H' D S5 (yes rfl a na)) (fun f s6 sp => ?_) (fun _ _ z => False.elim z)
          cases f with
          | ret u =>
            obtain ⟨v6, σ6, H6, S6, r6, q6⟩ := sp
            exact ⟨v6, σ6, H6, S6.unsuite ok, r6, q6⟩
          | next =>
            obtain ⟨σ6, H6, S6, q6⟩ := sp
            exact ⟨σ6, H6, S6.unsuite ok, q6⟩
          | brk =>
            obtain ⟨σ6, H6, S6, q6⟩ := sp
            exact ⟨σ6, H6, S6.unsuite ok, q6⟩
          | cont =>
            obtain ⟨σ6, H6, S6, q6⟩ := sp
            exact ⟨σ6, H6, S6.unsuite ok, q6⟩
      | @named te n i cs t b bs q hs2 l2 hN hi hn hc hsu r ih =>
        intro wi h3 fl up3
        obtain ⟨y, hy, yes, no⟩ := wi
        refine wpAny_handleBy_cons (codeAny_handlers_test ?_) (by cases hc <;> (intro q; cases q))
        refine tst hc hy h3 fl up3 fun h4 fl4 up4 => ?_
        cases y with
        | false =>
          show wpAny _ X.A (handleBy (.ref a) X.env hs2) _ _ _
          exact ih (no rfl) h4 fl4 up4
        | true =>
          refine codeAny_handlers_suite_as ?_
          refine HandSPX.lands_againZ fl4 fun h5 fl5 up5 => ?_
          have J5 : Inv X pins σ' H' { s' with heap := h5 } := J.landed nb fl5.1 ((up.trans up4).trans up5) os ag
          obtain ⟨o5, v5, at5, z5, d5⟩ := fl5.there
          obtain ⟨nL, nF⟩ := off J5 fl5 at5 d5
          have S5 := J5.suite at5 d5 na nL nF
          refine store_ok (X := X.suite a ((a, o5) :: (X.pn ++ pins))) (v := .ref a) S5 hN hi (.inl hn) rfl (fun sx Sx => ?_) (.inr hn)
          refine wpAny_mono ((hsu a o5 cls d (X.pn ++ pins) z5 ⟨_, d5⟩).run [] sx _ H' (gone D i) Sx (yes rfl a na)) (fun f s6 sp => ?_) (fun _ _ z => False.elim z)
          have out : ∀ {σ6 : L2.St} {H6 : Hp} {Q : Shared → Prop}, Inv (X.suite a ((a, o5) :: (X.pn ++ pins))) [] σ6 H6 s6 → (∀ s7, Inv X pins (σ6.set i none) H6 s7 → Q s7) →
              wpAny (model X.prog X.w) X.A (do bindName X.env n .none; unbindBehindTheSuite X.env n q) (fun _ s7 => Q s7) X.xe s6 := fun {σ6 H6 Q} S6 hq => gone_ok (S6.unsuite ok) hN hi hn hq
          cases f with
          | ret u =>
            obtain ⟨v6, σ6, H6, S6, r6, q6⟩ := sp
            exact out S6 fun s7 J7 => ⟨v6, _, H6, J7, r6, q6⟩
          | next =>
            obtain ⟨σ6, H6, S6, q6⟩ := sp
            exact out S6 fun s7 J7 => ⟨_, H6, J7, q6⟩
          | brk =>
            obtain ⟨σ6, H6, S6, q6⟩ := sp
            exact out S6 fun s7 J7 => ⟨_, H6, J7, q6⟩
          | cont =>
            obtain ⟨σ6, H6, S6, q6⟩ := sp
            exact out S6 fun s7 J7 => ⟨_, H6, J7, q6⟩
    exact go cl wish h0 fl0 up0
  · cases f with
    | ret u =>
      obtain ⟨v, σ', H', J', r, q⟩ := sp
      exact ⟨v, σ', H', J'.ofTry ok, r, q⟩
    | next =>
      obtain ⟨σ', H', J', q⟩ := sp
      exact wpAny_execs_nil ⟨σ', H', J'.ofTry ok, q⟩
    | brk =>
      obtain ⟨σ', H', J', q⟩ := sp
      exact ⟨σ', H', J'.ofTry ok, q⟩
    | cont =>
      obtain ⟨σ', H', J', q⟩ := sp
      exact ⟨σ', H', J'.ofTry ok, q⟩
/-! ### isinstance of a caught error that has a dict of its own -/
section
open PySem.W PySem.Calls
variable {prog : Program} {w : World} {A : Around} {E : Value → Shared → Prop} {s : Shared} {K : Frag} {x D : Addr} {ox : Obj} {od : Option Obj}
theorem find_data {C : Addr} {nm : Str} {at0 g0 : Value} (h1 : (clsIn K C).isSome = true) (h2 : findIn K (.ref C) nm = some (some at0)) (h3 : specialIn K at0 "__get__" = some (some g0)) (h4 : takesIn K at0 = some true) : findObj K C od nm = some (.bind g0 at0) := by
  obtain ⟨cd, h1⟩ := Option.isSome_iff_exists.mp h1
  unfold findObj
  rw [h1, Option.bind_some, h2, Option.bind_some]
  simp [h3, h4]
theorem class_of_err {Q : Option Value → Shared → Prop} (T : ExcC K D) (X : K.In s.heap) (I : InstAt s.heap x ox D od) (h : Q (some (.ref D)) { s with toks := s.toks + 1 }) : wpAny (model prog w) A (getAttr? (.ref x) "__class__") Q E s := by
  have ff : findObj K D od "__class__" = some (.bind (.builtin "getset_descriptor.__get__") (.builtin "object.__class__")) := find_data (by obtain ⟨cd, hc, _⟩ := any_some T.hd; rw [hc]; rfl) T.ha T.hn T.ht
  obtain ⟨hp, g, d, t, os⟩ := s
  have T0 := I.type (M := model prog w)
  have T1 := looks_findIn (M := model prog w) X T.hg
  have T2 := looks_findIn (M := model prog w) X T.hk
  have T3 := looks_find (M := model prog w) X I ff
  have sb : Looks (model prog w) hp (isInstance (.ref x) (.type "BaseException")) true := T0.andThen (looks_subIn X T.hs)
  have n2 : (Value.builtin "BaseException.__getattribute__" == Value.builtin "object.__getattribute__") = false := by decide +kernel
  have n1 : (onTheHeap (Value.ref D) && Value.builtin "BaseException.__getattribute__" == Value.builtin "object.__getattribute__") = false := by rw [n2] <;> rfl
  have n0 : (false && onTheHeap (Value.builtin "BaseException.__getattribute__")) = false := rfl
  unfold getAttr? getAttrBy? getAttrBy
  refine wpAny_bind (wpAny_mkText (wpAny_bind (wpAny_attempt (wpAny_holding (wpAny_bind (T0.at (wpAny_bind (T1.at ?_))))))))
  show wpAny _ _ (if (onTheHeap (Value.ref D) && Value.builtin "BaseException.__getattribute__" == Value.builtin "object.__getattribute__") = true then _ else _) _ _ _
  rw [n1, if_neg Bool.false_ne_true]
  unfold getAttrByItsOwn hookBefore
  refine wpAny_bind ?_
  rw [if_pos (show onTheHeap (Value.ref D) = true from rfl)]
  refine T2.at ?_
  refine wpAny_bind (wpAny_attempt (wpAny_holding ?_))
  unfold callGetattribute
  rw [n0, if_neg Bool.false_ne_true]
  unfold boundAndCalled
  rw [PySem.F.excAttr_ValueError.ga.bind (.ref x)]
  refine wpAny_bind (wpAny_pure ?_)
  show wpAny _ _ (call (.builtin "BaseException.__getattribute__") [.ref x, .str "__class__" t]) _ _ _
  refine wpAny_call (codeAny_call_builtin PySem.F.excAttr_ValueError.ga.plain PySem.F.entry_bexc_ga ?_)
  refine @check_slot (model prog w) _ _ ⟨hp, g, d, t + 1, os⟩ "BaseException.__getattribute__" "BaseException" "__getattribute__" (.ref x) [.str "__class__" t] [] _ (by decide +kernel) (by decide +kernel) sb (PySem.F.args_bexc_ga (.ref x) (.str "__class__" t)) ?_
  unfold Builtin.«object.__getattribute__»
  refine wpAny_bind (wpAny_of_eq (a := ((Value.ref x : Value), [Value.str "__class__" t])) (by first | rfl | (simp only [slotArgs]; rfl)) ?_)
  refine wpAny_bind (wpAny_pure (wpAny_bind (T0.at (wpAny_bind (T3.at ?_)))))
  show wpAny _ _ (holding [Value.builtin "object.__class__"] (call (.builtin "getset_descriptor.__get__") [.builtin "object.__class__", .ref x, .ref D]) >>= ret) _ _ _
  refine wpAny_bind (wpAny_holding (wpAny_call (class_get (s := ⟨hp, g, d, t + 1, os⟩) (ox := ox) (od := od) X I T.hm ?_)))
  refine wpAny_pure ?_
  show wpAny _ _ (handedOut (.ref D)) _ _ _
  rw [handedOut_of (v := .ref D) rfl]
  first
    | exact wpAny_pure (wpAny_pure h)
    | exact wpAny_pure h
    | exact wpAny_pure (wpAny_bind (wpAny_pure (wpAny_pure h)))
theorem kitx_err (T : ExcC K D) : KitX K (.ref x) (.ref D) (fun h => InstAt h x ox D od) where
  ty := fun _ _ _ I => I.type
  it := fun _ _ X _ => by
    obtain ⟨cdD, hcD, _⟩ := any_some T.hd
    unfold clsIn at hcD
    split at hcD
    · rename_i c' d' cd' sl' ho
      intro A' Q' E' s' k q
      unfold isType loadHead
      exact wpAny_bind (wpAny_loadPart (k _ _ (X _ _ ho)) (wpAny_pure q))
    · cases hcD
  ne := fun h tp dd its n sl X htp => by
    obtain ⟨cdD, hcD, _⟩ := any_some T.hd
    refine Bool.eq_false_iff.mpr fun q => ?_
    have e : D = tp := Value.ref.inj (beq_iff_eq.mp q)
    subst e
    unfold clsIn at hcD
    split at hcD
    · rename_i c' d' cd' sl' ho
      have z := (X _ _ ho).symm.trans htp
      cases z
    · cases hcD
  ca := fun X I k => class_of_err T X I k
end
/-- isinstance(err, c), the error of class D with a dict of its own -/
def rIsX (K : PySem.W.Frag) (D a : Addr) (cls : Value) (d : Option Addr) : List V → Hp → VK → Prop := fun xs H Q => ∃ (c : V) (cv : Value) (b : Bool), xs = [.ref a, c] ∧ cls = .ref D ∧ (∃ (dd : Addr) (fs : List (Str × V)), d = some dd ∧ H dd = some (.xd fs)) ∧ (∀ u, RelV c u → u = cv) ∧ PySem.W.kitOne K (.ref D) cv = some b ∧ Q (.bl b) H
theorem call_isX {X : Cx} {a D : Addr} {oe : Obj} {cls : Value} {d : Option Addr} {pn : List (Addr × Obj)} (T : ExcC X.K D) (hz : Zc cls d oe) (hf : ∃ vs, oe.data = .fields vs) : CallR (X.suite a ((a, oe) :: pn)) (.builtin "isinstance") (rIsX X.K D a cls d) := by
  intro pins s σ H xs us Q I r h
  obtain ⟨c, cv, b, rfl, rfl, ⟨dd, fs, rfl, hdd⟩, hcv, e, q⟩ := h
  cases r with
  | cons rx rr =>
    cases rr with
    | cons rt rr =>
      cases rr
      cases rx
      have ec := hcv _ rt
      subst ec
      obtain ⟨hget, _⟩ := I.pin (a, oe) (List.mem_append.mpr (.inl List.mem_cons_self))
      obtain ⟨vs, hv⟩ := hf
      have hx : ObjOk X.prog X.w H s.heap dd (.xd fs) := I.hok dd _ hdd
      obtain ⟨mA, hns, hr⟩ := hx
      obtain ⟨od, ho, hl⟩ := lookIn_ns hns
      have J : PySem.W.InstAt s.heap a oe D (some od) := ⟨hget, hz.1, by unfold PySem.W.notCls; rw [hv] <;> rfl, by rw [hz.2]; exact ho⟩
      exact PySem.W.kia_one (kitx_err T) I.kIn J e (fun z => nomatch z) fun tk => ⟨.bl b, H, I.kept (t' := tk) fun _ _ z => z, rfl, q⟩
end L3

namespace L3
open PySem PySem.Spec PyProof.Rows L2 Evl
/-! ### what an expression tells, as data that stands where a heap B tells nothing -/
/-- what stands beside B -/
def newIn (H B : Hp) : Hp := fun a => match B a with
  | none => H a
  | some _ => none
section
variable {B H H1 : Hp} {g p : Addr} {o : HO}
theorem new_at (hB : B p = none) : newIn H B p = H p := by
  unfold newIn
  rw [hB]
theorem new_off (hB : B p = some o) : newIn H B p = none := by
  unfold newIn
  rw [hB]
theorem new_sub : Ex (newIn H B) H := fun a u h => by
  cases q : B a with
  | none =>
    rw [new_at q] at h
    exact h
  | some v =>
    rw [new_off q] at h
    cases h
theorem new_ex (e : Ex H H1) : Ex (newIn H B) (newIn H1 B) := fun a u h => by
  cases q : B a with
  | none =>
    rw [new_at q] at h ⊢
    exact e a u h
  | some v =>
    rw [new_off q] at h
    cases h
theorem new_del (hB : B g = some o) (e : Ex (newIn H B) H1) : Ex (newIn H B) (del H1 g) := fun a u h => by
  by_cases c : a = g
  · rw [c, new_off hB] at h
    cases h
  · rw [del_ne c]
    exact e a u h
theorem del_keep (e : Ex (del H g) (del H1 g)) (h : H p = some o) (n : p ≠ g) : H1 p = some o := by
  have z := e p o (by rw [del_ne n]; exact h)
  rw [del_ne n] at z
  exact z
theorem new_bag (hB : B g = some o) (e : Ex (del H g) (del H1 g)) : Ex (newIn H B) (newIn H1 B) := fun a u h => by
  cases q : B a with
  | none =>
    rw [new_at q] at h ⊢
    have c : a ≠ g := fun z => by
      rw [z, hB] at q
      cases q
    exact del_keep e h c
  | some v =>
    rw [new_off q] at h
    cases h
/-- one object alone -/
def onlyAt (H : Hp) (g : Addr) : Hp := fun a => if a = g then H g else none
theorem only_at : onlyAt H g g = H g := if_pos rfl
theorem only_ne (h : p ≠ g) : onlyAt H g p = none := if_neg h
theorem only_ex : Ex (onlyAt H g) H := fun a u h => by
  by_cases c : a = g
  · rw [c, only_at] at h
    rw [c]
    exact h
  · rw [only_ne c] at h
    cases h
theorem new_only (hg : H g = some o) : newIn H1 (onlyAt H g) = del H1 g := by
  funext b
  by_cases c : b = g
  · rw [c, new_off (by rw [only_at]; exact hg), del_same]
  · rw [new_at (only_ne c), del_ne c]
end
section
variable (K : PySem.W.Frag) (B : Hp)
def DvE (te : TE) (σ : L2.St) (H : Hp) (d : PyData) : Prop := ∀ H1, Ex H H1 → ∀ Q : VK, (∀ z H2, Ex H1 H2 → Dp K (newIn H2 B) z d → Q z H2) → te σ H1 Q
def DvA (ta : TA) (σ : L2.St) (H : Hp) (ds : List PyData) : Prop := ∀ H1, Ex H H1 → ∀ Q : List V → Hp → Prop, (∀ xs H2, Ex H1 H2 → DpAll K (newIn H2 B) xs ds → Q xs H2) → ta σ H1 Q
def DvL (te : TE) (σ : L2.St) (H : Hp) (ds : List PyData) : Prop := ∀ H1, Ex H H1 → ∀ Q : VK, (∀ p xs H2, Ex H1 H2 → B p = none → H2 p = some (.lst xs) → DpAll K (newIn H2 B) xs ds → Q (.ref p) H2) → te σ H1 Q
end
section
variable {K : PySem.W.Frag} {B : Hp} {σ : L2.St} {H : Hp} {te tb tn : TE} {ta tr : TA} {d : PyData} {ds es : List PyData} {v : V}
theorem dv_ev (h : Ev te σ H v) (hd : Dp K (newIn H B) v d) : DvE K B te σ H d := fun H1 e Q q => h H1 e Q fun H2 e2 => q v H2 e2 (dp_ex (new_ex (e.trans e2)) hd)
theorem dv_int {i : Int} (h : Ev te σ H (.int i)) : DvE K B te σ H (.int i) := fun H1 e Q q => h H1 e Q fun H2 e2 => q _ H2 e2 (.int i)
theorem dv_str {x : Str} (h : Ev te σ H (.str x)) : DvE K B te σ H (.str x) := fun H1 e Q q => h H1 e Q fun H2 e2 => q _ H2 e2 (.str x)
theorem dv_bl {b : Bool} (h : Ev te σ H (.bl b)) : DvE K B te σ H (.bool b) := fun H1 e Q q => h H1 e Q fun H2 e2 => q _ H2 e2 (.bl b)
theorem dv_non (h : Ev te σ H .non) : DvE K B te σ H .none := fun H1 e Q q => h H1 e Q fun H2 e2 => q _ H2 e2 .non
theorem da_nil : DvA K B tNil σ H [] := fun H1 e Q q => q [] H1 (Ex.refl H1) .nil
theorem da_cons (h : DvE K B te σ H d) (hr : DvA K B tr σ H ds) : DvA K B (tCons te tr) σ H (d :: ds) := fun H1 e Q q =>
  h H1 e _ fun z H2 e2 hz => hr H2 (e.trans e2) _ fun xs H3 e3 hx => q (z :: xs) H3 (e2.trans e3) (.cons (dp_ex (new_ex e3) hz) hx)
theorem dv_tup (hb : Ex B H) (h : DvA K B ta σ H ds) (hl : ds.length ≤ 100000) : DvE K B (tTup ta) σ H (.tuple ds) := fun H1 e Q q =>
  h H1 e _ fun xs H2 e2 hx => ⟨sz_of (by rw [dps_len' hx]; exact hl), fun p hp => q _ _ (e2.trans (Ex.new hp)) (.tup (st_of (by rw [new_at (fresh_back ((hb.trans e).trans e2) hp)]; exact upd_same)) (dps_ex (new_ex (Ex.new hp)) hx))⟩
theorem dl_lst (hb : Ex B H) (h : DvA K B ta σ H ds) (hl : ds.length ≤ 100000) : DvL K B (tLst ta) σ H ds := fun H1 e Q q =>
  h H1 e _ fun xs H2 e2 hx => ⟨sz_of (by rw [dps_len' hx]; exact hl), fun p hp => q _ xs _ (e2.trans (Ex.new hp)) (fresh_back ((hb.trans e).trans e2) hp) upd_same (dps_ex (new_ex (Ex.new hp)) hx)⟩
theorem dl_var {i : Nat} {p : Addr} {xs : List V} (h : σ[i]? = some (some (.ref p))) (n : B p = none) (hp : H p = some (.lst xs)) (hx : DpAll K (newIn H B) xs ds) : DvL K B (tVar i) σ H ds := fun H1 e Q q =>
  ⟨_, h, q p xs H1 (Ex.refl H1) n (e p _ hp) (dps_ex (new_ex e) hx)⟩
theorem dv_l (h : DvL K B te σ H ds) : DvE K B te σ H (.list ds) := fun H1 e Q q =>
  h H1 e Q fun p xs H2 e2 n hp hx => q _ H2 e2 (.lst (sq_of (by rw [new_at n]; exact hp)) hx)
theorem dps_app {H : Hp} : ∀ {xs ys : List V} {ds es : List PyData}, DpAll K H xs ds → DpAll K H ys es → DpAll K H (xs ++ ys) (ds ++ es)
  | _, _, _, _, .nil, h => h
  | _, _, _, _, .cons a r, h => .cons a (dps_app r h)
theorem dl_cat (hb : Ex B H) (h1 : DvL K B te σ H ds) (h2 : DvL K B tb σ H es) (hl : ds.length + es.length ≤ 100000) : DvL K B (tOp rCat te tb) σ H (ds ++ es) := fun H1 e Q q =>
  h1 H1 e _ fun p xs H2 e2 n2 hp2 hx2 => h2 H2 (e.trans e2) _ fun p3 ys H3 e3 n3 hp3 hx3 =>
    ⟨p, p3, xs, ys, rfl, rfl, e3 p _ hp2, hp3, sz_of (by rw [dps_len' hx2, dps_len' hx3]; exact hl), fun pz hpz =>
      q _ _ _ ((e2.trans e3).trans (Ex.new hpz)) (fresh_back (((hb.trans e).trans e2).trans e3) hpz) upd_same (dps_ex (new_ex (Ex.new hpz)) (dps_app (dps_ex (new_ex e3) hx2) hx3))⟩
theorem dl_rep {n : Nat} (hb : Ex B H) (h : DvE K B te σ H d) (hn : Ev tn σ H (.int (n : Int))) (hz : n ≤ 100000) : DvL K B (tOp rRep (tLst (tCons te tNil)) tn) σ H (List.replicate n d) := fun H1 e Q q =>
  h H1 e _ fun z H2 e2 hd => ⟨by show 1 ≤ sizeLine; decide, fun l hl => hn _ ((e.trans e2).trans (Ex.new hl)) _ fun H3 e3 => ⟨l, (n : Int), [z], rfl, rfl, e3 l _ upd_same, by omega, by omega, by
      have q1 : [z].length * ((n : Int)).toNat = n := by simp
      rw [q1]
      exact sz_of hz, fun p hp => by
        have q2 : (List.replicate ((n : Int)).toNat [z]).flatten = List.replicate n z := by simp
        rw [q2]
        have e23 := (Ex.new (o := .lst [z]) hl).trans e3
        refine q p _ _ ((e2.trans e23).trans (Ex.new hp)) (fresh_back (((hb.trans e).trans e2).trans e23) hp) upd_same (dps_ex (new_ex (Ex.new hp)) ?_)
        have hd3 : Dp K (newIn H3 B) z d := dp_ex (new_ex e23) hd
        clear q q2 hp hn hz
        induction n with
        | zero => exact .nil
        | succ m ih => exact .cons hd3 ih⟩⟩
theorem dps_take : ∀ {H : Hp} {xs : List V} {ds : List PyData} (n : Nat), DpAll K H xs ds → DpAll K H (xs.take n) (ds.take n)
  | _, _, _, 0, _ => .nil
  | _, _, _, _ + 1, .nil => .nil
  | _, _, _, n + 1, .cons a r => .cons a (dps_take n r)
theorem dps_drop : ∀ {H : Hp} {xs : List V} {ds : List PyData} (n : Nat), DpAll K H xs ds → DpAll K H (xs.drop n) (ds.drop n)
  | _, _, _, 0, h => h
  | _, _, _, _ + 1, .nil => .nil
  | _, _, _, n + 1, .cons _ r => dps_drop n r
theorem cut_take {xs : List V} (n : Nat) : cutV xs none (some (n : Int)) = xs.take n := by
  unfold cutV
  rw [HT.sIx_none, HT.sIx_nat, List.drop_zero, Nat.sub_zero]
  by_cases c : n ≤ xs.length
  · rw [Nat.min_eq_left c]
  · rw [Nat.min_eq_right (by omega), List.take_of_length_le (Nat.le_refl _), List.take_of_length_le (by omega)]
theorem passE {X : Cx} : Passes (L2.CX X.prog X.w) X E0 := fun _ _ _ _ _ _ _ ⟨_, _, _, _, _, _, _, _, _, _, _, _, h⟩ => h.elim
theorem q_asgDl {tz : TS} {D : Ends} {i : Nat} (h : DvL K B te σ H ds) (k : ∀ p xs H1, Ex H H1 → B p = none → H1 p = some (.lst xs) → DpAll K (newIn H1 B) xs ds → tz D (σ.set i (some (.ref p))) H1) : tSeq (tAsg te (gName i)) tz D σ H :=
  h H (Ex.refl H) _ fun p xs H2 e2 n hp hx => k p xs H2 e2 n hp hx
theorem q_asgD {tz : TS} {D : Ends} {i : Nat} (h : DvE K B te σ H d) (k : ∀ z H1, Ex H H1 → Dp K (newIn H1 B) z d → tz D (σ.set i (some z)) H1) : tSeq (tAsg te (gName i)) tz D σ H :=
  h H (Ex.refl H) _ fun z H2 e2 hz => k z H2 e2 hz
end
end L3

namespace L3
open PySem PySem.Spec PyProof.Rows L2 Evl
/-! ### own __str__, __repr__, == of one's own instances -/
/-- the special method m of the class C is the def at f -/
structure Spm (K : PySem.W.Frag) (C : Addr) (m : Str) (f : Addr) : Prop where
  at_ : PySem.W.findIn K (.ref C) m = some (some (.ref f))
  fn : PySem.W.isFn K (.ref f) = true
section
variable {X : Cx} {CX : CXT} {n : Nat} {C f : Addr} {fd : FuncData} {ps : List Str} {sp : Sp} {pins : List (Addr × Obj)} {σ : L2.St} {H : Hp} {s : Shared}
/-- an own def called somewhere within a builtin -/
theorem own_call {A' : Around} {us : List Value} {vs : List V} {Q : VK} (F : FnOk X.prog X.w X.K X.mg X.base CX n f fd ps sp) (hb : Binds X.K fd ps []) (hx : Passes CX X E0) (hr : Room n A') (hfr : A'.frames = X.A.frames) (I : Inv X pins σ H s) (r : Vals vs us) (h : sp vs H Q E0) :
    wpAny (model X.prog X.w) A' (call (.ref f) us) (EP X pins σ Q) X.xe s := by
  have e0 : Env0 X.prog X.w X.K X.mg X.base A' X.stack s H := by
    have e := I.env0
    exact ⟨by rw [hfr]; exact e.frames, e.mod, e.bs, e.bsz, e.funs, e.frf, e.hok, e.bare⟩
  have hl : us.length = ps.length := by
    rw [← r.length]
    exact F.len _ _ _ _ h
  have b := hb s us I.kIn (by rw [List.append_nil]; exact hl)
  rw [List.append_nil] at b
  refine wpAny_call (codeAny_mono (F.run A' X.stack s H ⟨us, []⟩ us vs Q E0 hr e0 b r h) fun rr s' hq => ?_)
  cases rr with
  | error e => exact hx pins σ H s e s' I hq
  | ok fl =>
    cases fl with
    | ret u => exact I.after hq
    | next => exact hq.elim
    | brk => exact hq.elim
    | cont => exact hq.elim
theorem strBack {Q : VK} {u : Value} {s' : Shared} (h : EP X pins σ (fun v H' => (∃ y, v = .str y) ∧ Q v H') u s') : PySem.W.StrBack (fun v s'' => EP X pins σ Q v s'') u s' := by
  obtain ⟨v, H', I', rv, ⟨y, rfl⟩, q⟩ := h
  obtain ⟨t, rfl⟩ := (show ∃ t, u = Value.str y t from rv)
  exact ⟨.str y, H', I', ⟨t, rfl⟩, q⟩
/-- str(x), repr(x) of an own instance: what its own def promises -/
def rOwn (C : Addr) (sp : Sp) : List V → Hp → VK → Prop := fun xs H Q => ∃ a dx fs, xs = [.ref a] ∧ H a = some (.ins C dx fs) ∧ sp [.ref a] H (fun v H' => (∃ y, v = .str y) ∧ Q v H') E0
theorem call_strO (S : Spm X.K C "__str__" f) (F : FnOk X.prog X.w X.K X.mg X.base CX n f fd ps sp) (hb : Binds X.K fd ps []) (hx : Passes CX X E0) (hr : Room (n + 2) X.A) : CallR X (.type "str") (rOwn C sp) := by
  intro pins s σ H xs us Q I r h
  obtain ⟨a, dx, fs, rfl, ha, h⟩ := h
  obtain ⟨u, rfl, rx⟩ := vals1 r
  cases (show u = Value.ref a from rx)
  obtain ⟨mA, O, _⟩ := ins_get I.hok ha
  obtain ⟨od, J, _⟩ := O.look
  exact PySem.W.kso_call hr.in1.in1.units0 I.kIn J S.at_ S.fn (wpAny_mono (own_call (vs := [V.ref a]) F hb hx hr.in1.in1 rfl I (.cons rfl .nil) h) (fun _ _ z => strBack z) fun _ _ z => z)
theorem call_reprO (S : Spm X.K C "__repr__" f) (F : FnOk X.prog X.w X.K X.mg X.base CX n f fd ps sp) (hb : Binds X.K fd ps []) (hx : Passes CX X E0) (hr : Room (n + 1) X.A) : CallR X (.builtin "repr") (rOwn C sp) := by
  intro pins s σ H xs us Q I r h
  obtain ⟨a, dx, fs, rfl, ha, h⟩ := h
  obtain ⟨u, rfl, rx⟩ := vals1 r
  cases (show u = Value.ref a from rx)
  obtain ⟨mA, O, _⟩ := ins_get I.hok ha
  obtain ⟨od, J, _⟩ := O.look
  obtain ⟨m, hF⟩ := I.fr
  exact PySem.W.repr_K hr.in1.units0 hF I.ok.mod.kin J S.at_ S.fn (wpAny_mono (own_call (vs := [V.ref a]) F hb hx hr.in1 rfl I (.cons rfl .nil) h) (fun _ _ z => strBack z) fun _ _ z => z)
/-- {x} of an own instance -/
def tFmtO (C : Addr) (sp : Sp) (te : TE) : TE := fun σ H Q => te σ H fun x H1 => rOwn C sp [x] H1 Q
theorem pe_fmtO {e : Expr} {te : TE} {pos : Pos} (S : Spm X.K C "__str__" f) (hfm : PySem.W.findIn X.K (.ref C) "__format__" = some (some (.builtin "object.__format__"))) (hm : PySem.W.mroIn X.K C (.type "object") = some true)
    (F : FnOk X.prog X.w X.K X.mg X.base CX n f fd ps sp) (hb : Binds X.K fd ps []) (hx : Passes CX X E0) (hr : Room (n + 2) X.A) (he : PE X e te) : PE X (.FormattedValue e (-1) none pos) (tFmtO C sp te) := by
  refine ⟨fun pins s σ H Q I h => ?_⟩
  refine wpAny_FormattedValue_plain (thn (he.run pins s σ H _ I h) fun v s1 hv => ?_)
  obtain ⟨x, H1, I1, r1, a, dx, fs, ex, ha, q⟩ := hv
  have ex' : x = .ref a := by simpa using ex
  subst ex'
  cases (show v = Value.ref a from r1)
  obtain ⟨mA, O, _⟩ := ins_get I1.hok ha
  obtain ⟨od, J, _⟩ := O.look
  exact PySem.W.kfo_fieldS hr.in1.units0 I1.kIn J hfm hm S.at_ S.fn (wpAny_mono (own_call (vs := [V.ref a]) F hb hx (hr.in1.mono (Nat.le_succ n)) rfl (I1.tok _) (.cons rfl .nil) q) (fun _ _ z => strBack z) fun _ _ z => z)
end
end L3

namespace L3
open PySem PySem.Spec PyProof.Rows L2 Evl
section
open PySem.W PySem.Calls
variable {prog : Program} {w : World} {A : Around} {E : Value → Shared → Prop} {s : Shared} {K : Frag} {x C f : Addr} {ox : Obj} {od : Option Obj} {b tb : Value}
theorem pyRepr_own {Q : Value → Shared → Prop} (hu : A.units < cLine) (X : K.In s.heap) (I : InstAt s.heap x ox C od) (hs : findIn K (.ref C) "__repr__" = some (some (.ref f))) (hf : isFn K (.ref f) = true)
    (h : wpAny (model prog w) A (call (.ref f) [.ref x]) (StrBack Q) E s) : wpAny (model prog w) A (pyReprObj (.ref x)) Q E s := by
  unfold pyReprObj
  refine wpAny_bind (m := cRoomFor _ _) (wpAny_cRoomFor hu ?_)
  refine wpAny_bind (wpAny_bind (I.type.here ((looks_findIn X hs).here ?_)))
  show wpAny _ _ (if (some (Value.ref f)).isNone = true then _ else _) _ _ _
  rw [if_neg (by simp)]
  refine wpAny_bind (m := callSpecialIfBound? (.ref x) (Str.ofString "__repr__") _) (ifBound_K X I hs hf (wpAny_mono h (fun r s' hr => ?_) fun _ _ y => y))
  cases r <;> first | exact hr.elim | skip
  refine wpAny_bind (wpAny_isInstance (typeIs_str _ _ _) isSubtype_str_str ?_)
  first
    | exact wpAny_pure hr
    | (rw [if_pos rfl]; exact wpAny_pure hr)
    | (simp only [if_true]; exact wpAny_pure hr)
/-- a != b by an own __eq__ -/
theorem ne_own {Q : Value → Shared → Prop} (hu : A.in1.units < cLine) (hu0 : A.units < cLine) (X : K.In s.heap) (I : InstAt s.heap x ox C od) (hb : Looks (model prog w) s.heap (typeOf b) tb) (hn : notFirst K C tb = true) (hm : mroIn K C (.type "object") = some true)
    (hne : findIn K (.ref C) "__ne__" = some (some (.builtin "object.__ne__"))) (hs : findIn K (.ref C) "__eq__" = some (some (.ref f))) (hf : isFn K (.ref f) = true)
    (h : wpAny (model prog w) A.in1 (call (.ref f) [.ref x, b]) (fun v s' => ∃ c, v = .bool c ∧ Q (.bool (!c)) s') E s) : wpAny (model prog w) A (richCompare .NotEq (.ref x) b) Q E s := by
  have body : wpAny (model prog w) A.in1 (Builtin.«object.__ne__» ⟨[.ref x, b], []⟩) (fun r s' => ∃ c, r = .done (.ret (.bool (!c))) ∧ Q (.bool (!c)) s') E s := by
    unfold Builtin.«object.__ne__»
    refine wpAny_bind (m := slotArgs "__ne__" 1 _) (wpAny_pure ?_)
    refine wpAny_bind (m := cRoomFor _ _) (wpAny_cRoomFor hu ?_)
    refine wpAny_bind (m := callSpecialIfBound? (.ref x) (Str.ofString "__eq__") [b]) (ifBound_K X I hs hf (wpAny_mono h (fun r s' hr => ?_) fun _ _ y => y))
    obtain ⟨c, rfl, q⟩ := hr
    exact wpAny_bind (wpAny_truthy_bool (wpAny_pure ⟨c, rfl, q⟩))
  have one : wpAny (model prog w) A (tryCompare (.ref x) "__ne__" b) (fun r s' => ∃ v, r = some v ∧ Q v s') E s := by
    unfold tryCompare
    simp only [callSpecialIfBound?, bindSpecialIfBound?]
    have call1 : wpAny (model prog w) A (call (.builtin "object.__ne__") ([.ref x] ++ [b])) (fun v s' => ∃ c, v = .bool (!c) ∧ Q v s') E s := by
      refine wpAny_call (codeAny_call_builtin PySem.F.cmp_object.ne.plain PySem.F.cmpEntry_ne (check_slot (i := "object.__ne__") (owner := "object") (n := "__ne__") PySem.F.cmpKind_ne PySem.F.cmpSplit_ne (I.type.andThen (looks_mroIn X hm)) (PySem.F.cmpArgs_ne _ _) ?_))
      refine wpAny_mono body (fun r s' hr => ?_) fun _ _ y => y
      obtain ⟨c, rfl, q⟩ := hr
      exact ⟨c, rfl, q⟩
    have fin : wpAny (model prog w) A (call (.builtin "object.__ne__") ([.ref x] ++ [b]) >>= fun v => pure (some v)) (fun r s' => ∃ c, r = some (Value.bool (!c)) ∧ Q (.bool (!c)) s') E s := wpAny_bind (wpAny_mono call1 (fun v s' hv => by
      obtain ⟨c, rfl, q⟩ := hv
      exact wpAny_pure ⟨c, rfl, q⟩) fun _ _ y => y)
    have bnd : ∀ self, bindSpecial (.builtin "object.__ne__") self = pure (.builtin "object.__ne__", [self]) := PySem.F.cmp_object.ne.bind
    refine wpAny_bind (wpAny_holding (wpAny_bind (wpAny_bind (wpAny_bind (I.type.here ((looks_findIn X hne).here ?_))))))
    refine wpAny_bind (wpAny_askSetting (wpAny_ite ?_))
    have out : ∀ {r : Option Value} {s' : Shared}, (∃ c, r = some (Value.bool (!c)) ∧ Q (.bool (!c)) s') → wpAny (model prog w) A (match r with
      | some .notImplemented | none => pure none
      | r => pure r) (fun r s' => ∃ v, r = some v ∧ Q v s') E s' := fun {r s'} hr => by
      obtain ⟨c, rfl, q⟩ := hr
      exact wpAny_pure ⟨_, rfl, q⟩
    split
    · rw [bnd]
      refine wpAny_bind (wpAny_pure (wpAny_pure (wpAny_mono fin (fun r s' hr => ?_) fun _ _ y => y)))
      obtain ⟨c, rfl, q⟩ := hr
      exact wpAny_pure ⟨_, rfl, q⟩
    · rw [bnd]
      refine wpAny_tryCatch (wpAny_bind (wpAny_pure (wpAny_pure (wpAny_mono fin (fun r s' hr => ?_) fun _ _ y => y))))
      obtain ⟨c, rfl, q⟩ := hr
      exact wpAny_pure ⟨_, rfl, q⟩
  unfold richCompare
  simp only [oneThing_ref]
  refine wpAny_holding (wpAny_bind (wpAny_cRoomFor hu0 ?_))
  refine wpAny_bind (I.type.here (wpAny_bind (hb.here ?_)))
  split
  · rename_i q
    have e : subIn K tb (.ref C) = some false := by
      rcases Bool.or_eq_true_iff.mp hn with e | e
      · rw [beq_iff_eq.mp e] at q; simp at q
      · exact beq_iff_eq.mp e
    refine wpAny_bind ((looks_subIn X e).here ?_)
    simp only [Bool.false_eq_true, if_false]
    refine wpAny_bind (wpAny_mono one (fun r s' z => ?_) fun _ _ e => e)
    obtain ⟨v, rfl, hq⟩ := z
    exact wpAny_pure hq
  · refine wpAny_bind (wpAny_pure ?_)
    simp only [Bool.false_eq_true, if_false]
    refine wpAny_bind (wpAny_mono one (fun r s' z => ?_) fun _ _ e => e)
    obtain ⟨v, rfl, hq⟩ := z
    exact wpAny_pure hq
end
section
variable {X : Cx} {CX : CXT} {n : Nat} {C f : Addr} {fd : FuncData} {ps : List Str} {sp : Sp}
/-- {x!r} of an own instance -/
theorem pe_fmtRO {e : Expr} {te : TE} {pos : Pos} (S : Spm X.K C "__repr__" f) (F : FnOk X.prog X.w X.K X.mg X.base CX n f fd ps sp) (hb : Binds X.K fd ps []) (hx : Passes CX X E0) (hr : Room n X.A) (hz : ∀ vs H Q E, sp vs H Q E → sp vs H (fun v H' => (∀ z, v = .str z → z.length ≤ sizeLine) ∧ Q v H') E) (he : PE X e te) :
    PE X (.FormattedValue e 114 none pos) (tFmtO C sp te) := by
  refine ⟨fun pins s σ H Q I h => ?_⟩
  refine wpAny_FormattedValue_repr (thn (he.run pins s σ H _ I h) fun v s1 hv => ?_)
  obtain ⟨x, H1, I1, r1, a, dx, fs, ex, ha, q⟩ := hv
  have ex' : x = .ref a := by simpa using ex
  subst ex'
  cases (show v = Value.ref a from r1)
  obtain ⟨mA, O, _⟩ := ins_get I1.hok ha
  obtain ⟨od, J, _⟩ := O.look
  refine pyRepr_own hr.units0 I1.kIn J S.at_ S.fn (wpAny_mono (own_call (vs := [V.ref a]) F hb hx hr rfl I1 (.cons rfl .nil) (hz _ H1 _ _ q)) (fun u s2 z => ?_) fun _ _ z => z)
  obtain ⟨v, H', I', rv, hl, ⟨y, rfl⟩, q⟩ := z
  obtain ⟨t, rfl⟩ := (show ∃ t, u = Value.str y t from rv)
  exact wpAny_formatField_str ⟨.str y, H', I', ⟨t, rfl⟩, q⟩ ⟨.str y, H', I'.tok _, ⟨_, rfl⟩, q⟩ (hl y rfl)
/-- what stands on the other side -/
def Side (K : PySem.W.Frag) (C : Addr) (y : V) (H : Hp) : Prop := ∃ tb, TyX K H y tb ∧ PySem.W.notFirst K C tb = true
def rEqO (K : PySem.W.Frag) (C : Addr) (sp : Sp) : R2 := fun x y H Q => ∃ a dx fs, x = .ref a ∧ H a = some (.ins C dx fs) ∧ Side K C y H ∧ sp [.ref a, y] H (fun v H' => ∃ c, v = .bl c ∧ Q v H') E0
def rNeO (K : PySem.W.Frag) (C : Addr) (sp : Sp) : R2 := fun x y H Q => ∃ a dx fs, x = .ref a ∧ H a = some (.ins C dx fs) ∧ Side K C y H ∧ sp [.ref a, y] H (fun v H' => ∃ c, v = .bl c ∧ Q (.bl (!c)) H') E0
theorem op_eqO (S : Spm X.K C "__eq__" f) (F : FnOk X.prog X.w X.K X.mg X.base CX n f fd ps sp) (hb : Binds X.K fd ps []) (hx : Passes CX X E0) (hr : Room n X.A) : OpR X (compareOp .Eq) (rEqO X.K C sp) := by
  intro pins s σ H x y v u Q I rx ry h
  obtain ⟨a, dx, fs, rfl, ha, ⟨tb, ty, hn⟩, q⟩ := h
  cases (show v = Value.ref a from rx)
  obtain ⟨mA, O, _⟩ := ins_get I.hok ha
  obtain ⟨od, J, _⟩ := O.look
  obtain ⟨m, hF⟩ := I.fr
  obtain ⟨P, kx, hP, _⟩ := kit_of I ry ty
  refine PySem.W.cmp_ofEq (PySem.W.cmp_K (op := .Eq) hr.units0 hF I.ok.mod.kin J (kx.ty _ _ I.kIn hP) hn S.at_ S.fn (wpAny_mono (own_call (vs := [V.ref a, y]) F hb hx hr rfl I (.cons rfl (.cons ry .nil)) q) (fun w s' z => ?_) fun _ _ z => z))
  obtain ⟨v, H', I', rv, c, rfl, q⟩ := z
  cases (show w = Value.bool c from rv)
  exact ⟨.bl c, H', I', rfl, q⟩
theorem op_neO (S : Spm X.K C "__eq__" f) (hne : PySem.W.findIn X.K (.ref C) "__ne__" = some (some (.builtin "object.__ne__"))) (hm : PySem.W.mroIn X.K C (.type "object") = some true) (F : FnOk X.prog X.w X.K X.mg X.base CX n f fd ps sp) (hb : Binds X.K fd ps []) (hx : Passes CX X E0) (hr : Room (n + 1) X.A) :
    OpR X (compareOp .NotEq) (rNeO X.K C sp) := by
  intro pins s σ H x y v u Q I rx ry h
  obtain ⟨a, dx, fs, rfl, ha, ⟨tb, ty, hn⟩, q⟩ := h
  cases (show v = Value.ref a from rx)
  obtain ⟨mA, O, _⟩ := ins_get I.hok ha
  obtain ⟨od, J, _⟩ := O.look
  obtain ⟨P, kx, hP, _⟩ := kit_of I ry ty
  refine PySem.W.cmp_ofNotEq (ne_own hr.in1.units0 hr.units0 I.kIn J (kx.ty _ _ I.kIn hP) hn hm hne S.at_ S.fn (wpAny_mono (own_call (vs := [V.ref a, y]) F hb hx hr.in1 rfl I (.cons rfl (.cons ry .nil)) q) (fun w s' z => ?_) fun _ _ z => z))
  obtain ⟨v, H', I', rv, c, rfl, q⟩ := z
  cases (show w = Value.bool c from rv)
  exact ⟨c, rfl, .bl (!c), H', I', rfl, q⟩
end
end L3

namespace L3
open PySem PySem.SeqAt
open AutoSeq1 (wpAny_loadPart')
open MeetsSeq MeetsSeq2 MeetsSeq3 SeqRoads2
section
variable {prog : Program} {w : World} {A : Around} {R : Result → Shared → Prop}
/-- == of two tuples of one length, item by item: cs tells each answer -/
theorem tuple_eqB (l b : Addr) (items items2 : Array Value) (n n2 : Nat) (dd dd2 : Option Addr) (sl sl2 : Array (Option Value)) (hsz : items.size = items2.size) (cs : Nat → Bool) (J : Shared → Prop)
    (turn : ∀ i (h1 : i < items.size) (h2 : i < items2.size) s, J s → wpAny (model prog w) A.in1 (eqBool items[i] items2[i]) (fun r s' => r = cs i ∧ J s') (fun e s' => R (.error e) s') s)
    (fin : ∀ s, J s → R (.ok (.ret (.bool (decide (∀ i, i < items.size → cs i = true))))) s) {s : Shared} (hl1 : s.heap.get? l = some { cls := .type "tuple", dict := dd, data := .seq items n, slots := sl }) (hb1 : s.heap.get? b = some { cls := .type "tuple", dict := dd2, data := .seq items2 n2, slots := sl2 }) (h : J s) :
    wpAny (model prog w) A.in1 (Builtin.«tuple.__eq__» ⟨[.ref l, .ref b], []⟩) (GQ.FinOf prog w A R) (fun e s' => R (.error e) s') s := by
  have f2 := AutoSeq1.sub_tuple_tuple
  have len : (items.toList.zip items2.toList).length = items.size := by simp [hsz]
  have h0 := h
  obtain ⟨hp, g, d, tk, os⟩ := s
  wp_walk using wpAny_loadPart' hl1, wpAny_loadPart' hb1, wpAny_forIn_list _ (fun rest z s' => z.1 = none ∧ ∃ i, rest = (items.toList.zip items2.toList).drop i ∧ i ≤ items.size ∧ (∀ k, k < i → cs k = true) ∧ J s') _
  case turn =>
    rintro ⟨y, x⟩ rest z s' ⟨hz', i, hz, hi, hk, hJ⟩
    have hlt : i < (items.toList.zip items2.toList).length := by
      rcases Nat.lt_or_ge i (items.toList.zip items2.toList).length with h' | h'
      · exact h'
      · rw [List.drop_of_length_le h'] at hz
        cases hz
    have h1 : i < items.size := len ▸ hlt
    have h2 : i < items2.size := hsz ▸ h1
    rw [List.drop_eq_getElem_cons hlt] at hz
    injection hz with hyx hrest
    have hy : y = items[i] := by
      have q := congrArg Prod.fst hyx
      simpa using q
    have hx : x = items2[i] := by
      have q := congrArg Prod.snd hyx
      simpa using q
    subst hy hx
    refine wpAny_bind (wpAny_mono (turn i h1 h2 s' hJ) (fun r s2 q2 => ?_) fun _ _ x => x)
    obtain ⟨hr, q2⟩ := q2
    subst hr
    cases hc : cs i with
    | true =>
      wp_walk
      refine ⟨rfl, i + 1, hrest, h1, fun k hk2 => ?_, q2⟩
      by_cases e : k = i
      · rw [e, hc]
      · exact hk k (by omega)
    | false =>
      wp_walk
      have e : decide (∀ i, i < items.size → cs i = true) = false := decide_eq_false fun q => by
        have := q i h1
        rw [hc] at this
        cases this
      have q := fin _ q2
      rw [e] at q
      exact q
  case fin =>
    rintro ⟨b1, b2⟩ s' ⟨hb', i, hz, hi, hk, hJ⟩
    simp only at hb'
    subst hb'
    have hge : items.size ≤ i := by
      rcases Nat.lt_or_ge i (items.toList.zip items2.toList).length with h' | h'
      · rw [List.drop_eq_getElem_cons h'] at hz
        cases hz
      · omega
    have e : decide (∀ i, i < items.size → cs i = true) = true := decide_eq_true fun k hk2 => hk k (by omega)
    have q := fin s' hJ
    rw [e] at q
    wp_walk
    simpa [Builtin.Tuple.tupleCompareSizes, hsz] using q
  case h => exact ⟨rfl, 0, rfl, Nat.zero_le _, (fun k hk => absurd hk (Nat.not_lt_zero _)), h0⟩
end
end L3
namespace L3
open PySem PySem.Spec PyProof.Rows L2 Evl
section
variable {X : Cx} {CX : CXT} {n : Nat} {C f : Addr} {fd : FuncData} {ps : List Str}
/-- what an own == promises of two instances: R tells the answer -/
def spEqR (R : Addr → Addr → Bool → Hp → Prop) : Sp := fun vs H Q _ => ∃ a b c, vs = [.ref a, .ref b] ∧ R a b c H ∧ ∀ H', Ex H H' → Q (.bl c) H'
/-- two tuples of instances of C, item by item -/
def rEqTO (K : PySem.W.Frag) (C : Addr) (R : Addr → Addr → Bool → Hp → Prop) : R2 := fun x y H Q => ∃ (a b : Addr) (xs ys : List Addr) (cs : Nat → Bool), x = .ref a ∧ y = .ref b ∧ SqT K H a (xs.map V.ref) ∧ SqT K H b (ys.map V.ref) ∧ xs.length = ys.length ∧
  (∀ (i : Nat) p q, xs[i]? = some p → ys[i]? = some q → (∃ dx fs, H p = some (.ins C dx fs)) ∧ (∃ dy gs, H q = some (.ins C dy gs)) ∧ (∀ H', Ex H H' → R p q (cs i) H') ∧ (p = q → cs i = true)) ∧
  ∀ H', Ex H H' → Q (.bl (decide (∀ i, i < xs.length → cs i = true))) H'
theorem op_eqTO {R : Addr → Addr → Bool → Hp → Prop} (S : Spm X.K C "__eq__" f) (F : FnOk X.prog X.w X.K X.mg X.base CX n f fd ps (spEqR R)) (hb : Binds X.K fd ps []) (hx : Passes CX X E0) (hr : Room (n + 1) X.A) : OpR X (compareOp .Eq) (rEqTO X.K C R) := by
  intro pins s σ H x y v u Q I rx ry h
  obtain ⟨a, b, xs, ys, cs, rfl, rfl, hxs, hys, hl, hit, k⟩ := h
  cases (show v = Value.ref a from rx)
  cases (show u = Value.ref b from ry)
  obtain ⟨its, r1, e1, z1⟩ := I.tuple hxs
  obtain ⟨its2, r2, e2, z2⟩ := I.tuple hys
  have l1 : its.length = xs.length := by rw [← r1.length, List.length_map]
  have l2 : its2.length = ys.length := by rw [← r2.length, List.length_map]
  have hsz : its.toArray.size = its2.toArray.size := by rw [List.size_toArray, List.size_toArray, l1, l2, hl]
  have t1 : s.heap.IsTuple a its.toArray := e1
  have t2 : s.heap.IsTuple b its2.toArray := e2
  obtain ⟨⟨cls, dd, data, sl⟩, ho, hc, n1, hd⟩ := id t1
  obtain ⟨⟨cls2, dd2, data2, sl2⟩, ho2, hc2, n2, hd2⟩ := id t2
  simp only at hc hd hc2 hd2
  subst hc hd hc2 hd2
  refine PySem.W.cmp_ofEq (wpAny_richCompare_same_room (op := .Eq) ⟨_, ho, rfl⟩ ⟨_, ho2, rfl⟩ PySem.F.slot_tuple_eq (GQ.call_here PySem.F.slot_tuple_eq ⟨_, ho, rfl⟩ PySem.F.entry_tuple_eq (PySem.F.args_tuple_eq_2 _ _) ?_) hr.units0)
  refine tuple_eqB (R := wants (fun v s' => v ≠ .notImplemented ∧ EP X pins σ Q v s') X.xe) a b its.toArray its2.toArray n1 n2 dd dd2 sl sl2 hsz cs (fun s' => ∃ H', Inv X pins σ H' s' ∧ Ex H H') (fun i h1 h2 s' hJ => ?_) (fun s' hJ => ?_) ho ho2 ⟨H, I, Ex.refl H⟩
  · obtain ⟨H1, I1, ex⟩ := hJ
    have h1' : i < its.length := by simpa using h1
    have h2' : i < its2.length := by simpa using h2
    have g1 : xs[i]? = some xs[i] := by simp [show i < xs.length by omega]
    have g2 : ys[i]? = some ys[i] := by simp [show i < ys.length by omega]
    obtain ⟨⟨dx, fs, hp⟩, ⟨dy, gs, hq⟩, hR, hs⟩ := hit i _ _ g1 g2
    generalize xs[i] = p at g1 hp hR hs
    generalize ys[i] = q at g2 hq hR hs
    obtain ⟨u1, hu1, rv1⟩ := r1.get (i := i) (x := V.ref p) (by rw [List.getElem?_map, g1] <;> rfl)
    obtain ⟨u2, hu2, rv2⟩ := r2.get (i := i) (x := V.ref q) (by rw [List.getElem?_map, g2] <;> rfl)
    have c1 : its.toArray[i] = Value.ref p := by
      have z : its[i]? = some its.toArray[i] := by
        rw [List.getElem?_eq_getElem h1'] <;> simp
      rw [z] at hu1
      rw [Option.some.inj hu1]
      exact rv1
    have c2 : its2.toArray[i] = Value.ref q := by
      have z : its2[i]? = some its2.toArray[i] := by
        rw [List.getElem?_eq_getElem h2'] <;> simp
      rw [z] at hu2
      rw [Option.some.inj hu2]
      exact rv2
    rw [c1, c2]
    by_cases hpq : p = q
    · rw [hs hpq, hpq]
      unfold eqBool
      refine wpAny_holding ?_
      rw [if_pos (by simp)]
      refine wpAny_bind (wpAny_rule (wpAny_pure ?_))
      exact ⟨rfl, H1, I1, ex⟩
    · refine GQ.eqBool_refG hpq ?_
      obtain ⟨mA, J, _⟩ := ins_get I1.hok (ex _ _ hp)
      obtain ⟨mB, J2, _⟩ := ins_get I1.hok (ex _ _ hq)
      obtain ⟨od, J, _⟩ := J.look
      obtain ⟨od2, J2, _⟩ := J2.look
      obtain ⟨m, hF⟩ := I1.fr
      refine PySem.W.cmp_K (op := .Eq) (tb := .ref C) hr.in1.units0 hF I1.ok.mod.kin J J2.type (by simp [PySem.W.notFirst]) S.at_ S.fn (wpAny_mono (own_call (sp := spEqR R) (vs := [V.ref p, V.ref q]) (Q := fun v H' => v = .bl (cs i) ∧ Ex H1 H') F hb hx hr.in1 rfl I1 (.cons rfl (.cons rfl .nil)) ⟨p, q, cs i, rfl, hR _ ex, fun H' e => ⟨rfl, e⟩⟩) (fun w s2 z => ?_) fun _ _ z => z)
      obtain ⟨v, H2, I2, rv, rfl, e2⟩ := z
      cases (show w = Value.bool (cs i) from rv)
      exact ⟨cs i, rfl, rfl, H2, I2, ex.trans e2⟩
  · obtain ⟨H1, I1, ex⟩ := hJ
    have es : its.toArray.size = xs.length := by rw [List.size_toArray, l1]
    rw [es]
    exact ⟨(fun x => nomatch x), .bl (decide (∀ i, i < xs.length → cs i = true)), H1, I1, rfl, k H1 ex⟩
end
end L3

namespace L3
open PySem PySem.Spec PyProof.Rows L2 Evl LamX
/-! ### a lambda that is handed on -/
/-- f, made at (stk, s, H), can be called from then on, whatever stands above -/
def CanCall (P : Program) (w : World) (K : PySem.W.Frag) (mg : Str → Option Value) (base : Heap) (j : Nat) (stk : List Env) (s : Shared) (H : Hp) (f c' : Addr) (q : Str) (tl : XK → Hp → VK → Prop) : Prop :=
  ∀ (A : Around) (outer : List Env) (s1 : Shared) (HZ : Hp) (Q : VK) (E : XK), Room (j + 1) A → Env0 P w K mg base A outer s1 HZ → Un (frs stk) [] H HZ s.heap s1.heap → HZ c' = some (CodeO c' q) → tl E HZ Q →
    PySem.W.FnAt f s1.heap ∧ codeAny (model P w) A (.call (.ref f) ⟨[], []⟩) (CR (L2.CX P w) outer P w HZ s1 Q E) s1
section
variable {X : Cx} {pins : List (Addr × Obj)} {σ : L2.St} {H : Hp} {s : Shared} {j : Nat} {f c' : Addr} {q : Str} {tl : XK → Hp → VK → Prop}
theorem can_go (C : CanCall X.prog X.w X.K X.mg X.base j X.outer X.s_0 X.H_0 f c' q tl) (I : Inv X pins σ H s) (hex : X.ex = []) : CanCall X.prog X.w X.K X.mg X.base j X.stack s H f c' q tl := fun A outer s1 HZ Q E hr e0 un hc ht => by
  have J := I.call (h' := s1.heap) (g' := s1.gens) (d' := s1.drawn) (t' := s1.toks) (ch := []) un e0.hok e0.bare (fun b z => absurd z (by simp))
  have b := J.base
  rw [hex] at b
  exact C A outer s1 HZ Q E hr e0 b hc ht
theorem can_lam {scope : Scope} {params : Arguments} {body : Expr} {pm ctv : Value} {t : XK → TE} (I : Inv X pins σ H s) (L : LamS X.env.scope scope)
    (hf : s.heap.get? f = some (PySem.W.kla_obj "<lambda>" (X.env.qual ++ "<lambda>") params body scope (cloFrom X.env.cells scope.names []) pm c' ctv)) (hfn : H f = none) (hfr : f ∉ frs X.stack)
    (hbind : bindArgs (PySem.W.kla_fn "<lambda>" (X.env.qual ++ "<lambda>") params body scope (cloFrom X.env.cells scope.names []) pm (.ref c') ctv) ⟨[], []⟩ = pure [])
    (hbody : ∀ (A : Around) (outer : List Env) (s : Shared) (H : Hp) (E : XK), Room j (A.deeper (lamEnv X scope s.heap.objs.size f c')) → PE (lamCx X A outer s H E scope f c') body (t E)) :
    CanCall X.prog X.w X.K X.mg X.base j X.stack s H f c' (X.env.qual ++ "<lambda>") (fun E HZ Q => t E σ HZ Q) := fun A outer s1 HZ Q E hr e0 un hc ht => by
  have of1 : s1.heap.get? f = some (PySem.W.kla_obj "<lambda>" (X.env.qual ++ "<lambda>") params body scope (cloFrom X.env.cells scope.names []) pm c' ctv) := un.keep f _ hf hfn hfr (fun z => nomatch (show f ∈ ([] : List Addr) from z))
  obtain ⟨⟨oc, vs, tk, hoc, hdc, hvc⟩, _, _⟩ := e0.hok c' _ hc
  refine ⟨⟨_, _, _, _, of1⟩, ?_⟩
  refine PySem.W.kla_callFunE hr.depth of1 rfl L.co L.gen rfl ⟨c', oc, vs, tk, rfl, hoc, hdc, hvc⟩ ?_
  rw [hbind]
  have nl : s1.heap.NoLimit := e0.mod.nolimit.keeps fun b o e => (e0.bs b o e).1
  refine wpAny_pure (wpAny_newFunctionEnv (fun y hy => (L.own y hy).2) (fun y hy => absurd hy (by simp)) (fun h₁ hns hsb => ⟨nl.fresh _ hsb, ?_⟩) L.kind)
  show codeAny _ _ (.expr body (lamEnv X scope s1.heap.objs.size f c')) _ _
  have kp : ∀ b o, s1.heap.get? b = some o → h₁.get? b = some o := fun b o e => hsb.extBut b o (Nat.ne_of_lt (Heap.lt_size e)) (Heap.get?_push_of_some _ e)
  have J : Inv (lamCx X A outer s1 HZ E scope f c') [] σ HZ { s1 with heap := h₁, toks := s1.toks + ([] : List (Str × Value)).length } := lam_start2 I L e0 hr.hd un hns kp
  refine PySem.W.kla_codeExpr (wpAny_mono ((hbody _ _ s1 HZ E (hr.deeper _)).run [] _ _ HZ Q J ht) (fun v s' hq => ?_) fun e s' hq => hq)
  obtain ⟨w', H', J', rv, q⟩ := hq
  exact ⟨w', H', J'.os, J'.bare, J'.base, J'.hok, rv, q⟩
end
/-- what a def promises that gets such a lambda first -/
structure FnC (P : Program) (w : World) (K : PySem.W.Frag) (mg : Str → Option Value) (base : Heap) (j k : Nat) (f : Addr) (fd : FuncData) (ps : List Str) (sp : Addr → Addr → Str → (XK → Hp → VK → Prop) → Sp) : Prop where
  len : ∀ l c' q tl vs H Q E, sp l c' q tl vs H Q E → vs.length = ps.length
  run : ∀ (A : Around) (outer : List Env) (s : Shared) (H : Hp) (args : Args) (us : List Value) (vs : List V) (Q : VK) (E : XK) (l c' : Addr) (q : Str) (tl : XK → Hp → VK → Prop), Room k A → Env0 P w K mg base A outer s H → CanCall P w K mg base j outer s H l c' q tl → BindsTo s fd args (ps.zip us) → Vals vs us → sp l c' q tl vs H Q E →
    codeAny (model P w) A (.call (.ref f) args) (CR CX0 outer P w H s Q E) s
section
variable {P : Program} {w : World} {K : PySem.W.Frag} {mg : Str → Option Value} {base : Heap} {x qual : Str} {st : Stmt} {f : Addr} {fd : FuncData} {N ps : List Str} {j k : Nat} {sp : Addr → Addr → Str → (XK → Hp → VK → Prop) → Sp}
theorem fnC_of (F : Fun K x qual st f fd) (S : FnScope N ps (defScope st)) (len : ∀ l c' q tl vs H Q E, sp l c' q tl vs H Q E → vs.length = ps.length)
    (body : ∀ (cdv : Value) (A : Around) (outer : List Env) (s : Shared) (H : Hp) (vs : List V) (Q : VK) (E : XK) (l c' : Addr) (q : Str) (tl : XK → Hp → VK → Prop), Room k (A.deeper (envOfC qual (defScope st) s.heap.objs.size f cdv)) → CanCall P w K mg base j outer s H l c' q tl → sp l c' q tl vs H Q E →
      ∃ t, PSs (cxOf CX0 P w K mg base N qual (defScope st) f cdv A outer s H E).nox (defBody st) t ∧ t { nx := fun _ H' => Q .non H', rt := Q } (start N vs) H) : FnC P w K mg base j (k + 1) f fd ps sp := by
  obtain ⟨oc, od, kV, doc, pm, an, cd, ct, osl, rfl, lk, hcd⟩ := F.ex
  refine ⟨len, fun A outer s H args us vs Q E l c' q tl hr e0 C hb r hsp => ?_⟩
  have hl := len _ _ _ _ vs H Q E hsp
  have KX : K.In s.heap := e0.mod.kin.keeps fun b o e => (e0.bs b o e).1
  have lim : s.heap.NoLimit := e0.mod.nolimit.keeps fun b o e => (e0.bs b o e).1
  have kinds : ∀ y ∈ ps.zip us, (defScope st).names.lookup y.1 = some .local ∨ ((defScope st).names.lookup y.1 = some .cell ∧ ((cellsFrom (s.heap.objs.size + 1) (defScope st).names []).lookup y.1).isSome = true) := fun ⟨n, v⟩ hy =>
    (S.par n (List.of_mem_zip hy).1).elim Or.inl fun q => Or.inr ⟨q, PySem.W.cellsFrom_some _ _ _ (.inl q)⟩
  refine codeAny_call_function hr.depth (KX _ _ lk) rfl S.co S.gen rfl (PySem.W.codeRec_of KX hcd) (hb _ _ _ _ ?_)
  refine wpAny_newFunctionEnv_cells S.kind kinds fun env he s1 x => ?_
  subst he
  refine ⟨lim.keeps x.toInCall.keep, codeAny_func ?_⟩
  obtain ⟨t, ht, hq⟩ := body cd A outer s H vs Q E l c' q tl (hr.deeper _) C hsp
  have I : Inv (cxOf CX0 P w K mg base N qual (defScope st) f cd A outer s H E) [] (start N vs) H s1 := inv_start S hr.hd e0 hl r x
  refine wpAny_mono (ht.nox.run [] s1 (start N vs) H _ I hq) (fun fl s' hs => ?_) fun e s' hs => hs
  cases fl with
  | next =>
    obtain ⟨σ', H', J, q⟩ := hs
    exact ⟨V.non, H', J.os, J.bare, J.base, J.hok, rfl, q⟩
  | ret u =>
    obtain ⟨v, σ', H', J, rv, q⟩ := hs
    exact ⟨v, H', J.os, J.bare, J.base, J.hok, rv, q⟩
  | brk =>
    obtain ⟨σ', H', J, q⟩ := hs
    exact q.elim
  | cont =>
    obtain ⟨σ', H', J, q⟩ := hs
    exact q.elim
end
section
variable {X : Cx} {x : Str} {j k : Nat} {g : Addr} {fd : FuncData} {ps : List Str} {sp : Addr → Addr → Str → (XK → Hp → VK → Prop) → Sp} {l c' : Addr} {q : Str} {tl : XK → Hp → VK → Prop} {e : Expr} {es : List Expr} {t : TA} {p pos : Pos}
/-- g(l, ..), by a def that got l itself -/
theorem pe_callC (F : FnC X.prog X.w X.K X.mg X.base j k g fd ps sp) (C : CanCall X.prog X.w X.K X.mg X.base j X.outer X.s_0 X.H_0 l c' q tl) (hex : X.ex = []) (hr : Room k X.A) (hg : Gl X x) (hm : X.mg x = some (.ref g))
    (hk : PySem.W.keepIn X.K (.ref g) = true) (hb : Binds X.K fd ps []) (ha : PA X (e :: es) t) (hdb : (x == ("__debug__" : Str)) = false := by decide)
    (he : starEach (e :: es) X.env = (false, eval e X.env) :: starEach es X.env := by rfl) (hpl : (backTo pos (starEach es X.env)).any (·.1) = false := by rfl) :
    PE X (.Call (.Name x p) (e :: es) [] pos) (tCall (sp l c' q tl) [] E0 t) := by
  refine ⟨fun pins s σ H Q I h => ?_⟩
  refine wpAny_Call_Name_kw (ld_glob I hg hm ?_ hdb)
  refine PySem.W.callWith_K (h₀ := X.base) I.ok.mod.kin hk (thn (ha.run pos pins s σ H _ I h) fun us s1 ⟨vs, H1, I1, r, q1⟩ => ⟨I1.kIn, ?_⟩) he hpl
  have q' : sp l c' q tl vs H1 Q E0 := by
    have z : sp l c' q tl (vs ++ []) H1 Q E0 := q1
    rw [List.append_nil] at z
    exact z
  have hl : us.length = ps.length := by
    rw [← r.length]
    exact F.len _ _ _ _ _ _ _ _ q'
  have hb' := hb s1 us I1.kIn (by rw [List.append_nil]; exact hl)
  rw [List.append_nil] at hb'
  refine wpAny_call (codeAny_mono (F.run X.A X.stack s1 H1 ⟨us, []⟩ us vs Q E0 l c' q tl hr I1.env0 (can_go C I1 hex) hb' r q') fun r s' hq => ?_)
  cases r with
  | error e => exact hq.elim
  | ok fl =>
    cases fl with
    | ret u => exact I1.after hq
    | next => exact hq.elim
    | brk => exact hq.elim
    | cont => exact hq.elim
end
/-- l(), by a def that got l -/
theorem pe_do {X : Cx} {i j : Nat} {a q : Str} {l c' : Addr} {tl : XK → Hp → VK → Prop} {E : L2.St → XK} {p1 p2 : Pos} (C : CanCall X.prog X.w X.K X.mg X.base j X.outer X.s_0 X.H_0 l c' q tl) (hex : X.ex = []) (hr : Room (j + 1) X.A) (hx : ∀ σ, PassesAt (L2.CX X.prog X.w) X σ (E σ))
    (hN : X.N[i]? = some a) (hv : Vis X.env.scope a) (hd : (a == ("__debug__" : Str)) = false := by decide) (hcd : (a == ("__classdict__" : Str)) = false := by decide) :
    PE X (.Call (.Name a p1) [] [] p2) (fun σ H Q => σ[i]? = some (some (.ref l)) ∧ H c' = some (CodeO c' q) ∧ tl (E σ) H Q) := by
  refine ⟨fun pins s σ H Q I h => ?_⟩
  obtain ⟨hs, hc, ht⟩ := h
  refine wpAny_Call_Name_kw (thn ((pe_var (pos := p1) (i := i) hN hv hd hcd).run pins s σ H (fun v H1 => v = .ref l ∧ H1 = H) I ⟨.ref l, hs, rfl, rfl⟩) fun u s1 ⟨v, H1, I1, r1, q1⟩ => ?_)
  obtain ⟨ev, eH⟩ := q1
  subst ev
  rw [eH] at I1
  obtain rfl : u = Value.ref l := r1
  have C1 := can_go C I1 hex
  obtain ⟨fa, rc⟩ := C1 X.A X.stack s1 H Q (E σ) hr I1.env0 Un.refl hc ht
  refine PySem.W.callWith_F0 fa ?_
  refine wpAny_call (codeAny_mono rc fun r s' hq => ?_)
  cases r with
  | error e => exact hx σ pins H s1 e s' I1 hq
  | ok fl =>
    cases fl with
    | ret u => exact I1.after hq
    | next => exact False.elim hq
    | brk => exact False.elim hq
    | cont => exact False.elim hq
/-- g(lambda: body, ..) -/
def tLamC (T : List (Addr × Str)) (q : Str) (sp : Addr → Addr → Str → (XK → Hp → VK → Prop) → Sp) (t : XK → TE) (ta : TA) : TE := fun σ H Q => Tabs T H ∧ ∀ f c' H1, ExtN H H1 → Tabs T H1 → H1 c' = some (CodeO c' q) →
  ta σ H1 fun vs H2 => sp f c' q (fun E H' Q' => t E σ H' Q') (.ref f :: vs) H2 Q E0
theorem pe_lamC {X : Cx} {T : List (Addr × Str)} {x : Str} {j k : Nat} {g c P : Addr} {fd : FuncData} {ps : List Str} {sp : Addr → Addr → Str → (XK → Hp → VK → Prop) → Sp} {params : Arguments} {body : Expr} {scope : Scope} {t : XK → TE} {es : List Expr} {ta : TA} {p lpos pos : Pos}
    (F : FnC X.prog X.w X.K X.mg X.base j k g fd ps sp) (hr : Room k X.A) (hg : Gl X x) (hm : X.mg x = some (.ref g)) (hk : PySem.W.keepIn X.K (.ref g) = true) (hb : Binds X.K fd ps [])
    (st : X.stack = X.env :: X.outer) (fr : X.env.frame = some X.env.locals) (TB : TabB X.base X.mg c P) (hcode : X.env.code = .ref c) (hmT : (P, X.env.qual ++ "<lambda>") ∈ T) (hu : ∀ p ∈ T, p.1 = P → p.2 = X.env.qual ++ "<lambda>") (L : LamS X.env.scope scope) (hdef : defaultsOf params X.env = ([], []))
    (hbind : ∀ (q : Str) (cl : List (Str × Addr)) (pm cv ctv : Value), bindArgs (PySem.W.kla_fn "<lambda>" q params body scope cl pm cv ctv) ⟨[], []⟩ = pure [])
    (hbody : ∀ (A : Around) (outer : List Env) (s : Shared) (H : Hp) (E : XK) (f c' : Addr), Room j (A.deeper (lamEnv X scope s.heap.objs.size f c')) → PE (lamCx X A outer s H E scope f c') body (t E)) (ha : PA X es ta)
    (hdb : (x == ("__debug__" : Str)) = false := by decide) (he : starEach (.Lambda params body scope lpos :: es) X.env = (false, eval (.Lambda params body scope lpos) X.env) :: starEach es X.env := by rfl) (hpl : (backTo pos (starEach es X.env)).any (·.1) = false := by rfl) :
    PE X (.Call (.Name x p) (.Lambda params body scope lpos :: es) [] pos) (tLamC T (X.env.qual ++ "<lambda>") sp t ta) := by
  refine ⟨fun pins s σ H Q I h => ?_⟩
  obtain ⟨hT, h⟩ := h
  refine wpAny_Call_Name_kw (ld_glob I hg hm ?_ hdb)
  refine PySem.W.callWith_K (h₀ := X.base) I.ok.mod.kin hk ?_ he hpl
  rw [he]
  show wpAny _ _ (spliced ((false, eval (.Lambda params body scope lpos) X.env) :: backTo pos (starEach es X.env))) _ _ s
  refine Calls.spliced_cons (lam_make2 I TB hcode hmT hu hT hdef (L.has I.ok) fun f c' pm' ctv H1 s' I1 eN T1 hf hfn hfr hco => ?_)
  have nl : f ≠ X.env.locals := fun z => hfr (by rw [st]; exact List.mem_filterMap.mpr ⟨X.env, List.mem_cons_self, by rw [fr, z]⟩)
  have nf : f ∉ X.fs := fun hm => by
    obtain ⟨e, he, q⟩ := List.mem_filterMap.mp hm
    exact hfr (by rw [st]; exact List.mem_filterMap.mpr ⟨e, List.mem_cons_of_mem _ he, q⟩)
  obtain ⟨ob, hob⟩ : ∃ ob, ob = PySem.W.kla_obj "<lambda>" (X.env.qual ++ "<lambda>") params body scope (cloFrom X.env.cells scope.names []) pm' c' ctv := ⟨_, rfl⟩
  have I2 : Inv X ((f, ob) :: pins) σ H1 s' := I1.pins_of fun p hp => by
    rcases List.mem_cons.mp hp with rfl | hp
    · exact ⟨by rw [hob]; exact hf, hfn, nl, nf, fun v z => by rw [hob] at z; cases z⟩
    · exact I1.pin p (List.mem_append_right _ hp)
  refine thn (ha.run pos ((f, ob) :: pins) s' σ H1 _ I2 (h f c' H1 eN T1 hco)) fun us s2 ⟨vs, H2, I3, r, q1⟩ => ⟨I3.kIn, ?_⟩
  obtain ⟨p1, p2, p3, p4, p5⟩ := I3.pin (f, ob) (List.mem_append_right _ List.mem_cons_self)
  have hf2 : s2.heap.get? f = some (PySem.W.kla_obj "<lambda>" (X.env.qual ++ "<lambda>") params body scope (cloFrom X.env.cells scope.names []) pm' c' ctv) := by
    rw [← hob]
    exact p1
  have C : CanCall X.prog X.w X.K X.mg X.base j X.stack s2 H2 f c' (X.env.qual ++ "<lambda>") (fun E HZ Q => t E σ HZ Q) := can_lam I3 L hf2 p2 hfr (hbind _ _ _ _ _) fun A outer s H E hr2 => hbody A outer s H E f c' hr2
  have hl : (Value.ref f :: us).length = ps.length := by
    have z := F.len _ _ _ _ _ _ _ _ q1
    rw [← z]
    show us.length + 1 = vs.length + 1
    rw [← r.length]
  have hb' := hb s2 (.ref f :: us) I3.kIn (by rw [List.append_nil]; exact hl)
  rw [List.append_nil] at hb'
  have I4 : Inv X pins σ H2 s2 := I3.pins_of fun p hp => I3.pin p (List.mem_append_right _ (List.mem_cons_of_mem _ hp))
  refine wpAny_call (codeAny_mono (F.run X.A X.stack s2 H2 ⟨.ref f :: us, []⟩ (.ref f :: us) (.ref f :: vs) Q E0 f c' _ _ hr I4.env0 C hb' (.cons rfl r) q1) fun r s3 hq => ?_)
  cases r with
  | error e => exact hq.elim
  | ok fl =>
    cases fl with
    | ret u => exact I4.after hq
    | next => exact hq.elim
    | brk => exact hq.elim
    | cont => exact hq.elim
end L3

namespace L3
open PySem PySem.Spec PyProof.Rows L2 Evl ClX
/-! ### classes of the program -/
/-- what isinstance and the fields ask of an own class -/
structure Kls (K : PySem.W.Frag) (C : Addr) : Prop where
  cl : Cls K C
  ha : PySem.W.findIn K (.ref C) "__class__" = some (some (.builtin "object.__class__"))
  hn : PySem.W.specialIn K (.builtin "object.__class__") "__get__" = some (some (.builtin "getset_descriptor.__get__"))
  ht : PySem.W.takesIn K (.builtin "object.__class__") = some true
  hm : PySem.W.mroIn K C (.type "object") = some true
theorem Kls.ty {K : PySem.W.Frag} {H : Hp} {a C dx : Addr} {fs : List (Str × V)} (k : Kls K C) (h : H a = some (.ins C dx fs)) : TyX K H (.ref a) (.ref C) := .base (.ins h k.cl k.ha k.hn k.ht k.hm)
section
variable {K : PySem.W.Frag} {σ : L2.St} {H : Hp} {ta te : TE} {x v : V} {f : Str} {a C dx : Addr} {fs : List (Str × V)}
theorem ev_fld (h : Ev ta σ H (.ref a)) (hi : H a = some (.ins C dx fs)) (cl : Cls K C) (no : NoAttr K C f) (l : fs.lookup f = some v) : Ev (tFld K ta f) σ H v := fun H1 e Q q =>
  h H1 e _ fun H2 e2 => ⟨a, C, dx, fs, v, rfl, (e.trans e2) _ _ hi, cl, no, l, q H2 e2⟩
theorem ev_cval {mc u : Value} (h : Ev ta σ H (.ref C)) (r : CRead K C mc) (k : CVal K C mc f v u) : Ev (tCVal K ta f) σ H v := fun H1 e Q q => h H1 e _ fun H2 e2 => ⟨C, mc, v, u, rfl, r, k, q H2 e2⟩
/-- isinstance(x, C), C an own class -/
theorem ev_isC {t : Value} {b : Bool} (ha : Ev ta σ H x) (ht : ∀ H1, Ex H H1 → TyX K H1 x t) (hk : PySem.W.kitOne K t (.ref C) = some b) : Ev (tCB (rIsi K) (tCons ta (tCons (tC (.ref C)) tNil))) σ H (.bl b) :=
  ev_cb (ea_cons ha (ea_cons ev_c ea_nil)) fun H1 e Q q => ⟨x, .ref C, t, _, b, rfl, .own C, ht _ e, hk, q H1 (Ex.refl H1)⟩
/-- a text of parts: the next one -/
theorem js_cons {ts : List TE} {acc y : Str} {Q : Str → Hp → Prop} (h : Ev te σ H (.str y)) (hl : (acc ++ y).length ≤ 100000) (k : ∀ H1, Ex H H1 → tJs ts (acc ++ y) σ H1 Q) : tJs (te :: ts) acc σ H Q := h H (Ex.refl H) _ fun H1 e => ⟨y, rfl, sz_of hl, k H1 e⟩
theorem ev_fmtS {y : Str} (h : Ev te σ H (.str y)) (hl : y.length ≤ 100000) : Ev (tFmt te) σ H (.str y) := fun H1 e Q q => h H1 e _ fun H2 e2 => Or.inl ⟨y, rfl, sz_of hl, q H2 e2⟩
theorem ev_fmtI {i : Int} (h : Ev te σ H (.int i)) (hl : i.natAbs.log2 < 1920) : Ev (tFmt te) σ H (.str (toString i)) := fun H1 e Q q => h H1 e _ fun H2 e2 => Or.inr ⟨i, rfl, hl, q H2 e2⟩
theorem ev_fmtRS {y : Str} (h : Ev te σ H (.str y)) (hl : (reprText y).length ≤ 100000) : Ev (tFmtR te) σ H (.str (reprText y)) := fun H1 e Q q => h H1 e _ fun H2 e2 => Or.inl ⟨y, rfl, sz_of hl, q H2 e2⟩
end
theorem putF_len (f : Str) (v : V) : ∀ fs : List (Str × V), (putF f v fs).length ≤ fs.length + 1
  | [] => Nat.le_refl _
  | (g, x) :: r => by
    unfold putF
    split
    · exact Nat.le_succ _
    · rw [List.length_cons, List.length_cons]
      exact Nat.succ_le_succ (putF_len f v r)
theorem sl_app (a b : Str) : (a ++ b).length = a.length + b.length := strLen_append a b
theorem sl_int {i : Int} (h : i.natAbs < 10 ^ 50) : (Str.ofString (toString i)).length ≤ 60 := by
  have z := int_text_length_le10 (a := i) (k := 50) (by decide) h
  rw [PySem.ofString_length]
  omega
end L3
namespace L3
open PySem PySem.Spec PyProof.Rows L2 Evl ClX
/-! ### not in: any data, in a tuple of texts -/
def rNiD (K : PySem.W.Frag) : R2 := fun x y H Q => ∃ (d : PyData) (t : Addr) (ss : List Str), y = .ref t ∧ Dp K H x d ∧ SeqAt.shaped d = true ∧ SqT K H t (ss.map V.str) ∧ (∀ s ∈ ss, (PyData.str s).canLay0 = true) ∧ Q (.bl (!(ss.any fun s => PyData.eqv (.str s) d))) H
def eqT (d : PyData) : Value → Bool
  | .str s _ => PyData.eqv (.str s) d
  | _ => false
theorem any_eqT {d : PyData} : ∀ {ss : List Str} {its : List Value}, Vals (ss.map V.str) its → its.any (eqT d) = ss.any fun s => PyData.eqv (.str s) d
  | [], its, r => by
    cases r
    rfl
  | s :: ss, its, r => by
    cases r with
    | cons r1 r2 =>
      obtain ⟨t, rfl⟩ := (show ∃ t, _ = Value.str s t from r1)
      rw [List.any_cons, List.any_cons, any_eqT r2] <;> rfl
theorem mem_strs : ∀ {ss : List Str} {its : List Value}, Vals (ss.map V.str) its → ∀ w ∈ its, ∃ s t, s ∈ ss ∧ w = .str s t
  | [], its, r, w, hw => by
    cases r
    cases hw
  | s :: ss, its, r, w, hw => by
    cases r with
    | cons r1 r2 =>
      obtain ⟨t, rfl⟩ := (show ∃ t, _ = Value.str s t from r1)
      rcases List.mem_cons.mp hw with rfl | hw
      · exact ⟨s, t, List.mem_cons_self, rfl⟩
      · obtain ⟨s', t', h1, h2⟩ := mem_strs r2 w hw
        exact ⟨s', t', List.mem_cons_of_mem _ h1, h2⟩
theorem op_notInD {X : Cx} (hu : X.A.units + 64 < cLine) : OpR X (compareOp .NotIn) (rNiD X.K) := by
  intro pins s σ H x y v u Q I rx ry h
  obtain ⟨d, t, ss, rfl, hd, sd, hq, hc, q⟩ := h
  cases (show u = Value.ref t from ry)
  obtain ⟨as, r1⟩ := Dp.reads I d x v hd rx
  obtain ⟨its, r, pl, hz⟩ := I.tuple hq
  refine SeqAt.notIn_tupleAt (eqT d) pl (fun w hw => ?_) ⟨.bl _, H, I, rfl, ?_⟩
  · obtain ⟨z, tk, hz2, rfl⟩ := mem_strs r w (by simpa using hw)
    have hu1 : X.A.in1.units + min (PyData.str z).depth d.depth < cLine := by
      show X.A.units + 1 + min 0 d.depth < cLine
      omega
    exact SeqAt.eqAt_reads (.str z) d _ _ _ _ _ _ (Reads.str z tk) r1 (hc z hz2) (SeqAt.canLay_of_shaped sd) hu1
  · rw [show its.toArray.any (eqT d) = its.any (eqT d) by simp, any_eqT r]
    exact q
/-! ### a value of the library == an own instance: the instance is asked -/
section
open PySem.W PySem.Calls PySem.SeqAt
variable {prog : Program} {w : World} {A : Around} {E : Value → Shared → Prop} {s : Shared} {K : Frag} {x C f dx : Addr} {ox : Obj} {od : Option Obj} {a : Value}
theorem eqR_own {Q : Value → Shared → Prop} {T ida : String} (hu : A.units < cLine) (X : K.In s.heap) (ha : s.TypeIs a T) (I : InstAt s.heap x ox C od) (hsub : subIn K (.ref C) (.type T) = some false) (h1 : Slot T "__eq__" ida)
    (hc1 : ∀ Q' : Value → Shared → Prop, Q' .notImplemented s → wpAny (model prog w) A (call (.builtin ida) [a, .ref x]) Q' E s) (hs : findIn K (.ref C) "__eq__" = some (some (.ref f))) (hf : isFn K (.ref f) = true)
    (h : wpAny (model prog w) A (call (.ref f) [.ref x, a]) (PySem.W.CmpBack Q) E s) : wpAny (model prog w) A (richCompare .Eq a (.ref x)) Q E s := by
  have one : wpAny (model prog w) A (tryCompare (.ref x) "__eq__" a) (fun r s' => ∃ v, r = some v ∧ Q v s') E s := by
    unfold tryCompare
    refine wpAny_bind (ifBound_K X I hs hf (wpAny_mono h (fun v s' hv => ?_) fun _ _ e => e))
    cases v <;> first | exact hv.elim | exact wpAny_pure ⟨_, rfl, hv⟩
  unfold richCompare
  simp only [ha.oneThing_none]
  refine wpAny_holding (wpAny_bind (wpAny_cRoomFor hu ?_))
  refine wpAny_bind (wpAny_typeOf ha (wpAny_bind (I.type.here ?_)))
  have ne : (Value.type T != Value.ref C) = true := rfl
  rw [if_pos ne]
  refine wpAny_bind ((looks_subIn X hsub).here ?_)
  simp only [Bool.false_eq_true, if_false, Bool.not_false, if_true]
  refine wpAny_bind (m := tryCompare a _ (.ref x)) (wpAny_tryCompare_declines ha h1 (hc1 _ ⟨rfl, ?_⟩))
  refine wpAny_bind (wpAny_mono one (fun r s' z => ?_) fun _ _ e => e)
  obtain ⟨v, rfl, hq⟩ := z
  exact wpAny_pure hq
theorem int_declines_bool (b : Bool) : Meets (Builtin.«int.__eq__» ⟨[.bool b, .ref x], []⟩) (fun _ R s => s.heap.get? x = some (instObj C dx) ∧ R (.ok (.ret .notImplemented)) s) :=
  .of_wp fun prog w A R s h => by obtain ⟨hp, g, d, tk, os⟩ := s; obtain ⟨hl, h⟩ := h; wp_walk using AutoSeq1.wpAny_loadPart' hl, wpAny_load hl; exact ⟨_, rfl, h⟩
theorem int_declines_int (b : Int) (u : Tok) : Meets (Builtin.«int.__eq__» ⟨[.int b u, .ref x], []⟩) (fun _ R s => s.heap.get? x = some (instObj C dx) ∧ R (.ok (.ret .notImplemented)) s) :=
  .of_wp fun prog w A R s h => by obtain ⟨hp, g, d, tk, os⟩ := s; obtain ⟨hl, h⟩ := h; wp_walk using AutoSeq1.wpAny_loadPart' hl, wpAny_load hl; exact ⟨_, rfl, h⟩
theorem str_declines_str (b : Str) (u : Tok) : Meets (Builtin.«str.__eq__» ⟨[.str b u, .ref x], []⟩) (fun _ R s => s.heap.get? x = some (instObj C dx) ∧ R (.ok (.ret .notImplemented)) s) :=
  .of_wp fun prog w A R s h => by obtain ⟨hp, g, d, tk, os⟩ := s; obtain ⟨hl, h⟩ := h; wp_walk using AutoSeq1.wpAny_loadPart' hl, wpAny_load hl; exact ⟨_, rfl, h⟩
theorem list_declines {l : Addr} : MeetsIn prog w (Builtin.«list.__eq__» ⟨[.ref l, .ref x], []⟩) (fun _ R s => s.heap.get? x = some (instObj C dx) ∧ Looks (model prog w) s.heap (isSubtype (.ref C) (.type "list")) false ∧ R (.ok (.ret .notImplemented)) s) := fun A R s h => by
  obtain ⟨hp, g, d, tk, os⟩ := s
  obtain ⟨hl, hs, h⟩ := h
  wp_walk using AutoSeq1.wpAny_loadPart' hl, wpAny_load hl, hs.at
  exact h
theorem tuple_declines {l : Addr} : MeetsIn prog w (Builtin.«tuple.__eq__» ⟨[.ref l, .ref x], []⟩) (fun _ R s => s.heap.get? x = some (instObj C dx) ∧ Looks (model prog w) s.heap (isSubtype (.ref C) (.type "tuple")) false ∧ R (.ok (.ret .notImplemented)) s) := fun A R s h => by
  obtain ⟨hp, g, d, tk, os⟩ := s
  obtain ⟨hl, hs, h⟩ := h
  wp_walk using AutoSeq1.wpAny_loadPart' hl, wpAny_load hl, hs.at
  exact h
end
/-- a class over nothing of Python's own -/
structure NoBase (K : PySem.W.Frag) (C : Addr) : Prop where
  none : PySem.W.subIn K (.ref C) (.type "NoneType") = some false
  bool : PySem.W.subIn K (.ref C) (.type "bool") = some false
  int : PySem.W.subIn K (.ref C) (.type "int") = some false
  str : PySem.W.subIn K (.ref C) (.type "str") = some false
  list : PySem.W.subIn K (.ref C) (.type "list") = some false
  tuple : PySem.W.subIn K (.ref C) (.type "tuple") = some false
def rEqR (K : PySem.W.Frag) (C : Addr) (sp : Sp) : R2 := fun x y H Q => ∃ (a dx : Addr) (fs : List (Str × V)) (d : PyData), y = .ref a ∧ H a = some (.ins C dx fs) ∧ Dp K H x d ∧ sp [.ref a, x] H (fun v H' => ∃ c, v = .bl c ∧ Q v H') E0
theorem op_eqR {X : Cx} {CX : CXT} {n : Nat} {C f : Addr} {fd : FuncData} {ps : List Str} {sp : Sp} (S : Spm X.K C "__eq__" f) (N : NoBase X.K C) (F : FnOk X.prog X.w X.K X.mg X.base CX n f fd ps sp) (hb : Binds X.K fd ps []) (hx : Passes CX X E0) (hr : Room n X.A) : OpR X (compareOp .Eq) (rEqR X.K C sp) := by
  intro pins s σ H x y v u Q I rx ry h
  obtain ⟨a, dx, fs, d, rfl, ha, hd, q⟩ := h
  cases (show u = Value.ref a from ry)
  obtain ⟨mA, O, _⟩ := ins_get I.hok ha
  obtain ⟨od, J, _⟩ := O.look
  have hi : s.heap.get? a = some (PySem.W.instObj C dx) := O.1
  have own : wpAny (model X.prog X.w) X.A (call (.ref f) [.ref a, v]) (PySem.W.CmpBack (EP X pins σ Q)) X.xe s := wpAny_mono (own_call (vs := [V.ref a, x]) F hb hx hr rfl I (.cons rfl (.cons rx .nil)) q) (fun w s' z => by
    obtain ⟨v, H', I', rv, c, rfl, q⟩ := z
    cases (show w = Value.bool c from rv)
    exact ⟨.bl c, H', I', rfl, q⟩) fun _ _ z => z
  refine PySem.W.cmp_ofEq ?_
  cases hd with
  | non =>
    cases (show v = Value.none from rx)
    exact eqR_own hr.units0 I.kIn rfl J N.none PySem.F.slot_NoneType_eq (fun _ hq => call_gives PySem.F.slot_NoneType_eq rfl PySem.F.entry_NoneType_eq (PySem.F.args_NoneType_eq_2 _ _) (SeqAt.NoneType___eq___none_ref_0 a) hq) S.at_ S.fn own
  | bl b =>
    cases (show v = Value.bool b from rx)
    exact eqR_own hr.units0 I.kIn rfl J N.bool PySem.F.slot_bool_eq (fun _ hq => call_meets PySem.F.slot_bool_eq rfl PySem.F.entry_int_eq (PySem.F.args_int_eq_2 _ _) (int_declines_bool b) ⟨hi, hq⟩) S.at_ S.fn own
  | int i =>
    obtain ⟨t, rfl⟩ := (show ∃ t, v = Value.int i t from rx)
    exact eqR_own hr.units0 I.kIn (typeIs_int s i t) J N.int PySem.F.slot_int_eq (fun _ hq => call_meets PySem.F.slot_int_eq (typeIs_int s i t) PySem.F.entry_int_eq (PySem.F.args_int_eq_2 _ _) (int_declines_int i t) ⟨hi, hq⟩) S.at_ S.fn own
  | str z =>
    obtain ⟨t, rfl⟩ := (show ∃ t, v = Value.str z t from rx)
    exact eqR_own hr.units0 I.kIn (typeIs_str s z t) J N.str PySem.F.slot_str_eq (fun _ hq => call_meets PySem.F.slot_str_eq (typeIs_str s z t) PySem.F.entry_str_eq (PySem.F.args_str_eq_2 _ _) (str_declines_str z t) ⟨hi, hq⟩) S.at_ S.fn own
  | lst hs hl =>
    cases (show v = Value.ref _ from rx)
    obtain ⟨its, r, pl, hz⟩ := I.list hs
    obtain ⟨o, ho, hc, _⟩ := pl.isList
    exact eqR_own hr.units0 I.kIn ⟨o, ho, hc⟩ J N.list PySem.F.slot_list_eq (fun _ hq => call_meetsIn PySem.F.slot_list_eq ⟨o, ho, hc⟩ PySem.F.entry_list_eq (PySem.F.args_list_eq_2 _ _) list_declines ⟨hi, PySem.W.looks_subIn I.kIn N.list, hq⟩) S.at_ S.fn own
  | tup hs hl =>
    cases (show v = Value.ref _ from rx)
    obtain ⟨its, r, pl, hz⟩ := I.tuple hs
    obtain ⟨o, ho, hc, _⟩ := id pl
    exact eqR_own hr.units0 I.kIn ⟨o, ho, hc⟩ J N.tuple PySem.F.slot_tuple_eq (fun _ hq => call_meetsIn PySem.F.slot_tuple_eq ⟨o, ho, hc⟩ PySem.F.entry_tuple_eq (PySem.F.args_tuple_eq_2 _ _) tuple_declines ⟨hi, PySem.W.looks_subIn I.kIn N.tuple, hq⟩) S.at_ S.fn own
end L3

namespace L3
open PySem PySem.Spec PyProof.Rows L2 Evl
/-! ### data as keys, nested -/
mutual
def nkD : PyData → NestedKey
  | .none => .none
  | .bool b => .num (if b = true then 1 else 0)
  | .int i => .num i
  | .str x => .text x
  | .tuple xs => .tup (nkAll xs)
  | .list _ => .none
  | .dict _ => .none
def nkAll : List PyData → List NestedKey
  | [] => []
  | x :: xs => nkD x :: nkAll xs
end
mutual
/-- no lists, no dicts -/
def keyD : PyData → Bool
  | .tuple xs => keyAll xs
  | .list _ => false
  | .dict _ => false
  | _ => true
def keyAll : List PyData → Bool
  | [] => true
  | x :: xs => keyD x && keyAll xs
end
section
variable {X : Cx} {pins : List (Addr × Obj)} {σ : L2.St} {H : Hp} {s : Shared}
mutual
theorem nest_of (I : Inv X pins σ H s) : ∀ {d : PyData} {x : V} {u : Value}, Dp X.K H x d → keyD d = true → RelV x u → NestedIs s.heap (nkD d) u
  | _, _, u, .non, _, r => by
    cases (show u = Value.none from r)
    exact .none
  | _, _, u, .bl b, _, r => by
    cases (show u = Value.bool b from r)
    exact .bool rfl
  | _, _, u, .int i, _, r => by
    obtain ⟨t, rfl⟩ := (show ∃ t, u = Value.int i t from r)
    exact .int i t
  | _, _, u, .str x, _, r => by
    obtain ⟨t, rfl⟩ := (show ∃ t, u = Value.str x t from r)
    exact .text x t
  | _, _, _, .lst _ _, hk, _ => nomatch hk
  | _, _, u, .tup (a := a) h ha, hk, r => by
    cases (show u = Value.ref a from r)
    obtain ⟨its, rv, ⟨o, h1, h2, n, h3⟩, _⟩ := I.tuple h
    exact .tup h1 h2 h3 (by simpa using nests_of I ha hk rv)
theorem nests_of (I : Inv X pins σ H s) : ∀ {ds : List PyData} {xs : List V} {us : List Value}, DpAll X.K H xs ds → keyAll ds = true → Vals xs us → NestedAll s.heap (nkAll ds) us
  | _, _, _, .nil, _, r => by
    cases r
    exact .nil
  | _, _, _, .cons a t, hk, r => by
    obtain ⟨h1, h2⟩ := Bool.and_eq_true_iff.mp hk
    cases r with
    | cons r1 r2 => exact .cons (nest_of I a h1 r1) (nests_of I t h2 r2)
end
end
/-! ### tuples stand -/
def isT : HO → Prop
  | .tup _ => True
  | .frz _ _ => True
  | _ => False
/-- what is a tuple stays -/
def ExT (H H1 : Hp) : Prop := ∀ a o, isT o → H a = some o → H1 a = some o
theorem ExT.refl {H : Hp} : ExT H H := fun _ _ _ h => h
theorem ExT.trans {A B C : Hp} (x : ExT A B) (y : ExT B C) : ExT A C := fun a o t h => y a o t (x a o t h)
theorem ext_of {A B : Hp} (x : Ex A B) : ExT A B := fun a o _ h => x a o h
theorem ext_upd {A : Hp} {a : Addr} {o : HO} (h : ∀ u, A a = some u → ¬ isT u) : ExT A (upd A a o) := fun b u t e => by
  have n : b ≠ a := fun z => h u (by rw [← z]; exact e) t
  rw [upd_ne n]
  exact e
theorem ext_del {A B : Hp} {a : Addr} (h : ∀ u, A a = some u → ¬ isT u) (x : Ex (del A a) (del B a)) : ExT A B := fun b u t e => by
  have n : b ≠ a := fun z => h u (by rw [← z]; exact e) t
  have y := x b u (by rw [del_ne n]; exact e)
  rw [del_ne n] at y
  exact y
section
variable {K : PySem.W.Frag} {H H1 : Hp}
theorem ext_t (e : ExT H H1) {a : Addr} {xs : List V} (h : SqT K H a xs) : SqT K H1 a xs := by
  rcases h with (h | ⟨o, h⟩) | h
  · exact Or.inl (Or.inl (e _ _ True.intro h))
  · exact Or.inl (Or.inr ⟨o, e _ _ True.intro h⟩)
  · exact Or.inr h
mutual
theorem dp_ext (e : ExT H H1) : ∀ {d : PyData} {x : V}, keyD d = true → Dp K H x d → Dp K H1 x d
  | _, _, _, .non => .non
  | _, _, _, .bl b => .bl b
  | _, _, _, .int i => .int i
  | _, _, _, .str x => .str x
  | _, _, hk, .lst h a => nomatch hk
  | _, _, hk, .tup h a => .tup (ext_t e h) (dps_ext e hk a)
theorem dps_ext (e : ExT H H1) : ∀ {ds : List PyData} {xs : List V}, keyAll ds = true → DpAll K H xs ds → DpAll K H1 xs ds
  | _, _, _, .nil => .nil
  | _, _, hk, .cons a r => .cons (dp_ext e (Bool.and_eq_true_iff.mp hk).1 a) (dps_ext e (Bool.and_eq_true_iff.mp hk).2 r)
end
end
/-! ### a dict by such keys -/
abbrev NkE := NestedKey × Addr × Value
def dicE (P : Program) (w : World) (d : Addr) (xs : List NkE) : HO :=
  .ext fun h => (d == sysModules) = false ∧ ∃ o es ep, h.get? d = some o ∧ o.ExactDict ∧ o.data = .dict es ep ∧ es.toList = xs.map (entryOfKey (nestedKind P w)) ∧ (xs.map (·.1)).Nodup
theorem dicE_ok {P : Program} {w : World} {H : Hp} {h : Heap} {d : Addr} {xs : List NkE} (hd : (d == sysModules) = false) (x : ∃ o es ep, h.get? d = some o ∧ o.ExactDict ∧ o.data = .dict es ep ∧ es.toList = xs.map (entryOfKey (nestedKind P w)) ∧ (xs.map (·.1)).Nodup) : ObjOk P w H h d (dicE P w d xs) := by
  refine ⟨⟨hd, x⟩, ?_, fun h1 h2 ⟨y1, o, es, ep, y2, y3⟩ k => ⟨y1, o, es, ep, k _ y2, y3⟩⟩
  obtain ⟨o, es, ep, h1, _⟩ := x
  exact ⟨o, h1⟩
/-- what is asked of keys and values -/
structure Ckd {α : Type} (kd F : α → PyData) : Prop where
  key : ∀ a, keyD (kd a) = true
  val : ∀ a, keyD (F a) = true
  dep : ∀ a, (nkD (kd a)).depth ≤ 8
  inj : ∀ a b, nkD (kd a) = nkD (kd b) → a = b
/-- a cache: what stands at a key a is F a -/
structure Cch {α : Type} (P : Program) (w : World) (K : PySem.W.Frag) (H : Hp) (d : Addr) (xs : List NkE) (kd F : α → PyData) : Prop where
  at_ : H d = some (dicE P w d xs)
  all : ∀ x ∈ xs, ∃ (a : α) (v : V), x.1 = nkD (kd a) ∧ Dp K H (.ref x.2.1) (kd a) ∧ RelV v x.2.2 ∧ Dp K H v (F a)
section
variable {α : Type} {P : Program} {w : World} {K : PySem.W.Frag} {H H1 : Hp} {d : Addr} {xs : List NkE} {kd F : α → PyData}
theorem Cch.up (c : Cch P w K H d xs kd F) (k : Ckd kd F) (e : ExT H H1) (h : H1 d = H d) : Cch P w K H1 d xs kd F := by
  refine ⟨h.trans c.at_, fun x hx => ?_⟩
  obtain ⟨a, v, y1, y2, y3, y4⟩ := c.all x hx
  exact ⟨a, v, y1, dp_ext e (k.key a) y2, y3, dp_ext e (k.val a) y4⟩
theorem Cch.nt (c : Cch P w K H d xs kd F) : ∀ u, H d = some u → ¬ isT u := fun u h z => by
  rw [c.at_] at h
  cases h
  exact z
theorem Cch.ex (c : Cch P w K H d xs kd F) (k : Ckd kd F) (e : Ex H H1) : Cch P w K H1 d xs kd F := c.up k (ext_of e) ((e _ _ c.at_).trans c.at_.symm)
end
theorem at_some {xs : List NkE} {k : NestedKey} {p : Addr × Value} (h : atKey xs k = some p) : ∃ x ∈ xs, x.1 = k ∧ x.2 = p := by
  unfold atKey at h
  obtain ⟨x, hx, rfl⟩ := Option.map_eq_some_iff.mp h
  exact ⟨x, List.mem_of_find?_eq_some hx, by simpa using List.find?_some hx, rfl⟩
theorem at_stored {xs : List NkE} {k : NestedKey} {b : Addr} {u : Value} : (atKey (storedH xs k b u) k).isSome = true := by
  have h := valueAt_pairsH (storedH xs k b u) k
  rw [pairsH_storedH, valueAt_stored_same] at h
  cases q : atKey (storedH xs k b u) k with
  | none =>
    rw [q] at h
    cases h
  | some p => rfl
theorem stored_mem {xs : List NkE} {k : NestedKey} {b : Addr} {u : Value} {x : NkE} (h : x ∈ storedH xs k b u) : x ∈ xs ∨ x = (k, b, u) ∨ ∃ y ∈ xs, y.1 = k ∧ x = (y.1, y.2.1, u) := by
  unfold storedH at h
  split at h
  · obtain ⟨y, hy, rfl⟩ := List.mem_map.mp h
    unfold putAt
    by_cases c : y.1 = k
    · rw [if_pos c]
      exact Or.inr (Or.inr ⟨y, hy, c, rfl⟩)
    · rw [if_neg c]
      exact Or.inl hy
  · rcases List.mem_append.mp h with h | h
    · exact Or.inl h
    · exact Or.inr (Or.inl (List.mem_singleton.mp h))
theorem stored_len {xs : List NkE} {k : NestedKey} {b : Addr} {u : Value} : (storedH xs k b u).length ≤ xs.length + 1 := by
  unfold storedH
  split
  · rw [List.length_map]
    omega
  · rw [List.length_append, List.length_singleton]
    omega
def rNiC {α : Type} (P : Program) (w : World) (K : PySem.W.Frag) (kd F : α → PyData) : R2 := fun x y H Q => ∃ (b d : Addr) (a : α) (xs : List NkE), x = .ref b ∧ y = .ref d ∧ Dp K H (.ref b) (kd a) ∧ Cch P w K H d xs kd F ∧ Q (.bl (!(atKey xs (nkD (kd a))).isSome)) H
def rIxC {α : Type} (P : Program) (w : World) (K : PySem.W.Frag) (kd F : α → PyData) : R2 := fun x y H Q => ∃ (b d : Addr) (a : α) (xs : List NkE), x = .ref d ∧ y = .ref b ∧ Dp K H (.ref b) (kd a) ∧ Cch P w K H d xs kd F ∧ (atKey xs (nkD (kd a))).isSome = true ∧ ∀ v, Dp K H v (F a) → Q v H
def rSetC {α : Type} (P : Program) (w : World) (K : PySem.W.Frag) (kd F : α → PyData) : TSet := fun o i v H Q => ∃ (b d : Addr) (a : α) (xs : List NkE), o = .ref d ∧ i = .ref b ∧ Dp K H (.ref b) (kd a) ∧ Dp K H v (F a) ∧ Cch P w K H d xs kd F ∧ xs.length ≤ 1000000 ∧
  ∀ H' ys, ys.length ≤ xs.length + 1 → Cch P w K H' d ys kd F → (atKey ys (nkD (kd a))).isSome = true → Ex (del H d) (del H' d) → Q H'
section
variable {α : Type} {X : Cx} {kd F : α → PyData}
theorem roomC (hu : X.A.units + 64 < cLine) : (nestedKind X.prog X.w).room X.A.in1 := by
  show X.A.in1.units + 8 < cLine
  rw [Around.in1_units]
  omega
section
variable {pins : List (Addr × Obj)} {σ : L2.St} {H : Hp} {s : Shared} {d b : Addr} {a : α} {xs : List NkE}
theorem cch_is (I : Inv X pins σ H s) (k : Ckd kd F) (hb : Dp X.K H (.ref b) (kd a)) : (nestedKind X.prog X.w).is s.heap (nkD (kd a)) b := ⟨nest_of I hb (k.key a) rfl, k.dep a⟩
theorem cch_of (I : Inv X pins σ H s) (k : Ckd kd F) (c : Cch X.prog X.w X.K H d xs kd F) : (d == sysModules) = false ∧ s.heap.DictOfH (nestedKind X.prog X.w) d xs := by
  obtain ⟨⟨hd, o, es, ep, y1, y2, y3, y4, y5⟩, _, _⟩ := (show ObjOk X.prog X.w H s.heap d (dicE X.prog X.w d xs) from I.hok _ _ c.at_)
  refine ⟨hd, o, es, ep, y1, y2, y3, y4, fun x hx => ?_, y5⟩
  obtain ⟨a, v, z1, z2, z3, z4⟩ := c.all x hx
  rw [z1]
  exact ⟨nest_of I z2 (k.key a) rfl, k.dep a⟩
end
theorem op_niC (k : Ckd kd F) (hu : X.A.units + 64 < cLine) : OpR X (compareOp .NotIn) (rNiC X.prog X.w X.K kd F) := by
  intro pins s σ H x y v u Q I rx ry h
  obtain ⟨b, d, a, xs, rfl, rfl, hb, c, q⟩ := h
  cases (show v = Value.ref b from rx)
  cases (show u = Value.ref d from ry)
  obtain ⟨hd, hm⟩ := cch_of I k c
  exact wpAny_notIn_heap (roomC hu) (cch_is I k hb) hd hm ⟨.bl (!(atKey xs (nkD (kd a))).isSome), H, I.tok _, rfl, q⟩
theorem ix_C (k : Ckd kd F) (hu : X.A.units + 64 < cLine) : IxR X (rIxC X.prog X.w X.K kd F) := by
  intro value slice pins s σ H x y v u Q I rx ry h hs
  obtain ⟨b, d, a, xs, rfl, rfl, hb, c, hk, q⟩ := h
  cases (show v = Value.ref d from rx)
  cases (show u = Value.ref b from ry)
  obtain ⟨hd, hm⟩ := cch_of I k c
  obtain ⟨p, hp⟩ := Option.isSome_iff_exists.mp hk
  obtain ⟨x, hx, e1, e2⟩ := at_some hp
  obtain ⟨a', v, z1, z2, z3, z4⟩ := c.all x hx
  have ea : a' = a := k.inj _ _ (z1.symm.trans e1)
  subst ea
  rw [e2] at z3
  exact tail_any hm.typeIs PySem.F.slot_dict_getitem.lookup (wpAny_getItem_heap (roomC hu) (cch_is I k hb) hm hp ⟨v, H, I.tok _, z3, q v z4⟩) hs
theorem set_C (k : Ckd kd F) (hu : X.A.units + 64 < cLine) : PSet X (rSetC X.prog X.w X.K kd F) := by
  intro pins s σ H o i v ov iv u Q I ro ri rv h
  obtain ⟨b, d, a, xs, rfl, rfl, hb, hv, c, hl, q⟩ := h
  cases (show ov = Value.ref d from ro)
  cases (show iv = Value.ref b from ri)
  obtain ⟨hd, hm⟩ := cch_of I k c
  refine wpAny_setItem_heap (hsz := by rw [sizeLine_eq]; omega) (roomC hu) (cch_is I k hb) hm fun h' dd' hs => ?_
  obtain ⟨o, es, ep, y1, y2, y3, y4, y5, y6⟩ := dd'
  have eT : ExT H (upd H d (dicE X.prog X.w d (storedH xs (nkD (kd a)) b u))) := ext_upd c.nt
  refine ⟨upd H d (dicE X.prog X.w d (storedH xs (nkD (kd a)) b u)), d_write I (by rw [c.at_]; exact True.intro) hs ⟨o, y1⟩ (dicE_ok hd ⟨o, es, ep, y1, y2, y3, y4, y6⟩), q _ _ stored_len ⟨upd_same, fun x hx => ?_⟩ at_stored ?_⟩
  · rcases stored_mem hx with hx | rfl | ⟨y, hy, e1, rfl⟩
    · obtain ⟨a', v', z1, z2, z3, z4⟩ := c.all x hx
      exact ⟨a', v', z1, dp_ext eT (k.key _) z2, z3, dp_ext eT (k.val _) z4⟩
    · exact ⟨a, v, rfl, dp_ext eT (k.key _) hb, rv, dp_ext eT (k.val _) hv⟩
    · obtain ⟨a', v', z1, z2, z3, z4⟩ := c.all y hy
      have ea : a' = a := k.inj _ _ (z1.symm.trans e1)
      subst ea
      exact ⟨a', v, z1, dp_ext eT (k.key _) z2, rv, dp_ext eT (k.val _) hv⟩
  · rw [del_upd]
    exact Ex.refl _
/-- {} -/
def tNewC (P : Program) (w : World) : TE := fun _ H Q => ∀ p, H p = none → Q (.ref p) (upd H p (dicE P w p []))
theorem pe_newC {pos : Pos} : PE X (.Dict [] [] pos) (tNewC X.prog X.w) := ⟨fun pins s σ H Q I h =>
  wpAny_Dict_empty ⟨.ref s.heap.objs.size, _, I.laid (a := s.heap.objs.size) (o := dicE X.prog X.w s.heap.objs.size []) (t' := s.toks) (fun _ _ q => Heap.get?_push_of_some _ q) (Nat.le_refl _) (by
    obtain ⟨_, hd, xs, r, o, es, ep, h1, h2, h3, h4, h5⟩ := dt_empty (P := X.prog) (w := X.w) (H := H) s.heap I.big
    cases r
    exact dicE_ok hd ⟨o, es, ep, h1, h2, h3, h4, List.nodup_nil⟩), rfl, h _ (I.hok.fresh (Nat.le_refl _))⟩⟩
theorem cch_new {P : Program} {w : World} {K : PySem.W.Frag} {H : Hp} {p : Addr} {kd F : α → PyData} (h : H p = some (dicE P w p [])) : Cch P w K H p [] kd F := ⟨h, fun x hx => nomatch hx⟩
end
end L3

namespace Lw
open PySem PySem.Spec PyProof.Rows L2 Evl L3
def top (i : Nat) : Stmt := PySem.Challenge.pw_latewords_k08_states_of_great_lengths.main.body.getD i (.Pass ⟨0, 0, 0, 0⟩)
abbrev sIsInt : Stmt := top 15
abbrev sBetw : Stmt := top 16
abbrev sBag : Stmt := top 26
abbrev sTake : Stmt := top 27
/-- what is read of the top -/
structure Txt (K : PySem.W.Frag) (mg : Str → Option Value) : Prop where
  isi : mg "isinstance" = none
  isint : ∃ (f : Addr) (fd : FuncData), Fun K "is_integer" "is_integer" sIsInt f fd ∧ Binds K fd ["value"] [] ∧ mg "is_integer" = some (.ref f)
  int : mg "int" = none
  bool : mg "bool" = none
  tuple : mg "tuple" = none
  len : mg "len" = none
  range : mg "range" = none
  str : mg "str" = none
  repr : mg "repr" = none
  all : mg "all" = none
  max : mg "max" = none
  min : mg "min" = none
  abs : mg "abs" = none
/-! ### is_integer -/
def isInD (d : PyData) : Bool := match d with
  | .int _ => true
  | _ => false
def spIsInt (K : PySem.W.Frag) : Sp := fun vs H Q _ => ∃ (x : V) (d : PyData), vs = [x] ∧ Dp K H x d ∧ RetV (.bl (isInD d)) H Q
theorem scIsInt : FnScope ["value"] ["value"] (defScope sIsInt) := ⟨rfl, rfl, rfl, by decide +kernel, rfl, by decide +kernel, by decide +kernel⟩
theorem ok_isInt {P : Program} {w : World} {K : PySem.W.Frag} {mg : Str → Option Value} {base : Heap} {f : Addr} {fd : FuncData} (F : Fun K "is_integer" "is_integer" sIsInt f fd) (T : Txt K mg) : FnOk P w K mg base CX0 0 f fd ["value"] (spIsInt K) := by
  refine ok0 F scIsInt (fun vs H Q E h => ?_) (fun cdv A outer s H vs Q E h => ?_)
  · obtain ⟨x, d, rfl, _⟩ := h
    rfl
  · obtain ⟨x, d, rfl, hd, k⟩ := h
    refine ⟨_, pss_one (ps_ret (pe_and (pe_callB call_isi (by rfl) T.isi (by decide +kernel) (pa_cons (pv 0) (pa_cons (pe_ty "int" T.int) pa_nil)))
      (pe_one (pe_not (pe_callB call_isi (by rfl) T.isi (by decide +kernel) (pa_cons (pv 0) (pa_cons (pe_ty "bool" T.bool) pa_nil))))))), ?_⟩
    refine s_ret (v := .bl (isInD d)) ?_ k
    cases d with
    | int i =>
      cases hd
      exact ev_is (ev_andV (ev_isi (ev_var rfl) (.int i) (kit_int _)) fun _ => ev_notV (ev_isi (ev_var rfl) (.int i) (kit_bool _))) rfl
    | bool b => exact ev_is (ev_andV (b := false) (ev_isi (ev_var rfl) hd (kit_int _)) fun _ => ev_notV (ev_isi (ev_var rfl) hd (kit_bool _))) rfl
    | none => exact ev_is (ev_andV (b := false) (ev_isi (ev_var rfl) hd (kit_int _)) fun z => nomatch z) rfl
    | str b => exact ev_is (ev_andV (b := false) (ev_isi (ev_var rfl) hd (kit_int _)) fun z => nomatch z) rfl
    | list b => exact ev_is (ev_andV (b := false) (ev_isi (ev_var rfl) hd (kit_int _)) fun z => nomatch z) rfl
    | tuple b => exact ev_is (ev_andV (b := false) (ev_isi (ev_var rfl) hd (kit_int _)) fun z => nomatch z) rfl
    | dict b => exact ev_is (ev_andV (b := false) (ev_isi (ev_var rfl) hd (kit_int _)) fun z => nomatch z) rfl
theorem sp_isInt {K : PySem.W.Frag} {x : V} {d : PyData} {H : Hp} (hd : Dp K H x d) : SpV (spIsInt K) [x] H (.bl (isInD d)) :=
  fun H1 e Q q E => ⟨x, d, rfl, dp_ex e hd, fun H2 e2 => q H2 e2⟩
/-! ### between -/
def betwD (d : PyData) (lo hi : Int) : Bool := match d with
  | .int i => decide (lo ≤ i) && decide (i ≤ hi)
  | _ => false
def spBetw (K : PySem.W.Frag) : Sp := fun vs H Q _ => ∃ (x : V) (d : PyData) (lo hi : Int), vs = [x, .int lo, .int hi] ∧ Dp K H x d ∧ RetV (.bl (betwD d lo hi)) H Q
section
variable {P : Program} {w : World} {K : PySem.W.Frag} {mg : Str → Option Value} {base : Heap}
theorem scB : FnScope ["value", "low", "high"] ["value", "low", "high"] (defScope sBetw) := ⟨rfl, rfl, rfl, by decide +kernel, rfl, by decide +kernel, by decide +kernel⟩
theorem ok_betw {f : Addr} {fd : FuncData} (F : Fun K "between" "between" sBetw f fd) (T : Txt K mg) : FnOk P w K mg base CX0 1 f fd ["value", "low", "high"] (spBetw K) := by
  refine F.ok scB (fun vs H Q E h => ?_) (fun cdv A outer s H vs Q E hr h => ?_)
  · obtain ⟨x, d, lo, hi, rfl, _⟩ := h
    rfl
  · obtain ⟨x, d, lo, hi, rfl, hd, k⟩ := h
    obtain ⟨fI, fdI, FI, bI, gI⟩ := T.isint
    have GI : FnOk P w K mg base CX0 0 fI fdI ["value"] (spIsInt K) := ok_isInt FI T
    refine ⟨_, pss_one (ps_ret (pe_and (pe_call GI hr rfl gI FI.kp bI .nil pass0 (pa_cons (pv 0) pa_nil)) (pe_one (pe_chain op_le op_le (pv 1) (pv 0) (pv 2))))), ?_⟩
    refine s_ret (v := .bl (betwD d lo hi)) ?_ k
    cases d with
    | int i =>
      cases hd
      exact ev_is (ev_andV (a := true) (ev_call (ea_cons (ev_var rfl) ea_nil) (sp_isInt (.int i))) fun _ => ev_chain (ev_var rfl) (ev_var rfl) (ev_var rfl)) rfl
    | bool b => exact ev_is (ev_andV (a := false) (b := false) (ev_call (ea_cons (ev_var rfl) ea_nil) (sp_isInt hd)) fun z => nomatch z) rfl
    | none => exact ev_is (ev_andV (a := false) (b := false) (ev_call (ea_cons (ev_var rfl) ea_nil) (sp_isInt hd)) fun z => nomatch z) rfl
    | str b => exact ev_is (ev_andV (a := false) (b := false) (ev_call (ea_cons (ev_var rfl) ea_nil) (sp_isInt hd)) fun z => nomatch z) rfl
    | list b => exact ev_is (ev_andV (a := false) (b := false) (ev_call (ea_cons (ev_var rfl) ea_nil) (sp_isInt hd)) fun z => nomatch z) rfl
    | tuple b => exact ev_is (ev_andV (a := false) (b := false) (ev_call (ea_cons (ev_var rfl) ea_nil) (sp_isInt hd)) fun z => nomatch z) rfl
    | dict b => exact ev_is (ev_andV (a := false) (b := false) (ev_call (ea_cons (ev_var rfl) ea_nil) (sp_isInt hd)) fun z => nomatch z) rfl
theorem sp_betw {x : V} {d : PyData} {lo hi : Int} {H : Hp} (hd : Dp K H x d) : SpV (spBetw K) [x, .int lo, .int hi] H (.bl (betwD d lo hi)) :=
  fun H1 e Q q E => ⟨x, d, lo, hi, rfl, dp_ex e hd, fun H2 e2 => q H2 e2⟩
end
/-- the bag at g: digits, a seed, a count that leaves room for n more draws -/
def BagAt (H : Hp) (g : Addr) (n : Nat) : Prop := ∃ d s c : Int, H g = some (.lst [.int d, .int s, .int c]) ∧ 0 ≤ d ∧ 0 ≤ s ∧ s < 4294967296 ∧ 0 ≤ c ∧ c + 3 * n ≤ 1099511627776
theorem BagAt.ex {H H1 : Hp} {g : Addr} {n : Nat} (b : BagAt H g n) (e : Ex H H1) : BagAt H1 g n := by
  obtain ⟨d, s, c, h, r⟩ := b
  exact ⟨d, s, c, e g _ h, r⟩
theorem BagAt.less {H : Hp} {g : Addr} {n m : Nat} (b : BagAt H g n) (h : m ≤ n) : BagAt H g m := by
  obtain ⟨d, s, c, h1, h2, h3, h4, h5, h6⟩ := b
  exact ⟨d, s, c, h1, h2, h3, h4, h5, by omega⟩
/-- one draw -/
def spTake : Sp := fun vs H Q _ => ∃ (g : Addr) (n : Nat) (m : Int), vs = [.ref g, .int m] ∧ BagAt H g (n + 1) ∧ 1 ≤ m ∧ m ≤ 100000000000000000000 ∧
  ∀ (r : Int) (H' : Hp), 0 ≤ r → r < m → Ex (del H g) (del H' g) → BagAt H' g n → Q (.int r) H'
section
variable {P : Program} {w : World} {K : PySem.W.Frag} {mg : Str → Option Value} {base : Heap}
theorem rc_int {H : Hp} {i : Int} : RC (fun xs H Q => (∃ i, xs = [V.int i] ∧ Q (.int i) H) ∨ ∃ k, xs = [V.bl k] ∧ Q (.int (if k then 1 else 0)) H) [.int i] H (.int i) := fun H1 e Q q => Or.inl ⟨i, rfl, q H1 (Ex.refl H1)⟩
theorem scTa : FnScope ["_law_bag_here", "_law_many", "_law_digit", "_law_found", "_law_reach", "_law_more"] ["_law_bag_here", "_law_many"] (defScope sTake) := ⟨rfl, rfl, rfl, by decide +kernel, rfl, by decide +kernel, by decide +kernel⟩
theorem ok_take {f : Addr} {fd : FuncData} (F : Fun K "_law_take" "_law_take" sTake f fd) (T : Txt K mg) : FnOk P w K mg base CX0 1 f fd ["_law_bag_here", "_law_many"] spTake := by
  refine F.ok scTa (fun vs H Q E h => ?_) (fun cdv A outer s H vs Q E hr h => ?_)
  · obtain ⟨g, n, m, rfl, _⟩ := h
    rfl
  · obtain ⟨g, n, m, rfl, ⟨d, s, c, hg, hd, hs0, hs1, hc0, hc1⟩, hm1, hm2, k⟩ := h
    refine ⟨_, pss_cons (ps_if (pt_cmpR op_gt (pe_ix ix_list (pv 0) pe_int (fun _ _ => rfl)) pe_int (nomark _))
        (pss_cons (ps_set (i := 2) scTa.nd rfl (Or.inl rfl) (pe_op op_mod (pe_callTy call_int1 (by rfl) T.int PyProof.Rows.boot_int (pa_cons (pe_ix ix_list (pv 0) pe_int (fun _ _ => rfl)) pa_nil)) (pv 1)))
        (pss_cons (ps_asg (pe_op op_fdivW (pe_ix ix_list (pv 0) pe_int (fun _ _ => rfl)) (pv 1)) (pg_sub (pv 0) pe_int set_list))
        (pss_one (ps_ret (pv 2))))) pss_nil)
      (pss_cons (ps_asg (pe_tup (pa_cons pe_int (pa_cons pe_int pa_nil))) (pg_tup rfl (pgs_cons (pg_name (i := 3) scTa.nd rfl (Or.inl rfl)) (pgs_cons (pg_name (i := 4) scTa.nd rfl (Or.inl rfl)) pgs_nil))))
      (pss_cons (ps_while PassesOwn.never (pt_cmpR op_lt (pv 4) (pv 1) (nomark _))
        (pss_cons (ps_asg (pe_op op_add (pe_ix ix_list (pv 0) pe_int (fun _ _ => rfl)) pe_int) (pg_sub (pv 0) pe_int set_list))
        (pss_cons (ps_asg (pe_op op_mod (pe_callTy call_int1 (by rfl) T.int PyProof.Rows.boot_int (pa_cons (pe_op op_add (pe_op op_add (pe_op op_mul (pe_ix ix_list (pv 0) pe_int (fun _ _ => rfl)) pe_int)
            (pe_op op_mul (pe_op op_mul pe_int (pe_ix ix_list (pv 0) pe_int (fun _ _ => rfl))) (pe_ix ix_list (pv 0) pe_int (fun _ _ => rfl)))) pe_int) pa_nil)) pe_int) (pg_sub (pv 0) pe_int set_list))
        (pss_cons (ps_set (i := 5) scTa.nd rfl (Or.inl rfl) (pe_op op_mod (pe_callTy call_int1 (by rfl) T.int PyProof.Rows.boot_int (pa_cons (pe_op op_mul (pe_op op_fdiv (pe_ix ix_list (pv 0) pe_int (fun _ _ => rfl)) pe_int)
            (pe_op op_add (pe_op op_fdiv (pe_ix ix_list (pv 0) pe_int (fun _ _ => rfl)) pe_int) (pe_ix ix_list (pv 0) pe_int (fun _ _ => rfl)))) pa_nil)) pe_int))
        (pss_cons (ps_set (i := 3) scTa.nd rfl (Or.inl rfl) (pe_op op_add (pe_op op_mul (pv 3) pe_int) (pe_op op_mod (pe_callTy call_int1 (by rfl) T.int PyProof.Rows.boot_int (pa_cons (pe_op op_fdiv (pv 5) pe_int) pa_nil)) pe_int)))
        (pss_one (ps_set (i := 4) scTa.nd rfl (Or.inl rfl) (pe_op op_mul (pv 4) pe_int))))))))
      (pss_one (ps_ret (pe_op op_mod (pv 3) (pv 1)))))), ?_⟩
    refine q_when (b := decide (0 < d)) (et_test (ev_op (ev_op (ev_var rfl) ev_c (rv_ixL (sq_of hg) (atI_nat (j := 0) rfl))) ev_c rv_I0)) (fun hb H1 e1 => ?_) (fun hb H1 e1 => ?_)
    · have hd1 : 0 < d := of_decide_eq_true hb
      refine q_asg (ev_op (ev_cb (ea_cons (ev_op (ev_var rfl) ev_c (rv_ixL (sq_of (e1 g _ hg)) (atI_nat (j := 0) rfl))) ea_nil) rc_int) (ev_var rfl) (rv_I (show 0 < m by omega))) fun H2 e2 => ?_
      have hg2 : H2 g = some (.lst [.int d, .int s, .int c]) := e2 g _ (e1 g _ hg)
      refine q_setL (j := 0) hg2 (ev_op (ev_op (ev_var rfl) ev_c (rv_ixL (sq_of hg2) (atI_nat (j := 0) rfl))) (ev_var rfl) (rv_I (wide_div (b := 100) (show 0 < m by omega) (by omega) (by decide) (by decide)))) (ev_var rfl) ev_c (by show 0 < 3; decide) fun H3 e3 => ?_
      refine s_ret (ev_var rfl) fun H4 e4 => ?_
      refine k (d % m) H4 (Int.emod_nonneg _ (by omega)) (Int.emod_lt_of_pos _ (by omega)) ?_ ⟨d / m, s, c, e4 g _ upd_same, Int.ediv_nonneg hd (by omega), hs0, hs1, hc0, by omega⟩
      refine (ex_del ((e1.trans e2).trans e3)).trans ?_
      rw [← del_upd (H := H3) (l := g) (o := .lst (List.set [V.int d, V.int s, V.int c] 0 (V.int (d / m))))]
      exact ex_del e4
    · have hd1 : d = 0 := by
        have z := of_decide_eq_false hb
        omega
      refine ⟨by show 2 ≤ sizeLine; decide, fun pt hpt => ⟨pt, _, rfl, st_of upd_same, rfl, _, _, rfl, _, _, rfl, rfl, ?_⟩⟩
      have e1 : Ex H (upd H1 pt (.tup [.int 0, .int 1])) := e1.trans (Ex.new hpt)
      refine q_while (fun j σ' H' => ∃ (i : Nat) (fd : Int) (o2 o5 : Option V) (s' c' : Int), j = 3 - i ∧ i ≤ 3 ∧ σ' = [some (.ref g), some (.int m), o2, some (.int fd), some (.int (33554432 ^ i)), o5] ∧
          Ex (del H g) (del H' g) ∧ H' g = some (.lst [.int d, .int s', .int c']) ∧ 0 ≤ s' ∧ s' < 4294967296 ∧ 0 ≤ c' ∧ c' ≤ c + i) 3
        ⟨0, 0, none, none, s, c, rfl, by decide, rfl, ex_del e1, e1 g _ hg, hs0, hs1, hc0, by omega⟩ ?_
      rintro j σ' H' ⟨i, fd, o2, o5, s', c', rfl, hi, rfl, ex, hg', b1, b2, b3, b4⟩
      refine ⟨decide ((33554432 : Int) ^ i < m), et_test (ev_op (ev_var rfl) (ev_var rfl) rv_I0), fun hb2 H2 e2 => ?_, fun hb2 H2 e2 => ?_⟩
      · have hlt : (33554432 : Int) ^ i < m := of_decide_eq_true hb2
        have hi3 : i < 3 := by
          match i, hi, hlt with
          | 0, _, _ => decide
          | 1, _, _ => decide
          | 2, _, _ => decide
          | 3, _, hlt =>
            exfalso
            have z : (33554432 : Int) ^ 3 = 37778931862957161709568 := by decide
            omega
          | i + 4, hi, _ => omega
        have hg2 : H2 g = some (.lst [.int d, .int s', .int c']) := e2 g _ hg'
        refine ⟨_, fun σ2 H3 q => q, ?_⟩
        refine q_setL (j := 2) hg2 (ev_op (ev_op (ev_var rfl) ev_c (rv_ixL (sq_of hg2) (atI_nat (j := 2) rfl))) ev_c rv_I0) (ev_var rfl) ev_c (by show 2 < 3; decide) fun H3 e3 => ?_
        have hg3 : upd H3 g (.lst [.int d, .int s', .int (c' + 1)]) g = some (.lst [.int d, .int s', .int (c' + 1)]) := upd_same
        have ix0 : ∀ {σ : L2.St} {HH : Hp} {xs : List V} {q : Nat} {v : V}, σ[0]? = some (some (V.ref g)) → HH g = some (.lst xs) → xs[q]? = some v → Ev (tOp (rIxL K) (tVar 0) (tC (.int (q : Int)))) σ HH v :=
          fun h1 h2 h3 => ev_op (ev_var h1) ev_c (rv_ixL (sq_of h2) (atI_nat h3))
        obtain ⟨s2, hs2⟩ : ∃ s2, s2 = (s' * 40014 + 7919 * (c' + 1) * (c' + 1) + 83) % 2147483563 := ⟨_, rfl⟩
        have hs2a : 0 ≤ s2 := by rw [hs2]; exact Int.emod_nonneg _ (by decide)
        have hs2b : s2 < 2147483563 := by rw [hs2]; exact Int.emod_lt_of_pos _ (by decide)
        refine q_setL (j := 1) (v := .int s2) hg3 (ev_is ?_ (congrArg V.int hs2.symm)) (ev_var rfl) ev_c (by show 1 < 3; decide) fun H4 e4 => ?_
        · refine ev_op (ev_cb (ea_cons (ev_op (ev_op (ev_op (ix0 (q := 1) rfl hg3 rfl) ev_c (rv_I (Or.inr (by decide)))) (ev_op (ev_op ev_c (ix0 (q := 2) rfl hg3 rfl) (rv_I (Or.inl (by decide)))) (ix0 (q := 2) rfl hg3 rfl) (rv_I (Or.inr (by omega)))) rv_I0) ev_c rv_I0) ea_nil) rc_int) ev_c (rv_I (by show (0 : Int) < 2147483563; decide))
        have hg4 : upd H4 g (.lst [.int d, .int s2, .int (c' + 1)]) g = some (.lst [.int d, .int s2, .int (c' + 1)]) := upd_same
        refine q_asg (v := .int ((s2 / 7 * (s2 / 131 + (c' + 1))) % 2147483399)) ?_ fun H5 e5 => ?_
        · refine ev_op (ev_cb (ea_cons (ev_op (ev_op (ix0 (q := 1) rfl hg4 rfl) ev_c (rv_I ⟨by decide, by decide⟩)) (ev_op (ev_op (ix0 (q := 1) rfl hg4 rfl) ev_c (rv_I ⟨by decide, by decide⟩)) (ix0 (q := 2) rfl hg4 rfl) rv_I0) (rv_I (Or.inl (by omega)))) ea_nil) rc_int) ev_c (rv_I (by show (0 : Int) < 2147483399; decide))
        refine q_asg (ev_op (ev_op (ev_var rfl) ev_c (rv_I (Or.inr (by decide)))) (ev_op (ev_cb (ea_cons (ev_op (ev_var rfl) ev_c (rv_I ⟨by decide, by decide⟩)) ea_nil) rc_int) ev_c (rv_I (by show (0 : Int) < 33554432; decide))) rv_I0) fun H6 e6 => ?_
        refine s_asg (ev_op (ev_var rfl) ev_c (rv_I (Or.inr (by decide)))) fun H7 e7 => ?_
        refine ⟨3 - (i + 1), by omega, i + 1, fd * 33554432 + s2 / 7 * (s2 / 131 + (c' + 1)) % 2147483399 / 64 % 33554432, o2, some (.int (s2 / 7 * (s2 / 131 + (c' + 1)) % 2147483399)), s2, c' + 1, rfl, by omega, ?_, ?_, e7 g _ (e6 g _ (e5 g _ hg4)), hs2a, by omega, by omega, by omega⟩
        · rw [Int.pow_succ] <;> rfl
        · have q1 : Ex (del H' g) (del H3 g) := ex_del (e2.trans e3)
          have q2 : Ex (del H3 g) (del H4 g) := by
            rw [← del_upd (H := H3) (l := g) (o := .lst (List.set [V.int d, V.int s', V.int c'] 2 (V.int (c' + 1))))]
            exact ex_del e4
          have q3 : Ex (del H4 g) (del H7 g) := by
            rw [← del_upd (H := H4) (l := g) (o := .lst [.int d, .int s2, .int (c' + 1)])]
            exact ex_del ((e5.trans e6).trans e7)
          exact ((ex.trans q1).trans q2).trans q3
      · refine s_ret (ev_op (ev_var rfl) (ev_var rfl) (rv_I (show 0 < m by omega))) fun H3 e3 => ?_
        exact k (fd % m) H3 (Int.emod_nonneg _ (by omega)) (Int.emod_lt_of_pos _ (by omega)) (ex.trans (ex_del (e2.trans e3))) ⟨d, s', c', e3 g _ (e2 g _ hg'), hd, b1, b2, b3, by omega⟩
end

/-- the bag of the j-th cell -/
def spBag (K : PySem.W.Frag) : Sp := fun vs H Q _ => ∃ (a : Addr) (ns : List Int) (j : Nat), vs = [.ref a, .int (j : Int)] ∧ SqL K H a (ns.map V.int) ∧ j ≤ 63 ∧
  ∀ p H2, H p = none → Ex H (del H2 p) → BagAt H2 p 100000000000 → Q (.ref p) H2
section
variable {P : Program} {w : World} {K : PySem.W.Frag} {mg : Str → Option Value} {base : Heap}
theorem rc_intb {H : Hp} {b : Bool} : RC (fun xs H Q => (∃ i, xs = [V.int i] ∧ Q (.int i) H) ∨ ∃ k, xs = [V.bl k] ∧ Q (.int (if k then 1 else 0)) H) [.bl b] H (.int (if b then 1 else 0)) := fun H1 e Q q => Or.inr ⟨b, rfl, q H1 (Ex.refl H1)⟩
theorem rc_abs {H : Hp} {i : Int} : RC (fun xs H Q => ∃ i, xs = [V.int i] ∧ Q (.int (if i < 0 then -i else i)) H) [.int i] H (.int (if i < 0 then -i else i)) := fun H1 e Q q => ⟨i, rfl, q H1 (Ex.refl H1)⟩
theorem scBa : FnScope ["_law_script", "_law_at", "_law_cell", "_law_digits"] ["_law_script", "_law_at"] (defScope sBag) := ⟨rfl, rfl, rfl, by decide +kernel, rfl, by decide +kernel, by decide +kernel⟩
theorem ok_bag {f : Addr} {fd : FuncData} (F : Fun K "_law_bag" "_law_bag" sBag f fd) (T : Txt K mg) (hA : mg "abs" = none) : FnOk P w K mg base CX0 1 f fd ["_law_script", "_law_at"] (spBag K) := by
  refine F.ok scBa (fun vs H Q E h => ?_) (fun cdv A outer s H vs Q E hr h => ?_)
  · obtain ⟨a, ns, j, rfl, _⟩ := h
    rfl
  · obtain ⟨a, ns, j, rfl, hs, hj, k⟩ := h
    refine ⟨_, pss_cons (ps_set (i := 2) scBa.nd rfl (Or.inl rfl) (pe_ifExp (pt_cmpR op_lt (pv 1) (pe_callB call_len_seq (by rfl) T.len PySem.boot_len (pa_cons (pv 0) pa_nil)) (nomark _)) (pe_ix ix_list (pv 0) (pv 1) (fun _ _ => rfl)) pe_int))
      (pss_cons (ps_set (i := 3) scBa.nd rfl (Or.inl rfl) (pe_op op_mul (pe_callB call_abs (by rfl) hA PyProof.Rows.boot_abs (pa_cons (pv 2) pa_nil))
        (pe_callTy call_int1 (by rfl) T.int PyProof.Rows.boot_int (pa_cons (pe_cmpR op_ge (pe_callB call_abs (by rfl) hA PyProof.Rows.boot_abs (pa_cons (pv 2) pa_nil)) (pe_op op_pow pe_int pe_int) (nomark _)) pa_nil))))
      (pss_one (ps_ret (pe_lst (pa_cons (pv 3) (pa_cons (pe_op op_add (pe_op op_add (pe_op op_mod (pe_callTy call_int1 (by rfl) T.int PyProof.Rows.boot_int (pa_cons (pv 2) pa_nil)) pe_int) (pe_op op_mul pe_int (pv 1))) pe_int)
        (pa_cons pe_int pa_nil))))))), ?_⟩
    obtain ⟨cell, hcell⟩ : ∃ cell : Int, cell = ns.getD j 0 := ⟨_, rfl⟩
    have evl : Ev (tCB (rLenS K) (tCons (tVar 0) tNil)) (start ["_law_script", "_law_at", "_law_cell", "_law_digits"] [V.ref a, V.int (j : Int)]) H (.int (ns.length : Int)) := by
      have z := ev_len (K := K) (σ := start ["_law_script", "_law_at", "_law_cell", "_law_digits"] [V.ref a, V.int (j : Int)]) (H := H) (ta := tVar 0) (ev_var rfl) hs
      rw [List.length_map] at z
      exact z
    refine q_asg (v := .int cell) (ev_if (b := decide ((j : Int) < (ns.length : Int))) (et_test (ev_op (ev_var rfl) evl rv_I0)) (fun hb => ?_) fun hb => ?_) fun H1 e1 => ?_
    · have hlt := of_decide_eq_true hb
      refine ev_op (ev_var rfl) (ev_var rfl) (rv_ixL hs (atI_nat ?_))
      rw [List.getElem?_map, hcell, List.getD_eq_getElem?_getD]
      have hlt2 : j < ns.length := by omega
      have e : ns[j]? = some ns[j] := by simp [hlt2]
      rw [e] <;> rfl
    · have hge := of_decide_eq_false hb
      have e : ns[j]? = none := by simp; omega
      have e0 : cell = 0 := by rw [hcell, List.getD_eq_getElem?_getD, e] <;> rfl
      rw [e0]
      exact ev_c
    obtain ⟨ab, hab⟩ : ∃ ab : Int, ab = if cell < 0 then -cell else cell := ⟨_, rfl⟩
    have ab0 : 0 ≤ ab := by rw [hab]; split <;> omega
    obtain ⟨bb, hbb⟩ : ∃ bb : Bool, bb = decide ((10 : Int) ^ (18 : Int).toNat ≤ ab) := ⟨_, rfl⟩
    refine q_asg (v := .int (ab * (if bb then 1 else 0))) ?_ fun H2 e2 => ?_
    · have ea : ∀ {H' : Hp}, Ev (tCB (fun xs H Q => ∃ i, xs = [V.int i] ∧ Q (.int (if i < 0 then -i else i)) H) (tCons (tVar 2) tNil)) ((start ["_law_script", "_law_at", "_law_cell", "_law_digits"] [V.ref a, V.int (j : Int)]).set 2 (some (.int cell))) H' (.int ab) := fun {H'} => by
        rw [hab]
        exact ev_cb (ea_cons (ev_var rfl) ea_nil) rc_abs
      refine ev_op ea (ev_cb (ea_cons (ev_is (ev_op ea (ev_op ev_c ev_c (rv_I ⟨by decide, by decide, by decide⟩)) rv_I0) (congrArg V.bl hbb.symm)) ea_nil) rc_intb) (rv_I (Or.inr ?_))
      cases bb <;> exact ⟨by decide, by decide⟩
    refine s_retL (el_lst (ea_cons (ev_var rfl) (ea_cons (ev_op (ev_op (ev_op (ev_cb (ea_cons (ev_var rfl) ea_nil) rc_int) ev_c (rv_I (by show (0 : Int) < 2147483563; decide))) (ev_op ev_c (ev_var rfl) (rv_I (Or.inl ⟨by decide, by decide⟩))) rv_I0) ev_c rv_I0) (ea_cons ev_c ea_nil))) (by show 3 ≤ 100000; decide)) fun p H3 hp e3 h3 => ?_
    have q1 := Int.emod_nonneg cell (b := 2147483563) (by decide)
    have q2 := Int.emod_lt_of_pos cell (b := 2147483563) (by decide)
    have hp0 : H p = none := fresh_back (e1.trans e2) hp
    refine k p H3 hp0 (ex_beside ((e1.trans e2).trans e3) hp0) ⟨_, _, _, h3, ?_, by omega, by omega, by omega, by omega⟩
    cases bb
    · show 0 ≤ ab * 0
      omega
    · show 0 ≤ ab * 1
      omega
end
theorem take_go {σ : L2.St} {H : Hp} {Q : VK} {E : XK} {g : Addr} {n : Nat} {m : Int} {tg tm : TE} (h1 : Ev tg σ H (.ref g)) (h2 : Ev tm σ H (.int m)) (b : BagAt H g (n + 1)) (m1 : 1 ≤ m) (m2 : m ≤ 100000000000000000000)
    (k : ∀ (r : Int) (H' : Hp), 0 ≤ r → r < m → Ex (del H g) (del H' g) → BagAt H' g n → Q (.int r) H') : tCall spTake [] E (tCons tg (tCons tm tNil)) σ H Q :=
  h1 H (Ex.refl H) _ fun H1 e1 => h2 H1 e1 _ fun H2 e2 => ⟨g, n, m, rfl, b.ex (e1.trans e2), m1, m2, fun r H' r0 r1 ex bg => k r H' r0 r1 ((ex_del (e1.trans e2)).trans ex) bg⟩
/-- a drawn item of a short list -/
theorem atI_mem {xs : List V} {r : Int} (h0 : 0 ≤ r) (h1 : r < (xs.length : Int)) : ∃ v, atI xs r = some v ∧ v ∈ xs := by
  obtain ⟨j, rfl⟩ : ∃ j : Nat, r = (j : Int) := ⟨r.toNat, by omega⟩
  have hj : j < xs.length := by omega
  have e : xs[j]? = some xs[j] := by simp [hj]
  exact ⟨xs[j], atI_nat e, List.getElem_mem hj⟩
theorem bag_ne {H : Hp} {g p : Addr} {n : Nat} (b : BagAt H g n) (h : H p = none) : p ≠ g := fun z => by
  obtain ⟨d, s, c, hg, _⟩ := b
  rw [z, hg] at h
  cases h
theorem del_at {H H' : Hp} {g p : Addr} {o : HO} (e : Ex (del H g) (del H' g)) (h : H p = some o) (n : p ≠ g) : H' p = some o := by
  have z : (del H g) p = some o := by rw [del_ne n]; exact h
  have z2 := e p o z
  rw [del_ne n] at z2
  exact z2
theorem del_fresh {H H' : Hp} {g p : Addr} (e : Ex (del H g) (del H' g)) (h : H' p = none) (n : p ≠ g) : H p = none := by
  cases q : H p with
  | none => rfl
  | some o =>
    rw [del_at e q n] at h
    cases h
end Lw

namespace Lw
open PySem PySem.Spec PyProof.Rows L2 Evl L3 ClX
abbrev sIniB : Stmt := inClass (top 13) 0
abbrev sCkS : Stmt := top 23
abbrev sPI : Stmt := inClass (top 21) 1
abbrev sPEq : Stmt := inClass (top 21) 2
def polF (h : Str) (e q : Int) : List (Str × V) := [("hold", .str h), ("every", .int e), ("quick", .int q)]
def polG (y0 y1 y2 : V) : List (Str × V) := [("hold", y0), ("every", y1), ("quick", y2)]
def PolAt (CP : Addr) (H : Hp) (a : Addr) (h : Str) (e q : Int) : Prop := ∃ dx, H a = some (.ins CP dx (polF h e q))
theorem PolAt.ex {CP a : Addr} {H H1 : Hp} {h : Str} {e q : Int} (p : PolAt CP H a h e q) (ex : Ex H H1) : PolAt CP H1 a h e q := by
  obtain ⟨dx, hd⟩ := p
  exact ⟨dx, ex _ _ hd⟩
/-- what is read of the class Policy -/
structure Pol (K : PySem.W.Frag) (mg : Str → Option Value) (CP : Addr) : Prop where
  hm : mg "Policy" = some (.ref CP)
  k : Kls K CP
  nh : NoAttr K CP "hold"
  ne : NoAttr K CP "every"
  nq : NoAttr K CP "quick"
  hold : ∃ mc a, CRead K CP mc ∧ CVal K CP mc "HOLDS" (.ref a) (.ref a) ∧ ∀ H, SqT K H a ([("off" : Str), "partial", "all"].map V.str)
section
variable {P : Program} {w : World} {K : PySem.W.Frag} {mg : Str → Option Value} {base : Heap}
theorem scIniB : FnScope ["self", "name"] ["self", "name"] (defScope sIniB) := ⟨rfl, rfl, rfl, by decide +kernel, rfl, by decide +kernel, by decide +kernel⟩
theorem ok_iniB {f C : Addr} {fd : FuncData} (F : Fun K "__init__" "BadSetting.__init__" sIniB f fd) : FnOk P w K mg base CX0 1 f fd ["self", "name"] (spErr K C "name") := by
  refine F.ok scIniB (fun vs H Q E h => ?_) (fun cdv A outer s H vs Q E hr h => ⟨_, pss_one (ps_ost (pv 0) (pv 1)), ?_⟩)
  · obtain ⟨a, v, rfl, _⟩ := h
    rfl
  · exact s_ini h (by obtain ⟨a, v, rfl, _⟩ := h; rfl)
/-! ### check_size, of any value -/
def sizeOk (d : PyData) : Bool := betwD d 1 1000000000000000000
def spCkS (K : PySem.W.Frag) (CB : Addr) : Sp := fun vs H Q E => ∃ (y : V) (d : PyData), vs = [y] ∧ Dp K H y d ∧ (sizeOk d = true → RetV .non H Q) ∧ (sizeOk d = false → ErrV CB "name" (.str "size") H E)
theorem scCk : FnScope ["size"] ["size"] (defScope sCkS) := ⟨rfl, rfl, rfl, by decide +kernel, rfl, by decide +kernel, by decide +kernel⟩
theorem ok_ckS {f fB CB fI : Addr} {fd fdB fdI : FuncData} (F : Fun K "check_size" "check_size" sCkS f fd) (T : Txt K mg) (hS : ∃ t, mg "MOST_SIZE" = some (.int 1000000000000000000 t)) (TB : ErC P w K mg base "BadSetting" "name" CB fI fdI)
    (FB : Fun K "between" "between" sBetw fB fdB) (bB : Binds K fdB ["value", "low", "high"] []) (gB : mg "between" = some (.ref fB)) (GB : FnOk P w K mg base CX0 1 fB fdB ["value", "low", "high"] (spBetw K)) :
    FnOk P w K mg base (L2.CX P w) 3 f fd ["size"] (spCkS K CB) := by
  obtain ⟨tS, hS⟩ := hS
  refine F.okX scCk (fun vs H Q E h => ?_) (fun cdv A outer s H vs Q E hr h => ?_)
  · obtain ⟨y, d, rfl, _⟩ := h
    rfl
  · obtain ⟨y, d, rfl, hd, k, ke⟩ := h
    have hr1 : Room 1 _ := hr.mono (by decide)
    refine ⟨_, pss_one (ps_if (pt_not (pt_val (pe_call GB hr1 rfl gB FB.kp bB .nil pass0 (pa_cons (pv 0) (pa_cons pe_int (pa_cons (pe_glob (v := .int 1000000000000000000) rfl hS ⟨_, rfl⟩) pa_nil))))))
      (pss_one (ps_rz rfl TB hr (takes_of rfl rfl rfl rfl) (by exact pa_cons pe_str pa_nil))) pss_nil), ?_⟩
    refine s_when (b := !sizeOk d) (et_not (et_B (ev_call (ea_cons (ev_var rfl) (ea_cons ev_c (ea_cons ev_c ea_nil))) (sp_betw hd)))) (fun hb H1 e1 => ?_) fun hb H1 e1 => ?_
    · exact s_rz ev_c TB.oex TB.no ((ke (by simpa using hb)).go e1)
    · exact k (by simpa using hb) H1 e1
/-! ### Policy(..), of any values -/
def holdD (d : PyData) : Bool := [("off" : Str), "partial", "all"].any fun s => PyData.eqv (.str s) d
def dueP (d0 d1 d2 : PyData) : Option Str := if holdD d0 = true then (if betwD d1 0 9 = true then (if betwD d2 0 4 = true then none else some "quick") else some "every") else some "hold"
abbrev PIps : List Str := ["self", "hold", "every", "quick"]
def spPI (K : PySem.W.Frag) (CP CB : Addr) : Sp := fun vs H Q E => ∃ (x dx : Addr) (y0 y1 y2 : V) (d0 d1 d2 : PyData), vs = [.ref x, y0, y1, y2] ∧ H x = some (.ins CP dx []) ∧ Dp K H y0 d0 ∧ Dp K H y1 d1 ∧ Dp K H y2 d2 ∧ SeqAt.shaped d0 = true ∧
  (dueP d0 d1 d2 = none → ∀ H', Ex (del H x) (del H' x) → H' x = some (.ins CP dx (polG y0 y1 y2)) → Q .non H') ∧ ∀ nm, dueP d0 d1 d2 = some nm → ErrV CB "name" (.str nm) H E
theorem scPI : FnScope PIps PIps (defScope sPI) := ⟨rfl, rfl, rfl, by decide +kernel, rfl, by decide +kernel, by decide +kernel⟩
theorem rv_niD {x : V} {d : PyData} {t : Addr} {ss : List Str} {H : Hp} (hd : Dp K H x d) (sd : SeqAt.shaped d = true) (ht : SqT K H t (ss.map V.str)) (hc : ∀ s ∈ ss, (PyData.str s).canLay0 = true) : RV (rNiD K) x (.ref t) H (.bl (!(ss.any fun s => PyData.eqv (.str s) d))) := fun H1 e Q q =>
  ⟨d, t, ss, rfl, dp_ex e hd, sd, ex_t e ht, hc, q H1 (Ex.refl H1)⟩
theorem ok_PI {f fB CB CP fI : Addr} {fd fdB fdI : FuncData} (F : FunD K "__init__" "Policy.__init__" (defArgs sPI) (defBody sPI) (defScope sPI) [.str "all"] [("every", .int 2), ("quick", .int 0)] f fd) (T : Pol K mg CP)
    (hE : ∃ t, mg "MOST_EVERY" = some (.int 9 t)) (hQ : ∃ t, mg "MOST_QUICK" = some (.int 4 t)) (TB : ErC P w K mg base "BadSetting" "name" CB fI fdI)
    (FB : Fun K "between" "between" sBetw fB fdB) (bB : Binds K fdB ["value", "low", "high"] []) (gB : mg "between" = some (.ref fB)) (GB : FnOk P w K mg base CX0 1 fB fdB ["value", "low", "high"] (spBetw K)) :
    FnOk P w K mg base (L2.CX P w) 3 f fd PIps (spPI K CP CB) := by
  obtain ⟨tE, hE⟩ := hE
  obtain ⟨tQ, hQ⟩ := hQ
  obtain ⟨mc, aH, rd, cv, sH⟩ := T.hold
  refine F.ok scPI (fun vs H Q E h => ?_) (fun cdv A outer s H vs Q E hr h => ?_)
  · obtain ⟨x, dx, y0, y1, y2, d0, d1, d2, rfl, _⟩ := h
    rfl
  · obtain ⟨x, dx, y0, y1, y2, d0, d1, d2, rfl, hx, h0, h1, h2, sd, k, ke⟩ := h
    have hr1 : Room 1 _ := hr.mono (by decide)
    refine ⟨_, pss_cons (ps_if (pt_cmpR (op_notInD hr.units) (pv 1) (pe_cval (pe_glob (v := .ref CP) rfl T.hm rfl)) rfl) (pss_one (ps_rz rfl TB hr (takes_of rfl rfl rfl rfl) (by exact pa_cons pe_str pa_nil))) pss_nil)
      (pss_cons (ps_if (pt_not (pt_val (pe_call GB hr1 rfl gB FB.kp bB .nil pass0 (pa_cons (pv 2) (pa_cons pe_int (pa_cons (pe_glob (v := .int 9) rfl hE ⟨_, rfl⟩) pa_nil)))))) (pss_one (ps_rz rfl TB hr (takes_of rfl rfl rfl rfl) (by exact pa_cons pe_str pa_nil))) pss_nil)
      (pss_cons (ps_if (pt_not (pt_val (pe_call GB hr1 rfl gB FB.kp bB .nil pass0 (pa_cons (pv 3) (pa_cons pe_int (pa_cons (pe_glob (v := .int 4) rfl hQ ⟨_, rfl⟩) pa_nil)))))) (pss_one (ps_rz rfl TB hr (takes_of rfl rfl rfl rfl) (by exact pa_cons pe_str pa_nil))) pss_nil)
      (pss_cons (ps_fld (pv 0) (pv 1) rfl) (pss_cons (ps_fld (pv 0) (pv 2) rfl) (pss_one (ps_fld (pv 0) (pv 3) rfl)))))), ?_⟩
    refine q_when (b := !holdD d0) (et_test (ev_op (ev_var rfl) (ev_cval ev_c rd cv) (rv_niD h0 sd (sH _) (by decide +kernel)))) (fun hb H1 e1 => ?_) fun hb H1 e1 => ?_
    · refine s_rz ev_c TB.oex TB.no ((ke "hold" ?_).go e1)
      have z : holdD d0 = false := by simpa using hb
      unfold dueP
      rw [if_neg (by rw [z]; simp)]
    have z0 : holdD d0 = true := by simpa using hb
    refine q_when (b := !betwD d1 0 9) (et_not (et_B (ev_call (ea_cons (ev_var rfl) (ea_cons ev_c (ea_cons ev_c ea_nil))) (sp_betw (dp_ex e1 h1))))) (fun hb2 H2 e2 => ?_) fun hb2 H2 e2 => ?_
    · refine s_rz ev_c TB.oex TB.no ((ke "every" ?_).go (e1.trans e2))
      have z : betwD d1 0 9 = false := by simpa using hb2
      unfold dueP
      rw [if_pos z0, if_neg (by rw [z]; simp)]
    have z1 : betwD d1 0 9 = true := by simpa using hb2
    refine q_when (b := !betwD d2 0 4) (et_not (et_B (ev_call (ea_cons (ev_var rfl) (ea_cons ev_c (ea_cons ev_c ea_nil))) (sp_betw (dp_ex (e1.trans e2) h2))))) (fun hb3 H3 e3 => ?_) fun hb3 H3 e3 => ?_
    · refine s_rz ev_c TB.oex TB.no ((ke "quick" ?_).go ((e1.trans e2).trans e3))
      have z : betwD d2 0 4 = false := by simpa using hb3
      unfold dueP
      rw [if_pos z0, if_pos z1, if_neg (by rw [z]; simp)]
    have z2 : betwD d2 0 4 = true := by simpa using hb3
    have ex := (e1.trans e2).trans e3
    refine ⟨_, rfl, _, rfl, x, CP, dx, _, rfl, ex _ _ hx, T.k.cl, T.nh, by decide, ?_⟩
    refine ⟨_, rfl, _, rfl, x, CP, dx, _, rfl, upd_same, T.k.cl, T.ne, Nat.lt_of_le_of_lt (putF_len _ _ _) (by decide), ?_⟩
    refine ⟨_, rfl, _, rfl, x, CP, dx, _, rfl, upd_same, T.k.cl, T.nq, Nat.lt_of_le_of_lt (Nat.le_trans (putF_len _ _ _) (Nat.succ_le_succ (putF_len _ _ _))) (by decide), ?_⟩
    refine k ?_ _ ?_ upd_same
    · unfold dueP
      rw [if_pos z0, if_pos z1, if_pos z2]
    · rw [del_upd, del_upd, del_upd]
      exact ex_del ex
/-- == of a policy and of anything -/
def polC (h : Str) (e q : Int) (h2 : Str) (e2 q2 : Int) : Bool := decide (h = h2) && (decide (e = e2) && decide (q = q2))
def spPEq (K : PySem.W.Frag) (CP : Addr) : Sp := fun vs H Q _ => ∃ (a : Addr) (y : V) (h : Str) (e q : Int) (c : Bool), vs = [.ref a, y] ∧ PolAt CP H a h e q ∧
  ((∃ b h2 e2 q2, y = .ref b ∧ PolAt CP H b h2 e2 q2 ∧ c = polC h e q h2 e2 q2) ∨ (c = false ∧ ∃ tb, (∀ H1, Ex H H1 → TyX K H1 y tb) ∧ PySem.W.kitOne K tb (.ref CP) = some false)) ∧ RetV (.bl c) H Q
theorem scPEq : FnScope ["self", "other"] ["self", "other"] (defScope sPEq) := ⟨rfl, rfl, rfl, by decide +kernel, rfl, by decide +kernel, by decide +kernel⟩
theorem kit_self {K : PySem.W.Frag} {C : Addr} : PySem.W.kitOne K (.ref C) (.ref C) = some true := by
  unfold PySem.W.kitOne
  rw [if_pos (by simp)]
theorem ok_PEq {f CP : Addr} {fd : FuncData} (F : Fun K "__eq__" "Policy.__eq__" sPEq f fd) (T : Txt K mg) (TP : Pol K mg CP) : FnOk P w K mg base CX0 1 f fd ["self", "other"] (spPEq K CP) := by
  refine F.ok scPEq (fun vs H Q E h => ?_) (fun cdv A outer s H vs Q E hr h => ?_)
  · obtain ⟨a, y, h, e, q, c, rfl, _⟩ := h
    rfl
  · obtain ⟨a, y, h, e, q, c, rfl, ⟨dx, ha⟩, hc, k⟩ := h
    refine ⟨_, pss_one (ps_ret (pe_and (pe_callB call_isi (by rfl) T.isi boot_isinstance (pa_cons (pv 1) (pa_cons (pe_glob (v := .ref CP) rfl TP.hm rfl) pa_nil)))
      (pe_and (pe_cmpR op_eq (pe_fld (pv 0) rfl) (pe_fld (pv 1) rfl) (nomark _)) (pe_and (pe_cmpR op_eq (pe_fld (pv 0) rfl) (pe_fld (pv 1) rfl) (nomark _)) (pe_one (pe_cmpR op_eq (pe_fld (pv 0) rfl) (pe_fld (pv 1) rfl) (nomark _))))))), ?_⟩
    rcases hc with ⟨b, h2, e2, q2, rfl, ⟨dy, hb⟩, rfl⟩ | ⟨rfl, tb, hty, hk⟩
    · refine s_ret (v := .bl (polC h e q h2 e2 q2)) (ev_is (ev_andV (a := true) (b := polC h e q h2 e2 q2) (ev_isC (ev_var rfl) (fun H1 e => TP.k.ty (e _ _ hb)) kit_self) fun _ => ?_) (congrArg V.bl (Bool.true_and _))) k
      refine ev_andV (ev_is (ev_op (ev_fld (ev_var rfl) ha TP.k.cl TP.nh rfl) (ev_fld (ev_var rfl) hb TP.k.cl TP.nh rfl) (rv_eq rfl)) (congrArg V.bl (decide_eq_decide.mpr ⟨fun z => by injection z, fun z => by rw [z]⟩))) fun _ => ?_
      refine ev_andV (ev_is (ev_op (ev_fld (ev_var rfl) ha TP.k.cl TP.ne rfl) (ev_fld (ev_var rfl) hb TP.k.cl TP.ne rfl) (rv_eq rfl)) (congrArg V.bl (decide_eq_decide.mpr ⟨fun z => by injection z, fun z => by rw [z]⟩))) fun _ => ?_
      exact ev_is (ev_op (ev_fld (ev_var rfl) ha TP.k.cl TP.nq rfl) (ev_fld (ev_var rfl) hb TP.k.cl TP.nq rfl) (rv_eq rfl)) (congrArg V.bl (decide_eq_decide.mpr ⟨fun z => by injection z, fun z => by rw [z]⟩))
    · exact s_ret (v := .bl false) (ev_andV (a := false) (b := false) (ev_isC (ev_var rfl) hty hk) fun z => nomatch z) k
theorem bP0 {f : Addr} {fd : FuncData} (F : FunD K "__init__" "Policy.__init__" (defArgs sPI) (defBody sPI) (defScope sPI) [.str "all"] [("every", .int 2), ("quick", .int 0)] f fd) : ∃ ds, Vals [.str "all", .int 2, .int 0] ds ∧ Binds K fd PIps ds := by
  refine F.binds (ps := PIps) 1 0 (by simp) rfl (fun T D doc pm an cdv ct us its ks h1 h2 h3 => ?_) (by simp)
  match us, its, ks, h1, h2, h3 with
  | [a], [b], [c, d], _, _, _ => exact ⟨_, rfl, _, _, _, _, _, _, rfl, rfl, _, _, _, _, _, _, rfl, rfl, rfl⟩
theorem bP3 {f : Addr} {fd : FuncData} (F : FunD K "__init__" "Policy.__init__" (defArgs sPI) (defBody sPI) (defScope sPI) [.str "all"] [("every", .int 2), ("quick", .int 0)] f fd) : ∃ g, KBn K fd PIps 2 ["every", "quick"] g (fun vs zs => vs ++ zs) := by
  obtain ⟨its, mv, h⟩ := F.kbinds (ps := PIps) 2 ["every", "quick"] [] (fun us _ _ ws => us ++ ws) (by simp) (by simp) (fun q hq => nomatch hq) (fun a _ _ b => a.append b) (fun T D doc pm an cdv ct us its mv ws h1 h2 h3 h4 => by
    match us, its, mv, ws, h1, h2, h3, h4 with
    | [a, b], [c], [], [d, e], _, _, _, _ => exact ⟨_, rfl, rfl⟩)
  exact ⟨_, h⟩
theorem bPq {f : Addr} {fd : FuncData} (F : FunD K "__init__" "Policy.__init__" (defArgs sPI) (defBody sPI) (defScope sPI) [.str "all"] [("every", .int 2), ("quick", .int 0)] f fd) : ∃ g, KBn K fd PIps 1 ["quick"] g (fun vs zs => vs ++ ([.str "all"] ++ ([.int 2] ++ zs))) := by
  obtain ⟨its, mv, h⟩ := F.kbinds (ps := PIps) 1 ["quick"] [("every", .int 2)] (fun us ds mz ws => us ++ (ds ++ (mz ++ ws))) (by simp) (by simp) (fun q hq => by simp at hq; simp [hq]) (fun a b c d => a.append (b.append (c.append d))) (fun T D doc pm an cdv ct us its mv ws h1 h2 h3 h4 => by
    match us, its, mv, ws, h1, h2, h3, h4 with
    | [a], [c], [m], [d], _, _, _, _ => exact ⟨_, rfl, _, _, _, _, _, _, rfl, rfl, rfl⟩)
  exact ⟨_, h⟩
theorem bPeh {f : Addr} {fd : FuncData} (F : FunD K "__init__" "Policy.__init__" (defArgs sPI) (defBody sPI) (defScope sPI) [.str "all"] [("every", .int 2), ("quick", .int 0)] f fd) : ∃ g, KBn K fd PIps 1 ["every", "hold"] g (fun vs zs => vs ++ (zs.reverse ++ [.int 0])) := by
  obtain ⟨its, mv, h⟩ := F.kbinds (ps := PIps) 1 ["every", "hold"] [("quick", .int 0)] (fun us ds mz ws => us ++ (ws.reverse ++ mz)) (by simp) (by simp) (fun q hq => by simp at hq; simp [hq]) (fun a _ c d => a.append (d.reverse.append c)) (fun T D doc pm an cdv ct us its mv ws h1 h2 h3 h4 => by
    match us, its, mv, ws, h1, h2, h3, h4 with
    | [a], [c], [m], [d, e], _, _, _, _ => exact ⟨_, rfl, _, _, _, _, _, _, rfl, rfl, rfl⟩)
  exact ⟨_, h⟩
end
end Lw

namespace L3
open PySem PySem.Spec PyProof.Rows L2 Evl ClX
section
variable {P : Program} {w : World} {K : PySem.W.Frag} {mg : Str → Option Value} {base : Heap}
/-- a def's promise, in other words -/
theorem fn_imp {CX : CXT} {k : Nat} {f : Addr} {fd : FuncData} {ps : List Str} {sp sp' : Sp} (F : FnOk P w K mg base CX k f fd ps sp) (h : ∀ vs H Q E, sp' vs H Q E → sp vs H Q E) : FnOk P w K mg base CX k f fd ps sp' :=
  ⟨fun vs H Q E z => F.len _ _ _ _ (h _ _ _ _ z), fun A outer s H args us vs Q E hr e0 b r z => F.run A outer s H args us vs Q E hr e0 b r (h _ _ _ _ z)⟩
variable {σ : L2.St} {H : Hp} {te : TE} {C a dx : Addr} {fs : List (Str × V)} {sp : Sp} {y : Str}
theorem ev_fmtO (h : Ev te σ H (.ref a)) (hi : H a = some (.ins C dx fs)) (hs : ∀ H1, Ex H H1 → ∀ Q : VK, (∀ H2, Ex H1 H2 → Q (.str y) H2) → sp [.ref a] H1 Q E0) : Ev (tFmtO C sp te) σ H (.str y) := fun H1 e Q q =>
  h H1 e _ fun H2 e2 => ⟨a, dx, fs, rfl, (e.trans e2) _ _ hi, hs H2 (e.trans e2) _ fun H3 e3 => ⟨⟨y, rfl⟩, q H3 (e2.trans e3)⟩⟩
end
end L3
namespace Lw
open PySem PySem.Spec PyProof.Rows L2 Evl L3 ClX
abbrev sPStr : Stmt := inClass (top 21) 3
/-- a policy's words -/
def okH (h : Str) : Prop := h = "off" ∨ h = "partial" ∨ h = "all"
structure okP (h : Str) (e q : Int) : Prop where
  h : okH h
  e0 : 0 ≤ e
  e1 : e ≤ 9
  q0 : 0 ≤ q
  q1 : q ≤ 4
section
variable {P : Program} {w : World} {K : PySem.W.Frag} {mg : Str → Option Value} {base : Heap}
def spCkSv : Sp := fun vs H Q _ => ∃ n : Int, vs = [.int n] ∧ 1 ≤ n ∧ n ≤ 1000000000000000000 ∧ RetV .non H Q
def spPIv (CP : Addr) : Sp := fun vs H Q _ => ∃ (x dx : Addr) (h : Str) (e q : Int), vs = [.ref x, .str h, .int e, .int q] ∧ H x = some (.ins CP dx []) ∧ okP h e q ∧
  ∀ H', Ex (del H x) (del H' x) → H' x = some (.ins CP dx (polF h e q)) → Q .non H'
theorem sz_ok {n : Int} (h1 : 1 ≤ n) (h2 : n ≤ 1000000000000000000) : sizeOk (.int n) = true := by
  show (decide (1 ≤ n) && decide (n ≤ 1000000000000000000)) = true
  rw [decide_eq_true h1, decide_eq_true h2] <;> rfl
theorem hold_ok {h : Str} (ho : okH h) : holdD (.str h) = true := by
  rcases ho with rfl | rfl | rfl <;> decide +kernel
theorem due_ok {h : Str} {e q : Int} (ok : okP h e q) : dueP (.str h) (.int e) (.int q) = none := by
  have b1 : betwD (.int e) 0 9 = true := by
    show (decide (0 ≤ e) && decide (e ≤ 9)) = true
    rw [decide_eq_true ok.e0, decide_eq_true ok.e1] <;> rfl
  have b2 : betwD (.int q) 0 4 = true := by
    show (decide (0 ≤ q) && decide (q ≤ 4)) = true
    rw [decide_eq_true ok.q0, decide_eq_true ok.q1] <;> rfl
  unfold dueP
  rw [if_pos (hold_ok ok.h), if_pos b1, if_pos b2]
theorem hold_shape {h : Str} (ho : okH h) : SeqAt.shaped (.str h) = true := by
  rcases ho with rfl | rfl | rfl <;> decide +kernel
theorem ck_v {CB : Addr} : ∀ vs H Q E, spCkSv vs H Q E → spCkS K CB vs H Q E := fun vs H Q E ⟨n, ev, h1, h2, k⟩ =>
  ⟨.int n, .int n, ev, .int n, fun _ => k, fun z => by rw [sz_ok h1 h2] at z; cases z⟩
theorem pi_v {CP CB : Addr} : ∀ vs H Q E, spPIv CP vs H Q E → spPI K CP CB vs H Q E := fun vs H Q E ⟨x, dx, h, e, q, ev, hx, ok, k⟩ =>
  ⟨x, dx, .str h, .int e, .int q, .str h, .int e, .int q, ev, hx, .str h, .int e, .int q, hold_shape ok.h, fun _ H' ex hh => k H' ex hh, fun nm z => by rw [due_ok ok] at z; cases z⟩
/-- the text of a policy, its writing -/
def polT (h : Str) (e q : Int) : Str := ((((Str.empty ++ h) ++ " ") ++ toString e) ++ " ") ++ toString q
def polR (h : Str) (e q : Int) : Str := ((((((Str.empty ++ "Policy(") ++ reprText h) ++ ", every=") ++ toString e) ++ ", quick=") ++ toString q) ++ ")"
theorem len_h {h : Str} (ho : okH h) : h.length ≤ 7 ∧ (reprText h).length ≤ 9 := by
  rcases ho with rfl | rfl | rfl <;> decide +kernel
def spPStr (CP : Addr) (t : Str → Int → Int → Str) : Sp := fun vs H Q _ => ∃ (a : Addr) (h : Str) (e q : Int), vs = [.ref a] ∧ PolAt CP H a h e q ∧ okP h e q ∧ RetV (.str (t h e q)) H Q
theorem scPStr : FnScope ["self"] ["self"] (defScope sPStr) := ⟨rfl, rfl, rfl, by decide +kernel, rfl, by decide +kernel, by decide +kernel⟩
theorem polT_len {h : Str} {e q : Int} (ok : okP h e q) : (polT h e q).length ≤ 200 ∧ (polR h e q).length ≤ 200 := by
  have a1 := len_h ok.h
  have a2 := sl_int (i := e) (by have := ok.e0; have := ok.e1; omega)
  have a3 := sl_int (i := q) (by have := ok.q0; have := ok.q1; omega)
  have c1 : (" " : Str).length = 1 := by decide +kernel
  have c2 : ("Policy(" : Str).length = 7 := by decide +kernel
  have c3 : (", every=" : Str).length = 8 := by decide +kernel
  have c4 : (", quick=" : Str).length = 8 := by decide +kernel
  have c5 : (")" : Str).length = 1 := by decide +kernel
  have c0 : Str.empty.length = 0 := rfl
  unfold polT polR
  simp only [sl_app, c0, c1, c2, c3, c4, c5]
  omega
theorem ok_PStr {f CP : Addr} {fd : FuncData} (F : Fun K "__str__" "Policy.__str__" sPStr f fd) (TP : Pol K mg CP) : FnOk P w K mg base CX0 1 f fd ["self"] (spPStr CP polT) := by
  refine F.ok scPStr (fun vs H Q E h => ?_) (fun cdv A outer s H vs Q E hr h => ?_)
  · obtain ⟨a, h, e, q, rfl, _⟩ := h
    rfl
  · obtain ⟨a, h, e, q, rfl, ⟨dx, ha⟩, ok, k⟩ := h
    have ln := (polT_len ok).1
    unfold polT at ln
    simp only [sl_app] at ln
    refine ⟨_, pss_one (ps_ret (pe_joined (.cons (pe_fmt (pe_fld (pv 0) rfl)) (.cons pe_str (.cons (pe_fmt (pe_fld (pv 0) rfl)) (.cons pe_str (.cons (pe_fmt (pe_fld (pv 0) rfl)) .nil))))))), ?_⟩
    have le := log_small (i := e) (by have := ok.e0; have := ok.e1; omega)
    have lq := log_small (i := q) (by have := ok.q0; have := ok.q1; omega)
    have l1 := (len_h ok.h).1
    refine js_cons (ev_fmtS (ev_fld (ev_var rfl) ha TP.k.cl TP.nh rfl) (by omega)) (by simp only [sl_app]; omega) fun H1 e1 => ?_
    refine js_cons ev_c (by simp only [sl_app]; omega) fun H2 e2 => ?_
    refine js_cons (ev_fmtI (ev_fld (ev_var rfl) ((e1.trans e2) _ _ ha) TP.k.cl TP.ne rfl) (by omega)) (by simp only [sl_app]; omega) fun H3 e3 => ?_
    refine js_cons ev_c (by simp only [sl_app]; omega) fun H4 e4 => ?_
    have ex := ((e1.trans e2).trans e3).trans e4
    refine js_cons (ev_fmtI (ev_fld (ev_var rfl) (ex _ _ ha) TP.k.cl TP.nq rfl) (by omega)) (by simp only [sl_app]; omega) fun H5 e5 => ?_
    exact k H5 (ex.trans e5)
end
section
variable {P : Program} {w : World} {K : PySem.W.Frag} {mg : Str → Option Value} {base : Heap}
/-! ### policy_pair -/
abbrev sPair : Stmt := top 24
def pairOf (CP : Addr) (H : Hp) (ps : List Addr) (p q : Addr) : Prop := match ps with
  | [] => PolAt CP H p "all" 2 0 ∧ PolAt CP H q "all" 2 0
  | [a] => p = a ∧ q = a
  | [a, b] => p = a ∧ q = b
  | _ => False
def spPair (K : PySem.W.Frag) (CP : Addr) : Sp := fun vs H Q _ => ∃ (t : Addr) (ps : List Addr), vs = [.ref t] ∧ SqT K H t (ps.map V.ref) ∧ ps.length ≤ 2 ∧ ∀ r p q H', Ex H H' → SqT K H' r [.ref p, .ref q] → pairOf CP H' ps p q → Q (.ref r) H'
theorem scPair : FnScope ["policies"] ["policies"] (defScope sPair) := ⟨rfl, rfl, rfl, by decide +kernel, rfl, by decide +kernel, by decide +kernel⟩
theorem okP_plain : okP "all" 2 0 := ⟨Or.inr (Or.inr rfl), by decide, by decide, by decide, by decide⟩
/-- a new policy -/
theorem made_pol {CP x dx : Addr} {H H' : Hp} {fs : List (Str × V)} (hx : H x = none) (hd : H dx = none) (n : dx ≠ x) (e : Ex (del (upd (upd H dx (.own x)) x (.ins CP dx fs)) x) (del H' x)) : Ex H H' := fun b o h => by
  have nb : b ≠ x := ne_of_none h hx
  have nd : b ≠ dx := ne_of_none h hd
  have z := e b o (by rw [del_ne nb, upd_ne nb, upd_ne nd]; exact h)
  rw [del_ne nb] at z
  exact z
theorem pol_go {CP : Addr} {σ : L2.St} {H : Hp} {Q : VK} (k : ∀ x H', H x = none → Ex H H' → PolAt CP H' x "all" 2 0 → Q (.ref x) H') : tMake CP (spPIv CP) [.str "all", .int 2, .int 0] E0 tNil σ H Q := fun x dx hx hd n =>
  ⟨x, dx, "all", 2, 0, rfl, upd_same, okP_plain, fun H' e h' => ⟨rfl, k x H' hx (made_pol hx hd n e) ⟨dx, h'⟩⟩⟩
theorem ok_pair {f fI CP : Addr} {fd fdI : FuncData} (F : Fun K "policy_pair" "policy_pair" sPair f fd) (T : Txt K mg) (TP : Pol K mg CP) (M : Mk K CP fI) (FI : FunD K "__init__" "Policy.__init__" (defArgs sPI) (defBody sPI) (defScope sPI) [.str "all"] [("every", .int 2), ("quick", .int 0)] fI fdI)
    (GI : FnOk P w K mg base (L2.CX P w) 3 fI fdI PIps (spPIv CP)) : FnOk P w K mg base CX0 5 f fd ["policies"] (spPair K CP) := by
  obtain ⟨ds, hd, bI⟩ := bP0 FI
  refine F.ok scPair (fun vs H Q E h => ?_) (fun cdv A outer s H vs Q E hr h => ?_)
  · obtain ⟨t, ps, rfl, _⟩ := h
    rfl
  · obtain ⟨t, ps, rfl, ht, hl, k⟩ := h
    refine ⟨_, pss_cons (ps_if (pt_cmpR op_eq (pe_callB call_len_seq (by rfl) T.len PySem.boot_len (pa_cons (pv 0) pa_nil)) pe_int (nomark _))
        (pss_one (ps_ret (pe_tup (pa_cons (pe_make0 M GI hr rfl TP.hm bI hd passE) (pa_cons (pe_make0 M GI hr rfl TP.hm bI hd passE) pa_nil))))) pss_nil)
      (pss_cons (ps_if (pt_cmpR op_eq (pe_callB call_len_seq (by rfl) T.len PySem.boot_len (pa_cons (pv 0) pa_nil)) pe_int (nomark _))
        (pss_one (ps_ret (pe_tup (pa_cons (pe_ix ix_tup (pv 0) pe_int (fun _ _ => rfl)) (pa_cons (pe_ix ix_tup (pv 0) pe_int (fun _ _ => rfl)) pa_nil))))) pss_nil)
      (pss_one (ps_ret (pv 0)))), ?_⟩
    have evl : ∀ {H1 : Hp} {n : Int}, Ex H H1 → EvT (tTest (tOp rEq (tCB (rLenS K) (tCons (tVar 0) tNil)) (tC (.int n)))) (start ["policies"] [V.ref t]) H1 (decide ((ps.length : Int) = n)) := fun {H1 n} e =>
      et_is (et_test (ev_op (ev_cb (ea_cons (ev_var rfl) ea_nil) (fun H2 e2 Q q => ⟨t, _, rfl, Or.inr (ex_t (e.trans e2) ht), q H2 (Ex.refl H2)⟩)) ev_c (rv_eq rfl))) (decide_eq_decide.mpr ⟨fun z => by injection z with z; rw [List.length_map] at z; exact z, fun z => by rw [← z, List.length_map]⟩)
    match ps, ht, hl, k, @evl with
    | [], ht, _, k, evl =>
      refine q_when (b := true) (evl (Ex.refl H)) (fun _ H1 e1 => ?_) (fun hb => nomatch hb)
      unfold tRet tTup tCons
      refine pol_go fun p H2 hp e2 p2 => ?_
      refine pol_go fun q H3 hq e3 q3 => ?_
      refine ⟨by show 2 ≤ sizeLine; decide, fun u hu => ?_⟩
      have en := Ex.new (o := .tup [.ref p, .ref q]) hu
      exact k u p q _ (((e1.trans e2).trans e3).trans en) (st_of upd_same) ⟨(p2.ex e3).ex en, q3.ex en⟩
    | [a], ht, _, k, evl =>
      refine q_when (b := false) (evl (Ex.refl H)) (fun hb => nomatch hb) fun _ H1 e1 => ?_
      refine q_when (b := true) (evl e1) (fun _ H2 e2 => ?_) (fun hb => nomatch hb)
      have e12 := e1.trans e2
      exact s_retU (eu_tup (ea_cons (ev_op (ev_var rfl) ev_c (rv_ixT (ex_t e12 ht) (atI_nat (j := 0) rfl))) (ea_cons (ev_op (ev_var rfl) ev_c (rv_ixT (ex_t e12 ht) (atI_nat (j := 0) rfl))) ea_nil)) (by show 2 ≤ 100000; decide)) fun u H3 hu e3 h3 => k u a a H3 (e12.trans e3) (st_of h3) ⟨rfl, rfl⟩
    | [a, b], ht, _, k, evl =>
      refine q_when (b := false) (evl (Ex.refl H)) (fun hb => nomatch hb) fun _ H1 e1 => ?_
      refine q_when (b := false) (evl e1) (fun hb => nomatch hb) fun _ H2 e2 => ?_
      exact s_ret (ev_var rfl) fun H3 e3 => k t a b H3 ((e1.trans e2).trans e3) (ex_t ((e1.trans e2).trans e3) ht) ⟨rfl, rfl⟩
    | _ :: _ :: _ :: _, _, hl, _, _ =>
      exfalso
      simp only [List.length_cons] at hl
      omega
end
end Lw
namespace Lw
open PySem PySem.Spec PyProof.Rows L2 Evl L3 ClX
abbrev sSI : Stmt := inClass (top 22) 0
abbrev sSEq : Stmt := inClass (top 22) 1
abbrev sSStr : Stmt := inClass (top 22) 2
abbrev sSRep : Stmt := inClass (top 22) 3
def setF (n : Int) (r : Addr) : List (Str × V) := [("size", .int n), ("policies", .ref r)]
/-- a setting of size n with the policies at p and q -/
def SetAt (K : PySem.W.Frag) (CS : Addr) (H : Hp) (a : Addr) (n : Int) (p q : Addr) : Prop := ∃ dx r, H a = some (.ins CS dx (setF n r)) ∧ SqT K H r [.ref p, .ref q]
theorem SetAt.ex {K : PySem.W.Frag} {CS a p q : Addr} {H H1 : Hp} {n : Int} (s : SetAt K CS H a n p q) (e : Ex H H1) : SetAt K CS H1 a n p q := by
  obtain ⟨dx, r, h1, h2⟩ := s
  exact ⟨dx, r, e _ _ h1, ex_t e h2⟩
/-- what is read of the class Setting -/
structure Stg (K : PySem.W.Frag) (mg : Str → Option Value) (CS : Addr) : Prop where
  hm : mg "Setting" = some (.ref CS)
  k : Kls K CS
  ns : NoAttr K CS "size"
  np : NoAttr K CS "policies"
section
variable {P : Program} {w : World} {K : PySem.W.Frag} {mg : Str → Option Value} {base : Heap}
/-- x is filled; t holds what is left over of the arguments -/
def spSI0 (K : PySem.W.Frag) (CS CP : Addr) : Sp := fun vs H Q _ => ∃ (x dx t : Addr) (n : Int) (ps : List Addr), vs = [.ref x, .int n, .ref t] ∧ H x = some (.ins CS dx []) ∧ SqT K (del H x) t (ps.map V.ref) ∧ ps.length ≤ 2 ∧ (∀ p ∈ ps, ∃ h e q, PolAt CP (del H x) p h e q) ∧ 1 ≤ n ∧ n ≤ 1000000000000000000 ∧
  ∀ H' r p q, Ex (del H x) (del H' x) → H' x = some (.ins CS dx (setF n r)) → SqT K (del H' x) r [.ref p, .ref q] → pairOf CP (del H' x) ps p q → Q .non H'
abbrev nSI : List Str := ["self", "size", "policies", "policy"]
theorem scSI : FnScope nSI ((["self", "size"] : List Str) ++ (["policies"] : List Str)) (defScope sSI) := ⟨rfl, rfl, rfl, by decide +kernel, rfl, by decide +kernel, by decide +kernel⟩
theorem sqt_del {H : Hp} {x r C dx : Addr} {fs : List (Str × V)} {xs : List V} (h : SqT K H r xs) (hx : H x = some (.ins C dx fs)) : SqT K (del H x) r xs := by
  rcases h with (h | ⟨o, h⟩) | h
  · have n : r ≠ x := fun z => by
      rw [z, hx] at h
      cases h
    exact Or.inl (Or.inl (by rw [del_ne n]; exact h))
  · have n : r ≠ x := fun z => by
      rw [z, hx] at h
      cases h
    exact Or.inl (Or.inr ⟨o, by rw [del_ne n]; exact h⟩)
  · exact Or.inr h
theorem pol_del {CP : Addr} {H : Hp} {x p C dx : Addr} {fs : List (Str × V)} {h : Str} {e q : Int} (d : PolAt CP H p h e q) (hx : H x = some (.ins C dx fs)) (hl : fs.length ≠ 3) : PolAt CP (del H x) p h e q := by
  obtain ⟨dy, hd⟩ := d
  have n : p ≠ x := fun z => by
    rw [z, hx] at hd
    injection hd with hd
    injection hd with _ _ hf
    exact hl (by rw [hf] <;> rfl)
  exact ⟨dy, by rw [del_ne n]; exact hd⟩
theorem pairOf_del {CP : Addr} {H : Hp} {x C dx : Addr} {fs : List (Str × V)} {ps : List Addr} {p q : Addr} (h : pairOf CP H ps p q) (hx : H x = some (.ins C dx fs)) (hl : fs.length ≠ 3) : pairOf CP (del H x) ps p q := by
  match ps, h with
  | [], h => exact ⟨pol_del h.1 hx hl, pol_del h.2 hx hl⟩
  | [_], h => exact h
  | [_, _], h => exact h
theorem pairOf_ex {CP : Addr} {H H1 : Hp} {ps : List Addr} {p q : Addr} (h : pairOf CP H ps p q) (e : Ex H H1) : pairOf CP H1 ps p q := by
  match ps, h with
  | [], h => exact ⟨h.1.ex e, h.2.ex e⟩
  | [_], h => exact h
  | [_, _], h => exact h
theorem given_allT {n : Nat} {v : Nat → V} : given n (fun _ => true) v = (List.range n).map v := by
  unfold given
  rw [List.filter_eq_self.mpr (fun _ _ => rfl)]
theorem ev_allB {σ : L2.St} {H : Hp} {tl : TE} {bs : List Bool} (h : EvL tl σ H (bs.map V.bl)) : Ev (tCB (rAll K) (tCons tl tNil)) σ H (.bl (bs.all id)) := fun H1 e Q q =>
  h H1 e _ fun p H2 _ e2 h2 => ⟨p, bs, rfl, sq_of h2, q H2 e2⟩
theorem body_SI {f fC fR CB CS CP fE : Addr} {fdC fdR fdE : FuncData} {cdv : Value} (T : Txt K mg) (TB : ErC P w K mg base "BadSetting" "name" CB fE fdE) (TP : Pol K mg CP) (TS : Stg K mg CS)
    (FC : Fun K "check_size" "check_size" sCkS fC fdC) (bC : Binds K fdC ["size"] []) (gC : mg "check_size" = some (.ref fC)) (GC : FnOk P w K mg base (L2.CX P w) 3 fC fdC ["size"] spCkSv)
    (FR : Fun K "policy_pair" "policy_pair" sPair fR fdR) (bR : Binds K fdR ["policies"] []) (gR : mg "policy_pair" = some (.ref fR)) (GR : FnOk P w K mg base CX0 5 fR fdR ["policies"] (spPair K CP)) (A : Around) (outer : List Env) (s : Shared) (H : Hp) (vs : List V) (Q : VK) (E : XK)
    (hr : Room 5 (A.deeper (envOfC "Setting.__init__" (defScope sSI) s.heap.objs.size f cdv))) (h : spSI0 K CS CP vs H Q E) :
    ∃ t, PSs (cxOf (L2.CX P w) P w K mg base nSI "Setting.__init__" (defScope sSI) f cdv A outer s H E) (defBody sSI) t ∧ t { nx := fun _ H' => Q .non H', rt := Q } (start nSI vs) H := by
  obtain ⟨x, dx, t, n, ps, rfl, hx, ht, hl, hp, n1, n2, k⟩ := h
  have hr3 : Room 3 _ := hr.mono (by decide)
  have hr2 : Room 2 _ := hr.mono (by decide)
  refine ⟨_, pss_cons (ps_expr (pe_call GC hr3 rfl gC FC.kp bC .nil passE (pa_cons (pv 1) pa_nil)))
    (pss_cons (ps_if (PW.pt (pw_or (pt_cmpR op_gt (pe_callB call_len_seq (by rfl) T.len PySem.boot_len (pa_cons (pv 2) pa_nil)) pe_int (nomark _))
        (pw_or1 (pt_not (pt_val (pe_callB (cr_all rfl) (by rfl) T.all PyProof.Rows.boot_all (pa_cons (pe_lc (own := [("policy", 3)]) (g := gName 3) (tt := tYes) (te := tCB (rIsi K) (tCons (tVar 3) (tCons (tC (.ref CP)) tNil))) rfl scSI.nd (pi_tup (pv 2))
          (blkOk_by (N := nSI) (sc := defScope sSI) (by decide +kernel)) (fun _ _ _ _ _ => pg_name (i := 3) scSI.nd rfl (Or.inl rfl)) (fun _ _ _ _ _ => pts_nil) (fun _ _ _ _ _ => pe_callB call_isi (by rfl) T.isi boot_isinstance (pa_cons (pv 3) (pa_cons (pe_glob (v := .ref CP) rfl TP.hm rfl) pa_nil)))) pa_nil)))))))
      (pss_one (ps_rz rfl TB hr2 (takes_of rfl rfl rfl rfl) (by exact pa_cons pe_str pa_nil))) pss_nil)
    (pss_cons (ps_fld (pv 0) (pv 1) rfl) (pss_one (ps_fld (pv 0) (pe_call GR hr rfl gR FR.kp bR .nil pass0 (pa_cons (pv 2) pa_nil)) rfl)))), ?_⟩
  refine ⟨_, rfl, n, rfl, n1, n2, fun H1 e1 => ?_⟩
  have ht1 : SqT K H1 t (ps.map V.ref) := ex_t (ex_del_self.trans e1) ht
  dsimp only
  refine q_when (b := false) (et_is (et_or (a := false) (b := false) ?_ fun _ => ?_) rfl) (fun hb => nomatch hb) fun _ H2 e2 => ?_
  · refine et_is (et_test (ev_op (ev_cb (ea_cons (ev_var rfl) ea_nil) (fun H2 e2 Q q => ⟨t, _, rfl, Or.inr (ex_t e2 ht1), q H2 (Ex.refl H2)⟩)) ev_c rv_I0)) ?_
    rw [List.length_map]
    exact decide_eq_false (by omega)
  · refine et_is (et_not (a := true) (et_B (ev_is (ev_allB (bs := List.replicate ps.length true) ?_) (congrArg V.bl (by simp))))) rfl
    have z := el_lcT (K := K) (σ := start nSI [.ref x, .int n, .ref t]) (H := H1) (xs := ps.map V.ref) (a := t) (tl := tVar 2) (j := 3) (vs := [3]) (t := tYes) (te := tCB (rIsi K) (tCons (tVar 3) (tCons (tC (.ref CP)) tNil)))
      (fun _ => true) (fun _ => .bl true) (ev_var rfl) ht1 (by rw [List.length_map]; omega) (fun _ => rfl) (fun _ _ _ _ _ => fun H1 e Q q => q H1 (Ex.refl H1)) (fun i v H3 e3 hv _ => by
        rw [List.getElem?_map] at hv
        cases hp' : ps[i]? with
        | none =>
          rw [hp'] at hv
          cases hv
        | some p =>
          rw [hp'] at hv
          have ev : V.ref p = v := Option.some.inj hv
          subst ev
          obtain ⟨h, e, q, dp, hd⟩ := hp p (List.mem_of_getElem? hp')
          exact ev_isC (ev_var rfl) (fun H4 e4 => TP.k.ty (((ex_del_self.trans e1).trans (e3.trans e4)) _ _ hd)) kit_self)
    rw [given_allT, List.length_map] at z
    rw [List.map_replicate]
    have e0 : (List.range ps.length).map (fun _ => V.bl true) = List.replicate ps.length (V.bl true) := by
      rw [List.map_const', List.length_range]
    rw [e0] at z
    exact z
  · have e12 := e1.trans e2
    refine ⟨_, rfl, _, rfl, x, CS, dx, _, rfl, e12 _ _ hx, TS.k.cl, TS.ns, by decide, ?_⟩
    have e3 : Ex (del H x) (del (upd H2 x (.ins CS dx (putF "size" (.int n) []))) x) := by
      rw [del_upd]
      exact ex_del e12
    refine ⟨_, rfl, t, ps, rfl, ex_t (e3.trans ex_del_self) ht, hl, fun r p q H4 e4 hr4 hpo => ?_⟩
    refine ⟨_, rfl, x, CS, dx, _, rfl, e4 _ _ upd_same, TS.k.cl, TS.np, Nat.lt_of_le_of_lt (putF_len _ _ _) (by decide), ?_⟩
    have hx4 : H4 x = some (.ins CS dx (putF "size" (.int n) [])) := e4 _ _ upd_same
    refine k _ r p q ?_ upd_same ?_ ?_
    · rw [del_upd]
      exact e3.trans (ex_del e4)
    · rw [del_upd]
      exact sqt_del hr4 hx4
    · rw [del_upd]
      exact pairOf_del hpo hx4 (by show ¬ 1 = 3; decide)
/-- Setting(size, ..) -/
theorem ok_SI {f fC fR CB CS CP fE : Addr} {fdC fdR fdE : FuncData} {oc kV dc pm cd ct : Value} {od an : Option Addr} {sl : Array (Option Value)} (lk : K.lookup f = some ⟨oc, od, .func (PySem.W.fnOf "__init__" "Setting.__init__" (defArgs sSI) (defBody sSI) (defScope sSI) .none kV dc pm an cd ct), sl⟩) (hcd : PySem.W.codeIn K cd "Setting.__init__" = true)
    (T : Txt K mg) (TB : ErC P w K mg base "BadSetting" "name" CB fE fdE) (TP : Pol K mg CP) (TS : Stg K mg CS)
    (FC : Fun K "check_size" "check_size" sCkS fC fdC) (bC : Binds K fdC ["size"] []) (gC : mg "check_size" = some (.ref fC)) (GC : FnOk P w K mg base (L2.CX P w) 3 fC fdC ["size"] spCkSv)
    (FR : Fun K "policy_pair" "policy_pair" sPair fR fdR) (bR : Binds K fdR ["policies"] []) (gR : mg "policy_pair" = some (.ref fR)) (GR : FnOk P w K mg base CX0 5 fR fdR ["policies"] (spPair K CP)) :
    FnR P w K mg base (L2.CX P w) 6 f (fun vs H Q E => ∃ ws rest, vs = ws ++ rest ∧ ws.length = 2 ∧ rest.length ≤ sizeLine ∧ ∀ p, H p = none → spSI0 K CS CP (ws ++ [V.ref p]) (upd H p (.tup rest)) Q E) := by
  refine StX.fn_star (ps := (["self", "size"] : List Str)) (pv := "policies") (N := nSI) lk hcd scSI StX.cxUp (StX.bind_star2 (B := fun us => bindArgs (PySem.W.fnOf "__init__" "Setting.__init__" (defArgs sSI) (defBody sSI) (defScope sSI) .none kV dc pm an cd ct) ⟨us, []⟩) (p1 := "self") (p2 := "size") (pv := "policies") (fun a b => rfl) (fun a b r rs => rfl)) fun A outer s H vs Q E hr h => ?_
  exact body_SI T TB TP TS FC bC gC GC FR bR gR GR A outer s H vs Q E hr h
/-- a new setting, of policies that stand -/
theorem set_go {CS CP : Addr} {n : Int} {ps : List Addr} {H : Hp} {Q : VK} (n1 : 1 ≤ n) (n2 : n ≤ 1000000000000000000) (hl : ps.length ≤ 2) (hp : ∀ p ∈ ps, ∃ h e q, PolAt CP H p h e q) (k : ∀ x p q H', H x = none → Ex H H' → SetAt K CS H' x n p q → pairOf CP H' ps p q → Q (.ref x) H') :
    ∀ x dx, H x = none → H dx = none → dx ≠ x → (fun vs H Q E => ∃ ws rest, vs = ws ++ rest ∧ ws.length = 2 ∧ rest.length ≤ sizeLine ∧ ∀ p, H p = none → spSI0 K CS CP (ws ++ [V.ref p]) (upd H p (.tup rest)) Q E) (V.ref x :: V.int n :: ps.map V.ref) (upd (upd H dx (.own x)) x (.ins CS dx [])) (fun v H2 => v = .non ∧ Q (.ref x) H2) E0 := fun x dx hx hd nd => by
  refine ⟨[.ref x, .int n], ps.map V.ref, rfl, rfl, by rw [List.length_map]; exact sz_of (by omega), fun t ht => ?_⟩
  have ntx : t ≠ x := fun z => by
    rw [z, upd_same] at ht
    cases ht
  have eH : Ex H (del (upd (upd (upd H dx (.own x)) x (.ins CS dx [])) t (.tup (ps.map V.ref))) x) := fun b o h => by
    have nb : b ≠ x := ne_of_none h hx
    have nb2 : b ≠ dx := ne_of_none h hd
    have nb3 : b ≠ t := fun z => by
      rw [← z, upd_ne nb, upd_ne nb2, h] at ht
      cases ht
    rw [del_ne nb, upd_ne nb3, upd_ne nb, upd_ne nb2]
    exact h
  refine ⟨x, dx, t, n, ps, rfl, by rw [upd_ne ntx.symm]; exact upd_same, st_of (by rw [del_ne ntx]; exact upd_same), hl, fun p hm => ?_, n1, n2, fun H' r p q e hH' hr hpo => ⟨rfl, ?_⟩⟩
  · obtain ⟨h, e, q, d⟩ := hp p hm
    exact ⟨h, e, q, d.ex eH⟩
  · exact k x p q H' hx ((eH.trans e).trans ex_del_self) ⟨dx, r, hH', ex_t ex_del_self hr⟩ (pairOf_ex hpo ex_del_self)
/-! ### == of settings -/
def RPol (CP : Addr) (p q : Addr) (c : Bool) (H : Hp) : Prop := ∃ h e u h2 e2 u2, PolAt CP H p h e u ∧ PolAt CP H q h2 e2 u2 ∧ c = polC h e u h2 e2 u2
theorem eq_RPol {K : PySem.W.Frag} {CP : Addr} : ∀ vs H Q E, spEqR (RPol CP) vs H Q E → spPEq K CP vs H Q E := fun vs H Q E h => by
  obtain ⟨a, b, c, rfl, ⟨h, e, q, h2, e2, q2, p1, p2, rfl⟩, k⟩ := h
  exact ⟨a, .ref b, h, e, q, _, rfl, p1, Or.inl ⟨b, h2, e2, q2, rfl, p2, rfl⟩, fun H' ex => k H' ex⟩
/-- a setting with its policies' values -/
structure SetV (K : PySem.W.Frag) (CS CP : Addr) (H : Hp) (a : Addr) (n : Int) (p q : Addr) (h : Str) (e u : Int) (h2 : Str) (e2 u2 : Int) : Prop where
  at_ : SetAt K CS H a n p q
  p : PolAt CP H p h e u
  q : PolAt CP H q h2 e2 u2
theorem SetV.ex {K : PySem.W.Frag} {CS CP a p q : Addr} {H H1 : Hp} {n e u e2 u2 : Int} {h h2 : Str} (s : SetV K CS CP H a n p q h e u h2 e2 u2) (x : Ex H H1) : SetV K CS CP H1 a n p q h e u h2 e2 u2 := ⟨s.at_.ex x, s.p.ex x, s.q.ex x⟩
def spSEq (K : PySem.W.Frag) (CS CP : Addr) : Sp := fun vs H Q _ => ∃ (a : Addr) (y : V) (n : Int) (p q : Addr) (h : Str) (e u : Int) (h2 : Str) (e2 u2 : Int) (c : Bool), vs = [.ref a, y] ∧ SetV K CS CP H a n p q h e u h2 e2 u2 ∧
  ((∃ b n' p' q' h' e' u' h2' e2' u2', y = .ref b ∧ SetV K CS CP H b n' p' q' h' e' u' h2' e2' u2' ∧ c = (decide (n = n') && (polC h e u h' e' u' && polC h2 e2 u2 h2' e2' u2'))) ∨ (c = false ∧ ∃ tb, (∀ H1, Ex H H1 → TyX K H1 y tb) ∧ PySem.W.kitOne K tb (.ref CS) = some false)) ∧ RetV (.bl c) H Q
theorem scSEq : FnScope ["self", "other"] ["self", "other"] (defScope sSEq) := ⟨rfl, rfl, rfl, by decide +kernel, rfl, by decide +kernel, by decide +kernel⟩
theorem polC_same {h : Str} {e q : Int} : polC h e q h e q = true := by
  unfold polC
  rw [decide_eq_true rfl, decide_eq_true rfl, decide_eq_true rfl] <;> rfl
theorem pol_one {CP p : Addr} {H : Hp} {h h2 : Str} {e q e2 q2 : Int} (a : PolAt CP H p h e q) (b : PolAt CP H p h2 e2 q2) : h = h2 ∧ e = e2 ∧ q = q2 := by
  obtain ⟨dx, h1⟩ := a
  obtain ⟨dy, h2⟩ := b
  rw [h1] at h2
  injection h2 with h2
  injection h2 with _ _ z
  injection z with z1 z
  injection z with z2 z
  injection z with z3 _
  injection z1 with _ z1
  injection z2 with _ z2
  injection z3 with _ z3
  injection z1 with z1
  injection z2 with z2
  injection z3 with z3
  exact ⟨z1, z2, z3⟩
theorem ok_SEq {f fE CS CP : Addr} {fd fdE : FuncData} (F : Fun K "__eq__" "Setting.__eq__" sSEq f fd) (T : Txt K mg) (TS : Stg K mg CS) (S : Spm K CP "__eq__" fE) (FE : Fun K "__eq__" "Policy.__eq__" sPEq fE fdE) (bE : Binds K fdE ["self", "other"] []) (GE : FnOk P w K mg base CX0 1 fE fdE ["self", "other"] (spPEq K CP)) :
    FnOk P w K mg base CX0 3 f fd ["self", "other"] (spSEq K CS CP) := by
  refine F.ok scSEq (fun vs H Q E h => ?_) (fun cdv A outer s H vs Q E hr h => ?_)
  · obtain ⟨a, y, n, p, q, h, e, u, h2, e2, u2, c, rfl, _⟩ := h
    rfl
  · obtain ⟨a, y, n, p, q, h, e, u, h2, e2, u2, c, rfl, ⟨⟨dx, r, ha, hr1⟩, pp, pq⟩, hc, k⟩ := h
    refine ⟨_, pss_one (ps_ret (pe_and (pe_callB call_isi (by rfl) T.isi boot_isinstance (pa_cons (pv 1) (pa_cons (pe_glob (v := .ref CS) rfl TS.hm rfl) pa_nil)))
      (pe_and (pe_cmpR op_eq (pe_fld (pv 0) rfl) (pe_fld (pv 1) rfl) (nomark _)) (pe_one (pe_cmpR (op_eqTO S (fn_imp GE eq_RPol) bE pass0 hr) (pe_fld (pv 0) rfl) (pe_fld (pv 1) rfl) (nomark _)))))), ?_⟩
    rcases hc with ⟨b, n', p', q', h', e', u', h2', e2', u2', rfl, ⟨⟨dy, r', hb, hr2⟩, pp', pq'⟩, rfl⟩ | ⟨rfl, tb, hty, hk⟩
    · refine s_ret (v := .bl (decide (n = n') && (polC h e u h' e' u' && polC h2 e2 u2 h2' e2' u2'))) (ev_is (ev_andV (a := true) (b := decide (n = n') && (polC h e u h' e' u' && polC h2 e2 u2 h2' e2' u2')) (ev_isC (ev_var rfl) (fun H1 e => TS.k.ty (e _ _ hb)) kit_self) fun _ => ?_) (congrArg V.bl (Bool.true_and _))) k
      refine ev_andV (ev_is (ev_op (ev_fld (ev_var rfl) ha TS.k.cl TS.ns rfl) (ev_fld (ev_var rfl) hb TS.k.cl TS.ns rfl) (rv_eq rfl)) (congrArg V.bl (decide_eq_decide.mpr ⟨fun z => by injection z, fun z => by rw [z]⟩))) fun _ => ?_
      refine ev_op (ev_fld (ev_var rfl) ha TS.k.cl TS.np rfl) (ev_fld (ev_var rfl) hb TS.k.cl TS.np rfl) fun H1 e1 Q' kq => ?_
      refine ⟨r, r', [p, q], [p', q'], fun i => if i = 0 then polC h e u h' e' u' else polC h2 e2 u2 h2' e2' u2', rfl, rfl, ex_t e1 hr1, ex_t e1 hr2, rfl, ?_, fun H2 x2 => ?_⟩
      · intro i a1 b1 g1 g2
        match i, g1, g2 with
        | 0, g1, g2 =>
          have z1 : p = a1 := by simpa using g1
          have z2 : p' = b1 := by simpa using g2
          subst z1 z2
          refine ⟨?_, ?_, fun H' e' => ⟨_, _, _, _, _, _, (pp.ex e1).ex e', (pp'.ex e1).ex e', if_pos rfl⟩, fun z => ?_⟩
          · obtain ⟨d, hd⟩ := pp.ex e1
            exact ⟨d, _, hd⟩
          · obtain ⟨d, hd⟩ := pp'.ex e1
            exact ⟨d, _, hd⟩
          · subst z
            obtain ⟨y1, y2, y3⟩ := pol_one pp pp'
            show polC h e u h' e' u' = true
            rw [y1, y2, y3]
            exact polC_same
        | 1, g1, g2 =>
          have z1 : q = a1 := by simpa using g1
          have z2 : q' = b1 := by simpa using g2
          subst z1 z2
          refine ⟨?_, ?_, fun H' e' => ⟨_, _, _, _, _, _, (pq.ex e1).ex e', (pq'.ex e1).ex e', if_neg (by decide)⟩, fun z => ?_⟩
          · obtain ⟨d, hd⟩ := pq.ex e1
            exact ⟨d, _, hd⟩
          · obtain ⟨d, hd⟩ := pq'.ex e1
            exact ⟨d, _, hd⟩
          · subst z
            obtain ⟨y1, y2, y3⟩ := pol_one pq pq'
            show polC h2 e2 u2 h2' e2' u2' = true
            rw [y1, y2, y3]
            exact polC_same
        | i + 2, g1, _ => exact absurd g1 (by simp)
      · have ec : decide (∀ i, i < [p, q].length → (if i = 0 then polC h e u h' e' u' else polC h2 e2 u2 h2' e2' u2') = true) = (polC h e u h' e' u' && polC h2 e2 u2 h2' e2' u2') := by
          cases c1 : polC h e u h' e' u' with
          | false =>
            refine decide_eq_false fun z => ?_
            have y := z 0 (by show 0 < 2; decide)
            rw [if_pos rfl] at y
            cases y
          | true =>
            cases c2 : polC h2 e2 u2 h2' e2' u2' with
            | false =>
              refine decide_eq_false fun z => ?_
              have y := z 1 (by show 1 < 2; decide)
              rw [if_neg (by decide)] at y
              cases y
            | true => exact decide_eq_true fun i _ => by split <;> rfl
        rw [ec]
        exact kq H2 x2
    · exact s_ret (v := .bl false) (ev_andV (a := false) (b := false) (ev_isC (ev_var rfl) hty hk) fun z => nomatch z) k
/-! ### texts of settings -/
end
end Lw

/-! ### a turn, as a pure model -/
namespace Tn
open PySem L3
structure Stc where
  kept : Bool
  blk : Bool
  stk : Bool
  pend : Int
  quick : Int
abbrev Stp := Stc × Bool × Int
/-- the speaker's hold, the listener's every -/
structure Cf where
  h : Str
  e : Int
structure RF where
  ack : Int
  last : Bool
  pend : Int
  quick : Int
/-- min(a, b), max(a, b) -/
def mn (a b : Int) : Int := if b < a then b else a
def mx (a b : Int) : Int := if b > a then b else a
def recv (e full pend quick : Int) : RF :=
  if e = 0 then ⟨mn full quick, decide (full - mn full quick = 0), 0, quick - mn full quick⟩
  else ⟨mn full quick + (pend + (full - mn full quick)) / e, decide ((pend + (full - mn full quick)) % e = 0), (pend + (full - mn full quick)) % e, quick - mn full quick⟩
def rest (h : Str) (pend quick ack : Int) : Stp := (⟨false, !decide (h = "off"), !decide (h = "off") && decide (quick = 0), pend, mx (quick - 1) 0⟩, true, ack + mn quick 1)
/-- behind the full segments: blocked, stuck, acknowledgments, pending, quick -/
structure Mid where
  blk : Bool
  stk : Bool
  ack : Int
  pend : Int
  quick : Int
def mid (c : Cf) (s : Stc) (full : Int) : Mid :=
  if full > 0 then
    (if c.h = "all" then ⟨true, !(recv c.e full s.pend s.quick).last, (recv c.e full s.pend s.quick).ack, (recv c.e full s.pend s.quick).pend, (recv c.e full s.pend s.quick).quick⟩
     else if (recv c.e full s.pend s.quick).ack > 0 then ⟨s.blk, false, (recv c.e full s.pend s.quick).ack, (recv c.e full s.pend s.quick).pend, (recv c.e full s.pend s.quick).quick⟩
     else ⟨s.blk, s.stk, (recv c.e full s.pend s.quick).ack, (recv c.e full s.pend s.quick).pend, (recv c.e full s.pend s.quick).quick⟩)
  else ⟨s.blk, s.stk, 0, s.pend, s.quick⟩
def write (c : Cf) (s : Stc) (full : Int) (has : Bool) (mode : Str) : Stp :=
  if (has && (decide (mode = "push") || (decide (mode = "plain") && !(mid c s full).blk))) = true then rest c.h (mid c s full).pend (mid c s full).quick (mid c s full).ack
  else (⟨has && decide (mode = "more"), (mid c s full).blk, (mid c s full).stk, (mid c s full).pend, (mid c s full).quick⟩, false, (mid c s full).ack)
def clear (c : Cf) (s : Stc) (has : Bool) : Stp :=
  if (has && (!s.kept && !s.stk)) = true then rest c.h s.pend s.quick 0 else (⟨s.kept, s.stk, s.stk, s.pend, s.quick⟩, false, 0)
def stD (s : Stc) : PyData := .tuple [.bool s.kept, .bool s.blk, .bool s.stk, .int s.pend, .int s.quick]
def stpD (p : Stp) : PyData := .tuple [stD p.1, .bool p.2.1, .int p.2.2]
/-- the keys of the caches -/
abbrev WK := Stc × Int × Bool × Str
abbrev CK := Stc × Bool
def wkD (k : WK) : PyData := .tuple [stD k.1, .int k.2.1, .bool k.2.2.1, .str k.2.2.2]
def ckD (k : CK) : PyData := .tuple [stD k.1, .bool k.2]
def wF (c : Cf) (k : WK) : PyData := stpD (write c k.1 k.2.1 k.2.2.1 k.2.2.2)
def cF (c : Cf) (k : CK) : PyData := stpD (clear c k.1 k.2)
theorem b_inj {a b : Bool} (h : (if a = true then (1 : Int) else 0) = if b = true then 1 else 0) : a = b := by
  cases a <;> cases b <;> first | rfl | (exfalso; revert h; decide)
theorem st_inj {a b : Stc} (h : nkD (stD a) = nkD (stD b)) : a = b := by
  obtain ⟨a1, a2, a3, a4, a5⟩ := a
  obtain ⟨b1, b2, b3, b4, b5⟩ := b
  simp only [stD, nkD, nkAll, NestedKey.tup.injEq, NestedKey.num.injEq, List.cons.injEq, and_true] at h
  obtain ⟨h1, h2, h3, h4, h5⟩ := h
  rw [b_inj h1, b_inj h2, b_inj h3, h4, h5]
theorem wkd (c : Cf) : Ckd wkD (wF c) where
  key := fun _ => rfl
  val := fun _ => rfl
  dep := fun _ => by simp [wkD, stD, nkD, nkAll, NestedKey.depth, NestedKey.depthAll]
  inj := fun a b h => by
    obtain ⟨a1, a2, a3, a4⟩ := a
    obtain ⟨b1, b2, b3, b4⟩ := b
    have h' : nkD (stD a1) = nkD (stD b1) ∧ a2 = b2 ∧ (if a3 = true then (1 : Int) else 0) = (if b3 = true then 1 else 0) ∧ a4 = b4 := by
      have z := h
      simp only [wkD, nkD, nkAll, NestedKey.tup.injEq, NestedKey.num.injEq, NestedKey.text.injEq, List.cons.injEq, and_true] at z
      exact z
    obtain ⟨h1, h2, h3, h4⟩ := h'
    rw [st_inj h1, h2, b_inj h3, h4]
theorem ckd (c : Cf) : Ckd ckD (cF c) where
  key := fun _ => rfl
  val := fun _ => rfl
  dep := fun _ => by simp [ckD, stD, nkD, nkAll, NestedKey.depth, NestedKey.depthAll]
  inj := fun a b h => by
    obtain ⟨a1, a2⟩ := a
    obtain ⟨b1, b2⟩ := b
    have h' : nkD (stD a1) = nkD (stD b1) ∧ (if a2 = true then (1 : Int) else 0) = (if b2 = true then 1 else 0) := by
      have z := h
      simp only [ckD, nkD, nkAll, NestedKey.tup.injEq, NestedKey.num.injEq, List.cons.injEq, and_true] at z
      exact z
    rw [st_inj h'.1, b_inj h'.2]
end Tn
namespace L3
open PySem PySem.Spec PyProof.Rows L2 Evl
/-! ### o.f as a target -/
def gFld (K : PySem.W.Frag) (to : TE) (f : Str) : TG := fun v σ H Q => to σ H fun x H1 => ∃ a C dx fs, x = .ref a ∧ H1 a = some (.ins C dx fs) ∧ Cls K C ∧ NoAttr K C f ∧ fs.length < 1000 ∧ Q σ (upd H1 a (.ins C dx (putF f v fs)))
theorem pg_fld {X : Cx} {o : Expr} {to : TE} {f : Str} {pos : Pos} (ho : PE X o to) : PG X (.Attribute o f pos) (gFld X.K to f) := by
  refine ⟨fun pins s σ H v u Q I r h => ?_⟩
  refine PySem.W.kas_attr (thn (ho.run pins s σ H _ I h) fun ov s1 ⟨x, H1, I1, rx, a, C, dx, fs, ex, ea, c, n, l, q⟩ => ?_)
  subst ex
  obtain rfl : ov = Value.ref a := rx
  exact setattr_ok I1 ea c n l r fun s3 I3 => ⟨σ, _, I3, q⟩
end L3
namespace Lw
open PySem PySem.Spec PyProof.Rows L2 Evl L3 ClX Tn
abbrev tIni : Stmt := inClass (top 2) 0
abbrev tAW : Stmt := inClass (top 2) 1
abbrev tAC : Stmt := inClass (top 2) 2
abbrev tWr : Stmt := inClass (top 2) 4
abbrev tCl : Stmt := inClass (top 2) 5
abbrev tRest : Stmt := inClass (top 2) 6
abbrev tRecv : Stmt := inClass (top 2) 7
/-- what is read of the class Stances -/
structure Tcs (K : PySem.W.Frag) (mg : Str → Option Value) (CT : Addr) : Prop where
  hm : mg "Stances" = some (.ref CT)
  k : Kls K CT
  nh : NoAttr K CT "_hold"
  ne : NoAttr K CT "_every"
  nw : NoAttr K CT "_known_writes"
  nc : NoAttr K CT "_known_clearings"
def tcF (c : Cf) (dw dc : Addr) : List (Str × V) := [("_hold", .str c.h), ("_every", .int c.e), ("_known_writes", .ref dw), ("_known_clearings", .ref dc)]
/-- the stances at st, their caches at dw and dc -/
def TcAt (CT : Addr) (H : Hp) (st dw dc : Addr) (c : Cf) : Prop := ∃ dx, H st = some (.ins CT dx (tcF c dw dc))
theorem TcAt.ex {CT st dw dc : Addr} {H H1 : Hp} {c : Cf} (t : TcAt CT H st dw dc c) (e : Ex H H1) : TcAt CT H1 st dw dc c := by
  obtain ⟨dx, h⟩ := t
  exact ⟨dx, e _ _ h⟩
def okE (e : Int) : Prop := 0 ≤ e ∧ e ≤ 9
theorem okE.div {e i : Int} (h : okE e) (n : e ≠ 0) : CDivP i e := ⟨by have := h.1; omega, PyProof.noPylong_small (by have := h.1; have := h.2; omega)⟩
section
variable {P : Program} {w : World} {K : PySem.W.Frag} {mg : Str → Option Value} {base : Heap} {CT : Addr}
theorem rc_min2 {H : Hp} {i j : Int} : RC (fun xs H Q => ∃ i j, xs = [V.int i, V.int j] ∧ Q (.int (if j < i then j else i)) H) [.int i, .int j] H (.int (mn i j)) := fun H1 e Q q => ⟨i, j, rfl, q H1 (Ex.refl H1)⟩
theorem rc_max2 {H : Hp} {i j : Int} : RC (fun xs H Q => ∃ i j, xs = [V.int i, V.int j] ∧ Q (.int (if j > i then j else i)) H) [.int i, .int j] H (.int (mx i j)) := fun H1 e Q q => ⟨i, j, rfl, q H1 (Ex.refl H1)⟩
theorem dI {i j : Int} : decide (V.int i = V.int j) = decide (i = j) := decide_eq_decide.mpr ⟨fun z => by injection z, fun z => by rw [z]⟩
theorem dS {i j : Str} : decide (V.str i = V.str j) = decide (i = j) := decide_eq_decide.mpr ⟨fun z => by injection z, fun z => by rw [z]⟩
/-! ### _receive_full -/
abbrev rcPs : List Str := ["self", "full", "pending", "quick"]
def spRecv (CT : Addr) : Sp := fun vs H Q _ => ∃ (st dw dc : Addr) (c : Cf) (full pend quick : Int), vs = [.ref st, .int full, .int pend, .int quick] ∧ TcAt CT H st dw dc c ∧ okE c.e ∧
  ∀ p H', H p = none → Ex H H' → H' p = some (.tup [.int (recv c.e full pend quick).ack, .bl (recv c.e full pend quick).last, .int (recv c.e full pend quick).pend, .int (recv c.e full pend quick).quick]) → Q (.ref p) H'
theorem scRecv : FnScope ["self", "full", "pending", "quick", "early", "late", "due"] rcPs (defScope tRecv) := ⟨rfl, rfl, rfl, by decide +kernel, rfl, by decide +kernel, by decide +kernel⟩
theorem ok_recv {f : Addr} {fd : FuncData} (F : Fun K "_receive_full" "Stances._receive_full" tRecv f fd) (T : Txt K mg) (hD : mg "divmod" = none) (TC : Tcs K mg CT) : FnOk P w K mg base CX0 1 f fd rcPs (spRecv CT) := by
  refine F.ok scRecv (fun vs H Q E h => ?_) (fun cdv A outer s H vs Q E hr h => ?_)
  · obtain ⟨st, dw, dc, c, full, pend, quick, rfl, _⟩ := h
    rfl
  · obtain ⟨st, dw, dc, c, full, pend, quick, rfl, ⟨dx, hs⟩, he, k⟩ := h
    refine ⟨_, pss_cons (ps_set (i := 4) scRecv.nd rfl (Or.inl rfl) (pe_callB (call_min2 rfl) (by rfl) T.min PyProof.Rows.boot_min (pa_cons (pv 1) (pa_cons (pv 3) pa_nil))))
      (pss_cons (ps_set (i := 5) scRecv.nd rfl (Or.inl rfl) (pe_op op_sub (pv 1) (pv 4)))
      (pss_cons (ps_if (pt_cmpR op_eq (pe_fld (pv 0) rfl) pe_int (nomark _)) (pss_one (ps_ret (pe_tup (pa_cons (pv 4) (pa_cons (pe_cmpR op_eq (pv 5) pe_int (nomark _)) (pa_cons pe_int (pa_cons (pe_op op_sub (pv 3) (pv 4)) pa_nil))))))) pss_nil)
      (pss_cons (ps_asg (pe_callB call_divmodW (by rfl) hD (by decide +kernel) (pa_cons (pe_op op_add (pv 2) (pv 5)) (pa_cons (pe_fld (pv 0) rfl) pa_nil))) (pg_tup rfl (pgs_cons (pg_name (i := 6) scRecv.nd rfl (Or.inl rfl)) (pgs_cons (pg_name (i := 2) scRecv.nd rfl (Or.inl rfl)) pgs_nil))))
      (pss_one (ps_ret (pe_tup (pa_cons (pe_op op_add (pv 4) (pv 6)) (pa_cons (pe_cmpR op_eq (pv 2) pe_int (nomark _)) (pa_cons (pv 2) (pa_cons (pe_op op_sub (pv 3) (pv 4)) pa_nil)))))))))), ?_⟩
    refine q_asg (ev_cb (ea_cons (ev_var rfl) (ea_cons (ev_var rfl) ea_nil)) rc_min2) fun H1 e1 => ?_
    refine q_asg (ev_op (ev_var rfl) (ev_var rfl) rv_I0) fun H2 e2 => ?_
    have e12 := e1.trans e2
    refine q_when (b := decide (c.e = 0)) (et_is (et_test (ev_op (ev_fld (ev_var rfl) (e12 _ _ hs) TC.k.cl TC.ne rfl) ev_c (rv_eq rfl))) dI) (fun hb H3 e3 => ?_) fun hb H3 e3 => ?_
    · have z : c.e = 0 := of_decide_eq_true hb
      refine s_retU (eu_tup (ea_cons (ev_var rfl) (ea_cons (ev_is (ev_op (ev_var rfl) ev_c (rv_eq rfl)) (congrArg V.bl dI)) (ea_cons ev_c (ea_cons (ev_op (ev_var rfl) (ev_var rfl) rv_I0) ea_nil)))) (by show 4 ≤ 100000; decide)) fun p H4 hp e4 h4 => ?_
      have eA := e12.trans e3
      refine k p H4 (fresh_back eA hp) (eA.trans e4) ?_
      rw [h4]
      unfold recv
      rw [if_pos z]
    · have z : c.e ≠ 0 := of_decide_eq_false hb
      have eA := e12.trans e3
      refine ev_op (ev_var rfl) (ev_var rfl) rv_I0 H3 (Ex.refl H3) _ fun H4 e4 => ?_
      refine ev_fld (ev_var rfl) ((eA.trans e4) _ _ hs) TC.k.cl TC.ne rfl H4 (Ex.refl H4) _ fun H5 e5 => ⟨_, _, rfl, he.div z, fun t ht => ?_⟩
      refine ⟨t, _, rfl, st_of upd_same, rfl, _, _, rfl, _, _, rfl, rfl, ?_⟩
      have eB : Ex H (upd H5 t (.tup [.int ((pend + (full - mn full quick)) / c.e), .int ((pend + (full - mn full quick)) % c.e)])) := ((eA.trans e4).trans e5).trans (Ex.new ht)
      refine s_retU (eu_tup (ea_cons (ev_op (ev_var rfl) (ev_var rfl) rv_I0) (ea_cons (ev_is (ev_op (ev_var rfl) ev_c (rv_eq rfl)) (congrArg V.bl dI)) (ea_cons (ev_var rfl) (ea_cons (ev_op (ev_var rfl) (ev_var rfl) rv_I0) ea_nil)))) (by show 4 ≤ 100000; decide)) fun p H6 hp e6 h6 => ?_
      refine k p H6 (fresh_back eB hp) (eB.trans e6) ?_
      rw [h6]
      unfold recv
      rw [if_neg z]
end
end Lw

namespace L3
open PySem PySem.Spec PyProof.Rows L2 Evl
/-! ### values told by their data -/
def DvX (K : PySem.W.Frag) (te : TE) (σ : L2.St) (H : Hp) (d : PyData) : Prop := ∀ H1, Ex H H1 → ∀ Q : VK, (∀ z H2, Ex H1 H2 → Dp K H2 z d → Q z H2) → te σ H1 Q
def DvsX (K : PySem.W.Frag) (ta : TA) (σ : L2.St) (H : Hp) (ds : List PyData) : Prop := ∀ H1, Ex H H1 → ∀ Q : List V → Hp → Prop, (∀ zs H2, Ex H1 H2 → DpAll K H2 zs ds → Q zs H2) → ta σ H1 Q
section
variable {K : PySem.W.Frag} {σ : L2.St} {H : Hp} {te : TE} {ta : TA} {d : PyData} {ds : List PyData} {v : V} {D : Ends} {tz : TS}
theorem dvx_ev (h : Ev te σ H v) (hd : Dp K H v d) : DvX K te σ H d := fun H1 e Q q => h H1 e _ fun H2 e2 => q v H2 e2 (dp_ex (e.trans e2) hd)
theorem dvx_b {b : Bool} (h : Ev te σ H (.bl b)) : DvX K te σ H (.bool b) := dvx_ev h (.bl b)
theorem dvx_i {i : Int} (h : Ev te σ H (.int i)) : DvX K te σ H (.int i) := dvx_ev h (.int i)
theorem dvsx_nil : DvsX K tNil σ H [] := fun H1 _ Q q => q [] H1 (Ex.refl H1) .nil
theorem dvsx_cons (h : DvX K te σ H d) (hr : DvsX K ta σ H ds) : DvsX K (tCons te ta) σ H (d :: ds) := fun H1 e Q q =>
  h H1 e _ fun z H2 e2 hz => hr H2 (e.trans e2) _ fun zs H3 e3 hzs => q (z :: zs) H3 (e2.trans e3) (.cons (dp_ex e3 hz) hzs)
theorem dvx_tup (h : DvsX K ta σ H ds) (hl : ds.length ≤ 100000) : DvX K (tTup ta) σ H (.tuple ds) := fun H1 e Q q =>
  h H1 e _ fun zs H2 e2 hzs => ⟨sz_of (by rw [dps_len' hzs]; exact hl), fun p hp => q _ _ (e2.trans (Ex.new hp)) (.tup (st_of upd_same) (dps_ex (Ex.new hp) hzs))⟩
theorem dvx_lst (h : DvsX K ta σ H ds) (hl : ds.length ≤ 100000) : DvX K (tLst ta) σ H (.list ds) := fun H1 e Q q =>
  h H1 e _ fun zs H2 e2 hzs => ⟨sz_of (by rw [dps_len' hzs]; exact hl), fun p hp => q _ _ (e2.trans (Ex.new hp)) (.lst (sq_of upd_same) (dps_ex (Ex.new hp) hzs))⟩
theorem s_retD (h : DvX K te σ H d) (k : ∀ z H1, Ex H H1 → Dp K H1 z d → D.rt z H1) : tRet te D σ H := h H (Ex.refl H) _ k
theorem q_asgX {i : Nat} (h : DvX K te σ H d) (k : ∀ z H1, Ex H H1 → Dp K H1 z d → tz D (σ.set i (some z)) H1) : tSeq (tAsg te (gName i)) tz D σ H := h H (Ex.refl H) _ k
theorem dvx_is {d' : PyData} (h : DvX K te σ H d) (e : d = d') : DvX K te σ H d' := by
  rw [← e]
  exact h
end
end L3
namespace Lw
open PySem PySem.Spec PyProof.Rows L2 Evl L3 ClX Tn
section
variable {P : Program} {w : World} {K : PySem.W.Frag} {mg : Str → Option Value} {base : Heap} {CT : Addr}
theorem dp_st {H : Hp} {v : V} {s : Stc} (h : Dp K H v (stD s)) : ∃ a, v = .ref a ∧ SqT K H a [.bl s.kept, .bl s.blk, .bl s.stk, .int s.pend, .int s.quick] := by
  cases h with
  | tup hs ha =>
    cases ha with
    | cons a1 r =>
    cases r with
    | cons a2 r =>
    cases r with
    | cons a3 r =>
    cases r with
    | cons a4 r =>
    cases r with
    | cons a5 r =>
    cases r
    cases a1
    cases a2
    cases a3
    cases a4
    cases a5
    exact ⟨_, rfl, hs⟩
theorem dp_stp {H : Hp} {v : V} {p : Stp} (h : Dp K H v (stpD p)) : ∃ a t, v = .ref a ∧ SqT K H a [t, .bl p.2.1, .int p.2.2] ∧ Dp K H t (stD p.1) := by
  cases h with
  | tup hs ha =>
    cases ha with
    | cons a1 r =>
    cases r with
    | cons a2 r =>
    cases r with
    | cons a3 r =>
    cases r
    cases a2
    cases a3
    exact ⟨_, _, rfl, hs, a1⟩
/-! ### _send_rest -/
abbrev rsPs : List Str := ["self", "pending", "quick", "acknowledgments"]
def spRest (K : PySem.W.Frag) (CT : Addr) : Sp := fun vs H Q _ => ∃ (st dw dc : Addr) (c : Cf) (pend quick ack : Int), vs = [.ref st, .int pend, .int quick, .int ack] ∧ TcAt CT H st dw dc c ∧ ∀ v H', Ex H H' → Dp K H' v (stpD (rest c.h pend quick ack)) → Q v H'
theorem scRest : FnScope ["self", "pending", "quick", "acknowledgments", "blocked", "stance"] rsPs (defScope tRest) := ⟨rfl, rfl, rfl, by decide +kernel, rfl, by decide +kernel, by decide +kernel⟩
theorem ok_rest {f : Addr} {fd : FuncData} (F : Fun K "_send_rest" "Stances._send_rest" tRest f fd) (T : Txt K mg) (TC : Tcs K mg CT) : FnOk P w K mg base CX0 1 f fd rsPs (spRest K CT) := by
  refine F.ok scRest (fun vs H Q E h => ?_) (fun cdv A outer s H vs Q E hr h => ?_)
  · obtain ⟨st, dw, dc, c, pend, quick, ack, rfl, _⟩ := h
    rfl
  · obtain ⟨st, dw, dc, c, pend, quick, ack, rfl, ⟨dx, hs⟩, k⟩ := h
    refine ⟨_, pss_cons (ps_set (i := 4) scRest.nd rfl (Or.inl rfl) (pe_cmpR op_ne (pe_fld (pv 0) rfl) pe_str (nomark _)))
      (pss_cons (ps_set (i := 5) scRest.nd rfl (Or.inl rfl) (pe_tup (pa_cons pe_bl (pa_cons (pv 4) (pa_cons (pe_and (pv 4) (pe_one (pe_cmpR op_eq (pv 2) pe_int (nomark _)))) (pa_cons (pv 1) (pa_cons (pe_callB (call_max2 rfl) (by rfl) T.max PyProof.Rows.boot_max (pa_cons (pe_op op_sub (pv 2) pe_int) (pa_cons pe_int pa_nil))) pa_nil)))))))
      (pss_one (ps_ret (pe_tup (pa_cons (pv 5) (pa_cons pe_bl (pa_cons (pe_op op_add (pv 3) (pe_callB (call_min2 rfl) (by rfl) T.min PyProof.Rows.boot_min (pa_cons (pv 2) (pa_cons pe_int pa_nil)))) pa_nil))))))), ?_⟩
    refine q_asg (v := .bl (!decide (c.h = "off"))) (ev_is (ev_op (ev_fld (ev_var rfl) hs TC.k.cl TC.nh rfl) ev_c (rv_ne rfl)) (by rw [dS])) fun H1 e1 => ?_
    refine q_asgX (K := K) (d := stD (rest c.h pend quick ack).1) (dvx_tup (dvsx_cons (dvx_b ev_c) (dvsx_cons (dvx_b (ev_var rfl)) (dvsx_cons (dvx_b (ev_andV (ev_var rfl) fun _ => ev_is (ev_op (ev_var rfl) ev_c (rv_eq rfl)) (congrArg V.bl dI))) (dvsx_cons (dvx_i (ev_var rfl)) (dvsx_cons (dvx_i (ev_cb (ea_cons (ev_op (ev_var rfl) ev_c rv_I0) (ea_cons ev_c ea_nil)) rc_max2)) dvsx_nil))))) (by show 5 ≤ 100000; decide)) fun z H2 e2 hz => ?_
    refine s_retD (K := K) (d := stpD (rest c.h pend quick ack)) (dvx_tup (dvsx_cons (dvx_ev (ev_var rfl) hz) (dvsx_cons (dvx_b ev_c) (dvsx_cons (dvx_i (ev_op (ev_var rfl) (ev_cb (ea_cons (ev_var rfl) (ea_cons ev_c ea_nil)) rc_min2) rv_I0)) dvsx_nil))) (by show 3 ≤ 100000; decide)) fun y H3 e3 hy => ?_
    exact k y H3 ((e1.trans e2).trans e3) hy
theorem dvx_rest {σ : L2.St} {H : Hp} {ta tb tc td : TE} {st dw dc : Addr} {c : Cf} {pend quick ack : Int} {E : XK} (t : TcAt CT H st dw dc c) (ha : Ev ta σ H (.ref st)) (hb : Ev tb σ H (.int pend)) (hc : Ev tc σ H (.int quick)) (hd : Ev td σ H (.int ack)) :
    DvX K (tMeth CT "_send_rest" (spRest K CT) [] E ta (tCons tb (tCons tc (tCons td tNil)))) σ H (stpD (rest c.h pend quick ack)) := fun H1 e Q q =>
  ha H1 e _ fun H2 e2 => by
    obtain ⟨dx, h2⟩ := t.ex (e.trans e2)
    refine ⟨st, dx, _, rfl, h2, rfl, (ea_cons hb (ea_cons hc (ea_cons hd ea_nil))) H2 (e.trans e2) _ fun H3 e3 => ?_⟩
    exact ⟨st, dw, dc, c, pend, quick, ack, rfl, t.ex ((e.trans e2).trans e3), fun v H4 e4 hv => q v H4 ((e2.trans e3).trans e4) hv⟩
/-! ### _clear_way -/
abbrev clPs : List Str := ["self", "stance", "has_rest"]
def spClW (K : PySem.W.Frag) (CT : Addr) : Sp := fun vs H Q _ => ∃ (st dw dc : Addr) (c : Cf) (x : V) (s : Stc) (has : Bool), vs = [.ref st, x, .bl has] ∧ TcAt CT H st dw dc c ∧ Dp K H x (stD s) ∧ ∀ v H', Ex H H' → Dp K H' v (stpD (clear c s has)) → Q v H'
abbrev clN : List Str := ["self", "stance", "has_rest", "kept", "blocked", "stuck", "pending", "quick"]
theorem scClW : FnScope clN clPs (defScope tCl) := ⟨rfl, rfl, rfl, by decide +kernel, rfl, by decide +kernel, by decide +kernel⟩
theorem ok_clw {f fR : Addr} {fd fdR : FuncData} (F : Fun K "_clear_way" "Stances._clear_way" tCl f fd) (T : Txt K mg) (TC : Tcs K mg CT) (MR : Meth K CT "_send_rest" fR) (bR : Binds K fdR rsPs []) (GR : FnOk P w K mg base CX0 1 fR fdR rsPs (spRest K CT)) : FnOk P w K mg base CX0 2 f fd clPs (spClW K CT) := by
  refine F.ok scClW (fun vs H Q E h => ?_) (fun cdv A outer s H vs Q E hr h => ?_)
  · obtain ⟨st, dw, dc, c, x, s, has, rfl, _⟩ := h
    rfl
  · obtain ⟨st, dw, dc, c, x, s, has, rfl, t, hx, k⟩ := h
    refine ⟨_, pss_cons (ps_asg (pv 1) (pg_tup rfl (pgs_cons (pg_name (i := 3) scClW.nd rfl (Or.inl rfl)) (pgs_cons (pg_name (i := 4) scClW.nd rfl (Or.inl rfl)) (pgs_cons (pg_name (i := 5) scClW.nd rfl (Or.inl rfl)) (pgs_cons (pg_name (i := 6) scClW.nd rfl (Or.inl rfl)) (pgs_cons (pg_name (i := 7) scClW.nd rfl (Or.inl rfl)) pgs_nil)))))))
      (pss_cons (ps_if (PW.pt (pw_and (pt_val (pv 2)) (pw_and (pt_not (pt_val (pv 3))) (pw_and1 (pt_not (pt_val (pv 5))))))) (pss_one (ps_ret (pe_meth (pv 0) TC.k.cl MR GR hr bR .nil pass0 (pa_cons (pv 6) (pa_cons (pv 7) (pa_cons pe_int pa_nil)))))) pss_nil)
      (pss_one (ps_ret (pe_tup (pa_cons (pe_tup (pa_cons (pv 3) (pa_cons (pv 5) (pa_cons (pv 5) (pa_cons (pv 6) (pa_cons (pv 7) pa_nil)))))) (pa_cons pe_bl (pa_cons pe_int pa_nil))))))), ?_⟩
    obtain ⟨a, rfl, hs⟩ := dp_st hx
    refine ⟨_, rfl, a, _, rfl, hs, rfl, _, _, rfl, _, _, rfl, _, _, rfl, _, _, rfl, _, _, rfl, rfl, ?_⟩
    refine q_when (b := has && (!s.kept && !s.stk)) (et_and (et_B (ev_var rfl)) fun _ => et_and (et_not (et_B (ev_var rfl))) fun _ => et_not (et_B (ev_var rfl))) (fun hb H1 e1 => ?_) fun hb H1 e1 => ?_
    · refine s_retD (K := K) (dvx_rest (c := c) (t.ex e1) (ev_var rfl) (ev_var rfl) (ev_var rfl) ev_c) fun v H2 e2 hv => k v H2 (e1.trans e2) ?_
      unfold clear
      rw [if_pos hb]
      exact hv
    · refine s_retD (K := K) (d := stpD (clear c s has)) ?_ fun v H2 e2 hv => k v H2 (e1.trans e2) hv
      unfold clear
      rw [if_neg (by rw [hb]; simp)]
      exact dvx_tup (dvsx_cons (dvx_tup (dvsx_cons (dvx_b (ev_var rfl)) (dvsx_cons (dvx_b (ev_var rfl)) (dvsx_cons (dvx_b (ev_var rfl)) (dvsx_cons (dvx_i (ev_var rfl)) (dvsx_cons (dvx_i (ev_var rfl)) dvsx_nil))))) (by show 5 ≤ 100000; decide)) (dvsx_cons (dvx_b ev_c) (dvsx_cons (dvx_i ev_c) dvsx_nil))) (by show 3 ≤ 100000; decide)
end
end Lw

namespace Lw
open PySem PySem.Spec PyProof.Rows L2 Evl L3 ClX Tn
section
variable {P : Program} {w : World} {K : PySem.W.Frag} {mg : Str → Option Value} {base : Heap} {CT : Addr}
theorem stw_recv {σ : L2.St} {H : Hp} {ta tb tc td : TE} {st dw dc : Addr} {c : Cf} {full pend quick : Int} {E : XK} (t : TcAt CT H st dw dc c) (he : okE c.e) (ha : Ev ta σ H (.ref st)) (hb : Ev tb σ H (.int full)) (hc : Ev tc σ H (.int pend)) (hd : Ev td σ H (.int quick)) :
    EvU (tMeth CT "_receive_full" (spRecv CT) [] E ta (tCons tb (tCons tc (tCons td tNil)))) σ H [.int (recv c.e full pend quick).ack, .bl (recv c.e full pend quick).last, .int (recv c.e full pend quick).pend, .int (recv c.e full pend quick).quick] := fun H1 e Q q =>
  ha H1 e _ fun H2 e2 => by
    obtain ⟨dx, h2⟩ := t.ex (e.trans e2)
    refine ⟨st, dx, _, rfl, h2, rfl, (ea_cons hb (ea_cons hc (ea_cons hd ea_nil))) H2 (e.trans e2) _ fun H3 e3 => ?_⟩
    exact ⟨st, dw, dc, c, full, pend, quick, rfl, t.ex ((e.trans e2).trans e3), he, fun p H4 hp e4 h4 => q p H4 (fresh_back (e2.trans e3) hp) ((e2.trans e3).trans e4) h4⟩
/-! ### _write -/
abbrev wrPs : List Str := ["self", "stance", "full", "has_rest", "mode"]
abbrev wrN : List Str := ["self", "stance", "full", "has_rest", "mode", "kept", "blocked", "stuck", "pending", "quick", "acknowledgments", "is_last_covered"]
def spWrW (K : PySem.W.Frag) (CT : Addr) : Sp := fun vs H Q _ => ∃ (st dw dc : Addr) (c : Cf) (x : V) (s : Stc) (full : Int) (has : Bool) (mode : Str), vs = [.ref st, x, .int full, .bl has, .str mode] ∧ TcAt CT H st dw dc c ∧ okE c.e ∧ Dp K H x (stD s) ∧ ∀ v H', Ex H H' → Dp K H' v (stpD (Tn.write c s full has mode)) → Q v H'
theorem scWrW : FnScope wrN wrPs (defScope tWr) := ⟨rfl, rfl, rfl, by decide +kernel, rfl, by decide +kernel, by decide +kernel⟩
theorem ok_wrw {f fR fV : Addr} {fd fdR fdV : FuncData} (F : Fun K "_write" "Stances._write" tWr f fd) (T : Txt K mg) (TC : Tcs K mg CT) (MR : Meth K CT "_send_rest" fR) (bR : Binds K fdR rsPs []) (GR : FnOk P w K mg base CX0 1 fR fdR rsPs (spRest K CT))
    (MV : Meth K CT "_receive_full" fV) (bV : Binds K fdV rcPs []) (GV : FnOk P w K mg base CX0 1 fV fdV rcPs (spRecv CT)) : FnOk P w K mg base CX0 2 f fd wrPs (spWrW K CT) := by
  refine F.ok scWrW (fun vs H Q E h => ?_) (fun cdv A outer s H vs Q E hr h => ?_)
  · obtain ⟨st, dw, dc, c, x, s, full, has, mode, rfl, _⟩ := h
    rfl
  · obtain ⟨st, dw, dc, c, x, s, full, has, mode, rfl, t, he, hx, k⟩ := h
    refine ⟨_, pss_cons (ps_asg (pv 1) (pg_tup rfl (pgs_cons (pg_name (i := 5) scWrW.nd rfl (Or.inl rfl)) (pgs_cons (pg_name (i := 6) scWrW.nd rfl (Or.inl rfl)) (pgs_cons (pg_name (i := 7) scWrW.nd rfl (Or.inl rfl)) (pgs_cons (pg_name (i := 8) scWrW.nd rfl (Or.inl rfl)) (pgs_cons (pg_name (i := 9) scWrW.nd rfl (Or.inl rfl)) pgs_nil)))))))
      (pss_cons (ps_set (i := 10) scWrW.nd rfl (Or.inl rfl) pe_int)
      (pss_cons (ps_if (pt_cmpR op_gt (pv 2) pe_int (nomark _))
        (pss_cons (ps_asg (pe_meth (pv 0) TC.k.cl MV GV hr bV .nil pass0 (pa_cons (pv 2) (pa_cons (pv 8) (pa_cons (pv 9) pa_nil)))) (pg_tup rfl (pgs_cons (pg_name (i := 10) scWrW.nd rfl (Or.inl rfl)) (pgs_cons (pg_name (i := 11) scWrW.nd rfl (Or.inl rfl)) (pgs_cons (pg_name (i := 8) scWrW.nd rfl (Or.inl rfl)) (pgs_cons (pg_name (i := 9) scWrW.nd rfl (Or.inl rfl)) pgs_nil))))))
          (pss_one (ps_if (pt_cmpR op_eq (pe_fld (pv 0) rfl) pe_str (nomark _))
            (pss_cons (ps_set (i := 6) scWrW.nd rfl (Or.inl rfl) pe_bl) (pss_one (ps_set (i := 7) scWrW.nd rfl (Or.inl rfl) (pe_not (pv 11)))))
            (pss_one (ps_if (pt_cmpR op_gt (pv 10) pe_int (nomark _)) (pss_one (ps_set (i := 7) scWrW.nd rfl (Or.inl rfl) pe_bl)) pss_nil))))) pss_nil)
      (pss_cons (ps_if (PW.pt (pw_and (pt_val (pv 3)) (pw_and1 (PW.pt (pw_or (pt_cmpR op_eq (pv 4) pe_str (nomark _)) (pw_or1 (PW.pt (pw_and (pt_cmpR op_eq (pv 4) pe_str (nomark _)) (pw_and1 (pt_not (pt_val (pv 6))))))))))))
        (pss_one (ps_ret (pe_meth (pv 0) TC.k.cl MR GR hr bR .nil pass0 (pa_cons (pv 8) (pa_cons (pv 9) (pa_cons (pv 10) pa_nil)))))) pss_nil)
      (pss_cons (ps_set (i := 5) scWrW.nd rfl (Or.inl rfl) (pe_and (pv 3) (pe_one (pe_cmpR op_eq (pv 4) pe_str (nomark _)))))
      (pss_one (ps_ret (pe_tup (pa_cons (pe_tup (pa_cons (pv 5) (pa_cons (pv 6) (pa_cons (pv 7) (pa_cons (pv 8) (pa_cons (pv 9) pa_nil)))))) (pa_cons pe_bl (pa_cons (pv 10) pa_nil)))))))))), ?_⟩
    obtain ⟨a, rfl, hs⟩ := dp_st hx
    refine ⟨_, rfl, a, _, rfl, hs, rfl, _, _, rfl, _, _, rfl, _, _, rfl, _, _, rfl, _, _, rfl, rfl, ?_⟩
    refine q_asg ev_c fun H1 e1 => ?_
    generalize ht : (tSeq (tIfS (tAnd _ _) _ tNext) _ : TS) = tz
    have fin : ∀ (o : Option V) (H2 : Hp), Ex H H2 → tz { nx := fun _ H' => Q .non H', rt := Q } [some (.ref st), some (.ref a), some (.int full), some (.bl has), some (.str mode), some (.bl s.kept), some (.bl (mid c s full).blk), some (.bl (mid c s full).stk), some (.int (mid c s full).pend), some (.int (mid c s full).quick), some (.int (mid c s full).ack), o] H2 := fun o H2 e2 => by
      rw [← ht]
      refine q_when (b := has && (decide (mode = "push") || (decide (mode = "plain") && !(mid c s full).blk))) (et_and (et_B (ev_var rfl)) fun _ => et_or (et_is (et_test (ev_op (ev_var rfl) ev_c (rv_eq rfl))) dS) fun _ => et_and (et_is (et_test (ev_op (ev_var rfl) ev_c (rv_eq rfl))) dS) fun _ => et_not (et_B (ev_var rfl))) (fun hb H3 e3 => ?_) fun hb H3 e3 => ?_
      · refine s_retD (K := K) (dvx_rest (c := c) (t.ex (e2.trans e3)) (ev_var rfl) (ev_var rfl) (ev_var rfl) (ev_var rfl)) fun v H4 e4 hv => k v H4 ((e2.trans e3).trans e4) ?_
        unfold Tn.write
        rw [if_pos hb]
        exact hv
      · refine q_asg (ev_andV (ev_var rfl) fun _ => ev_is (ev_op (ev_var rfl) ev_c (rv_eq rfl)) (congrArg V.bl dS)) fun H4 e4 => ?_
        refine s_retD (K := K) (d := stpD (Tn.write c s full has mode)) ?_ fun v H5 e5 hv => k v H5 (((e2.trans e3).trans e4).trans e5) hv
        unfold Tn.write
        rw [if_neg (by rw [hb]; simp)]
        exact dvx_tup (dvsx_cons (dvx_tup (dvsx_cons (dvx_b (ev_var rfl)) (dvsx_cons (dvx_b (ev_var rfl)) (dvsx_cons (dvx_b (ev_var rfl)) (dvsx_cons (dvx_i (ev_var rfl)) (dvsx_cons (dvx_i (ev_var rfl)) dvsx_nil))))) (by show 5 ≤ 100000; decide)) (dvsx_cons (dvx_b ev_c) (dvsx_cons (dvx_i (ev_var rfl)) dvsx_nil))) (by show 3 ≤ 100000; decide)
    refine q_when (b := decide (full > 0)) (et_test (ev_op (ev_var rfl) ev_c rv_I0)) (fun hb H2 e2 => ?_) fun hb H2 e2 => ?_
    · have hf : full > 0 := of_decide_eq_true hb
      refine stw_recv (c := c) (t.ex (e1.trans e2)) he (ev_var rfl) (ev_var rfl) (ev_var rfl) (ev_var rfl) H2 (Ex.refl H2) _ fun p H3 hp e3 h3 => ?_
      refine ⟨p, _, rfl, st_of h3, rfl, _, _, rfl, _, _, rfl, _, _, rfl, _, _, rfl, rfl, ?_⟩
      have eA := (e1.trans e2).trans e3
      obtain ⟨dx, hst⟩ := t.ex eA
      refine s_if (b := decide (c.h = "all")) (et_is (et_test (ev_op (ev_fld (ev_var rfl) hst TC.k.cl TC.nh rfl) ev_c (rv_eq rfl))) dS) (fun hb2 H4 e4 => ?_) fun hb2 H4 e4 => ?_
      · refine q_asg ev_c fun H5 e5 => s_asg (ev_notV (ev_var rfl)) fun H6 e6 => ?_
        have z := fin (some (.bl (recv c.e full s.pend s.quick).last)) H6 (((eA.trans e4).trans e5).trans e6)
        unfold mid at z
        rw [if_pos hf, if_pos (of_decide_eq_true hb2)] at z
        exact z
      · refine s_if (b := decide ((recv c.e full s.pend s.quick).ack > 0)) (et_test (ev_op (ev_var rfl) ev_c rv_I0)) (fun hb3 H5 e5 => ?_) fun hb3 H5 e5 => ?_
        · refine s_asg ev_c fun H6 e6 => ?_
          have z := fin (some (.bl (recv c.e full s.pend s.quick).last)) H6 (((eA.trans e4).trans e5).trans e6)
          unfold mid at z
          rw [if_pos hf, if_neg (of_decide_eq_false hb2), if_pos (of_decide_eq_true hb3)] at z
          exact z
        · have z := fin (some (.bl (recv c.e full s.pend s.quick).last)) H5 ((eA.trans e4).trans e5)
          unfold mid at z
          rw [if_pos hf, if_neg (of_decide_eq_false hb2), if_neg (of_decide_eq_false hb3)] at z
          exact z
    · have z := fin none H2 (e1.trans e2)
      unfold mid at z
      rw [if_neg (of_decide_eq_false hb)] at z
      exact z
end
end Lw

namespace L3
open PySem PySem.Spec PyProof.Rows L2 Evl
section
variable {P : Program} {w : World} {α : Type} {K : PySem.W.Frag} {H : Hp} {σ : L2.St} {te ta tv : TE} {D : Ends} {tz : TS} {v : V} {x CD dx d b : Addr} {fs : List (Str × V)} {f : Str} {kd F : α → PyData} {a : α} {xs : List NkE}
theorem s_fldR (hv : Ev tv σ H v) (ha : Ev ta σ H (.ref x)) (hx : H x = some (.ins CD dx fs)) (cl : Cls K CD) (no : NoAttr K CD f) (hl : fs.length < 1000) (k : ∀ H1, Ex H H1 → D.nx σ (upd H1 x (.ins CD dx (putF f v fs)))) : sFld K ta tv f D σ H :=
  hv H (Ex.refl H) _ fun H1 e1 => ha H1 e1 _ fun H2 e2 => ⟨x, CD, dx, fs, rfl, (e1.trans e2) _ _ hx, cl, no, hl, k H2 (e1.trans e2)⟩
theorem q_fldR (hv : Ev tv σ H v) (ha : Ev ta σ H (.ref x)) (hx : H x = some (.ins CD dx fs)) (cl : Cls K CD) (no : NoAttr K CD f) (hl : fs.length < 1000) (k : ∀ H1, Ex H H1 → tz D σ (upd H1 x (.ins CD dx (putF f v fs)))) : tSeq (sFld K ta tv f) tz D σ H :=
  s_fldR (D := { D with nx := tz D }) hv ha hx cl no hl k
theorem s_retOp {r : R2} {tb : TE} {y z : V} (ha : Ev ta σ H y) (hb : Ev tb σ H z) (k : ∀ H1, Ex H H1 → r y z H1 D.rt) : tRet (tOp r ta tb) D σ H := ha H (Ex.refl H) _ fun H1 e1 => hb H1 e1 _ fun H2 e2 => k H2 (e1.trans e2)
theorem rv_niC (k : Ckd kd F) (hb : Dp K H (.ref b) (kd a)) (c : Cch P w K H d xs kd F) : RV (rNiC P w K kd F) (.ref b) (.ref d) H (.bl (!(atKey xs (nkD (kd a))).isSome)) := fun H1 e Q q =>
  ⟨b, d, a, xs, rfl, rfl, dp_ex e hb, c.ex k e, q H1 (Ex.refl H1)⟩
theorem ex_delS {H1 H2 : Hp} (e : Ex H1 H2) {o : HO} : Ex (del H1 x) (del (upd H2 x o) x) := by
  rw [del_upd]
  exact ex_del e
end
end L3
namespace Lw
open PySem PySem.Spec PyProof.Rows L2 Evl L3 ClX Tn
section
variable {P : Program} {w : World} {K : PySem.W.Frag} {mg : Str → Option Value} {base : Heap} {CT : Addr}
theorem dp_tupR {H : Hp} {v : V} {ds : List PyData} (h : Dp K H v (.tuple ds)) : ∃ b, v = .ref b := by
  cases h with
  | tup _ _ => exact ⟨_, rfl⟩
theorem TcAt.dl {H H1 : Hp} {st dw dc d : Addr} {c : Cf} (t : TcAt CT H st dw dc c) (h : ∀ u, H d = some u → ∀ C dx fs, u ≠ .ins C dx fs) (e : Ex (del H d) (del H1 d)) : TcAt CT H1 st dw dc c := by
  obtain ⟨dx, hs⟩ := t
  have n : st ≠ d := fun z => h _ (by rw [← z]; exact hs) _ _ _ rfl
  have z := e st _ (by rw [del_ne n]; exact hs)
  rw [del_ne n] at z
  exact ⟨dx, z⟩
theorem cch_ni {α : Type} {H : Hp} {d : Addr} {xs : List NkE} {kd F : α → PyData} (c : Cch P w K H d xs kd F) : ∀ u, H d = some u → ∀ C dx fs, u ≠ .ins C dx fs := fun u h C dx fs z => by
  rw [c.at_, z] at h
  cases h
theorem dvx_wrw {σ : L2.St} {H : Hp} {ta tb tc td te : TE} {st dw dc : Addr} {c : Cf} {s : Stc} {full : Int} {has : Bool} {mode : Str} {x : V} {E : XK} (t : TcAt CT H st dw dc c) (he : okE c.e) (hx : Dp K H x (stD s)) (ha : Ev ta σ H (.ref st)) (hb : Ev tb σ H x) (hc : Ev tc σ H (.int full)) (hd : Ev td σ H (.bl has)) (hm : Ev te σ H (.str mode)) :
    DvX K (tMeth CT "_write" (spWrW K CT) [] E ta (tCons tb (tCons tc (tCons td (tCons te tNil))))) σ H (stpD (Tn.write c s full has mode)) := fun H1 e Q q =>
  ha H1 e _ fun H2 e2 => by
    obtain ⟨dx, h2⟩ := t.ex (e.trans e2)
    refine ⟨st, dx, _, rfl, h2, rfl, (ea_cons hb (ea_cons hc (ea_cons hd (ea_cons hm ea_nil)))) H2 (e.trans e2) _ fun H3 e3 => ?_⟩
    exact ⟨st, dw, dc, c, x, s, full, has, mode, rfl, t.ex ((e.trans e2).trans e3), he, dp_ex ((e.trans e2).trans e3) hx, fun v H4 e4 hv => q v H4 ((e2.trans e3).trans e4) hv⟩
theorem dvx_clw {σ : L2.St} {H : Hp} {ta tb td : TE} {st dw dc : Addr} {c : Cf} {s : Stc} {has : Bool} {x : V} {E : XK} (t : TcAt CT H st dw dc c) (hx : Dp K H x (stD s)) (ha : Ev ta σ H (.ref st)) (hb : Ev tb σ H x) (hd : Ev td σ H (.bl has)) :
    DvX K (tMeth CT "_clear_way" (spClW K CT) [] E ta (tCons tb (tCons td tNil))) σ H (stpD (clear c s has)) := fun H1 e Q q =>
  ha H1 e _ fun H2 e2 => by
    obtain ⟨dx, h2⟩ := t.ex (e.trans e2)
    refine ⟨st, dx, _, rfl, h2, rfl, (ea_cons hb (ea_cons hd ea_nil)) H2 (e.trans e2) _ fun H3 e3 => ?_⟩
    exact ⟨st, dw, dc, c, x, s, has, rfl, t.ex ((e.trans e2).trans e3), dp_ex ((e.trans e2).trans e3) hx, fun v H4 e4 hv => q v H4 ((e2.trans e3).trans e4) hv⟩
/-! ### after_write -/
def spAW (P : Program) (w : World) (K : PySem.W.Frag) (CT : Addr) : Sp := fun vs H Q _ => ∃ (st dw dc : Addr) (c : Cf) (x : V) (s : Stc) (full : Int) (has : Bool) (mode : Str) (xs : List NkE), vs = [.ref st, x, .int full, .bl has, .str mode] ∧ TcAt CT H st dw dc c ∧ okE c.e ∧ Dp K H x (stD s) ∧ Cch P w K H dw xs wkD (wF c) ∧ xs.length ≤ 900000 ∧
  ∀ v H' ys, ys.length ≤ xs.length + 1 → Ex (del H dw) (del H' dw) → Cch P w K H' dw ys wkD (wF c) → Dp K H' v (stpD (Tn.write c s full has mode)) → Q v H'
theorem scAW : FnScope ["self", "stance", "full", "has_rest", "mode", "key"] wrPs (defScope tAW) := ⟨rfl, rfl, rfl, by decide +kernel, rfl, by decide +kernel, by decide +kernel⟩
theorem ok_aw {f fW : Addr} {fd fdW : FuncData} (F : Fun K "after_write" "Stances.after_write" tAW f fd) (TC : Tcs K mg CT) (MW : Meth K CT "_write" fW) (bW : Binds K fdW wrPs []) (GW : FnOk P w K mg base CX0 2 fW fdW wrPs (spWrW K CT)) : FnOk P w K mg base CX0 3 f fd wrPs (spAW P w K CT) := by
  refine F.ok scAW (fun vs H Q E h => ?_) (fun cdv A outer s H vs Q E hr h => ?_)
  · obtain ⟨st, dw, dc, c, x, s, full, has, mode, xs, rfl, _⟩ := h
    rfl
  · obtain ⟨st, dw, dc, c, x, s, full, has, mode, xs, rfl, t, he, hx, cc, hl, k⟩ := h
    have hr2 : Room 2 _ := hr.mono (by decide)
    refine ⟨_, pss_cons (ps_set (i := 5) scAW.nd rfl (Or.inl rfl) (pe_tup (pa_cons (pv 1) (pa_cons (pv 2) (pa_cons (pv 3) (pa_cons (pv 4) pa_nil))))))
      (pss_cons (ps_if (pt_cmpR (op_niC (wkd c) hr.units) (pv 5) (pe_fld (pv 0) rfl) rfl) (pss_one (ps_asg (pe_meth (pv 0) TC.k.cl MW GW hr2 bW .nil pass0 (pa_cons (pv 1) (pa_cons (pv 2) (pa_cons (pv 3) (pa_cons (pv 4) pa_nil))))) (pg_sub (pe_fld (pv 0) rfl) (pv 5) (set_C (wkd c) hr.units)))) pss_nil)
      (pss_one (ps_ret (pe_ix (ix_C (wkd c) hr.units) (pe_fld (pv 0) rfl) (pv 5) (fun _ _ => rfl))))), ?_⟩
    obtain ⟨key, hkey⟩ : ∃ key : WK, key = (s, full, has, mode) := ⟨_, rfl⟩
    refine q_asgX (K := K) (d := wkD key) (by rw [hkey]; exact dvx_tup (dvsx_cons (dvx_ev (ev_var rfl) hx) (dvsx_cons (dvx_i (ev_var rfl)) (dvsx_cons (dvx_b (ev_var rfl)) (dvsx_cons (dvx_ev (ev_var rfl) (.str mode)) dvsx_nil)))) (by show 4 ≤ 100000; decide)) fun z H1 e1 hz => ?_
    obtain ⟨b, rfl⟩ := dp_tupR hz
    have hv : wF c key = stpD (Tn.write c s full has mode) := by rw [hkey] <;> rfl
    generalize ht : (tRet _ : TS) = tz
    have fin : ∀ (H2 : Hp) (ys : List NkE), ys.length ≤ xs.length + 1 → Cch P w K H2 dw ys wkD (wF c) → (atKey ys (nkD (wkD key))).isSome = true → Ex (del H1 dw) (del H2 dw) → tz { nx := fun _ H' => Q .non H', rt := Q } [some (.ref st), some x, some (.int full), some (.bl has), some (.str mode), some (.ref b)] H2 := fun H2 ys h1 h2 h3 h4 => by
      rw [← ht]
      have c1 := cc.ex (wkd c) e1
      have t2 := (t.ex e1).dl (cch_ni c1) h4
      obtain ⟨dx, hs⟩ := t2
      have hz2 : Dp K H2 (.ref b) (wkD key) := dp_ext (ext_del c1.nt h4) rfl hz
      refine s_retOp (ev_fld (ev_var rfl) hs TC.k.cl TC.nw rfl) (ev_var rfl) fun H3 e3 => ⟨b, dw, key, ys, rfl, rfl, dp_ex e3 hz2, h2.ex (wkd c) e3, h3, fun v hv2 => ?_⟩
      exact k v H3 ys h1 (((ex_del e1).trans h4).trans (ex_del e3)) (h2.ex (wkd c) e3) (by rw [← hv]; exact hv2)
    obtain ⟨dx, hs⟩ := t.ex e1
    refine q_when (b := !(atKey xs (nkD (wkD key))).isSome) (et_test (ev_op (ev_var rfl) (ev_fld (ev_var rfl) hs TC.k.cl TC.nw rfl) (rv_niC (wkd c) hz (cc.ex (wkd c) e1)))) (fun hb H2 e2 => ?_) fun hb H2 e2 => ?_
    · have e12 := e1.trans e2
      refine dvx_wrw (c := c) (t.ex e12) he (dp_ex e12 hx) (ev_var rfl) (ev_var rfl) (ev_var rfl) (ev_var rfl) (ev_var rfl) H2 (Ex.refl H2) _ fun v H3 e3 hv3 => ?_
      refine ev_fld (ev_var rfl) ((e2.trans e3) _ _ hs) TC.k.cl TC.nw rfl H3 (Ex.refl H3) _ fun H4 e4 => ⟨_, rfl, b, dw, key, xs, rfl, rfl, dp_ex ((e2.trans e3).trans e4) hz, by rw [hv]; exact dp_ex e4 hv3, cc.ex (wkd c) ((e12.trans e3).trans e4), by omega, fun H5 ys y1 y2 y3 y4 => ?_⟩
      exact fin H5 ys y1 y2 y3 ((ex_del ((e2.trans e3).trans e4)).trans y4)
    · exact fin H2 xs (Nat.le_succ _) (cc.ex (wkd c) (e1.trans e2)) (by simpa using hb) (ex_del e2)
/-! ### after_clearing -/
def spAC (P : Program) (w : World) (K : PySem.W.Frag) (CT : Addr) : Sp := fun vs H Q _ => ∃ (st dw dc : Addr) (c : Cf) (x : V) (s : Stc) (has : Bool) (xs : List NkE), vs = [.ref st, x, .bl has] ∧ TcAt CT H st dw dc c ∧ Dp K H x (stD s) ∧ Cch P w K H dc xs ckD (cF c) ∧ xs.length ≤ 900000 ∧
  ∀ v H' ys, ys.length ≤ xs.length + 1 → Ex (del H dc) (del H' dc) → Cch P w K H' dc ys ckD (cF c) → Dp K H' v (stpD (clear c s has)) → Q v H'
theorem scAC : FnScope ["self", "stance", "has_rest", "key"] clPs (defScope tAC) := ⟨rfl, rfl, rfl, by decide +kernel, rfl, by decide +kernel, by decide +kernel⟩
theorem ok_ac {f fW : Addr} {fd fdW : FuncData} (F : Fun K "after_clearing" "Stances.after_clearing" tAC f fd) (TC : Tcs K mg CT) (MW : Meth K CT "_clear_way" fW) (bW : Binds K fdW clPs []) (GW : FnOk P w K mg base CX0 2 fW fdW clPs (spClW K CT)) : FnOk P w K mg base CX0 3 f fd clPs (spAC P w K CT) := by
  refine F.ok scAC (fun vs H Q E h => ?_) (fun cdv A outer s H vs Q E hr h => ?_)
  · obtain ⟨st, dw, dc, c, x, s, has, xs, rfl, _⟩ := h
    rfl
  · obtain ⟨st, dw, dc, c, x, s, has, xs, rfl, t, hx, cc, hl, k⟩ := h
    have hr2 : Room 2 _ := hr.mono (by decide)
    refine ⟨_, pss_cons (ps_set (i := 3) scAC.nd rfl (Or.inl rfl) (pe_tup (pa_cons (pv 1) (pa_cons (pv 2) pa_nil))))
      (pss_cons (ps_if (pt_cmpR (op_niC (ckd c) hr.units) (pv 3) (pe_fld (pv 0) rfl) rfl) (pss_one (ps_asg (pe_meth (pv 0) TC.k.cl MW GW hr2 bW .nil pass0 (pa_cons (pv 1) (pa_cons (pv 2) pa_nil))) (pg_sub (pe_fld (pv 0) rfl) (pv 3) (set_C (ckd c) hr.units)))) pss_nil)
      (pss_one (ps_ret (pe_ix (ix_C (ckd c) hr.units) (pe_fld (pv 0) rfl) (pv 3) (fun _ _ => rfl))))), ?_⟩
    obtain ⟨key, hkey⟩ : ∃ key : CK, key = (s, has) := ⟨_, rfl⟩
    refine q_asgX (K := K) (d := ckD key) (by rw [hkey]; exact dvx_tup (dvsx_cons (dvx_ev (ev_var rfl) hx) (dvsx_cons (dvx_b (ev_var rfl)) dvsx_nil)) (by show 2 ≤ 100000; decide)) fun z H1 e1 hz => ?_
    obtain ⟨b, rfl⟩ := dp_tupR hz
    have hv : cF c key = stpD (clear c s has) := by rw [hkey] <;> rfl
    generalize ht : (tRet _ : TS) = tz
    have fin : ∀ (H2 : Hp) (ys : List NkE), ys.length ≤ xs.length + 1 → Cch P w K H2 dc ys ckD (cF c) → (atKey ys (nkD (ckD key))).isSome = true → Ex (del H1 dc) (del H2 dc) → tz { nx := fun _ H' => Q .non H', rt := Q } [some (.ref st), some x, some (.bl has), some (.ref b)] H2 := fun H2 ys h1 h2 h3 h4 => by
      rw [← ht]
      have c1 := cc.ex (ckd c) e1
      have t2 := (t.ex e1).dl (cch_ni c1) h4
      obtain ⟨dx, hs⟩ := t2
      have hz2 : Dp K H2 (.ref b) (ckD key) := dp_ext (ext_del c1.nt h4) rfl hz
      refine s_retOp (ev_fld (ev_var rfl) hs TC.k.cl TC.nc rfl) (ev_var rfl) fun H3 e3 => ⟨b, dc, key, ys, rfl, rfl, dp_ex e3 hz2, h2.ex (ckd c) e3, h3, fun v hv2 => ?_⟩
      exact k v H3 ys h1 (((ex_del e1).trans h4).trans (ex_del e3)) (h2.ex (ckd c) e3) (by rw [← hv]; exact hv2)
    obtain ⟨dx, hs⟩ := t.ex e1
    refine q_when (b := !(atKey xs (nkD (ckD key))).isSome) (et_test (ev_op (ev_var rfl) (ev_fld (ev_var rfl) hs TC.k.cl TC.nc rfl) (rv_niC (ckd c) hz (cc.ex (ckd c) e1)))) (fun hb H2 e2 => ?_) fun hb H2 e2 => ?_
    · have e12 := e1.trans e2
      refine dvx_clw (c := c) (t.ex e12) (dp_ex e12 hx) (ev_var rfl) (ev_var rfl) (ev_var rfl) H2 (Ex.refl H2) _ fun v H3 e3 hv3 => ?_
      refine ev_fld (ev_var rfl) ((e2.trans e3) _ _ hs) TC.k.cl TC.nc rfl H3 (Ex.refl H3) _ fun H4 e4 => ⟨_, rfl, b, dc, key, xs, rfl, rfl, dp_ex ((e2.trans e3).trans e4) hz, by rw [hv]; exact dp_ex e4 hv3, cc.ex (ckd c) ((e12.trans e3).trans e4), by omega, fun H5 ys y1 y2 y3 y4 => ?_⟩
      exact fin H5 ys y1 y2 y3 ((ex_del ((e2.trans e3).trans e4)).trans y4)
    · exact fin H2 xs (Nat.le_succ _) (cc.ex (ckd c) (e1.trans e2)) (by simpa using hb) (ex_del e2)
/-! ### Stances(setting, speaker) -/
abbrev tiPs : List Str := ["self", "setting", "speaker"]
/-- the hold of the one, the every of the other -/
def cfOf (sp : Int) (h : Str) (e : Int) (h2 : Str) (e2 : Int) : Cf := if sp = 0 then ⟨h, e2⟩ else ⟨h2, e⟩
def spTIni (P : Program) (w : World) (K : PySem.W.Frag) (CT CS CP : Addr) : Sp := fun vs H Q _ => ∃ (x dx m : Addr) (sp n : Int) (p q : Addr) (h : Str) (e u : Int) (h2 : Str) (e2 u2 : Int), vs = [.ref x, .ref m, .int sp] ∧ H x = some (.ins CT dx []) ∧ SetV K CS CP (del H x) m n p q h e u h2 e2 u2 ∧ (sp = 0 ∨ sp = 1) ∧
  ∀ H' dw dc, dw ≠ dc → H dw = none → H dc = none → Ex (del H x) (del H' x) → H' x = some (.ins CT dx (tcF (cfOf sp h e h2 e2) dw dc)) → H' dw = some (dicE P w dw []) → H' dc = some (dicE P w dc []) → Q .non H'
theorem scTIni : FnScope tiPs tiPs (defScope tIni) := ⟨rfl, rfl, rfl, by decide +kernel, rfl, by decide +kernel, by decide +kernel⟩
theorem ev_pol {σ : L2.St} {H : Hp} {CS CP m : Addr} {ta tb : TE} {sp n : Int} {p q : Addr} {h : Str} {e u : Int} {h2 : Str} {e2 u2 : Int} (TS : Stg K mg CS) (s : SetV K CS CP H m n p q h e u h2 e2 u2) (ha : Ev ta σ H (.ref m)) (hb : Ev tb σ H (.int sp)) (hs : sp = 0 ∨ sp = 1) :
    Ev (tOp (rIxT K) (tFld K ta "policies") tb) σ H (.ref (if sp = 0 then p else q)) := by
  obtain ⟨⟨dx, r, h1, h3⟩, _, _⟩ := s
  refine ev_op (ev_fld ha h1 TS.k.cl TS.np rfl) hb (rv_ixT h3 ?_)
  rcases hs with rfl | rfl
  · exact atI_nat (j := 0) rfl
  · exact atI_nat (j := 1) rfl
theorem pol_sel {H : Hp} {CS CP m : Addr} {sp n : Int} {p q : Addr} {h : Str} {e u : Int} {h2 : Str} {e2 u2 : Int} (s : SetV K CS CP H m n p q h e u h2 e2 u2) (sp : Int) : PolAt CP H (if sp = 0 then p else q) (if sp = 0 then h else h2) (if sp = 0 then e else e2) (if sp = 0 then u else u2) := by
  by_cases c : sp = 0
  · rw [if_pos c, if_pos c, if_pos c, if_pos c]
    exact s.p
  · rw [if_neg c, if_neg c, if_neg c, if_neg c]
    exact s.q
theorem ok_tini {f CS CP : Addr} {fd : FuncData} (F : Fun K "__init__" "Stances.__init__" tIni f fd) (TC : Tcs K mg CT) (TS : Stg K mg CS) (TP : Pol K mg CP) : FnOk P w K mg base CX0 1 f fd tiPs (spTIni P w K CT CS CP) := by
  refine F.ok scTIni (fun vs H Q E h => ?_) (fun cdv A outer s H vs Q E hr h => ?_)
  · obtain ⟨x, dx, m, sp, n, p, q, h, e, u, h2, e2, u2, rfl, _⟩ := h
    rfl
  · obtain ⟨x, dx, m, sp, n, p, q, h, e, u, h2, e2, u2, rfl, hx, sv, hsp, k⟩ := h
    refine ⟨_, pss_cons (ps_fld (pv 0) (pe_fld (pe_ix ix_tup (pe_fld (pv 1) rfl) (pv 2) (fun _ _ => rfl)) rfl) rfl)
      (pss_cons (ps_fld (pv 0) (pe_fld (pe_ix ix_tup (pe_fld (pv 1) rfl) (pe_op op_sub pe_int (pv 2)) (fun _ _ => rfl)) rfl) rfl)
      (pss_cons (ps_fld (pv 0) pe_newC rfl) (pss_one (ps_fld (pv 0) pe_newC rfl)))), ?_⟩
    have s0 : SetV K CS CP H m n p q h e u h2 e2 u2 := sv.ex ex_del_self
    obtain ⟨d1, hp1⟩ := pol_sel (sp := sp) s0 sp
    refine q_fldR (v := .str (cfOf sp h e h2 e2).h) (ev_is (ev_fld (ev_pol TS s0 (ev_var rfl) (ev_var rfl) hsp) hp1 TP.k.cl TP.nh rfl) ?_) (ev_var rfl) hx TC.k.cl TC.nh (by show 0 < 1000; decide) fun H1 e1 => ?_
    · unfold cfOf
      rcases hsp with rfl | rfl <;> rfl
    have E1 : Ex (del H x) (del (upd H1 x (.ins CT dx (putF "_hold" (.str (cfOf sp h e h2 e2).h) []))) x) := ex_delS e1
    have s1 := sv.ex (E1.trans ex_del_self)
    obtain ⟨d2, hp2⟩ := pol_sel (sp := sp) s1 (1 - sp)
    refine q_fldR (v := .int (cfOf sp h e h2 e2).e) (ev_is (ev_fld (ev_pol TS s1 (ev_var rfl) (ev_op ev_c (ev_var rfl) rv_I0) (by rcases hsp with rfl | rfl; exact Or.inr rfl; exact Or.inl rfl)) hp2 TP.k.cl TP.ne rfl) ?_) (ev_var rfl) upd_same TC.k.cl TC.ne (by show 1 < 1000; decide) fun H2 e2' => ?_
    · unfold cfOf
      rcases hsp with rfl | rfl <;> rfl
    have E2 := E1.trans (ex_delS (x := x) e2' (o := .ins CT dx (putF "_every" (.int (cfOf sp h e h2 e2).e) (putF "_hold" (.str (cfOf sp h e h2 e2).h) []))))
    intro dw hdw
    have nwx : dw ≠ x := fun z => by
      rw [z, upd_same] at hdw
      cases hdw
    refine ⟨_, rfl, x, CT, dx, _, rfl, by rw [upd_ne nwx.symm]; exact upd_same, TC.k.cl, TC.nw, by show 2 < 1000; decide, ?_⟩
    intro dc hdc
    have ncx : dc ≠ x := fun z => by
      rw [z, upd_same] at hdc
      cases hdc
    have ncw : dc ≠ dw := fun z => by
      rw [z, upd_ne nwx, upd_same] at hdc
      cases hdc
    have fb : ∀ {b : Addr}, b ≠ x → (upd H2 x (.ins CT dx (putF "_every" (.int (cfOf sp h e h2 e2).e) (putF "_hold" (.str (cfOf sp h e h2 e2).h) [])))) b = none → H b = none := fun {b} nb hb => by
      cases z : H b with
      | none => rfl
      | some o =>
        have y := E2 b o (by rw [del_ne nb]; exact z)
        rw [del_ne nb, hb] at y
        cases y
    refine ⟨_, rfl, x, CT, dx, _, rfl, by rw [upd_ne ncx.symm]; exact upd_same, TC.k.cl, TC.nc, by show 3 < 1000; decide, ?_⟩
    have hdc0 : (upd H2 x (.ins CT dx (putF "_every" (.int (cfOf sp h e h2 e2).e) (putF "_hold" (.str (cfOf sp h e h2 e2).h) [])))) dc = none := by
      rw [upd_ne ncx, upd_ne ncw] at hdc
      exact hdc
    refine k _ dw dc ncw.symm (fb nwx hdw) (fb ncx hdc0) ?_ upd_same (by rw [upd_ne nwx, upd_ne ncw.symm, upd_ne nwx, upd_same] <;> rfl) (by rw [upd_ne ncx, upd_same] <;> rfl)
    refine E2.trans fun b o hb => ?_
    have nb : b ≠ x := fun z => by
      rw [z, del_same] at hb
      cases hb
    rw [del_ne nb] at hb ⊢
    have n1 : b ≠ dw := ne_of_none hb hdw
    have n2 : b ≠ dc := ne_of_none hb hdc0
    rw [upd_ne nb, upd_ne n2, upd_ne nb, upd_ne n1]
    exact hb
end
end Lw

namespace L3
open PySem PySem.Spec PyProof.Rows L2 Evl
/-! ### two objects that change -/
def off2 (H : Hp) (a b : Addr) : Hp := del (del H a) b
section
variable {H H1 : Hp} {a b x : Addr} {o : HO}
theorem off_ex (e : Ex H H1) : Ex (off2 H a b) (off2 H1 a b) := ex_del (ex_del e)
theorem off_self : Ex (off2 H a b) H := ex_del_self.trans ex_del_self
theorem off_L (e : Ex (del H a) (del H1 a)) : Ex (off2 H a b) (off2 H1 a b) := ex_del e
theorem off_at (h : H x = some o) (n1 : x ≠ a) (n2 : x ≠ b) : (off2 H a b) x = some o := by
  unfold off2
  rw [del_ne n2, del_ne n1]
  exact h
theorem off_of (h : (off2 H a b) x = some o) : x ≠ a ∧ x ≠ b ∧ H x = some o := by
  unfold off2 at h
  by_cases c : x = b
  · rw [c, del_same] at h
    cases h
  · rw [del_ne c] at h
    by_cases c2 : x = a
    · rw [c2, del_same] at h
      cases h
    · rw [del_ne c2] at h
      exact ⟨c2, c, h⟩
theorem off_R (e : Ex (del H b) (del H1 b)) : Ex (off2 H a b) (off2 H1 a b) := fun y u h => by
  obtain ⟨n1, n2, h1⟩ := off_of h
  have z := e y u (by rw [del_ne n2]; exact h1)
  rw [del_ne n2] at z
  exact off_at z n1 n2
theorem off_up (e : Ex H H1) : Ex (off2 H a b) (off2 (upd H1 a o) a b) := off_L (ex_delS e)
theorem off_go (e : Ex (off2 H a b) (off2 H1 a b)) (h : H x = some o) (n1 : x ≠ a) (n2 : x ≠ b) : H1 x = some o := (off_of (e _ _ (off_at h n1 n2))).2.2
theorem off_none (e : Ex (off2 H a b) (off2 H1 a b)) (h : H1 x = none) (n1 : x ≠ a) (n2 : x ≠ b) : H x = none := by
  cases q : H x with
  | none => rfl
  | some o =>
    rw [off_go e q n1 n2] at h
    cases h
theorem off_t (e : Ex (off2 H a b) (off2 H1 a b)) (ha : ∀ u, H a = some u → ¬ isT u) (hb : ∀ u, H b = some u → ¬ isT u) : ExT H H1 := fun y u t h =>
  off_go e h (fun z => ha u (by rw [← z]; exact h) t) fun z => hb u (by rw [← z]; exact h) t
end
section
variable {K : PySem.W.Frag} {H : Hp} {σ : L2.St} {ta tv : TE} {t : TA} {D : Ends} {tz : TS} {v : V} {x C dx : Addr} {fs : List (Str × V)} {f m : Str} {vs : List V} {sp : Sp} {E : XK} {Q : VK} {rd : V → V → Hp → VK → Prop}
theorem tm_go (ha : Ev ta σ H (.ref x)) (hx : H x = some (.ins C dx fs)) (hl : fs.lookup m = none) (ht : EvA t σ H vs) (k : ∀ H1, Ex H H1 → sp (.ref x :: (vs ++ [])) H1 Q E) : tMeth C m sp [] E ta t σ H Q :=
  ha H (Ex.refl H) _ fun H1 e1 => ⟨x, dx, fs, rfl, e1 _ _ hx, hl, ht H1 e1 _ fun H2 e2 => k H2 (e1.trans e2)⟩
/-- x.f op= v, ints -/
theorem s_fldA {op : Int → Int → Int} (hrd : ∀ {i j : Int} {H : Hp} {Q : VK}, Q (.int (op i j)) H → rd (.int i) (.int j) H Q) {i j : Int} (hv : Ev tv σ H (.int j)) (ha : Ev ta σ H (.ref x)) (hx : H x = some (.ins C dx fs)) (cl : Cls K C) (no : NoAttr K C f) (l : fs.lookup f = some (.int i)) (hl : fs.length < 1000)
    (k : ∀ H1, Ex H H1 → D.nx σ (upd H1 x (.ins C dx (putF f (.int (op i j)) fs)))) : sFldAug K ta tv rd f D σ H :=
  ha H (Ex.refl H) _ fun H1 e1 => ⟨x, C, dx, fs, .int i, rfl, e1 _ _ hx, cl, no, l, hv H1 e1 _ fun H2 e2 => hrd ⟨dx, fs, (e1.trans e2) _ _ hx, hl, k H2 (e1.trans e2)⟩⟩
theorem q_fldA {op : Int → Int → Int} (hrd : ∀ {i j : Int} {H : Hp} {Q : VK}, Q (.int (op i j)) H → rd (.int i) (.int j) H Q) {i j : Int} (hv : Ev tv σ H (.int j)) (ha : Ev ta σ H (.ref x)) (hx : H x = some (.ins C dx fs)) (cl : Cls K C) (no : NoAttr K C f) (l : fs.lookup f = some (.int i)) (hl : fs.length < 1000)
    (k : ∀ H1, Ex H H1 → tz D σ (upd H1 x (.ins C dx (putF f (.int (op i j)) fs)))) : tSeq (sFldAug K ta tv rd f) tz D σ H := s_fldA (D := { D with nx := tz D }) hrd hv ha hx cl no l hl k
theorem rd_add {i j : Int} {H : Hp} {Q : VK} (q : Q (.int (i + j)) H) : rAdd (.int i) (.int j) H Q := ⟨i, j, rfl, rfl, q⟩
end
end L3
namespace Tn
open PySem L3
/-- a course: its size, rest, stance, segments, acknowledgments -/
structure CrM where
  n : Int
  r : Int
  s : Stc
  g : Int
  k : Int
def takeM (m : CrM) (p : Stp) : CrM := ⟨m.n, if p.2.1 = true then 0 else m.r, p.1, if p.2.1 = true then m.g + 1 else m.g, m.k + p.2.2⟩
def wrM (c : Cf) (m : CrM) (len : Int) (mode : Str) : CrM := takeM ⟨m.n, (m.r + len) % m.n, m.s, m.g + (m.r + len) / m.n, m.k⟩ (write c m.s ((m.r + len) / m.n) (decide ((m.r + len) % m.n > 0)) mode)
def clM (c : Cf) (m : CrM) : CrM := takeM m (clear c m.s (decide (m.r > 0)))
end Tn
namespace Lw
open PySem PySem.Spec PyProof.Rows L2 Evl L3 ClX Tn
abbrev cIni : Stmt := inClass (top 4) 0
abbrev cWr : Stmt := inClass (top 4) 1
abbrev cCl : Stmt := inClass (top 4) 2
abbrev cTake : Stmt := inClass (top 4) 4
structure Ccs (K : PySem.W.Frag) (mg : Str → Option Value) (CC : Addr) : Prop where
  hm : mg "Course" = some (.ref CC)
  k : Kls K CC
  nz : NoAttr K CC "_size"
  nt : NoAttr K CC "_stances"
  nr : NoAttr K CC "rest"
  ns : NoAttr K CC "stance"
  ng : NoAttr K CC "segments"
  nk : NoAttr K CC "acknowledgments"
def crF (n : Int) (st : Addr) (r : Int) (v : V) (g k : Int) : List (Str × V) := [("_size", .int n), ("_stances", .ref st), ("rest", .int r), ("stance", v), ("segments", .int g), ("acknowledgments", .int k)]
structure CrAt (K : PySem.W.Frag) (CC CT : Addr) (H : Hp) (x st dw dc : Addr) (c : Cf) (m : CrM) : Prop where
  at_ : ∃ dx v, H x = some (.ins CC dx (crF m.n st m.r v m.g m.k)) ∧ Dp K H v (stD m.s)
  tc : TcAt CT H st dw dc c
section
variable {K : PySem.W.Frag} {CC CT x st dw dc : Addr} {H H1 : Hp} {c : Cf} {m : CrM}
theorem CrAt.ex (C : CrAt K CC CT H x st dw dc c m) (e : Ex H H1) : CrAt K CC CT H1 x st dw dc c m := by
  obtain ⟨⟨dx, v, h1, h2⟩, t⟩ := C
  exact ⟨⟨dx, v, e _ _ h1, dp_ex e h2⟩, t.ex e⟩
theorem ne_st {dx : Addr} {n r g k : Int} {v : V} (h : H x = some (.ins CC dx (crF n st r v g k))) (t : TcAt CT H st dw dc c) : st ≠ x := fun z => by
  obtain ⟨dy, h2⟩ := t
  rw [z, h] at h2
  injection h2 with h2
  injection h2 with _ _ h3
  have z2 := congrArg List.length h3
  revert z2
  show ¬ 6 = 4
  decide
theorem ins_nt {dx : Addr} {fs : List (Str × V)} (h : H x = some (.ins CC dx fs)) : ∀ u, H x = some u → ¬ isT u := fun u q z => by
  rw [h] at q
  cases q
  exact z
end
section
variable {P : Program} {w : World} {K : PySem.W.Frag} {mg : Str → Option Value} {base : Heap} {CC CT : Addr}
/-! ### _take -/
def spCTake (K : PySem.W.Frag) (CC : Addr) : Sp := fun vs H Q _ => ∃ (x dx st : Addr) (y v : V) (m : CrM) (p : Stp), vs = [.ref x, y] ∧ H x = some (.ins CC dx (crF m.n st m.r v m.g m.k)) ∧ Dp K H y (stpD p) ∧
  ∀ H' v', Ex (del H x) (del H' x) → H' x = some (.ins CC dx (crF (takeM m p).n st (takeM m p).r v' (takeM m p).g (takeM m p).k)) → Dp K H' v' (stD (takeM m p).s) → Q .non H'
theorem scCTake : FnScope ["self", "step", "is_sent", "acknowledgments"] ["self", "step"] (defScope cTake) := ⟨rfl, rfl, rfl, by decide +kernel, rfl, by decide +kernel, by decide +kernel⟩
theorem ok_ctake {f : Addr} {fd : FuncData} (F : Fun K "_take" "Course._take" cTake f fd) (TK : Ccs K mg CC) : FnOk P w K mg base CX0 1 f fd ["self", "step"] (spCTake K CC) := by
  refine F.ok scCTake (fun vs H Q E h => ?_) (fun cdv A outer s H vs Q E hr h => ?_)
  · obtain ⟨x, dx, st, y, v, m, p, rfl, _⟩ := h
    rfl
  · obtain ⟨x, dx, st, y, v, m, p, rfl, hx, hy, k⟩ := h
    refine ⟨_, pss_cons (ps_asg (pv 1) (pg_tup rfl (pgs_cons (pg_fld (pv 0)) (pgs_cons (pg_name (i := 2) scCTake.nd rfl (Or.inl rfl)) (pgs_cons (pg_name (i := 3) scCTake.nd rfl (Or.inl rfl)) pgs_nil)))))
      (pss_cons (ps_fldaug (pv 0) (pv 3) in_add)
      (pss_one (ps_if (pt_val (pv 2)) (pss_cons (ps_fld (pv 0) pe_int rfl) (pss_one (ps_fldaug (pv 0) pe_int in_add))) pss_nil))), ?_⟩
    obtain ⟨a, t, rfl, hs, ht⟩ := dp_stp hy
    refine ⟨_, rfl, a, _, rfl, hs, rfl, _, _, rfl, ?_⟩
    refine ⟨_, rfl, x, CC, dx, _, rfl, hx, TK.k.cl, TK.ns, by show 6 < 1000; decide, _, _, rfl, _, _, rfl, rfl, ?_⟩
    show tSeq _ _ _ _ _
    have E1 : Ex (del H x) (del (upd H x (.ins CC dx (crF m.n st m.r t m.g m.k))) x) := ex_delS (Ex.refl H)
    refine q_fldA rd_add (fs := crF m.n st m.r t m.g m.k) (ev_var rfl) (ev_var rfl) upd_same TK.k.cl TK.nk rfl (by show 6 < 1000; decide) fun H2 e2 => ?_
    have E2 := E1.trans (ex_delS (x := x) e2 (o := .ins CC dx (crF m.n st m.r t m.g (m.k + p.2.2))))
    have tt : ∀ {H3 : Hp}, Ex (del H x) (del H3 x) → Dp K H3 t (stD p.1) := fun e => dp_ext (ext_del (ins_nt hx) e) rfl ht
    show tIfS _ _ tNext _ _ (upd H2 x (.ins CC dx (crF m.n st m.r t m.g (m.k + p.2.2))))
    refine s_when (b := p.2.1) (et_B (ev_var rfl)) (fun hb H3 e3 => ?_) fun hb H3 e3 => ?_
    · refine q_fldR ev_c (ev_var rfl) (e3 _ _ upd_same) TK.k.cl TK.nr (by show 6 < 1000; decide) fun H4 e4 => ?_
      refine s_fldA rd_add (fs := crF m.n st 0 t m.g (m.k + p.2.2)) ev_c (ev_var rfl) upd_same TK.k.cl TK.ng rfl (by show 6 < 1000; decide) fun H5 e5 => ?_
      have E5 := (E2.trans (ex_del e3)).trans ((ex_delS (x := x) e4 (o := .ins CC dx (crF m.n st 0 t m.g (m.k + p.2.2)))).trans (ex_delS (x := x) e5 (o := .ins CC dx (crF m.n st 0 t (m.g + 1) (m.k + p.2.2)))))
      refine k _ t E5 ?_ (tt E5)
      unfold takeM
      rw [if_pos hb, if_pos hb]
      exact upd_same
    · have E3 := E2.trans (ex_del e3)
      refine k H3 t E3 ?_ (tt E3)
      unfold takeM
      rw [if_neg (by rw [hb]; simp), if_neg (by rw [hb]; simp)]
      exact e3 _ _ upd_same
end
end Lw

namespace Lw
open PySem PySem.Spec PyProof.Rows L2 Evl L3 ClX Tn
section
variable {P : Program} {w : World} {K : PySem.W.Frag} {mg : Str → Option Value} {base : Heap} {CC CT : Addr}
theorem div_ok {i n : Int} (h1 : 1 ≤ n) (h2 : n ≤ 1000000000000000000) : CDivP i n := by
  refine ⟨by omega, PyProof.noPylong_of_log2 ?_⟩
  have z : n.natAbs ≠ 0 := by omega
  refine (Nat.log2_lt z).mpr (Nat.lt_of_lt_of_le (m := 2 ^ 60) (by omega) (Nat.pow_le_pow_right (by decide) (by decide)))
theorem s_mthT {σ : L2.St} {H : Hp} {D : Ends} {ta te : TE} {x C dx : Addr} {fs : List (Str × V)} {m : Str} {sp : Sp} {E : XK} (ha : Ev ta σ H (.ref x)) (hx : H x = some (.ins C dx fs)) (hl : fs.lookup m = none) (k : ∀ H1, Ex H H1 → te σ H1 fun v H2 => sp [.ref x, v] H2 (fun _ H3 => D.nx σ H3) E) : tDrop (tMeth C m sp [] E ta (tCons te tNil)) D σ H :=
  ha H (Ex.refl H) _ fun H1 e1 => ⟨x, dx, fs, rfl, e1 _ _ hx, hl, k H1 e1⟩
/-! ### make_write -/
def spMW (P : Program) (w : World) (K : PySem.W.Frag) (CC CT : Addr) : Sp := fun vs H Q _ => ∃ (x st dw dc : Addr) (c : Cf) (m : CrM) (len : Int) (mode : Str) (xs : List NkE), vs = [.ref x, .int len, .str mode] ∧ CrAt K CC CT H x st dw dc c m ∧ okE c.e ∧ 1 ≤ m.n ∧ m.n ≤ 1000000000000000000 ∧ Cch P w K H dw xs wkD (wF c) ∧ xs.length ≤ 900000 ∧
  ∀ H' ys, ys.length ≤ xs.length + 1 → Ex (off2 H x dw) (off2 H' x dw) → Cch P w K H' dw ys wkD (wF c) → CrAt K CC CT H' x st dw dc c (wrM c m len mode) → Q .non H'
theorem scMW : FnScope ["self", "length", "mode", "full"] ["self", "length", "mode"] (defScope cWr) := ⟨rfl, rfl, rfl, by decide +kernel, rfl, by decide +kernel, by decide +kernel⟩
theorem ok_mw {f fT fA : Addr} {fd fdT fdA : FuncData} (F : Fun K "make_write" "Course.make_write" cWr f fd) (hD : mg "divmod" = none) (TK : Ccs K mg CC) (TC : Tcs K mg CT) (MT : Meth K CC "_take" fT) (bT : Binds K fdT ["self", "step"] []) (GT : FnOk P w K mg base CX0 1 fT fdT ["self", "step"] (spCTake K CC))
    (MA : Meth K CT "after_write" fA) (bA : Binds K fdA wrPs []) (GA : FnOk P w K mg base CX0 3 fA fdA wrPs (spAW P w K CT)) : FnOk P w K mg base CX0 4 f fd ["self", "length", "mode"] (spMW P w K CC CT) := by
  refine F.ok scMW (fun vs H Q E h => ?_) (fun cdv A outer s H vs Q E hr h => ?_)
  · obtain ⟨x, st, dw, dc, c, m, len, mode, xs, rfl, _⟩ := h
    rfl
  · obtain ⟨x, st, dw, dc, c, m, len, mode, xs, rfl, ⟨⟨dx, v, hx, hv⟩, t⟩, he, n1, n2, cc, hl, k⟩ := h
    have hr1 : Room 1 _ := hr.mono (by decide)
    refine ⟨_, pss_cons (ps_asg (pe_callB call_divmodW (by rfl) hD (by decide +kernel) (pa_cons (pe_op op_add (pe_fld (pv 0) rfl) (pv 1)) (pa_cons (pe_fld (pv 0) rfl) pa_nil))) (pg_tup rfl (pgs_cons (pg_name (i := 3) scMW.nd rfl (Or.inl rfl)) (pgs_cons (pg_fld (pv 0)) pgs_nil))))
      (pss_cons (ps_fldaug (pv 0) (pv 3) in_add)
      (pss_one (ps_expr (pe_meth (pv 0) TK.k.cl MT GT hr1 bT .nil pass0 (pa_cons (pe_meth (pe_fld (pv 0) rfl) TC.k.cl MA GA hr bA .nil pass0 (pa_cons (pe_fld (pv 0) rfl) (pa_cons (pv 3) (pa_cons (pe_cmpR op_gt (pe_fld (pv 0) rfl) pe_int (nomark _)) (pa_cons (pv 2) pa_nil))))) pa_nil))))), ?_⟩
    have nsx : st ≠ x := ne_st hx t
    have ndx : dw ≠ x := fun z => cch_ni cc _ (by rw [z]; exact hx) _ _ _ rfl
    refine ev_op (ev_fld (ev_var rfl) hx TK.k.cl TK.nr rfl) (ev_var rfl) rv_I0 H (Ex.refl H) _ fun H1 e1 => ?_
    refine ev_fld (ev_var rfl) (e1 _ _ hx) TK.k.cl TK.nz rfl H1 (Ex.refl H1) _ fun H2 e2 => ⟨_, _, rfl, div_ok n1 n2, fun a ha => ?_⟩
    have e12 := (e1.trans e2).trans (Ex.new (o := .tup [.int ((m.r + len) / m.n), .int ((m.r + len) % m.n)]) ha)
    refine ⟨a, _, rfl, st_of upd_same, rfl, _, _, rfl, _, _, rfl, ?_⟩
    refine ⟨_, rfl, x, CC, dx, _, rfl, e12 _ _ hx, TK.k.cl, TK.nr, by show 6 < 1000; decide, rfl, ?_⟩
    have E1 : Ex (del H x) (del (upd (upd H2 a (.tup [.int ((m.r + len) / m.n), .int ((m.r + len) % m.n)])) x (.ins CC dx (crF m.n st ((m.r + len) % m.n) v m.g m.k))) x) := ex_delS e12
    show tSeq _ _ _ _ (upd (upd H2 a (.tup [.int ((m.r + len) / m.n), .int ((m.r + len) % m.n)])) x (.ins CC dx (crF m.n st ((m.r + len) % m.n) v m.g m.k)))
    refine q_fldA rd_add (fs := crF m.n st ((m.r + len) % m.n) v m.g m.k) (ev_var rfl) (ev_var rfl) upd_same TK.k.cl TK.ng rfl (by show 6 < 1000; decide) fun H3 e3 => ?_
    have E3 := E1.trans (ex_delS (x := x) e3 (o := .ins CC dx (crF m.n st ((m.r + len) % m.n) v (m.g + (m.r + len) / m.n) m.k)))
    generalize hH4 : upd H3 x (.ins CC dx (crF m.n st ((m.r + len) % m.n) v (m.g + (m.r + len) / m.n) m.k)) = H4 at E3
    have hx4 : H4 x = some (.ins CC dx (crF m.n st ((m.r + len) % m.n) v (m.g + (m.r + len) / m.n) m.k)) := by rw [← hH4, upd_same]
    show tDrop _ _ _ (upd H3 x (.ins CC dx (crF m.n st ((m.r + len) % m.n) v (m.g + (m.r + len) / m.n) m.k)))
    rw [hH4]
    have eT4 : ExT H H4 := ext_del (ins_nt hx) E3
    have t4 : TcAt CT H4 st dw dc c := by
      obtain ⟨dy, hs⟩ := t
      have z := E3 st _ (by rw [del_ne nsx]; exact hs)
      rw [del_ne nsx] at z
      exact ⟨dy, z⟩
    have c4 : Cch P w K H4 dw xs wkD (wF c) := cc.up (wkd c) eT4 (by
      have z := E3 dw _ (by rw [del_ne ndx]; exact cc.at_)
      rw [del_ne ndx] at z
      exact z.trans cc.at_.symm)
    have hv4 : Dp K H4 v (stD m.s) := dp_ext eT4 rfl hv
    refine s_mthT (ev_var (v := .ref x) rfl) hx4 rfl fun H5 e5 => ?_
    obtain ⟨dy, hs5⟩ := t4.ex e5
    refine tm_go (ev_fld (ev_var rfl) (e5 _ _ hx4) TK.k.cl TK.nt rfl) hs5 rfl (ea_cons (ev_fld (ev_var rfl) (e5 _ _ hx4) TK.k.cl TK.ns rfl) (ea_cons (ev_var rfl) (ea_cons (ev_op (ev_fld (ev_var rfl) (e5 _ _ hx4) TK.k.cl TK.nr rfl) ev_c rv_I0) (ea_cons (ev_var rfl) ea_nil)))) fun H6 e6 => ?_
    have e56 := e5.trans e6
    refine ⟨st, dw, dc, c, v, m.s, (m.r + len) / m.n, decide ((m.r + len) % m.n > 0), mode, xs, rfl, t4.ex e56, he, dp_ex e56 hv4, c4.ex (wkd c) e56, hl, fun y H7 ys y1 y2 y3 y4 => ?_⟩
    have hx7 : H7 x = some (.ins CC dx (crF m.n st ((m.r + len) % m.n) v (m.g + (m.r + len) / m.n) m.k)) := by
      have z := y2 x _ (by rw [del_ne ndx.symm]; exact e56 _ _ hx4)
      rw [del_ne ndx.symm] at z
      exact z
    refine ⟨x, dx, st, y, v, ⟨m.n, (m.r + len) % m.n, m.s, m.g + (m.r + len) / m.n, m.k⟩, Tn.write c m.s ((m.r + len) / m.n) (decide ((m.r + len) % m.n > 0)) mode, rfl, hx7, y4, fun H8 v' z1 z2 z3 => ?_⟩
    have t7 : TcAt CT H7 st dw dc c := (t4.ex e56).dl (cch_ni (c4.ex (wkd c) e56)) y2
    refine k H8 ys y1 ((((off_L E3).trans (off_ex e56)).trans (off_R y2)).trans (off_L z1)) (y3.up (wkd c) (ext_del (ins_nt hx7) z1) ?_) ⟨⟨dx, v', z2, z3⟩, ?_⟩
    · have z := z1 dw _ (by rw [del_ne ndx]; exact y3.at_)
      rw [del_ne ndx] at z
      exact z.trans y3.at_.symm
    · obtain ⟨dz, hs7⟩ := t7
      have z := z1 st _ (by rw [del_ne nsx]; exact hs7)
      rw [del_ne nsx] at z
      exact ⟨dz, z⟩
/-! ### make_clearing -/
def spMC (P : Program) (w : World) (K : PySem.W.Frag) (CC CT : Addr) : Sp := fun vs H Q _ => ∃ (x st dw dc : Addr) (c : Cf) (m : CrM) (xs : List NkE), vs = [.ref x] ∧ CrAt K CC CT H x st dw dc c m ∧ Cch P w K H dc xs ckD (cF c) ∧ xs.length ≤ 900000 ∧
  ∀ H' ys, ys.length ≤ xs.length + 1 → Ex (off2 H x dc) (off2 H' x dc) → Cch P w K H' dc ys ckD (cF c) → CrAt K CC CT H' x st dw dc c (clM c m) → Q .non H'
theorem scMC : FnScope ["self"] ["self"] (defScope cCl) := ⟨rfl, rfl, rfl, by decide +kernel, rfl, by decide +kernel, by decide +kernel⟩
theorem ok_mc {f fT fA : Addr} {fd fdT fdA : FuncData} (F : Fun K "make_clearing" "Course.make_clearing" cCl f fd) (TK : Ccs K mg CC) (TC : Tcs K mg CT) (MT : Meth K CC "_take" fT) (bT : Binds K fdT ["self", "step"] []) (GT : FnOk P w K mg base CX0 1 fT fdT ["self", "step"] (spCTake K CC))
    (MA : Meth K CT "after_clearing" fA) (bA : Binds K fdA clPs []) (GA : FnOk P w K mg base CX0 3 fA fdA clPs (spAC P w K CT)) : FnOk P w K mg base CX0 4 f fd ["self"] (spMC P w K CC CT) := by
  refine F.ok scMC (fun vs H Q E h => ?_) (fun cdv A outer s H vs Q E hr h => ?_)
  · obtain ⟨x, st, dw, dc, c, m, xs, rfl, _⟩ := h
    rfl
  · obtain ⟨x, st, dw, dc, c, m, xs, rfl, ⟨⟨dx, v, hx4, hv4⟩, t4⟩, c4, hl, k⟩ := h
    have hr1 : Room 1 _ := hr.mono (by decide)
    refine ⟨_, pss_one (ps_expr (pe_meth (pv 0) TK.k.cl MT GT hr1 bT .nil pass0 (pa_cons (pe_meth (pe_fld (pv 0) rfl) TC.k.cl MA GA hr bA .nil pass0 (pa_cons (pe_fld (pv 0) rfl) (pa_cons (pe_cmpR op_gt (pe_fld (pv 0) rfl) pe_int (nomark _)) pa_nil))) pa_nil))), ?_⟩
    have nsx : st ≠ x := ne_st hx4 t4
    have ndx : dc ≠ x := fun z => cch_ni c4 _ (by rw [z]; exact hx4) _ _ _ rfl
    refine s_mthT (ev_var (v := .ref x) rfl) hx4 rfl fun H5 e5 => ?_
    obtain ⟨dy, hs5⟩ := t4.ex e5
    refine tm_go (ev_fld (ev_var rfl) (e5 _ _ hx4) TK.k.cl TK.nt rfl) hs5 rfl (ea_cons (ev_fld (ev_var rfl) (e5 _ _ hx4) TK.k.cl TK.ns rfl) (ea_cons (ev_op (ev_fld (ev_var rfl) (e5 _ _ hx4) TK.k.cl TK.nr rfl) ev_c rv_I0) ea_nil)) fun H6 e6 => ?_
    have e56 := e5.trans e6
    refine ⟨st, dw, dc, c, v, m.s, decide (m.r > 0), xs, rfl, t4.ex e56, dp_ex e56 hv4, c4.ex (ckd c) e56, hl, fun y H7 ys y1 y2 y3 y4 => ?_⟩
    have hx7 : H7 x = some (.ins CC dx (crF m.n st m.r v m.g m.k)) := by
      have z := y2 x _ (by rw [del_ne ndx.symm]; exact e56 _ _ hx4)
      rw [del_ne ndx.symm] at z
      exact z
    refine ⟨x, dx, st, y, v, m, clear c m.s (decide (m.r > 0)), rfl, hx7, y4, fun H8 v' z1 z2 z3 => ?_⟩
    have t7 : TcAt CT H7 st dw dc c := (t4.ex e56).dl (cch_ni (c4.ex (ckd c) e56)) y2
    refine k H8 ys y1 (((off_ex e56).trans (off_R y2)).trans (off_L z1)) (y3.up (ckd c) (ext_del (ins_nt hx7) z1) ?_) ⟨⟨dx, v', z2, z3⟩, ?_⟩
    · have z := z1 dc _ (by rw [del_ne ndx]; exact y3.at_)
      rw [del_ne ndx] at z
      exact z.trans y3.at_.symm
    · obtain ⟨dz, hs7⟩ := t7
      have z := z1 st _ (by rw [del_ne nsx]; exact hs7)
      rw [del_ne nsx] at z
      exact ⟨dz, z⟩
end
end Lw

namespace Lw
open PySem PySem.Spec PyProof.Rows L2 Evl L3 ClX Tn
abbrev zIni : Stmt := inClass (top 6) 0
abbrev zEq : Stmt := inClass (top 6) 1
abbrev sWritten : Stmt := top 7
abbrev sCleared : Stmt := top 8
abbrev sCF : Stmt := top 9
abbrev sSO : Stmt := top 10
theorem made_ex {x dx : Addr} {H : Hp} {o u : HO} (hx : H x = none) (hd : H dx = none) : Ex H (del (upd (upd H dx o) x u) x) := fun b w h => by
  have nb : b ≠ x := ne_of_none h hx
  have nd : b ≠ dx := ne_of_none h hd
  rw [del_ne nb, upd_ne nb, upd_ne nd]
  exact h
theorem made_up {x dx : Addr} {H H' : Hp} {o u : HO} (hx : H x = none) (hd : H dx = none) (e : Ex (del (upd (upd H dx o) x u) x) (del H' x)) : Ex H H' := ((made_ex hx hd).trans e).trans ex_del_self
theorem q_fldT {K : PySem.W.Frag} {σ : L2.St} {H : Hp} {te ta : TE} {D : Ends} {tz : TS} {f : Str} (h : te σ H fun y H1 => ta σ H1 fun x H2 => ∃ a C dx fs, x = .ref a ∧ H2 a = some (.ins C dx fs) ∧ Cls K C ∧ NoAttr K C f ∧ fs.length < 1000 ∧ tz D σ (upd H2 a (.ins C dx (putF f y fs)))) : tSeq (sFld K ta te f) tz D σ H := h
section
variable {P : Program} {w : World} {K : PySem.W.Frag} {mg : Str → Option Value} {base : Heap} {CC CT CZ CS CP : Addr}
/-! ### Course(setting, speaker, rest, stance) -/
abbrev ciPs : List Str := ["self", "setting", "speaker", "rest", "stance"]
def spCIni (P : Program) (w : World) (K : PySem.W.Frag) (CC CT CS CP : Addr) : Sp := fun vs H Q _ => ∃ (x dx m : Addr) (sp r n : Int) (v : V) (s : Stc) (p q : Addr) (h : Str) (e u : Int) (h2 : Str) (e2 u2 : Int), vs = [.ref x, .ref m, .int sp, .int r, v] ∧ H x = some (.ins CC dx []) ∧ SetV K CS CP (del H x) m n p q h e u h2 e2 u2 ∧ (sp = 0 ∨ sp = 1) ∧ Dp K (del H x) v (stD s) ∧
  ∀ H' st dw dc, dw ≠ dc → H st = none → H dw = none → H dc = none → Ex (del H x) (del H' x) → CrAt K CC CT H' x st dw dc (cfOf sp h e h2 e2) ⟨n, r, s, 0, 0⟩ → H' dw = some (dicE P w dw []) → H' dc = some (dicE P w dc []) → Q .non H'
theorem scCIni : FnScope ciPs ciPs (defScope cIni) := ⟨rfl, rfl, rfl, by decide +kernel, rfl, by decide +kernel, by decide +kernel⟩
theorem ok_cini {f fI : Addr} {fd fdI : FuncData} (F : Fun K "__init__" "Course.__init__" cIni f fd) (TK : Ccs K mg CC) (TC : Tcs K mg CT) (TS : Stg K mg CS) (M : Mk K CT fI) (bI : Binds K fdI tiPs []) (GI : FnOk P w K mg base CX0 1 fI fdI tiPs (spTIni P w K CT CS CP)) : FnOk P w K mg base CX0 3 f fd ciPs (spCIni P w K CC CT CS CP) := by
  refine F.ok scCIni (fun vs H Q E h => ?_) (fun cdv A outer s H vs Q E hr h => ?_)
  · obtain ⟨x, dx, m, sp, r, n, v, s, p, q, h, e, u, h2, e2, u2, rfl, _⟩ := h
    rfl
  · obtain ⟨x, dx, m, sp, r, n, v, s, p, q, h, e, u, h2, e2, u2, rfl, hx, sv, hsp, hv, k⟩ := h
    refine ⟨_, pss_cons (ps_fld (pv 0) (pe_fld (pv 1) rfl) rfl) (pss_cons (ps_fld (pv 0) (pe_make M GI hr rfl TC.hm bI .nil pass0 (pa_cons (pv 1) (pa_cons (pv 2) pa_nil))) rfl)
      (pss_cons (ps_fld (pv 0) (pv 3) rfl) (pss_cons (ps_fld (pv 0) (pv 4) rfl) (pss_cons (ps_fld (pv 0) pe_int rfl) (pss_one (ps_fld (pv 0) pe_int rfl)))))), ?_⟩
    have s0 : SetV K CS CP H m n p q h e u h2 e2 u2 := sv.ex ex_del_self
    obtain ⟨⟨d1, r1, hm1, _⟩, _, _⟩ := id s0
    refine q_fldR (ev_fld (ev_var rfl) hm1 TS.k.cl TS.ns rfl) (ev_var rfl) hx TK.k.cl TK.nz (by show 0 < 1000; decide) fun H1 e1 => ?_
    have E1 : Ex (del H x) (del (upd H1 x (.ins CC dx (putF "_size" (.int n) []))) x) := ex_delS e1
    generalize hHA : upd H1 x (.ins CC dx (putF "_size" (.int n) [])) = HA at E1 ⊢
    have hxA : HA x = some (.ins CC dx (putF "_size" (.int n) [])) := by rw [← hHA, upd_same]
    have sA := sv.ex (E1.trans ex_del_self)
    have args : EvA (tCons (tVar 1) (tCons (tVar 2) tNil)) (start ciPs [.ref x, .ref m, .int sp, .int r, v]) HA [.ref m, .int sp] := ea_cons (ev_var rfl) (ea_cons (ev_var rfl) ea_nil)
    refine q_fldT ?_
    unfold tMake
    refine args HA (Ex.refl HA) _ fun HB eB st ds hst hds nds => ⟨st, ds, m, sp, n, p, q, h, e, u, h2, e2, u2, rfl, upd_same, (sA.ex eB).ex (made_ex hst hds), hsp, fun HC dw dc ndc hdw hdc xC hsC hdwC hdcC => ⟨rfl, ?_⟩⟩
    have eBC : Ex HB HC := made_up hst hds xC
    have eAC := eB.trans eBC
    have nsx : st ≠ x := fun z => by
      rw [z, eB _ _ hxA] at hst
      cases hst
    have fdw : HB dw = none := by
      have n1 : dw ≠ st := fun z => by
        rw [z, upd_same] at hdw
        cases hdw
      rw [upd_ne n1] at hdw
      have n2 : dw ≠ ds := fun z => by
        rw [z, upd_same] at hdw
        cases hdw
      rw [upd_ne n2] at hdw
      exact hdw
    have fdc : HB dc = none := by
      have n1 : dc ≠ st := fun z => by
        rw [z, upd_same] at hdc
        cases hdc
      rw [upd_ne n1] at hdc
      have n2 : dc ≠ ds := fun z => by
        rw [z, upd_same] at hdc
        cases hdc
      rw [upd_ne n2] at hdc
      exact hdc
    have nwx : dw ≠ x := fun z => by
      rw [z, eB _ _ hxA] at fdw
      cases fdw
    have ncx : dc ≠ x := fun z => by
      rw [z, eB _ _ hxA] at fdc
      cases fdc
    have back : ∀ {b : Addr}, b ≠ x → HB b = none → H b = none := fun {b} nb hb => by
      cases z : H b with
      | none => rfl
      | some o =>
        have y := E1 b o (by rw [del_ne nb]; exact z)
        rw [del_ne nb] at y
        rw [eB _ _ y] at hb
        cases hb
    refine ⟨_, rfl, x, CC, dx, _, rfl, eAC _ _ hxA, TK.k.cl, TK.nt, by show 1 < 1000; decide, ?_⟩
    have E2 : Ex (del H x) (del (upd HC x (.ins CC dx (putF "_stances" (.ref st) (putF "_size" (.int n) [])))) x) := E1.trans (ex_delS eAC)
    show tSeq _ _ _ _ (upd HC x (.ins CC dx (putF "_stances" (.ref st) (putF "_size" (.int n) []))))
    refine q_fldR (ev_var rfl) (ev_var rfl) upd_same TK.k.cl TK.nr (by show 2 < 1000; decide) fun H3 e3 => ?_
    refine q_fldR (v := v) (ev_var rfl) (ev_var rfl) upd_same TK.k.cl TK.ns (by show 3 < 1000; decide) fun H4 e4 => ?_
    refine q_fldR ev_c (ev_var rfl) upd_same TK.k.cl TK.ng (by show 4 < 1000; decide) fun H5 e5 => ?_
    refine s_fldR ev_c (ev_var rfl) upd_same TK.k.cl TK.nk (by show 5 < 1000; decide) fun H6 e6 => ?_
    have dl : ∀ {A B : Hp} {o : HO}, Ex (upd A x o) B → Ex (del A x) (del B x) := fun {A B o} e => by
      have z : Ex (del (upd A x o) x) (del B x) := ex_del e
      rw [del_upd] at z
      exact z
    have X : Ex (del HC x) (del H6 x) := (((dl e3).trans (dl e4)).trans (dl e5)).trans (dl e6)
    have Xf : ∀ {o : HO}, Ex (del HC x) (del (upd H6 x o) x) := fun {o} => by
      rw [del_upd]
      exact X
    have keep : ∀ {b : Addr} {o u : HO}, b ≠ x → HC b = some o → (upd H6 x u) b = some o := fun {b o u} nb hb => by
      have z := X b o (by rw [del_ne nb]; exact hb)
      rw [del_ne nb] at z
      rw [upd_ne nb]
      exact z
    refine k _ st dw dc ndc (back nsx hst) (back nwx fdw) (back ncx fdc) (E1.trans ((ex_del eAC).trans Xf)) ⟨⟨dx, v, upd_same, ?_⟩, ⟨ds, keep nsx hsC⟩⟩ (keep nwx hdwC) (keep ncx hdcC)
    refine dp_ext (ext_of ex_del_self) rfl (dp_ex (E1.trans ((ex_del eAC).trans Xf)) hv)
end
end Lw

namespace L3
open PySem PySem.Spec PyProof.Rows L2 Evl StX
/-- C(e, .., *y) -/
theorem pe_makeS {X : Cx} {CX : CXT} {k : Nat} {f C : Addr} {sp : Sp} {E : XK} {x : Str} {e : Expr} {es : List Expr} {t : TA} {p pos : Pos} (M : Mk X.K C f) (F : FnR X.prog X.w X.K X.mg X.base CX k f sp) (hr : Room (k + 1) X.A) (hg : Gl X x) (hm : X.mg x = some (.ref C)) (hx : Passes CX X E) (ha : PA X (e :: es) t) (hdb : (x == ("__debug__" : Str)) = false := by decide)
    (he : starEach (e :: es) X.env = (false, eval e X.env) :: starEach es X.env := by rfl) (hst : (backTo pos (starEach es X.env)).any (·.1) = true := by rfl) : PE X (.Call (.Name x p) (e :: es) [] pos) (tMakeR C sp E t) := by
  refine ⟨fun pins s σ H Q I h => ?_⟩
  refine wpAny_Call_Name_kw (ld_glob I hg hm ?_ hdb)
  refine PySem.W.callWith_S2 (h₀ := X.base) I.ok.mod.kin M.kp (thn (ha.run pos pins s σ H _ I h) fun us s1 ⟨vs, H1, I1, r, q⟩ => ⟨I1.kIn, ?_⟩) he hst
  exact run_makeR M F hr hx I1 r q
end L3
namespace Lw
open PySem PySem.Spec PyProof.Rows L2 Evl L3 ClX Tn
/-! ### TurnState -/
def zF (r : Int) (s : Stc) : List (Str × V) := [("rest", .int r), ("kept", .bl s.kept), ("blocked", .bl s.blk), ("stuck", .bl s.stk), ("pending", .int s.pend), ("quick", .int s.quick)]
def TsAt (CZ : Addr) (H : Hp) (a : Addr) (r : Int) (s : Stc) : Prop := ∃ dx, H a = some (.ins CZ dx (zF r s))
theorem TsAt.ex {CZ a : Addr} {H H1 : Hp} {r : Int} {s : Stc} (t : TsAt CZ H a r s) (e : Ex H H1) : TsAt CZ H1 a r s := by
  obtain ⟨dx, h⟩ := t
  exact ⟨dx, e _ _ h⟩
abbrev zNs : List Str := ["rest", "kept", "blocked", "stuck", "pending", "quick"]
structure Tst (K : PySem.W.Frag) (mg : Str → Option Value) (CZ : Addr) : Prop where
  hm : mg "TurnState" = some (.ref CZ)
  k : Kls K CZ
  no : ∀ f ∈ zNs, NoAttr K CZ f
section
variable {P : Program} {w : World} {K : PySem.W.Frag} {mg : Str → Option Value} {base : Heap} {CC CT CZ CS CP : Addr}
theorem ev_z {σ : L2.St} {H : Hp} {ta : TE} {a : Addr} {r : Int} {s : Stc} {f : Str} {v : V} (TZ : Tst K mg CZ) (t : TsAt CZ H a r s) (ha : Ev ta σ H (.ref a)) (hf : f ∈ zNs) (l : (zF r s).lookup f = some v) : Ev (tFld K ta f) σ H v := by
  obtain ⟨dx, h⟩ := t
  exact ev_fld ha h TZ.k.cl (TZ.no f hf) l
abbrev ziPs : List Str := ["self", "rest", "kept", "blocked", "stuck", "pending", "quick"]
def spZIni (CZ : Addr) : Sp := fun vs H Q _ => ∃ (x dx : Addr) (r : Int) (s : Stc), vs = [.ref x, .int r, .bl s.kept, .bl s.blk, .bl s.stk, .int s.pend, .int s.quick] ∧ H x = some (.ins CZ dx []) ∧ ∀ H', Ex (del H x) (del H' x) → H' x = some (.ins CZ dx (zF r s)) → Q .non H'
theorem scZIni : FnScope ziPs ziPs (defScope zIni) := ⟨rfl, rfl, rfl, by decide +kernel, rfl, by decide +kernel, by decide +kernel⟩
abbrev zDf : List V := [.int 0, .bl false, .bl false, .bl false, .int 0, .int 0]
theorem ok_zini {f : Addr} {fd : FuncData} (F : FunD K "__init__" "TurnState.__init__" (defArgs zIni) (defBody zIni) (defScope zIni) zDf [] f fd) (TZ : Tst K mg CZ) : FnOk P w K mg base CX0 1 f fd ziPs (spZIni CZ) := by
  refine F.ok scZIni (fun vs H Q E h => ?_) (fun cdv A outer s H vs Q E hr h => ?_)
  · obtain ⟨x, dx, r, s, rfl, _⟩ := h
    rfl
  · obtain ⟨x, dx, r, z, rfl, hx, k⟩ := h
    refine ⟨_, PSs.nox (X := cxOf CX0 P w K mg base ziPs "TurnState.__init__" (defScope zIni) f cdv A outer s H E) (pss_cons (ps_fld (pv 0) (pv 1) rfl) (pss_cons (ps_fld (pv 0) (pv 2) rfl) (pss_cons (ps_fld (pv 0) (pv 3) rfl) (pss_cons (ps_fld (pv 0) (pv 4) rfl) (pss_cons (ps_fld (pv 0) (pv 5) rfl) (pss_one (ps_fld (pv 0) (pv 6) rfl))))))), ?_⟩
    refine q_fldR (ev_var rfl) (ev_var rfl) hx TZ.k.cl (TZ.no _ (by simp)) (by show 0 < 1000; decide) fun H1 e1 => ?_
    refine q_fldR (ev_var rfl) (ev_var rfl) upd_same TZ.k.cl (TZ.no _ (by simp)) (by show 1 < 1000; decide) fun H2 e2 => ?_
    refine q_fldR (ev_var rfl) (ev_var rfl) upd_same TZ.k.cl (TZ.no _ (by simp)) (by show 2 < 1000; decide) fun H3 e3 => ?_
    refine q_fldR (ev_var rfl) (ev_var rfl) upd_same TZ.k.cl (TZ.no _ (by simp)) (by show 3 < 1000; decide) fun H4 e4 => ?_
    refine q_fldR (ev_var rfl) (ev_var rfl) upd_same TZ.k.cl (TZ.no _ (by simp)) (by show 4 < 1000; decide) fun H5 e5 => ?_
    refine s_fldR (ev_var rfl) (ev_var rfl) upd_same TZ.k.cl (TZ.no _ (by simp)) (by show 5 < 1000; decide) fun H6 e6 => ?_
    have dl : ∀ {A B : Hp} {o : HO}, Ex (upd A x o) B → Ex (del A x) (del B x) := fun {A B o} e => by
      have z : Ex (del (upd A x o) x) (del B x) := ex_del e
      rw [del_upd] at z
      exact z
    refine k _ ?_ upd_same
    rw [del_upd]
    exact (((((ex_del e1).trans (dl e2)).trans (dl e3)).trans (dl e4)).trans (dl e5)).trans (dl e6)
/-! ### == of states -/
def zC (r : Int) (s : Stc) (r' : Int) (s' : Stc) : Bool := decide (r = r') && (decide (s.kept = s'.kept) && (decide (s.blk = s'.blk) && (decide (s.stk = s'.stk) && (decide (s.pend = s'.pend) && decide (s.quick = s'.quick)))))
def spZEq (CZ : Addr) : Sp := fun vs H Q _ => ∃ (a b : Addr) (r r' : Int) (s s' : Stc), vs = [.ref a, .ref b] ∧ TsAt CZ H a r s ∧ TsAt CZ H b r' s' ∧ RetV (.bl (zC r s r' s')) H Q
theorem scZEq : FnScope ["self", "other"] ["self", "other"] (defScope zEq) := ⟨rfl, rfl, rfl, by decide +kernel, rfl, by decide +kernel, by decide +kernel⟩
theorem dB {i j : Bool} : decide (V.bl i = V.bl j) = decide (i = j) := decide_eq_decide.mpr ⟨fun z => by injection z, fun z => by rw [z]⟩
theorem ok_zeq {f : Addr} {fd : FuncData} (F : Fun K "__eq__" "TurnState.__eq__" zEq f fd) (T : Txt K mg) (TZ : Tst K mg CZ) : FnOk P w K mg base CX0 1 f fd ["self", "other"] (spZEq CZ) := by
  refine F.ok scZEq (fun vs H Q E h => ?_) (fun cdv A outer s H vs Q E hr h => ?_)
  · obtain ⟨a, b, r, r', s, s', rfl, _⟩ := h
    rfl
  · obtain ⟨a, b, r, r', s, s', rfl, t1, t2, k⟩ := h
    refine ⟨_, pss_one (ps_ret (pe_and (pe_callB call_isi (by rfl) T.isi boot_isinstance (pa_cons (pv 1) (pa_cons (pe_glob (v := .ref CZ) rfl TZ.hm rfl) pa_nil)))
      (pe_and (pe_cmpR op_eq (pe_fld (pv 0) rfl) (pe_fld (pv 1) rfl) (nomark _)) (pe_and (pe_cmpR op_eq (pe_fld (pv 0) rfl) (pe_fld (pv 1) rfl) (nomark _)) (pe_and (pe_cmpR op_eq (pe_fld (pv 0) rfl) (pe_fld (pv 1) rfl) (nomark _))
      (pe_and (pe_cmpR op_eq (pe_fld (pv 0) rfl) (pe_fld (pv 1) rfl) (nomark _)) (pe_and (pe_cmpR op_eq (pe_fld (pv 0) rfl) (pe_fld (pv 1) rfl) (nomark _)) (pe_one (pe_cmpR op_eq (pe_fld (pv 0) rfl) (pe_fld (pv 1) rfl) (nomark _)))))))))), ?_⟩
    obtain ⟨dy, h2⟩ := id t2
    refine s_ret (v := .bl (zC r s r' s')) (ev_is (ev_andV (a := true) (b := zC r s r' s') (ev_isC (ev_var rfl) (fun H1 e => TZ.k.ty (e _ _ h2)) kit_self) fun _ => ?_) (congrArg V.bl (Bool.true_and _))) k
    have fi : ∀ {f : Str} {i j : Int}, f ∈ zNs → (zF r s).lookup f = some (.int i) → (zF r' s').lookup f = some (.int j) → Ev (tOp rEq (tFld K (tVar 0) f) (tFld K (tVar 1) f)) (start ["self", "other"] [.ref a, .ref b]) H (.bl (decide (i = j))) := fun hf l1 l2 => ev_is (ev_op (ev_z TZ t1 (ev_var rfl) hf l1) (ev_z TZ t2 (ev_var rfl) hf l2) (rv_eq rfl)) (congrArg V.bl dI)
    have fb : ∀ {f : Str} {i j : Bool}, f ∈ zNs → (zF r s).lookup f = some (.bl i) → (zF r' s').lookup f = some (.bl j) → Ev (tOp rEq (tFld K (tVar 0) f) (tFld K (tVar 1) f)) (start ["self", "other"] [.ref a, .ref b]) H (.bl (decide (i = j))) := fun hf l1 l2 => ev_is (ev_op (ev_z TZ t1 (ev_var rfl) hf l1) (ev_z TZ t2 (ev_var rfl) hf l2) (rv_eq rfl)) (congrArg V.bl dB)
    exact ev_andV (fi (by simp) rfl rfl) fun _ => ev_andV (fb (by simp) rfl rfl) fun _ => ev_andV (fb (by simp) rfl rfl) fun _ => ev_andV (fb (by simp) rfl rfl) fun _ => ev_andV (fi (by simp) rfl rfl) fun _ => fi (by simp) rfl rfl
/-! ### course_from, state_of -/
def spCF (P : Program) (w : World) (K : PySem.W.Frag) (CC CT CZ CS CP : Addr) : Sp := fun vs H Q _ => ∃ (m a : Addr) (sp r n : Int) (s : Stc) (p q : Addr) (h : Str) (e u : Int) (h2 : Str) (e2 u2 : Int), vs = [.ref m, .int sp, .ref a] ∧ SetV K CS CP H m n p q h e u h2 e2 u2 ∧ (sp = 0 ∨ sp = 1) ∧ TsAt CZ H a r s ∧
  ∀ x H' st dw dc, dw ≠ dc → H x = none → H st = none → H dw = none → H dc = none → Ex H H' → CrAt K CC CT H' x st dw dc (cfOf sp h e h2 e2) ⟨n, r, s, 0, 0⟩ → H' dw = some (dicE P w dw []) → H' dc = some (dicE P w dc []) → Q (.ref x) H'
theorem scCF : FnScope ["setting", "speaker", "state", "stance"] ["setting", "speaker", "state"] (defScope sCF) := ⟨rfl, rfl, rfl, by decide +kernel, rfl, by decide +kernel, by decide +kernel⟩
theorem ok_cf {f fI : Addr} {fd fdI : FuncData} (F : Fun K "course_from" "course_from" sCF f fd) (TK : Ccs K mg CC) (TZ : Tst K mg CZ) (M : Mk K CC fI) (bI : Binds K fdI ciPs []) (GI : FnOk P w K mg base CX0 3 fI fdI ciPs (spCIni P w K CC CT CS CP)) : FnOk P w K mg base CX0 5 f fd ["setting", "speaker", "state"] (spCF P w K CC CT CZ CS CP) := by
  refine F.ok scCF (fun vs H Q E h => ?_) (fun cdv A outer s H vs Q E hr h => ?_)
  · obtain ⟨m, a, sp, r, n, s, p, q, h, e, u, h2, e2, u2, rfl, _⟩ := h
    rfl
  · obtain ⟨m, a, sp, r, n, s, p, q, h, e, u, h2, e2, u2, rfl, sv, hsp, t, k⟩ := h
    refine ⟨_, pss_cons (ps_set (i := 3) scCF.nd rfl (Or.inl rfl) (pe_tup (pa_cons (pe_fld (pv 2) rfl) (pa_cons (pe_fld (pv 2) rfl) (pa_cons (pe_fld (pv 2) rfl) (pa_cons (pe_fld (pv 2) rfl) (pa_cons (pe_fld (pv 2) rfl) pa_nil)))))))
      (pss_one (ps_ret (pe_make M GI hr rfl TK.hm bI .nil pass0 (pa_cons (pv 0) (pa_cons (pv 1) (pa_cons (pe_fld (pv 2) rfl) (pa_cons (pv 3) pa_nil))))))), ?_⟩
    refine q_asgX (K := K) (d := stD s) (dvx_tup (dvsx_cons (dvx_b (ev_z TZ t (ev_var rfl) (by simp) rfl)) (dvsx_cons (dvx_b (ev_z TZ t (ev_var rfl) (by simp) rfl)) (dvsx_cons (dvx_b (ev_z TZ t (ev_var rfl) (by simp) rfl)) (dvsx_cons (dvx_i (ev_z TZ t (ev_var rfl) (by simp) rfl)) (dvsx_cons (dvx_i (ev_z TZ t (ev_var rfl) (by simp) rfl)) dvsx_nil))))) (by show 5 ≤ 100000; decide)) fun z H1 e1 hz => ?_
    have args : EvA (tCons (tVar 0) (tCons (tVar 1) (tCons (tFld K (tVar 2) "rest") (tCons (tVar 3) tNil)))) ((start ["setting", "speaker", "state", "stance"] [.ref m, .int sp, .ref a]).set 3 (some z)) H1 [.ref m, .int sp, .int r, z] := ea_cons (ev_var rfl) (ea_cons (ev_var rfl) (ea_cons (ev_z TZ (t.ex e1) (ev_var rfl) (by simp) rfl) (ea_cons (ev_var rfl) ea_nil)))
    unfold tRet tMake
    refine args H1 (Ex.refl H1) _ fun HB eB x dx hx hdx nd => ⟨x, dx, m, sp, r, n, z, s, p, q, h, e, u, h2, e2, u2, rfl, upd_same, ((sv.ex e1).ex eB).ex (made_ex hx hdx), hsp, dp_ex (made_ex hx hdx) (dp_ex eB hz), fun HC st dw dc ndc hst hdw hdc xC cr hdw2 hdc2 => ⟨rfl, ?_⟩⟩
    have fr : ∀ {b : Addr}, (upd (upd HB dx (.own x)) x (.ins CC dx [])) b = none → HB b = none := fun {b} hb => by
      have n1 : b ≠ x := fun z => by
        rw [z, upd_same] at hb
        cases hb
      rw [upd_ne n1] at hb
      have n2 : b ≠ dx := fun z => by
        rw [z, upd_same] at hb
        cases hb
      rw [upd_ne n2] at hb
      exact hb
    have eA := e1.trans eB
    exact k x HC st dw dc ndc (fresh_back eA hx) (fresh_back eA (fr hst)) (fresh_back eA (fr hdw)) (fresh_back eA (fr hdc)) (eA.trans (made_up hx hdx xC)) cr hdw2 hdc2
def spSO (K : PySem.W.Frag) (CC CT CZ : Addr) : Sp := fun vs H Q _ => ∃ (x st dw dc : Addr) (c : Cf) (m : CrM), vs = [.ref x] ∧ CrAt K CC CT H x st dw dc c m ∧ ∀ a H', Ex H H' → TsAt CZ H' a m.r m.s → Q (.ref a) H'
theorem scSO : FnScope ["course"] ["course"] (defScope sSO) := ⟨rfl, rfl, rfl, by decide +kernel, rfl, by decide +kernel, by decide +kernel⟩
theorem ok_so {f fI : Addr} {fd fdI : FuncData} (F : Fun K "state_of" "state_of" sSO f fd) (TK : Ccs K mg CC) (TZ : Tst K mg CZ) (M : Mk K CZ fI) (bI : Binds K fdI ziPs []) (GI : FnOk P w K mg base CX0 1 fI fdI ziPs (spZIni CZ)) : FnOk P w K mg base CX0 3 f fd ["course"] (spSO K CC CT CZ) := by
  refine F.ok scSO (fun vs H Q E h => ?_) (fun cdv A outer s H vs Q E hr h => ?_)
  · obtain ⟨x, st, dw, dc, c, m, rfl, _⟩ := h
    rfl
  · obtain ⟨x, st, dw, dc, c, m, rfl, ⟨⟨dy, v, hx, hv⟩, _⟩, k⟩ := h
    refine ⟨_, pss_one (ps_ret (pe_makeS M (GI.raw bI .nil) hr rfl TZ.hm pass0 (pa_cons (pe_fld (pv 0) rfl) (StX.pa_star (pe_fld (pv 0) rfl) pa_nil)))), ?_⟩
    unfold tRet StX.tMakeR
    refine ev_fld (ev_var rfl) hx TK.k.cl TK.nr rfl H (Ex.refl H) _ fun H1 e1 => ?_
    refine ev_fld (ev_var rfl) (e1 _ _ hx) TK.k.cl TK.ns rfl H1 (Ex.refl H1) _ fun H2 e2 => ?_
    obtain ⟨a, rfl, hs⟩ := dp_st (dp_ex (e1.trans e2) hv)
    refine ⟨a, _, rfl, Or.inl hs, fun z dz hz hdz nd => ⟨z, dz, m.r, m.s, rfl, upd_same, fun H' x' h' => ⟨rfl, ?_⟩⟩⟩
    exact k z H' ((e1.trans e2).trans (made_up hz hdz x')) ⟨dz, h'⟩
end
end Lw

namespace Lw
open PySem PySem.Spec PyProof.Rows L2 Evl L3 ClX Tn
section
variable {P : Program} {w : World} {K : PySem.W.Frag} {mg : Str → Option Value} {base : Heap} {CC CT CZ CS CP : Addr}
theorem off_new {H H1 H2 : Hp} {a b : Addr} (e : Ex H H1) (ha : H a = none) (hb : H b = none) (o : Ex (off2 H1 a b) (off2 H2 a b)) : Ex H H2 := fun y u h =>
  off_go o (e _ _ h) (ne_of_none h ha) (ne_of_none h hb)
def wrZ (c : Cf) (n r : Int) (s : Stc) (len : Int) (mode : Str) : CrM := wrM c ⟨n, r, s, 0, 0⟩ len mode
def clZ (c : Cf) (n r : Int) (s : Stc) : CrM := clM c ⟨n, r, s, 0, 0⟩
/-! ### written -/
abbrev wtPs : List Str := ["setting", "speaker", "state", "length", "mode"]
def spWt (K : PySem.W.Frag) (CZ CS CP : Addr) : Sp := fun vs H Q _ => ∃ (m a : Addr) (sp r n len : Int) (mode : Str) (s : Stc) (p q : Addr) (h : Str) (e u : Int) (h2 : Str) (e2 u2 : Int), vs = [.ref m, .int sp, .ref a, .int len, .str mode] ∧ SetV K CS CP H m n p q h e u h2 e2 u2 ∧ (sp = 0 ∨ sp = 1) ∧ TsAt CZ H a r s ∧ okE e ∧ okE e2 ∧ 1 ≤ n ∧ n ≤ 1000000000000000000 ∧
  ∀ b H', Ex H H' → TsAt CZ H' b (wrZ (cfOf sp h e h2 e2) n r s len mode).r (wrZ (cfOf sp h e h2 e2) n r s len mode).s → Q (.ref b) H'
theorem scWt : FnScope ["setting", "speaker", "state", "length", "mode", "course"] wtPs (defScope sWritten) := ⟨rfl, rfl, rfl, by decide +kernel, rfl, by decide +kernel, by decide +kernel⟩
theorem cf_e {sp : Int} {h : Str} {e : Int} {h2 : Str} {e2 : Int} (o1 : okE e) (o2 : okE e2) : okE (cfOf sp h e h2 e2).e := by
  unfold cfOf
  split
  · exact o2
  · exact o1
theorem q_call {σ : L2.St} {H : Hp} {D : Ends} {tz : TS} {i : Nat} {ta : TA} {vs : List V} {sp : Sp} {E : XK} (ha : EvA ta σ H vs) (k : ∀ H1, Ex H H1 → sp (vs ++ []) H1 (fun x H2 => tz D (σ.set i (some x)) H2) E) : tSeq (tAsg (tCall sp [] E ta) (gName i)) tz D σ H := ha H (Ex.refl H) _ k
theorem s_retC {σ : L2.St} {H : Hp} {D : Ends} {ta : TA} {vs : List V} {sp : Sp} {E : XK} (ha : EvA ta σ H vs) (k : ∀ H1, Ex H H1 → sp (vs ++ []) H1 D.rt E) : tRet (tCall sp [] E ta) D σ H := ha H (Ex.refl H) _ k
theorem q_mthX {σ : L2.St} {H : Hp} {D : Ends} {tz : TS} {ta : TE} {t : TA} {x C dx : Addr} {fs : List (Str × V)} {m : Str} {vs : List V} {sp : Sp} {E : XK} (ha : Ev ta σ H (.ref x)) (hx : H x = some (.ins C dx fs)) (hl : fs.lookup m = none) (ht : EvA t σ H vs) (k : ∀ H1, Ex H H1 → sp (.ref x :: (vs ++ [])) H1 (fun _ H2 => tz D σ H2) E) : tSeq (tDrop (tMeth C m sp [] E ta t)) tz D σ H := tm_go ha hx hl ht k
theorem q_cf {σ : L2.St} {H : Hp} {D : Ends} {tz : TS} {i : Nat} {ta tb tc : TE} {m a : Addr} {sp r n : Int} {s : Stc} {p q : Addr} {h : Str} {e u : Int} {h2 : Str} {e2 u2 : Int} {E : XK} (sv : SetV K CS CP H m n p q h e u h2 e2 u2) (hsp : sp = 0 ∨ sp = 1) (t : TsAt CZ H a r s) (ha : Ev ta σ H (.ref m)) (hb : Ev tb σ H (.int sp)) (hc : Ev tc σ H (.ref a))
    (k : ∀ x H' st dw dc, dw ≠ dc → H x = none → H st = none → H dw = none → H dc = none → Ex H H' → CrAt K CC CT H' x st dw dc (cfOf sp h e h2 e2) ⟨n, r, s, 0, 0⟩ → H' dw = some (dicE P w dw []) → H' dc = some (dicE P w dc []) → tz D (σ.set i (some (.ref x))) H') :
    tSeq (tAsg (tCall (spCF P w K CC CT CZ CS CP) [] E (tCons ta (tCons tb (tCons tc tNil)))) (gName i)) tz D σ H :=
  q_call (ea_cons ha (ea_cons hb (ea_cons hc ea_nil))) fun H1 e1 => ⟨m, a, sp, r, n, s, p, q, h, e, u, h2, e2, u2, rfl, sv.ex e1, hsp, t.ex e1, fun x H2 st dw dc n1 f1 f2 f3 f4 e' c d1 d2 => k x H2 st dw dc n1 (fresh_back e1 f1) (fresh_back e1 f2) (fresh_back e1 f3) (fresh_back e1 f4) (e1.trans e') c d1 d2⟩
theorem ok_wt {f fC fM fO : Addr} {fd fdC fdM fdO : FuncData} (F : FunD K "written" "written" (defArgs sWritten) (defBody sWritten) (defScope sWritten) [.str "plain"] [] f fd) (TK : Ccs K mg CC)
    (FC : Fun K "course_from" "course_from" sCF fC fdC) (bC : Binds K fdC ["setting", "speaker", "state"] []) (gC : mg "course_from" = some (.ref fC)) (GC : FnOk P w K mg base CX0 5 fC fdC ["setting", "speaker", "state"] (spCF P w K CC CT CZ CS CP))
    (FO : Fun K "state_of" "state_of" sSO fO fdO) (bO : Binds K fdO ["course"] []) (gO : mg "state_of" = some (.ref fO)) (GO : FnOk P w K mg base CX0 3 fO fdO ["course"] (spSO K CC CT CZ))
    (MM : Meth K CC "make_write" fM) (bM : Binds K fdM ["self", "length", "mode"] []) (GM : FnOk P w K mg base CX0 4 fM fdM ["self", "length", "mode"] (spMW P w K CC CT)) : FnOk P w K mg base CX0 6 f fd wtPs (spWt K CZ CS CP) := by
  refine F.ok scWt (fun vs H Q E h => ?_) (fun cdv A outer s H vs Q E hr h => ?_)
  · obtain ⟨m, a, sp, r, n, len, mode, s, p, q, h, e, u, h2, e2, u2, rfl, _⟩ := h
    rfl
  · obtain ⟨m, a, sp, r, n, len, mode, s', p, q, h, e, u, h2, e2, u2, rfl, sv, hsp, t, o1, o2, n1, n2, k⟩ := h
    have hr4 : Room 4 _ := hr.mono (by decide)
    have hr3 : Room 3 _ := hr.mono (by decide)
    refine ⟨_, PSs.nox (X := cxOf CX0 P w K mg base ["setting", "speaker", "state", "length", "mode", "course"] "written" (defScope sWritten) f cdv A outer s H E) (pss_cons (ps_set (i := 5) scWt.nd rfl (Or.inl rfl) (pe_call GC hr rfl gC FC.kp bC .nil pass0 (pa_cons (pv 0) (pa_cons (pv 1) (pa_cons (pv 2) pa_nil)))))
      (pss_cons (ps_expr (pe_meth (pv 5) TK.k.cl MM GM hr4 bM .nil pass0 (pa_cons (pv 3) (pa_cons (pv 4) pa_nil))))
      (pss_one (ps_ret (pe_call GO hr3 rfl gO FO.kp bO .nil pass0 (pa_cons (pv 5) pa_nil)))))), ?_⟩
    refine q_cf sv hsp t (ev_var rfl) (ev_var rfl) (ev_var rfl) fun x H1 st dw dc nd fx fst fdw fdc e1 cr d1 d2 => ?_
    obtain ⟨⟨dx, v, hx, hv⟩, tc⟩ := id cr
    refine q_mthX (ev_var rfl) hx rfl (ea_cons (ev_var rfl) (ea_cons (ev_var rfl) ea_nil)) fun H2 x2 => ?_
    refine ⟨x, st, dw, dc, _, _, len, mode, [], rfl, cr.ex x2, cf_e o1 o2, n1, n2, cch_new (x2 _ _ d1), by show 0 ≤ 900000; decide, fun H3 ys y1 y2 y3 y4 => ?_⟩
    have eH3 : Ex H H3 := off_new (e1.trans x2) fx fdw y2
    refine s_retC (ea_cons (ev_var rfl) ea_nil) fun H4 x4 => ⟨x, st, dw, dc, _, _, rfl, y4.ex x4, fun b H5 x5 tb => ?_⟩
    exact k b H5 ((eH3.trans x4).trans x5) tb
/-! ### cleared -/
abbrev cdPs : List Str := ["setting", "speaker", "state"]
def spCd (K : PySem.W.Frag) (CZ CS CP : Addr) : Sp := fun vs H Q _ => ∃ (m a : Addr) (sp r n : Int) (s : Stc) (p q : Addr) (h : Str) (e u : Int) (h2 : Str) (e2 u2 : Int), vs = [.ref m, .int sp, .ref a] ∧ SetV K CS CP H m n p q h e u h2 e2 u2 ∧ (sp = 0 ∨ sp = 1) ∧ TsAt CZ H a r s ∧
  ∀ b H', Ex H H' → TsAt CZ H' b (clZ (cfOf sp h e h2 e2) n r s).r (clZ (cfOf sp h e h2 e2) n r s).s → Q (.ref b) H'
theorem scCd : FnScope ["setting", "speaker", "state", "course"] cdPs (defScope sCleared) := ⟨rfl, rfl, rfl, by decide +kernel, rfl, by decide +kernel, by decide +kernel⟩
theorem ok_cd {f fC fM fO : Addr} {fd fdC fdM fdO : FuncData} (F : Fun K "cleared" "cleared" sCleared f fd) (TK : Ccs K mg CC)
    (FC : Fun K "course_from" "course_from" sCF fC fdC) (bC : Binds K fdC ["setting", "speaker", "state"] []) (gC : mg "course_from" = some (.ref fC)) (GC : FnOk P w K mg base CX0 5 fC fdC ["setting", "speaker", "state"] (spCF P w K CC CT CZ CS CP))
    (FO : Fun K "state_of" "state_of" sSO fO fdO) (bO : Binds K fdO ["course"] []) (gO : mg "state_of" = some (.ref fO)) (GO : FnOk P w K mg base CX0 3 fO fdO ["course"] (spSO K CC CT CZ))
    (MM : Meth K CC "make_clearing" fM) (bM : Binds K fdM ["self"] []) (GM : FnOk P w K mg base CX0 4 fM fdM ["self"] (spMC P w K CC CT)) : FnOk P w K mg base CX0 6 f fd cdPs (spCd K CZ CS CP) := by
  refine F.ok scCd (fun vs H Q E h => ?_) (fun cdv A outer s H vs Q E hr h => ?_)
  · obtain ⟨m, a, sp, r, n, s, p, q, h, e, u, h2, e2, u2, rfl, _⟩ := h
    rfl
  · obtain ⟨m, a, sp, r, n, s', p, q, h, e, u, h2, e2, u2, rfl, sv, hsp, t, k⟩ := h
    have hr4 : Room 4 _ := hr.mono (by decide)
    have hr3 : Room 3 _ := hr.mono (by decide)
    refine ⟨_, pss_cons (ps_set (i := 3) scCd.nd rfl (Or.inl rfl) (pe_call GC hr rfl gC FC.kp bC .nil pass0 (pa_cons (pv 0) (pa_cons (pv 1) (pa_cons (pv 2) pa_nil)))))
      (pss_cons (ps_expr (pe_meth0 (pv 3) TK.k.cl MM GM hr4 bM .nil pass0))
      (pss_one (ps_ret (pe_call GO hr3 rfl gO FO.kp bO .nil pass0 (pa_cons (pv 3) pa_nil))))), ?_⟩
    refine q_cf sv hsp t (ev_var rfl) (ev_var rfl) (ev_var rfl) fun x H1 st dw dc nd fx fst fdw fdc e1 cr d1 d2 => ?_
    obtain ⟨⟨dx, v, hx, hv⟩, tc⟩ := id cr
    refine q_mthX (ev_var rfl) hx rfl ea_nil fun H2 x2 => ?_
    refine ⟨x, st, dw, dc, _, _, [], rfl, cr.ex x2, cch_new (x2 _ _ d2), by show 0 ≤ 900000; decide, fun H3 ys y1 y2 y3 y4 => ?_⟩
    have eH3 : Ex H H3 := off_new (e1.trans x2) fx fdc y2
    refine s_retC (ea_cons (ev_var rfl) ea_nil) fun H4 x4 => ⟨x, st, dw, dc, _, _, rfl, y4.ex x4, fun b H5 x5 tb => ?_⟩
    exact k b H5 ((eH3.trans x4).trans x5) tb
end
end Lw

namespace Tn
open PySem L3
def bi (b : Bool) : Int := if b then 1 else 0
structure Snt where
  soon : Int
  pend : Int
  done : Bool
def sentM (fulls soon behind some : Int) : Snt :=
  ⟨soon - mn soon fulls, (behind * bi (decide (mn soon fulls = 0)) + (fulls - mn soon fulls)) % mx 1 some * bi (decide (some > 0)),
    decide (fulls - mn soon fulls = 0) || (decide (some > 0) && decide ((behind * bi (decide (mn soon fulls = 0)) + (fulls - mn soon fulls)) % mx 1 some = 0))⟩
def tlD (r : Int) (s : Stc) : PyData := .list [.int r, .bool s.kept, .bool s.blk, .bool s.stk, .int s.pend, .int s.quick]
/-- the state behind the first write: its rest, its stance -/
def fdM (n : Int) (h : Str) (e q len : Int) : Int × Stc :=
  if (decide (len % n > 0) && !(decide (len / n > 0) && decide (h = "all"))) = true then
    (if (sentM (len / n) q 0 e).soon > 0 then (0, ⟨false, !decide (h = "off"), false, 0, (sentM (len / n) q 0 e).soon - 1⟩)
     else (0, ⟨false, !decide (h = "off"), !decide (h = "off"), (sentM (len / n) q 0 e).pend, 0⟩))
  else (len % n, ⟨false, decide (len / n > 0) && decide (h = "all"), (decide (len / n > 0) && decide (h = "all")) && !(sentM (len / n) q 0 e).done, (sentM (len / n) q 0 e).pend, (sentM (len / n) q 0 e).soon⟩)
def sdM (n e r : Int) (s : Stc) (len : Int) : Int × Stc :=
  ((r + len) % n, ⟨false, true, !(sentM ((r + len) / n) s.quick s.pend e).done, (sentM ((r + len) / n) s.quick s.pend e).pend, (sentM ((r + len) / n) s.quick s.pend e).soon⟩)
end Tn
namespace Lw
open PySem PySem.Spec PyProof.Rows L2 Evl L3 ClX Tn
abbrev sSent : Stmt := top 30
abbrev sFirst : Stmt := top 31
abbrev sTell : Stmt := top 32
abbrev sSecond : Stmt := top 33
section
variable {P : Program} {w : World} {K : PySem.W.Frag} {mg : Str → Option Value} {base : Heap} {CC CT CZ CS CP : Addr}
theorem q_par {σ : L2.St} {H : Hp} {D : Ends} {tz : TS} {i j : Nat} {ta : TA} {x y : V} (ha : EvA ta σ H [x, y]) (k : ∀ H1, Ex H H1 → tz D ((σ.set i (some x)).set j (some y)) H1) : tSeq (tPar i j ta) tz D σ H := ha H (Ex.refl H) _ fun H1 e1 => ⟨x, y, rfl, k H1 e1⟩
theorem q_callG {σ : L2.St} {H : Hp} {D : Ends} {tz : TS} {ta : TA} {vs : List V} {sp : Sp} {E : XK} {g : TG} (ha : EvA ta σ H vs) (k : ∀ H1, Ex H H1 → sp (vs ++ []) H1 (fun x H2 => g x σ H2 (fun σ' H' => tz D σ' H')) E) : tSeq (tAsg (tCall sp [] E ta) g) tz D σ H := ha H (Ex.refl H) _ k
/-! ### _law_sent -/
abbrev snPs : List Str := ["_law_fulls", "_law_soon", "_law_behind", "_law_some"]
def snL (z : Snt) : List V := [.int z.soon, .int z.pend, .bl z.done]
def spSent : Sp := fun vs H Q _ => ∃ fulls soon behind some : Int, vs = [.int fulls, .int soon, .int behind, .int some] ∧ okE some ∧ ∀ p H', H p = none → Ex H H' → H' p = Option.some (.tup (snL (sentM fulls soon behind some))) → Q (.ref p) H'
theorem scSent : FnScope ["_law_fulls", "_law_soon", "_law_behind", "_law_some", "_law_early", "_law_late", "_law_pending", "_law_done"] snPs (defScope sSent) := ⟨rfl, rfl, rfl, by decide +kernel, rfl, by decide +kernel, by decide +kernel⟩
theorem mx1 {e : Int} (h : okE e) : 0 < mx 1 e := by
  unfold mx
  split <;> omega
theorem bi_small (b : Bool) : -(2 ^ 64) < bi b ∧ bi b < 2 ^ 64 := by cases b <;> decide
theorem rc_bi {H : Hp} {b : Bool} : RC (fun xs H Q => (∃ i, xs = [V.int i] ∧ Q (.int i) H) ∨ ∃ k, xs = [V.bl k] ∧ Q (.int (if k then 1 else 0)) H) [.bl b] H (.int (bi b)) := fun H1 e Q q => Or.inr ⟨b, rfl, q H1 (Ex.refl H1)⟩
theorem ok_sent {f : Addr} {fd : FuncData} (F : Fun K "_law_sent" "_law_sent" sSent f fd) (T : Txt K mg) : FnOk P w K mg base CX0 1 f fd snPs spSent := by
  refine F.ok scSent (fun vs H Q E h => ?_) (fun cdv A outer s H vs Q E hr h => ?_)
  · obtain ⟨a, b, c, d, rfl, _⟩ := h
    rfl
  · obtain ⟨fulls, soon, behind, e, rfl, he, k⟩ := h
    refine ⟨_, pss_cons (ps_set (i := 4) scSent.nd rfl (Or.inl rfl) (pe_callB (call_min2 rfl) (by rfl) T.min PyProof.Rows.boot_min (pa_cons (pv 1) (pa_cons (pv 0) pa_nil))))
      (pss_cons (ps_set (i := 5) scSent.nd rfl (Or.inl rfl) (pe_op op_sub (pv 0) (pv 4)))
      (pss_cons (ps_set (i := 6) scSent.nd rfl (Or.inl rfl) (pe_op op_add (pe_op op_mul (pv 2) (pe_callTy call_int1 (by rfl) T.int PyProof.Rows.boot_int (pa_cons (pe_cmpR op_eq (pv 4) pe_int (nomark _)) pa_nil))) (pv 5)))
      (pss_cons (ps_set (i := 7) scSent.nd rfl (Or.inl rfl) (pe_or (pe_cmpR op_eq (pv 5) pe_int (nomark _)) (pe_one (pe_and (pe_cmpR op_gt (pv 3) pe_int (nomark _)) (pe_one (pe_cmpR op_eq (pe_op op_mod (pe_callTy call_int1 (by rfl) T.int PyProof.Rows.boot_int (pa_cons (pv 6) pa_nil)) (pe_callB (call_max2 rfl) (by rfl) T.max PyProof.Rows.boot_max (pa_cons pe_int (pa_cons (pv 3) pa_nil)))) pe_int (nomark _)))))))
      (pss_one (ps_ret (pe_tup (pa_cons (pe_op op_sub (pv 1) (pv 4)) (pa_cons (pe_op op_mul (pe_op op_mod (pe_callTy call_int1 (by rfl) T.int PyProof.Rows.boot_int (pa_cons (pv 6) pa_nil)) (pe_callB (call_max2 rfl) (by rfl) T.max PyProof.Rows.boot_max (pa_cons pe_int (pa_cons (pv 3) pa_nil)))) (pe_callTy call_int1 (by rfl) T.int PyProof.Rows.boot_int (pa_cons (pe_cmpR op_gt (pv 3) pe_int (nomark _)) pa_nil))) (pa_cons (pv 7) pa_nil))))))))), ?_⟩
    refine q_asg (ev_cb (ea_cons (ev_var rfl) (ea_cons (ev_var rfl) ea_nil)) rc_min2) fun H1 e1 => ?_
    refine q_asg (ev_op (ev_var rfl) (ev_var rfl) rv_I0) fun H2 e2 => ?_
    refine q_asg (v := .int (behind * bi (decide (mn soon fulls = 0)) + (fulls - mn soon fulls))) (ev_op (ev_op (ev_var rfl) (ev_cb (ea_cons (ev_is (ev_op (ev_var rfl) ev_c (rv_eq rfl)) (congrArg V.bl dI)) ea_nil) rc_bi) (rv_I (Or.inr (bi_small _)))) (ev_var rfl) rv_I0) fun H3 e3 => ?_
    have emod : ∀ {σ : L2.St} {HH : Hp} {p : Int}, σ[6]? = some (some (.int p)) → σ[3]? = some (some (.int e)) → Ev (tOp (rI (fun _ j => 0 < j) fun i j => .int (i % j)) (tCB (fun xs H Q => (∃ i, xs = [V.int i] ∧ Q (.int i) H) ∨ ∃ k, xs = [V.bl k] ∧ Q (.int (if k then 1 else 0)) H) (tCons (tVar 6) tNil)) (tCB (fun xs H Q => ∃ i j, xs = [V.int i, V.int j] ∧ Q (.int (if j > i then j else i)) H) (tCons (tC (.int 1)) (tCons (tVar 3) tNil)))) σ HH (.int (p % mx 1 e)) := fun h6 h3 =>
      ev_op (ev_cb (ea_cons (ev_var h6) ea_nil) rc_int) (ev_cb (ea_cons ev_c (ea_cons (ev_var h3) ea_nil)) rc_max2) (rv_I (mx1 he))
    refine q_asg (ev_orV (ev_is (ev_op (ev_var rfl) ev_c (rv_eq rfl)) (congrArg V.bl dI)) fun _ => ev_andV (ev_op (ev_var rfl) ev_c rv_I0) fun _ => ev_is (ev_op (emod rfl rfl) ev_c (rv_eq rfl)) (congrArg V.bl dI)) fun H4 e4 => ?_
    refine s_retU (eu_tup (ea_cons (ev_op (ev_var rfl) (ev_var rfl) rv_I0) (ea_cons (ev_op (emod rfl rfl) (ev_cb (ea_cons (ev_op (ev_var rfl) ev_c rv_I0) ea_nil) rc_bi) (rv_I (Or.inr (bi_small _)))) (ea_cons (ev_var rfl) ea_nil))) (by show 3 ≤ 100000; decide)) fun p H5 hp e5 h5 => ?_
    have eA := ((e1.trans e2).trans e3).trans e4
    exact k p H5 (fresh_back eA hp) (eA.trans e5) h5
/-! ### _law_tell -/
def RetD (K : PySem.W.Frag) (d : PyData) (H : Hp) (Q : VK) : Prop := ∀ z H', Ex H H' → Dp K H' z d → Q z H'
def spTell (K : PySem.W.Frag) (CZ : Addr) : Sp := fun vs H Q _ => ∃ (a : Addr) (r : Int) (s : Stc), vs = [.ref a] ∧ TsAt CZ H a r s ∧ RetD K (tlD r s) H Q
theorem scTell : FnScope ["_law_state"] ["_law_state"] (defScope sTell) := ⟨rfl, rfl, rfl, by decide +kernel, rfl, by decide +kernel, by decide +kernel⟩
theorem ok_tell {f : Addr} {fd : FuncData} (F : Fun K "_law_tell" "_law_tell" sTell f fd) (TZ : Tst K mg CZ) : FnOk P w K mg base CX0 1 f fd ["_law_state"] (spTell K CZ) := by
  refine F.ok scTell (fun vs H Q E h => ?_) (fun cdv A outer s H vs Q E hr h => ?_)
  · obtain ⟨a, r, s, rfl, _⟩ := h
    rfl
  · obtain ⟨a, r, z, rfl, t, k⟩ := h
    refine ⟨_, pss_one (ps_ret (pe_lst (pa_cons (pe_fld (pv 0) rfl) (pa_cons (pe_fld (pv 0) rfl) (pa_cons (pe_fld (pv 0) rfl) (pa_cons (pe_fld (pv 0) rfl) (pa_cons (pe_fld (pv 0) rfl) (pa_cons (pe_fld (pv 0) rfl) pa_nil)))))))), ?_⟩
    exact s_retD (K := K) (d := tlD r z) (dvx_lst (dvsx_cons (dvx_i (ev_z TZ t (ev_var rfl) (by simp) rfl)) (dvsx_cons (dvx_b (ev_z TZ t (ev_var rfl) (by simp) rfl)) (dvsx_cons (dvx_b (ev_z TZ t (ev_var rfl) (by simp) rfl)) (dvsx_cons (dvx_b (ev_z TZ t (ev_var rfl) (by simp) rfl)) (dvsx_cons (dvx_i (ev_z TZ t (ev_var rfl) (by simp) rfl)) (dvsx_cons (dvx_i (ev_z TZ t (ev_var rfl) (by simp) rfl)) dvsx_nil)))))) (by show 6 ≤ 100000; decide)) k
/-! ### _law_first_due -/
abbrev fdPs : List Str := ["_law_width", "_law_mine", "_law_other", "_law_length"]
def spFirst (K : PySem.W.Frag) : Sp := fun vs H Q _ => ∃ (n e q len : Int) (h o : Str) (t : Addr), vs = [.int n, .str h, .ref t, .int len] ∧ SqT K H t [.str o, .int e, .int q] ∧ okE e ∧ 1 ≤ n ∧ n ≤ 1000000000000000000 ∧ RetD K (tlD (fdM n h e q len).1 (fdM n h e q len).2) H Q
theorem scFirst : FnScope ["_law_width", "_law_mine", "_law_other", "_law_length", "_law_fulls", "_law_rest", "_law_soon", "_law_pending", "_law_done", "_law_blocked", "_law_stuck"] fdPs (defScope sFirst) := ⟨rfl, rfl, rfl, by decide +kernel, rfl, by decide +kernel, by decide +kernel⟩
theorem cdivw {i n : Int} (h1 : 1 ≤ n) (h2 : n ≤ 1000000000000000000) : CDivW i n := wide_div (b := 60) (by omega) (by omega) (by decide) (by decide)
theorem ok_first {f fS : Addr} {fd fdS : FuncData} (F : Fun K "_law_first_due" "_law_first_due" sFirst f fd) (T : Txt K mg) (FS : Fun K "_law_sent" "_law_sent" sSent fS fdS) (bS : Binds K fdS snPs []) (gS : mg "_law_sent" = some (.ref fS)) (GS : FnOk P w K mg base CX0 1 fS fdS snPs spSent) : FnOk P w K mg base CX0 2 f fd fdPs (spFirst K) := by
  refine F.ok scFirst (fun vs H Q E h => ?_) (fun cdv A outer s H vs Q E hr h => ?_)
  · obtain ⟨n, e, q, len, h, o, t, rfl, _⟩ := h
    rfl
  · obtain ⟨n, e, q, len, h, o, t, rfl, ht, he, n1, n2, k⟩ := h
    refine ⟨_, pss_cons (ps_par (i := 4) (j := 5) rfl scFirst.nd rfl rfl (by decide) rfl rfl (pa_cons (pe_op op_fdivW (pv 3) (pv 0)) (pa_cons (pe_op op_mod (pe_callTy call_int1 (by rfl) T.int PyProof.Rows.boot_int (pa_cons (pv 3) pa_nil)) (pv 0)) pa_nil)) (by rfl))
      (pss_cons (ps_asg (pe_call GS hr rfl gS FS.kp bS .nil pass0 (pa_cons (pv 4) (pa_cons (pe_ix ix_tup (pv 2) pe_int (fun _ _ => rfl)) (pa_cons pe_int (pa_cons (pe_ix ix_tup (pv 2) pe_int (fun _ _ => rfl)) pa_nil))))) (pg_tup rfl (pgs_cons (pg_name (i := 6) scFirst.nd rfl (Or.inl rfl)) (pgs_cons (pg_name (i := 7) scFirst.nd rfl (Or.inl rfl)) (pgs_cons (pg_name (i := 8) scFirst.nd rfl (Or.inl rfl)) pgs_nil)))))
      (pss_cons (ps_set (i := 9) scFirst.nd rfl (Or.inl rfl) (pe_and (pe_cmpR op_gt (pv 4) pe_int (nomark _)) (pe_one (pe_cmpR op_eq (pv 1) pe_str (nomark _)))))
      (pss_cons (ps_set (i := 10) scFirst.nd rfl (Or.inl rfl) (pe_and (pv 9) (pe_one (pe_not (pv 8)))))
      (pss_cons (ps_if (PW.pt (pw_and (pt_cmpR op_gt (pv 5) pe_int (nomark _)) (pw_and1 (pt_not (pt_val (pv 9))))))
        (pss_cons (ps_if (pt_cmpR op_gt (pv 6) pe_int (nomark _)) (pss_one (ps_ret (pe_lst (pa_cons pe_int (pa_cons pe_bl (pa_cons (pe_cmpR op_ne (pv 1) pe_str (nomark _)) (pa_cons pe_bl (pa_cons pe_int (pa_cons (pe_op op_sub (pv 6) pe_int) pa_nil))))))))) pss_nil)
          (pss_one (ps_ret (pe_lst (pa_cons pe_int (pa_cons pe_bl (pa_cons (pe_cmpR op_ne (pv 1) pe_str (nomark _)) (pa_cons (pe_cmpR op_ne (pv 1) pe_str (nomark _)) (pa_cons (pv 7) (pa_cons pe_int pa_nil)))))))))) pss_nil)
      (pss_one (ps_ret (pe_lst (pa_cons (pv 5) (pa_cons pe_bl (pa_cons (pv 9) (pa_cons (pv 10) (pa_cons (pv 7) (pa_cons (pv 6) pa_nil))))))))))))), ?_⟩
    refine q_par (ea_cons (ev_op (ev_var rfl) (ev_var rfl) (rv_I (cdivw n1 n2))) (ea_cons (ev_op (ev_cb (ea_cons (ev_var rfl) ea_nil) rc_int) (ev_var rfl) (rv_I (show 0 < n by omega))) ea_nil)) fun H2 e12 => ?_
    obtain ⟨z, hz⟩ : ∃ z, z = sentM (len / n) q 0 e := ⟨_, rfl⟩
    refine q_callG (ea_cons (ev_var rfl) (ea_cons (ev_op (ev_var rfl) ev_c (rv_ixT (ex_t e12 ht) (atI_nat (j := 2) rfl))) (ea_cons ev_c (ea_cons (ev_op (ev_var rfl) ev_c (rv_ixT (ex_t e12 ht) (atI_nat (j := 1) rfl))) ea_nil)))) fun H3 e3 => ⟨len / n, q, 0, e, rfl, he, fun p H4 hp e4 h4 => ?_⟩
    rw [← hz] at h4
    refine ⟨p, _, rfl, st_of h4, rfl, _, _, rfl, _, _, rfl, _, _, rfl, rfl, ?_⟩
    have eA := (e12.trans e3).trans e4
    refine q_asg (ev_andV (ev_op (ev_var rfl) ev_c rv_I0) fun _ => ev_is (ev_op (ev_var rfl) ev_c (rv_eq rfl)) (congrArg V.bl dS)) fun H5 e5 => ?_
    refine q_asg (ev_andV (ev_var rfl) fun _ => ev_notV (ev_var rfl)) fun H6 e6 => ?_
    have eB := (eA.trans e5).trans e6
    have hn : ∀ {HH : Hp} {σ : L2.St}, σ[1]? = some (some (.str h)) → DvX K (tOp rNe (tVar 1) (tC (.str "off"))) σ HH (.bool (!decide (h = "off"))) := fun h1 => dvx_b (ev_is (ev_op (ev_var h1) ev_c (rv_ne rfl)) (by rw [dS]))
    refine q_when (b := decide (len % n > 0) && !(decide (len / n > 0) && decide (h = "all"))) (et_and (et_test (ev_op (ev_var rfl) ev_c rv_I0)) fun _ => et_not (et_B (ev_var rfl))) (fun hb H7 e7 => ?_) fun hb H7 e7 => ?_
    · refine q_when (b := decide (z.soon > 0)) (et_test (ev_op (ev_var rfl) ev_c rv_I0)) (fun hb2 H8 e8 => ?_) fun hb2 H8 e8 => ?_
      · refine s_retD (K := K) (d := tlD (fdM n h e q len).1 (fdM n h e q len).2) ?_ fun y H9 e9 hy => k y H9 (((eB.trans e7).trans e8).trans e9) hy
        unfold fdM
        rw [if_pos hb, ← hz, if_pos (of_decide_eq_true hb2)]
        exact dvx_lst (dvsx_cons (dvx_i ev_c) (dvsx_cons (dvx_b ev_c) (dvsx_cons (hn rfl) (dvsx_cons (dvx_b ev_c) (dvsx_cons (dvx_i ev_c) (dvsx_cons (dvx_i (ev_op (ev_var rfl) ev_c rv_I0)) dvsx_nil)))))) (by show 6 ≤ 100000; decide)
      · refine s_retD (K := K) (d := tlD (fdM n h e q len).1 (fdM n h e q len).2) ?_ fun y H9 e9 hy => k y H9 (((eB.trans e7).trans e8).trans e9) hy
        unfold fdM
        rw [if_pos hb, ← hz, if_neg (of_decide_eq_false hb2)]
        exact dvx_lst (dvsx_cons (dvx_i ev_c) (dvsx_cons (dvx_b ev_c) (dvsx_cons (hn rfl) (dvsx_cons (hn rfl) (dvsx_cons (dvx_i (ev_var rfl)) (dvsx_cons (dvx_i ev_c) dvsx_nil)))))) (by show 6 ≤ 100000; decide)
    · refine s_retD (K := K) (d := tlD (fdM n h e q len).1 (fdM n h e q len).2) ?_ fun y H8 e8 hy => k y H8 ((eB.trans e7).trans e8) hy
      unfold fdM
      rw [if_neg (by rw [hb]; simp), ← hz]
      exact dvx_lst (dvsx_cons (dvx_i (ev_var rfl)) (dvsx_cons (dvx_b ev_c) (dvsx_cons (dvx_b (ev_var rfl)) (dvsx_cons (dvx_b (ev_var rfl)) (dvsx_cons (dvx_i (ev_var rfl)) (dvsx_cons (dvx_i (ev_var rfl)) dvsx_nil)))))) (by show 6 ≤ 100000; decide)
/-! ### _law_second_due -/
abbrev sdPs : List Str := ["_law_width", "_law_other", "_law_state", "_law_length"]
def spSecond (K : PySem.W.Frag) (CZ : Addr) : Sp := fun vs H Q _ => ∃ (n e q len r : Int) (s : Stc) (o : Str) (t a : Addr), vs = [.int n, .ref t, .ref a, .int len] ∧ SqT K H t [.str o, .int e, .int q] ∧ TsAt CZ H a r s ∧ okE e ∧ 1 ≤ n ∧ n ≤ 1000000000000000000 ∧ RetD K (tlD (sdM n e r s len).1 (sdM n e r s len).2) H Q
theorem scSecond : FnScope ["_law_width", "_law_other", "_law_state", "_law_length", "_law_total", "_law_soon", "_law_pending", "_law_done"] sdPs (defScope sSecond) := ⟨rfl, rfl, rfl, by decide +kernel, rfl, by decide +kernel, by decide +kernel⟩
theorem ok_second {f fS : Addr} {fd fdS : FuncData} (F : Fun K "_law_second_due" "_law_second_due" sSecond f fd) (T : Txt K mg) (TZ : Tst K mg CZ) (FS : Fun K "_law_sent" "_law_sent" sSent fS fdS) (bS : Binds K fdS snPs []) (gS : mg "_law_sent" = some (.ref fS)) (GS : FnOk P w K mg base CX0 1 fS fdS snPs spSent) : FnOk P w K mg base CX0 2 f fd sdPs (spSecond K CZ) := by
  refine F.ok scSecond (fun vs H Q E h => ?_) (fun cdv A outer s H vs Q E hr h => ?_)
  · obtain ⟨n, e, q, len, r, s, o, t, a, rfl, _⟩ := h
    rfl
  · obtain ⟨n, e, q, len, r, st, o, t, a, rfl, ht, ts, he, n1, n2, k⟩ := h
    refine ⟨_, pss_cons (ps_set (i := 4) scSecond.nd rfl (Or.inl rfl) (pe_op op_add (pe_fld (pv 2) rfl) (pv 3)))
      (pss_cons (ps_asg (pe_call GS hr rfl gS FS.kp bS .nil pass0 (pa_cons (pe_op op_fdivW (pv 4) (pv 0)) (pa_cons (pe_fld (pv 2) rfl) (pa_cons (pe_fld (pv 2) rfl) (pa_cons (pe_ix ix_tup (pv 1) pe_int (fun _ _ => rfl)) pa_nil))))) (pg_tup rfl (pgs_cons (pg_name (i := 5) scSecond.nd rfl (Or.inl rfl)) (pgs_cons (pg_name (i := 6) scSecond.nd rfl (Or.inl rfl)) (pgs_cons (pg_name (i := 7) scSecond.nd rfl (Or.inl rfl)) pgs_nil)))))
      (pss_one (ps_ret (pe_lst (pa_cons (pe_op op_mod (pe_callTy call_int1 (by rfl) T.int PyProof.Rows.boot_int (pa_cons (pv 4) pa_nil)) (pv 0)) (pa_cons pe_bl (pa_cons pe_bl (pa_cons (pe_not (pv 7)) (pa_cons (pv 6) (pa_cons (pv 5) pa_nil)))))))))), ?_⟩
    refine q_asg (ev_op (ev_z TZ ts (ev_var rfl) (by simp) rfl) (ev_var rfl) rv_I0) fun H1 e1 => ?_
    refine q_callG (ea_cons (ev_op (ev_var rfl) (ev_var rfl) (rv_I (cdivw n1 n2))) (ea_cons (ev_z TZ (ts.ex e1) (ev_var rfl) (by simp) rfl) (ea_cons (ev_z TZ (ts.ex e1) (ev_var rfl) (by simp) rfl) (ea_cons (ev_op (ev_var rfl) ev_c (rv_ixT (ex_t e1 ht) (atI_nat (j := 1) rfl))) ea_nil)))) fun H3 e3 => ⟨(r + len) / n, st.quick, st.pend, e, rfl, he, fun p H4 hp e4 h4 => ?_⟩
    refine ⟨p, _, rfl, st_of h4, rfl, _, _, rfl, _, _, rfl, _, _, rfl, rfl, ?_⟩
    refine s_retD (K := K) (d := tlD (sdM n e r st len).1 (sdM n e r st len).2) ?_ fun y H5 e5 hy => k y H5 (((e1.trans e3).trans e4).trans e5) hy
    exact dvx_lst (dvsx_cons (dvx_i (ev_op (ev_cb (ea_cons (ev_var rfl) ea_nil) rc_int) (ev_var rfl) (rv_I (show 0 < n by omega)))) (dvsx_cons (dvx_b ev_c) (dvsx_cons (dvx_b ev_c) (dvsx_cons (dvx_b (ev_notV (ev_var rfl))) (dvsx_cons (dvx_i (ev_var rfl)) (dvsx_cons (dvx_i (ev_var rfl)) dvsx_nil)))))) (by show 6 ≤ 100000; decide)
end
end Lw

namespace Lw
open PySem PySem.Spec PyProof.Rows L2 Evl L3 ClX Tn
abbrev sSetg : Stmt := top 28
abbrev sVals : Stmt := top 29
section
variable {P : Program} {w : World} {K : PySem.W.Frag} {mg : Str → Option Value} {base : Heap} {CC CT CZ CS CP : Addr}
theorem q_asgT {σ : L2.St} {H : Hp} {D : Ends} {tz : TS} {te : TE} {i : Nat} (h : te σ H fun x H1 => tz D (σ.set i (some x)) H1) : tSeq (tAsg te (gName i)) tz D σ H := h
theorem s_retT {σ : L2.St} {H : Hp} {D : Ends} {te : TE} (h : te σ H D.rt) : tRet te D σ H := h
/-! ### _law_values -/
abbrev vlPs : List Str := ["_law_bag_here", "_law_width"]
def spVals : Sp := fun vs H Q _ => ∃ (g : Addr) (n : Int) (m : Nat), vs = [.ref g, .int n] ∧ BagAt H g (m + 5) ∧ 1 ≤ n ∧ n ≤ 1000000000000000000 ∧ ∀ (v : Int) H', 1 ≤ v → v ≤ 1000000000000000000 → Ex (del H g) (del H' g) → BagAt H' g m → Q (.int v) H'
theorem scVals : FnScope ["_law_bag_here", "_law_width", "_law_near"] vlPs (defScope sVals) := ⟨rfl, rfl, rfl, by decide +kernel, rfl, by decide +kernel, by decide +kernel⟩
theorem p18 : (10 : Int) ^ (18 : Int).toNat = 1000000000000000000 := by decide
theorem ok_vals {f fT : Addr} {fd fdT : FuncData} (F : Fun K "_law_values" "_law_values" sVals f fd) (T : Txt K mg) (FT : Fun K "_law_take" "_law_take" sTake fT fdT) (bT : Binds K fdT ["_law_bag_here", "_law_many"] []) (gT : mg "_law_take" = some (.ref fT)) (GT : FnOk P w K mg base CX0 1 fT fdT ["_law_bag_here", "_law_many"] spTake) : FnOk P w K mg base CX0 2 f fd vlPs spVals := by
  refine F.ok scVals (fun vs H Q E h => ?_) (fun cdv A outer s H vs Q E hr h => ?_)
  · obtain ⟨g, n, m, rfl, _⟩ := h
    rfl
  · obtain ⟨g, n, m, rfl, b0, n1, n2, k⟩ := h
    refine ⟨_, pss_cons (ps_set (i := 2) scVals.nd rfl (Or.inl rfl) (pe_op op_sub (pe_op op_add (pe_op op_mul (pv 1) (pe_call GT hr rfl gT FT.kp bT .nil pass0 (pa_cons (pv 0) (pa_cons (pe_op op_add pe_int (pe_op op_fdivW (pe_op op_pow pe_int pe_int) (pv 1))) pa_nil)))) (pe_call GT hr rfl gT FT.kp bT .nil pass0 (pa_cons (pv 0) (pa_cons pe_int pa_nil)))) pe_int))
      (pss_one (ps_ret (pe_ix ix_list (pe_lst (pa_cons (pe_op op_add pe_int (pe_call GT hr rfl gT FT.kp bT .nil pass0 (pa_cons (pv 0) (pa_cons (pe_op op_pow pe_int pe_int) pa_nil))))
        (pa_cons (pe_callB (call_max2 rfl) (by rfl) T.max PyProof.Rows.boot_max (pa_cons pe_int (pa_cons (pe_callB (call_min2 rfl) (by rfl) T.min PyProof.Rows.boot_min (pa_cons (pv 2) (pa_cons (pe_op op_pow pe_int pe_int) pa_nil))) pa_nil)))
        (pa_cons (pe_op op_add pe_int (pe_call GT hr rfl gT FT.kp bT .nil pass0 (pa_cons (pv 0) (pa_cons (pe_callB (call_min2 rfl) (by rfl) T.min PyProof.Rows.boot_min (pa_cons (pv 1) (pa_cons (pe_op op_pow pe_int pe_int) pa_nil))) pa_nil)))) pa_nil))))
        (pe_call GT hr rfl gT FT.kp bT .nil pass0 (pa_cons (pv 0) (pa_cons pe_int pa_nil))) (fun _ _ => rfl)))), ?_⟩
    have d0 : 0 ≤ (10 : Int) ^ (18 : Int).toNat / n := by
      rw [p18]
      exact Int.ediv_nonneg (by decide) (by omega)
    have d1 : (10 : Int) ^ (18 : Int).toNat / n ≤ 1000000000000000000 := by
      rw [p18]
      exact Int.le_trans (Int.ediv_le_self _ (by decide)) (by decide)
    refine q_asgT ⟨_, rfl, ?_⟩
    refine take_go (n := m + 4) (m := 1 + (10 : Int) ^ (18 : Int).toNat / n) (ev_var rfl) (ev_op ev_c (ev_op (ev_op ev_c ev_c (rv_I ⟨by decide, by decide, by decide⟩)) (ev_var rfl) (rv_I (cdivw n1 n2))) rv_I0) b0 (by omega) (by omega) fun r1 H1 l1 u1 x1 b1 => ?_
    refine ⟨_, _, rfl, rfl, Or.inl ⟨by omega, by omega⟩, ?_⟩
    refine take_go (n := m + 3) (m := 3) (ev_var rfl) ev_c b1 (by decide) (by decide) fun r2 H2 l2 u2 x2 b2 => ?_
    refine ⟨_, _, rfl, rfl, ?_⟩
    refine ⟨_, _, rfl, rfl, ?_⟩
    refine s_retT ?_
    refine take_go (n := m + 2) (m := (10 : Int) ^ (18 : Int).toNat) (ev_var rfl) (ev_op ev_c ev_c (rv_I ⟨by decide, by decide, by decide⟩)) b2 (by decide) (by decide) fun r3 H3 l3 u3 x3 b3 => ?_
    refine ⟨_, _, rfl, rfl, ?_⟩
    obtain ⟨nr, hnr⟩ : ∃ nr, nr = n * r1 + r2 - 1 := ⟨_, rfl⟩
    refine ev_cb (ea_cons ev_c (ea_cons (ev_cb (ea_cons (ev_var (v := .int nr) (by rw [hnr] <;> rfl)) (ea_cons (ev_op ev_c ev_c (rv_I ⟨by decide, by decide, by decide⟩)) ea_nil)) rc_min2) ea_nil)) rc_max2 H3 (Ex.refl H3) _ fun H4 x4 => ?_
    refine take_go (n := m + 1) (m := mn n ((10 : Int) ^ (18 : Int).toNat)) (ev_var rfl) (ev_cb (ea_cons (ev_var rfl) (ea_cons (ev_op ev_c ev_c (rv_I ⟨by decide, by decide, by decide⟩)) ea_nil)) rc_min2) (b3.ex x4) (by rw [p18]; unfold mn; split <;> omega) (by rw [p18]; unfold mn; split <;> omega) fun r4 H5 l4 u4 x5 b5 => ?_
    refine ⟨_, _, rfl, rfl, by show 3 ≤ sizeLine; decide, fun p hp => ?_⟩
    have npg : p ≠ g := bag_ne b5 hp
    refine take_go (n := m) (m := 3) (ev_var rfl) ev_c (b5.ex (Ex.new hp)) (by decide) (by decide) fun r5 H6 l5 u5 x6 b6 => ?_
    have hp6 := del_at x6 (upd_same (H := H5) (a := p) (o := .lst [.int (1 + r3), .int (mx 1 (mn nr ((10 : Int) ^ (18 : Int).toNat))), .int (1 + r4)])) npg
    have eA : Ex (del H g) (del H6 g) := ((((x1.trans x2).trans x3).trans (ex_del x4)).trans x5).trans ((ex_del (Ex.new hp)).trans x6)
    rw [p18] at u3 hp6
    have u4' : r4 < 1000000000000000000 := by
      rw [p18] at u4
      unfold mn at u4
      split at u4 <;> omega
    have c5 : r5 = 0 ∨ r5 = 1 ∨ r5 = 2 := by omega
    rcases c5 with rfl | rfl | rfl
    · exact ⟨p, _, _, _, rfl, rfl, sq_of hp6, atI_nat (j := 0) rfl, k (1 + r3) H6 (by omega) (by omega) eA b6⟩
    · refine ⟨p, _, _, _, rfl, rfl, sq_of hp6, atI_nat (j := 1) rfl, k (mx 1 (mn nr 1000000000000000000)) H6 ?_ ?_ eA b6⟩
      · unfold mx
        split <;> omega
      · unfold mx mn
        split <;> split <;> omega
    · exact ⟨p, _, _, _, rfl, rfl, sq_of hp6, atI_nat (j := 2) rfl, k (1 + r4) H6 (by omega) (by omega) eA b6⟩
end
end Lw

namespace Lw
open PySem PySem.Spec PyProof.Rows L2 Evl L3 ClX Tn
section
variable {P : Program} {w : World} {K : PySem.W.Frag} {mg : Str → Option Value} {base : Heap} {CC CT CZ CS CP : Addr}
abbrev spSIv (K : PySem.W.Frag) (CS CP : Addr) : Sp := fun vs H Q E => ∃ ws rest, vs = ws ++ rest ∧ ws.length = 2 ∧ rest.length ≤ sizeLine ∧ ∀ p, H p = none → spSI0 K CS CP (ws ++ [V.ref p]) (upd H p (.tup rest)) Q E
/-- Policy(h, every=e, quick=q), of good values, told of its place -/
theorem ex_polK {σ : L2.St} {H : Hp} {ta tk : TA} {h : Str} {e q : Int} (h1 : EvA ta σ H [.str h]) (h2 : EvA tk σ H [.int e, .int q]) (ok : okP h e q) : ∀ H1, Ex H H1 → ∀ Q : VK, (∀ x H2, Ex H1 H2 → PolAt CP H2 x h e q → H1 x = none → Q (.ref x) H2) → tMakeK CP 1 2 (spPIv CP) (fun vs zs => vs ++ zs) E0 ta tk σ H1 Q := fun H1 x1 Q k =>
  h1 H1 x1 _ fun H2 x2 => h2 H2 (x1.trans x2) _ fun H3 x3 => ⟨rfl, rfl, fun x dx hx hd nd =>
    ⟨x, dx, h, e, q, rfl, upd_same, ok, fun H' x' h' => ⟨rfl, k x H' ((x2.trans x3).trans (made_pol hx hd nd x')) ⟨dx, h'⟩ (fresh_back (x2.trans x3) hx)⟩⟩⟩
abbrev stgPs : List Str := ["_law_width", "_law_rules"]
abbrev stgN : List Str := ["_law_width", "_law_rules", "_law_made", "_law_lets", "_law_some", "_law_soon"]
def spSetg (K : PySem.W.Frag) (CS CP : Addr) : Sp := fun vs H Q _ => ∃ (n : Int) (l t1 t2 : Addr) (h : Str) (e u : Int) (h2 : Str) (e2 u2 : Int), vs = [.int n, .ref l] ∧ SqL K H l [.ref t1, .ref t2] ∧ SqT K H t1 [.str h, .int e, .int u] ∧ SqT K H t2 [.str h2, .int e2, .int u2] ∧ okP h e u ∧ okP h2 e2 u2 ∧ 1 ≤ n ∧ n ≤ 1000000000000000000 ∧
  ∀ m p q H', Ex H H' → SetV K CS CP H' m n p q h e u h2 e2 u2 → Q (.ref m) H'
theorem scSetg : FnScope stgN stgPs (defScope sSetg) := ⟨rfl, rfl, rfl, by decide +kernel, rfl, by decide +kernel, by decide +kernel⟩
theorem ok_setg {f fI fJ : Addr} {fd fdI : FuncData} (F : Fun K "_law_setting" "_law_setting" sSetg f fd) (TP : Pol K mg CP) (MP : Mk K CP fI) (FI : FunD K "__init__" "Policy.__init__" (defArgs sPI) (defBody sPI) (defScope sPI) [.str "all"] [("every", .int 2), ("quick", .int 0)] fI fdI) (GI : FnOk P w K mg base (L2.CX P w) 3 fI fdI PIps (spPIv CP))
    (TS : Stg K mg CS) (MS : Mk K CS fJ) (GJ : FnR P w K mg base (L2.CX P w) 6 fJ (spSIv K CS CP)) : FnOk P w K mg base CX0 8 f fd stgPs (spSetg K CS CP) := by
  obtain ⟨gP3, bI3⟩ := bP3 FI
  refine F.ok scSetg (fun vs H Q E h => ?_) (fun cdv A outer s H vs Q E hr h => ?_)
  · obtain ⟨n, l, t1, t2, h, e, u, h2, e2, u2, rfl, _⟩ := h
    rfl
  · obtain ⟨n, l, t1, t2, h, e, u, h2, e2, u2, rfl, hl, ht1, ht2, ok1, ok2, n1, n2, k⟩ := h
    have hr4 : Room 4 _ := hr.mono (by decide)
    refine ⟨_, pss_cons (ps_setLc (i := 2) (own := [("_law_lets", 3), ("_law_some", 4), ("_law_soon", 5)]) (g := gTup K 3 (gCons (gName 3) (gCons (gName 4) (gCons (gName 5) gNil)))) (tt := tYes) (te := tMakeK CP 1 2 (spPIv CP) (fun vs zs => vs ++ zs) E0 (tCons (tVar 3) tNil) (tCons (tVar 4) (tCons (tVar 5) tNil))) rfl scSetg.nd rfl rfl rfl (pi_list (pv 1))
          (blkOk_by (N := stgN) (sc := defScope sSetg) (by decide +kernel)) (fun _ _ _ _ _ => pg_tup rfl (pgs_cons (pg_name (i := 3) scSetg.nd rfl (Or.inl rfl)) (pgs_cons (pg_name (i := 4) scSetg.nd rfl (Or.inl rfl)) (pgs_cons (pg_name (i := 5) scSetg.nd rfl (Or.inl rfl)) pgs_nil)))) (fun _ _ _ _ _ => pts_nil)
          (fun _ _ _ _ _ => by exact pe_makeK (x := "Policy") (n := 1) (ks := ["every", "quick"]) MP GI hr4 rfl TP.hm bI3 passE (pa_cons (pv 3) pa_nil) (pk_cons (pv 4) (pk_cons (pv 5) pk_nil))))
      (pss_one (ps_ret (StX.pe_makeR MS GJ hr rfl TS.hm passE (pa_cons (pv 0) (pa_cons (pe_ix ix_list (pv 2) pe_int (fun _ _ => rfl)) (pa_cons (pe_ix ix_list (pv 2) pe_int (fun _ _ => rfl)) pa_nil)))))), ?_⟩
    refine q_asgT ⟨_, rfl, l, rfl, ⟨_, hl⟩, fun Dl hD => ?_⟩
    refine lc_list (xs := [.ref t1, .ref t2]) (fun i H' => Ex H H' ∧ ((i = 0 ∧ H' Dl = some (.lst [])) ∨ (i = 1 ∧ ∃ a, H' Dl = some (.lst [.ref a]) ∧ PolAt CP H' a h e u) ∨ (i = 2 ∧ ∃ a b, H' Dl = some (.lst [.ref a, .ref b]) ∧ PolAt CP H' a h e u ∧ PolAt CP H' b h2 e2 u2)))
      ⟨Ex.new hD, Or.inl ⟨rfl, upd_same⟩⟩ (fun i H' _ p => ex_l p.1 hl) (fun i x H' hi p => ?_) (fun H' p => ?_)
    · obtain ⟨X, p2'⟩ := p
      have pol_up : ∀ {H4 : Hp} {a : Addr} {h : Str} {e q : Int} {xs : List V}, PolAt CP H4 a h e q → (∃ ys, H4 Dl = some (.lst ys)) → PolAt CP (upd H4 Dl (.lst xs)) a h e q := fun ⟨dx, ha⟩ ⟨ys, hy⟩ => ⟨dx, by rw [upd_ne (fun z => (by rw [z, hy] at ha; cases ha))]; exact ha⟩
      have keep : ∀ {H4 : Hp} {xs : List V}, Ex H' H4 → Ex H (upd H4 Dl (.lst xs)) := fun e4 b u hu => by
        have nb : b ≠ Dl := ne_of_none hu hD
        rw [upd_ne nb]
        exact e4 _ _ (X _ _ hu)
      match i, hi with
      | 0, hi =>
        cases hi
        rcases p2' with ⟨_, hlD⟩ | ⟨z, _⟩ | ⟨z, _⟩
        · refine ⟨t1, _, rfl, ex_t X ht1, rfl, _, _, rfl, _, _, rfl, _, _, rfl, rfl, rfl, ?_⟩
          refine yes_then ?_
          refine ex_polK (CP := CP) (H := H') (ea_cons (ev_var rfl) ea_nil) (ea_cons (ev_var rfl) (ea_cons (ev_var rfl) ea_nil)) ok1 H' (Ex.refl H') _ fun x H4 e4 hx nx => ⟨[], e4 _ _ hlD, sz_of (by show 0 + 1 ≤ 100000; decide), keep e4, Or.inr (Or.inl ⟨rfl, x, upd_same, pol_up hx ⟨_, e4 _ _ hlD⟩⟩)⟩
        · exact absurd z (by decide)
        · exact absurd z (by decide)
      | 1, hi =>
        cases hi
        rcases p2' with ⟨z, _⟩ | ⟨_, a, hlD, ha⟩ | ⟨z, _⟩
        · exact absurd z (by decide)
        · refine ⟨t2, _, rfl, ex_t X ht2, rfl, _, _, rfl, _, _, rfl, _, _, rfl, rfl, rfl, ?_⟩
          refine yes_then ?_
          refine ex_polK (CP := CP) (H := H') (ea_cons (ev_var rfl) ea_nil) (ea_cons (ev_var rfl) (ea_cons (ev_var rfl) ea_nil)) ok2 H' (Ex.refl H') _ fun x H4 e4 hx nx => ⟨[.ref a], e4 _ _ hlD, sz_of (by show 1 + 1 ≤ 100000; decide), keep e4, Or.inr (Or.inr ⟨rfl, a, x, upd_same, pol_up (ha.ex e4) ⟨_, e4 _ _ hlD⟩, pol_up hx ⟨_, e4 _ _ hlD⟩⟩)⟩
        · exact absurd z (by decide)
      | i + 2, hi => simp at hi
    · obtain ⟨X, p2'⟩ := p
      rcases p2' with ⟨z, _⟩ | ⟨z, _⟩ | ⟨_, a, b, hlD, ha, hb⟩
      · exact absurd z (by show ¬ 2 = 0; decide)
      · exact absurd z (by show ¬ 2 = 1; decide)
      · refine s_retT ?_
        have ixr : ∀ {HH : Hp} {j : Nat} {v : V}, Ex H' HH → ([V.ref a, V.ref b] : List V)[j]? = some v → Ev (tOp (rIxL K) (tVar 2) (tC (.int (j : Int)))) [some (.int n), some (.ref l), some (.ref Dl), none, none, none] HH v := fun eH h2 => ev_op (ev_var rfl) ev_c (rv_ixL (sq_of (eH _ _ hlD)) (atI_nat h2))
        refine (ea_cons (ev_var rfl) (ea_cons (ixr (j := 0) (Ex.refl H') rfl) (ea_cons (ixr (j := 1) (Ex.refl H') rfl) ea_nil))) H' (Ex.refl H') _ fun H2 x2 => set_go (K := K) (CS := CS) (CP := CP) (H := H2) (Q := Q) (ps := [a, b]) n1 n2 (by show 2 ≤ 2; decide) (fun p hp => ?_) fun x p r H6 _ ex s po => ?_
        · rcases List.mem_cons.mp hp with rfl | z
          · exact ⟨_, _, _, ha.ex x2⟩
          · rw [List.mem_singleton.mp z]
            exact ⟨_, _, _, hb.ex x2⟩
        · obtain ⟨rfl, rfl⟩ := (show p = a ∧ r = b from po)
          exact k x p r H6 ((X.trans x2).trans ex) ⟨s, ha.ex (x2.trans ex), hb.ex (x2.trans ex)⟩
end
end Lw

namespace Tn
open PySem L3
theorem mn_le {a b : Int} : mn a b ≤ a ∧ mn a b ≤ b := by
  unfold mn
  split <;> omega
theorem mn_comm {a b : Int} : mn a b = mn b a := by
  unfold mn
  split <;> split <;> omega
theorem recv_sent {e f p q : Int} (e0 : 0 ≤ e) (hq : 0 ≤ q) (hp : 0 < q → p = 0) (hf : 0 < f) :
    (recv e f p q).pend = (sentM f q p e).pend ∧ (recv e f p q).last = (sentM f q p e).done ∧ (recv e f p q).quick = (sentM f q p e).soon := by
  have hm : mn f q = mn q f := mn_comm
  unfold recv sentM
  rw [hm]
  obtain ⟨m, hm⟩ : ∃ m, m = mn q f := ⟨_, rfl⟩
  rw [← hm]
  have hm0 : (m = 0 ∧ q = 0) ∨ (0 < m ∧ 0 < q) := by
    rw [hm]
    unfold mn
    split <;> omega
  have hmf : m ≤ f := by
    rw [hm]
    exact mn_le.2
  by_cases he : e = 0
  · rw [if_pos he]
    subst he
    refine ⟨?_, ?_, rfl⟩
    · show (0 : Int) = _ * bi (decide ((0 : Int) > 0))
      rw [show decide ((0 : Int) > 0) = false from rfl]
      show (0 : Int) = _ * 0
      rw [Int.mul_zero]
    · show decide (f - m = 0) = (decide (f - m = 0) || (decide ((0 : Int) > 0) && _))
      rw [show decide ((0 : Int) > 0) = false from rfl, Bool.false_and, Bool.or_false]
  · rw [if_neg he]
    have e1 : mx 1 e = e := by
      unfold mx
      split <;> omega
    have e2 : decide (e > 0) = true := decide_eq_true (by omega)
    have hb : p * bi (decide (m = 0)) + (f - m) = p + (f - m) := by
      rcases hm0 with ⟨h1, h2⟩ | ⟨h1, h2⟩
      · rw [decide_eq_true h1]
        show p * 1 + _ = _
        rw [Int.mul_one]
      · rw [decide_eq_false (by omega), hp h2]
        show (0 : Int) * 0 + _ = _
        rw [Int.mul_zero]
    refine ⟨?_, ?_, rfl⟩
    · show (p + (f - m)) % e = (p * bi (decide (m = 0)) + (f - m)) % mx 1 e * bi (decide (e > 0))
      rw [e1, e2, hb]
      show _ = _ * (1 : Int)
      rw [Int.mul_one]
    · show decide ((p + (f - m)) % e = 0) = (decide (f - m = 0) || (decide (e > 0) && decide ((p * bi (decide (m = 0)) + (f - m)) % mx 1 e = 0)))
      rw [e1, e2, hb, Bool.true_and]
      by_cases hl : f - m = 0
      · have hp0 : p = 0 := by
          rcases hm0 with ⟨h1, h2⟩ | ⟨h1, h2⟩
          · omega
          · exact hp h2
        rw [hl, hp0, decide_eq_true (rfl : (0 : Int) = 0), Bool.true_or]
        exact decide_eq_true (by rw [Int.add_zero, Int.zero_emod])
      · rw [decide_eq_false hl, Bool.false_or]
theorem sent_soon {e f p q : Int} (hq : 0 ≤ q) (hf : 0 ≤ f) : 0 ≤ (sentM f q p e).soon := by
  show 0 ≤ q - mn q f
  have := (mn_le (a := q) (b := f)).1
  omega
theorem sent_pend0 {e f q : Int} (hq : 0 ≤ q) (hf : 0 ≤ f) (h : (sentM f q 0 e).soon > 0) : (sentM f q 0 e).pend = 0 := by
  have h' : q - mn q f > 0 := h
  have hm : mn q f = f := by
    unfold mn at h' ⊢
    split <;> rename_i c
    · rfl
    · rw [if_neg c] at h'
      omega
  show (0 * bi (decide (mn q f = 0)) + (f - mn q f)) % mx 1 e * bi (decide (e > 0)) = 0
  rw [hm, Int.zero_mul, Int.sub_self, Int.add_zero, Int.zero_emod, Int.zero_mul]
theorem sent_zero {e q : Int} (hq : 0 ≤ q) : (sentM 0 q 0 e).pend = 0 ∧ (sentM 0 q 0 e).soon = q := by
  have hm : mn q 0 = 0 := by
    unfold mn
    split <;> omega
  constructor
  · show (0 * bi (decide (mn q 0 = 0)) + (0 - mn q 0)) % mx 1 e * bi (decide (e > 0)) = 0
    rw [hm, Int.zero_mul, Int.sub_self, Int.add_zero, Int.zero_emod, Int.zero_mul]
  · show q - mn q 0 = q
    rw [hm, Int.sub_zero]
def s0 (q : Int) : Stc := ⟨false, false, false, 0, q⟩
theorem plain_ne : decide (("plain" : Str) = "push") = false ∧ decide (("plain" : Str) = "plain") = true ∧ decide (("plain" : Str) = "more") = false := by decide +kernel
theorem write_plain {c : Cf} {s : Stc} {f : Int} {has : Bool} : write c s f has "plain" = if (has && !(mid c s f).blk) = true then rest c.h (mid c s f).pend (mid c s f).quick (mid c s f).ack else (⟨false, (mid c s f).blk, (mid c s f).stk, (mid c s f).pend, (mid c s f).quick⟩, false, (mid c s f).ack) := by
  obtain ⟨p1, p2, p3⟩ := plain_ne
  unfold write
  rw [p1, p2, p3, Bool.false_or, Bool.true_and, Bool.and_false]
/-- the full segments of a first write -/
theorem mid_first {h : Str} {e q f : Int} (e0 : 0 ≤ e) (hq : 0 ≤ q) (hf : 0 ≤ f) :
    (mid ⟨h, e⟩ (s0 q) f).blk = (decide (f > 0) && decide (h = "all")) ∧ (mid ⟨h, e⟩ (s0 q) f).stk = ((decide (f > 0) && decide (h = "all")) && !(sentM f q 0 e).done) ∧ (mid ⟨h, e⟩ (s0 q) f).pend = (sentM f q 0 e).pend ∧ (mid ⟨h, e⟩ (s0 q) f).quick = (sentM f q 0 e).soon := by
  unfold mid
  by_cases c : f > 0
  · obtain ⟨r1, r2, r3⟩ := recv_sent (e := e) (f := f) (p := 0) (q := q) e0 hq (fun _ => rfl) c
    rw [if_pos c, decide_eq_true c]
    by_cases ha : h = "all"
    · rw [if_pos ha, decide_eq_true ha]
      exact ⟨rfl, by rw [← r2] <;> rfl, r1, r3⟩
    · rw [if_neg ha, decide_eq_false ha]
      split
      · exact ⟨rfl, rfl, r1, r3⟩
      · exact ⟨rfl, rfl, r1, r3⟩
  · have f0 : f = 0 := by omega
    subst f0
    obtain ⟨z1, z2⟩ := sent_zero (e := e) hq
    rw [if_neg c, decide_eq_false c]
    exact ⟨rfl, rfl, z1.symm, z2.symm⟩
theorem first_ok {h : Str} {e q n len : Int} (e0 : 0 ≤ e) (hq : 0 ≤ q) (n1 : 1 ≤ n) (hl : 0 ≤ len) : (wrM ⟨h, e⟩ ⟨n, 0, s0 q, 0, 0⟩ len "plain").r = (fdM n h e q len).1 ∧ (wrM ⟨h, e⟩ ⟨n, 0, s0 q, 0, 0⟩ len "plain").s = (fdM n h e q len).2 := by
  have hf : 0 ≤ len / n := Int.ediv_nonneg hl (by omega)
  unfold wrM
  rw [show (0 : Int) + len = len from Int.zero_add len]
  unfold fdM
  generalize len / n = f at hf ⊢
  generalize len % n = r
  obtain ⟨m1, m2, m3, m4⟩ := mid_first (h := h) e0 hq hf
  have ss := sent_soon (e := e) (p := 0) hq hf
  have sp := sent_pend0 (e := e) hq hf
  rw [write_plain, m1, m2, m3, m4]
  by_cases c : (decide (r > 0) && !(decide (f > 0) && decide (h = "all"))) = true
  · rw [if_pos c, if_pos c]
    unfold takeM rest
    by_cases c2 : (sentM f q 0 e).soon > 0
    · rw [if_pos c2]
      refine ⟨rfl, ?_⟩
      show (⟨false, !decide (h = "off"), !decide (h = "off") && decide ((sentM f q 0 e).soon = 0), (sentM f q 0 e).pend, mx ((sentM f q 0 e).soon - 1) 0⟩ : Stc) = ⟨false, !decide (h = "off"), false, 0, (sentM f q 0 e).soon - 1⟩
      rw [sp c2, decide_eq_false (by omega : ¬ (sentM f q 0 e).soon = 0), Bool.and_false]
      have hx : mx ((sentM f q 0 e).soon - 1) 0 = (sentM f q 0 e).soon - 1 := by
        unfold mx
        split <;> omega
      rw [hx]
    · rw [if_neg c2]
      have z : (sentM f q 0 e).soon = 0 := by omega
      refine ⟨rfl, ?_⟩
      show (⟨false, !decide (h = "off"), !decide (h = "off") && decide ((sentM f q 0 e).soon = 0), (sentM f q 0 e).pend, mx ((sentM f q 0 e).soon - 1) 0⟩ : Stc) = ⟨false, !decide (h = "off"), !decide (h = "off"), (sentM f q 0 e).pend, 0⟩
      rw [z, decide_eq_true (rfl : (0 : Int) = 0), Bool.and_true]
      have hx : mx ((0 : Int) - 1) 0 = 0 := by decide
      rw [hx]
  · rw [if_neg c, if_neg c]
    unfold takeM
    exact ⟨rfl, rfl⟩
theorem fd_kept {n e q len : Int} {h : Str} : (fdM n h e q len).2.kept = false := by
  unfold fdM
  split
  · split <;> rfl
  · rfl
theorem fd_quick {n e q len : Int} {h : Str} (hq : 0 ≤ q) (n1 : 1 ≤ n) (hl : 0 ≤ len) : 0 ≤ (fdM n h e q len).2.quick ∧ (0 < (fdM n h e q len).2.quick → (fdM n h e q len).2.pend = 0) := by
  have hf : 0 ≤ len / n := Int.ediv_nonneg hl (by omega)
  have ss := sent_soon (e := e) (p := 0) hq hf
  have sp := sent_pend0 (e := e) hq hf
  unfold fdM
  split
  · split
    · refine ⟨?_, fun _ => rfl⟩
      show 0 ≤ (sentM (len / n) q 0 e).soon - 1
      omega
    · exact ⟨Int.le_refl 0, fun z => absurd z (Int.lt_irrefl 0)⟩
  · exact ⟨ss, fun z => sp z⟩
theorem fd_rest {n e q len : Int} {h : Str} (n1 : 1 ≤ n) : 0 ≤ (fdM n h e q len).1 ∧ (fdM n h e q len).1 < n := by
  unfold fdM
  split
  · split
    · exact ⟨Int.le_refl 0, by show 0 < n; omega⟩
    · exact ⟨Int.le_refl 0, by show 0 < n; omega⟩
  · exact ⟨Int.emod_nonneg _ (by omega), Int.emod_lt_of_pos _ (by omega)⟩
theorem second_ok {e n r len : Int} {s : Stc} (e0 : 0 ≤ e) (hq : 0 ≤ s.quick) (hp : 0 < s.quick → s.pend = 0) (n1 : 1 ≤ n) (hl : n ≤ r + len) : (wrM ⟨"all", e⟩ ⟨n, r, s, 0, 0⟩ len "plain").r = (sdM n e r s len).1 ∧ (wrM ⟨"all", e⟩ ⟨n, r, s, 0, 0⟩ len "plain").s = (sdM n e r s len).2 := by
  have hf : 0 < (r + len) / n := Int.lt_of_lt_of_le (by decide : (0 : Int) < 1) (Int.le_ediv_of_mul_le (by omega) (by omega))
  obtain ⟨r1, r2, r3⟩ := recv_sent (e := e) (f := (r + len) / n) (p := s.pend) (q := s.quick) e0 hq hp hf
  unfold wrM
  rw [write_plain]
  unfold mid
  rw [if_pos hf, if_pos rfl, r1, r2, r3]
  unfold takeM sdM
  simp
/-- two clearings, three clearings -/
theorem clear_fix {c : Cf} {n r : Int} {s : Stc} (hk : s.kept = false) :
    (clM c ⟨n, (clM c ⟨n, (clM c ⟨n, r, s, 0, 0⟩).r, (clM c ⟨n, r, s, 0, 0⟩).s, 0, 0⟩).r, (clM c ⟨n, (clM c ⟨n, r, s, 0, 0⟩).r, (clM c ⟨n, r, s, 0, 0⟩).s, 0, 0⟩).s, 0, 0⟩).r = (clM c ⟨n, (clM c ⟨n, r, s, 0, 0⟩).r, (clM c ⟨n, r, s, 0, 0⟩).s, 0, 0⟩).r ∧
    (clM c ⟨n, (clM c ⟨n, (clM c ⟨n, r, s, 0, 0⟩).r, (clM c ⟨n, r, s, 0, 0⟩).s, 0, 0⟩).r, (clM c ⟨n, (clM c ⟨n, r, s, 0, 0⟩).r, (clM c ⟨n, r, s, 0, 0⟩).s, 0, 0⟩).s, 0, 0⟩).s = (clM c ⟨n, (clM c ⟨n, r, s, 0, 0⟩).r, (clM c ⟨n, r, s, 0, 0⟩).s, 0, 0⟩).s := by
  obtain ⟨k, b, st, p, q⟩ := s
  subst hk
  by_cases c1 : r > 0
  · cases st with
    | true => simp [clM, clear, takeM, decide_eq_true c1]
    | false => simp [clM, clear, takeM, rest, decide_eq_true c1]
  · simp [clM, clear, takeM, decide_eq_false c1, c1]
end Tn

namespace Lw
open PySem PySem.Spec PyProof.Rows L2 Evl L3 ClX Tn
section
variable {P : Program} {w : World} {K : PySem.W.Frag} {mg : Str → Option Value} {base : Heap} {CC CT CZ CS CP : Addr} {σ : L2.St} {H : Hp} {ta tb te tc td : TE} {d1 d2 : PyData} {E : XK} {D : Ends} {tz : TS}
theorem bZq {f : Addr} {fd : FuncData} (F : FunD K "__init__" "TurnState.__init__" (defArgs zIni) (defBody zIni) (defScope zIni) zDf [] f fd) : ∃ g, KBn K fd ziPs 1 ["quick"] g (fun vs zs => vs ++ (zDf.take 5 ++ zs)) := by
  obtain ⟨its, h⟩ := F.kbindsD (ps := ziPs) 1 ["quick"] (fun us ds ws => us ++ (ds.take 5 ++ ws)) (by simp) (fun a b c => a.append ((b.take 5).append c)) (fun T kV doc pm an cdv ct us its ws h1 h2 h3 => by
    match us, its, ws, h1, h2, h3 with
    | [a], [b, c, d, e, f, g], [q], _, _, _ => exact ⟨_, rfl, rfl⟩)
  exact ⟨_, h⟩
theorem bZ {f : Addr} {fd : FuncData} (F : FunD K "__init__" "TurnState.__init__" (defArgs zIni) (defBody zIni) (defScope zIni) zDf [] f fd) : Binds K fd ziPs [] := by
  obtain ⟨ds, hv, hb⟩ := F.binds1 (ps := ziPs) 7 6 (by simp) rfl (fun T kV doc pm an cdv ct us its h1 h2 => by
    match us, its, h1, h2 with
    | [a, b, c, d, e, f, g], [b1, c1, d1, e1, f1, g1], _, _ => exact ⟨_, rfl, rfl⟩)
  cases hv
  exact hb
theorem bW4 {f : Addr} {fd : FuncData} (F : FunD K "written" "written" (defArgs sWritten) (defBody sWritten) (defScope sWritten) [.str "plain"] [] f fd) : ∃ ds, Vals [.str "plain"] ds ∧ Binds K fd wtPs ds := by
  obtain ⟨ds, hv, hb⟩ := F.binds1 (ps := wtPs) 4 0 (by simp) rfl (fun T kV doc pm an cdv ct us its h1 h2 => by
    match us, its, h1, h2 with
    | [a, b, c, d], [e], _, _ => exact ⟨_, rfl, rfl⟩)
  exact ⟨ds, hv, hb⟩
theorem nf_self {C : Addr} : PySem.W.notFirst K C (.ref C) = true := by simp [PySem.W.notFirst]
theorem tl_shaped {r : Int} {s : Stc} : SeqAt.shaped (tlD r s) = true := rfl
theorem et_neD {b : Bool} (h1 : DvX K ta σ H d1) (h2 : DvX K tb σ H d2) (s1 : SeqAt.shaped d1 = true) (s2 : SeqAt.shaped d2 = true) (hb : (!PyData.eqv d1 d2) = b) : EvT (tTest (tOp (rNeD K) ta tb)) σ H b := fun H1 e Q q =>
  h1 H1 e _ fun z H2 x2 hz => h2 H2 (e.trans x2) _ fun y H3 x3 hy => rv_neD (dp_ex x3 hz) hy s1 s2 H3 (Ex.refl H3) _ fun H4 x4 => ⟨b, by rw [hb], q H4 ((x2.trans x3).trans x4)⟩
theorem dvx_tell {a : Addr} {r : Int} {s : Stc} (t : TsAt CZ H a r s) (ha : Ev ta σ H (.ref a)) : DvX K (tCall (spTell K CZ) [] E (tCons ta tNil)) σ H (tlD r s) := fun H1 e Q q =>
  ha H1 e _ fun H2 e2 => ⟨a, r, s, rfl, t.ex (e.trans e2), fun z H3 e3 hz => q z H3 (e2.trans e3) hz⟩
theorem dvx_first {n e q len : Int} {h o : Str} {t : Addr} (ht : SqT K H t [.str o, .int e, .int q]) (he : okE e) (n1 : 1 ≤ n) (n2 : n ≤ 1000000000000000000) (h1 : Ev ta σ H (.int n)) (h2 : Ev tb σ H (.str h)) (h3 : Ev tc σ H (.ref t)) (h4 : Ev td σ H (.int len)) :
    DvX K (tCall (spFirst K) [] E (tCons ta (tCons tb (tCons tc (tCons td tNil))))) σ H (tlD (fdM n h e q len).1 (fdM n h e q len).2) := fun H1 x1 Q k =>
  (ea_cons h1 (ea_cons h2 (ea_cons h3 (ea_cons h4 ea_nil)))) H1 x1 _ fun H2 x2 => ⟨n, e, q, len, h, o, t, rfl, ex_t (x1.trans x2) ht, he, n1, n2, fun z H3 x3 hz => k z H3 (x2.trans x3) hz⟩
theorem dvx_second {n e q len r : Int} {s : Stc} {o : Str} {t a : Addr} (ht : SqT K H t [.str o, .int e, .int q]) (ts : TsAt CZ H a r s) (he : okE e) (n1 : 1 ≤ n) (n2 : n ≤ 1000000000000000000) (h1 : Ev ta σ H (.int n)) (h2 : Ev tb σ H (.ref t)) (h3 : Ev tc σ H (.ref a)) (h4 : Ev td σ H (.int len)) :
    DvX K (tCall (spSecond K CZ) [] E (tCons ta (tCons tb (tCons tc (tCons td tNil))))) σ H (tlD (sdM n e r s len).1 (sdM n e r s len).2) := fun H1 x1 Q k =>
  (ea_cons h1 (ea_cons h2 (ea_cons h3 (ea_cons h4 ea_nil)))) H1 x1 _ fun H2 x2 => ⟨n, e, q, len, r, s, o, t, a, rfl, ex_t (x1.trans x2) ht, ts.ex (x1.trans x2), he, n1, n2, fun z H3 x3 hz => k z H3 (x2.trans x3) hz⟩
/-- a state told of its place -/
def EvZ (CZ : Addr) (te : TE) (σ : L2.St) (H : Hp) (r : Int) (s : Stc) : Prop := ∀ H1, Ex H H1 → ∀ Q : VK, (∀ a H2, Ex H1 H2 → TsAt CZ H2 a r s → Q (.ref a) H2) → te σ H1 Q
theorem evz_var {i : Nat} {a : Addr} {r : Int} {s : Stc} (h : σ[i]? = some (some (.ref a))) (t : TsAt CZ H a r s) : EvZ CZ (tVar i) σ H r s := fun H1 e Q q => ⟨_, h, q a H1 (Ex.refl H1) (t.ex e)⟩
theorem q_asgZ {i : Nat} {r : Int} {s : Stc} (h : EvZ CZ te σ H r s) (k : ∀ a H1, Ex H H1 → TsAt CZ H1 a r s → tz D (σ.set i (some (.ref a))) H1) : tSeq (tAsg te (gName i)) tz D σ H := h H (Ex.refl H) _ k
theorem evz_made {q : Int} {tq : TE} (hq : Ev tq σ H (.int q)) : EvZ CZ (tMakeK CZ 0 1 (spZIni CZ) (fun vs zs => vs ++ (zDf.take 5 ++ zs)) E tNil (tCons tq tNil)) σ H 0 (s0 q) := fun H1 x1 Q k =>
  ea_nil (σ := σ) (H := H1) H1 (Ex.refl H1) _ fun H2 x2 => (ea_cons hq ea_nil) H2 (x1.trans x2) _ fun H3 x3 => ⟨rfl, rfl, fun x dx hx hd nd => ⟨x, dx, 0, s0 q, rfl, upd_same, fun H' x' h' => ⟨rfl, k x H' ((x2.trans x3).trans (made_up hx hd x')) ⟨dx, h'⟩⟩⟩⟩
variable {m p q' : Addr} {sp n : Int} {h h2 : Str} {e u e2 u2 r len : Int} {s : Stc}
theorem evz_wt (sv : SetV K CS CP H m n p q' h e u h2 e2 u2) (hsp : sp = 0 ∨ sp = 1) (o1 : okE e) (o2 : okE e2) (n1 : 1 ≤ n) (n2 : n ≤ 1000000000000000000) (h1 : Ev ta σ H (.ref m)) (h3 : Ev tb σ H (.int sp)) (hz : EvZ CZ tc σ H r s) (h4 : Ev td σ H (.int len)) :
    EvZ CZ (tCall (spWt K CZ CS CP) [.str "plain"] E (tCons ta (tCons tb (tCons tc (tCons td tNil))))) σ H (wrZ (cfOf sp h e h2 e2) n r s len "plain").r (wrZ (cfOf sp h e h2 e2) n r s len "plain").s := fun H1 x1 Q k =>
  h1 H1 x1 _ fun H2 x2 => h3 H2 (x1.trans x2) _ fun H3 x3 => hz H3 ((x1.trans x2).trans x3) _ fun a H4 x4 t => h4 H4 (((x1.trans x2).trans x3).trans x4) _ fun H5 x5 =>
    ⟨m, a, sp, r, n, len, "plain", s, p, q', h, e, u, h2, e2, u2, rfl, sv.ex ((((x1.trans x2).trans x3).trans x4).trans x5), hsp, t.ex x5, o1, o2, n1, n2, fun b H6 x6 tb' => k b H6 ((((x2.trans x3).trans x4).trans x5).trans x6) tb'⟩
theorem evz_cd (sv : SetV K CS CP H m n p q' h e u h2 e2 u2) (hsp : sp = 0 ∨ sp = 1) (h1 : Ev ta σ H (.ref m)) (h3 : Ev tb σ H (.int sp)) (hz : EvZ CZ tc σ H r s) :
    EvZ CZ (tCall (spCd K CZ CS CP) [] E (tCons ta (tCons tb (tCons tc tNil)))) σ H (clZ (cfOf sp h e h2 e2) n r s).r (clZ (cfOf sp h e h2 e2) n r s).s := fun H1 x1 Q k =>
  h1 H1 x1 _ fun H2 x2 => h3 H2 (x1.trans x2) _ fun H3 x3 => hz H3 ((x1.trans x2).trans x3) _ fun a H4 x4 t =>
    ⟨m, a, sp, r, n, s, p, q', h, e, u, h2, e2, u2, rfl, sv.ex (((x1.trans x2).trans x3).trans x4), hsp, t, fun b H6 x6 tb' => k b H6 (((x2.trans x3).trans x4).trans x6) tb'⟩
theorem et_zne {TZm : Str → Option Value} {i : Nat} {b : Addr} {r' : Int} {s' : Stc} {c : Bool} (TZ : Tst K TZm CZ) (hz : EvZ CZ te σ H r s) (hv : σ[i]? = some (some (.ref b))) (t : TsAt CZ H b r' s') (hc : (!zC r s r' s') = c) : EvT (tTest (tOp (rNeO K CZ (spZEq CZ)) te (tVar i))) σ H c := fun H1 x1 Q k =>
  hz H1 x1 _ fun a H2 x2 ta' => by
    have t2 := t.ex (x1.trans x2)
    obtain ⟨da, hda⟩ := id ta'
    obtain ⟨db, hdb⟩ := id t2
    exact ⟨_, hv, a, da, _, rfl, hda, ⟨.ref CZ, TZ.k.ty hdb, nf_self⟩, a, b, r, r', s, s', rfl, ta', t2, fun H3 x3 => ⟨_, rfl, c, by rw [hc], k H3 (x2.trans x3)⟩⟩
theorem zC_refl {r : Int} {s : Stc} : zC r s r s = true := by
  unfold zC
  simp
end
end Lw

namespace Lw
open PySem PySem.Spec PyProof.Rows L2 Evl L3 ClX Tn
abbrev sLaw : Stmt := top 34
abbrev nLa : List Str := ["_law_script", "_law_at", "_law_bag_here", "_law_width", "_law_step", "_law_mine", "_law_other", "_law_made", "_law_some", "_law_state", "_law_further", "_law_found", "_law_twice"]
section
variable {P : Program} {w : World} {K : PySem.W.Frag} {mg : Str → Option Value} {base : Heap} {CC CT CZ CS CP : Addr}
theorem bag_nt {H : Hp} {g : Addr} {n : Nat} (b : BagAt H g n) : ∀ u, H g = some u → ¬ isT u := fun u h z => by
  obtain ⟨_, _, _, hg, _⟩ := b
  rw [hg] at h
  cases h
  exact z
theorem pol_dl {H H1 : Hp} {g p : Addr} {k : Nat} {h : Str} {e q : Int} (b : BagAt H g k) (x : Ex (del H g) (del H1 g)) (s : PolAt CP H p h e q) : PolAt CP H1 p h e q := by
  obtain ⟨_, _, _, hg, _⟩ := b
  obtain ⟨dx, hp⟩ := s
  exact ⟨dx, del_at x hp (fun z => by rw [z, hg] at hp; cases hp)⟩
theorem set_dl {H H1 : Hp} {g m p q : Addr} {k : Nat} {n : Int} {h h2 : Str} {e u e2 u2 : Int} (b : BagAt H g k) (x : Ex (del H g) (del H1 g)) (s : SetV K CS CP H m n p q h e u h2 e2 u2) : SetV K CS CP H1 m n p q h e u h2 e2 u2 := by
  obtain ⟨⟨dx, r, hm, hr⟩, hp, hq⟩ := s
  obtain ⟨_, _, _, hg, _⟩ := id b
  exact ⟨⟨dx, r, del_at x hm (fun z => by rw [z, hg] at hm; cases hm), ext_t (ext_del (bag_nt b) x) hr⟩, pol_dl b x hp, pol_dl b x hq⟩
theorem ts_dl {H H1 : Hp} {g a : Addr} {k : Nat} {r : Int} {s : Stc} (b : BagAt H g k) (x : Ex (del H g) (del H1 g)) (t : TsAt CZ H a r s) : TsAt CZ H1 a r s := by
  obtain ⟨_, _, _, hg, _⟩ := b
  obtain ⟨dx, h⟩ := t
  exact ⟨dx, del_at x h (fun z => by rw [z, hg] at h; cases h)⟩
theorem q_parT {σ : L2.St} {H : Hp} {D : Ends} {tz : TS} {i j : Nat} {ta : TA} (h : ta σ H fun vs H1 => ∃ v w, vs = [v, w] ∧ tz D ((σ.set i (some v)).set j (some w)) H1) : tSeq (tPar i j ta) tz D σ H := h
theorem scLa : FnScope nLa ["_law_script"] (defScope sLaw) := ⟨rfl, rfl, rfl, by decide +kernel, rfl, by decide +kernel, by decide +kernel⟩
def spLaw (K : PySem.W.Frag) : Sp := fun vs H Q _ => ∃ (a : Addr) (ns : List Int), vs = [.ref a] ∧ SqL K H a (ns.map V.int) ∧ ns.length ≤ 63 ∧ ∀ H', Q (.bl true) H'
/-- what the law calls -/
structure Cl (P : Program) (w : World) (K : PySem.W.Frag) (mg : Str → Option Value) (base : Heap) (x qual : Str) (st : Stmt) (ps : List Str) (n : Nat) (sp : Sp) (f : Addr) (fd : FuncData) : Prop where
  F : Fun K x qual st f fd
  b : Binds K fd ps []
  g : mg x = some (.ref f)
  G : FnOk P w K mg base CX0 n f fd ps sp
theorem ok_law {f fB fT fV fG fF fS fM fC fI fW eZ : Addr} {fd fdB fdT fdV fdG fdF fdS fdN fdC fdI fdW deZ : FuncData} (F : Fun K "law" "law" sLaw f fd) (T : Txt K mg)
    (LB : Cl P w K mg base "_law_bag" "_law_bag" sBag ["_law_script", "_law_at"] 1 (spBag K) fB fdB) (LT : Cl P w K mg base "_law_take" "_law_take" sTake ["_law_bag_here", "_law_many"] 1 spTake fT fdT)
    (LV : Cl P w K mg base "_law_values" "_law_values" sVals vlPs 2 spVals fV fdV) (LG : Cl P w K mg base "_law_setting" "_law_setting" sSetg stgPs 8 (spSetg K CS CP) fG fdG)
    (LF : Cl P w K mg base "_law_first_due" "_law_first_due" sFirst fdPs 2 (spFirst K) fF fdF) (LS : Cl P w K mg base "_law_second_due" "_law_second_due" sSecond sdPs 2 (spSecond K CZ) fS fdS) (LM : Cl P w K mg base "_law_tell" "_law_tell" sTell ["_law_state"] 1 (spTell K CZ) fM fdN)
    (LC : Cl P w K mg base "cleared" "cleared" sCleared cdPs 6 (spCd K CZ CS CP) fC fdC) (TZ : Tst K mg CZ) (MZ : Mk K CZ fI) (FI : FunD K "__init__" "TurnState.__init__" (defArgs zIni) (defBody zIni) (defScope zIni) zDf [] fI fdI) (GI : FnOk P w K mg base CX0 1 fI fdI ziPs (spZIni CZ))
    (FW : FunD K "written" "written" (defArgs sWritten) (defBody sWritten) (defScope sWritten) [.str "plain"] [] fW fdW) (gW : mg "written" = some (.ref fW)) (GW : FnOk P w K mg base CX0 6 fW fdW wtPs (spWt K CZ CS CP))
    (ES : Spm K CZ "__eq__" eZ) (neZ : PySem.W.findIn K (.ref CZ) "__ne__" = some (some (.builtin "object.__ne__"))) (bE : Binds K deZ ["self", "other"] []) (GE : FnOk P w K mg base CX0 1 eZ deZ ["self", "other"] (spZEq CZ)) :
    FnOk P w K mg base CX0 9 f fd ["_law_script"] (spLaw K) := by
  obtain ⟨gq, bq⟩ := bZq FI
  obtain ⟨dsW, vW, bW⟩ := bW4 FW
  refine F.ok scLa (fun vs H Q E h => ?_) (fun cdv A outer s H vs Q E hr h => ?_)
  · obtain ⟨a, ns, rfl, _⟩ := h
    rfl
  · obtain ⟨a, ns, rfl, hs, hl, k⟩ := h
    have hr1 : Room 1 _ := hr.mono (by decide)
    have hr2 : Room 2 _ := hr.mono (by decide)
    have hr6 : Room 6 _ := hr.mono (by decide)
    refine ⟨_, pss_cons (ps_for PassesOwn.never rfl (pi_range1 rfl T.range (pa_cons (pe_callB (call_max2 rfl) (by rfl) T.max PyProof.Rows.boot_max (pa_cons pe_int (pa_cons (pe_callB (call_min2 rfl) (by rfl) T.min PyProof.Rows.boot_min (pa_cons pe_int (pa_cons (pe_callB call_len_seq (by rfl) T.len PySem.boot_len (pa_cons (pv 0) pa_nil)) pa_nil))) pa_nil))) pa_nil)) (pg_name (i := 1) scLa.nd rfl (Or.inl rfl))
      (pss_cons (ps_set (i := 2) scLa.nd rfl (Or.inl rfl) (pe_call LB.G hr1 rfl LB.g LB.F.kp LB.b .nil pass0 (pa_cons (pv 0) (pa_cons (pv 1) pa_nil))))
      (pss_cons (ps_set (i := 3) scLa.nd rfl (Or.inl rfl) (pe_ix ix_list (pe_lst (pa_cons (pe_op op_add pe_int (pe_call LT.G hr1 rfl LT.g LT.F.kp LT.b .nil pass0 (pa_cons (pv 2) (pa_cons (pe_op op_pow pe_int pe_int) pa_nil))))
          (pa_cons (pe_op op_add pe_int (pe_call LT.G hr1 rfl LT.g LT.F.kp LT.b .nil pass0 (pa_cons (pv 2) (pa_cons pe_int pa_nil)))) (pa_cons (pe_op op_add pe_int (pe_call LT.G hr1 rfl LT.g LT.F.kp LT.b .nil pass0 (pa_cons (pv 2) (pa_cons (pe_op op_pow pe_int pe_int) pa_nil)))) pa_nil))))
          (pe_call LT.G hr1 rfl LT.g LT.F.kp LT.b .nil pass0 (pa_cons (pv 2) (pa_cons pe_int pa_nil))) (fun _ _ => rfl)))
      (pss_one (ps_for PassesOwn.never rfl (pi_range1 rfl T.range (pa_cons pe_int pa_nil)) (pg_name (i := 4) scLa.nd rfl (Or.inl rfl))
        (pss_cons (ps_set (i := 5) scLa.nd rfl (Or.inl rfl) (pe_ix ix_list (pe_lst (pa_cons pe_str (pa_cons pe_str (pa_cons pe_str (pa_cons pe_str pa_nil))))) (pe_call LT.G hr1 rfl LT.g LT.F.kp LT.b .nil pass0 (pa_cons (pv 2) (pa_cons pe_int pa_nil))) (fun _ _ => rfl)))
        (pss_cons (ps_set (i := 6) scLa.nd rfl (Or.inl rfl) (pe_tup (pa_cons pe_str (pa_cons (pe_call LT.G hr1 rfl LT.g LT.F.kp LT.b .nil pass0 (pa_cons (pv 2) (pa_cons pe_int pa_nil))) (pa_cons (pe_call LT.G hr1 rfl LT.g LT.F.kp LT.b .nil pass0 (pa_cons (pv 2) (pa_cons pe_int pa_nil))) pa_nil)))))
        (pss_cons (ps_par (i := 7) (j := 8) rfl scLa.nd rfl rfl (by decide) rfl rfl (pa_cons (pe_call LG.G hr rfl LG.g LG.F.kp LG.b .nil pass0 (pa_cons (pv 3) (pa_cons (pe_lst (pa_cons (pe_tup (pa_cons (pv 5) (pa_cons pe_int (pa_cons pe_int pa_nil)))) (pa_cons (pv 6) pa_nil))) pa_nil)))
            (pa_cons (pe_call LV.G hr2 rfl LV.g LV.F.kp LV.b .nil pass0 (pa_cons (pv 2) (pa_cons (pv 3) pa_nil))) pa_nil)) (by rfl))
        (pss_cons (ps_set (i := 9) scLa.nd rfl (Or.inl rfl) (pe_call GW hr6 rfl gW FW.kp bW vW pass0 (pa_cons (pv 7) (pa_cons pe_int (pa_cons (pe_makeK0 (x := "TurnState") (ks := ["quick"]) MZ GI hr2 rfl TZ.hm bq pass0 (pk_cons (pe_ix ix_tup (pv 6) pe_int (fun _ _ => rfl)) pk_nil)) (pa_cons (pv 8) pa_nil))))))
        (pss_cons (ps_if (pt_cmpR (op_neD hr.units) (pe_call LM.G hr1 rfl LM.g LM.F.kp LM.b .nil pass0 (pa_cons (pv 9) pa_nil)) (pe_call LF.G hr2 rfl LF.g LF.F.kp LF.b .nil pass0 (pa_cons (pv 3) (pa_cons (pv 5) (pa_cons (pv 6) (pa_cons (pv 8) pa_nil))))) (nomark _)) (pss_one (ps_ret pe_bl)) pss_nil)
        (pss_cons (ps_if (PW.pt (pw_and (pt_cmpR op_eq (pv 5) pe_str (nomark _)) (pw_and1 (pt_cmpR op_gt (pe_fld (pv 9) rfl) pe_int (nomark _)))))
          (pss_cons (ps_set (i := 10) scLa.nd rfl (Or.inl rfl) (pe_callB (call_max2 rfl) (by rfl) T.max PyProof.Rows.boot_max (pa_cons (pe_call LV.G hr2 rfl LV.g LV.F.kp LV.b .nil pass0 (pa_cons (pv 2) (pa_cons (pv 3) pa_nil))) (pa_cons (pe_op op_sub (pv 3) (pe_fld (pv 9) rfl)) pa_nil))))
          (pss_cons (ps_set (i := 11) scLa.nd rfl (Or.inl rfl) (pe_call GW hr6 rfl gW FW.kp bW vW pass0 (pa_cons (pv 7) (pa_cons pe_int (pa_cons (pv 9) (pa_cons (pv 10) pa_nil))))))
          (pss_one (ps_if (pt_cmpR (op_neD hr.units) (pe_call LM.G hr1 rfl LM.g LM.F.kp LM.b .nil pass0 (pa_cons (pv 11) pa_nil)) (pe_call LS.G hr2 rfl LS.g LS.F.kp LS.b .nil pass0 (pa_cons (pv 3) (pa_cons (pv 6) (pa_cons (pv 9) (pa_cons (pv 10) pa_nil))))) (nomark _)) (pss_one (ps_ret pe_bl)) pss_nil)))) pss_nil)
        (pss_cons (ps_set (i := 12) scLa.nd rfl (Or.inl rfl) (pe_call LC.G hr6 rfl LC.g LC.F.kp LC.b .nil pass0 (pa_cons (pv 7) (pa_cons pe_int (pa_cons (pe_call LC.G hr6 rfl LC.g LC.F.kp LC.b .nil pass0 (pa_cons (pv 7) (pa_cons pe_int (pa_cons (pv 9) pa_nil)))) pa_nil)))))
        (pss_one (ps_if (PW.pt (pw_or (pt_val (pe_fld (pv 9) rfl)) (pw_or1 (pt_cmpR (op_neO ES neZ TZ.k.hm GE bE pass0 hr2) (pe_call LC.G hr6 rfl LC.g LC.F.kp LC.b .nil pass0 (pa_cons (pv 7) (pa_cons pe_int (pa_cons (pv 12) pa_nil)))) (pv 12) (nomark _))))) (pss_one (ps_ret pe_bl)) pss_nil))))))))))))))
      (pss_one (ps_ret pe_bl)), ?_⟩
    obtain ⟨M, hM2⟩ : ∃ M : Int, M = mx 2 (mn 8 (ns.length : Int)) := ⟨_, rfl⟩
    have hM8 : 0 ≤ M ∧ M ≤ 8 := by
      rw [hM2]
      unfold mx mn
      split <;> split <;> omega
    have evl : Ev (tCB (rLenS K) (tCons (tVar 0) tNil)) (start nLa [V.ref a]) H (.int (ns.length : Int)) := by
      have z := ev_len (K := K) (σ := start nLa [V.ref a]) (H := H) (ta := tVar 0) (ev_var rfl) hs
      rw [List.length_map] at z
      exact z
    refine q_forR1 (n := M) (ea_cons (ev_is (ev_cb (ea_cons ev_c (ea_cons (ev_cb (ea_cons ev_c (ea_cons evl ea_nil)) rc_min2) ea_nil)) rc_max2) (congrArg V.int hM2.symm)) ea_nil) (by omega)
      (fun i σ' H' => ∃ o1 o2 o3 o4 o5 o6 o7 o8 o9 o10 o11 o12 : Option V, σ' = [some (.ref a), o1, o2, o3, o4, o5, o6, o7, o8, o9, o10, o11, o12] ∧ Ex H H')
      (fun H1 e1 => ⟨_, _, _, _, _, _, _, _, _, _, _, _, rfl, e1⟩) ?_ ?_
    · rintro i σ' H' hi ⟨o1, o2, o3, o4, o5, o6, o7, o8, o9, o10, o11, o12, rfl, e0⟩
      refine q_call (ea_cons (ev_var rfl) (ea_cons (ev_var rfl) ea_nil)) fun Hb eb => ⟨a, ns, i, rfl, ex_l (e0.trans eb) hs, by omega, fun g H1 hg0 e1' b1 => ?_⟩
      have e1 := eb.trans e1'
      have B1 : BagAt H1 g 2000 := b1.less (by decide)
      refine q_asgT ?_
      refine take_go (n := 1999) (m := (10 : Int) ^ (18 : Int).toNat) (ev_var rfl) (ev_op ev_c ev_c (rv_I ⟨by decide, by decide, by decide⟩)) B1 (by decide) (by decide) fun r1 H2 l1 u1 x2 b2 => ?_
      refine ⟨_, _, rfl, rfl, ?_⟩
      refine take_go (n := 1998) (m := 9) (ev_var rfl) ev_c b2 (by decide) (by decide) fun r2 H3 l2 u2 x3 b3 => ?_
      refine ⟨_, _, rfl, rfl, ?_⟩
      refine take_go (n := 1997) (m := (10 : Int) ^ (6 : Int).toNat) (ev_var rfl) (ev_op ev_c ev_c (rv_I ⟨by decide, by decide, by decide⟩)) b3 (by decide) (by decide) fun r3 H4 l3 u3 x4 b4 => ?_
      refine ⟨_, _, rfl, rfl, by show 3 ≤ sizeLine; decide, fun p hp => ?_⟩
      have npg : p ≠ g := bag_ne b4 hp
      refine take_go (n := 1996) (m := 3) (ev_var rfl) ev_c (b4.ex (Ex.new hp)) (by decide) (by decide) fun r4 H6 l4 u4 x6 b6 => ?_
      have hp6 := del_at x6 (upd_same (H := H4) (a := p) (o := .lst [.int (1 + r1), .int (1 + r2), .int (1 + r3)])) npg
      have eA : Ex H' (del H6 g) := (((e1.trans x2).trans x3).trans x4).trans ((ex_del (Ex.new hp)).trans x6)
      rw [p18] at u1
      have u3' : r3 < 1000000 := by
        have z : (10 : Int) ^ (6 : Int).toNat = 1000000 := by decide
        omega
      obtain ⟨n, n1, n2, hat⟩ : ∃ n : Int, 1 ≤ n ∧ n ≤ 1000000000000000000 ∧ atI [V.int (1 + r1), .int (1 + r2), .int (1 + r3)] r4 = some (.int n) := by
        have c : r4 = 0 ∨ r4 = 1 ∨ r4 = 2 := by omega
        rcases c with rfl | rfl | rfl
        · exact ⟨1 + r1, by omega, by omega, atI_nat (j := 0) rfl⟩
        · exact ⟨1 + r2, by omega, by omega, atI_nat (j := 1) rfl⟩
        · exact ⟨1 + r3, by omega, by omega, atI_nat (j := 2) rfl⟩
      refine ⟨p, _, _, .int n, rfl, rfl, sq_of hp6, hat, ?_⟩
      refine s_forR1 (n := 4) (ea_cons ev_c ea_nil) (by omega) (fun j σ' H'' => ∃ o4 o5 o6 o7 o8 o9 o10 o11 o12 : Option V, σ' = [some (.ref a), some (.int (i : Int)), some (.ref g), some (.int n), o4, o5, o6, o7, o8, o9, o10, o11, o12] ∧ Ex H' (del H'' g) ∧ BagAt H'' g (1000 - 20 * j))
        (fun H7 e7 => ⟨_, _, _, _, _, _, _, _, _, rfl, eA.trans (ex_del e7), (b6.ex e7).less (by decide)⟩) ?_ fun σ' H7 ⟨q4, q5, q6, q7, q8, q9, q10, q11, q12, eσ, eX, _⟩ => ⟨_, _, _, _, _, _, _, _, _, _, _, _, eσ, e0.trans (eX.trans ex_del_self)⟩
      rintro j σ' H7 hj ⟨o4', o5', o6', o7', o8', o9', o10', o11', o12', rfl, eX, bX⟩
      obtain ⟨N, hN⟩ : ∃ N, N = 1000 - 20 * (j + 1) := ⟨_, rfl⟩
      have bN : BagAt H7 g (N + 20) := bX.less (by omega)
      refine q_asgT ⟨by show 4 ≤ sizeLine; decide, fun p hp => ?_⟩
      have npg : p ≠ g := bag_ne bN hp
      refine take_go (n := N + 19) (m := 4) (ev_var rfl) ev_c (bN.ex (Ex.new hp)) (by decide) (by decide) fun r5 H8 l5 u5 x8 b8 => ?_
      have hp8 := del_at x8 (upd_same (H := H7) (a := p) (o := .lst [.str "off", .str "partial", .str "all", .str "all"])) npg
      have eB : Ex H' (del H8 g) := eX.trans ((ex_del (Ex.new hp)).trans x8)
      obtain ⟨h, hh, hat2⟩ : ∃ h : Str, okH h ∧ atI [V.str "off", .str "partial", .str "all", .str "all"] r5 = some (.str h) := by
        have c : r5 = 0 ∨ r5 = 1 ∨ r5 = 2 ∨ r5 = 3 := by omega
        rcases c with rfl | rfl | rfl | rfl
        · exact ⟨_, Or.inl rfl, atI_nat (j := 0) rfl⟩
        · exact ⟨_, Or.inr (Or.inl rfl), atI_nat (j := 1) rfl⟩
        · exact ⟨_, Or.inr (Or.inr rfl), atI_nat (j := 2) rfl⟩
        · exact ⟨_, Or.inr (Or.inr rfl), atI_nat (j := 3) rfl⟩
      refine ⟨p, _, _, .str h, rfl, rfl, sq_of hp8, hat2, ?_⟩
      refine q_asgT ?_
      refine take_go (n := N + 18) (m := 10) (ev_var rfl) ev_c b8 (by decide) (by decide) fun e H9 l6 u6 x9 b9 => ?_
      refine take_go (n := N + 17) (m := 5) (ev_var rfl) ev_c b9 (by decide) (by decide) fun u H10 l7 u7 x10 b10 => ?_
      refine ⟨by show 3 ≤ sizeLine; decide, fun t ht => ?_⟩
      have eC : Ex H' (del (upd H10 t (.tup [.str "off", .int e, .int u])) g) := ((eB.trans x9).trans x10).trans (ex_del (Ex.new ht))
      have bC : BagAt (upd H10 t (.tup [.str "off", .int e, .int u])) g (N + 17) := b10.ex (Ex.new ht)
      have htC : SqT K (upd H10 t (.tup [.str "off", .int e, .int u])) t [.str "off", .int e, .int u] := st_of upd_same
      generalize upd H10 t (.tup [.str "off", .int e, .int u]) = HC at eC bC htC
      have oe : okE e := ⟨l6, by omega⟩
      have ok1 : okP h 2 0 := ⟨hh, by decide, by decide, by decide, by decide⟩
      have ok2 : okP "off" e u := ⟨Or.inl rfl, l6, by omega, l7, by omega⟩
      refine q_parT ⟨_, rfl, _, rfl, by show 3 ≤ sizeLine; decide, fun t1 ht1 => ⟨_, rfl, by show 2 ≤ sizeLine; decide, fun l hl' => ?_⟩⟩
      have eD := Ex.new (o := .tup [.str h, .int 2, .int 0]) ht1
      have eE := Ex.new (o := .lst [.ref t1, .ref t]) hl'
      refine ⟨n, l, t1, t, h, 2, 0, "off", e, u, rfl, sq_of upd_same, ex_t eE (st_of upd_same), ex_t (eD.trans eE) htC, ok1, ok2, n1, n2, fun m p' q' H11 x11 sv => ?_⟩
      have x11' := (eD.trans eE).trans x11
      refine ⟨_, rfl, _, rfl, g, n, N + 12, rfl, (bC.ex x11').less (by omega), n1, n2, fun v H12 v1 v2 x12 b12 => ⟨_, _, rfl, ?_⟩⟩
      have sv12 := set_dl (bC.ex x11') x12 sv
      have ht12 := ext_t (ext_del (bag_nt (bC.ex x11')) x12) (ex_t x11' htC)
      have eF : Ex H' (del H12 g) := (eC.trans (ex_del x11')).trans x12
      refine q_asgZ (evz_wt (CZ := CZ) sv12 (Or.inl rfl) ⟨by decide, by decide⟩ oe n1 n2 (ev_var rfl) ev_c (evz_made (ev_op (ev_var rfl) ev_c (rv_ixT ht12 (atI_nat (j := 2) rfl)))) (ev_var rfl)) fun z H13 x13 tz0 => ?_
      obtain ⟨f1, f2⟩ := first_ok (h := h) (e := e) (q := u) (n := n) (len := v) l6 l7 n1 (by omega)
      have kp := fd_kept (n := n) (e := e) (q := u) (len := v) (h := h)
      have qk := fd_quick (n := n) (e := e) (q := u) (len := v) (h := h) l7 n1 (by omega)
      have rs := fd_rest (n := n) (e := e) (q := u) (len := v) (h := h) n1
      have tz13 : TsAt CZ H13 z (fdM n h e u v).1 (fdM n h e u v).2 := by
        rw [← f1, ← f2]
        exact tz0
      refine q_when (b := false) (et_neD (dvx_tell tz13 (ev_var rfl)) (dvx_first (ex_t x13 ht12) oe n1 n2 (ev_var rfl) (ev_var rfl) (ev_var rfl) (ev_var rfl)) tl_shaped tl_shaped (by rw [eqv_refl _ rfl] <;> rfl)) (fun hb => nomatch hb) fun _ H14 x14 => ?_
      generalize (fdM n h e u v).1 = r at tz13 rs
      generalize (fdM n h e u v).2 = s at tz13 kp qk
      have tz14 := tz13.ex x14
      have sv14 := (sv12.ex x13).ex x14
      have ht14 := ex_t (x13.trans x14) ht12
      have b14 : BagAt H14 g (N + 12) := b12.ex (x13.trans x14)
      have eG : Ex H' (del H14 g) := eF.trans (ex_del (x13.trans x14))
      generalize htl : (tSeq (tAsg (tCall (spCd _ _ _ _) _ _ _) (gName 12)) _ : TS) = tl
      have fin : ∀ (D : Ends) (o10 o11 : Option V) (H15 : Hp), Ex H' (del H15 g) → BagAt H15 g N → SetV K CS CP H15 m n p' q' h 2 0 "off" e u → TsAt CZ H15 z r s → (∀ o12 H16, Ex H' (del H16 g) → BagAt H16 g N → D.nx [some (.ref a), some (.int (i : Int)), some (.ref g), some (.int n), some (.int (j : Int)), some (.str h), some (.ref t), some (.ref m), some (.int v), some (.ref z), o10, o11, o12] H16) →
          tl D [some (.ref a), some (.int (i : Int)), some (.ref g), some (.int n), some (.int (j : Int)), some (.str h), some (.ref t), some (.ref m), some (.int v), some (.ref z), o10, o11, o12'] H15 := fun D o10 o11 H15 eY bY sY tY kY => by
        rw [← htl]
        refine q_asgZ (evz_cd (CZ := CZ) sY (Or.inl rfl) (ev_var rfl) ev_c (evz_cd (CZ := CZ) sY (Or.inl rfl) (ev_var rfl) ev_c (evz_var rfl tY))) fun tw H16 x16 t16 => ?_
        have cf := clear_fix (c := cfOf 0 h 2 "off" e) (n := n) (r := r) (s := s) kp
        refine s_when (b := false) (et_is (et_or (a := false) (b := false) (et_B (ev_is (ev_z TZ (tY.ex x16) (ev_var rfl) (by simp) rfl) (by rw [kp]))) fun _ => et_zne TZ (evz_cd (CZ := CZ) (sY.ex x16) (Or.inl rfl) (ev_var rfl) ev_c (evz_var rfl t16)) rfl t16 ?_) rfl) (fun hb => nomatch hb) fun _ H17 x17 => kY _ H17 (eY.trans (ex_del (x16.trans x17))) (bY.ex (x16.trans x17))
        have c1 : (clZ (cfOf 0 h 2 "off" e) n (clZ (cfOf 0 h 2 "off" e) n (clZ (cfOf 0 h 2 "off" e) n r s).r (clZ (cfOf 0 h 2 "off" e) n r s).s).r (clZ (cfOf 0 h 2 "off" e) n (clZ (cfOf 0 h 2 "off" e) n r s).r (clZ (cfOf 0 h 2 "off" e) n r s).s).s).r = (clZ (cfOf 0 h 2 "off" e) n (clZ (cfOf 0 h 2 "off" e) n r s).r (clZ (cfOf 0 h 2 "off" e) n r s).s).r := cf.1
        have c2 : (clZ (cfOf 0 h 2 "off" e) n (clZ (cfOf 0 h 2 "off" e) n (clZ (cfOf 0 h 2 "off" e) n r s).r (clZ (cfOf 0 h 2 "off" e) n r s).s).r (clZ (cfOf 0 h 2 "off" e) n (clZ (cfOf 0 h 2 "off" e) n r s).r (clZ (cfOf 0 h 2 "off" e) n r s).s).s).s = (clZ (cfOf 0 h 2 "off" e) n (clZ (cfOf 0 h 2 "off" e) n r s).r (clZ (cfOf 0 h 2 "off" e) n r s).s).s := cf.2
        rw [c1, c2, zC_refl]
        rfl
      have done : ∀ (o10 o11 o12 : Option V) (H16 : Hp), Ex H' (del H16 g) → BagAt H16 g N → ∃ q4 q5 q6 q7 q8 q9 q10 q11 q12 : Option V, ([some (.ref a), some (.int (i : Int)), some (.ref g), some (.int n), some (.int (j : Int)), some (.str h), some (.ref t), some (.ref m), some (.int v), some (.ref z), o10, o11, o12] : L2.St) = [some (.ref a), some (.int (i : Int)), some (.ref g), some (.int n), q4, q5, q6, q7, q8, q9, q10, q11, q12] ∧ Ex H' (del H16 g) ∧ BagAt H16 g (1000 - 20 * (j + 1)) := fun o10 o11 o12 H16 y1 y2 => ⟨_, _, _, _, _, _, _, _, _, rfl, y1, by rw [← hN]; exact y2⟩
      refine q_when (b := decide (h = "all") && decide (r > 0)) (et_and (et_is (et_test (ev_op (ev_var rfl) ev_c (rv_eq rfl))) dS) fun _ => et_test (ev_op (ev_z TZ tz14 (ev_var rfl) (by simp) rfl) ev_c rv_I0)) (fun hb H15 x15 => ?_) fun hb H15 x15 => ?_
      · obtain ⟨ha, hr0⟩ := Bool.and_eq_true_iff.mp hb
        have ha' : h = "all" := of_decide_eq_true ha
        subst ha'
        refine q_asgT ⟨_, rfl, _, rfl, g, n, N + 7, rfl, (b14.ex x15).less (by omega), n1, n2, fun v2 H16 w1 w2 x16 b16 => ?_⟩
        have tz16 := ts_dl (b14.ex x15) x16 (tz14.ex x15)
        have sv16 := set_dl (b14.ex x15) x16 (sv14.ex x15)
        have ht16 := ext_t (ext_del (bag_nt (b14.ex x15)) x16) (ex_t x15 ht14)
        refine ev_op (ev_var rfl) (ev_z TZ tz16 (ev_var rfl) (by simp) rfl) rv_I0 H16 (Ex.refl H16) _ fun H17 x17 => ⟨_, _, rfl, ?_⟩
        obtain ⟨fu, hfu⟩ : ∃ fu, fu = (if n - r > v2 then n - r else v2) := ⟨_, rfl⟩
        rw [← hfu]
        have hfl : n ≤ r + fu := by
          rw [hfu]
          split <;> omega
        refine q_asgZ (evz_wt (CZ := CZ) (sv16.ex x17) (Or.inl rfl) ⟨by decide, by decide⟩ oe n1 n2 (ev_var rfl) ev_c (evz_var rfl (tz16.ex x17)) (ev_var rfl)) fun z2 H18 x18 tz2 => ?_
        obtain ⟨g1, g2⟩ := second_ok (e := e) (n := n) (r := r) (len := fu) (s := s) l6 qk.1 qk.2 n1 hfl
        have tz18 : TsAt CZ H18 z2 (sdM n e r s fu).1 (sdM n e r s fu).2 := by
          rw [← g1, ← g2]
          exact tz2
        have xx := x17.trans x18
        refine s_when (b := false) (et_neD (dvx_tell tz18 (ev_var rfl)) (dvx_second (ex_t xx ht16) (tz16.ex xx) oe n1 n2 (ev_var rfl) (ev_var rfl) (ev_var rfl) (ev_var rfl)) tl_shaped tl_shaped (by rw [eqv_refl _ rfl] <;> rfl)) (fun hb => nomatch hb) fun _ H19 x19 => ?_
        exact fin _ _ _ H19 (((eG.trans (ex_del x15)).trans x16).trans (ex_del (xx.trans x19))) ((b16.ex (xx.trans x19)).less (by omega)) (sv16.ex (xx.trans x19)) (tz16.ex (xx.trans x19)) fun o12 H20 y1 y2 => done _ _ o12 H20 y1 y2
      · exact fin _ _ _ H15 (eG.trans (ex_del x15)) ((b14.ex x15).less (by omega)) (sv14.ex x15) (tz14.ex x15) fun o12 H20 y1 y2 => done _ _ o12 H20 y1 y2
    · rintro σ' H' ⟨o1, o2, o3, o4, o5, o6, o7, o8, o9, o10, o11, o12, rfl, e0⟩
      exact s_ret ev_c fun H1 e1 => k H1
end
end Lw

namespace Lw
open PySem PySem.Spec PyProof.Rows L2 Evl L3 ClX Tn
theorem all_mk {P : Program} {w : World} {K : PySem.W.Frag} {h : Heap} {mg : Str → Option Value} (X : K.In h) (G : h.Ns mainGlobals mg)
    {f1 f2 f3 f4 f5 f6 f7 f8 f9 f10 f11 f12 f13 f14 f15 f16 fBadSetting fPolicyinit fSettinginit fStancesinit fStancesafter_write fStancesafter_clearing fStanceswrite fStancesclear_way fStancessend_rest fStancesreceive_full fCourseinit fCoursemake_write fCoursemake_clearing fCoursetake fTurnStateeq : Addr} {CBadSetting EBadSetting NBadSetting : Addr} {fa : Addr} (hfa : mg "law" = some (.ref fa))
    {od1 an1 od2 an2 od3 an3 od4 an4 od5 an5 od6 an6 od7 an7 od8 an8 od9 an9 od10 an10 od11 an11 od12 an12 od13 an13 od14 an14 od15 an15 od16 an16 odBadSetting anBadSetting odPolicyinit anPolicyinit odSettinginit anSettinginit odStancesinit anStancesinit odStancesafter_write anStancesafter_write odStancesafter_clearing anStancesafter_clearing odStanceswrite anStanceswrite odStancesclear_way anStancesclear_way odStancessend_rest anStancessend_rest odStancesreceive_full anStancesreceive_full odCourseinit anCourseinit odCoursemake_write anCoursemake_write odCoursemake_clearing anCoursemake_clearing odCoursetake anCoursetake odTurnStateeq anTurnStateeq : Option Addr} {sl1 sl2 sl3 sl4 sl5 sl6 sl7 sl8 sl9 sl10 sl11 sl12 sl13 sl14 sl15 sl16 slBadSetting slPolicyinit slSettinginit slStancesinit slStancesafter_write slStancesafter_clearing slStanceswrite slStancesclear_way slStancessend_rest slStancesreceive_full slCourseinit slCoursemake_write slCoursemake_clearing slCoursetake slTurnStateeq : Array (Option Value)} {oc1 kV1 dc1 pm1 cd1 ct1 oc2 kV2 dc2 pm2 cd2 ct2 oc3 kV3 dc3 pm3 cd3 ct3 oc4 kV4 dc4 pm4 cd4 ct4 oc5 kV5 dc5 pm5 cd5 ct5 oc6 kV6 dc6 pm6 cd6 ct6 oc7 kV7 dc7 pm7 cd7 ct7 oc8 kV8 dc8 pm8 cd8 ct8 oc9 kV9 dc9 pm9 cd9 ct9 oc10 kV10 dc10 pm10 cd10 ct10 oc11 kV11 dc11 pm11 cd11 ct11 oc12 kV12 dc12 pm12 cd12 ct12 oc13 kV13 dc13 pm13 cd13 ct13 oc14 kV14 dc14 pm14 cd14 ct14 oc15 kV15 dc15 pm15 cd15 ct15 oc16 kV16 dc16 pm16 cd16 ct16 ocBadSetting kVBadSetting dcBadSetting pmBadSetting cdBadSetting ctBadSetting ocPolicyinit dcPolicyinit pmPolicyinit cdPolicyinit ctPolicyinit ocSettinginit kVSettinginit dcSettinginit pmSettinginit cdSettinginit ctSettinginit ocStancesinit kVStancesinit dcStancesinit pmStancesinit cdStancesinit ctStancesinit ocStancesafter_write kVStancesafter_write dcStancesafter_write pmStancesafter_write cdStancesafter_write ctStancesafter_write ocStancesafter_clearing kVStancesafter_clearing dcStancesafter_clearing pmStancesafter_clearing cdStancesafter_clearing ctStancesafter_clearing ocStanceswrite kVStanceswrite dcStanceswrite pmStanceswrite cdStanceswrite ctStanceswrite ocStancesclear_way kVStancesclear_way dcStancesclear_way pmStancesclear_way cdStancesclear_way ctStancesclear_way ocStancessend_rest kVStancessend_rest dcStancessend_rest pmStancessend_rest cdStancessend_rest ctStancessend_rest ocStancesreceive_full kVStancesreceive_full dcStancesreceive_full pmStancesreceive_full cdStancesreceive_full ctStancesreceive_full ocCourseinit kVCourseinit dcCourseinit pmCourseinit cdCourseinit ctCourseinit ocCoursemake_write kVCoursemake_write dcCoursemake_write pmCoursemake_write cdCoursemake_write ctCoursemake_write ocCoursemake_clearing kVCoursemake_clearing dcCoursemake_clearing pmCoursemake_clearing cdCoursemake_clearing ctCoursemake_clearing ocCoursetake kVCoursetake dcCoursetake pmCoursetake cdCoursetake ctCoursetake ocTurnStateeq kVTurnStateeq dcTurnStateeq pmTurnStateeq cdTurnStateeq ctTurnStateeq : Value}
    {aPolicyHOLDS : Addr} {odPolicyHOLDS : Option Addr} {nPolicyHOLDS : Nat} {slPolicyHOLDS : Array (Option Value)} {tPolicyHOLDS0 tPolicyHOLDS1 tPolicyHOLDS2 : Tok}
    {CPolicy CSetting CStances CCourse CTurnState : Addr}
    {TDPolicyinit DDPolicyinit : Addr} {oTPolicyinit : Value} {odTPolicyinit : Option Addr} {nTPolicyinit : Nat} {slTPolicyinit : Array (Option Value)} {tDPolicyinit0 tKPolicyinitevery tKPolicyinitquick : Tok}
    {fzi TDzi : Addr} {oczi kVzi dczi pmzi cdzi ctzi oTzi : Value} {odzi anzi odTzi : Option Addr} {slzi slTzi : Array (Option Value)} {nTzi : Nat} {tz0 tz1 tz2 : Tok}
    {fwt TDwt : Addr} {ocwt kVwt dcwt pmwt cdwt ctwt oTwt : Value} {odwt anwt odTwt : Option Addr} {slwt slTwt : Array (Option Value)} {nTwt : Nat} {tw0 : Tok}
    {nmBadSetting qBadSetting : Str} {bsBadSetting : List Value} {snBadSetting : List Str} {subBadSetting : List Value} {abBadSetting : Bool} {colBadSetting : Option Bool} {ddBadSetting : Option Addr} {m0BadSetting m1BadSetting m2BadSetting m3BadSetting m5BadSetting : Option Value}
    {tMOST_SIZE tMOST_EVERY tMOST_QUICK : Tok}
    (a1 : PySem.W.nsIn K mainGlobals "between" = some (some (.ref f1)))
    (l1 : K.lookup f1 = some ⟨oc1, od1, .func (PySem.W.fnOf "between" "between" (defArgs sBetw) (defBody sBetw) (defScope sBetw) .none kV1 dc1 pm1 an1 cd1 ct1), sl1⟩)
    (c1 : PySem.W.codeIn K cd1 "between" = true)
    (k1 : PySem.W.keepIn K (.ref f1) = true)
    (a2 : PySem.W.nsIn K mainGlobals "check_size" = some (some (.ref f2)))
    (l2 : K.lookup f2 = some ⟨oc2, od2, .func (PySem.W.fnOf "check_size" "check_size" (defArgs sCkS) (defBody sCkS) (defScope sCkS) .none kV2 dc2 pm2 an2 cd2 ct2), sl2⟩)
    (c2 : PySem.W.codeIn K cd2 "check_size" = true)
    (k2 : PySem.W.keepIn K (.ref f2) = true)
    (a3 : PySem.W.nsIn K mainGlobals "policy_pair" = some (some (.ref f3)))
    (l3 : K.lookup f3 = some ⟨oc3, od3, .func (PySem.W.fnOf "policy_pair" "policy_pair" (defArgs sPair) (defBody sPair) (defScope sPair) .none kV3 dc3 pm3 an3 cd3 ct3), sl3⟩)
    (c3 : PySem.W.codeIn K cd3 "policy_pair" = true)
    (k3 : PySem.W.keepIn K (.ref f3) = true)
    (a4 : PySem.W.nsIn K mainGlobals "course_from" = some (some (.ref f4)))
    (l4 : K.lookup f4 = some ⟨oc4, od4, .func (PySem.W.fnOf "course_from" "course_from" (defArgs sCF) (defBody sCF) (defScope sCF) .none kV4 dc4 pm4 an4 cd4 ct4), sl4⟩)
    (c4 : PySem.W.codeIn K cd4 "course_from" = true)
    (k4 : PySem.W.keepIn K (.ref f4) = true)
    (a5 : PySem.W.nsIn K mainGlobals "state_of" = some (some (.ref f5)))
    (l5 : K.lookup f5 = some ⟨oc5, od5, .func (PySem.W.fnOf "state_of" "state_of" (defArgs sSO) (defBody sSO) (defScope sSO) .none kV5 dc5 pm5 an5 cd5 ct5), sl5⟩)
    (c5 : PySem.W.codeIn K cd5 "state_of" = true)
    (k5 : PySem.W.keepIn K (.ref f5) = true)
    (a6 : PySem.W.nsIn K mainGlobals "cleared" = some (some (.ref f6)))
    (l6 : K.lookup f6 = some ⟨oc6, od6, .func (PySem.W.fnOf "cleared" "cleared" (defArgs sCleared) (defBody sCleared) (defScope sCleared) .none kV6 dc6 pm6 an6 cd6 ct6), sl6⟩)
    (c6 : PySem.W.codeIn K cd6 "cleared" = true)
    (k6 : PySem.W.keepIn K (.ref f6) = true)
    (a7 : PySem.W.nsIn K mainGlobals "_law_bag" = some (some (.ref f7)))
    (l7 : K.lookup f7 = some ⟨oc7, od7, .func (PySem.W.fnOf "_law_bag" "_law_bag" (defArgs sBag) (defBody sBag) (defScope sBag) .none kV7 dc7 pm7 an7 cd7 ct7), sl7⟩)
    (c7 : PySem.W.codeIn K cd7 "_law_bag" = true)
    (k7 : PySem.W.keepIn K (.ref f7) = true)
    (a8 : PySem.W.nsIn K mainGlobals "_law_take" = some (some (.ref f8)))
    (l8 : K.lookup f8 = some ⟨oc8, od8, .func (PySem.W.fnOf "_law_take" "_law_take" (defArgs sTake) (defBody sTake) (defScope sTake) .none kV8 dc8 pm8 an8 cd8 ct8), sl8⟩)
    (c8 : PySem.W.codeIn K cd8 "_law_take" = true)
    (k8 : PySem.W.keepIn K (.ref f8) = true)
    (a9 : PySem.W.nsIn K mainGlobals "_law_setting" = some (some (.ref f9)))
    (l9 : K.lookup f9 = some ⟨oc9, od9, .func (PySem.W.fnOf "_law_setting" "_law_setting" (defArgs sSetg) (defBody sSetg) (defScope sSetg) .none kV9 dc9 pm9 an9 cd9 ct9), sl9⟩)
    (c9 : PySem.W.codeIn K cd9 "_law_setting" = true)
    (k9 : PySem.W.keepIn K (.ref f9) = true)
    (a10 : PySem.W.nsIn K mainGlobals "_law_values" = some (some (.ref f10)))
    (l10 : K.lookup f10 = some ⟨oc10, od10, .func (PySem.W.fnOf "_law_values" "_law_values" (defArgs sVals) (defBody sVals) (defScope sVals) .none kV10 dc10 pm10 an10 cd10 ct10), sl10⟩)
    (c10 : PySem.W.codeIn K cd10 "_law_values" = true)
    (k10 : PySem.W.keepIn K (.ref f10) = true)
    (a11 : PySem.W.nsIn K mainGlobals "_law_sent" = some (some (.ref f11)))
    (l11 : K.lookup f11 = some ⟨oc11, od11, .func (PySem.W.fnOf "_law_sent" "_law_sent" (defArgs sSent) (defBody sSent) (defScope sSent) .none kV11 dc11 pm11 an11 cd11 ct11), sl11⟩)
    (c11 : PySem.W.codeIn K cd11 "_law_sent" = true)
    (k11 : PySem.W.keepIn K (.ref f11) = true)
    (a12 : PySem.W.nsIn K mainGlobals "_law_first_due" = some (some (.ref f12)))
    (l12 : K.lookup f12 = some ⟨oc12, od12, .func (PySem.W.fnOf "_law_first_due" "_law_first_due" (defArgs sFirst) (defBody sFirst) (defScope sFirst) .none kV12 dc12 pm12 an12 cd12 ct12), sl12⟩)
    (c12 : PySem.W.codeIn K cd12 "_law_first_due" = true)
    (k12 : PySem.W.keepIn K (.ref f12) = true)
    (a13 : PySem.W.nsIn K mainGlobals "_law_tell" = some (some (.ref f13)))
    (l13 : K.lookup f13 = some ⟨oc13, od13, .func (PySem.W.fnOf "_law_tell" "_law_tell" (defArgs sTell) (defBody sTell) (defScope sTell) .none kV13 dc13 pm13 an13 cd13 ct13), sl13⟩)
    (c13 : PySem.W.codeIn K cd13 "_law_tell" = true)
    (k13 : PySem.W.keepIn K (.ref f13) = true)
    (a14 : PySem.W.nsIn K mainGlobals "_law_second_due" = some (some (.ref f14)))
    (l14 : K.lookup f14 = some ⟨oc14, od14, .func (PySem.W.fnOf "_law_second_due" "_law_second_due" (defArgs sSecond) (defBody sSecond) (defScope sSecond) .none kV14 dc14 pm14 an14 cd14 ct14), sl14⟩)
    (c14 : PySem.W.codeIn K cd14 "_law_second_due" = true)
    (k14 : PySem.W.keepIn K (.ref f14) = true)
    (a15 : PySem.W.nsIn K mainGlobals "law" = some (some (.ref f15)))
    (l15 : K.lookup f15 = some ⟨oc15, od15, .func (PySem.W.fnOf "law" "law" (defArgs sLaw) (defBody sLaw) (defScope sLaw) .none kV15 dc15 pm15 an15 cd15 ct15), sl15⟩)
    (c15 : PySem.W.codeIn K cd15 "law" = true)
    (k15 : PySem.W.keepIn K (.ref f15) = true)
    (a16 : PySem.W.nsIn K mainGlobals "is_integer" = some (some (.ref f16)))
    (l16 : K.lookup f16 = some ⟨oc16, od16, .func (PySem.W.fnOf "is_integer" "is_integer" (defArgs sIsInt) (defBody sIsInt) (defScope sIsInt) .none kV16 dc16 pm16 an16 cd16 ct16), sl16⟩)
    (c16 : PySem.W.codeIn K cd16 "is_integer" = true)
    (k16 : PySem.W.keepIn K (.ref f16) = true)
    (gBadSetting : PySem.W.nsIn K mainGlobals "BadSetting" = some (some (.ref CBadSetting)))
    (aBadSetting : PySem.W.findIn K (.ref CBadSetting) "__init__" = some (some (.ref fBadSetting)))
    (lBadSetting : K.lookup fBadSetting = some ⟨ocBadSetting, odBadSetting, .func (PySem.W.fnOf "__init__" "BadSetting.__init__" (defArgs sIniB) (defBody sIniB) (defScope sIniB) .none kVBadSetting dcBadSetting pmBadSetting anBadSetting cdBadSetting ctBadSetting), slBadSetting⟩)
    (cBadSetting : PySem.W.codeIn K cdBadSetting "BadSetting.__init__" = true)
    (kBadSetting : PySem.W.keepIn K (.ref fBadSetting) = true)
    (xBadSetting : K.lookup CBadSetting = some (excClassObj nmBadSetting qBadSetting CBadSetting NBadSetting bsBadSetting [.ref EBadSetting, .type "ValueError", .type "Exception", .type "BaseException", .type "object"] true snBadSetting subBadSetting abBadSetting colBadSetting ddBadSetting m0BadSetting m1BadSetting m2BadSetting m3BadSetting m5BadSetting "ValueError.__new__"))
    (sBadSetting : PySem.W.findIn K (.ref CBadSetting) "__setattr__" = some (some (.builtin "object.__setattr__")))
    (eBadSetting : PySem.W.subIn K (.ref CBadSetting) (.type "BaseException") = some true)
    (yBadSetting : PySem.W.typeIn K (.ref CBadSetting) = some (.type "type"))
    (pBadSetting : PySem.W.keepIn K (.ref CBadSetting) = true)
    (tBadSetting : PySem.W.typeIn K (.ref fBadSetting) = some (.type "function"))
    (nBadSetting : PySem.W.findIn K (.ref CBadSetting) "name" = some none)
    (hBadSetting : PySem.W.hasDictIn K CBadSetting = true)
    (gPolicy : PySem.W.nsIn K mainGlobals "Policy" = some (some (.ref CPolicy)))
    (qPolicypg : PySem.W.plainGet K CPolicy Str.empty = true)
    (qPolicyhd : PySem.W.hasDictIn K CPolicy = true)
    (qPolicypo : PySem.W.plainOver K CPolicy = true)
    (qPolicysa : PySem.W.findIn K (.ref CPolicy) "__setattr__" = some (some (.builtin "object.__setattr__")))
    (qPolicyca : PySem.W.findIn K (.ref CPolicy) "__class__" = some (some (.builtin "object.__class__")))
    (qPolicymo : PySem.W.mroIn K CPolicy (.type "object") = some true)
    (qPolicymk : PySem.W.makesIn K CPolicy = true)
    (qPolicykp : PySem.W.keepIn K (.ref CPolicy) = true)
    (qPolicyne : PySem.W.findIn K (.ref CPolicy) "__ne__" = some (some (.builtin "object.__ne__")))
    (qPolicyfm : PySem.W.findIn K (.ref CPolicy) "__format__" = some (some (.builtin "object.__format__")))
    (qPolicyno_hold : PySem.W.findIn K (.ref CPolicy) "hold" = some none)
    (qPolicyno_every : PySem.W.findIn K (.ref CPolicy) "every" = some none)
    (qPolicyno_quick : PySem.W.findIn K (.ref CPolicy) "quick" = some none)
    (qPolicyrd : PySem.W.readsIn K CPolicy (.type "type") = true)
    (qPolicyga : PySem.W.specialIn K (.ref CPolicy) "__getattribute__" = some (some (.builtin "type.__getattribute__")))
    (uPolicyHOLDS : PySem.W.findCls K (.ref CPolicy) (.type "type") "HOLDS" = some (.val (.ref aPolicyHOLDS)))
    (vPolicyHOLDS : K.lookup aPolicyHOLDS = some ⟨.type "tuple", odPolicyHOLDS, .seq #[.str "off" tPolicyHOLDS0, .str "partial" tPolicyHOLDS1, .str "all" tPolicyHOLDS2] nPolicyHOLDS, slPolicyHOLDS⟩)
    (gSetting : PySem.W.nsIn K mainGlobals "Setting" = some (some (.ref CSetting)))
    (qSettingpg : PySem.W.plainGet K CSetting Str.empty = true)
    (qSettinghd : PySem.W.hasDictIn K CSetting = true)
    (qSettingpo : PySem.W.plainOver K CSetting = true)
    (qSettingsa : PySem.W.findIn K (.ref CSetting) "__setattr__" = some (some (.builtin "object.__setattr__")))
    (qSettingca : PySem.W.findIn K (.ref CSetting) "__class__" = some (some (.builtin "object.__class__")))
    (qSettingmo : PySem.W.mroIn K CSetting (.type "object") = some true)
    (qSettingmk : PySem.W.makesIn K CSetting = true)
    (qSettingkp : PySem.W.keepIn K (.ref CSetting) = true)
    (qSettingne : PySem.W.findIn K (.ref CSetting) "__ne__" = some (some (.builtin "object.__ne__")))
    (qSettingfm : PySem.W.findIn K (.ref CSetting) "__format__" = some (some (.builtin "object.__format__")))
    (qSettingno_size : PySem.W.findIn K (.ref CSetting) "size" = some none)
    (qSettingno_policies : PySem.W.findIn K (.ref CSetting) "policies" = some none)
    (gStances : PySem.W.nsIn K mainGlobals "Stances" = some (some (.ref CStances)))
    (qStancespg : PySem.W.plainGet K CStances Str.empty = true)
    (qStanceshd : PySem.W.hasDictIn K CStances = true)
    (qStancespo : PySem.W.plainOver K CStances = true)
    (qStancessa : PySem.W.findIn K (.ref CStances) "__setattr__" = some (some (.builtin "object.__setattr__")))
    (qStancesca : PySem.W.findIn K (.ref CStances) "__class__" = some (some (.builtin "object.__class__")))
    (qStancesmo : PySem.W.mroIn K CStances (.type "object") = some true)
    (qStancesmk : PySem.W.makesIn K CStances = true)
    (qStanceskp : PySem.W.keepIn K (.ref CStances) = true)
    (qStancesne : PySem.W.findIn K (.ref CStances) "__ne__" = some (some (.builtin "object.__ne__")))
    (qStancesfm : PySem.W.findIn K (.ref CStances) "__format__" = some (some (.builtin "object.__format__")))
    (qStancesno__hold : PySem.W.findIn K (.ref CStances) "_hold" = some none)
    (qStancesno__every : PySem.W.findIn K (.ref CStances) "_every" = some none)
    (qStancesno__known_writes : PySem.W.findIn K (.ref CStances) "_known_writes" = some none)
    (qStancesno__known_clearings : PySem.W.findIn K (.ref CStances) "_known_clearings" = some none)
    (gCourse : PySem.W.nsIn K mainGlobals "Course" = some (some (.ref CCourse)))
    (qCoursepg : PySem.W.plainGet K CCourse Str.empty = true)
    (qCoursehd : PySem.W.hasDictIn K CCourse = true)
    (qCoursepo : PySem.W.plainOver K CCourse = true)
    (qCoursesa : PySem.W.findIn K (.ref CCourse) "__setattr__" = some (some (.builtin "object.__setattr__")))
    (qCourseca : PySem.W.findIn K (.ref CCourse) "__class__" = some (some (.builtin "object.__class__")))
    (qCoursemo : PySem.W.mroIn K CCourse (.type "object") = some true)
    (qCoursemk : PySem.W.makesIn K CCourse = true)
    (qCoursekp : PySem.W.keepIn K (.ref CCourse) = true)
    (qCoursene : PySem.W.findIn K (.ref CCourse) "__ne__" = some (some (.builtin "object.__ne__")))
    (qCoursefm : PySem.W.findIn K (.ref CCourse) "__format__" = some (some (.builtin "object.__format__")))
    (qCourseno__size : PySem.W.findIn K (.ref CCourse) "_size" = some none)
    (qCourseno__stances : PySem.W.findIn K (.ref CCourse) "_stances" = some none)
    (qCourseno_rest : PySem.W.findIn K (.ref CCourse) "rest" = some none)
    (qCourseno_stance : PySem.W.findIn K (.ref CCourse) "stance" = some none)
    (qCourseno_segments : PySem.W.findIn K (.ref CCourse) "segments" = some none)
    (qCourseno_acknowledgments : PySem.W.findIn K (.ref CCourse) "acknowledgments" = some none)
    (gTurnState : PySem.W.nsIn K mainGlobals "TurnState" = some (some (.ref CTurnState)))
    (qTurnStatepg : PySem.W.plainGet K CTurnState Str.empty = true)
    (qTurnStatehd : PySem.W.hasDictIn K CTurnState = true)
    (qTurnStatepo : PySem.W.plainOver K CTurnState = true)
    (qTurnStatesa : PySem.W.findIn K (.ref CTurnState) "__setattr__" = some (some (.builtin "object.__setattr__")))
    (qTurnStateca : PySem.W.findIn K (.ref CTurnState) "__class__" = some (some (.builtin "object.__class__")))
    (qTurnStatemo : PySem.W.mroIn K CTurnState (.type "object") = some true)
    (qTurnStatemk : PySem.W.makesIn K CTurnState = true)
    (qTurnStatekp : PySem.W.keepIn K (.ref CTurnState) = true)
    (qTurnStatene : PySem.W.findIn K (.ref CTurnState) "__ne__" = some (some (.builtin "object.__ne__")))
    (qTurnStatefm : PySem.W.findIn K (.ref CTurnState) "__format__" = some (some (.builtin "object.__format__")))
    (qTurnStateno_rest : PySem.W.findIn K (.ref CTurnState) "rest" = some none)
    (qTurnStateno_kept : PySem.W.findIn K (.ref CTurnState) "kept" = some none)
    (qTurnStateno_blocked : PySem.W.findIn K (.ref CTurnState) "blocked" = some none)
    (qTurnStateno_stuck : PySem.W.findIn K (.ref CTurnState) "stuck" = some none)
    (qTurnStateno_pending : PySem.W.findIn K (.ref CTurnState) "pending" = some none)
    (qTurnStateno_quick : PySem.W.findIn K (.ref CTurnState) "quick" = some none)
    (qdesc : PySem.W.specialIn K (.builtin "object.__class__") "__get__" = some (some (.builtin "getset_descriptor.__get__")))
    (qtake : PySem.W.takesIn K (.builtin "object.__class__") = some true)
    (aPolicyinit : PySem.W.findIn K (.ref CPolicy) "__init__" = some (some (.ref fPolicyinit)))
    (lPolicyinit : K.lookup fPolicyinit = some ⟨ocPolicyinit, odPolicyinit, .func (PySem.W.fnOf "__init__" "Policy.__init__" (defArgs sPI) (defBody sPI) (defScope sPI) (.ref TDPolicyinit) (.ref DDPolicyinit) dcPolicyinit pmPolicyinit anPolicyinit cdPolicyinit ctPolicyinit), slPolicyinit⟩)
    (cPolicyinit : PySem.W.codeIn K cdPolicyinit "Policy.__init__" = true)
    (kPolicyinit : PySem.W.keepIn K (.ref fPolicyinit) = true)
    (qPolicyinitfn : PySem.W.isFn K (.ref fPolicyinit) = true)
    (dPolicyinit : K.lookup TDPolicyinit = some ⟨oTPolicyinit, odTPolicyinit, .seq #[.str "all" tDPolicyinit0] nTPolicyinit, slTPolicyinit⟩)
    (dkPolicyinitevery : PySem.W.nsIn K DDPolicyinit "every" = some (some (.int 2 tKPolicyinitevery)))
    (dkPolicyinitquick : PySem.W.nsIn K DDPolicyinit "quick" = some (some (.int 0 tKPolicyinitquick)))
    (aSettinginit : PySem.W.findIn K (.ref CSetting) "__init__" = some (some (.ref fSettinginit)))
    (lSettinginit : K.lookup fSettinginit = some ⟨ocSettinginit, odSettinginit, .func (PySem.W.fnOf "__init__" "Setting.__init__" (defArgs sSI) (defBody sSI) (defScope sSI) .none kVSettinginit dcSettinginit pmSettinginit anSettinginit cdSettinginit ctSettinginit), slSettinginit⟩)
    (cSettinginit : PySem.W.codeIn K cdSettinginit "Setting.__init__" = true)
    (kSettinginit : PySem.W.keepIn K (.ref fSettinginit) = true)
    (qSettinginitfn : PySem.W.isFn K (.ref fSettinginit) = true)
    (aStancesinit : PySem.W.findIn K (.ref CStances) "__init__" = some (some (.ref fStancesinit)))
    (lStancesinit : K.lookup fStancesinit = some ⟨ocStancesinit, odStancesinit, .func (PySem.W.fnOf "__init__" "Stances.__init__" (defArgs tIni) (defBody tIni) (defScope tIni) .none kVStancesinit dcStancesinit pmStancesinit anStancesinit cdStancesinit ctStancesinit), slStancesinit⟩)
    (cStancesinit : PySem.W.codeIn K cdStancesinit "Stances.__init__" = true)
    (kStancesinit : PySem.W.keepIn K (.ref fStancesinit) = true)
    (qStancesinitfn : PySem.W.isFn K (.ref fStancesinit) = true)
    (aStancesafter_write : PySem.W.findIn K (.ref CStances) "after_write" = some (some (.ref fStancesafter_write)))
    (lStancesafter_write : K.lookup fStancesafter_write = some ⟨ocStancesafter_write, odStancesafter_write, .func (PySem.W.fnOf "after_write" "Stances.after_write" (defArgs tAW) (defBody tAW) (defScope tAW) .none kVStancesafter_write dcStancesafter_write pmStancesafter_write anStancesafter_write cdStancesafter_write ctStancesafter_write), slStancesafter_write⟩)
    (cStancesafter_write : PySem.W.codeIn K cdStancesafter_write "Stances.after_write" = true)
    (kStancesafter_write : PySem.W.keepIn K (.ref fStancesafter_write) = true)
    (qStancesafter_writefn : PySem.W.isFn K (.ref fStancesafter_write) = true)
    (aStancesafter_clearing : PySem.W.findIn K (.ref CStances) "after_clearing" = some (some (.ref fStancesafter_clearing)))
    (lStancesafter_clearing : K.lookup fStancesafter_clearing = some ⟨ocStancesafter_clearing, odStancesafter_clearing, .func (PySem.W.fnOf "after_clearing" "Stances.after_clearing" (defArgs tAC) (defBody tAC) (defScope tAC) .none kVStancesafter_clearing dcStancesafter_clearing pmStancesafter_clearing anStancesafter_clearing cdStancesafter_clearing ctStancesafter_clearing), slStancesafter_clearing⟩)
    (cStancesafter_clearing : PySem.W.codeIn K cdStancesafter_clearing "Stances.after_clearing" = true)
    (kStancesafter_clearing : PySem.W.keepIn K (.ref fStancesafter_clearing) = true)
    (qStancesafter_clearingfn : PySem.W.isFn K (.ref fStancesafter_clearing) = true)
    (aStanceswrite : PySem.W.findIn K (.ref CStances) "_write" = some (some (.ref fStanceswrite)))
    (lStanceswrite : K.lookup fStanceswrite = some ⟨ocStanceswrite, odStanceswrite, .func (PySem.W.fnOf "_write" "Stances._write" (defArgs tWr) (defBody tWr) (defScope tWr) .none kVStanceswrite dcStanceswrite pmStanceswrite anStanceswrite cdStanceswrite ctStanceswrite), slStanceswrite⟩)
    (cStanceswrite : PySem.W.codeIn K cdStanceswrite "Stances._write" = true)
    (kStanceswrite : PySem.W.keepIn K (.ref fStanceswrite) = true)
    (qStanceswritefn : PySem.W.isFn K (.ref fStanceswrite) = true)
    (aStancesclear_way : PySem.W.findIn K (.ref CStances) "_clear_way" = some (some (.ref fStancesclear_way)))
    (lStancesclear_way : K.lookup fStancesclear_way = some ⟨ocStancesclear_way, odStancesclear_way, .func (PySem.W.fnOf "_clear_way" "Stances._clear_way" (defArgs tCl) (defBody tCl) (defScope tCl) .none kVStancesclear_way dcStancesclear_way pmStancesclear_way anStancesclear_way cdStancesclear_way ctStancesclear_way), slStancesclear_way⟩)
    (cStancesclear_way : PySem.W.codeIn K cdStancesclear_way "Stances._clear_way" = true)
    (kStancesclear_way : PySem.W.keepIn K (.ref fStancesclear_way) = true)
    (qStancesclear_wayfn : PySem.W.isFn K (.ref fStancesclear_way) = true)
    (aStancessend_rest : PySem.W.findIn K (.ref CStances) "_send_rest" = some (some (.ref fStancessend_rest)))
    (lStancessend_rest : K.lookup fStancessend_rest = some ⟨ocStancessend_rest, odStancessend_rest, .func (PySem.W.fnOf "_send_rest" "Stances._send_rest" (defArgs tRest) (defBody tRest) (defScope tRest) .none kVStancessend_rest dcStancessend_rest pmStancessend_rest anStancessend_rest cdStancessend_rest ctStancessend_rest), slStancessend_rest⟩)
    (cStancessend_rest : PySem.W.codeIn K cdStancessend_rest "Stances._send_rest" = true)
    (kStancessend_rest : PySem.W.keepIn K (.ref fStancessend_rest) = true)
    (qStancessend_restfn : PySem.W.isFn K (.ref fStancessend_rest) = true)
    (aStancesreceive_full : PySem.W.findIn K (.ref CStances) "_receive_full" = some (some (.ref fStancesreceive_full)))
    (lStancesreceive_full : K.lookup fStancesreceive_full = some ⟨ocStancesreceive_full, odStancesreceive_full, .func (PySem.W.fnOf "_receive_full" "Stances._receive_full" (defArgs tRecv) (defBody tRecv) (defScope tRecv) .none kVStancesreceive_full dcStancesreceive_full pmStancesreceive_full anStancesreceive_full cdStancesreceive_full ctStancesreceive_full), slStancesreceive_full⟩)
    (cStancesreceive_full : PySem.W.codeIn K cdStancesreceive_full "Stances._receive_full" = true)
    (kStancesreceive_full : PySem.W.keepIn K (.ref fStancesreceive_full) = true)
    (qStancesreceive_fullfn : PySem.W.isFn K (.ref fStancesreceive_full) = true)
    (aCourseinit : PySem.W.findIn K (.ref CCourse) "__init__" = some (some (.ref fCourseinit)))
    (lCourseinit : K.lookup fCourseinit = some ⟨ocCourseinit, odCourseinit, .func (PySem.W.fnOf "__init__" "Course.__init__" (defArgs cIni) (defBody cIni) (defScope cIni) .none kVCourseinit dcCourseinit pmCourseinit anCourseinit cdCourseinit ctCourseinit), slCourseinit⟩)
    (cCourseinit : PySem.W.codeIn K cdCourseinit "Course.__init__" = true)
    (kCourseinit : PySem.W.keepIn K (.ref fCourseinit) = true)
    (qCourseinitfn : PySem.W.isFn K (.ref fCourseinit) = true)
    (aCoursemake_write : PySem.W.findIn K (.ref CCourse) "make_write" = some (some (.ref fCoursemake_write)))
    (lCoursemake_write : K.lookup fCoursemake_write = some ⟨ocCoursemake_write, odCoursemake_write, .func (PySem.W.fnOf "make_write" "Course.make_write" (defArgs cWr) (defBody cWr) (defScope cWr) .none kVCoursemake_write dcCoursemake_write pmCoursemake_write anCoursemake_write cdCoursemake_write ctCoursemake_write), slCoursemake_write⟩)
    (cCoursemake_write : PySem.W.codeIn K cdCoursemake_write "Course.make_write" = true)
    (kCoursemake_write : PySem.W.keepIn K (.ref fCoursemake_write) = true)
    (qCoursemake_writefn : PySem.W.isFn K (.ref fCoursemake_write) = true)
    (aCoursemake_clearing : PySem.W.findIn K (.ref CCourse) "make_clearing" = some (some (.ref fCoursemake_clearing)))
    (lCoursemake_clearing : K.lookup fCoursemake_clearing = some ⟨ocCoursemake_clearing, odCoursemake_clearing, .func (PySem.W.fnOf "make_clearing" "Course.make_clearing" (defArgs cCl) (defBody cCl) (defScope cCl) .none kVCoursemake_clearing dcCoursemake_clearing pmCoursemake_clearing anCoursemake_clearing cdCoursemake_clearing ctCoursemake_clearing), slCoursemake_clearing⟩)
    (cCoursemake_clearing : PySem.W.codeIn K cdCoursemake_clearing "Course.make_clearing" = true)
    (kCoursemake_clearing : PySem.W.keepIn K (.ref fCoursemake_clearing) = true)
    (qCoursemake_clearingfn : PySem.W.isFn K (.ref fCoursemake_clearing) = true)
    (aCoursetake : PySem.W.findIn K (.ref CCourse) "_take" = some (some (.ref fCoursetake)))
    (lCoursetake : K.lookup fCoursetake = some ⟨ocCoursetake, odCoursetake, .func (PySem.W.fnOf "_take" "Course._take" (defArgs cTake) (defBody cTake) (defScope cTake) .none kVCoursetake dcCoursetake pmCoursetake anCoursetake cdCoursetake ctCoursetake), slCoursetake⟩)
    (cCoursetake : PySem.W.codeIn K cdCoursetake "Course._take" = true)
    (kCoursetake : PySem.W.keepIn K (.ref fCoursetake) = true)
    (qCoursetakefn : PySem.W.isFn K (.ref fCoursetake) = true)
    (aTurnStateeq : PySem.W.findIn K (.ref CTurnState) "__eq__" = some (some (.ref fTurnStateeq)))
    (lTurnStateeq : K.lookup fTurnStateeq = some ⟨ocTurnStateeq, odTurnStateeq, .func (PySem.W.fnOf "__eq__" "TurnState.__eq__" (defArgs zEq) (defBody zEq) (defScope zEq) .none kVTurnStateeq dcTurnStateeq pmTurnStateeq anTurnStateeq cdTurnStateeq ctTurnStateeq), slTurnStateeq⟩)
    (cTurnStateeq : PySem.W.codeIn K cdTurnStateeq "TurnState.__eq__" = true)
    (kTurnStateeq : PySem.W.keepIn K (.ref fTurnStateeq) = true)
    (qTurnStateeqfn : PySem.W.isFn K (.ref fTurnStateeq) = true)
    (a_zi : PySem.W.findIn K (.ref CTurnState) "__init__" = some (some (.ref fzi)))
    (l_zi : K.lookup fzi = some ⟨oczi, odzi, .func (PySem.W.fnOf "__init__" "TurnState.__init__" (defArgs zIni) (defBody zIni) (defScope zIni) (.ref TDzi) kVzi dczi pmzi anzi cdzi ctzi), slzi⟩)
    (c_zi : PySem.W.codeIn K cdzi "TurnState.__init__" = true)
    (k_zi : PySem.W.keepIn K (.ref fzi) = true)
    (f_zi : PySem.W.isFn K (.ref fzi) = true)
    (d_zi : K.lookup TDzi = some ⟨oTzi, odTzi, .seq #[.int 0 tz0, .bool false, .bool false, .bool false, .int 0 tz1, .int 0 tz2] nTzi, slTzi⟩)
    (a_wt : PySem.W.nsIn K mainGlobals "written" = some (some (.ref fwt)))
    (l_wt : K.lookup fwt = some ⟨ocwt, odwt, .func (PySem.W.fnOf "written" "written" (defArgs sWritten) (defBody sWritten) (defScope sWritten) (.ref TDwt) kVwt dcwt pmwt anwt cdwt ctwt), slwt⟩)
    (c_wt : PySem.W.codeIn K cdwt "written" = true)
    (k_wt : PySem.W.keepIn K (.ref fwt) = true)
    (d_wt : K.lookup TDwt = some ⟨oTwt, odTwt, .seq #[.str "plain" tw0] nTwt, slTwt⟩)
    (zisinstance : PySem.W.nsIn K mainGlobals "isinstance" = some none)
    (zint : PySem.W.nsIn K mainGlobals "int" = some none)
    (zbool : PySem.W.nsIn K mainGlobals "bool" = some none)
    (ztuple : PySem.W.nsIn K mainGlobals "tuple" = some none)
    (zlen : PySem.W.nsIn K mainGlobals "len" = some none)
    (zrange : PySem.W.nsIn K mainGlobals "range" = some none)
    (zstr : PySem.W.nsIn K mainGlobals "str" = some none)
    (zrepr : PySem.W.nsIn K mainGlobals "repr" = some none)
    (zall : PySem.W.nsIn K mainGlobals "all" = some none)
    (zmax : PySem.W.nsIn K mainGlobals "max" = some none)
    (zmin : PySem.W.nsIn K mainGlobals "min" = some none)
    (zabs : PySem.W.nsIn K mainGlobals "abs" = some none)
    (zdivmod : PySem.W.nsIn K mainGlobals "divmod" = some none)
    (iMOST_SIZE : PySem.W.nsIn K mainGlobals "MOST_SIZE" = some (some (.int 1000000000000000000 tMOST_SIZE)))
    (iMOST_EVERY : PySem.W.nsIn K mainGlobals "MOST_EVERY" = some (some (.int 9 tMOST_EVERY)))
    (iMOST_QUICK : PySem.W.nsIn K mainGlobals "MOST_QUICK" = some (some (.int 4 tMOST_QUICK))) :
    ∃ fd : FuncData, (∀ (s : Shared) (v : Value), BindsTo s fd ⟨[v], []⟩ [("_law_script", v)]) ∧ ∀ base : Heap, K.In base → base.Ns mainGlobals mg → FnOk P w K mg base CX0 9 fa fd ["_law_script"] (spLaw K) := by
  have ef := hfa.symm.trans (PySem.W.mg_of X G a15)
  cases ef
  have F1 := fun_mk (st := sBetw) l1 c1 k1
  have b1 := F1.binds (ps := ["value", "low", "high"]) fun _ _ _ _ _ _ us hl => match us, hl with | [_, _, _], _ => rfl
  have g1 := PySem.W.mg_of X G a1
  have F2 := fun_mk (st := sCkS) l2 c2 k2
  have b2 := F2.binds (ps := ["size"]) fun _ _ _ _ _ _ us hl => match us, hl with | [_], _ => rfl
  have g2 := PySem.W.mg_of X G a2
  have F3 := fun_mk (st := sPair) l3 c3 k3
  have b3 := F3.binds (ps := ["policies"]) fun _ _ _ _ _ _ us hl => match us, hl with | [_], _ => rfl
  have g3 := PySem.W.mg_of X G a3
  have F4 := fun_mk (st := sCF) l4 c4 k4
  have b4 := F4.binds (ps := ["setting", "speaker", "state"]) fun _ _ _ _ _ _ us hl => match us, hl with | [_, _, _], _ => rfl
  have g4 := PySem.W.mg_of X G a4
  have F5 := fun_mk (st := sSO) l5 c5 k5
  have b5 := F5.binds (ps := ["course"]) fun _ _ _ _ _ _ us hl => match us, hl with | [_], _ => rfl
  have g5 := PySem.W.mg_of X G a5
  have F6 := fun_mk (st := sCleared) l6 c6 k6
  have b6 := F6.binds (ps := ["setting", "speaker", "state"]) fun _ _ _ _ _ _ us hl => match us, hl with | [_, _, _], _ => rfl
  have g6 := PySem.W.mg_of X G a6
  have F7 := fun_mk (st := sBag) l7 c7 k7
  have b7 := F7.binds (ps := ["_law_script", "_law_at"]) fun _ _ _ _ _ _ us hl => match us, hl with | [_, _], _ => rfl
  have g7 := PySem.W.mg_of X G a7
  have F8 := fun_mk (st := sTake) l8 c8 k8
  have b8 := F8.binds (ps := ["_law_bag_here", "_law_many"]) fun _ _ _ _ _ _ us hl => match us, hl with | [_, _], _ => rfl
  have g8 := PySem.W.mg_of X G a8
  have F9 := fun_mk (st := sSetg) l9 c9 k9
  have b9 := F9.binds (ps := ["_law_width", "_law_rules"]) fun _ _ _ _ _ _ us hl => match us, hl with | [_, _], _ => rfl
  have g9 := PySem.W.mg_of X G a9
  have F10 := fun_mk (st := sVals) l10 c10 k10
  have b10 := F10.binds (ps := ["_law_bag_here", "_law_width"]) fun _ _ _ _ _ _ us hl => match us, hl with | [_, _], _ => rfl
  have g10 := PySem.W.mg_of X G a10
  have F11 := fun_mk (st := sSent) l11 c11 k11
  have b11 := F11.binds (ps := ["_law_fulls", "_law_soon", "_law_behind", "_law_some"]) fun _ _ _ _ _ _ us hl => match us, hl with | [_, _, _, _], _ => rfl
  have g11 := PySem.W.mg_of X G a11
  have F12 := fun_mk (st := sFirst) l12 c12 k12
  have b12 := F12.binds (ps := ["_law_width", "_law_mine", "_law_other", "_law_length"]) fun _ _ _ _ _ _ us hl => match us, hl with | [_, _, _, _], _ => rfl
  have g12 := PySem.W.mg_of X G a12
  have F13 := fun_mk (st := sTell) l13 c13 k13
  have b13 := F13.binds (ps := ["_law_state"]) fun _ _ _ _ _ _ us hl => match us, hl with | [_], _ => rfl
  have g13 := PySem.W.mg_of X G a13
  have F14 := fun_mk (st := sSecond) l14 c14 k14
  have b14 := F14.binds (ps := ["_law_width", "_law_other", "_law_state", "_law_length"]) fun _ _ _ _ _ _ us hl => match us, hl with | [_, _, _, _], _ => rfl
  have g14 := PySem.W.mg_of X G a14
  have F15 := fun_mk (st := sLaw) l15 c15 k15
  have b15 := F15.binds (ps := ["_law_script"]) fun _ _ _ _ _ _ us hl => match us, hl with | [_], _ => rfl
  have g15 := PySem.W.mg_of X G a15
  have F16 := fun_mk (st := sIsInt) l16 c16 k16
  have b16 := F16.binds (ps := ["value"]) fun _ _ _ _ _ _ us hl => match us, hl with | [_], _ => rfl
  have g16 := PySem.W.mg_of X G a16
  have FBadSetting := fun_mk (st := sIniB) lBadSetting cBadSetting kBadSetting
  have bBadSetting := FBadSetting.binds (ps := ["self", "name"]) fun _ _ _ _ _ _ us hl => match us, hl with | [_, _], _ => rfl
  have OBadSetting : OexC K CBadSetting := ⟨⟨nmBadSetting, qBadSetting, NBadSetting, bsBadSetting, _, snBadSetting, subBadSetting, abBadSetting, colBadSetting, ddBadSetting, m0BadSetting, m1BadSetting, m2BadSetting, m3BadSetting, m5BadSetting, xBadSetting, by first | rfl | decide +kernel⟩, sBadSetting, eBadSetting, yBadSetting, pBadSetting⟩
  have FPolicyinit : FunD K "__init__" "Policy.__init__" (defArgs sPI) (defBody sPI) (defScope sPI) [.str "all"] [("every", .int 2), ("quick", .int 0)] fPolicyinit _ := ⟨⟨ocPolicyinit, odPolicyinit, .ref TDPolicyinit, .ref DDPolicyinit, dcPolicyinit, pmPolicyinit, anPolicyinit, cdPolicyinit, ctPolicyinit, slPolicyinit, rfl, lPolicyinit, cPolicyinit, Or.inr ⟨by simp, TDPolicyinit, _, _, _, rfl, dPolicyinit, rfl, .cons ⟨_, rfl⟩ (.nil)⟩, Or.inr ⟨DDPolicyinit, rfl, List.forall_mem_cons.mpr ⟨⟨_, dkPolicyinitevery, ⟨_, rfl⟩⟩, List.forall_mem_cons.mpr ⟨⟨_, dkPolicyinitquick, ⟨_, rfl⟩⟩, fun _ h => nomatch h⟩⟩⟩⟩, kPolicyinit⟩
  have FStancesinit := fun_mk (st := tIni) lStancesinit cStancesinit kStancesinit
  have bStancesinit := FStancesinit.binds (ps := ["self", "setting", "speaker"]) fun _ _ _ _ _ _ us hl => match us, hl with | [_, _, _], _ => rfl
  have FStancesafter_write := fun_mk (st := tAW) lStancesafter_write cStancesafter_write kStancesafter_write
  have bStancesafter_write := FStancesafter_write.binds (ps := ["self", "stance", "full", "has_rest", "mode"]) fun _ _ _ _ _ _ us hl => match us, hl with | [_, _, _, _, _], _ => rfl
  have FStancesafter_clearing := fun_mk (st := tAC) lStancesafter_clearing cStancesafter_clearing kStancesafter_clearing
  have bStancesafter_clearing := FStancesafter_clearing.binds (ps := ["self", "stance", "has_rest"]) fun _ _ _ _ _ _ us hl => match us, hl with | [_, _, _], _ => rfl
  have FStanceswrite := fun_mk (st := tWr) lStanceswrite cStanceswrite kStanceswrite
  have bStanceswrite := FStanceswrite.binds (ps := ["self", "stance", "full", "has_rest", "mode"]) fun _ _ _ _ _ _ us hl => match us, hl with | [_, _, _, _, _], _ => rfl
  have FStancesclear_way := fun_mk (st := tCl) lStancesclear_way cStancesclear_way kStancesclear_way
  have bStancesclear_way := FStancesclear_way.binds (ps := ["self", "stance", "has_rest"]) fun _ _ _ _ _ _ us hl => match us, hl with | [_, _, _], _ => rfl
  have FStancessend_rest := fun_mk (st := tRest) lStancessend_rest cStancessend_rest kStancessend_rest
  have bStancessend_rest := FStancessend_rest.binds (ps := ["self", "pending", "quick", "acknowledgments"]) fun _ _ _ _ _ _ us hl => match us, hl with | [_, _, _, _], _ => rfl
  have FStancesreceive_full := fun_mk (st := tRecv) lStancesreceive_full cStancesreceive_full kStancesreceive_full
  have bStancesreceive_full := FStancesreceive_full.binds (ps := ["self", "full", "pending", "quick"]) fun _ _ _ _ _ _ us hl => match us, hl with | [_, _, _, _], _ => rfl
  have FCourseinit := fun_mk (st := cIni) lCourseinit cCourseinit kCourseinit
  have bCourseinit := FCourseinit.binds (ps := ["self", "setting", "speaker", "rest", "stance"]) fun _ _ _ _ _ _ us hl => match us, hl with | [_, _, _, _, _], _ => rfl
  have FCoursemake_write := fun_mk (st := cWr) lCoursemake_write cCoursemake_write kCoursemake_write
  have bCoursemake_write := FCoursemake_write.binds (ps := ["self", "length", "mode"]) fun _ _ _ _ _ _ us hl => match us, hl with | [_, _, _], _ => rfl
  have FCoursemake_clearing := fun_mk (st := cCl) lCoursemake_clearing cCoursemake_clearing kCoursemake_clearing
  have bCoursemake_clearing := FCoursemake_clearing.binds (ps := ["self"]) fun _ _ _ _ _ _ us hl => match us, hl with | [_], _ => rfl
  have FCoursetake := fun_mk (st := cTake) lCoursetake cCoursetake kCoursetake
  have bCoursetake := FCoursetake.binds (ps := ["self", "step"]) fun _ _ _ _ _ _ us hl => match us, hl with | [_, _], _ => rfl
  have FTurnStateeq := fun_mk (st := zEq) lTurnStateeq cTurnStateeq kTurnStateeq
  have bTurnStateeq := FTurnStateeq.binds (ps := ["self", "other"]) fun _ _ _ _ _ _ us hl => match us, hl with | [_, _], _ => rfl
  have T : Txt K mg := { isi := PySem.W.mg_none_of X G zisinstance, isint := ⟨_, _, F16, b16, g16⟩, int := PySem.W.mg_none_of X G zint, bool := PySem.W.mg_none_of X G zbool, tuple := PySem.W.mg_none_of X G ztuple, len := PySem.W.mg_none_of X G zlen, range := PySem.W.mg_none_of X G zrange, str := PySem.W.mg_none_of X G zstr, repr := PySem.W.mg_none_of X G zrepr, all := PySem.W.mg_none_of X G zall, max := PySem.W.mg_none_of X G zmax, min := PySem.W.mg_none_of X G zmin, abs := PySem.W.mg_none_of X G zabs }
  have hD := PySem.W.mg_none_of X G zdivmod
  have TP : Pol K mg CPolicy := { hm := PySem.W.mg_of X G gPolicy, k := ⟨⟨qPolicypg, qPolicyhd, qPolicypo, qPolicysa⟩, qPolicyca, qdesc, qtake, qPolicymo⟩, nh := qPolicyno_hold, ne := qPolicyno_every, nq := qPolicyno_quick, hold := ⟨_, aPolicyHOLDS, ⟨qPolicyrd, qPolicyga⟩, ⟨uPolicyHOLDS, rfl⟩, fun H => Or.inr ⟨_, _, _, vPolicyHOLDS, rfl, rfl, by show 3 ≤ sizeLine; decide, .cons ⟨_, rfl⟩ (.cons ⟨_, rfl⟩ (.cons ⟨_, rfl⟩ .nil))⟩⟩ }
  have TS : Stg K mg CSetting := { hm := PySem.W.mg_of X G gSetting, k := ⟨⟨qSettingpg, qSettinghd, qSettingpo, qSettingsa⟩, qSettingca, qdesc, qtake, qSettingmo⟩, ns := qSettingno_size, np := qSettingno_policies }
  have TC : Tcs K mg CStances := { hm := PySem.W.mg_of X G gStances, k := ⟨⟨qStancespg, qStanceshd, qStancespo, qStancessa⟩, qStancesca, qdesc, qtake, qStancesmo⟩, nh := qStancesno__hold, ne := qStancesno__every, nw := qStancesno__known_writes, nc := qStancesno__known_clearings }
  have TK : Ccs K mg CCourse := { hm := PySem.W.mg_of X G gCourse, k := ⟨⟨qCoursepg, qCoursehd, qCoursepo, qCoursesa⟩, qCourseca, qdesc, qtake, qCoursemo⟩, nz := qCourseno__size, nt := qCourseno__stances, nr := qCourseno_rest, ns := qCourseno_stance, ng := qCourseno_segments, nk := qCourseno_acknowledgments }
  have zno : ∀ f ∈ zNs, NoAttr K CTurnState f := fun f hf => by
    simp only [zNs, List.mem_cons, List.not_mem_nil, or_false] at hf
    rcases hf with rfl | rfl | rfl | rfl | rfl | rfl
    · exact qTurnStateno_rest
    · exact qTurnStateno_kept
    · exact qTurnStateno_blocked
    · exact qTurnStateno_stuck
    · exact qTurnStateno_pending
    · exact qTurnStateno_quick
  have TZ : Tst K mg CTurnState := { hm := PySem.W.mg_of X G gTurnState, k := ⟨⟨qTurnStatepg, qTurnStatehd, qTurnStatepo, qTurnStatesa⟩, qTurnStateca, qdesc, qtake, qTurnStatemo⟩, no := zno }
  have gB := PySem.W.mg_of X G gBadSetting
  have MP : Mk K CPolicy fPolicyinit := ⟨qPolicymk, aPolicyinit, qPolicyinitfn, qPolicykp⟩
  have MS : Mk K CSetting fSettinginit := ⟨qSettingmk, aSettinginit, qSettinginitfn, qSettingkp⟩
  have MT : Mk K CStances fStancesinit := ⟨qStancesmk, aStancesinit, qStancesinitfn, qStanceskp⟩
  have MC : Mk K CCourse fCourseinit := ⟨qCoursemk, aCourseinit, qCourseinitfn, qCoursekp⟩
  have MZ : Mk K CTurnState fzi := ⟨qTurnStatemk, a_zi, f_zi, qTurnStatekp⟩
  have FZ : FunD K "__init__" "TurnState.__init__" (defArgs zIni) (defBody zIni) (defScope zIni) zDf [] fzi _ := ⟨⟨oczi, odzi, .ref TDzi, kVzi, dczi, pmzi, anzi, cdzi, ctzi, slzi, rfl, l_zi, c_zi, Or.inr ⟨by simp, TDzi, _, _, _, rfl, d_zi, rfl, .cons ⟨_, rfl⟩ (.cons rfl (.cons rfl (.cons rfl (.cons ⟨_, rfl⟩ (.cons ⟨_, rfl⟩ .nil)))))⟩, Or.inl rfl⟩, k_zi⟩
  have FW : FunD K "written" "written" (defArgs sWritten) (defBody sWritten) (defScope sWritten) [.str "plain"] [] fwt _ := ⟨⟨ocwt, odwt, .ref TDwt, kVwt, dcwt, pmwt, anwt, cdwt, ctwt, slwt, rfl, l_wt, c_wt, Or.inr ⟨by simp, TDwt, _, _, _, rfl, d_wt, rfl, .cons ⟨_, rfl⟩ .nil⟩, Or.inl rfl⟩, k_wt⟩
  have gW := PySem.W.mg_of X G a_wt
  have hE : ∃ t, mg "MOST_EVERY" = some (.int 9 t) := ⟨_, PySem.W.mg_of X G iMOST_EVERY⟩
  have hQ : ∃ t, mg "MOST_QUICK" = some (.int 4 t) := ⟨_, PySem.W.mg_of X G iMOST_QUICK⟩
  have hS : ∃ t, mg "MOST_SIZE" = some (.int 1000000000000000000 t) := ⟨_, PySem.W.mg_of X G iMOST_SIZE⟩
  refine ⟨PySem.W.fnOf "law" "law" (defArgs sLaw) (defBody sLaw) (defScope sLaw) .none kV15 dc15 pm15 an15 cd15 ct15, fun s v => .of_eq rfl, fun base _ _ => ?_⟩
  have TB : ErC P w K mg base "BadSetting" "name" CBadSetting fBadSetting _ := ⟨OBadSetting, gB, aBadSetting, tBadSetting, nBadSetting, ok_iniB FBadSetting, bBadSetting⟩
  have G1 : FnOk P w K mg base CX0 1 f1 _ ["value", "low", "high"] (spBetw K) := ok_betw F1 T
  have G2 : FnOk P w K mg base (L2.CX P w) 3 f2 _ ["size"] (spCkS K CBadSetting) := ok_ckS F2 T hS TB F1 b1 g1 G1
  have G2v : FnOk P w K mg base (L2.CX P w) 3 f2 _ ["size"] spCkSv := fn_imp G2 ck_v
  have GI : FnOk P w K mg base (L2.CX P w) 3 fPolicyinit _ PIps (spPI K CPolicy CBadSetting) := ok_PI FPolicyinit TP hE hQ TB F1 b1 g1 G1
  have GIv : FnOk P w K mg base (L2.CX P w) 3 fPolicyinit _ PIps (spPIv CPolicy) := fn_imp GI pi_v
  have G3 : FnOk P w K mg base CX0 5 f3 _ ["policies"] (spPair K CPolicy) := ok_pair F3 T TP MP FPolicyinit GIv
  have GJ := ok_SI (P := P) (w := w) (base := base) (CS := CSetting) lSettinginit cSettinginit T TB TP TS F2 b2 g2 G2v F3 b3 g3 G3
  have HR : FnOk P w K mg base CX0 1 fStancessend_rest _ rsPs (spRest K CStances) := ok_rest FStancessend_rest T TC
  have HV : FnOk P w K mg base CX0 1 fStancesreceive_full _ rcPs (spRecv CStances) := ok_recv FStancesreceive_full T hD TC
  have HW : FnOk P w K mg base CX0 2 fStanceswrite _ wrPs (spWrW K CStances) := ok_wrw FStanceswrite T TC ⟨aStancessend_rest, qStancessend_restfn, kStancessend_rest⟩ bStancessend_rest HR ⟨aStancesreceive_full, qStancesreceive_fullfn, kStancesreceive_full⟩ bStancesreceive_full HV
  have HC : FnOk P w K mg base CX0 2 fStancesclear_way _ clPs (spClW K CStances) := ok_clw FStancesclear_way T TC ⟨aStancessend_rest, qStancessend_restfn, kStancessend_rest⟩ bStancessend_rest HR
  have HAW : FnOk P w K mg base CX0 3 fStancesafter_write _ wrPs (spAW P w K CStances) := ok_aw FStancesafter_write TC ⟨aStanceswrite, qStanceswritefn, kStanceswrite⟩ bStanceswrite HW
  have HAC : FnOk P w K mg base CX0 3 fStancesafter_clearing _ clPs (spAC P w K CStances) := ok_ac FStancesafter_clearing TC ⟨aStancesclear_way, qStancesclear_wayfn, kStancesclear_way⟩ bStancesclear_way HC
  have HTI : FnOk P w K mg base CX0 1 fStancesinit _ tiPs (spTIni P w K CStances CSetting CPolicy) := ok_tini FStancesinit TC TS TP
  have HTK : FnOk P w K mg base CX0 1 fCoursetake _ ["self", "step"] (spCTake K CCourse) := ok_ctake FCoursetake TK
  have HMW : FnOk P w K mg base CX0 4 fCoursemake_write _ ["self", "length", "mode"] (spMW P w K CCourse CStances) := ok_mw FCoursemake_write hD TK TC ⟨aCoursetake, qCoursetakefn, kCoursetake⟩ bCoursetake HTK ⟨aStancesafter_write, qStancesafter_writefn, kStancesafter_write⟩ bStancesafter_write HAW
  have HMC : FnOk P w K mg base CX0 4 fCoursemake_clearing _ ["self"] (spMC P w K CCourse CStances) := ok_mc FCoursemake_clearing TK TC ⟨aCoursetake, qCoursetakefn, kCoursetake⟩ bCoursetake HTK ⟨aStancesafter_clearing, qStancesafter_clearingfn, kStancesafter_clearing⟩ bStancesafter_clearing HAC
  have HCI : FnOk P w K mg base CX0 3 fCourseinit _ ciPs (spCIni P w K CCourse CStances CSetting CPolicy) := ok_cini FCourseinit TK TC TS MT bStancesinit HTI
  have HZI : FnOk P w K mg base CX0 1 fzi _ ziPs (spZIni CTurnState) := ok_zini FZ TZ
  have HZE : FnOk P w K mg base CX0 1 fTurnStateeq _ ["self", "other"] (spZEq CTurnState) := ok_zeq FTurnStateeq T TZ
  have G4 : FnOk P w K mg base CX0 5 f4 _ ["setting", "speaker", "state"] (spCF P w K CCourse CStances CTurnState CSetting CPolicy) := ok_cf F4 TK TZ MC bCourseinit HCI
  have G5 : FnOk P w K mg base CX0 3 f5 _ ["course"] (spSO K CCourse CStances CTurnState) := ok_so F5 TK TZ MZ (bZ FZ) HZI
  have GW : FnOk P w K mg base CX0 6 fwt _ wtPs (spWt K CTurnState CSetting CPolicy) := ok_wt FW TK F4 b4 g4 G4 F5 b5 g5 G5 ⟨aCoursemake_write, qCoursemake_writefn, kCoursemake_write⟩ bCoursemake_write HMW
  have G6 : FnOk P w K mg base CX0 6 f6 _ cdPs (spCd K CTurnState CSetting CPolicy) := ok_cd F6 TK F4 b4 g4 G4 F5 b5 g5 G5 ⟨aCoursemake_clearing, qCoursemake_clearingfn, kCoursemake_clearing⟩ bCoursemake_clearing HMC
  have G7 : FnOk P w K mg base CX0 1 f7 _ ["_law_script", "_law_at"] (spBag K) := ok_bag F7 T T.abs
  have G8 : FnOk P w K mg base CX0 1 f8 _ ["_law_bag_here", "_law_many"] spTake := ok_take F8 T
  have G9 : FnOk P w K mg base CX0 8 f9 _ stgPs (spSetg K CSetting CPolicy) := ok_setg F9 TP MP FPolicyinit GIv TS MS GJ
  have G10 : FnOk P w K mg base CX0 2 f10 _ vlPs spVals := ok_vals F10 T F8 b8 g8 G8
  have G11 : FnOk P w K mg base CX0 1 f11 _ snPs spSent := ok_sent F11 T
  have G12 : FnOk P w K mg base CX0 2 f12 _ fdPs (spFirst K) := ok_first F12 T F11 b11 g11 G11
  have G13 : FnOk P w K mg base CX0 1 f13 _ ["_law_state"] (spTell K CTurnState) := ok_tell F13 TZ
  have G14 : FnOk P w K mg base CX0 2 f14 _ sdPs (spSecond K CTurnState) := ok_second F14 T TZ F11 b11 g11 G11
  exact ok_law F15 T ⟨F7, b7, g7, G7⟩ ⟨F8, b8, g8, G8⟩ ⟨F10, b10, g10, G10⟩ ⟨F9, b9, g9, G9⟩ ⟨F12, b12, g12, G12⟩ ⟨F14, b14, g14, G14⟩ ⟨F13, b13, g13, G13⟩ ⟨F6, b6, g6, G6⟩ TZ MZ FZ HZI FW gW GW ⟨aTurnStateeq, qTurnStateeqfn⟩ qTurnStatene bTurnStateeq HZE
def walk := @walkG
end Lw
open PySem PySem.W PyProof.Rows
set_option maxRecDepth 100000 in
set_option maxHeartbeats 0 in
theorem PySem.Challenge.cw_latewords_k08_states_of_great_lengths_holds : PySem.Challenge.rw_latewords_k08_states_of_great_lengths.Holds := by
  w_on; o_law; k_head; (case hw => w_witness2)
  k_fill
  refine L2.walk_of (l := PySem.Challenge.rw_latewords_k08_states_of_great_lengths) (n := 63) (k := 9) (x := "_law_script") (CX := fun _ _ _ _ _ _ _ => False) (sp := fun w => Lw.spLaw _) rfl (by decide) rfl ⟨rfl, by decide, by decide⟩ (fun w h Y => PySem.W.kIn_of Y) ?F (fun _ _ a ns hl _ hS => ⟨a, ns, rfl, hS, hl, fun _ => rfl⟩) (fun _ _ _ _ _ z => z)
  case F =>
    intro w mg fa h KX G hmg
    refine' Lw.all_mk KX G hmg ?a1 ?l1 ?c1 ?k1 ?a2 ?l2 ?c2 ?k2 ?a3 ?l3 ?c3 ?k3 ?a4 ?l4 ?c4 ?k4 ?a5 ?l5 ?c5 ?k5 ?a6 ?l6 ?c6 ?k6 ?a7 ?l7 ?c7 ?k7 ?a8 ?l8 ?c8 ?k8 ?a9 ?l9 ?c9 ?k9 ?a10 ?l10 ?c10 ?k10 ?a11 ?l11 ?c11 ?k11 ?a12 ?l12 ?c12 ?k12 ?a13 ?l13 ?c13 ?k13 ?a14 ?l14 ?c14 ?k14 ?a15 ?l15 ?c15 ?k15 ?a16 ?l16 ?c16 ?k16 ?gBadSetting ?aBadSetting ?lBadSetting ?cBadSetting ?kBadSetting ?xBadSetting ?sBadSetting ?eBadSetting ?yBadSetting ?pBadSetting ?tBadSetting ?nBadSetting ?hBadSetting ?gPolicy ?qPolicypg ?qPolicyhd ?qPolicypo ?qPolicysa ?qPolicyca ?qPolicymo ?qPolicymk ?qPolicykp ?qPolicyne ?qPolicyfm ?qPolicyno_hold ?qPolicyno_every ?qPolicyno_quick ?qPolicyrd ?qPolicyga ?uPolicyHOLDS ?vPolicyHOLDS ?gSetting ?qSettingpg ?qSettinghd ?qSettingpo ?qSettingsa ?qSettingca ?qSettingmo ?qSettingmk ?qSettingkp ?qSettingne ?qSettingfm ?qSettingno_size ?qSettingno_policies ?gStances ?qStancespg ?qStanceshd ?qStancespo ?qStancessa ?qStancesca ?qStancesmo ?qStancesmk ?qStanceskp ?qStancesne ?qStancesfm ?qStancesno__hold ?qStancesno__every ?qStancesno__known_writes ?qStancesno__known_clearings ?gCourse ?qCoursepg ?qCoursehd ?qCoursepo ?qCoursesa ?qCourseca ?qCoursemo ?qCoursemk ?qCoursekp ?qCoursene ?qCoursefm ?qCourseno__size ?qCourseno__stances ?qCourseno_rest ?qCourseno_stance ?qCourseno_segments ?qCourseno_acknowledgments ?gTurnState ?qTurnStatepg ?qTurnStatehd ?qTurnStatepo ?qTurnStatesa ?qTurnStateca ?qTurnStatemo ?qTurnStatemk ?qTurnStatekp ?qTurnStatene ?qTurnStatefm ?qTurnStateno_rest ?qTurnStateno_kept ?qTurnStateno_blocked ?qTurnStateno_stuck ?qTurnStateno_pending ?qTurnStateno_quick ?qdesc ?qtake ?aPolicyinit ?lPolicyinit ?cPolicyinit ?kPolicyinit ?qPolicyinitfn ?dPolicyinit ?dkPolicyinitevery ?dkPolicyinitquick ?aSettinginit ?lSettinginit ?cSettinginit ?kSettinginit ?qSettinginitfn ?aStancesinit ?lStancesinit ?cStancesinit ?kStancesinit ?qStancesinitfn ?aStancesafter_write ?lStancesafter_write ?cStancesafter_write ?kStancesafter_write ?qStancesafter_writefn ?aStancesafter_clearing ?lStancesafter_clearing ?cStancesafter_clearing ?kStancesafter_clearing ?qStancesafter_clearingfn ?aStanceswrite ?lStanceswrite ?cStanceswrite ?kStanceswrite ?qStanceswritefn ?aStancesclear_way ?lStancesclear_way ?cStancesclear_way ?kStancesclear_way ?qStancesclear_wayfn ?aStancessend_rest ?lStancessend_rest ?cStancessend_rest ?kStancessend_rest ?qStancessend_restfn ?aStancesreceive_full ?lStancesreceive_full ?cStancesreceive_full ?kStancesreceive_full ?qStancesreceive_fullfn ?aCourseinit ?lCourseinit ?cCourseinit ?kCourseinit ?qCourseinitfn ?aCoursemake_write ?lCoursemake_write ?cCoursemake_write ?kCoursemake_write ?qCoursemake_writefn ?aCoursemake_clearing ?lCoursemake_clearing ?cCoursemake_clearing ?kCoursemake_clearing ?qCoursemake_clearingfn ?aCoursetake ?lCoursetake ?cCoursetake ?kCoursetake ?qCoursetakefn ?aTurnStateeq ?lTurnStateeq ?cTurnStateeq ?kTurnStateeq ?qTurnStateeqfn ?a_zi ?l_zi ?c_zi ?k_zi ?f_zi ?d_zi ?a_wt ?l_wt ?c_wt ?k_wt ?d_wt ?zisinstance ?zint ?zbool ?ztuple ?zlen ?zrange ?zstr ?zrepr ?zall ?zmax ?zmin ?zabs ?zdivmod ?iMOST_SIZE ?iMOST_EVERY ?iMOST_QUICK
    (case a1 => k_is)
    (case l1 => k_is)
    (case c1 => k_is)
    (case k1 => k_is)
    (case a2 => k_is)
    (case l2 => k_is)
    (case c2 => k_is)
    (case k2 => k_is)
    (case a3 => k_is)
    (case l3 => k_is)
    (case c3 => k_is)
    (case k3 => k_is)
    (case a4 => k_is)
    (case l4 => k_is)
    (case c4 => k_is)
    (case k4 => k_is)
    (case a5 => k_is)
    (case l5 => k_is)
    (case c5 => k_is)
    (case k5 => k_is)
    (case a6 => k_is)
    (case l6 => k_is)
    (case c6 => k_is)
    (case k6 => k_is)
    (case a7 => k_is)
    (case l7 => k_is)
    (case c7 => k_is)
    (case k7 => k_is)
    (case a8 => k_is)
    (case l8 => k_is)
    (case c8 => k_is)
    (case k8 => k_is)
    (case a9 => k_is)
    (case l9 => k_is)
    (case c9 => k_is)
    (case k9 => k_is)
    (case a10 => k_is)
    (case l10 => k_is)
    (case c10 => k_is)
    (case k10 => k_is)
    (case a11 => k_is)
    (case l11 => k_is)
    (case c11 => k_is)
    (case k11 => k_is)
    (case a12 => k_is)
    (case l12 => k_is)
    (case c12 => k_is)
    (case k12 => k_is)
    (case a13 => k_is)
    (case l13 => k_is)
    (case c13 => k_is)
    (case k13 => k_is)
    (case a14 => k_is)
    (case l14 => k_is)
    (case c14 => k_is)
    (case k14 => k_is)
    (case a15 => k_is)
    (case l15 => k_is)
    (case c15 => k_is)
    (case k15 => k_is)
    (case a16 => k_is)
    (case l16 => k_is)
    (case c16 => k_is)
    (case k16 => k_is)
    (case gBadSetting => k_is)
    (case aBadSetting => k_is)
    (case lBadSetting => k_is)
    (case cBadSetting => k_is)
    (case kBadSetting => k_is)
    (case xBadSetting => k_is)
    (case sBadSetting => k_is)
    (case eBadSetting => k_is)
    (case yBadSetting => k_is)
    (case pBadSetting => k_is)
    (case tBadSetting => k_is)
    (case nBadSetting => k_is)
    (case hBadSetting => k_is)
    (case gPolicy => k_is)
    (case qPolicypg => first | rfl | k_is | decide +kernel | exact ⟨by decide +kernel, by decide +kernel⟩)
    (case qPolicyhd => first | rfl | k_is | decide +kernel | exact ⟨by decide +kernel, by decide +kernel⟩)
    (case qPolicypo => first | rfl | k_is | decide +kernel | exact ⟨by decide +kernel, by decide +kernel⟩)
    (case qPolicysa => first | rfl | k_is | decide +kernel | exact ⟨by decide +kernel, by decide +kernel⟩)
    (case qPolicyca => first | rfl | k_is | decide +kernel | exact ⟨by decide +kernel, by decide +kernel⟩)
    (case qPolicymo => first | rfl | k_is | decide +kernel | exact ⟨by decide +kernel, by decide +kernel⟩)
    (case qPolicymk => first | rfl | k_is | decide +kernel | exact ⟨by decide +kernel, by decide +kernel⟩)
    (case qPolicykp => first | rfl | k_is | decide +kernel | exact ⟨by decide +kernel, by decide +kernel⟩)
    (case qPolicyne => first | rfl | k_is | decide +kernel | exact ⟨by decide +kernel, by decide +kernel⟩)
    (case qPolicyfm => first | rfl | k_is | decide +kernel | exact ⟨by decide +kernel, by decide +kernel⟩)
    (case qPolicyno_hold => first | rfl | k_is | decide +kernel | exact ⟨by decide +kernel, by decide +kernel⟩)
    (case qPolicyno_every => first | rfl | k_is | decide +kernel | exact ⟨by decide +kernel, by decide +kernel⟩)
    (case qPolicyno_quick => first | rfl | k_is | decide +kernel | exact ⟨by decide +kernel, by decide +kernel⟩)
    (case qPolicyrd => first | rfl | k_is | decide +kernel | exact ⟨by decide +kernel, by decide +kernel⟩)
    (case qPolicyga => first | rfl | k_is | decide +kernel | exact ⟨by decide +kernel, by decide +kernel⟩)
    (case uPolicyHOLDS => k_is)
    (case vPolicyHOLDS => k_is)
    (case gSetting => k_is)
    (case qSettingpg => first | rfl | k_is | decide +kernel | exact ⟨by decide +kernel, by decide +kernel⟩)
    (case qSettinghd => first | rfl | k_is | decide +kernel | exact ⟨by decide +kernel, by decide +kernel⟩)
    (case qSettingpo => first | rfl | k_is | decide +kernel | exact ⟨by decide +kernel, by decide +kernel⟩)
    (case qSettingsa => first | rfl | k_is | decide +kernel | exact ⟨by decide +kernel, by decide +kernel⟩)
    (case qSettingca => first | rfl | k_is | decide +kernel | exact ⟨by decide +kernel, by decide +kernel⟩)
    (case qSettingmo => first | rfl | k_is | decide +kernel | exact ⟨by decide +kernel, by decide +kernel⟩)
    (case qSettingmk => first | rfl | k_is | decide +kernel | exact ⟨by decide +kernel, by decide +kernel⟩)
    (case qSettingkp => first | rfl | k_is | decide +kernel | exact ⟨by decide +kernel, by decide +kernel⟩)
    (case qSettingne => first | rfl | k_is | decide +kernel | exact ⟨by decide +kernel, by decide +kernel⟩)
    (case qSettingfm => first | rfl | k_is | decide +kernel | exact ⟨by decide +kernel, by decide +kernel⟩)
    (case qSettingno_size => first | rfl | k_is | decide +kernel | exact ⟨by decide +kernel, by decide +kernel⟩)
    (case qSettingno_policies => first | rfl | k_is | decide +kernel | exact ⟨by decide +kernel, by decide +kernel⟩)
    (case gStances => k_is)
    (case qStancespg => first | rfl | k_is | decide +kernel | exact ⟨by decide +kernel, by decide +kernel⟩)
    (case qStanceshd => first | rfl | k_is | decide +kernel | exact ⟨by decide +kernel, by decide +kernel⟩)
    (case qStancespo => first | rfl | k_is | decide +kernel | exact ⟨by decide +kernel, by decide +kernel⟩)
    (case qStancessa => first | rfl | k_is | decide +kernel | exact ⟨by decide +kernel, by decide +kernel⟩)
    (case qStancesca => first | rfl | k_is | decide +kernel | exact ⟨by decide +kernel, by decide +kernel⟩)
    (case qStancesmo => first | rfl | k_is | decide +kernel | exact ⟨by decide +kernel, by decide +kernel⟩)
    (case qStancesmk => first | rfl | k_is | decide +kernel | exact ⟨by decide +kernel, by decide +kernel⟩)
    (case qStanceskp => first | rfl | k_is | decide +kernel | exact ⟨by decide +kernel, by decide +kernel⟩)
    (case qStancesne => first | rfl | k_is | decide +kernel | exact ⟨by decide +kernel, by decide +kernel⟩)
    (case qStancesfm => first | rfl | k_is | decide +kernel | exact ⟨by decide +kernel, by decide +kernel⟩)
    (case qStancesno__hold => first | rfl | k_is | decide +kernel | exact ⟨by decide +kernel, by decide +kernel⟩)
    (case qStancesno__every => first | rfl | k_is | decide +kernel | exact ⟨by decide +kernel, by decide +kernel⟩)
    (case qStancesno__known_writes => first | rfl | k_is | decide +kernel | exact ⟨by decide +kernel, by decide +kernel⟩)
    (case qStancesno__known_clearings => first | rfl | k_is | decide +kernel | exact ⟨by decide +kernel, by decide +kernel⟩)
    (case gCourse => k_is)
    (case qCoursepg => first | rfl | k_is | decide +kernel | exact ⟨by decide +kernel, by decide +kernel⟩)
    (case qCoursehd => first | rfl | k_is | decide +kernel | exact ⟨by decide +kernel, by decide +kernel⟩)
    (case qCoursepo => first | rfl | k_is | decide +kernel | exact ⟨by decide +kernel, by decide +kernel⟩)
    (case qCoursesa => first | rfl | k_is | decide +kernel | exact ⟨by decide +kernel, by decide +kernel⟩)
    (case qCourseca => first | rfl | k_is | decide +kernel | exact ⟨by decide +kernel, by decide +kernel⟩)
    (case qCoursemo => first | rfl | k_is | decide +kernel | exact ⟨by decide +kernel, by decide +kernel⟩)
    (case qCoursemk => first | rfl | k_is | decide +kernel | exact ⟨by decide +kernel, by decide +kernel⟩)
    (case qCoursekp => first | rfl | k_is | decide +kernel | exact ⟨by decide +kernel, by decide +kernel⟩)
    (case qCoursene => first | rfl | k_is | decide +kernel | exact ⟨by decide +kernel, by decide +kernel⟩)
    (case qCoursefm => first | rfl | k_is | decide +kernel | exact ⟨by decide +kernel, by decide +kernel⟩)
    (case qCourseno__size => first | rfl | k_is | decide +kernel | exact ⟨by decide +kernel, by decide +kernel⟩)
    (case qCourseno__stances => first | rfl | k_is | decide +kernel | exact ⟨by decide +kernel, by decide +kernel⟩)
    (case qCourseno_rest => first | rfl | k_is | decide +kernel | exact ⟨by decide +kernel, by decide +kernel⟩)
    (case qCourseno_stance => first | rfl | k_is | decide +kernel | exact ⟨by decide +kernel, by decide +kernel⟩)
    (case qCourseno_segments => first | rfl | k_is | decide +kernel | exact ⟨by decide +kernel, by decide +kernel⟩)
    (case qCourseno_acknowledgments => first | rfl | k_is | decide +kernel | exact ⟨by decide +kernel, by decide +kernel⟩)
    (case gTurnState => k_is)
    (case qTurnStatepg => first | rfl | k_is | decide +kernel | exact ⟨by decide +kernel, by decide +kernel⟩)
    (case qTurnStatehd => first | rfl | k_is | decide +kernel | exact ⟨by decide +kernel, by decide +kernel⟩)
    (case qTurnStatepo => first | rfl | k_is | decide +kernel | exact ⟨by decide +kernel, by decide +kernel⟩)
    (case qTurnStatesa => first | rfl | k_is | decide +kernel | exact ⟨by decide +kernel, by decide +kernel⟩)
    (case qTurnStateca => first | rfl | k_is | decide +kernel | exact ⟨by decide +kernel, by decide +kernel⟩)
    (case qTurnStatemo => first | rfl | k_is | decide +kernel | exact ⟨by decide +kernel, by decide +kernel⟩)
    (case qTurnStatemk => first | rfl | k_is | decide +kernel | exact ⟨by decide +kernel, by decide +kernel⟩)
    (case qTurnStatekp => first | rfl | k_is | decide +kernel | exact ⟨by decide +kernel, by decide +kernel⟩)
    (case qTurnStatene => first | rfl | k_is | decide +kernel | exact ⟨by decide +kernel, by decide +kernel⟩)
    (case qTurnStatefm => first | rfl | k_is | decide +kernel | exact ⟨by decide +kernel, by decide +kernel⟩)
    (case qTurnStateno_rest => first | rfl | k_is | decide +kernel | exact ⟨by decide +kernel, by decide +kernel⟩)
    (case qTurnStateno_kept => first | rfl | k_is | decide +kernel | exact ⟨by decide +kernel, by decide +kernel⟩)
    (case qTurnStateno_blocked => first | rfl | k_is | decide +kernel | exact ⟨by decide +kernel, by decide +kernel⟩)
    (case qTurnStateno_stuck => first | rfl | k_is | decide +kernel | exact ⟨by decide +kernel, by decide +kernel⟩)
    (case qTurnStateno_pending => first | rfl | k_is | decide +kernel | exact ⟨by decide +kernel, by decide +kernel⟩)
    (case qTurnStateno_quick => first | rfl | k_is | decide +kernel | exact ⟨by decide +kernel, by decide +kernel⟩)
    (case qdesc => first | rfl | k_is | decide +kernel | exact ⟨by decide +kernel, by decide +kernel⟩)
    (case qtake => first | rfl | k_is | decide +kernel | exact ⟨by decide +kernel, by decide +kernel⟩)
    (case aPolicyinit => k_is)
    (case lPolicyinit => k_is)
    (case cPolicyinit => k_is)
    (case kPolicyinit => k_is)
    (case qPolicyinitfn => first | rfl | k_is | decide +kernel | exact ⟨by decide +kernel, by decide +kernel⟩)
    (case dPolicyinit => k_is)
    (case dkPolicyinitevery => k_is)
    (case dkPolicyinitquick => k_is)
    (case aSettinginit => k_is)
    (case lSettinginit => k_is)
    (case cSettinginit => k_is)
    (case kSettinginit => k_is)
    (case qSettinginitfn => first | rfl | k_is | decide +kernel | exact ⟨by decide +kernel, by decide +kernel⟩)
    (case aStancesinit => k_is)
    (case lStancesinit => k_is)
    (case cStancesinit => k_is)
    (case kStancesinit => k_is)
    (case qStancesinitfn => first | rfl | k_is | decide +kernel | exact ⟨by decide +kernel, by decide +kernel⟩)
    (case aStancesafter_write => k_is)
    (case lStancesafter_write => k_is)
    (case cStancesafter_write => k_is)
    (case kStancesafter_write => k_is)
    (case qStancesafter_writefn => first | rfl | k_is | decide +kernel | exact ⟨by decide +kernel, by decide +kernel⟩)
    (case aStancesafter_clearing => k_is)
    (case lStancesafter_clearing => k_is)
    (case cStancesafter_clearing => k_is)
    (case kStancesafter_clearing => k_is)
    (case qStancesafter_clearingfn => first | rfl | k_is | decide +kernel | exact ⟨by decide +kernel, by decide +kernel⟩)
    (case aStanceswrite => k_is)
    (case lStanceswrite => k_is)
    (case cStanceswrite => k_is)
    (case kStanceswrite => k_is)
    (case qStanceswritefn => first | rfl | k_is | decide +kernel | exact ⟨by decide +kernel, by decide +kernel⟩)
    (case aStancesclear_way => k_is)
    (case lStancesclear_way => k_is)
    (case cStancesclear_way => k_is)
    (case kStancesclear_way => k_is)
    (case qStancesclear_wayfn => first | rfl | k_is | decide +kernel | exact ⟨by decide +kernel, by decide +kernel⟩)
    (case aStancessend_rest => k_is)
    (case lStancessend_rest => k_is)
    (case cStancessend_rest => k_is)
    (case kStancessend_rest => k_is)
    (case qStancessend_restfn => first | rfl | k_is | decide +kernel | exact ⟨by decide +kernel, by decide +kernel⟩)
    (case aStancesreceive_full => k_is)
    (case lStancesreceive_full => k_is)
    (case cStancesreceive_full => k_is)
    (case kStancesreceive_full => k_is)
    (case qStancesreceive_fullfn => first | rfl | k_is | decide +kernel | exact ⟨by decide +kernel, by decide +kernel⟩)
    (case aCourseinit => k_is)
    (case lCourseinit => k_is)
    (case cCourseinit => k_is)
    (case kCourseinit => k_is)
    (case qCourseinitfn => first | rfl | k_is | decide +kernel | exact ⟨by decide +kernel, by decide +kernel⟩)
    (case aCoursemake_write => k_is)
    (case lCoursemake_write => k_is)
    (case cCoursemake_write => k_is)
    (case kCoursemake_write => k_is)
    (case qCoursemake_writefn => first | rfl | k_is | decide +kernel | exact ⟨by decide +kernel, by decide +kernel⟩)
    (case aCoursemake_clearing => k_is)
    (case lCoursemake_clearing => k_is)
    (case cCoursemake_clearing => k_is)
    (case kCoursemake_clearing => k_is)
    (case qCoursemake_clearingfn => first | rfl | k_is | decide +kernel | exact ⟨by decide +kernel, by decide +kernel⟩)
    (case aCoursetake => k_is)
    (case lCoursetake => k_is)
    (case cCoursetake => k_is)
    (case kCoursetake => k_is)
    (case qCoursetakefn => first | rfl | k_is | decide +kernel | exact ⟨by decide +kernel, by decide +kernel⟩)
    (case aTurnStateeq => k_is)
    (case lTurnStateeq => k_is)
    (case cTurnStateeq => k_is)
    (case kTurnStateeq => k_is)
    (case qTurnStateeqfn => first | rfl | k_is | decide +kernel | exact ⟨by decide +kernel, by decide +kernel⟩)
    (case a_zi => k_is)
    (case l_zi => k_is)
    (case c_zi => k_is)
    (case k_zi => k_is)
    (case f_zi => k_is)
    (case d_zi => k_is)
    (case a_wt => k_is)
    (case l_wt => k_is)
    (case c_wt => k_is)
    (case k_wt => k_is)
    (case d_wt => k_is)
    (case zisinstance => k_is)
    (case zint => k_is)
    (case zbool => k_is)
    (case ztuple => k_is)
    (case zlen => k_is)
    (case zrange => k_is)
    (case zstr => k_is)
    (case zrepr => k_is)
    (case zall => k_is)
    (case zmax => k_is)
    (case zmin => k_is)
    (case zabs => k_is)
    (case zdivmod => k_is)
    (case iMOST_SIZE => k_is)
    (case iMOST_EVERY => k_is)
    (case iMOST_QUICK => k_is)
#print axioms PySem.Challenge.cw_latewords_k08_states_of_great_lengths_holds
