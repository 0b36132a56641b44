import PyProof.Rows.All
import Wide.All
import OpenK.AllK
import Wide.FinOn
import HandS.ForMost
import HandS.Exc
import HandS.ExcOwn
import HandS.ExcInit
import HandS.ExcField
import HandS.TryMany
import HandS.WordsExc
import HandS.IsInst
import HandS.Wide
import HandS.Evl
import HandS.RaiseMore
import HandS.Defaults
import HandS.Flow
import HandS.Walk
import PyProof.ReprLen
import HandS.DeepEq
import HandS.ExcIs
import KE.KOpsOwn
import KE.KFmtOwn
import KE.KCallOwn
import PyProof.InstNe
import HandS.FStr
import HandS.OwnEq
import HandS.ClsMeth
import HandS.MakeKwOnly
import HandS.Star
import HandS.Lambda
import HandS.EndTab
import HandS.EndOwn
import PyProof.MeetsIn
import HandS.TupAny
import HandS.More
import PySem.Challenge.RW_latewords_k02_settings_refused
set_option Elab.async false
set_option linter.all false
set_option maxRecDepth 100000
set_option maxHeartbeats 8000000
namespace L3
open PySem PySem.Spec PyProof.Rows L2 Evl
/-! ### data in a heap that grows -/
section
variable {K : PySem.W.Frag} {H H1 : Hp}
mutual
theorem dp_ex (e : Ex H H1) : ∀ {d : PyData} {x : V}, Dp K H x d → Dp K H1 x d
  | _, _, .non => .non
  | _, _, .bl b => .bl b
  | _, _, .int i => .int i
  | _, _, .str x => .str x
  | _, _, .lst h a => .lst (ex_l e h) (dps_ex e a)
  | _, _, .tup h a => .tup (ex_t e h) (dps_ex e a)
theorem dps_ex (e : Ex H H1) : ∀ {ds : List PyData} {xs : List V}, DpAll K H xs ds → DpAll K H1 xs ds
  | _, _, .nil => .nil
  | _, _, .cons a r => .cons (dp_ex e a) (dps_ex e r)
end
/-- the name of a datum's type -/
def tyN : PyData → String
  | .none => "NoneType"
  | .bool _ => "bool"
  | .int _ => "int"
  | .str _ => "str"
  | .list _ => "list"
  | .tuple _ => "tuple"
  | .dict _ => "dict"
theorem ty_list {a : Addr} {xs : List V} (h : SqL K H a xs) : TyX K H (.ref a) (.type "list") := by
  rcases h with (h | ⟨o, h⟩) | ⟨o, its, n, h, c, _⟩
  · exact .base (.lst h)
  · exact .base (.frz h)
  · exact .kList h c
theorem ty_tup {a : Addr} {xs : List V} (h : SqT K H a xs) : TyX K H (.ref a) (.type "tuple") := by
  rcases h with (h | ⟨o, h⟩) | ⟨o, its, n, h, c, _⟩
  · exact .base (.tup h)
  · exact .fTuple h
  · exact .kTuple h c
theorem dp_ty {d : PyData} {x : V} (h : Dp K H x d) : TyX K H x (.type (tyN d)) := by
  cases h with
  | non => exact .base .non
  | bl b => exact .base (.bl b)
  | int i => exact .base (.int i)
  | str z => exact .base (.str z)
  | lst h _ => exact ty_list h
  | tup h _ => exact ty_tup h
end
def isIntD : PyData → Bool
  | .int _ => true
  | .bool _ => true
  | _ => false
def isBoolD : PyData → Bool
  | .bool _ => true
  | _ => false
def isListD : PyData → Bool
  | .list _ => true
  | _ => false
def isTupD : PyData → Bool
  | .tuple _ => true
  | _ => false
def isStrD : PyData → Bool
  | .str _ => true
  | _ => false
theorem kit_int (d : PyData) : kitB (tyN d) "int" = some (isIntD d) := by
  cases d <;> (dsimp only [tyN, isIntD, isBoolD, isListD, isTupD, isStrD]; decide +kernel)
theorem kit_bool (d : PyData) : kitB (tyN d) "bool" = some (isBoolD d) := by
  cases d <;> (dsimp only [tyN, isIntD, isBoolD, isListD, isTupD, isStrD]; decide +kernel)
theorem kit_list (d : PyData) : kitB (tyN d) "list" = some (isListD d) := by
  cases d <;> (dsimp only [tyN, isIntD, isBoolD, isListD, isTupD, isStrD]; decide +kernel)
theorem kit_tuple (d : PyData) : kitB (tyN d) "tuple" = some (isTupD d) := by
  cases d <;> (dsimp only [tyN, isIntD, isBoolD, isListD, isTupD, isStrD]; decide +kernel)
theorem kit_str (d : PyData) : kitB (tyN d) "str" = some (isStrD d) := by
  cases d <;> (dsimp only [tyN, isIntD, isBoolD, isListD, isTupD, isStrD]; decide +kernel)
section
variable {K : PySem.W.Frag} {σ : L2.St} {H H' : Hp} {ta tb tc te tx : TE} {t u : TT} {x y z v : V} {r : R2}
/-- isinstance(x, T), T a built-in type by its name -/
theorem ev_isi {d : PyData} {n : String} {b : Bool} (ha : Ev ta σ H x) (hd : Dp K H x d) (hb : kitB (tyN d) n = some b) :
    Ev (tCB (rIsi K) (tCons ta (tCons (tC (.ty n)) tNil))) σ H (.bl b) :=
  ev_cb (ea_cons ha (ea_cons ev_c ea_nil)) fun H1 e Q q => ⟨x, .ty n, _, _, b, rfl, .ty n, dp_ty (dp_ex e hd), kit_ty hb, q H1 (Ex.refl H1)⟩
/-- a op b op c of three ints -/
theorem ev_chain {g g' : Int → Int → Bool} {i j k : Int} (ha : Ev ta σ H (.int i)) (hb : Ev tb σ H (.int j)) (hc : Ev tc σ H (.int k)) :
    Ev (tChain (rI0 fun i j => .bl (g i j)) (rI0 fun i j => .bl (g' i j)) ta tb tc) σ H (.bl (g i j && g' j k)) := fun H1 e Q q =>
  ha H1 e _ fun H2 e2 => hb H2 (e.trans e2) _ fun H3 e3 => ⟨i, j, rfl, rfl, g i j, rfl, by
    cases h : g i j with
    | true =>
      rw [h] at q
      show tc σ H3 _
      exact hc H3 ((e.trans e2).trans e3) _ fun H4 e4 => ⟨j, k, rfl, rfl, q H4 ((e2.trans e3).trans e4)⟩
    | false =>
      rw [h] at q
      show Q (.bl false) H3
      exact q H3 (e2.trans e3)⟩
end
/-- a built-in type by its name, as a value -/
theorem pe_ty {X : Cx} {x : Str} {pos : Pos} (n : String) (hm : X.mg x = none) (hv : bootBuiltins x = some (.type n) := by decide +kernel) (hg : Gl X x := by rfl)
    (hn : x ≠ "__name__" := by decide) (hd : (x == ("__debug__" : Str)) = false := by decide) : PE X (.Name x pos) (tC (.ty n)) :=
  pe_bltn (v := .ty n) (u := .type n) hg hm hv rfl hn hd
end L3

namespace L3
open PySem PySem.Spec PyProof.Rows L2 Evl
/-! ### loops over new pairs -/
section
variable {K : PySem.W.Frag} {σ : L2.St} {H : Hp} {D : Ends} {tu tz : TS}
/-- for i, x in enumerate(list): slots j and k -/
theorem s_forEn {a : Addr} {xs : List V} {ta : TA} {j k : Nat} (h : EvA ta σ H [.ref a]) (hx : SqL K H a xs) (Pv : Nat → L2.St → Hp → Prop) (h0 : ∀ H1, Ex H H1 → Pv 0 σ H1)
    (hl : ∀ i σ' H', i ≤ xs.length → Pv i σ' H' → SqL K H' a xs)
    (hs : ∀ i x σ' H', xs[i]? = some x → Pv i σ' H' → ∀ H1, Ex H' H1 → tu { D with nx := Pv (i + 1), ct := Pv (i + 1), bk := D.nx } ((σ'.set j (some (.int (i : Nat)))).set k (some x)) H1)
    (hd : ∀ σ' H', Pv xs.length σ' H' → D.nx σ' H') : tFor (iEnum K ta) (gTup K 2 (gCons (gName j) (gCons (gName k) gNil))) tu D σ H :=
  h H (Ex.refl H) _ fun H1 e => ⟨a, xs, rfl, ex_l e hx, for_it (walk_enum (xs := xs)) Pv (h0 H1 e) (fun i σ' H' hi p => hl i σ' H' hi p) (fun i v σ' H' H2 hi p y => by
    obtain ⟨T, x, z, rfl, hT, rfl, hx1, hz⟩ := y
    cases hx1
    refine ⟨T, _, rfl, Or.inl (Or.inl upd_same), rfl, ?_⟩
    refine ⟨_, _, rfl, _, _, rfl, rfl, ?_⟩
    exact hs i z σ' H' hz p _ (Ex.new hT)) hd⟩
theorem q_forEn {a : Addr} {xs : List V} {ta : TA} {j k : Nat} (h : EvA ta σ H [.ref a]) (hx : SqL K H a xs) (Pv : Nat → L2.St → Hp → Prop) (h0 : ∀ H1, Ex H H1 → Pv 0 σ H1)
    (hl : ∀ i σ' H', i ≤ xs.length → Pv i σ' H' → SqL K H' a xs)
    (hs : ∀ i x σ' H', xs[i]? = some x → Pv i σ' H' → ∀ H1, Ex H' H1 → tu { D with nx := Pv (i + 1), ct := Pv (i + 1), bk := tz D } ((σ'.set j (some (.int (i : Nat)))).set k (some x)) H1)
    (hd : ∀ σ' H', Pv xs.length σ' H' → tz D σ' H') : tSeq (tFor (iEnum K ta) (gTup K 2 (gCons (gName j) (gCons (gName k) gNil))) tu) tz D σ H :=
  s_forEn (D := { D with nx := tz D }) h hx Pv h0 hl hs hd
end
/-! ### an own error class with one field, told by its __init__ -/
/-- an error of the class at C is in the air, its own dict holds f = v; all that stood stands -/
def ErrV (C : Addr) (f : Str) (v : V) (H : Hp) (E : XK) : Prop := ∀ (d : Addr) (H' : Hp), Ex H H' → H d = none → H' d = some (.xd [(f, v)]) → E (.ref C) (some d) H'
theorem ErrV.go {C : Addr} {f : Str} {v : V} {H H1 : Hp} {E : XK} (k : ErrV C f v H E) (e : Ex H H1) : ErrV C f v H1 E := fun d H' e2 hd h => k d H' (e.trans e2) (fresh_back e hd) h
/-- __init__(self, f): self.f = f, for a fresh error -/
def spErr (K : PySem.W.Frag) (C : Addr) (f : Str) : Sp := fun vs H Q _ => ∃ (a : Addr) (v : V), vs = [.ref a, v] ∧ OexC K C ∧ PySem.W.findIn K (.ref C) f = some none ∧ H a = some (exo a C none) ∧
  ∀ dx, H dx = none → dx ≠ a → Q .non (upd (upd H dx (exd dx [(f, v)])) a (exo a C (some dx)))
/-- what is known of such a class and of its __init__, at fI -/
structure ErC (P : Program) (w : World) (K : PySem.W.Frag) (mg : Str → Option Value) (base : Heap) (x : Str) (f : Str) (C fI : Addr) (fd : FuncData) : Prop where
  oex : OexC K C
  hm : mg x = some (.ref C)
  iC : PySem.W.findIn K (.ref C) "__init__" = some (some (.ref fI))
  tI : PySem.W.typeIn K (.ref fI) = some (.type "function")
  no : PySem.W.findIn K (.ref C) f = some none
  ok : FnOk P w K mg base CX0 1 fI fd ["self", f] (spErr K C f)
  bi : Binds K fd ["self", f] []
/-- raise C(e) -/
def tRz (K : PySem.W.Frag) (C : Addr) (f : Str) (W : WX) (te : TE) : TS := fun _ σ H => tMkO C (spErr K C f) [] (tCons te tNil) σ H fun cls d H' => W cls d σ H'
theorem ps_rz {X : Cx} {x f : Str} {C fI : Addr} {fd : FuncData} {W : WX} {e : Expr} {te : TE} {p pos pos' : Pos} (hc : X.calm = true) (T : ErC X.prog X.w X.K X.mg X.base x f C fI fd) (hr : Room 2 X.A) (tk : Takes X W) (he : PA X [e] (tCons te tNil)) (hg : Gl X x := by rfl)
    (hdb : (x == ("__debug__" : Str)) = false := by decide) (hst : starEach (e :: []) X.env = (false, eval e X.env) :: starEach [] X.env := by rfl) (hpl : (backTo pos (starEach [] X.env)).any (·.1) = false := by rfl) :
    PS X (.Raise (some (.Call (.Name x p) [e] [] pos)) none pos') (tRz X.K C f W te) :=
  ps_raise hc tk (pmk_oex (sp := spErr X.K C f) T.oex T.iC T.tI T.ok hr T.bi .nil pass0 hg T.hm he hdb hst hpl)
theorem s_rz {K : PySem.W.Frag} {C : Addr} {f : Str} {W : WX} {te : TE} {σ : L2.St} {H : Hp} {v : V} {D : Ends} (h : Ev te σ H v) (ox : OexC K C) (no : PySem.W.findIn K (.ref C) f = some none)
    (k : ErrV C f v H fun cls d H' => W cls d σ H') : tRz K C f W te D σ H := by
  refine h H (Ex.refl H) _ fun H1 e => ?_
  refine ⟨by show 1 ≤ 1000; decide, fun a ha => ⟨a, v, rfl, ox, no, upd_same, fun dx hdx hne => ⟨rfl, dx, [(f, v)], upd_same, ?_, ?_, ?_⟩⟩⟩
  · rw [upd_ne hne]
    exact upd_same
  · rw [upd_ne hne] at hdx
    exact hdx
  · rw [upd_ne hne] at hdx
    have eH : upd (del (upd (upd (upd H1 a (exo a C none)) dx (exd dx [(f, v)])) a (exo a C (some dx))) a) dx (.xd [(f, v)]) = upd H1 dx (.xd [(f, v)]) := by
      funext b
      by_cases hb : b = dx
      · rw [hb, upd_same, upd_same]
      · rw [upd_ne hb, upd_ne hb]
        by_cases hba : b = a
        · rw [hba, del_same, ha]
        · rw [del_ne hba, upd_ne hba, upd_ne hb, upd_ne hba]
    rw [eH]
    exact k dx _ (e.trans (Ex.new hdx)) (fresh_back e hdx) upd_same
/-- the body of such an __init__ -/
theorem s_ini {K : PySem.W.Frag} {C : Addr} {f : Str} {vs : List V} {H : Hp} {Q : VK} {E : XK} {N : List Str} (h : spErr K C f vs H Q E) (hN : start N vs = vs.map some) :
    tOst K f (tVar 0) (tVar 1) { nx := fun _ H' => Q .non H', rt := Q } (start N vs) H := by
  obtain ⟨a, v, rfl, ox, no, ha, k⟩ := h
  rw [hN]
  exact ⟨v, rfl, .ref a, rfl, a, C, rfl, ox, no, .inl ⟨ha, k⟩⟩
end L3

namespace L3
open PySem PySem.Spec PyProof.Rows L2 Evl
/-! ### a list of one's own beside what stands -/
section
variable {K : PySem.W.Frag} {H H1 H2 : Hp} {l : Addr}
theorem ex_del_self : Ex (del H l) H := fun a o e => by
  by_cases h : a = l
  · rw [h, del_same] at e
    cases e
  · rw [del_ne h] at e
    exact e
theorem ex_del (e : Ex H H1) : Ex (del H l) (del H1 l) := fun a o h => by
  by_cases c : a = l
  · rw [c, del_same] at h
    cases h
  · rw [del_ne c] at h ⊢
    exact e a o h
theorem del_upd {o : HO} : del (upd H l o) l = del H l := by
  funext b
  by_cases c : b = l
  · rw [c, del_same, del_same]
  · rw [del_ne c, del_ne c, upd_ne c]
/-- what does not know l stands beside l -/
theorem ex_beside (e : Ex H H1) (h : H l = none) : Ex H (del H1 l) := fun a o q => by
  have c : a ≠ l := ne_of_none q h
  rw [del_ne c]
  exact e a o q
/-- a new list of data is handed back: what stood stands beside it -/
def RetLD (K : PySem.W.Frag) (ds : List PyData) (H : Hp) (Q : VK) : Prop := ∀ p xs H2, H p = none → Ex H (del H2 p) → H2 p = some (.lst xs) → DpAll K (del H2 p) xs ds → Q (.ref p) H2
theorem RetLD.go {ds : List PyData} {Q : VK} (k : RetLD K ds H Q) (e : Ex H H1) : RetLD K ds H1 Q := fun p xs H2 h1 h2 h3 h4 => k p xs H2 (fresh_back e h1) (e.trans h2) h3 h4
theorem dps_snoc {xs : List V} {ds : List PyData} {x : V} {d : PyData} (h : DpAll K H xs ds) (hx : Dp K H x d) : DpAll K H (xs ++ [x]) (ds ++ [d]) := by
  induction ds generalizing xs with
  | nil =>
    cases h
    exact .cons hx .nil
  | cons e es ih =>
    cases h with
    | cons a r => exact .cons a (ih r)
theorem dps_len' : ∀ {xs : List V} {ds : List PyData}, DpAll K H xs ds → xs.length = ds.length
  | _, _, .nil => rfl
  | _, _, .cons _ r => by rw [List.length_cons, List.length_cons, dps_len' r]
theorem dps_at {xs : List V} {ds : List PyData} {i : Nat} {d : PyData} (h : DpAll K H xs ds) (hi : ds[i]? = some d) : ∃ x, xs[i]? = some x ∧ Dp K H x d := by
  induction ds generalizing xs i with
  | nil => simp at hi
  | cons e es ih =>
    cases h with
    | @cons v vs _ _ a r =>
      cases i with
      | zero =>
        simp at hi
        exact ⟨v, by simp, hi ▸ a⟩
      | succ j =>
        obtain ⟨x, h1, h2⟩ := ih r (by simpa using hi)
        exact ⟨x, by simpa using h1, h2⟩
end
/-! ### a conversation: its writes -/
abbrev Wr := Int × Int × Str
def wD (w : Wr) : PyData := .tuple [.int w.1, .int w.2.1, .str w.2.2]
def cD (ws : List Wr) : PyData := .list (ws.map wD)
/-- the endpoint of the j-th write -/
def spk (ws : List Wr) (j : Nat) : Int := (ws.getD j (0, 0, "")).1
theorem spk_of {ws : List Wr} {j : Nat} {w : Wr} (h : ws[j]? = some w) : spk ws j = w.1 := by
  unfold spk
  rw [List.getD_eq_getElem?_getD, h]
  rfl
section
variable {K : PySem.W.Frag} {H : Hp}
theorem wr_at {xs : List V} {ws : List Wr} {j : Nat} (h : DpAll K H xs (ws.map wD)) (hj : j < ws.length) : ∃ (t : Addr) (w : Wr), ws[j]? = some w ∧ xs[j]? = some (.ref t) ∧ SqT K H t [.int w.1, .int w.2.1, .str w.2.2] := by
  have e : ws[j]? = some ws[j] := by simp [hj]
  obtain ⟨x, h1, h2⟩ := dps_at h (i := j) (d := wD ws[j]) (by rw [List.getElem?_map, e]; rfl)
  cases h2 with
  | tup hs ha =>
    cases ha with
    | cons a1 r1 =>
    cases r1 with
    | cons a2 r2 =>
    cases r2 with
    | cons a3 r3 =>
    cases r3
    cases a1
    cases a2
    cases a3
    exact ⟨_, _, e, h1, hs⟩
end
/-! ### turns -/
/-- one step of the search for turns: what is found, the start of the running one -/
def tstep (ws : List Wr) (a : List (Int × Nat × Nat) × Nat) (stop : Nat) : List (Int × Nat × Nat) × Nat :=
  if stop = ws.length ∨ spk ws stop ≠ spk ws a.2 then (a.1 ++ [(spk ws a.2, a.2, stop)], stop) else a
def tN (ws : List Wr) : Nat → List (Int × Nat × Nat) × Nat
  | 0 => ([], 0)
  | i + 1 => tstep ws (tN ws i) (i + 1)
def turnsM (ws : List Wr) : List (Int × Nat × Nat) := (tN ws ws.length).1
def tD (t : Int × Nat × Nat) : PyData := .tuple [.int t.1, .int (t.2.1 : Int), .int (t.2.2 : Int)]
theorem tN_le (ws : List Wr) : ∀ i, (tN ws i).2 ≤ i
  | 0 => Nat.le_refl _
  | i + 1 => by
    have h := tN_le ws i
    show (tstep ws (tN ws i) (i + 1)).2 ≤ i + 1
    unfold tstep
    split
    · exact Nat.le_refl _
    · omega
theorem tN_len (ws : List Wr) : ∀ i, (tN ws i).1.length ≤ i
  | 0 => Nat.le_refl _
  | i + 1 => by
    have h := tN_len ws i
    show (tstep ws (tN ws i) (i + 1)).1.length ≤ i + 1
    unfold tstep
    split
    · rw [List.length_append, List.length_singleton]
      omega
    · omega
/-- a turn begins at the j-th write -/
def isSt (ws : List Wr) (j : Nat) : Prop := j = 0 ∨ spk ws (j - 1) ≠ spk ws j
instance (ws : List Wr) (j : Nat) : Decidable (isSt ws j) := inferInstanceAs (Decidable (_ ∨ _))
def starts (ts : List (Int × Nat × Nat)) : List Nat := ts.map fun t => t.2.1
structure TI (ws : List Wr) (i : Nat) : Prop where
  mem : ∀ j, j ∈ starts (tN ws i).1 ↔ j < (tN ws i).2 ∧ isSt ws j
  here : (tN ws i).2 < ws.length → isSt ws (tN ws i).2
  run : i < ws.length → ∀ j, (tN ws i).2 ≤ j → j ≤ i → spk ws j = spk ws (tN ws i).2
  fin : i = ws.length → (tN ws i).2 = ws.length
theorem ti_all (ws : List Wr) : ∀ i, i ≤ ws.length → TI ws i
  | 0, _ => ⟨fun j => ⟨(fun h => nomatch h), fun h => absurd h.1 (Nat.not_lt_zero _)⟩, fun _ => Or.inl rfl, fun _ j _ h => by rw [Nat.le_zero.mp h] <;> rfl, fun h => h⟩
  | i + 1, hi => by
    have I := ti_all ws i (by omega)
    have hst := tN_le ws i
    by_cases c : i + 1 = ws.length ∨ spk ws (i + 1) ≠ spk ws (tN ws i).2
    · have eN : tN ws (i + 1) = ((tN ws i).1 ++ [(spk ws (tN ws i).2, (tN ws i).2, i + 1)], i + 1) := if_pos c
      refine ⟨fun j => ?_, fun h => ?_, fun h j h1 h2 => ?_, fun h => ?_⟩
      · rw [eN]
        show j ∈ List.map (fun t => t.2.1) ((tN ws i).1 ++ [(spk ws (tN ws i).2, (tN ws i).2, i + 1)]) ↔ j < i + 1 ∧ isSt ws j
        rw [List.map_append, List.mem_append]
        have m := I.mem j
        constructor
        · intro h
          rcases h with h | h
          · have q := m.mp h
            exact ⟨by omega, q.2⟩
          · have q : j = (tN ws i).2 := by simpa using h
            rw [q]
            exact ⟨by omega, I.here (by omega)⟩
        · rintro ⟨h1, h2⟩
          by_cases c1 : j < (tN ws i).2
          · exact Or.inl (m.mpr ⟨c1, h2⟩)
          · by_cases c2 : j = (tN ws i).2
            · right
              rw [c2]
              simp
            · exfalso
              have r1 := I.run (by omega) j (by omega) (by omega)
              have r2 := I.run (by omega) (j - 1) (by omega) (by omega)
              rcases h2 with h2 | h2
              · omega
              · exact h2 (r2.trans r1.symm)
      · rw [eN] at h ⊢
        have h' : i + 1 < ws.length := h
        have c' : spk ws (i + 1) ≠ spk ws (tN ws i).2 := c.resolve_left (by omega)
        have r1 := I.run (by omega) i (by omega) (Nat.le_refl _)
        refine Or.inr fun z => c' ?_
        have z' : spk ws i = spk ws (i + 1) := z
        rw [← z', r1]
      · rw [eN] at h1 ⊢
        have h1' : i + 1 ≤ j := h1
        have e : j = i + 1 := by omega
        rw [e]
      · rw [eN]
        exact h
    · have eN : tN ws (i + 1) = tN ws i := if_neg c
      have c1 : i + 1 ≠ ws.length := fun z => c (Or.inl z)
      have c2 : spk ws (i + 1) = spk ws (tN ws i).2 := Classical.byContradiction fun z => c (Or.inr z)
      refine ⟨fun j => ?_, fun h => ?_, fun h j h1 h2 => ?_, fun h => absurd h c1⟩
      · rw [eN]
        exact I.mem j
      · rw [eN] at h ⊢
        exact I.here h
      · rw [eN] at h1 ⊢
        by_cases c3 : j = i + 1
        · rw [c3, c2]
        · exact I.run (by omega) j h1 (by omega)
theorem starts_turns (ws : List Wr) (j : Nat) : j ∈ starts (turnsM ws) ↔ j < ws.length ∧ isSt ws j := by
  have I := ti_all ws ws.length (Nat.le_refl _)
  have m := I.mem j
  rw [I.fin rfl] at m
  exact m
/-- how many clearings may stand ahead of each write -/
def limM (ws : List Wr) : List Int := (List.range ws.length).map fun j => if isSt ws j then 0 else 2
theorem set_all {α : Type} (z : α) : ∀ (ss : List Nat) (L : List α) (j : Nat), (ss.foldl (fun L s => L.set s z) L)[j]? = if j ∈ ss then L[j]?.map (fun _ => z) else L[j]?
  | [], L, j => by simp
  | s :: ss, L, j => by
    rw [List.foldl_cons, set_all z ss (L.set s z) j]
    by_cases c : j = s
    · subst c
      rw [if_pos (List.mem_cons_self)]
      by_cases h : j < L.length
      · have e1 : (L.set j z)[j]? = some z := List.getElem?_set_self h
        rw [e1]
        have e2 : L[j]? = some L[j] := by simp [h]
        rw [e2]
        split <;> rfl
      · have e2 : L[j]? = none := by simp; omega
        have e1 : (L.set j z)[j]? = none := by simp; omega
        rw [e1, e2]
        split <;> rfl
    · have e1 : (L.set s z)[j]? = L[j]? := List.getElem?_set_ne (fun q => c q.symm)
      rw [e1]
      have e2 : (j ∈ s :: ss) ↔ j ∈ ss := by
        rw [List.mem_cons]
        exact ⟨fun q => q.resolve_left c, Or.inr⟩
      by_cases h : j ∈ ss
      · rw [if_pos h, if_pos (e2.mpr h)]
      · rw [if_neg h, if_neg fun q => h (e2.mp q)]
theorem lim_set (ws : List Wr) : (starts (turnsM ws)).foldl (fun L s => L.set s (0 : Int)) (List.replicate ws.length 2) = limM ws := by
  refine List.ext_getElem? fun j => ?_
  rw [set_all]
  unfold limM
  rw [List.getElem?_map]
  by_cases h : j < ws.length
  · have e1 : (List.replicate ws.length (2 : Int))[j]? = some 2 := by simp [h]
    have e2 : (List.range ws.length)[j]? = some j := by simp [h]
    rw [e1, e2]
    by_cases c : isSt ws j
    · rw [if_pos ((starts_turns ws j).mpr ⟨h, c⟩)]
      show some (0 : Int) = some (if isSt ws j then 0 else 2)
      rw [if_pos c]
    · rw [if_neg fun q => c ((starts_turns ws j).mp q).2]
      show some (2 : Int) = some (if isSt ws j then 0 else 2)
      rw [if_neg c]
  · have e1 : (List.replicate ws.length (2 : Int))[j]? = none := by simp; omega
    have e2 : (List.range ws.length)[j]? = none := by simp; omega
    rw [e1, e2]
    split <;> rfl
theorem yes_then {te : TE} {σ : L2.St} {H : Hp} {k1 : V → Hp → Prop} {k2 : Hp → Prop} (h : te σ H k1) : tYes σ H fun b H3 => if b = true then te σ H3 k1 else k2 H3 := by
  show (if true = true then te σ H k1 else k2 H)
  rw [if_pos rfl]
  exact h
/-! ### [v] * n -/
section
variable {K : PySem.W.Frag} {σ : L2.St} {H : Hp} {te tn : TE} {v : V}
theorem el_rep {n : Nat} (h : Ev te σ H v) (hn : Ev tn σ H (.int (n : Int))) (hz : n ≤ 100000) : EvL (tOp rRep (tLst (tCons te tNil)) tn) σ H (List.replicate n v) := fun H1 e Q q =>
  h H1 e _ fun H2 e2 => ⟨by show 1 ≤ sizeLine; decide, fun l hl => hn _ ((e.trans e2).trans (Ex.new hl)) _ fun H3 e3 => ⟨l, (n : Int), [v], rfl, rfl, e3 l _ upd_same, by omega, by omega, by
      have q1 : [v].length * ((n : Int)).toNat = n := by simp
      rw [q1]
      exact sz_of hz, fun p hp => by
        have q2 : (List.replicate ((n : Int)).toNat [v]).flatten = List.replicate n v := by simp
        rw [q2]
        have hp1 : H1 p = none := fresh_back (e2.trans ((Ex.new hl).trans e3)) hp
        exact q p _ hp1 ((e2.trans ((Ex.new hl).trans e3)).trans (Ex.new hp)) upd_same⟩⟩
end
section
variable {K : PySem.W.Frag} {σ : L2.St} {H : Hp} {ta tb : TE} {x y : V} {d e : PyData}
theorem rv_eqD (hd : Dp K H x d) (he : Dp K H y e) (s1 : SeqAt.shaped d = true) (s2 : SeqAt.shaped e = true) : RV (rEqD K) x y H (.bl (PyData.eqv d e)) := fun H1 ex Q q => ⟨d, e, dp_ex ex hd, dp_ex ex he, s1, s2, q H1 (Ex.refl H1)⟩
theorem rv_neD (hd : Dp K H x d) (he : Dp K H y e) (s1 : SeqAt.shaped d = true) (s2 : SeqAt.shaped e = true) : RV (rNeD K) x y H (.bl (!PyData.eqv d e)) := fun H1 ex Q q => ⟨d, e, dp_ex ex hd, dp_ex ex he, s1, s2, q H1 (Ex.refl H1)⟩
theorem eqv_str (d : PyData) (s : Str) : PyData.eqv d (.str s) = (match d with | .str z => decide (z = s) | _ => false) := by
  cases d with
  | str z =>
    show (z == s) = decide (z = s)
    by_cases q : z = s
    · rw [q, decide_eq_true rfl, beq_self_eq_true]
    · rw [decide_eq_false q]
      exact beq_eq_false_iff_ne.mpr q
  | _ => rfl
end
end L3

namespace L3
open PySem PySem.Spec PyProof.Rows L2 Evl
/-! ### a try whose clauses stand one after the other, some with a name -/
abbrev Clause := Value × Option Nat × (Addr → Value → Option Addr → TS)
/-- behind a named suite the name is gone -/
def gone (D : Ends) (i : Nat) : Ends := { nx := fun σ H => D.nx (σ.set i none) H, rt := D.rt, bk := fun σ H => D.bk (σ.set i none) H, ct := fun σ H => D.ct (σ.set i none) H }
def suiteOf (D : Ends) (o : Option Nat) (t : TS) (a : Addr) : L2.St → Hp → Prop := match o with
  | none => fun σ H => t D σ H
  | some i => fun σ H => t (gone D i) (σ.set i (some (.ref a))) H
def wCl (K : PySem.W.Frag) (Wout : WX) (D : Ends) : List Clause → WX
  | [] => Wout
  | (c, o, t) :: r => fun cls d σ H => ∃ b, PySem.W.exmOne K cls c = some b ∧ (b = true → ∀ a, H a = none → suiteOf D o (t a cls d) a σ H) ∧ (b = false → wCl K Wout D r cls d σ H)
inductive ClsOk (X : Cx) : List ExceptHandler → List Clause → Prop
  | nil : ClsOk X [] []
  | bare {x : Str} {c : Value} {t : Addr → Value → Option Addr → TS} {b : Stmt} {bs : List Stmt} {p q : Pos} {hs : List ExceptHandler} {l : List Clause} (hc : Names X x c)
      (hsu : ∀ (a : Addr) (o : Obj) (cls : Value) (d : Option Addr) (pn : List (Addr × Obj)), Zc cls d o → (∃ vs, o.data = .fields vs) → PSs (X.suite a ((a, o) :: pn)) (b :: bs) (t a cls d)) (r : ClsOk X hs l) :
      ClsOk X (.ExceptHandler (some (.Name x p)) none (b :: bs) q :: hs) ((c, none, t) :: l)
  | named {x n : Str} {i : Nat} {c : Value} {t : Addr → Value → Option Addr → TS} {b : Stmt} {bs : List Stmt} {p q : Pos} {hs : List ExceptHandler} {l : List Clause} (hN : X.N.Nodup) (hi : X.N[i]? = some n) (hn : X.env.kindOf n = some .local) (hc : Names X x c)
      (hsu : ∀ (a : Addr) (o : Obj) (cls : Value) (d : Option Addr) (pn : List (Addr × Obj)), Zc cls d o → (∃ vs, o.data = .fields vs) → PSs (X.suite a ((a, o) :: pn)) (b :: bs) (t a cls d)) (r : ClsOk X hs l) :
      ClsOk X (.ExceptHandler (some (.Name x p)) (some n) (b :: bs) q :: hs) ((c, some i, t) :: l)
theorem ps_tryC {X : Cx} {body : List Stmt} {h : ExceptHandler} {hs : List ExceptHandler} {l : List Clause} {pos : Pos} {tb : WX → TS} {Wout : WX} (st : X.stack = X.env :: X.outer) (fr : X.env.frame = some X.env.locals) (tk : Takes X Wout)
    (bo : ∀ (W : WX) (pn : List (Addr × Obj)) (xe : Value → Shared → Prop), Takes (X.tr pn xe) W → PassesOwn (model X.prog X.w) X.A X.env xe → PSs (X.tr pn xe) body (tb W))
    (cl : ClsOk X (h :: hs) l) : PS X (.Try body (h :: hs) [] [] pos) (fun D σ H => tb (wCl X.K Wout D l) D σ H) := by
  refine ⟨fun pins s σ H D I rd => ?_⟩
  have ok := I.ok
  have hfr : X.A.frames = some (X.env :: X.outer) := by rw [ok.frames, st]
  refine wpAny_Try_except ?_
  refine wpAny_mono ((bo (wCl X.K Wout D l) (X.pn ++ pins) (fun e z => wpAny (model X.prog X.w) X.A (noteFrame e X.env) (fun _ z2 => wpAny (model X.prog X.w) X.A (setFlight e none) (fun _ z3 =>
    wpAny (model X.prog X.w) X.A (handleBy e X.env (h :: hs)) (SP X pins D) X.xe z3) X.xe z2) X.xe z) (fun u s' hit => ?_) PassesOwn.looking).run [] s σ H D (I.toTry _) rd) (fun f z sp => ?_) (fun e z he => he)
  · obtain ⟨a, B, s0, pins', σ', H', cls, d, rfl, J', nb, up, sky, na, os, ag, wish⟩ := hit
    have J : Inv X pins σ' H' s0 := J'.ofTry ok
    have sky' : Sky B (X.env :: X.outer) a (Zc cls d) X.env.locals s'.heap := by
      rw [← st]
      exact sky
    show wpAny (model X.prog X.w) X.A (noteFrame (.ref a) X.env) _ _ _
    refine Sky.land Zc.steady hfr fr sky' fun h3 fl up3 => ?_
    have J3 : Inv X pins σ' H' { s' with heap := h3 } := J.landed nb fl.1 (up.trans up3) os ag
    obtain ⟨o3, v3, at3, z3, d3⟩ := fl.there
    have off : a ∉ frs (X.env :: X.outer) := fun hm => by
      obtain ⟨_, o', e', nf⟩ := fl.2.2.1.mem hm
      rw [at3] at e'
      cases e'
      exact nf _ d3
    have nL : a ≠ X.env.locals := fun z => off (List.mem_filterMap.mpr ⟨X.env, List.mem_cons_self, by rw [fr, z]⟩)
    have nF : a ∉ X.fs := fun hm => by
      obtain ⟨e, he, q⟩ := List.mem_filterMap.mp hm
      exact off (List.mem_filterMap.mpr ⟨e, List.mem_cons_of_mem _ he, q⟩)
    have S3 := J3.suite at3 d3 na nL nF
    have typ : PySem.W.Looks (model X.prog X.w) h3 (typeOf (.ref a)) cls := fun A Q E s k q => wpAny_typeOf_ref (k _ _ at3) (by rw [z3.1]; exact q)
    have named : ∀ {x : Str} {c : Value} {p : Pos} {Q E : Value → Shared → Prop}, Names X x c → Q c { s' with heap := h3 } →
        wpAny (model X.prog X.w) (X.A.mark (some (.ref a))) (eval (.Name x p) X.env) Q E { s' with heap := h3 } := fun {x c p Q E} hc q => by
      obtain ⟨hg, hdb, hm | ⟨hm, hv, hne⟩⟩ := hc
      · exact ld_glob (X := X.suite a ((a, o3) :: (X.pn ++ pins))) S3 hg hm q hdb
      · exact ld_blt (X := X.suite a ((a, o3) :: (X.pn ++ pins))) S3 hg hm hv q hne hdb
    have go : ∀ {ks : List ExceptHandler} {ls : List Clause}, ClsOk X ks ls → wCl X.K Wout D ls cls d σ' H' →
        wpAny (model X.prog X.w) X.A (handleBy (.ref a) X.env ks) (SP X pins D) X.xe { s' with heap := h3 } := by
      intro ks ls hk
      induction hk with
      | nil =>
        intro wi
        refine wpAny_handleBy_nil ?_
        obtain ⟨y1, y2, y3, oe, vs, Ta, oT, ts, he, hz, hd, hv1, hrest⟩ := id fl
        unfold PySem.passOn
        refine wpAny_bind (wpAny_field he hd hv1 ?_)
        rw [if_neg (show ¬ ((Value.ref Ta == Value.none) = true) by simp)]
        have fin : wpAny (model X.prog X.w) X.A (setFlight (.ref a) X.env.frame) (fun _ w4 => wpAny (model X.prog X.w) X.A (throw (.ref a) : Sem Flow) (SP X pins D) X.xe w4) X.xe { s' with heap := h3 } := by
          rw [fr]
          refine HandSPX.setFlight_upZ fl fun h4 hh up4 => wpAny_throw (tk _ _ ?_)
          exact ⟨a, B, s0, pins, σ', H', cls, d, rfl, J, nb, (up.trans up3).trans up4, .inr (.inr (by rw [st]; exact hh)), na, os, ag, wi⟩
        first | exact wpAny_bind (wpAny_pure (wpAny_bind fin)) | exact wpAny_bind fin
      | @bare x c t b bs p q hs2 l2 hc hsu r ih =>
        intro wi
        obtain ⟨y, hy, yes, no⟩ := wi
        refine wpAny_handleBy_cons (codeAny_handlers_test ?_) (by intro q; cases q)
        have LM := PySem.W.exm_one (M := model X.prog X.w) (J3.kIn) typ hy
        refine named hc (LM.here ?_)
        cases y with
        | false =>
          show wpAny _ X.A (handleBy (.ref a) X.env hs2) _ _ _
          exact ih (no rfl)
        | true =>
          refine codeAny_handlers_suite ?_
          refine HandSPX.lands_againZ fl fun h4 fl4 up4 => ?_
          have J4 : Inv X pins σ' H' { s' with heap := h4 } := J.landed nb fl4.1 ((up.trans up3).trans up4) os ag
          obtain ⟨o4, v4, at4, z4, d4⟩ := fl4.there
          have S4 := J4.suite at4 d4 na nL nF
          refine wpAny_mono ((hsu a o4 cls d (X.pn ++ pins) z4 ⟨_, d4⟩).run [] _ _ H' D S4 (yes rfl a na)) (fun f s6 sp => ?_) (fun _ _ z => False.elim z)
          cases f with
          | ret u =>
            obtain ⟨v6, σ6, H6, S6, r6, q6⟩ := sp
            exact ⟨v6, σ6, H6, S6.unsuite ok, r6, q6⟩
          | next =>
            obtain ⟨σ6, H6, S6, q6⟩ := sp
            exact ⟨σ6, H6, S6.unsuite ok, q6⟩
          | brk =>
            obtain ⟨σ6, H6, S6, q6⟩ := sp
            exact ⟨σ6, H6, S6.unsuite ok, q6⟩
          | cont =>
            obtain ⟨σ6, H6, S6, q6⟩ := sp
            exact ⟨σ6, H6, S6.unsuite ok, q6⟩
      | @named x n i c t b bs p q hs2 l2 hN hi hn hc hsu r ih =>
        intro wi
        obtain ⟨y, hy, yes, no⟩ := wi
        refine wpAny_handleBy_cons (codeAny_handlers_test ?_) (by intro q; cases q)
        have LM := PySem.W.exm_one (M := model X.prog X.w) (J3.kIn) typ hy
        refine named hc (LM.here ?_)
        cases y with
        | false =>
          show wpAny _ X.A (handleBy (.ref a) X.env hs2) _ _ _
          exact ih (no rfl)
        | true =>
          refine codeAny_handlers_suite_as ?_
          refine HandSPX.lands_againZ fl fun h4 fl4 up4 => ?_
          have J4 : Inv X pins σ' H' { s' with heap := h4 } := J.landed nb fl4.1 ((up.trans up3).trans up4) os ag
          obtain ⟨o4, v4, at4, z4, d4⟩ := fl4.there
          have S4 := J4.suite at4 d4 na nL nF
          refine store_ok (X := X.suite a ((a, o4) :: (X.pn ++ pins))) (v := .ref a) S4 hN hi (.inl hn) rfl (fun s5 S5 => ?_) (.inr hn)
          refine wpAny_mono ((hsu a o4 cls d (X.pn ++ pins) z4 ⟨_, d4⟩).run [] s5 _ H' (gone D i) S5 (yes rfl a na)) (fun f s6 sp => ?_) (fun _ _ z => False.elim z)
          have out : ∀ {σ6 : L2.St} {H6 : Hp} {Q : Shared → Prop}, Inv (X.suite a ((a, o4) :: (X.pn ++ pins))) [] σ6 H6 s6 → (∀ s7, Inv X pins (σ6.set i none) H6 s7 → Q s7) →
              wpAny (model X.prog X.w) X.A (do bindName X.env n .none; unbindBehindTheSuite X.env n q) (fun _ s7 => Q s7) X.xe s6 := fun {σ6 H6 Q} S6 hq => gone_ok (S6.unsuite ok) hN hi hn hq
          cases f with
          | ret u =>
            obtain ⟨v6, σ6, H6, S6, r6, q6⟩ := sp
            exact out S6 fun s7 J7 => ⟨v6, _, H6, J7, r6, q6⟩
          | next =>
            obtain ⟨σ6, H6, S6, q6⟩ := sp
            exact out S6 fun s7 J7 => ⟨_, H6, J7, q6⟩
          | brk =>
            obtain ⟨σ6, H6, S6, q6⟩ := sp
            exact out S6 fun s7 J7 => ⟨_, H6, J7, q6⟩
          | cont =>
            obtain ⟨σ6, H6, S6, q6⟩ := sp
            exact out S6 fun s7 J7 => ⟨_, H6, J7, q6⟩
    exact go cl wish
  · cases f with
    | ret u =>
      obtain ⟨v, σ', H', J', r, q⟩ := sp
      exact ⟨v, σ', H', J'.ofTry ok, r, q⟩
    | next =>
      obtain ⟨σ', H', J', q⟩ := sp
      exact wpAny_execs_nil ⟨σ', H', J'.ofTry ok, q⟩
    | brk =>
      obtain ⟨σ', H', J', q⟩ := sp
      exact ⟨σ', H', J'.ofTry ok, q⟩
    | cont =>
      obtain ⟨σ', H', J', q⟩ := sp
      exact ⟨σ', H', J'.ofTry ok, q⟩
end L3

namespace L3
open PySem PySem.Spec PyProof.Rows L2 Evl
/-! ### repr of data -/
/-- what may be shown: no dict, not deep, a text of bounded length -/
structure Shw (d : PyData) : Prop where
  ok : d.showable = true
  nd : d.hasDict = false
  dp : d.depth ≤ 60
  sz : d.shown.length ≤ sizeLine
def rRepr (K : PySem.W.Frag) : List V → Hp → VK → Prop := fun xs H Q => ∃ x d, xs = [x] ∧ Dp K H x d ∧ Shw d ∧ Q (.str d.shown) H
theorem call_reprD {X : Cx} (hg : X.A.guards = some []) (hu : X.A.units + 64 < cLine) : CallR X (.builtin "repr") (rRepr X.K) := by
  intro pins s σ H xs us Q I r h
  obtain ⟨x, d, rfl, hd, sh, q⟩ := h
  obtain ⟨u, rfl, rx⟩ := vals1 r
  cases hd with
  | non =>
    cases (show u = Value.none from rx)
    exact PySem.P.repr_of_none ⟨.str _, H, I.tok _, ⟨_, rfl⟩, q⟩
  | bl b =>
    cases (show u = Value.bool b from rx)
    exact PySem.P.repr_of_bool ⟨.str _, H, I.tok _, ⟨_, rfl⟩, q⟩
  | int i =>
    obtain ⟨t, rfl⟩ := (show ∃ t, u = Value.int i t from rx)
    exact PySem.P.repr_of_int (of_decide_eq_true sh.ok) ⟨.str _, H, I.tok _, ⟨_, rfl⟩, q⟩
  | str z =>
    obtain ⟨t, rfl⟩ := (show ∃ t, u = Value.str z t from rx)
    exact PySem.P.repr_of_str ⟨.str _, H, I.tok _, ⟨_, rfl⟩, q⟩ sh.sz
  | lst hs ha =>
    obtain ⟨as, rd⟩ := Dp.reads I _ _ u (.lst hs ha) rx
    cases (show u = Value.ref _ from rx)
    exact repr_of_reads' rd sh.ok (fun z => by rw [sh.nd] at z; cases z) hg (by have := sh.dp; omega) (fun _ _ e => e) (fun h' uu tk hk => ⟨.str _, H, I.kept hk, ⟨_, rfl⟩, q⟩) sh.sz
  | tup hs ha =>
    obtain ⟨as, rd⟩ := Dp.reads I _ _ u (.tup hs ha) rx
    cases (show u = Value.ref _ from rx)
    exact repr_of_reads' rd sh.ok (fun z => by rw [sh.nd] at z; cases z) hg (by have := sh.dp; omega) (fun _ _ e => e) (fun h' uu tk hk => ⟨.str _, H, I.kept hk, ⟨_, rfl⟩, q⟩) sh.sz
/-! ### a def's promise where no repr is under way -/
structure FnG (P : Program) (w : World) (K : PySem.W.Frag) (mg : Str → Option Value) (base : Heap) (k : Nat) (f : Addr) (fd : FuncData) (ps : List Str) (sp : Sp) : Prop where
  len : ∀ vs H Q E, sp vs H Q E → vs.length = ps.length
  run : ∀ (A : Around) (outer : List Env) (s : Shared) (H : Hp) (args : Args) (us : List Value) (vs : List V) (Q : VK) (E : XK), A.guards = some [] → Room k A → Env0 P w K mg base A outer s H → BindsTo s fd args (ps.zip us) → Vals vs us → sp vs H Q E →
    codeAny (model P w) A (.call (.ref f) args) (CR CX0 outer P w H s Q E) s
section
variable {P : Program} {w : World} {K : PySem.W.Frag} {mg : Str → Option Value} {base : Heap}
theorem okG {x qual : Str} {st : Stmt} {f : Addr} {fd : FuncData} {N ps : List Str} {k : Nat} {sp : Sp} (F : Fun K x qual st f fd) (S : FnScope N ps (defScope st)) (len : ∀ vs H Q E, sp vs H Q E → vs.length = ps.length)
    (body : ∀ (cd : Value) (A : Around) (outer : List Env) (s : Shared) (H : Hp) (vs : List V) (Q : VK) (E : XK), (A.deeper (envOfC qual (defScope st) s.heap.objs.size f cd)).guards = some [] → Room k (A.deeper (envOfC qual (defScope st) s.heap.objs.size f cd)) → sp vs H Q E →
      ∃ t, PSs (cxOf CX0 P w K mg base N qual (defScope st) f cd A outer s H E).nox (defBody st) t ∧ t { nx := fun _ H' => Q .non H', rt := Q } (start N vs) H) : FnG P w K mg base (k + 1) f fd ps sp := by
  obtain ⟨oc, od, kV, doc, pm, an, cd, ct, osl, rfl, lk, hcd⟩ := F.ex
  refine ⟨len, fun A outer s H args us vs Q E hg hr e0 hb r hsp => ?_⟩
  have hl := len vs H Q E hsp
  have KX : K.In s.heap := e0.mod.kin.keeps fun b o e => (e0.bs b o e).1
  have lim : s.heap.NoLimit := e0.mod.nolimit.keeps fun b o e => (e0.bs b o e).1
  have kinds : ∀ y ∈ ps.zip us, (defScope st).names.lookup y.1 = some .local ∨ ((defScope st).names.lookup y.1 = some .cell ∧ ((cellsFrom (s.heap.objs.size + 1) (defScope st).names []).lookup y.1).isSome = true) := fun ⟨n, v⟩ hy =>
    (S.par n (List.of_mem_zip hy).1).elim Or.inl fun q => Or.inr ⟨q, PySem.W.cellsFrom_some _ _ _ (.inl q)⟩
  refine codeAny_call_function hr.depth (KX _ _ lk) rfl S.co S.gen rfl (PySem.W.codeRec_of KX hcd) (hb _ _ _ _ ?_)
  refine wpAny_newFunctionEnv_cells S.kind kinds fun env he s1 x => ?_
  subst he
  refine ⟨lim.keeps x.toInCall.keep, codeAny_func ?_⟩
  obtain ⟨t, ht, hq⟩ := body cd A outer s H vs Q E hg (hr.deeper _) hsp
  have I : Inv (cxOf CX0 P w K mg base N qual (defScope st) f cd A outer s H E) [] (start N vs) H s1 := inv_start S hr.hd e0 hl r x
  refine wpAny_mono (ht.nox.run [] s1 (start N vs) H _ I hq) (fun fl s' hs => ?_) fun e s' hs => hs
  cases fl with
  | next =>
    obtain ⟨σ', H', J, q⟩ := hs
    exact ⟨V.non, H', J.os, J.bare, J.base, J.hok, rfl, q⟩
  | ret u =>
    obtain ⟨v, σ', H', J, rv, q⟩ := hs
    exact ⟨v, H', J.os, J.bare, J.base, J.hok, rv, q⟩
  | brk =>
    obtain ⟨σ', H', J, q⟩ := hs
    exact q.elim
  | cont =>
    obtain ⟨σ', H', J, q⟩ := hs
    exact q.elim
end
/-- a def at level 0: it calls no def -/
theorem ok0 {P : Program} {w : World} {K : PySem.W.Frag} {mg : Str → Option Value} {base : Heap} {x qual : Str} {st : Stmt} {f : Addr} {fd : FuncData} {N ps : List Str} {sp : Sp} (F : Fun K x qual st f fd) (S : FnScope N ps (defScope st)) (len : ∀ vs H Q E, sp vs H Q E → vs.length = ps.length)
    (body : ∀ (cd : Value) (A : Around) (outer : List Env) (s : Shared) (H : Hp) (vs : List V) (Q : VK) (E : XK), sp vs H Q E →
      ∃ t, PSs (cxOf CX0 P w K mg base N qual (defScope st) f cd A outer s H E).nox (defBody st) t ∧ t { nx := fun _ H' => Q .non H', rt := Q } (start N vs) H) : FnOk P w K mg base CX0 0 f fd ps sp := by
  obtain ⟨oc, od, kV, doc, pm, an, cd, ct, osl, rfl, lk, hcd⟩ := F.ex
  refine ⟨len, fun A outer s H args us vs Q E hr e0 hb r hsp => ?_⟩
  have hl := len vs H Q E hsp
  have KX : K.In s.heap := e0.mod.kin.keeps fun b o e => (e0.bs b o e).1
  have lim : s.heap.NoLimit := e0.mod.nolimit.keeps fun b o e => (e0.bs b o e).1
  have kinds : ∀ y ∈ ps.zip us, (defScope st).names.lookup y.1 = some .local ∨ ((defScope st).names.lookup y.1 = some .cell ∧ ((cellsFrom (s.heap.objs.size + 1) (defScope st).names []).lookup y.1).isSome = true) := fun ⟨n, v⟩ hy =>
    (S.par n (List.of_mem_zip hy).1).elim Or.inl fun q => Or.inr ⟨q, PySem.W.cellsFrom_some _ _ _ (.inl q)⟩
  refine codeAny_call_function hr.depth (KX _ _ lk) rfl S.co S.gen rfl (PySem.W.codeRec_of KX hcd) (hb _ _ _ _ ?_)
  refine wpAny_newFunctionEnv_cells S.kind kinds fun env he s1 x => ?_
  subst he
  refine ⟨lim.keeps x.toInCall.keep, codeAny_func ?_⟩
  obtain ⟨t, ht, hq⟩ := body cd A outer s H vs Q E hsp
  have I : Inv (cxOf CX0 P w K mg base N qual (defScope st) f cd A outer s H E) [] (start N vs) H s1 := inv_start S hr.hd e0 hl r x
  refine wpAny_mono (ht.nox.run [] s1 (start N vs) H _ I hq) (fun fl s' hs => ?_) fun e s' hs => hs
  cases fl with
  | next =>
    obtain ⟨σ', H', J, q⟩ := hs
    exact ⟨V.non, H', J.os, J.bare, J.base, J.hok, rfl, q⟩
  | ret u =>
    obtain ⟨v, σ', H', J, rv, q⟩ := hs
    exact ⟨v, H', J.os, J.bare, J.base, J.hok, rv, q⟩
  | brk =>
    obtain ⟨σ', H', J, q⟩ := hs
    exact q.elim
  | cont =>
    obtain ⟨σ', H', J, q⟩ := hs
    exact q.elim
theorem pe_callG {X : Cx} {k : Nat} {f : Addr} {fd : FuncData} {ps : List Str} {sp : Sp} {x : Str} {p pos : Pos} {e : Expr} {es : List Expr} {t : TA} (F : FnG X.prog X.w X.K X.mg X.base k f fd ps sp) (hgu : X.A.guards = some []) (hr : Room k X.A) (hg : Gl X x) (hm : X.mg x = some (.ref f))
    (hk : PySem.W.keepIn X.K (.ref f) = true) (hb : Binds X.K fd ps []) (ha : PA X (e :: es) t) (hdb : (x == ("__debug__" : Str)) = false := by decide)
    (he : starEach (e :: es) X.env = (false, eval e X.env) :: starEach es X.env := by rfl) (hpl : (backTo pos (starEach es X.env)).any (·.1) = false := by rfl) :
    PE X (.Call (.Name x p) (e :: es) [] pos) (tCall sp [] E0 t) := by
  refine ⟨fun pins s σ H Q I h => ?_⟩
  refine wpAny_Call_Name_kw (ld_glob I hg hm ?_ hdb)
  refine PySem.W.callWith_K (h₀ := X.base) I.ok.mod.kin hk (thn (ha.run pos pins s σ H _ I h) fun us s1 ⟨vs, H1, I1, r, q⟩ => ⟨I1.kIn, ?_⟩) he hpl
  have q' : sp vs H1 Q E0 := by
    have z : sp (vs ++ []) H1 Q E0 := q
    rw [List.append_nil] at z
    exact z
  have hl : us.length = ps.length := by
    rw [← r.length]
    exact F.len _ _ _ _ q'
  have hb' := hb s1 us I1.kIn (by rw [List.append_nil]; exact hl)
  rw [List.append_nil] at hb'
  refine wpAny_call (codeAny_mono (F.run X.A X.stack s1 H1 ⟨us, []⟩ us vs Q E0 hgu hr I1.env0 hb' r q') fun r s' hq => ?_)
  cases r with
  | error e => exact hq.elim
  | ok fl =>
    cases fl with
    | ret u => exact I1.after hq
    | next => exact hq.elim
    | brk => exact hq.elim
    | cont => exact hq.elim
end L3

namespace L3
open PySem PySem.Spec PyProof.Rows L2 Evl
/-! ### data that is small: it may be compared and shown -/
mutual
def niceD : PyData → Bool
  | .none | .bool _ => true
  | .int i => decide (i.natAbs < 10 ^ 50)
  | .str x => PyData.strOk x && decide (x.cps.size ≤ 100)
  | .list xs | .tuple xs => niceAll xs
  | .dict _ => false
def niceAll : List PyData → Bool
  | [] => true
  | x :: xs => niceD x && niceAll xs
end
mutual
def nodes : PyData → Nat
  | .list xs | .tuple xs => nodesAll xs + 1
  | _ => 1
def nodesAll : List PyData → Nat
  | [] => 0
  | x :: xs => nodes x + nodesAll xs
end
mutual
theorem nice_nd : ∀ d : PyData, niceD d = true → d.hasDict = false
  | .none, _ | .bool _, _ | .int _, _ | .str _, _ => rfl
  | .list xs, h => nice_ndAll xs h
  | .tuple xs, h => nice_ndAll xs h
theorem nice_ndAll : ∀ xs : List PyData, niceAll xs = true → PyData.hasDictAll xs = false
  | [], _ => rfl
  | x :: xs, h => by
    have h' := Bool.and_eq_true_iff.mp (show (niceD x && niceAll xs) = true from h)
    show (x.hasDict || PyData.hasDictAll xs) = false
    rw [nice_nd x h'.1, nice_ndAll xs h'.2] <;> rfl
end
theorem log_small {i : Int} (h : i.natAbs < 10 ^ 50) : i.natAbs.log2 < 180 := by
  by_cases z : i.natAbs = 0
  · rw [z]
    decide
  · exact (Nat.log2_lt z).mpr (Nat.lt_of_lt_of_le h (by decide))
mutual
theorem nice_show : ∀ d : PyData, niceD d = true → d.showable = true
  | .none, _ | .bool _, _ | .str _, _ => rfl
  | .int i, h => decide_eq_true (Nat.lt_of_lt_of_le (log_small (of_decide_eq_true h)) (by decide))
  | .list xs, h => nice_showAll xs h
  | .tuple xs, h => nice_showAll xs h
theorem nice_showAll : ∀ xs : List PyData, niceAll xs = true → PyData.showableAll xs = true
  | [], _ => rfl
  | x :: xs, h => by
    have h' := Bool.and_eq_true_iff.mp (show (niceD x && niceAll xs) = true from h)
    show (x.showable && PyData.showableAll xs) = true
    rw [nice_show x h'.1, nice_showAll xs h'.2] <;> rfl
end
mutual
theorem nice_lay : ∀ d : PyData, niceD d = true → d.canLay0 = true
  | .none, _ | .bool _, _ | .int _, _ => rfl
  | .str x, h => (Bool.and_eq_true_iff.mp (show (PyData.strOk x && decide (x.cps.size ≤ 100)) = true from h)).1
  | .list xs, h => nice_layAll xs h
  | .tuple xs, h => nice_layAll xs h
theorem nice_layAll : ∀ xs : List PyData, niceAll xs = true → PyData.canLayAll0 xs = true
  | [], _ => rfl
  | x :: xs, h => by
    have h' := Bool.and_eq_true_iff.mp (show (niceD x && niceAll xs) = true from h)
    show (x.canLay0 && PyData.canLayAll0 xs) = true
    rw [nice_lay x h'.1, nice_layAll xs h'.2] <;> rfl
end
mutual
theorem nice_short : ∀ d : PyData, niceD d = true → PyData.leavesShort 61 d = true
  | .none, _ | .bool _, _ => rfl
  | .int i, h => decide_eq_true (by
      have z := int_text_length_le10 (a := i) (k := 50) (by decide) (of_decide_eq_true h)
      show (Str.ofString (toString i)).length ≤ 61
      rw [PySem.ofString_length]
      omega)
  | .str x, h => by
    have q := (Bool.and_eq_true_iff.mp (show (PyData.strOk x && decide (x.cps.size ≤ 100)) = true from h)).1
    show (x.cps.toList.all fun c => decide (c < 16 ^ 8)) = true
    rw [List.all_eq_true]
    intro c hc
    have q2 : x.cps.all (fun c => decide (c < 0x110000)) = true := q
    have q3 : x.cps.toList.all (fun c => decide (c < 0x110000)) = true := by
      rw [← q2]
      simp
    have z := of_decide_eq_true (List.all_eq_true.mp q3 c hc)
    exact decide_eq_true (Nat.lt_of_lt_of_le z (by decide))
  | .list xs, h => nice_shortAll xs h
  | .tuple xs, h => nice_shortAll xs h
theorem nice_shortAll : ∀ xs : List PyData, niceAll xs = true → PyData.leavesShortAll 61 xs = true
  | [], _ => rfl
  | x :: xs, h => by
    have h' := Bool.and_eq_true_iff.mp (show (niceD x && niceAll xs) = true from h)
    show (PyData.leavesShort 61 x && PyData.leavesShortAll 61 xs) = true
    rw [nice_short x h'.1, nice_shortAll xs h'.2] <;> rfl
end
mutual
theorem nice_weight : ∀ d : PyData, niceD d = true → d.weight + 1 ≤ 201 * nodes d
  | .none, _ | .bool _, _ => by show 0 + 1 ≤ 201 * 1; decide
  | .int i, h => by
    show (if i == 0 then 0 else i.natAbs.log2 + 1) + 1 ≤ 201 * 1
    have z := log_small (of_decide_eq_true h)
    split <;> omega
  | .str x, h => by
    have q := of_decide_eq_true (Bool.and_eq_true_iff.mp (show (PyData.strOk x && decide (x.cps.size ≤ 100)) = true from h)).2
    show x.cps.size + 1 ≤ 201 * 1
    omega
  | .list xs, h => by
    have z := nice_weightAll xs h
    show PyData.weightAll xs + 1 ≤ 201 * (nodesAll xs + 1)
    omega
  | .tuple xs, h => by
    have z := nice_weightAll xs h
    show PyData.weightAll xs + 1 ≤ 201 * (nodesAll xs + 1)
    omega
theorem nice_weightAll : ∀ xs : List PyData, niceAll xs = true → PyData.weightAll xs ≤ 201 * nodesAll xs
  | [], _ => by show 0 ≤ 201 * 0; decide
  | x :: xs, h => by
    have h' := Bool.and_eq_true_iff.mp (show (niceD x && niceAll xs) = true from h)
    have z1 := nice_weight x h'.1
    have z2 := nice_weightAll xs h'.2
    show x.weight + 1 + PyData.weightAll xs ≤ 201 * (nodes x + nodesAll xs)
    omega
end
structure Nice (d : PyData) : Prop where
  ok : niceD d = true
  dp : d.depth ≤ 10
  nd : nodes d ≤ 1200
theorem Nice.shaped {d : PyData} (h : Nice d) : SeqAt.shaped d = true := by
  show (d.canLay0 && decide (d.depth ≤ 64)) = true
  rw [nice_lay d h.ok, decide_eq_true (by have := h.dp; omega : d.depth ≤ 64)] <;> rfl
theorem Nice.shw {d : PyData} (h : Nice d) : Shw d where
  ok := nice_show d h.ok
  nd := nice_nd d h.ok
  dp := by have := h.dp; omega
  sz := by
    have z := PyData.shown_le 61 (by decide) d (nice_short d h.ok)
    have z2 := nice_weight d h.ok
    have z3 := h.nd
    rw [sizeLine_eq]
    omega
mutual
theorem eqv_refl : ∀ d : PyData, d.hasDict = false → PyData.eqv d d = true
  | .none, _ => rfl
  | .bool b, _ => by show (b == b) = true; simp
  | .int i, _ => by show (i == i) = true; simp
  | .str x, _ => by show (x == x) = true; simp
  | .list xs, h => eqv_reflAll xs h
  | .tuple xs, h => eqv_reflAll xs h
theorem eqv_reflAll : ∀ xs : List PyData, PyData.hasDictAll xs = false → PyData.eqvAll xs xs = true
  | [], _ => rfl
  | x :: xs, h => by
    have h' : x.hasDict = false ∧ PyData.hasDictAll xs = false := by
      have z : (x.hasDict || PyData.hasDictAll xs) = false := h
      exact Bool.or_eq_false_iff.mp z
    show (PyData.eqv x x && PyData.eqvAll xs xs) = true
    rw [eqv_refl x h'.1, eqv_reflAll xs h'.2] <;> rfl
end
theorem Nice.refl {d : PyData} (h : Nice d) : PyData.eqv d d = true := eqv_refl d (nice_nd d h.ok)
/-- a list of small things -/
theorem nice_list {xs : List PyData} {k m : Nat} (h1 : ∀ x ∈ xs, niceD x = true ∧ x.depth ≤ k ∧ nodes x ≤ m) (hk : k ≤ 8) (hm : m * xs.length ≤ 1100) : Nice (.list xs) ∧ Nice (.tuple xs) := by
  have all : ∀ ys : List PyData, (∀ x ∈ ys, niceD x = true ∧ x.depth ≤ k ∧ nodes x ≤ m) → niceAll ys = true ∧ PyData.depthAll ys ≤ k ∧ nodesAll ys ≤ m * ys.length := by
    intro ys
    induction ys with
    | nil => intro _; exact ⟨rfl, Nat.zero_le _, Nat.zero_le _⟩
    | cons y r ih =>
      intro h
      obtain ⟨a1, a2, a3⟩ := h y List.mem_cons_self
      obtain ⟨b1, b2, b3⟩ := ih fun x hx => h x (List.mem_cons_of_mem _ hx)
      refine ⟨?_, ?_, ?_⟩
      · show (niceD y && niceAll r) = true
        rw [a1, b1] <;> rfl
      · show max y.depth (PyData.depthAll r) ≤ k
        omega
      · show nodes y + nodesAll r ≤ m * (r.length + 1)
        rw [Nat.mul_add, Nat.mul_one]
        omega
  obtain ⟨a, b, c⟩ := all xs h1
  constructor
  · exact ⟨a, by show PyData.depthAll xs + 1 ≤ 10; omega, by show nodesAll xs + 1 ≤ 1200; omega⟩
  · exact ⟨a, by show PyData.depthAll xs + 1 ≤ 10; omega, by show nodesAll xs + 1 ≤ 1200; omega⟩
/-! ### comprehensions over a tuple -/
section
variable {K : PySem.W.Frag} {σ : L2.St} {H : Hp} {te tl : TE} {t : TT}
theorem el_lcT {a : Addr} {xs : List V} {j : Nat} {vs : List Nat} (f : Nat → Bool) (v : Nat → V) (h : Ev tl σ H (.ref a)) (hx : SqT K H a xs) (hz : xs.length ≤ 40000) (hw : ∀ x, wipe ((wipe σ vs).set j (some x)) vs = wipe σ vs)
    (ht : ∀ (i : Nat) (x : V) H1, Ex H H1 → xs[i]? = some x → EvT t ((wipe σ vs).set j (some x)) H1 (f i)) (he : ∀ (i : Nat) (x : V) H1, Ex H H1 → xs[i]? = some x → f i = true → Ev te ((wipe σ vs).set j (some x)) H1 (v i)) :
    EvL (tLc (iTup K tl) (gName j) t te vs) σ H (given xs.length f v) := by
  intro H0 e Q q
  refine h H0 e _ fun H1 e1 => ⟨a, rfl, ⟨xs, ex_t (e.trans e1) hx⟩, fun Dl hD => ?_⟩
  refine lc_tup (xs := xs) (Cw H1 f v Dl) ⟨hD, Ex.new hD, upd_same⟩ (fun i H' _ p => ex_t ((e.trans e1).trans p.2.1) hx) (fun i x H' hi p => ?_) (fun H' p => q Dl H' (fresh_back e1 p.1) (e1.trans p.2.1) p.2.2)
  exact ⟨hw x, cw_turn p (by have := (List.getElem?_eq_some_iff.mp hi).1; omega) (ht i x H1 (e.trans e1) hi) (fun hf => he i x H1 (e.trans e1) hi hf)⟩
end
end L3

namespace L3
open PySem PySem.Spec PyProof.Rows L2 Evl
/-! ### the end, for a promise that holds where no repr is under way -/
section
variable {P : Program} {w : World} {K : PySem.W.Frag} {mg mb : Str → Option Value} {k : Nat} {fa a : Addr} {fd : FuncData} {x : Str} {sp : Sp} {z : Shared} {vs : List Value} {ns : List Int}
/-- from an abstract heap H that may track the script alone -/
theorem endAt (KX : K.In z.heap) (hn : z.heap.Ns mainGlobals mg) (hb : z.heap.Ns builtinsNs mb) (hbb : ∀ x : Str, x ≠ "__name__" → mb x = bootBuiltins x) (lim : z.heap.NoLimit) (hg : z.gens = #[])
    (ha : z.heap.get? a = some { cls := .type "list", data := .seq vs.toArray }) (hr : Room k callerA) (F : ∀ base : Heap, K.In base → base.Ns mainGlobals mg → FnG P w K mg base k fa fd [x] sp)
    (bi : ∀ (s : Shared) (u : Value), BindsTo s fd ⟨[u], []⟩ [(x, u)]) {H : Hp} (only : Only H) (hok : HOk P w H z.heap) (hA : ∀ b, H b ≠ none → b = a) (hK : H a ≠ none → K.lookup a = none) (hsp : sp [.ref a] H (fun v _ => v = .bl true) fun _ _ _ => False) :
    codeAny (model P w) callerA (.call (.ref fa) ⟨[.ref a], []⟩) (fun r s' => r = .ok (.ret (.bool true)) ∧ OldK z.heap s'.heap ∧ s'.os = z.os ∧ AllBare s'.gens) z := by
  have off : ∀ {b : Addr}, b ≠ a → H b = none := fun {b} hb => by
    cases q : H b with
    | none => rfl
    | some u => exact absurd (hA b (by rw [q]; simp)) hb
  have offD : ∀ {b : Addr} {o : Obj} {es : Array DictEntry} {ep : Nat}, z.heap.get? b = some o → o.data = .dict es ep → H b = none := fun {b o es ep} e d => off fun y => by
    rw [y, ha] at e
    cases e
    have d' : Data.seq vs.toArray _ = Data.dict es ep := d
    cases d'
  have offK : ∀ {b : Addr} {o : Obj}, K.lookup b = some o → H b = none := fun {b o} e => by
    by_cases c : b = a
    · cases q : H b with
      | none => rfl
      | some u =>
        have n := hK (by rw [← c, q]; simp)
        rw [← c, e] at n
        cases n
    · exact off c
  have nsK : ∀ {b : Addr} {m : Str → Option Value}, z.heap.Ns b m → (hidT z.heap H).Ns b m := fun {b m} ⟨o, es, ep, e, d, r⟩ => ⟨o, es, ep, hidT_get e (offD e d), d, r⟩
  have kb : K.In (hidT z.heap H) := fun b o e => hidT_get (KX b o e) (offK e)
  have md : Mod K mg (hidT z.heap H) := ⟨kb, nsK hn, ⟨mb, nsK hb, hbb⟩, let ⟨mc, h1, h2⟩ := lim; ⟨mc, nsK h1, h2⟩⟩
  have e0 : Env0 P w K mg (hidT z.heap H) callerA [] z H := ⟨rfl, md, fun b o e => of_hidT e, Nat.le_of_eq (hidT_size _ _), trivial, (fun b hb => absurd (show b ∈ ([] : List Addr) from hb) (by simp)), hok, .of_eq hg⟩
  refine codeAny_mono ((F _ kb (nsK hn)).run callerA [] z H ⟨[.ref a], []⟩ [.ref a] [.ref a] _ _ rfl hr e0 (bi z (.ref a)) (.cons rfl .nil) hsp) fun r s' h => ?_
  cases r with
  | error e => exact h.elim
  | ok fl =>
    cases fl with
    | ret u =>
      obtain ⟨v, H', os, bare, un, hok', rv, q⟩ := h
      obtain rfl : v = .bl true := q
      obtain rfl : u = Value.bool true := rv
      refine ⟨rfl, OldK.of_keep fun b o e => ?_, os, bare⟩
      rcases only b with n | ⟨ob, xs, n⟩
      · exact un.keep b o e n (fun y => absurd (show b ∈ ([] : List Addr) from y) (by simp)) (by simp)
      · obtain ⟨e1, _⟩ := hok b _ n
        obtain ⟨e2, _⟩ := hok' b _ (un.frzs b ob _ n)
        rw [e] at e1
        cases e1
        exact e2
    | next => exact h.elim
    | brk => exact h.elim
    | cont => exact h.elim
theorem endG (KX : K.In z.heap) (hn : z.heap.Ns mainGlobals mg) (hb : z.heap.Ns builtinsNs mb) (hbb : ∀ x : Str, x ≠ "__name__" → mb x = bootBuiltins x) (lim : z.heap.NoLimit) (hg : z.gens = #[])
    (ha : z.heap.get? a = some { cls := .type "list", data := .seq vs.toArray }) (hi : IntsAre vs ns) (hl : ns.length ≤ sizeLine) (hr : Room k callerA) (F : ∀ base : Heap, K.In base → base.Ns mainGlobals mg → FnG P w K mg base k fa fd [x] sp)
    (bi : ∀ (s : Shared) (u : Value), BindsTo s fd ⟨[u], []⟩ [(x, u)]) (hsp : ∀ H : Hp, Only H → SqL K H a (ns.map V.int) → sp [.ref a] H (fun v _ => v = .bl true) fun _ _ _ => False) :
    codeAny (model P w) callerA (.call (.ref fa) ⟨[.ref a], []⟩) (fun r s' => r = .ok (.ret (.bool true)) ∧ OldK z.heap s'.heap ∧ s'.os = z.os ∧ AllBare s'.gens) z := by
  have rv := vals_ints hi
  cases hk : K.lookup a with
  | some o =>
    have e := KX a o hk
    rw [ha] at e
    cases e
    have hS : SqL K (fun _ => none) a (ns.map V.int) := Or.inr ⟨_, vs.toArray, _, hk, rfl, rfl, rfl, by rw [List.size_toArray, hi.length]; exact hl, by simpa using rv⟩
    have on : Only (fun _ => none) := fun _ => Or.inl rfl
    exact endAt KX hn hb hbb lim hg ha hr F bi on (fun b u y => nomatch (show (none : Option HO) = some u from y)) (fun b y => absurd rfl y) (fun y => absurd rfl y) (hsp _ on hS)
  | none =>
    have at_ : (fun b : Addr => if b = a then some (HO.frz { cls := .type "list", data := .seq vs.toArray } (.lst (ns.map V.int))) else none) a = some (.frz { cls := .type "list", data := .seq vs.toArray } (.lst (ns.map V.int))) := if_pos rfl
    have on : Only (fun b : Addr => if b = a then some (HO.frz { cls := .type "list", data := .seq vs.toArray } (.lst (ns.map V.int))) else none) := fun b => by
      by_cases c : b = a
      · exact Or.inr ⟨_, _, if_pos c⟩
      · exact Or.inl (if_neg c)
    refine endAt KX hn hb hbb lim hg ha hr F bi on (fun b u y => ?_) (fun b y => ?_) (fun _ => hk) (hsp _ on (Or.inl (Or.inr ⟨_, at_⟩)))
    · by_cases c : b = a
      · have y' := (if_pos c).symm.trans y
        cases y'
        rw [c]
        exact ⟨ha, by rw [List.length_map]; exact hl, vs, _, rv, ha⟩
      · have y' := (if_neg c).symm.trans y
        cases y'
    · by_cases c : b = a
      · exact c
      · exact absurd (if_neg c) y
end
theorem walkG {l : PySem.W.OpenLaw} {n k : Nat} {q : Program} {loose : List Str} {XP : (Str → Option Value) → Heap → Prop} {YP : World → Heap → Prop} {d : DefRec} {K : Params → PySem.W.Frag} {sp : World → Sp} {x : Str} (hn : l.most = some n) (hn2 : n ≤ sizeLine) (hdf : d.params.defaults = []) (hr : Room k callerA)
    (hY : ∀ (w : World) (h : Heap), YP w h → (K w.params).In h)
    (F : ∀ (w : World) (mg : Str → Option Value) (fa : Addr) (h : Heap), (K w.params).In h → h.Ns mainGlobals mg → mg d.name = some (.ref fa) →
      ∃ fd : FuncData, (∀ (s : Shared) (u : Value), BindsTo s fd ⟨[u], []⟩ [(x, u)]) ∧ ∀ base : Heap, (K w.params).In base → base.Ns mainGlobals mg → FnG l.prog w (K w.params) mg base k fa fd [x] (sp w))
    (hsp : ∀ (w : World) (H : Hp) (a : Addr) (ns : List Int), ns.length ≤ n → Only H → SqL (K w.params) H a (ns.map V.int) → sp w [.ref a] H (fun v _ => v = .bl true) fun _ _ _ => False) :
    PySem.W.WalkO q loose XP YP l.row.toRowW d [] (fun f vs => PySem.call f vs) := by
  refine Att.attach_call hn hdf fun w s₀ z mg mb fa o pm cd doc a vs ns G Y ho hd hcd hmg hobj hints hlen hg => ?_
  have KX := hY w _ Y
  obtain ⟨fd, hb, hF⟩ := F w mg fa _ KX G.T.g hmg
  exact endG KX G.T.g G.T.b G.T.builtins G.T.nolimit hg hobj hints (Nat.le_trans hlen hn2) hr hF hb fun H hO hS => hsp w H a ns hlen hO hS
end L3

namespace L3
open PySem PySem.Spec PyProof.Rows L2 Evl
/-! ### several clauses, some naming two classes at once -/
def exmC (K : PySem.W.Frag) (cls : Value) : List Value → Option Bool
  | [c] => PySem.W.exmOne K cls c
  | l => PySem.W.exmAny K cls l
abbrev ClauseT := List Value × Option Nat × (Addr → Value → Option Addr → TS)
def wClT (K : PySem.W.Frag) (Wout : WX) (D : Ends) : List ClauseT → WX
  | [] => Wout
  | (cs, o, t) :: r => fun cls d σ H => ∃ b, exmC K cls cs = some b ∧ (b = true → ∀ a, H a = none → suiteOf D o (t a cls d) a σ H) ∧ (b = false → wClT K Wout D r cls d σ H)
inductive TestOk (X : Cx) : Expr → List Value → Prop
  | one {x : Str} {c : Value} {p : Pos} (hc : Names X x c) : TestOk X (.Name x p) [c]
  | two {x y : Str} {c e : Value} {p q r : Pos} {kk : Nat} (hc : Names X x c) (he : Names X y e) : TestOk X (.Tuple [.Name x p, .Name y q] kk r) [c, e]
inductive ClsT (X : Cx) : List ExceptHandler → List ClauseT → Prop
  | nil : ClsT X [] []
  | bare {te : Expr} {cs : List Value} {t : Addr → Value → Option Addr → TS} {b : Stmt} {bs : List Stmt} {q : Pos} {hs : List ExceptHandler} {l : List ClauseT} (hc : TestOk X te cs)
      (hsu : ∀ (a : Addr) (o : Obj) (cls : Value) (d : Option Addr) (pn : List (Addr × Obj)), Zc cls d o → (∃ vs, o.data = .fields vs) → PSs (X.suite a ((a, o) :: pn)) (b :: bs) (t a cls d)) (r : ClsT X hs l) :
      ClsT X (.ExceptHandler (some te) none (b :: bs) q :: hs) ((cs, none, t) :: l)
  | named {te : Expr} {n : Str} {i : Nat} {cs : List Value} {t : Addr → Value → Option Addr → TS} {b : Stmt} {bs : List Stmt} {q : Pos} {hs : List ExceptHandler} {l : List ClauseT} (hN : X.N.Nodup) (hi : X.N[i]? = some n) (hn : X.env.kindOf n = some .local) (hc : TestOk X te cs)
      (hsu : ∀ (a : Addr) (o : Obj) (cls : Value) (d : Option Addr) (pn : List (Addr × Obj)), Zc cls d o → (∃ vs, o.data = .fields vs) → PSs (X.suite a ((a, o) :: pn)) (b :: bs) (t a cls d)) (r : ClsT X hs l) :
      ClsT X (.ExceptHandler (some te) (some n) (b :: bs) q :: hs) ((cs, some i, t) :: l)
/-- a flight bears a further object -/
theorem flying_push {B : Heap} {l : List Env} {a : Addr} {Z : Obj → Prop} {h : Heap} {o : Obj} (fl : HandSPX.FlyingZ B l a Z h) : HandSPX.FlyingZ B l a Z (h.push o) := by
  have kp : ∀ b u, h.get? b = some u → (h.push o).get? b = some u := fun _ _ z => Heap.get?_push_of_some _ z
  obtain ⟨f1, f2, f3, oe, vs, T, oT, ts, g1, g2, g3, g4, g5, g6, g7, g8, g9⟩ := fl
  exact ⟨fun b u e => kp b u (f1 b u e), f2, Heap.FunFrames.of_keeps (fun b u e _ => ⟨u, kp b u e, rfl⟩) f3, oe, vs, T, oT, ts, kp _ _ g1, g2, g3, g4, g5, g6, kp _ _ g7, g8, g9⟩
theorem ps_tryT {X : Cx} {body : List Stmt} {h : ExceptHandler} {hs : List ExceptHandler} {l : List ClauseT} {pos : Pos} {tb : WX → TS} {Wout : WX} (st : X.stack = X.env :: X.outer) (fr : X.env.frame = some X.env.locals) (tk : Takes X Wout)
    (bo : ∀ (W : WX) (pn : List (Addr × Obj)) (xe : Value → Shared → Prop), Takes (X.tr pn xe) W → PassesOwn (model X.prog X.w) X.A X.env xe → PSs (X.tr pn xe) body (tb W))
    (cl : ClsT X (h :: hs) l) : PS X (.Try body (h :: hs) [] [] pos) (fun D σ H => tb (wClT X.K Wout D l) D σ H) := by
  refine ⟨fun pins s σ H D I rd => ?_⟩
  have ok := I.ok
  have hfr : X.A.frames = some (X.env :: X.outer) := by rw [ok.frames, st]
  refine wpAny_Try_except ?_
  refine wpAny_mono ((bo (wClT X.K Wout D l) (X.pn ++ pins) (fun e z => wpAny (model X.prog X.w) X.A (noteFrame e X.env) (fun _ z2 => wpAny (model X.prog X.w) X.A (setFlight e none) (fun _ z3 =>
    wpAny (model X.prog X.w) X.A (handleBy e X.env (h :: hs)) (SP X pins D) X.xe z3) X.xe z2) X.xe z) (fun u s' hit => ?_) PassesOwn.looking).run [] s σ H D (I.toTry _) rd) (fun f z sp => ?_) (fun e z he => he)
  · obtain ⟨a, B, s0, pins', σ', H', cls, d, rfl, J', nb, up, sky, na, os, ag, wish⟩ := hit
    have J : Inv X pins σ' H' s0 := J'.ofTry ok
    have sky' : Sky B (X.env :: X.outer) a (Zc cls d) X.env.locals s'.heap := by
      rw [← st]
      exact sky
    show wpAny (model X.prog X.w) X.A (noteFrame (.ref a) X.env) _ _ _
    refine Sky.land Zc.steady hfr fr sky' fun h0 fl0 up0 => ?_
    have off : ∀ {hh : Heap} {o3 : Obj} {v3 : Array Value}, Inv X pins σ' H' { s' with heap := hh } → HandSPX.FlyingZ B (X.env :: X.outer) a (Zc cls d) hh → hh.get? a = some o3 → o3.data = .fields v3 → a ≠ X.env.locals ∧ a ∉ X.fs := fun {hh o3 v3} _ fl at3 d3 => by
      have of1 : a ∉ frs (X.env :: X.outer) := fun hm => by
        obtain ⟨_, o', e', nf⟩ := fl.2.2.1.mem hm
        rw [at3] at e'
        cases e'
        exact nf _ d3
      exact ⟨fun z => of1 (List.mem_filterMap.mpr ⟨X.env, List.mem_cons_self, by rw [fr, z]⟩), fun hm => by
        obtain ⟨e, he, q⟩ := List.mem_filterMap.mp hm
        exact of1 (List.mem_filterMap.mpr ⟨e, List.mem_cons_of_mem _ he, q⟩)⟩
    have tst : ∀ {te : Expr} {cs : List Value} {b : Bool} {R : Bool → Shared → Prop} {E1 E2 : Value → Shared → Prop}, TestOk X te cs → exmC X.K cls cs = some b → ∀ h3, HandSPX.FlyingZ B (X.env :: X.outer) a (Zc cls d) h3 → s'.heap.UpToSlots h3 →
        (∀ h4, HandSPX.FlyingZ B (X.env :: X.outer) a (Zc cls d) h4 → s'.heap.UpToSlots h4 → R b { s' with heap := h4 }) →
        wpAny (model X.prog X.w) (X.A.mark (some (.ref a))) (eval te X.env) (fun c s2 => wpAny (model X.prog X.w) (X.A.mark (some (.ref a))) (excMatches (.ref a) c) R E1 s2) E2 { s' with heap := h3 } := by
      intro te cs b R E1 E2 ht hb h3 fl up3 q
      have J3 : Inv X pins σ' H' { s' with heap := h3 } := J.landed nb fl.1 (up.trans up3) os ag
      obtain ⟨o3, v3, at3, z3, d3⟩ := fl.there
      obtain ⟨nL, nF⟩ := off J3 fl at3 d3
      have S3 := J3.suite at3 d3 na nL nF
      have typ : PySem.W.Looks (model X.prog X.w) h3 (typeOf (.ref a)) cls := fun A Q E s k q => wpAny_typeOf_ref (k _ _ at3) (by rw [z3.1]; exact q)
      have named : ∀ {x : Str} {c : Value} {p : Pos} {Q E0 : Value → Shared → Prop}, Names X x c → Q c { s' with heap := h3 } →
          wpAny (model X.prog X.w) (X.A.mark (some (.ref a))) (eval (.Name x p) X.env) Q E0 { s' with heap := h3 } := fun {x c p Q E0} hc q => by
        obtain ⟨hg, hdb, hm | ⟨hm, hv, hne⟩⟩ := hc
        · exact ld_glob (X := X.suite a ((a, o3) :: (X.pn ++ pins))) S3 hg hm q hdb
        · exact ld_blt (X := X.suite a ((a, o3) :: (X.pn ++ pins))) S3 hg hm hv q hne hdb
      cases ht with
      | one hc => exact named hc ((PySem.W.exm_one (M := model X.prog X.w) (J3.kIn) typ hb).here (q h3 fl up3))
      | @two x y c e p r r2 kk hc he =>
        refine wpAny_Tuple ?_
        refine wpAny_items_cons (named hc ?_)
        refine wpAny_items_cons (named he ?_)
        refine wpAny_items_nil ⟨by size_fits, ?_⟩
        have kp : ∀ b o, h3.get? b = some o → (h3.push { cls := .type "tuple", data := .seq [c, e].toArray }).get? b = some o := fun _ _ z => Heap.get?_push_of_some _ z
        refine (PySem.W.exm_tup2 (M := model X.prog X.w) (J3.kIn.keeps kp) (typ.keeps kp) (Heap.get?_push_size h3 rfl) hb).here (q _ (flying_push fl) (up3.trans (Heap.UpToSlots.of_keeps kp)))
    have go : ∀ {ks : List ExceptHandler} {ls : List ClauseT}, ClsT X ks ls → wClT X.K Wout D ls cls d σ' H' → ∀ h3, HandSPX.FlyingZ B (X.env :: X.outer) a (Zc cls d) h3 → s'.heap.UpToSlots h3 →
        wpAny (model X.prog X.w) X.A (handleBy (.ref a) X.env ks) (SP X pins D) X.xe { s' with heap := h3 } := by
      intro ks ls hk
      induction hk with
      | nil =>
        intro wi h3 fl up3
        have J3 : Inv X pins σ' H' { s' with heap := h3 } := J.landed nb fl.1 (up.trans up3) os ag
        refine wpAny_handleBy_nil ?_
        obtain ⟨y1, y2, y3, oe, vs, Ta, oT, ts, he, hz, hd, hv1, hrest⟩ := id fl
        unfold PySem.passOn
        refine wpAny_bind (wpAny_field he hd hv1 ?_)
        rw [if_neg (show ¬ ((Value.ref Ta == Value.none) = true) by simp)]
        have fin : wpAny (model X.prog X.w) X.A (setFlight (.ref a) X.env.frame) (fun _ w4 => wpAny (model X.prog X.w) X.A (throw (.ref a) : Sem Flow) (SP X pins D) X.xe w4) X.xe { s' with heap := h3 } := by
          rw [fr]
          refine HandSPX.setFlight_upZ fl fun h4 hh up4 => wpAny_throw (tk _ _ ?_)
          exact ⟨a, B, s0, pins, σ', H', cls, d, rfl, J, nb, (up.trans up3).trans up4, .inr (.inr (by rw [st]; exact hh)), na, os, ag, wi⟩
        first | exact wpAny_bind (wpAny_pure (wpAny_bind fin)) | exact wpAny_bind fin
      | @bare te cs t b bs q hs2 l2 hc hsu r ih =>
        intro wi h3 fl up3
        obtain ⟨y, hy, yes, no⟩ := wi
        refine wpAny_handleBy_cons (codeAny_handlers_test ?_) (by cases hc <;> (intro q; cases q))
        refine tst hc hy h3 fl up3 fun h4 fl4 up4 => ?_
        cases y with
        | false =>
          show wpAny _ X.A (handleBy (.ref a) X.env hs2) _ _ _
          exact ih (no rfl) h4 fl4 up4
        | true =>
          refine codeAny_handlers_suite ?_
          refine HandSPX.lands_againZ fl4 fun h5 fl5 up5 => ?_
          have J5 : Inv X pins σ' H' { s' with heap := h5 } := J.landed nb fl5.1 ((up.trans up4).trans up5) os ag
          obtain ⟨o5, v5, at5, z5, d5⟩ := fl5.there
          obtain ⟨nL, nF⟩ := off J5 fl5 at5 d5
          have S5 := J5.suite at5 d5 na nL nF
          refine wpAny_mono ((hsu a o5 cls d (X.pn ++ pins) z5 ⟨_, d5⟩).run [] _ _ H' D S5 (yes rfl a na)) (fun f s6 sp => ?_) (fun _ _ z => False.elim z)
          cases f with
          | ret u =>
            obtain ⟨v6, σ6, H6, S6, r6, q6⟩ := sp
            exact ⟨v6, σ6, H6, S6.unsuite ok, r6, q6⟩
          | next =>
            obtain ⟨σ6, H6, S6, q6⟩ := sp
            exact ⟨σ6, H6, S6.unsuite ok, q6⟩
          | brk =>
            obtain ⟨σ6, H6, S6, q6⟩ := sp
            exact ⟨σ6, H6, S6.unsuite ok, q6⟩
          | cont =>
            obtain ⟨σ6, H6, S6, q6⟩ := sp
            exact ⟨σ6, H6, S6.unsuite ok, q6⟩
      | @named te n i cs t b bs q hs2 l2 hN hi hn hc hsu r ih =>
        intro wi h3 fl up3
        obtain ⟨y, hy, yes, no⟩ := wi
        refine wpAny_handleBy_cons (codeAny_handlers_test ?_) (by cases hc <;> (intro q; cases q))
        refine tst hc hy h3 fl up3 fun h4 fl4 up4 => ?_
        cases y with
        | false =>
          show wpAny _ X.A (handleBy (.ref a) X.env hs2) _ _ _
          exact ih (no rfl) h4 fl4 up4
        | true =>
          refine codeAny_handlers_suite_as ?_
          refine HandSPX.lands_againZ fl4 fun h5 fl5 up5 => ?_
          have J5 : Inv X pins σ' H' { s' with heap := h5 } := J.landed nb fl5.1 ((up.trans up4).trans up5) os ag
          obtain ⟨o5, v5, at5, z5, d5⟩ := fl5.there
          obtain ⟨nL, nF⟩ := off J5 fl5 at5 d5
          have S5 := J5.suite at5 d5 na nL nF
          refine store_ok (X := X.suite a ((a, o5) :: (X.pn ++ pins))) (v := .ref a) S5 hN hi (.inl hn) rfl (fun sx Sx => ?_) (.inr hn)
          refine wpAny_mono ((hsu a o5 cls d (X.pn ++ pins) z5 ⟨_, d5⟩).run [] sx _ H' (gone D i) Sx (yes rfl a na)) (fun f s6 sp => ?_) (fun _ _ z => False.elim z)
          have out : ∀ {σ6 : L2.St} {H6 : Hp} {Q : Shared → Prop}, Inv (X.suite a ((a, o5) :: (X.pn ++ pins))) [] σ6 H6 s6 → (∀ s7, Inv X pins (σ6.set i none) H6 s7 → Q s7) →
              wpAny (model X.prog X.w) X.A (do bindName X.env n .none; unbindBehindTheSuite X.env n q) (fun _ s7 => Q s7) X.xe s6 := fun {σ6 H6 Q} S6 hq => gone_ok (S6.unsuite ok) hN hi hn hq
          cases f with
          | ret u =>
            obtain ⟨v6, σ6, H6, S6, r6, q6⟩ := sp
            exact out S6 fun s7 J7 => ⟨v6, _, H6, J7, r6, q6⟩
          | next =>
            obtain ⟨σ6, H6, S6, q6⟩ := sp
            exact out S6 fun s7 J7 => ⟨_, H6, J7, q6⟩
          | brk =>
            obtain ⟨σ6, H6, S6, q6⟩ := sp
            exact out S6 fun s7 J7 => ⟨_, H6, J7, q6⟩
          | cont =>
            obtain ⟨σ6, H6, S6, q6⟩ := sp
            exact out S6 fun s7 J7 => ⟨_, H6, J7, q6⟩
    exact go cl wish h0 fl0 up0
  · cases f with
    | ret u =>
      obtain ⟨v, σ', H', J', r, q⟩ := sp
      exact ⟨v, σ', H', J'.ofTry ok, r, q⟩
    | next =>
      obtain ⟨σ', H', J', q⟩ := sp
      exact wpAny_execs_nil ⟨σ', H', J'.ofTry ok, q⟩
    | brk =>
      obtain ⟨σ', H', J', q⟩ := sp
      exact ⟨σ', H', J'.ofTry ok, q⟩
    | cont =>
      obtain ⟨σ', H', J', q⟩ := sp
      exact ⟨σ', H', J'.ofTry ok, q⟩
/-! ### isinstance of a caught error that has a dict of its own -/
section
open PySem.W PySem.Calls
variable {prog : Program} {w : World} {A : Around} {E : Value → Shared → Prop} {s : Shared} {K : Frag} {x D : Addr} {ox : Obj} {od : Option Obj}
theorem find_data {C : Addr} {nm : Str} {at0 g0 : Value} (h1 : (clsIn K C).isSome = true) (h2 : findIn K (.ref C) nm = some (some at0)) (h3 : specialIn K at0 "__get__" = some (some g0)) (h4 : takesIn K at0 = some true) : findObj K C od nm = some (.bind g0 at0) := by
  obtain ⟨cd, h1⟩ := Option.isSome_iff_exists.mp h1
  unfold findObj
  rw [h1, Option.bind_some, h2, Option.bind_some]
  simp [h3, h4]
theorem class_of_err {Q : Option Value → Shared → Prop} (T : ExcC K D) (X : K.In s.heap) (I : InstAt s.heap x ox D od) (h : Q (some (.ref D)) { s with toks := s.toks + 1 }) : wpAny (model prog w) A (getAttr? (.ref x) "__class__") Q E s := by
  have ff : findObj K D od "__class__" = some (.bind (.builtin "getset_descriptor.__get__") (.builtin "object.__class__")) := find_data (by obtain ⟨cd, hc, _⟩ := any_some T.hd; rw [hc]; rfl) T.ha T.hn T.ht
  obtain ⟨hp, g, d, t, os⟩ := s
  have T0 := I.type (M := model prog w)
  have T1 := looks_findIn (M := model prog w) X T.hg
  have T2 := looks_findIn (M := model prog w) X T.hk
  have T3 := looks_find (M := model prog w) X I ff
  have sb : Looks (model prog w) hp (isInstance (.ref x) (.type "BaseException")) true := T0.andThen (looks_subIn X T.hs)
  have n2 : (Value.builtin "BaseException.__getattribute__" == Value.builtin "object.__getattribute__") = false := by decide +kernel
  have n1 : (onTheHeap (Value.ref D) && Value.builtin "BaseException.__getattribute__" == Value.builtin "object.__getattribute__") = false := by rw [n2] <;> rfl
  have n0 : (false && onTheHeap (Value.builtin "BaseException.__getattribute__")) = false := rfl
  unfold getAttr? getAttrBy? getAttrBy
  refine wpAny_bind (wpAny_mkText (wpAny_bind (wpAny_attempt (wpAny_holding (wpAny_bind (T0.at (wpAny_bind (T1.at ?_))))))))
  show wpAny _ _ (if (onTheHeap (Value.ref D) && Value.builtin "BaseException.__getattribute__" == Value.builtin "object.__getattribute__") = true then _ else _) _ _ _
  rw [n1, if_neg Bool.false_ne_true]
  unfold getAttrByItsOwn hookBefore
  refine wpAny_bind ?_
  rw [if_pos (show onTheHeap (Value.ref D) = true from rfl)]
  refine T2.at ?_
  refine wpAny_bind (wpAny_attempt (wpAny_holding ?_))
  unfold callGetattribute
  rw [n0, if_neg Bool.false_ne_true]
  unfold boundAndCalled
  rw [PySem.F.excAttr_ValueError.ga.bind (.ref x)]
  refine wpAny_bind (wpAny_pure ?_)
  show wpAny _ _ (call (.builtin "BaseException.__getattribute__") [.ref x, .str "__class__" t]) _ _ _
  refine wpAny_call (codeAny_call_builtin PySem.F.excAttr_ValueError.ga.plain PySem.F.entry_bexc_ga ?_)
  refine @check_slot (model prog w) _ _ ⟨hp, g, d, t + 1, os⟩ "BaseException.__getattribute__" "BaseException" "__getattribute__" (.ref x) [.str "__class__" t] [] _ (by decide +kernel) (by decide +kernel) sb (PySem.F.args_bexc_ga (.ref x) (.str "__class__" t)) ?_
  unfold Builtin.«object.__getattribute__»
  refine wpAny_bind (wpAny_of_eq (a := ((Value.ref x : Value), [Value.str "__class__" t])) (by first | rfl | (simp only [slotArgs]; rfl)) ?_)
  refine wpAny_bind (wpAny_pure (wpAny_bind (T0.at (wpAny_bind (T3.at ?_)))))
  show wpAny _ _ (holding [Value.builtin "object.__class__"] (call (.builtin "getset_descriptor.__get__") [.builtin "object.__class__", .ref x, .ref D]) >>= ret) _ _ _
  refine wpAny_bind (wpAny_holding (wpAny_call (class_get (s := ⟨hp, g, d, t + 1, os⟩) (ox := ox) (od := od) X I T.hm ?_)))
  refine wpAny_pure ?_
  show wpAny _ _ (handedOut (.ref D)) _ _ _
  rw [handedOut_of (v := .ref D) rfl]
  first
    | exact wpAny_pure (wpAny_pure h)
    | exact wpAny_pure h
    | exact wpAny_pure (wpAny_bind (wpAny_pure (wpAny_pure h)))
theorem kitx_err (T : ExcC K D) : KitX K (.ref x) (.ref D) (fun h => InstAt h x ox D od) where
  ty := fun _ _ _ I => I.type
  it := fun _ _ X _ => by
    obtain ⟨cdD, hcD, _⟩ := any_some T.hd
    unfold clsIn at hcD
    split at hcD
    · rename_i c' d' cd' sl' ho
      intro A' Q' E' s' k q
      unfold isType loadHead
      exact wpAny_bind (wpAny_loadPart (k _ _ (X _ _ ho)) (wpAny_pure q))
    · cases hcD
  ne := fun h tp dd its n sl X htp => by
    obtain ⟨cdD, hcD, _⟩ := any_some T.hd
    refine Bool.eq_false_iff.mpr fun q => ?_
    have e : D = tp := Value.ref.inj (beq_iff_eq.mp q)
    subst e
    unfold clsIn at hcD
    split at hcD
    · rename_i c' d' cd' sl' ho
      have z := (X _ _ ho).symm.trans htp
      cases z
    · cases hcD
  ca := fun X I k => class_of_err T X I k
end
/-- isinstance(err, c), the error of class D with a dict of its own -/
def rIsX (K : PySem.W.Frag) (D a : Addr) (cls : Value) (d : Option Addr) : List V → Hp → VK → Prop := fun xs H Q => ∃ (c : V) (cv : Value) (b : Bool), xs = [.ref a, c] ∧ cls = .ref D ∧ (∃ (dd : Addr) (fs : List (Str × V)), d = some dd ∧ H dd = some (.xd fs)) ∧ (∀ u, RelV c u → u = cv) ∧ PySem.W.kitOne K (.ref D) cv = some b ∧ Q (.bl b) H
theorem call_isX {X : Cx} {a D : Addr} {oe : Obj} {cls : Value} {d : Option Addr} {pn : List (Addr × Obj)} (T : ExcC X.K D) (hz : Zc cls d oe) (hf : ∃ vs, oe.data = .fields vs) : CallR (X.suite a ((a, oe) :: pn)) (.builtin "isinstance") (rIsX X.K D a cls d) := by
  intro pins s σ H xs us Q I r h
  obtain ⟨c, cv, b, rfl, rfl, ⟨dd, fs, rfl, hdd⟩, hcv, e, q⟩ := h
  cases r with
  | cons rx rr =>
    cases rr with
    | cons rt rr =>
      cases rr
      cases rx
      have ec := hcv _ rt
      subst ec
      obtain ⟨hget, _⟩ := I.pin (a, oe) (List.mem_append.mpr (.inl List.mem_cons_self))
      obtain ⟨vs, hv⟩ := hf
      have hx : ObjOk X.prog X.w H s.heap dd (.xd fs) := I.hok dd _ hdd
      obtain ⟨mA, hns, hr⟩ := hx
      obtain ⟨od, ho, hl⟩ := lookIn_ns hns
      have J : PySem.W.InstAt s.heap a oe D (some od) := ⟨hget, hz.1, by unfold PySem.W.notCls; rw [hv] <;> rfl, by rw [hz.2]; exact ho⟩
      exact PySem.W.kia_one (kitx_err T) I.kIn J e (fun z => nomatch z) fun tk => ⟨.bl b, H, I.kept (t' := tk) fun _ _ z => z, rfl, q⟩
end L3

namespace L3
open PySem PySem.Spec PyProof.Rows L2 Evl
/-! ### what an expression tells, as data that stands where a heap B tells nothing -/
/-- what stands beside B -/
def newIn (H B : Hp) : Hp := fun a => match B a with
  | none => H a
  | some _ => none
section
variable {B H H1 : Hp} {g p : Addr} {o : HO}
theorem new_at (hB : B p = none) : newIn H B p = H p := by
  unfold newIn
  rw [hB]
theorem new_off (hB : B p = some o) : newIn H B p = none := by
  unfold newIn
  rw [hB]
theorem new_sub : Ex (newIn H B) H := fun a u h => by
  cases q : B a with
  | none =>
    rw [new_at q] at h
    exact h
  | some v =>
    rw [new_off q] at h
    cases h
theorem new_ex (e : Ex H H1) : Ex (newIn H B) (newIn H1 B) := fun a u h => by
  cases q : B a with
  | none =>
    rw [new_at q] at h ⊢
    exact e a u h
  | some v =>
    rw [new_off q] at h
    cases h
theorem new_del (hB : B g = some o) (e : Ex (newIn H B) H1) : Ex (newIn H B) (del H1 g) := fun a u h => by
  by_cases c : a = g
  · rw [c, new_off hB] at h
    cases h
  · rw [del_ne c]
    exact e a u h
theorem del_keep (e : Ex (del H g) (del H1 g)) (h : H p = some o) (n : p ≠ g) : H1 p = some o := by
  have z := e p o (by rw [del_ne n]; exact h)
  rw [del_ne n] at z
  exact z
theorem new_bag (hB : B g = some o) (e : Ex (del H g) (del H1 g)) : Ex (newIn H B) (newIn H1 B) := fun a u h => by
  cases q : B a with
  | none =>
    rw [new_at q] at h ⊢
    have c : a ≠ g := fun z => by
      rw [z, hB] at q
      cases q
    exact del_keep e h c
  | some v =>
    rw [new_off q] at h
    cases h
/-- one object alone -/
def onlyAt (H : Hp) (g : Addr) : Hp := fun a => if a = g then H g else none
theorem only_at : onlyAt H g g = H g := if_pos rfl
theorem only_ne (h : p ≠ g) : onlyAt H g p = none := if_neg h
theorem only_ex : Ex (onlyAt H g) H := fun a u h => by
  by_cases c : a = g
  · rw [c, only_at] at h
    rw [c]
    exact h
  · rw [only_ne c] at h
    cases h
theorem new_only (hg : H g = some o) : newIn H1 (onlyAt H g) = del H1 g := by
  funext b
  by_cases c : b = g
  · rw [c, new_off (by rw [only_at]; exact hg), del_same]
  · rw [new_at (only_ne c), del_ne c]
end
section
variable (K : PySem.W.Frag) (B : Hp)
def DvE (te : TE) (σ : L2.St) (H : Hp) (d : PyData) : Prop := ∀ H1, Ex H H1 → ∀ Q : VK, (∀ z H2, Ex H1 H2 → Dp K (newIn H2 B) z d → Q z H2) → te σ H1 Q
def DvA (ta : TA) (σ : L2.St) (H : Hp) (ds : List PyData) : Prop := ∀ H1, Ex H H1 → ∀ Q : List V → Hp → Prop, (∀ xs H2, Ex H1 H2 → DpAll K (newIn H2 B) xs ds → Q xs H2) → ta σ H1 Q
def DvL (te : TE) (σ : L2.St) (H : Hp) (ds : List PyData) : Prop := ∀ H1, Ex H H1 → ∀ Q : VK, (∀ p xs H2, Ex H1 H2 → B p = none → H2 p = some (.lst xs) → DpAll K (newIn H2 B) xs ds → Q (.ref p) H2) → te σ H1 Q
end
section
variable {K : PySem.W.Frag} {B : Hp} {σ : L2.St} {H : Hp} {te tb tn : TE} {ta tr : TA} {d : PyData} {ds es : List PyData} {v : V}
theorem dv_ev (h : Ev te σ H v) (hd : Dp K (newIn H B) v d) : DvE K B te σ H d := fun H1 e Q q => h H1 e Q fun H2 e2 => q v H2 e2 (dp_ex (new_ex (e.trans e2)) hd)
theorem dv_int {i : Int} (h : Ev te σ H (.int i)) : DvE K B te σ H (.int i) := fun H1 e Q q => h H1 e Q fun H2 e2 => q _ H2 e2 (.int i)
theorem dv_str {x : Str} (h : Ev te σ H (.str x)) : DvE K B te σ H (.str x) := fun H1 e Q q => h H1 e Q fun H2 e2 => q _ H2 e2 (.str x)
theorem dv_bl {b : Bool} (h : Ev te σ H (.bl b)) : DvE K B te σ H (.bool b) := fun H1 e Q q => h H1 e Q fun H2 e2 => q _ H2 e2 (.bl b)
theorem dv_non (h : Ev te σ H .non) : DvE K B te σ H .none := fun H1 e Q q => h H1 e Q fun H2 e2 => q _ H2 e2 .non
theorem da_nil : DvA K B tNil σ H [] := fun H1 e Q q => q [] H1 (Ex.refl H1) .nil
theorem da_cons (h : DvE K B te σ H d) (hr : DvA K B tr σ H ds) : DvA K B (tCons te tr) σ H (d :: ds) := fun H1 e Q q =>
  h H1 e _ fun z H2 e2 hz => hr H2 (e.trans e2) _ fun xs H3 e3 hx => q (z :: xs) H3 (e2.trans e3) (.cons (dp_ex (new_ex e3) hz) hx)
theorem dv_tup (hb : Ex B H) (h : DvA K B ta σ H ds) (hl : ds.length ≤ 100000) : DvE K B (tTup ta) σ H (.tuple ds) := fun H1 e Q q =>
  h H1 e _ fun xs H2 e2 hx => ⟨sz_of (by rw [dps_len' hx]; exact hl), fun p hp => q _ _ (e2.trans (Ex.new hp)) (.tup (st_of (by rw [new_at (fresh_back ((hb.trans e).trans e2) hp)]; exact upd_same)) (dps_ex (new_ex (Ex.new hp)) hx))⟩
theorem dl_lst (hb : Ex B H) (h : DvA K B ta σ H ds) (hl : ds.length ≤ 100000) : DvL K B (tLst ta) σ H ds := fun H1 e Q q =>
  h H1 e _ fun xs H2 e2 hx => ⟨sz_of (by rw [dps_len' hx]; exact hl), fun p hp => q _ xs _ (e2.trans (Ex.new hp)) (fresh_back ((hb.trans e).trans e2) hp) upd_same (dps_ex (new_ex (Ex.new hp)) hx)⟩
theorem dl_var {i : Nat} {p : Addr} {xs : List V} (h : σ[i]? = some (some (.ref p))) (n : B p = none) (hp : H p = some (.lst xs)) (hx : DpAll K (newIn H B) xs ds) : DvL K B (tVar i) σ H ds := fun H1 e Q q =>
  ⟨_, h, q p xs H1 (Ex.refl H1) n (e p _ hp) (dps_ex (new_ex e) hx)⟩
theorem dv_l (h : DvL K B te σ H ds) : DvE K B te σ H (.list ds) := fun H1 e Q q =>
  h H1 e Q fun p xs H2 e2 n hp hx => q _ H2 e2 (.lst (sq_of (by rw [new_at n]; exact hp)) hx)
theorem dps_app {H : Hp} : ∀ {xs ys : List V} {ds es : List PyData}, DpAll K H xs ds → DpAll K H ys es → DpAll K H (xs ++ ys) (ds ++ es)
  | _, _, _, _, .nil, h => h
  | _, _, _, _, .cons a r, h => .cons a (dps_app r h)
theorem dl_cat (hb : Ex B H) (h1 : DvL K B te σ H ds) (h2 : DvL K B tb σ H es) (hl : ds.length + es.length ≤ 100000) : DvL K B (tOp rCat te tb) σ H (ds ++ es) := fun H1 e Q q =>
  h1 H1 e _ fun p xs H2 e2 n2 hp2 hx2 => h2 H2 (e.trans e2) _ fun p3 ys H3 e3 n3 hp3 hx3 =>
    ⟨p, p3, xs, ys, rfl, rfl, e3 p _ hp2, hp3, sz_of (by rw [dps_len' hx2, dps_len' hx3]; exact hl), fun pz hpz =>
      q _ _ _ ((e2.trans e3).trans (Ex.new hpz)) (fresh_back (((hb.trans e).trans e2).trans e3) hpz) upd_same (dps_ex (new_ex (Ex.new hpz)) (dps_app (dps_ex (new_ex e3) hx2) hx3))⟩
theorem dl_rep {n : Nat} (hb : Ex B H) (h : DvE K B te σ H d) (hn : Ev tn σ H (.int (n : Int))) (hz : n ≤ 100000) : DvL K B (tOp rRep (tLst (tCons te tNil)) tn) σ H (List.replicate n d) := fun H1 e Q q =>
  h H1 e _ fun z H2 e2 hd => ⟨by show 1 ≤ sizeLine; decide, fun l hl => hn _ ((e.trans e2).trans (Ex.new hl)) _ fun H3 e3 => ⟨l, (n : Int), [z], rfl, rfl, e3 l _ upd_same, by omega, by omega, by
      have q1 : [z].length * ((n : Int)).toNat = n := by simp
      rw [q1]
      exact sz_of hz, fun p hp => by
        have q2 : (List.replicate ((n : Int)).toNat [z]).flatten = List.replicate n z := by simp
        rw [q2]
        have e23 := (Ex.new (o := .lst [z]) hl).trans e3
        refine q p _ _ ((e2.trans e23).trans (Ex.new hp)) (fresh_back (((hb.trans e).trans e2).trans e23) hp) upd_same (dps_ex (new_ex (Ex.new hp)) ?_)
        have hd3 : Dp K (newIn H3 B) z d := dp_ex (new_ex e23) hd
        clear q q2 hp hn hz
        induction n with
        | zero => exact .nil
        | succ m ih => exact .cons hd3 ih⟩⟩
theorem dps_take : ∀ {H : Hp} {xs : List V} {ds : List PyData} (n : Nat), DpAll K H xs ds → DpAll K H (xs.take n) (ds.take n)
  | _, _, _, 0, _ => .nil
  | _, _, _, _ + 1, .nil => .nil
  | _, _, _, n + 1, .cons a r => .cons a (dps_take n r)
theorem dps_drop : ∀ {H : Hp} {xs : List V} {ds : List PyData} (n : Nat), DpAll K H xs ds → DpAll K H (xs.drop n) (ds.drop n)
  | _, _, _, 0, h => h
  | _, _, _, _ + 1, .nil => .nil
  | _, _, _, n + 1, .cons _ r => dps_drop n r
theorem cut_take {xs : List V} (n : Nat) : cutV xs none (some (n : Int)) = xs.take n := by
  unfold cutV
  rw [HT.sIx_none, HT.sIx_nat, List.drop_zero, Nat.sub_zero]
  by_cases c : n ≤ xs.length
  · rw [Nat.min_eq_left c]
  · rw [Nat.min_eq_right (by omega), List.take_of_length_le (Nat.le_refl _), List.take_of_length_le (by omega)]
theorem passE {X : Cx} : Passes (L2.CX X.prog X.w) X E0 := fun _ _ _ _ _ _ _ ⟨_, _, _, _, _, _, _, _, _, _, _, _, h⟩ => h.elim
theorem q_asgDl {tz : TS} {D : Ends} {i : Nat} (h : DvL K B te σ H ds) (k : ∀ p xs H1, Ex H H1 → B p = none → H1 p = some (.lst xs) → DpAll K (newIn H1 B) xs ds → tz D (σ.set i (some (.ref p))) H1) : tSeq (tAsg te (gName i)) tz D σ H :=
  h H (Ex.refl H) _ fun p xs H2 e2 n hp hx => k p xs H2 e2 n hp hx
theorem q_asgD {tz : TS} {D : Ends} {i : Nat} (h : DvE K B te σ H d) (k : ∀ z H1, Ex H H1 → Dp K (newIn H1 B) z d → tz D (σ.set i (some z)) H1) : tSeq (tAsg te (gName i)) tz D σ H :=
  h H (Ex.refl H) _ fun z H2 e2 hz => k z H2 e2 hz
end
end L3

namespace L3
open PySem PySem.Spec PyProof.Rows L2 Evl
/-! ### own __str__, __repr__, == of one's own instances -/
/-- the special method m of the class C is the def at f -/
structure Spm (K : PySem.W.Frag) (C : Addr) (m : Str) (f : Addr) : Prop where
  at_ : PySem.W.findIn K (.ref C) m = some (some (.ref f))
  fn : PySem.W.isFn K (.ref f) = true
section
variable {X : Cx} {CX : CXT} {n : Nat} {C f : Addr} {fd : FuncData} {ps : List Str} {sp : Sp} {pins : List (Addr × Obj)} {σ : L2.St} {H : Hp} {s : Shared}
/-- an own def called somewhere within a builtin -/
theorem own_call {A' : Around} {us : List Value} {vs : List V} {Q : VK} (F : FnOk X.prog X.w X.K X.mg X.base CX n f fd ps sp) (hb : Binds X.K fd ps []) (hx : Passes CX X E0) (hr : Room n A') (hfr : A'.frames = X.A.frames) (I : Inv X pins σ H s) (r : Vals vs us) (h : sp vs H Q E0) :
    wpAny (model X.prog X.w) A' (call (.ref f) us) (EP X pins σ Q) X.xe s := by
  have e0 : Env0 X.prog X.w X.K X.mg X.base A' X.stack s H := by
    have e := I.env0
    exact ⟨by rw [hfr]; exact e.frames, e.mod, e.bs, e.bsz, e.funs, e.frf, e.hok, e.bare⟩
  have hl : us.length = ps.length := by
    rw [← r.length]
    exact F.len _ _ _ _ h
  have b := hb s us I.kIn (by rw [List.append_nil]; exact hl)
  rw [List.append_nil] at b
  refine wpAny_call (codeAny_mono (F.run A' X.stack s H ⟨us, []⟩ us vs Q E0 hr e0 b r h) fun rr s' hq => ?_)
  cases rr with
  | error e => exact hx pins σ H s e s' I hq
  | ok fl =>
    cases fl with
    | ret u => exact I.after hq
    | next => exact hq.elim
    | brk => exact hq.elim
    | cont => exact hq.elim
theorem strBack {Q : VK} {u : Value} {s' : Shared} (h : EP X pins σ (fun v H' => (∃ y, v = .str y) ∧ Q v H') u s') : PySem.W.StrBack (fun v s'' => EP X pins σ Q v s'') u s' := by
  obtain ⟨v, H', I', rv, ⟨y, rfl⟩, q⟩ := h
  obtain ⟨t, rfl⟩ := (show ∃ t, u = Value.str y t from rv)
  exact ⟨.str y, H', I', ⟨t, rfl⟩, q⟩
/-- str(x), repr(x) of an own instance: what its own def promises -/
def rOwn (C : Addr) (sp : Sp) : List V → Hp → VK → Prop := fun xs H Q => ∃ a dx fs, xs = [.ref a] ∧ H a = some (.ins C dx fs) ∧ sp [.ref a] H (fun v H' => (∃ y, v = .str y) ∧ Q v H') E0
theorem call_strO (S : Spm X.K C "__str__" f) (F : FnOk X.prog X.w X.K X.mg X.base CX n f fd ps sp) (hb : Binds X.K fd ps []) (hx : Passes CX X E0) (hr : Room (n + 2) X.A) : CallR X (.type "str") (rOwn C sp) := by
  intro pins s σ H xs us Q I r h
  obtain ⟨a, dx, fs, rfl, ha, h⟩ := h
  obtain ⟨u, rfl, rx⟩ := vals1 r
  cases (show u = Value.ref a from rx)
  obtain ⟨mA, O, _⟩ := ins_get I.hok ha
  obtain ⟨od, J, _⟩ := O.look
  exact PySem.W.kso_call hr.in1.in1.units0 I.kIn J S.at_ S.fn (wpAny_mono (own_call (vs := [V.ref a]) F hb hx hr.in1.in1 rfl I (.cons rfl .nil) h) (fun _ _ z => strBack z) fun _ _ z => z)
theorem call_reprO (S : Spm X.K C "__repr__" f) (F : FnOk X.prog X.w X.K X.mg X.base CX n f fd ps sp) (hb : Binds X.K fd ps []) (hx : Passes CX X E0) (hr : Room (n + 1) X.A) : CallR X (.builtin "repr") (rOwn C sp) := by
  intro pins s σ H xs us Q I r h
  obtain ⟨a, dx, fs, rfl, ha, h⟩ := h
  obtain ⟨u, rfl, rx⟩ := vals1 r
  cases (show u = Value.ref a from rx)
  obtain ⟨mA, O, _⟩ := ins_get I.hok ha
  obtain ⟨od, J, _⟩ := O.look
  obtain ⟨m, hF⟩ := I.fr
  exact PySem.W.repr_K hr.in1.units0 hF I.ok.mod.kin J S.at_ S.fn (wpAny_mono (own_call (vs := [V.ref a]) F hb hx hr.in1 rfl I (.cons rfl .nil) h) (fun _ _ z => strBack z) fun _ _ z => z)
/-- {x} of an own instance -/
def tFmtO (C : Addr) (sp : Sp) (te : TE) : TE := fun σ H Q => te σ H fun x H1 => rOwn C sp [x] H1 Q
theorem pe_fmtO {e : Expr} {te : TE} {pos : Pos} (S : Spm X.K C "__str__" f) (hfm : PySem.W.findIn X.K (.ref C) "__format__" = some (some (.builtin "object.__format__"))) (hm : PySem.W.mroIn X.K C (.type "object") = some true)
    (F : FnOk X.prog X.w X.K X.mg X.base CX n f fd ps sp) (hb : Binds X.K fd ps []) (hx : Passes CX X E0) (hr : Room (n + 2) X.A) (he : PE X e te) : PE X (.FormattedValue e (-1) none pos) (tFmtO C sp te) := by
  refine ⟨fun pins s σ H Q I h => ?_⟩
  refine wpAny_FormattedValue_plain (thn (he.run pins s σ H _ I h) fun v s1 hv => ?_)
  obtain ⟨x, H1, I1, r1, a, dx, fs, ex, ha, q⟩ := hv
  have ex' : x = .ref a := by simpa using ex
  subst ex'
  cases (show v = Value.ref a from r1)
  obtain ⟨mA, O, _⟩ := ins_get I1.hok ha
  obtain ⟨od, J, _⟩ := O.look
  exact PySem.W.kfo_fieldS hr.in1.units0 I1.kIn J hfm hm S.at_ S.fn (wpAny_mono (own_call (vs := [V.ref a]) F hb hx (hr.in1.mono (Nat.le_succ n)) rfl (I1.tok _) (.cons rfl .nil) q) (fun _ _ z => strBack z) fun _ _ z => z)
end
end L3

namespace L3
open PySem PySem.Spec PyProof.Rows L2 Evl
section
open PySem.W PySem.Calls
variable {prog : Program} {w : World} {A : Around} {E : Value → Shared → Prop} {s : Shared} {K : Frag} {x C f : Addr} {ox : Obj} {od : Option Obj} {b tb : Value}
theorem pyRepr_own {Q : Value → Shared → Prop} (hu : A.units < cLine) (X : K.In s.heap) (I : InstAt s.heap x ox C od) (hs : findIn K (.ref C) "__repr__" = some (some (.ref f))) (hf : isFn K (.ref f) = true)
    (h : wpAny (model prog w) A (call (.ref f) [.ref x]) (StrBack Q) E s) : wpAny (model prog w) A (pyReprObj (.ref x)) Q E s := by
  unfold pyReprObj
  refine wpAny_bind (m := cRoomFor _ _) (wpAny_cRoomFor hu ?_)
  refine wpAny_bind (wpAny_bind (I.type.here ((looks_findIn X hs).here ?_)))
  show wpAny _ _ (if (some (Value.ref f)).isNone = true then _ else _) _ _ _
  rw [if_neg (by simp)]
  refine wpAny_bind (m := callSpecialIfBound? (.ref x) (Str.ofString "__repr__") _) (ifBound_K X I hs hf (wpAny_mono h (fun r s' hr => ?_) fun _ _ y => y))
  cases r <;> first | exact hr.elim | skip
  refine wpAny_bind (wpAny_isInstance (typeIs_str _ _ _) isSubtype_str_str ?_)
  first
    | exact wpAny_pure hr
    | (rw [if_pos rfl]; exact wpAny_pure hr)
    | (simp only [if_true]; exact wpAny_pure hr)
/-- a != b by an own __eq__ -/
theorem ne_own {Q : Value → Shared → Prop} (hu : A.in1.units < cLine) (hu0 : A.units < cLine) (X : K.In s.heap) (I : InstAt s.heap x ox C od) (hb : Looks (model prog w) s.heap (typeOf b) tb) (hn : notFirst K C tb = true) (hm : mroIn K C (.type "object") = some true)
    (hne : findIn K (.ref C) "__ne__" = some (some (.builtin "object.__ne__"))) (hs : findIn K (.ref C) "__eq__" = some (some (.ref f))) (hf : isFn K (.ref f) = true)
    (h : wpAny (model prog w) A.in1 (call (.ref f) [.ref x, b]) (fun v s' => ∃ c, v = .bool c ∧ Q (.bool (!c)) s') E s) : wpAny (model prog w) A (richCompare .NotEq (.ref x) b) Q E s := by
  have body : wpAny (model prog w) A.in1 (Builtin.«object.__ne__» ⟨[.ref x, b], []⟩) (fun r s' => ∃ c, r = .done (.ret (.bool (!c))) ∧ Q (.bool (!c)) s') E s := by
    unfold Builtin.«object.__ne__»
    refine wpAny_bind (m := slotArgs "__ne__" 1 _) (wpAny_pure ?_)
    refine wpAny_bind (m := cRoomFor _ _) (wpAny_cRoomFor hu ?_)
    refine wpAny_bind (m := callSpecialIfBound? (.ref x) (Str.ofString "__eq__") [b]) (ifBound_K X I hs hf (wpAny_mono h (fun r s' hr => ?_) fun _ _ y => y))
    obtain ⟨c, rfl, q⟩ := hr
    exact wpAny_bind (wpAny_truthy_bool (wpAny_pure ⟨c, rfl, q⟩))
  have one : wpAny (model prog w) A (tryCompare (.ref x) "__ne__" b) (fun r s' => ∃ v, r = some v ∧ Q v s') E s := by
    unfold tryCompare
    simp only [callSpecialIfBound?, bindSpecialIfBound?]
    have call1 : wpAny (model prog w) A (call (.builtin "object.__ne__") ([.ref x] ++ [b])) (fun v s' => ∃ c, v = .bool (!c) ∧ Q v s') E s := by
      refine wpAny_call (codeAny_call_builtin PySem.F.cmp_object.ne.plain PySem.F.cmpEntry_ne (check_slot (i := "object.__ne__") (owner := "object") (n := "__ne__") PySem.F.cmpKind_ne PySem.F.cmpSplit_ne (I.type.andThen (looks_mroIn X hm)) (PySem.F.cmpArgs_ne _ _) ?_))
      refine wpAny_mono body (fun r s' hr => ?_) fun _ _ y => y
      obtain ⟨c, rfl, q⟩ := hr
      exact ⟨c, rfl, q⟩
    have fin : wpAny (model prog w) A (call (.builtin "object.__ne__") ([.ref x] ++ [b]) >>= fun v => pure (some v)) (fun r s' => ∃ c, r = some (Value.bool (!c)) ∧ Q (.bool (!c)) s') E s := wpAny_bind (wpAny_mono call1 (fun v s' hv => by
      obtain ⟨c, rfl, q⟩ := hv
      exact wpAny_pure ⟨c, rfl, q⟩) fun _ _ y => y)
    have bnd : ∀ self, bindSpecial (.builtin "object.__ne__") self = pure (.builtin "object.__ne__", [self]) := PySem.F.cmp_object.ne.bind
    refine wpAny_bind (wpAny_holding (wpAny_bind (wpAny_bind (wpAny_bind (I.type.here ((looks_findIn X hne).here ?_))))))
    refine wpAny_bind (wpAny_askSetting (wpAny_ite ?_))
    have out : ∀ {r : Option Value} {s' : Shared}, (∃ c, r = some (Value.bool (!c)) ∧ Q (.bool (!c)) s') → wpAny (model prog w) A (match r with
      | some .notImplemented | none => pure none
      | r => pure r) (fun r s' => ∃ v, r = some v ∧ Q v s') E s' := fun {r s'} hr => by
      obtain ⟨c, rfl, q⟩ := hr
      exact wpAny_pure ⟨_, rfl, q⟩
    split
    · rw [bnd]
      refine wpAny_bind (wpAny_pure (wpAny_pure (wpAny_mono fin (fun r s' hr => ?_) fun _ _ y => y)))
      obtain ⟨c, rfl, q⟩ := hr
      exact wpAny_pure ⟨_, rfl, q⟩
    · rw [bnd]
      refine wpAny_tryCatch (wpAny_bind (wpAny_pure (wpAny_pure (wpAny_mono fin (fun r s' hr => ?_) fun _ _ y => y))))
      obtain ⟨c, rfl, q⟩ := hr
      exact wpAny_pure ⟨_, rfl, q⟩
  unfold richCompare
  simp only [oneThing_ref]
  refine wpAny_holding (wpAny_bind (wpAny_cRoomFor hu0 ?_))
  refine wpAny_bind (I.type.here (wpAny_bind (hb.here ?_)))
  split
  · rename_i q
    have e : subIn K tb (.ref C) = some false := by
      rcases Bool.or_eq_true_iff.mp hn with e | e
      · rw [beq_iff_eq.mp e] at q; simp at q
      · exact beq_iff_eq.mp e
    refine wpAny_bind ((looks_subIn X e).here ?_)
    simp only [Bool.false_eq_true, if_false]
    refine wpAny_bind (wpAny_mono one (fun r s' z => ?_) fun _ _ e => e)
    obtain ⟨v, rfl, hq⟩ := z
    exact wpAny_pure hq
  · refine wpAny_bind (wpAny_pure ?_)
    simp only [Bool.false_eq_true, if_false]
    refine wpAny_bind (wpAny_mono one (fun r s' z => ?_) fun _ _ e => e)
    obtain ⟨v, rfl, hq⟩ := z
    exact wpAny_pure hq
end
section
variable {X : Cx} {CX : CXT} {n : Nat} {C f : Addr} {fd : FuncData} {ps : List Str} {sp : Sp}
/-- {x!r} of an own instance -/
theorem pe_fmtRO {e : Expr} {te : TE} {pos : Pos} (S : Spm X.K C "__repr__" f) (F : FnOk X.prog X.w X.K X.mg X.base CX n f fd ps sp) (hb : Binds X.K fd ps []) (hx : Passes CX X E0) (hr : Room n X.A) (hz : ∀ vs H Q E, sp vs H Q E → sp vs H (fun v H' => (∀ z, v = .str z → z.length ≤ sizeLine) ∧ Q v H') E) (he : PE X e te) :
    PE X (.FormattedValue e 114 none pos) (tFmtO C sp te) := by
  refine ⟨fun pins s σ H Q I h => ?_⟩
  refine wpAny_FormattedValue_repr (thn (he.run pins s σ H _ I h) fun v s1 hv => ?_)
  obtain ⟨x, H1, I1, r1, a, dx, fs, ex, ha, q⟩ := hv
  have ex' : x = .ref a := by simpa using ex
  subst ex'
  cases (show v = Value.ref a from r1)
  obtain ⟨mA, O, _⟩ := ins_get I1.hok ha
  obtain ⟨od, J, _⟩ := O.look
  refine pyRepr_own hr.units0 I1.kIn J S.at_ S.fn (wpAny_mono (own_call (vs := [V.ref a]) F hb hx hr rfl I1 (.cons rfl .nil) (hz _ H1 _ _ q)) (fun u s2 z => ?_) fun _ _ z => z)
  obtain ⟨v, H', I', rv, hl, ⟨y, rfl⟩, q⟩ := z
  obtain ⟨t, rfl⟩ := (show ∃ t, u = Value.str y t from rv)
  exact wpAny_formatField_str ⟨.str y, H', I', ⟨t, rfl⟩, q⟩ ⟨.str y, H', I'.tok _, ⟨_, rfl⟩, q⟩ (hl y rfl)
/-- what stands on the other side -/
def Side (K : PySem.W.Frag) (C : Addr) (y : V) (H : Hp) : Prop := ∃ tb, TyX K H y tb ∧ PySem.W.notFirst K C tb = true
def rEqO (K : PySem.W.Frag) (C : Addr) (sp : Sp) : R2 := fun x y H Q => ∃ a dx fs, x = .ref a ∧ H a = some (.ins C dx fs) ∧ Side K C y H ∧ sp [.ref a, y] H (fun v H' => ∃ c, v = .bl c ∧ Q v H') E0
def rNeO (K : PySem.W.Frag) (C : Addr) (sp : Sp) : R2 := fun x y H Q => ∃ a dx fs, x = .ref a ∧ H a = some (.ins C dx fs) ∧ Side K C y H ∧ sp [.ref a, y] H (fun v H' => ∃ c, v = .bl c ∧ Q (.bl (!c)) H') E0
theorem op_eqO (S : Spm X.K C "__eq__" f) (F : FnOk X.prog X.w X.K X.mg X.base CX n f fd ps sp) (hb : Binds X.K fd ps []) (hx : Passes CX X E0) (hr : Room n X.A) : OpR X (compareOp .Eq) (rEqO X.K C sp) := by
  intro pins s σ H x y v u Q I rx ry h
  obtain ⟨a, dx, fs, rfl, ha, ⟨tb, ty, hn⟩, q⟩ := h
  cases (show v = Value.ref a from rx)
  obtain ⟨mA, O, _⟩ := ins_get I.hok ha
  obtain ⟨od, J, _⟩ := O.look
  obtain ⟨m, hF⟩ := I.fr
  obtain ⟨P, kx, hP, _⟩ := kit_of I ry ty
  refine PySem.W.cmp_ofEq (PySem.W.cmp_K (op := .Eq) hr.units0 hF I.ok.mod.kin J (kx.ty _ _ I.kIn hP) hn S.at_ S.fn (wpAny_mono (own_call (vs := [V.ref a, y]) F hb hx hr rfl I (.cons rfl (.cons ry .nil)) q) (fun w s' z => ?_) fun _ _ z => z))
  obtain ⟨v, H', I', rv, c, rfl, q⟩ := z
  cases (show w = Value.bool c from rv)
  exact ⟨.bl c, H', I', rfl, q⟩
theorem op_neO (S : Spm X.K C "__eq__" f) (hne : PySem.W.findIn X.K (.ref C) "__ne__" = some (some (.builtin "object.__ne__"))) (hm : PySem.W.mroIn X.K C (.type "object") = some true) (F : FnOk X.prog X.w X.K X.mg X.base CX n f fd ps sp) (hb : Binds X.K fd ps []) (hx : Passes CX X E0) (hr : Room (n + 1) X.A) :
    OpR X (compareOp .NotEq) (rNeO X.K C sp) := by
  intro pins s σ H x y v u Q I rx ry h
  obtain ⟨a, dx, fs, rfl, ha, ⟨tb, ty, hn⟩, q⟩ := h
  cases (show v = Value.ref a from rx)
  obtain ⟨mA, O, _⟩ := ins_get I.hok ha
  obtain ⟨od, J, _⟩ := O.look
  obtain ⟨P, kx, hP, _⟩ := kit_of I ry ty
  refine PySem.W.cmp_ofNotEq (ne_own hr.in1.units0 hr.units0 I.kIn J (kx.ty _ _ I.kIn hP) hn hm hne S.at_ S.fn (wpAny_mono (own_call (vs := [V.ref a, y]) F hb hx hr.in1 rfl I (.cons rfl (.cons ry .nil)) q) (fun w s' z => ?_) fun _ _ z => z))
  obtain ⟨v, H', I', rv, c, rfl, q⟩ := z
  cases (show w = Value.bool c from rv)
  exact ⟨c, rfl, .bl (!c), H', I', rfl, q⟩
end
end L3

namespace L3
open PySem PySem.SeqAt
open AutoSeq1 (wpAny_loadPart')
open MeetsSeq MeetsSeq2 MeetsSeq3 SeqRoads2
section
variable {prog : Program} {w : World} {A : Around} {R : Result → Shared → Prop}
/-- == of two tuples of one length, item by item: cs tells each answer -/
theorem tuple_eqB (l b : Addr) (items items2 : Array Value) (n n2 : Nat) (dd dd2 : Option Addr) (sl sl2 : Array (Option Value)) (hsz : items.size = items2.size) (cs : Nat → Bool) (J : Shared → Prop)
    (turn : ∀ i (h1 : i < items.size) (h2 : i < items2.size) s, J s → wpAny (model prog w) A.in1 (eqBool items[i] items2[i]) (fun r s' => r = cs i ∧ J s') (fun e s' => R (.error e) s') s)
    (fin : ∀ s, J s → R (.ok (.ret (.bool (decide (∀ i, i < items.size → cs i = true))))) s) {s : Shared} (hl1 : s.heap.get? l = some { cls := .type "tuple", dict := dd, data := .seq items n, slots := sl }) (hb1 : s.heap.get? b = some { cls := .type "tuple", dict := dd2, data := .seq items2 n2, slots := sl2 }) (h : J s) :
    wpAny (model prog w) A.in1 (Builtin.«tuple.__eq__» ⟨[.ref l, .ref b], []⟩) (GQ.FinOf prog w A R) (fun e s' => R (.error e) s') s := by
  have f2 := AutoSeq1.sub_tuple_tuple
  have len : (items.toList.zip items2.toList).length = items.size := by simp [hsz]
  have h0 := h
  obtain ⟨hp, g, d, tk, os⟩ := s
  wp_walk using wpAny_loadPart' hl1, wpAny_loadPart' hb1, wpAny_forIn_list _ (fun rest z s' => z.1 = none ∧ ∃ i, rest = (items.toList.zip items2.toList).drop i ∧ i ≤ items.size ∧ (∀ k, k < i → cs k = true) ∧ J s') _
  case turn =>
    rintro ⟨y, x⟩ rest z s' ⟨hz', i, hz, hi, hk, hJ⟩
    have hlt : i < (items.toList.zip items2.toList).length := by
      rcases Nat.lt_or_ge i (items.toList.zip items2.toList).length with h' | h'
      · exact h'
      · rw [List.drop_of_length_le h'] at hz
        cases hz
    have h1 : i < items.size := len ▸ hlt
    have h2 : i < items2.size := hsz ▸ h1
    rw [List.drop_eq_getElem_cons hlt] at hz
    injection hz with hyx hrest
    have hy : y = items[i] := by
      have q := congrArg Prod.fst hyx
      simpa using q
    have hx : x = items2[i] := by
      have q := congrArg Prod.snd hyx
      simpa using q
    subst hy hx
    refine wpAny_bind (wpAny_mono (turn i h1 h2 s' hJ) (fun r s2 q2 => ?_) fun _ _ x => x)
    obtain ⟨hr, q2⟩ := q2
    subst hr
    cases hc : cs i with
    | true =>
      wp_walk
      refine ⟨rfl, i + 1, hrest, h1, fun k hk2 => ?_, q2⟩
      by_cases e : k = i
      · rw [e, hc]
      · exact hk k (by omega)
    | false =>
      wp_walk
      have e : decide (∀ i, i < items.size → cs i = true) = false := decide_eq_false fun q => by
        have := q i h1
        rw [hc] at this
        cases this
      have q := fin _ q2
      rw [e] at q
      exact q
  case fin =>
    rintro ⟨b1, b2⟩ s' ⟨hb', i, hz, hi, hk, hJ⟩
    simp only at hb'
    subst hb'
    have hge : items.size ≤ i := by
      rcases Nat.lt_or_ge i (items.toList.zip items2.toList).length with h' | h'
      · rw [List.drop_eq_getElem_cons h'] at hz
        cases hz
      · omega
    have e : decide (∀ i, i < items.size → cs i = true) = true := decide_eq_true fun k hk2 => hk k (by omega)
    have q := fin s' hJ
    rw [e] at q
    wp_walk
    simpa [Builtin.Tuple.tupleCompareSizes, hsz] using q
  case h => exact ⟨rfl, 0, rfl, Nat.zero_le _, (fun k hk => absurd hk (Nat.not_lt_zero _)), h0⟩
end
end L3
namespace L3
open PySem PySem.Spec PyProof.Rows L2 Evl
section
variable {X : Cx} {CX : CXT} {n : Nat} {C f : Addr} {fd : FuncData} {ps : List Str}
/-- what an own == promises of two instances: R tells the answer -/
def spEqR (R : Addr → Addr → Bool → Hp → Prop) : Sp := fun vs H Q _ => ∃ a b c, vs = [.ref a, .ref b] ∧ R a b c H ∧ ∀ H', Ex H H' → Q (.bl c) H'
/-- two tuples of instances of C, item by item -/
def rEqTO (K : PySem.W.Frag) (C : Addr) (R : Addr → Addr → Bool → Hp → Prop) : R2 := fun x y H Q => ∃ (a b : Addr) (xs ys : List Addr) (cs : Nat → Bool), x = .ref a ∧ y = .ref b ∧ SqT K H a (xs.map V.ref) ∧ SqT K H b (ys.map V.ref) ∧ xs.length = ys.length ∧
  (∀ (i : Nat) p q, xs[i]? = some p → ys[i]? = some q → (∃ dx fs, H p = some (.ins C dx fs)) ∧ (∃ dy gs, H q = some (.ins C dy gs)) ∧ (∀ H', Ex H H' → R p q (cs i) H') ∧ (p = q → cs i = true)) ∧
  ∀ H', Ex H H' → Q (.bl (decide (∀ i, i < xs.length → cs i = true))) H'
theorem op_eqTO {R : Addr → Addr → Bool → Hp → Prop} (S : Spm X.K C "__eq__" f) (F : FnOk X.prog X.w X.K X.mg X.base CX n f fd ps (spEqR R)) (hb : Binds X.K fd ps []) (hx : Passes CX X E0) (hr : Room (n + 1) X.A) : OpR X (compareOp .Eq) (rEqTO X.K C R) := by
  intro pins s σ H x y v u Q I rx ry h
  obtain ⟨a, b, xs, ys, cs, rfl, rfl, hxs, hys, hl, hit, k⟩ := h
  cases (show v = Value.ref a from rx)
  cases (show u = Value.ref b from ry)
  obtain ⟨its, r1, e1, z1⟩ := I.tuple hxs
  obtain ⟨its2, r2, e2, z2⟩ := I.tuple hys
  have l1 : its.length = xs.length := by rw [← r1.length, List.length_map]
  have l2 : its2.length = ys.length := by rw [← r2.length, List.length_map]
  have hsz : its.toArray.size = its2.toArray.size := by rw [List.size_toArray, List.size_toArray, l1, l2, hl]
  have t1 : s.heap.IsTuple a its.toArray := e1
  have t2 : s.heap.IsTuple b its2.toArray := e2
  obtain ⟨⟨cls, dd, data, sl⟩, ho, hc, n1, hd⟩ := id t1
  obtain ⟨⟨cls2, dd2, data2, sl2⟩, ho2, hc2, n2, hd2⟩ := id t2
  simp only at hc hd hc2 hd2
  subst hc hd hc2 hd2
  refine PySem.W.cmp_ofEq (wpAny_richCompare_same_room (op := .Eq) ⟨_, ho, rfl⟩ ⟨_, ho2, rfl⟩ PySem.F.slot_tuple_eq (GQ.call_here PySem.F.slot_tuple_eq ⟨_, ho, rfl⟩ PySem.F.entry_tuple_eq (PySem.F.args_tuple_eq_2 _ _) ?_) hr.units0)
  refine tuple_eqB (R := wants (fun v s' => v ≠ .notImplemented ∧ EP X pins σ Q v s') X.xe) a b its.toArray its2.toArray n1 n2 dd dd2 sl sl2 hsz cs (fun s' => ∃ H', Inv X pins σ H' s' ∧ Ex H H') (fun i h1 h2 s' hJ => ?_) (fun s' hJ => ?_) ho ho2 ⟨H, I, Ex.refl H⟩
  · obtain ⟨H1, I1, ex⟩ := hJ
    have h1' : i < its.length := by simpa using h1
    have h2' : i < its2.length := by simpa using h2
    have g1 : xs[i]? = some xs[i] := by simp [show i < xs.length by omega]
    have g2 : ys[i]? = some ys[i] := by simp [show i < ys.length by omega]
    obtain ⟨⟨dx, fs, hp⟩, ⟨dy, gs, hq⟩, hR, hs⟩ := hit i _ _ g1 g2
    generalize xs[i] = p at g1 hp hR hs
    generalize ys[i] = q at g2 hq hR hs
    obtain ⟨u1, hu1, rv1⟩ := r1.get (i := i) (x := V.ref p) (by rw [List.getElem?_map, g1] <;> rfl)
    obtain ⟨u2, hu2, rv2⟩ := r2.get (i := i) (x := V.ref q) (by rw [List.getElem?_map, g2] <;> rfl)
    have c1 : its.toArray[i] = Value.ref p := by
      have z : its[i]? = some its.toArray[i] := by
        rw [List.getElem?_eq_getElem h1'] <;> simp
      rw [z] at hu1
      rw [Option.some.inj hu1]
      exact rv1
    have c2 : its2.toArray[i] = Value.ref q := by
      have z : its2[i]? = some its2.toArray[i] := by
        rw [List.getElem?_eq_getElem h2'] <;> simp
      rw [z] at hu2
      rw [Option.some.inj hu2]
      exact rv2
    rw [c1, c2]
    by_cases hpq : p = q
    · rw [hs hpq, hpq]
      unfold eqBool
      refine wpAny_holding ?_
      rw [if_pos (by simp)]
      refine wpAny_bind (wpAny_rule (wpAny_pure ?_))
      exact ⟨rfl, H1, I1, ex⟩
    · refine GQ.eqBool_refG hpq ?_
      obtain ⟨mA, J, _⟩ := ins_get I1.hok (ex _ _ hp)
      obtain ⟨mB, J2, _⟩ := ins_get I1.hok (ex _ _ hq)
      obtain ⟨od, J, _⟩ := J.look
      obtain ⟨od2, J2, _⟩ := J2.look
      obtain ⟨m, hF⟩ := I1.fr
      refine PySem.W.cmp_K (op := .Eq) (tb := .ref C) hr.in1.units0 hF I1.ok.mod.kin J J2.type (by simp [PySem.W.notFirst]) S.at_ S.fn (wpAny_mono (own_call (sp := spEqR R) (vs := [V.ref p, V.ref q]) (Q := fun v H' => v = .bl (cs i) ∧ Ex H1 H') F hb hx hr.in1 rfl I1 (.cons rfl (.cons rfl .nil)) ⟨p, q, cs i, rfl, hR _ ex, fun H' e => ⟨rfl, e⟩⟩) (fun w s2 z => ?_) fun _ _ z => z)
      obtain ⟨v, H2, I2, rv, rfl, e2⟩ := z
      cases (show w = Value.bool (cs i) from rv)
      exact ⟨cs i, rfl, rfl, H2, I2, ex.trans e2⟩
  · obtain ⟨H1, I1, ex⟩ := hJ
    have es : its.toArray.size = xs.length := by rw [List.size_toArray, l1]
    rw [es]
    exact ⟨(fun x => nomatch x), .bl (decide (∀ i, i < xs.length → cs i = true)), H1, I1, rfl, k H1 ex⟩
end
end L3

namespace L3
open PySem PySem.Spec PyProof.Rows L2 Evl LamX
/-! ### a lambda that is handed on -/
/-- f, made at (stk, s, H), can be called from then on, whatever stands above -/
def CanCall (P : Program) (w : World) (K : PySem.W.Frag) (mg : Str → Option Value) (base : Heap) (j : Nat) (stk : List Env) (s : Shared) (H : Hp) (f c' : Addr) (q : Str) (tl : XK → Hp → VK → Prop) : Prop :=
  ∀ (A : Around) (outer : List Env) (s1 : Shared) (HZ : Hp) (Q : VK) (E : XK), Room (j + 1) A → Env0 P w K mg base A outer s1 HZ → Un (frs stk) [] H HZ s.heap s1.heap → HZ c' = some (CodeO c' q) → tl E HZ Q →
    PySem.W.FnAt f s1.heap ∧ codeAny (model P w) A (.call (.ref f) ⟨[], []⟩) (CR (L2.CX P w) outer P w HZ s1 Q E) s1
section
variable {X : Cx} {pins : List (Addr × Obj)} {σ : L2.St} {H : Hp} {s : Shared} {j : Nat} {f c' : Addr} {q : Str} {tl : XK → Hp → VK → Prop}
theorem can_go (C : CanCall X.prog X.w X.K X.mg X.base j X.outer X.s_0 X.H_0 f c' q tl) (I : Inv X pins σ H s) (hex : X.ex = []) : CanCall X.prog X.w X.K X.mg X.base j X.stack s H f c' q tl := fun A outer s1 HZ Q E hr e0 un hc ht => by
  have J := I.call (h' := s1.heap) (g' := s1.gens) (d' := s1.drawn) (t' := s1.toks) (ch := []) un e0.hok e0.bare (fun b z => absurd z (by simp))
  have b := J.base
  rw [hex] at b
  exact C A outer s1 HZ Q E hr e0 b hc ht
theorem can_lam {scope : Scope} {params : Arguments} {body : Expr} {pm ctv : Value} {t : XK → TE} (I : Inv X pins σ H s) (L : LamS X.env.scope scope)
    (hf : s.heap.get? f = some (PySem.W.kla_obj "<lambda>" (X.env.qual ++ "<lambda>") params body scope (cloFrom X.env.cells scope.names []) pm c' ctv)) (hfn : H f = none) (hfr : f ∉ frs X.stack)
    (hbind : bindArgs (PySem.W.kla_fn "<lambda>" (X.env.qual ++ "<lambda>") params body scope (cloFrom X.env.cells scope.names []) pm (.ref c') ctv) ⟨[], []⟩ = pure [])
    (hbody : ∀ (A : Around) (outer : List Env) (s : Shared) (H : Hp) (E : XK), Room j (A.deeper (lamEnv X scope s.heap.objs.size f c')) → PE (lamCx X A outer s H E scope f c') body (t E)) :
    CanCall X.prog X.w X.K X.mg X.base j X.stack s H f c' (X.env.qual ++ "<lambda>") (fun E HZ Q => t E σ HZ Q) := fun A outer s1 HZ Q E hr e0 un hc ht => by
  have of1 : s1.heap.get? f = some (PySem.W.kla_obj "<lambda>" (X.env.qual ++ "<lambda>") params body scope (cloFrom X.env.cells scope.names []) pm c' ctv) := un.keep f _ hf hfn hfr (fun z => nomatch (show f ∈ ([] : List Addr) from z))
  obtain ⟨⟨oc, vs, tk, hoc, hdc, hvc⟩, _, _⟩ := e0.hok c' _ hc
  refine ⟨⟨_, _, _, _, of1⟩, ?_⟩
  refine PySem.W.kla_callFunE hr.depth of1 rfl L.co L.gen rfl ⟨c', oc, vs, tk, rfl, hoc, hdc, hvc⟩ ?_
  rw [hbind]
  have nl : s1.heap.NoLimit := e0.mod.nolimit.keeps fun b o e => (e0.bs b o e).1
  refine wpAny_pure (wpAny_newFunctionEnv (fun y hy => (L.own y hy).2) (fun y hy => absurd hy (by simp)) (fun h₁ hns hsb => ⟨nl.fresh _ hsb, ?_⟩) L.kind)
  show codeAny _ _ (.expr body (lamEnv X scope s1.heap.objs.size f c')) _ _
  have kp : ∀ b o, s1.heap.get? b = some o → h₁.get? b = some o := fun b o e => hsb.extBut b o (Nat.ne_of_lt (Heap.lt_size e)) (Heap.get?_push_of_some _ e)
  have J : Inv (lamCx X A outer s1 HZ E scope f c') [] σ HZ { s1 with heap := h₁, toks := s1.toks + ([] : List (Str × Value)).length } := lam_start2 I L e0 hr.hd un hns kp
  refine PySem.W.kla_codeExpr (wpAny_mono ((hbody _ _ s1 HZ E (hr.deeper _)).run [] _ _ HZ Q J ht) (fun v s' hq => ?_) fun e s' hq => hq)
  obtain ⟨w', H', J', rv, q⟩ := hq
  exact ⟨w', H', J'.os, J'.bare, J'.base, J'.hok, rv, q⟩
end
/-- what a def promises that gets such a lambda first -/
structure FnC (P : Program) (w : World) (K : PySem.W.Frag) (mg : Str → Option Value) (base : Heap) (j k : Nat) (f : Addr) (fd : FuncData) (ps : List Str) (sp : Addr → Addr → Str → (XK → Hp → VK → Prop) → Sp) : Prop where
  len : ∀ l c' q tl vs H Q E, sp l c' q tl vs H Q E → vs.length = ps.length
  run : ∀ (A : Around) (outer : List Env) (s : Shared) (H : Hp) (args : Args) (us : List Value) (vs : List V) (Q : VK) (E : XK) (l c' : Addr) (q : Str) (tl : XK → Hp → VK → Prop), Room k A → Env0 P w K mg base A outer s H → CanCall P w K mg base j outer s H l c' q tl → BindsTo s fd args (ps.zip us) → Vals vs us → sp l c' q tl vs H Q E →
    codeAny (model P w) A (.call (.ref f) args) (CR CX0 outer P w H s Q E) s
section
variable {P : Program} {w : World} {K : PySem.W.Frag} {mg : Str → Option Value} {base : Heap} {x qual : Str} {st : Stmt} {f : Addr} {fd : FuncData} {N ps : List Str} {j k : Nat} {sp : Addr → Addr → Str → (XK → Hp → VK → Prop) → Sp}
theorem fnC_of (F : Fun K x qual st f fd) (S : FnScope N ps (defScope st)) (len : ∀ l c' q tl vs H Q E, sp l c' q tl vs H Q E → vs.length = ps.length)
    (body : ∀ (cdv : Value) (A : Around) (outer : List Env) (s : Shared) (H : Hp) (vs : List V) (Q : VK) (E : XK) (l c' : Addr) (q : Str) (tl : XK → Hp → VK → Prop), Room k (A.deeper (envOfC qual (defScope st) s.heap.objs.size f cdv)) → CanCall P w K mg base j outer s H l c' q tl → sp l c' q tl vs H Q E →
      ∃ t, PSs (cxOf CX0 P w K mg base N qual (defScope st) f cdv A outer s H E).nox (defBody st) t ∧ t { nx := fun _ H' => Q .non H', rt := Q } (start N vs) H) : FnC P w K mg base j (k + 1) f fd ps sp := by
  obtain ⟨oc, od, kV, doc, pm, an, cd, ct, osl, rfl, lk, hcd⟩ := F.ex
  refine ⟨len, fun A outer s H args us vs Q E l c' q tl hr e0 C hb r hsp => ?_⟩
  have hl := len _ _ _ _ vs H Q E hsp
  have KX : K.In s.heap := e0.mod.kin.keeps fun b o e => (e0.bs b o e).1
  have lim : s.heap.NoLimit := e0.mod.nolimit.keeps fun b o e => (e0.bs b o e).1
  have kinds : ∀ y ∈ ps.zip us, (defScope st).names.lookup y.1 = some .local ∨ ((defScope st).names.lookup y.1 = some .cell ∧ ((cellsFrom (s.heap.objs.size + 1) (defScope st).names []).lookup y.1).isSome = true) := fun ⟨n, v⟩ hy =>
    (S.par n (List.of_mem_zip hy).1).elim Or.inl fun q => Or.inr ⟨q, PySem.W.cellsFrom_some _ _ _ (.inl q)⟩
  refine codeAny_call_function hr.depth (KX _ _ lk) rfl S.co S.gen rfl (PySem.W.codeRec_of KX hcd) (hb _ _ _ _ ?_)
  refine wpAny_newFunctionEnv_cells S.kind kinds fun env he s1 x => ?_
  subst he
  refine ⟨lim.keeps x.toInCall.keep, codeAny_func ?_⟩
  obtain ⟨t, ht, hq⟩ := body cd A outer s H vs Q E l c' q tl (hr.deeper _) C hsp
  have I : Inv (cxOf CX0 P w K mg base N qual (defScope st) f cd A outer s H E) [] (start N vs) H s1 := inv_start S hr.hd e0 hl r x
  refine wpAny_mono (ht.nox.run [] s1 (start N vs) H _ I hq) (fun fl s' hs => ?_) fun e s' hs => hs
  cases fl with
  | next =>
    obtain ⟨σ', H', J, q⟩ := hs
    exact ⟨V.non, H', J.os, J.bare, J.base, J.hok, rfl, q⟩
  | ret u =>
    obtain ⟨v, σ', H', J, rv, q⟩ := hs
    exact ⟨v, H', J.os, J.bare, J.base, J.hok, rv, q⟩
  | brk =>
    obtain ⟨σ', H', J, q⟩ := hs
    exact q.elim
  | cont =>
    obtain ⟨σ', H', J, q⟩ := hs
    exact q.elim
end
section
variable {X : Cx} {x : Str} {j k : Nat} {g : Addr} {fd : FuncData} {ps : List Str} {sp : Addr → Addr → Str → (XK → Hp → VK → Prop) → Sp} {l c' : Addr} {q : Str} {tl : XK → Hp → VK → Prop} {e : Expr} {es : List Expr} {t : TA} {p pos : Pos}
/-- g(l, ..), by a def that got l itself -/
theorem pe_callC (F : FnC X.prog X.w X.K X.mg X.base j k g fd ps sp) (C : CanCall X.prog X.w X.K X.mg X.base j X.outer X.s_0 X.H_0 l c' q tl) (hex : X.ex = []) (hr : Room k X.A) (hg : Gl X x) (hm : X.mg x = some (.ref g))
    (hk : PySem.W.keepIn X.K (.ref g) = true) (hb : Binds X.K fd ps []) (ha : PA X (e :: es) t) (hdb : (x == ("__debug__" : Str)) = false := by decide)
    (he : starEach (e :: es) X.env = (false, eval e X.env) :: starEach es X.env := by rfl) (hpl : (backTo pos (starEach es X.env)).any (·.1) = false := by rfl) :
    PE X (.Call (.Name x p) (e :: es) [] pos) (tCall (sp l c' q tl) [] E0 t) := by
  refine ⟨fun pins s σ H Q I h => ?_⟩
  refine wpAny_Call_Name_kw (ld_glob I hg hm ?_ hdb)
  refine PySem.W.callWith_K (h₀ := X.base) I.ok.mod.kin hk (thn (ha.run pos pins s σ H _ I h) fun us s1 ⟨vs, H1, I1, r, q1⟩ => ⟨I1.kIn, ?_⟩) he hpl
  have q' : sp l c' q tl vs H1 Q E0 := by
    have z : sp l c' q tl (vs ++ []) H1 Q E0 := q1
    rw [List.append_nil] at z
    exact z
  have hl : us.length = ps.length := by
    rw [← r.length]
    exact F.len _ _ _ _ _ _ _ _ q'
  have hb' := hb s1 us I1.kIn (by rw [List.append_nil]; exact hl)
  rw [List.append_nil] at hb'
  refine wpAny_call (codeAny_mono (F.run X.A X.stack s1 H1 ⟨us, []⟩ us vs Q E0 l c' q tl hr I1.env0 (can_go C I1 hex) hb' r q') fun r s' hq => ?_)
  cases r with
  | error e => exact hq.elim
  | ok fl =>
    cases fl with
    | ret u => exact I1.after hq
    | next => exact hq.elim
    | brk => exact hq.elim
    | cont => exact hq.elim
end
/-- l(), by a def that got l -/
theorem pe_do {X : Cx} {i j : Nat} {a q : Str} {l c' : Addr} {tl : XK → Hp → VK → Prop} {E : L2.St → XK} {p1 p2 : Pos} (C : CanCall X.prog X.w X.K X.mg X.base j X.outer X.s_0 X.H_0 l c' q tl) (hex : X.ex = []) (hr : Room (j + 1) X.A) (hx : ∀ σ, PassesAt (L2.CX X.prog X.w) X σ (E σ))
    (hN : X.N[i]? = some a) (hv : Vis X.env.scope a) (hd : (a == ("__debug__" : Str)) = false := by decide) (hcd : (a == ("__classdict__" : Str)) = false := by decide) :
    PE X (.Call (.Name a p1) [] [] p2) (fun σ H Q => σ[i]? = some (some (.ref l)) ∧ H c' = some (CodeO c' q) ∧ tl (E σ) H Q) := by
  refine ⟨fun pins s σ H Q I h => ?_⟩
  obtain ⟨hs, hc, ht⟩ := h
  refine wpAny_Call_Name_kw (thn ((pe_var (pos := p1) (i := i) hN hv hd hcd).run pins s σ H (fun v H1 => v = .ref l ∧ H1 = H) I ⟨.ref l, hs, rfl, rfl⟩) fun u s1 ⟨v, H1, I1, r1, q1⟩ => ?_)
  obtain ⟨ev, eH⟩ := q1
  subst ev
  rw [eH] at I1
  obtain rfl : u = Value.ref l := r1
  have C1 := can_go C I1 hex
  obtain ⟨fa, rc⟩ := C1 X.A X.stack s1 H Q (E σ) hr I1.env0 Un.refl hc ht
  refine PySem.W.callWith_F0 fa ?_
  refine wpAny_call (codeAny_mono rc fun r s' hq => ?_)
  cases r with
  | error e => exact hx σ pins H s1 e s' I1 hq
  | ok fl =>
    cases fl with
    | ret u => exact I1.after hq
    | next => exact False.elim hq
    | brk => exact False.elim hq
    | cont => exact False.elim hq
/-- g(lambda: body, ..) -/
def tLamC (T : List (Addr × Str)) (q : Str) (sp : Addr → Addr → Str → (XK → Hp → VK → Prop) → Sp) (t : XK → TE) (ta : TA) : TE := fun σ H Q => Tabs T H ∧ ∀ f c' H1, ExtN H H1 → Tabs T H1 → H1 c' = some (CodeO c' q) →
  ta σ H1 fun vs H2 => sp f c' q (fun E H' Q' => t E σ H' Q') (.ref f :: vs) H2 Q E0
theorem pe_lamC {X : Cx} {T : List (Addr × Str)} {x : Str} {j k : Nat} {g c P : Addr} {fd : FuncData} {ps : List Str} {sp : Addr → Addr → Str → (XK → Hp → VK → Prop) → Sp} {params : Arguments} {body : Expr} {scope : Scope} {t : XK → TE} {es : List Expr} {ta : TA} {p lpos pos : Pos}
    (F : FnC X.prog X.w X.K X.mg X.base j k g fd ps sp) (hr : Room k X.A) (hg : Gl X x) (hm : X.mg x = some (.ref g)) (hk : PySem.W.keepIn X.K (.ref g) = true) (hb : Binds X.K fd ps [])
    (st : X.stack = X.env :: X.outer) (fr : X.env.frame = some X.env.locals) (TB : TabB X.base X.mg c P) (hcode : X.env.code = .ref c) (hmT : (P, X.env.qual ++ "<lambda>") ∈ T) (hu : ∀ p ∈ T, p.1 = P → p.2 = X.env.qual ++ "<lambda>") (L : LamS X.env.scope scope) (hdef : defaultsOf params X.env = ([], []))
    (hbind : ∀ (q : Str) (cl : List (Str × Addr)) (pm cv ctv : Value), bindArgs (PySem.W.kla_fn "<lambda>" q params body scope cl pm cv ctv) ⟨[], []⟩ = pure [])
    (hbody : ∀ (A : Around) (outer : List Env) (s : Shared) (H : Hp) (E : XK) (f c' : Addr), Room j (A.deeper (lamEnv X scope s.heap.objs.size f c')) → PE (lamCx X A outer s H E scope f c') body (t E)) (ha : PA X es ta)
    (hdb : (x == ("__debug__" : Str)) = false := by decide) (he : starEach (.Lambda params body scope lpos :: es) X.env = (false, eval (.Lambda params body scope lpos) X.env) :: starEach es X.env := by rfl) (hpl : (backTo pos (starEach es X.env)).any (·.1) = false := by rfl) :
    PE X (.Call (.Name x p) (.Lambda params body scope lpos :: es) [] pos) (tLamC T (X.env.qual ++ "<lambda>") sp t ta) := by
  refine ⟨fun pins s σ H Q I h => ?_⟩
  obtain ⟨hT, h⟩ := h
  refine wpAny_Call_Name_kw (ld_glob I hg hm ?_ hdb)
  refine PySem.W.callWith_K (h₀ := X.base) I.ok.mod.kin hk ?_ he hpl
  rw [he]
  show wpAny _ _ (spliced ((false, eval (.Lambda params body scope lpos) X.env) :: backTo pos (starEach es X.env))) _ _ s
  refine Calls.spliced_cons (lam_make2 I TB hcode hmT hu hT hdef (L.has I.ok) fun f c' pm' ctv H1 s' I1 eN T1 hf hfn hfr hco => ?_)
  have nl : f ≠ X.env.locals := fun z => hfr (by rw [st]; exact List.mem_filterMap.mpr ⟨X.env, List.mem_cons_self, by rw [fr, z]⟩)
  have nf : f ∉ X.fs := fun hm => by
    obtain ⟨e, he, q⟩ := List.mem_filterMap.mp hm
    exact hfr (by rw [st]; exact List.mem_filterMap.mpr ⟨e, List.mem_cons_of_mem _ he, q⟩)
  obtain ⟨ob, hob⟩ : ∃ ob, ob = PySem.W.kla_obj "<lambda>" (X.env.qual ++ "<lambda>") params body scope (cloFrom X.env.cells scope.names []) pm' c' ctv := ⟨_, rfl⟩
  have I2 : Inv X ((f, ob) :: pins) σ H1 s' := I1.pins_of fun p hp => by
    rcases List.mem_cons.mp hp with rfl | hp
    · exact ⟨by rw [hob]; exact hf, hfn, nl, nf, fun v z => by rw [hob] at z; cases z⟩
    · exact I1.pin p (List.mem_append_right _ hp)
  refine thn (ha.run pos ((f, ob) :: pins) s' σ H1 _ I2 (h f c' H1 eN T1 hco)) fun us s2 ⟨vs, H2, I3, r, q1⟩ => ⟨I3.kIn, ?_⟩
  obtain ⟨p1, p2, p3, p4, p5⟩ := I3.pin (f, ob) (List.mem_append_right _ List.mem_cons_self)
  have hf2 : s2.heap.get? f = some (PySem.W.kla_obj "<lambda>" (X.env.qual ++ "<lambda>") params body scope (cloFrom X.env.cells scope.names []) pm' c' ctv) := by
    rw [← hob]
    exact p1
  have C : CanCall X.prog X.w X.K X.mg X.base j X.stack s2 H2 f c' (X.env.qual ++ "<lambda>") (fun E HZ Q => t E σ HZ Q) := can_lam I3 L hf2 p2 hfr (hbind _ _ _ _ _) fun A outer s H E hr2 => hbody A outer s H E f c' hr2
  have hl : (Value.ref f :: us).length = ps.length := by
    have z := F.len _ _ _ _ _ _ _ _ q1
    rw [← z]
    show us.length + 1 = vs.length + 1
    rw [← r.length]
  have hb' := hb s2 (.ref f :: us) I3.kIn (by rw [List.append_nil]; exact hl)
  rw [List.append_nil] at hb'
  have I4 : Inv X pins σ H2 s2 := I3.pins_of fun p hp => I3.pin p (List.mem_append_right _ (List.mem_cons_of_mem _ hp))
  refine wpAny_call (codeAny_mono (F.run X.A X.stack s2 H2 ⟨.ref f :: us, []⟩ (.ref f :: us) (.ref f :: vs) Q E0 f c' _ _ hr I4.env0 C hb' (.cons rfl r) q1) fun r s3 hq => ?_)
  cases r with
  | error e => exact hq.elim
  | ok fl =>
    cases fl with
    | ret u => exact I4.after hq
    | next => exact hq.elim
    | brk => exact hq.elim
    | cont => exact hq.elim
end L3

namespace L3
open PySem PySem.Spec PyProof.Rows L2 Evl ClX
/-! ### classes of the program -/
/-- what isinstance and the fields ask of an own class -/
structure Kls (K : PySem.W.Frag) (C : Addr) : Prop where
  cl : Cls K C
  ha : PySem.W.findIn K (.ref C) "__class__" = some (some (.builtin "object.__class__"))
  hn : PySem.W.specialIn K (.builtin "object.__class__") "__get__" = some (some (.builtin "getset_descriptor.__get__"))
  ht : PySem.W.takesIn K (.builtin "object.__class__") = some true
  hm : PySem.W.mroIn K C (.type "object") = some true
theorem Kls.ty {K : PySem.W.Frag} {H : Hp} {a C dx : Addr} {fs : List (Str × V)} (k : Kls K C) (h : H a = some (.ins C dx fs)) : TyX K H (.ref a) (.ref C) := .base (.ins h k.cl k.ha k.hn k.ht k.hm)
section
variable {K : PySem.W.Frag} {σ : L2.St} {H : Hp} {ta te : TE} {x v : V} {f : Str} {a C dx : Addr} {fs : List (Str × V)}
theorem ev_fld (h : Ev ta σ H (.ref a)) (hi : H a = some (.ins C dx fs)) (cl : Cls K C) (no : NoAttr K C f) (l : fs.lookup f = some v) : Ev (tFld K ta f) σ H v := fun H1 e Q q =>
  h H1 e _ fun H2 e2 => ⟨a, C, dx, fs, v, rfl, (e.trans e2) _ _ hi, cl, no, l, q H2 e2⟩
theorem ev_cval {mc u : Value} (h : Ev ta σ H (.ref C)) (r : CRead K C mc) (k : CVal K C mc f v u) : Ev (tCVal K ta f) σ H v := fun H1 e Q q => h H1 e _ fun H2 e2 => ⟨C, mc, v, u, rfl, r, k, q H2 e2⟩
/-- isinstance(x, C), C an own class -/
theorem ev_isC {t : Value} {b : Bool} (ha : Ev ta σ H x) (ht : ∀ H1, Ex H H1 → TyX K H1 x t) (hk : PySem.W.kitOne K t (.ref C) = some b) : Ev (tCB (rIsi K) (tCons ta (tCons (tC (.ref C)) tNil))) σ H (.bl b) :=
  ev_cb (ea_cons ha (ea_cons ev_c ea_nil)) fun H1 e Q q => ⟨x, .ref C, t, _, b, rfl, .own C, ht _ e, hk, q H1 (Ex.refl H1)⟩
/-- a text of parts: the next one -/
theorem js_cons {ts : List TE} {acc y : Str} {Q : Str → Hp → Prop} (h : Ev te σ H (.str y)) (hl : (acc ++ y).length ≤ 100000) (k : ∀ H1, Ex H H1 → tJs ts (acc ++ y) σ H1 Q) : tJs (te :: ts) acc σ H Q := h H (Ex.refl H) _ fun H1 e => ⟨y, rfl, sz_of hl, k H1 e⟩
theorem ev_fmtS {y : Str} (h : Ev te σ H (.str y)) (hl : y.length ≤ 100000) : Ev (tFmt te) σ H (.str y) := fun H1 e Q q => h H1 e _ fun H2 e2 => Or.inl ⟨y, rfl, sz_of hl, q H2 e2⟩
theorem ev_fmtI {i : Int} (h : Ev te σ H (.int i)) (hl : i.natAbs.log2 < 1920) : Ev (tFmt te) σ H (.str (toString i)) := fun H1 e Q q => h H1 e _ fun H2 e2 => Or.inr ⟨i, rfl, hl, q H2 e2⟩
theorem ev_fmtRS {y : Str} (h : Ev te σ H (.str y)) (hl : (reprText y).length ≤ 100000) : Ev (tFmtR te) σ H (.str (reprText y)) := fun H1 e Q q => h H1 e _ fun H2 e2 => Or.inl ⟨y, rfl, sz_of hl, q H2 e2⟩
end
theorem putF_len (f : Str) (v : V) : ∀ fs : List (Str × V), (putF f v fs).length ≤ fs.length + 1
  | [] => Nat.le_refl _
  | (g, x) :: r => by
    unfold putF
    split
    · exact Nat.le_succ _
    · rw [List.length_cons, List.length_cons]
      exact Nat.succ_le_succ (putF_len f v r)
theorem sl_app (a b : Str) : (a ++ b).length = a.length + b.length := strLen_append a b
theorem sl_int {i : Int} (h : i.natAbs < 10 ^ 50) : (Str.ofString (toString i)).length ≤ 60 := by
  have z := int_text_length_le10 (a := i) (k := 50) (by decide) h
  rw [PySem.ofString_length]
  omega
end L3
namespace L3
open PySem PySem.Spec PyProof.Rows L2 Evl ClX
/-! ### not in: any data, in a tuple of texts -/
def rNiD (K : PySem.W.Frag) : R2 := fun x y H Q => ∃ (d : PyData) (t : Addr) (ss : List Str), y = .ref t ∧ Dp K H x d ∧ SeqAt.shaped d = true ∧ SqT K H t (ss.map V.str) ∧ (∀ s ∈ ss, (PyData.str s).canLay0 = true) ∧ Q (.bl (!(ss.any fun s => PyData.eqv (.str s) d))) H
def eqT (d : PyData) : Value → Bool
  | .str s _ => PyData.eqv (.str s) d
  | _ => false
theorem any_eqT {d : PyData} : ∀ {ss : List Str} {its : List Value}, Vals (ss.map V.str) its → its.any (eqT d) = ss.any fun s => PyData.eqv (.str s) d
  | [], its, r => by
    cases r
    rfl
  | s :: ss, its, r => by
    cases r with
    | cons r1 r2 =>
      obtain ⟨t, rfl⟩ := (show ∃ t, _ = Value.str s t from r1)
      rw [List.any_cons, List.any_cons, any_eqT r2] <;> rfl
theorem mem_strs : ∀ {ss : List Str} {its : List Value}, Vals (ss.map V.str) its → ∀ w ∈ its, ∃ s t, s ∈ ss ∧ w = .str s t
  | [], its, r, w, hw => by
    cases r
    cases hw
  | s :: ss, its, r, w, hw => by
    cases r with
    | cons r1 r2 =>
      obtain ⟨t, rfl⟩ := (show ∃ t, _ = Value.str s t from r1)
      rcases List.mem_cons.mp hw with rfl | hw
      · exact ⟨s, t, List.mem_cons_self, rfl⟩
      · obtain ⟨s', t', h1, h2⟩ := mem_strs r2 w hw
        exact ⟨s', t', List.mem_cons_of_mem _ h1, h2⟩
theorem op_notInD {X : Cx} (hu : X.A.units + 64 < cLine) : OpR X (compareOp .NotIn) (rNiD X.K) := by
  intro pins s σ H x y v u Q I rx ry h
  obtain ⟨d, t, ss, rfl, hd, sd, hq, hc, q⟩ := h
  cases (show u = Value.ref t from ry)
  obtain ⟨as, r1⟩ := Dp.reads I d x v hd rx
  obtain ⟨its, r, pl, hz⟩ := I.tuple hq
  refine SeqAt.notIn_tupleAt (eqT d) pl (fun w hw => ?_) ⟨.bl _, H, I, rfl, ?_⟩
  · obtain ⟨z, tk, hz2, rfl⟩ := mem_strs r w (by simpa using hw)
    have hu1 : X.A.in1.units + min (PyData.str z).depth d.depth < cLine := by
      show X.A.units + 1 + min 0 d.depth < cLine
      omega
    exact SeqAt.eqAt_reads (.str z) d _ _ _ _ _ _ (Reads.str z tk) r1 (hc z hz2) (SeqAt.canLay_of_shaped sd) hu1
  · rw [show its.toArray.any (eqT d) = its.any (eqT d) by simp, any_eqT r]
    exact q
/-! ### a value of the library == an own instance: the instance is asked -/
section
open PySem.W PySem.Calls PySem.SeqAt
variable {prog : Program} {w : World} {A : Around} {E : Value → Shared → Prop} {s : Shared} {K : Frag} {x C f dx : Addr} {ox : Obj} {od : Option Obj} {a : Value}
theorem eqR_own {Q : Value → Shared → Prop} {T ida : String} (hu : A.units < cLine) (X : K.In s.heap) (ha : s.TypeIs a T) (I : InstAt s.heap x ox C od) (hsub : subIn K (.ref C) (.type T) = some false) (h1 : Slot T "__eq__" ida)
    (hc1 : ∀ Q' : Value → Shared → Prop, Q' .notImplemented s → wpAny (model prog w) A (call (.builtin ida) [a, .ref x]) Q' E s) (hs : findIn K (.ref C) "__eq__" = some (some (.ref f))) (hf : isFn K (.ref f) = true)
    (h : wpAny (model prog w) A (call (.ref f) [.ref x, a]) (PySem.W.CmpBack Q) E s) : wpAny (model prog w) A (richCompare .Eq a (.ref x)) Q E s := by
  have one : wpAny (model prog w) A (tryCompare (.ref x) "__eq__" a) (fun r s' => ∃ v, r = some v ∧ Q v s') E s := by
    unfold tryCompare
    refine wpAny_bind (ifBound_K X I hs hf (wpAny_mono h (fun v s' hv => ?_) fun _ _ e => e))
    cases v <;> first | exact hv.elim | exact wpAny_pure ⟨_, rfl, hv⟩
  unfold richCompare
  simp only [ha.oneThing_none]
  refine wpAny_holding (wpAny_bind (wpAny_cRoomFor hu ?_))
  refine wpAny_bind (wpAny_typeOf ha (wpAny_bind (I.type.here ?_)))
  have ne : (Value.type T != Value.ref C) = true := rfl
  rw [if_pos ne]
  refine wpAny_bind ((looks_subIn X hsub).here ?_)
  simp only [Bool.false_eq_true, if_false, Bool.not_false, if_true]
  refine wpAny_bind (m := tryCompare a _ (.ref x)) (wpAny_tryCompare_declines ha h1 (hc1 _ ⟨rfl, ?_⟩))
  refine wpAny_bind (wpAny_mono one (fun r s' z => ?_) fun _ _ e => e)
  obtain ⟨v, rfl, hq⟩ := z
  exact wpAny_pure hq
theorem int_declines_bool (b : Bool) : Meets (Builtin.«int.__eq__» ⟨[.bool b, .ref x], []⟩) (fun _ R s => s.heap.get? x = some (instObj C dx) ∧ R (.ok (.ret .notImplemented)) s) :=
  .of_wp fun prog w A R s h => by obtain ⟨hp, g, d, tk, os⟩ := s; obtain ⟨hl, h⟩ := h; wp_walk using AutoSeq1.wpAny_loadPart' hl, wpAny_load hl; exact ⟨_, rfl, h⟩
theorem int_declines_int (b : Int) (u : Tok) : Meets (Builtin.«int.__eq__» ⟨[.int b u, .ref x], []⟩) (fun _ R s => s.heap.get? x = some (instObj C dx) ∧ R (.ok (.ret .notImplemented)) s) :=
  .of_wp fun prog w A R s h => by obtain ⟨hp, g, d, tk, os⟩ := s; obtain ⟨hl, h⟩ := h; wp_walk using AutoSeq1.wpAny_loadPart' hl, wpAny_load hl; exact ⟨_, rfl, h⟩
theorem str_declines_str (b : Str) (u : Tok) : Meets (Builtin.«str.__eq__» ⟨[.str b u, .ref x], []⟩) (fun _ R s => s.heap.get? x = some (instObj C dx) ∧ R (.ok (.ret .notImplemented)) s) :=
  .of_wp fun prog w A R s h => by obtain ⟨hp, g, d, tk, os⟩ := s; obtain ⟨hl, h⟩ := h; wp_walk using AutoSeq1.wpAny_loadPart' hl, wpAny_load hl; exact ⟨_, rfl, h⟩
theorem list_declines {l : Addr} : MeetsIn prog w (Builtin.«list.__eq__» ⟨[.ref l, .ref x], []⟩) (fun _ R s => s.heap.get? x = some (instObj C dx) ∧ Looks (model prog w) s.heap (isSubtype (.ref C) (.type "list")) false ∧ R (.ok (.ret .notImplemented)) s) := fun A R s h => by
  obtain ⟨hp, g, d, tk, os⟩ := s
  obtain ⟨hl, hs, h⟩ := h
  wp_walk using AutoSeq1.wpAny_loadPart' hl, wpAny_load hl, hs.at
  exact h
theorem tuple_declines {l : Addr} : MeetsIn prog w (Builtin.«tuple.__eq__» ⟨[.ref l, .ref x], []⟩) (fun _ R s => s.heap.get? x = some (instObj C dx) ∧ Looks (model prog w) s.heap (isSubtype (.ref C) (.type "tuple")) false ∧ R (.ok (.ret .notImplemented)) s) := fun A R s h => by
  obtain ⟨hp, g, d, tk, os⟩ := s
  obtain ⟨hl, hs, h⟩ := h
  wp_walk using AutoSeq1.wpAny_loadPart' hl, wpAny_load hl, hs.at
  exact h
end
/-- a class over nothing of Python's own -/
structure NoBase (K : PySem.W.Frag) (C : Addr) : Prop where
  none : PySem.W.subIn K (.ref C) (.type "NoneType") = some false
  bool : PySem.W.subIn K (.ref C) (.type "bool") = some false
  int : PySem.W.subIn K (.ref C) (.type "int") = some false
  str : PySem.W.subIn K (.ref C) (.type "str") = some false
  list : PySem.W.subIn K (.ref C) (.type "list") = some false
  tuple : PySem.W.subIn K (.ref C) (.type "tuple") = some false
def rEqR (K : PySem.W.Frag) (C : Addr) (sp : Sp) : R2 := fun x y H Q => ∃ (a dx : Addr) (fs : List (Str × V)) (d : PyData), y = .ref a ∧ H a = some (.ins C dx fs) ∧ Dp K H x d ∧ sp [.ref a, x] H (fun v H' => ∃ c, v = .bl c ∧ Q v H') E0
theorem op_eqR {X : Cx} {CX : CXT} {n : Nat} {C f : Addr} {fd : FuncData} {ps : List Str} {sp : Sp} (S : Spm X.K C "__eq__" f) (N : NoBase X.K C) (F : FnOk X.prog X.w X.K X.mg X.base CX n f fd ps sp) (hb : Binds X.K fd ps []) (hx : Passes CX X E0) (hr : Room n X.A) : OpR X (compareOp .Eq) (rEqR X.K C sp) := by
  intro pins s σ H x y v u Q I rx ry h
  obtain ⟨a, dx, fs, d, rfl, ha, hd, q⟩ := h
  cases (show u = Value.ref a from ry)
  obtain ⟨mA, O, _⟩ := ins_get I.hok ha
  obtain ⟨od, J, _⟩ := O.look
  have hi : s.heap.get? a = some (PySem.W.instObj C dx) := O.1
  have own : wpAny (model X.prog X.w) X.A (call (.ref f) [.ref a, v]) (PySem.W.CmpBack (EP X pins σ Q)) X.xe s := wpAny_mono (own_call (vs := [V.ref a, x]) F hb hx hr rfl I (.cons rfl (.cons rx .nil)) q) (fun w s' z => by
    obtain ⟨v, H', I', rv, c, rfl, q⟩ := z
    cases (show w = Value.bool c from rv)
    exact ⟨.bl c, H', I', rfl, q⟩) fun _ _ z => z
  refine PySem.W.cmp_ofEq ?_
  cases hd with
  | non =>
    cases (show v = Value.none from rx)
    exact eqR_own hr.units0 I.kIn rfl J N.none PySem.F.slot_NoneType_eq (fun _ hq => call_gives PySem.F.slot_NoneType_eq rfl PySem.F.entry_NoneType_eq (PySem.F.args_NoneType_eq_2 _ _) (SeqAt.NoneType___eq___none_ref_0 a) hq) S.at_ S.fn own
  | bl b =>
    cases (show v = Value.bool b from rx)
    exact eqR_own hr.units0 I.kIn rfl J N.bool PySem.F.slot_bool_eq (fun _ hq => call_meets PySem.F.slot_bool_eq rfl PySem.F.entry_int_eq (PySem.F.args_int_eq_2 _ _) (int_declines_bool b) ⟨hi, hq⟩) S.at_ S.fn own
  | int i =>
    obtain ⟨t, rfl⟩ := (show ∃ t, v = Value.int i t from rx)
    exact eqR_own hr.units0 I.kIn (typeIs_int s i t) J N.int PySem.F.slot_int_eq (fun _ hq => call_meets PySem.F.slot_int_eq (typeIs_int s i t) PySem.F.entry_int_eq (PySem.F.args_int_eq_2 _ _) (int_declines_int i t) ⟨hi, hq⟩) S.at_ S.fn own
  | str z =>
    obtain ⟨t, rfl⟩ := (show ∃ t, v = Value.str z t from rx)
    exact eqR_own hr.units0 I.kIn (typeIs_str s z t) J N.str PySem.F.slot_str_eq (fun _ hq => call_meets PySem.F.slot_str_eq (typeIs_str s z t) PySem.F.entry_str_eq (PySem.F.args_str_eq_2 _ _) (str_declines_str z t) ⟨hi, hq⟩) S.at_ S.fn own
  | lst hs hl =>
    cases (show v = Value.ref _ from rx)
    obtain ⟨its, r, pl, hz⟩ := I.list hs
    obtain ⟨o, ho, hc, _⟩ := pl.isList
    exact eqR_own hr.units0 I.kIn ⟨o, ho, hc⟩ J N.list PySem.F.slot_list_eq (fun _ hq => call_meetsIn PySem.F.slot_list_eq ⟨o, ho, hc⟩ PySem.F.entry_list_eq (PySem.F.args_list_eq_2 _ _) list_declines ⟨hi, PySem.W.looks_subIn I.kIn N.list, hq⟩) S.at_ S.fn own
  | tup hs hl =>
    cases (show v = Value.ref _ from rx)
    obtain ⟨its, r, pl, hz⟩ := I.tuple hs
    obtain ⟨o, ho, hc, _⟩ := id pl
    exact eqR_own hr.units0 I.kIn ⟨o, ho, hc⟩ J N.tuple PySem.F.slot_tuple_eq (fun _ hq => call_meetsIn PySem.F.slot_tuple_eq ⟨o, ho, hc⟩ PySem.F.entry_tuple_eq (PySem.F.args_tuple_eq_2 _ _) tuple_declines ⟨hi, PySem.W.looks_subIn I.kIn N.tuple, hq⟩) S.at_ S.fn own
end L3

namespace L3
open PySem PySem.Spec PyProof.Rows L2 Evl
inductive TestO3 (X : Cx) : Expr → List Value → Prop
  | one {x : Str} {c : Value} {p : Pos} (hc : Names X x c) : TestO3 X (.Name x p) [c]
  | two {x y : Str} {c e : Value} {p q r : Pos} {kk : Nat} (hc : Names X x c) (he : Names X y e) : TestO3 X (.Tuple [.Name x p, .Name y q] kk r) [c, e]
  | three {x y z : Str} {c e f : Value} {p q r u : Pos} {kk : Nat} (hc : Names X x c) (he : Names X y e) (hf : Names X z f) : TestO3 X (.Tuple [.Name x p, .Name y q, .Name z u] kk r) [c, e, f]
inductive ClsT3 (X : Cx) : List ExceptHandler → List ClauseT → Prop
  | nil : ClsT3 X [] []
  | bare {te : Expr} {cs : List Value} {t : Addr → Value → Option Addr → TS} {b : Stmt} {bs : List Stmt} {q : Pos} {hs : List ExceptHandler} {l : List ClauseT} (hc : TestO3 X te cs)
      (hsu : ∀ (a : Addr) (o : Obj) (cls : Value) (d : Option Addr) (pn : List (Addr × Obj)), Zc cls d o → (∃ vs, o.data = .fields vs) → PSs (X.suite a ((a, o) :: pn)) (b :: bs) (t a cls d)) (r : ClsT3 X hs l) :
      ClsT3 X (.ExceptHandler (some te) none (b :: bs) q :: hs) ((cs, none, t) :: l)
  | named {te : Expr} {n : Str} {i : Nat} {cs : List Value} {t : Addr → Value → Option Addr → TS} {b : Stmt} {bs : List Stmt} {q : Pos} {hs : List ExceptHandler} {l : List ClauseT} (hN : X.N.Nodup) (hi : X.N[i]? = some n) (hn : X.env.kindOf n = some .local) (hc : TestO3 X te cs)
      (hsu : ∀ (a : Addr) (o : Obj) (cls : Value) (d : Option Addr) (pn : List (Addr × Obj)), Zc cls d o → (∃ vs, o.data = .fields vs) → PSs (X.suite a ((a, o) :: pn)) (b :: bs) (t a cls d)) (r : ClsT3 X hs l) :
      ClsT3 X (.ExceptHandler (some te) (some n) (b :: bs) q :: hs) ((cs, some i, t) :: l)
theorem ps_tryT3 {X : Cx} {body : List Stmt} {h : ExceptHandler} {hs : List ExceptHandler} {l : List ClauseT} {pos : Pos} {tb : WX → TS} {Wout : WX} (st : X.stack = X.env :: X.outer) (fr : X.env.frame = some X.env.locals) (tk : Takes X Wout)
    (bo : ∀ (W : WX) (pn : List (Addr × Obj)) (xe : Value → Shared → Prop), Takes (X.tr pn xe) W → PassesOwn (model X.prog X.w) X.A X.env xe → PSs (X.tr pn xe) body (tb W))
    (cl : ClsT3 X (h :: hs) l) : PS X (.Try body (h :: hs) [] [] pos) (fun D σ H => tb (wClT X.K Wout D l) D σ H) := by
  refine ⟨fun pins s σ H D I rd => ?_⟩
  have ok := I.ok
  have hfr : X.A.frames = some (X.env :: X.outer) := by rw [ok.frames, st]
  refine wpAny_Try_except ?_
  refine wpAny_mono ((bo (wClT X.K Wout D l) (X.pn ++ pins) (fun e z => wpAny (model X.prog X.w) X.A (noteFrame e X.env) (fun _ z2 => wpAny (model X.prog X.w) X.A (setFlight e none) (fun _ z3 =>
    wpAny (model X.prog X.w) X.A (handleBy e X.env (h :: hs)) (SP X pins D) X.xe z3) X.xe z2) X.xe z) (fun u s' hit => ?_) PassesOwn.looking).run [] s σ H D (I.toTry _) rd) (fun f z sp => ?_) (fun e z he => he)
  · obtain ⟨a, B, s0, pins', σ', H', cls, d, rfl, J', nb, up, sky, na, os, ag, wish⟩ := hit
    have J : Inv X pins σ' H' s0 := J'.ofTry ok
    have sky' : Sky B (X.env :: X.outer) a (Zc cls d) X.env.locals s'.heap := by
      rw [← st]
      exact sky
    show wpAny (model X.prog X.w) X.A (noteFrame (.ref a) X.env) _ _ _
    refine Sky.land Zc.steady hfr fr sky' fun h0 fl0 up0 => ?_
    have off : ∀ {hh : Heap} {o3 : Obj} {v3 : Array Value}, Inv X pins σ' H' { s' with heap := hh } → HandSPX.FlyingZ B (X.env :: X.outer) a (Zc cls d) hh → hh.get? a = some o3 → o3.data = .fields v3 → a ≠ X.env.locals ∧ a ∉ X.fs := fun {hh o3 v3} _ fl at3 d3 => by
      have of1 : a ∉ frs (X.env :: X.outer) := fun hm => by
        obtain ⟨_, o', e', nf⟩ := fl.2.2.1.mem hm
        rw [at3] at e'
        cases e'
        exact nf _ d3
      exact ⟨fun z => of1 (List.mem_filterMap.mpr ⟨X.env, List.mem_cons_self, by rw [fr, z]⟩), fun hm => by
        obtain ⟨e, he, q⟩ := List.mem_filterMap.mp hm
        exact of1 (List.mem_filterMap.mpr ⟨e, List.mem_cons_of_mem _ he, q⟩)⟩
    have tst : ∀ {te : Expr} {cs : List Value} {b : Bool} {R : Bool → Shared → Prop} {E1 E2 : Value → Shared → Prop}, TestO3 X te cs → exmC X.K cls cs = some b → ∀ h3, HandSPX.FlyingZ B (X.env :: X.outer) a (Zc cls d) h3 → s'.heap.UpToSlots h3 →
        (∀ h4, HandSPX.FlyingZ B (X.env :: X.outer) a (Zc cls d) h4 → s'.heap.UpToSlots h4 → R b { s' with heap := h4 }) →
        wpAny (model X.prog X.w) (X.A.mark (some (.ref a))) (eval te X.env) (fun c s2 => wpAny (model X.prog X.w) (X.A.mark (some (.ref a))) (excMatches (.ref a) c) R E1 s2) E2 { s' with heap := h3 } := by
      intro te cs b R E1 E2 ht hb h3 fl up3 q
      have J3 : Inv X pins σ' H' { s' with heap := h3 } := J.landed nb fl.1 (up.trans up3) os ag
      obtain ⟨o3, v3, at3, z3, d3⟩ := fl.there
      obtain ⟨nL, nF⟩ := off J3 fl at3 d3
      have S3 := J3.suite at3 d3 na nL nF
      have typ : PySem.W.Looks (model X.prog X.w) h3 (typeOf (.ref a)) cls := fun A Q E s k q => wpAny_typeOf_ref (k _ _ at3) (by rw [z3.1]; exact q)
      have named : ∀ {x : Str} {c : Value} {p : Pos} {Q E0 : Value → Shared → Prop}, Names X x c → Q c { s' with heap := h3 } →
          wpAny (model X.prog X.w) (X.A.mark (some (.ref a))) (eval (.Name x p) X.env) Q E0 { s' with heap := h3 } := fun {x c p Q E0} hc q => by
        obtain ⟨hg, hdb, hm | ⟨hm, hv, hne⟩⟩ := hc
        · exact ld_glob (X := X.suite a ((a, o3) :: (X.pn ++ pins))) S3 hg hm q hdb
        · exact ld_blt (X := X.suite a ((a, o3) :: (X.pn ++ pins))) S3 hg hm hv q hne hdb
      cases ht with
      | one hc => exact named hc ((PySem.W.exm_one (M := model X.prog X.w) (J3.kIn) typ hb).here (q h3 fl up3))
      | @two x y c e p r r2 kk hc he =>
        refine wpAny_Tuple ?_
        refine wpAny_items_cons (named hc ?_)
        refine wpAny_items_cons (named he ?_)
        refine wpAny_items_nil ⟨by size_fits, ?_⟩
        have kp : ∀ b o, h3.get? b = some o → (h3.push { cls := .type "tuple", data := .seq [c, e].toArray }).get? b = some o := fun _ _ z => Heap.get?_push_of_some _ z
        refine (PySem.W.exm_tup2 (M := model X.prog X.w) (J3.kIn.keeps kp) (typ.keeps kp) (Heap.get?_push_size h3 rfl) hb).here (q _ (flying_push fl) (up3.trans (Heap.UpToSlots.of_keeps kp)))
      | @three x y z c e f p q2 r u kk hc he hf =>
        refine wpAny_Tuple ?_
        refine wpAny_items_cons (named hc ?_)
        refine wpAny_items_cons (named he ?_)
        refine wpAny_items_cons (named hf ?_)
        refine wpAny_items_nil ⟨by size_fits, ?_⟩
        have kp : ∀ b o, h3.get? b = some o → (h3.push { cls := .type "tuple", data := .seq [c, e, f].toArray }).get? b = some o := fun _ _ z => Heap.get?_push_of_some _ z
        refine (PySem.W.exm_tup3 (M := model X.prog X.w) (J3.kIn.keeps kp) (typ.keeps kp) (Heap.get?_push_size h3 rfl) hb).here (q _ (flying_push fl) (up3.trans (Heap.UpToSlots.of_keeps kp)))
    have go : ∀ {ks : List ExceptHandler} {ls : List ClauseT}, ClsT3 X ks ls → wClT X.K Wout D ls cls d σ' H' → ∀ h3, HandSPX.FlyingZ B (X.env :: X.outer) a (Zc cls d) h3 → s'.heap.UpToSlots h3 →
        wpAny (model X.prog X.w) X.A (handleBy (.ref a) X.env ks) (SP X pins D) X.xe { s' with heap := h3 } := by
      intro ks ls hk
      induction hk with
      | nil =>
        intro wi h3 fl up3
        have J3 : Inv X pins σ' H' { s' with heap := h3 } := J.landed nb fl.1 (up.trans up3) os ag
        refine wpAny_handleBy_nil ?_
        obtain ⟨y1, y2, y3, oe, vs, Ta, oT, ts, he, hz, hd, hv1, hrest⟩ := id fl
        unfold PySem.passOn
        refine wpAny_bind (wpAny_field he hd hv1 ?_)
        rw [if_neg (show ¬ ((Value.ref Ta == Value.none) = true) by simp)]
        have fin : wpAny (model X.prog X.w) X.A (setFlight (.ref a) X.env.frame) (fun _ w4 => wpAny (model X.prog X.w) X.A (throw (.ref a) : Sem Flow) (SP X pins D) X.xe w4) X.xe { s' with heap := h3 } := by
          rw [fr]
          refine HandSPX.setFlight_upZ fl fun h4 hh up4 => wpAny_throw (tk _ _ ?_)
          exact ⟨a, B, s0, pins, σ', H', cls, d, rfl, J, nb, (up.trans up3).trans up4, .inr (.inr (by rw [st]; exact hh)), na, os, ag, wi⟩
        first | exact wpAny_bind (wpAny_pure (wpAny_bind fin)) | exact wpAny_bind fin
      | @bare te cs t b bs q hs2 l2 hc hsu r ih =>
        intro wi h3 fl up3
        obtain ⟨y, hy, yes, no⟩ := wi
        refine wpAny_handleBy_cons (codeAny_handlers_test ?_) (by cases hc <;> (intro q; cases q))
        refine tst hc hy h3 fl up3 fun h4 fl4 up4 => ?_
        cases y with
        | false =>
          show wpAny _ X.A (handleBy (.ref a) X.env hs2) _ _ _
          exact ih (no rfl) h4 fl4 up4
        | true =>
          refine codeAny_handlers_suite ?_
          refine HandSPX.lands_againZ fl4 fun h5 fl5 up5 => ?_
          have J5 : Inv X pins σ' H' { s' with heap := h5 } := J.landed nb fl5.1 ((up.trans up4).trans up5) os ag
          obtain ⟨o5, v5, at5, z5, d5⟩ := fl5.there
          obtain ⟨nL, nF⟩ := off J5 fl5 at5 d5
          have S5 := J5.suite at5 d5 na nL nF
          refine wpAny_mono ((hsu a o5 cls d (X.pn ++ pins) z5 ⟨_, d5⟩).run [] _ _ H' D S5 (yes rfl a na)) (fun f s6 sp => ?_) (fun _ _ z => False.elim z)
          cases f with
          | ret u =>
            obtain ⟨v6, σ6, H6, S6, r6, q6⟩ := sp
            exact ⟨v6, σ6, H6, S6.unsuite ok, r6, q6⟩
          | next =>
            obtain ⟨σ6, H6, S6, q6⟩ := sp
            exact ⟨σ6, H6, S6.unsuite ok, q6⟩
          | brk =>
            obtain ⟨σ6, H6, S6, q6⟩ := sp
            exact ⟨σ6, H6, S6.unsuite ok, q6⟩
          | cont =>
            obtain ⟨σ6, H6, S6, q6⟩ := sp
            exact ⟨σ6, H6, S6.unsuite ok, q6⟩
      | @named te n i cs t b bs q hs2 l2 hN hi hn hc hsu r ih =>
        intro wi h3 fl up3
        obtain ⟨y, hy, yes, no⟩ := wi
        refine wpAny_handleBy_cons (codeAny_handlers_test ?_) (by cases hc <;> (intro q; cases q))
        refine tst hc hy h3 fl up3 fun h4 fl4 up4 => ?_
        cases y with
        | false =>
          show wpAny _ X.A (handleBy (.ref a) X.env hs2) _ _ _
          exact ih (no rfl) h4 fl4 up4
        | true =>
          refine codeAny_handlers_suite_as ?_
          refine HandSPX.lands_againZ fl4 fun h5 fl5 up5 => ?_
          have J5 : Inv X pins σ' H' { s' with heap := h5 } := J.landed nb fl5.1 ((up.trans up4).trans up5) os ag
          obtain ⟨o5, v5, at5, z5, d5⟩ := fl5.there
          obtain ⟨nL, nF⟩ := off J5 fl5 at5 d5
          have S5 := J5.suite at5 d5 na nL nF
          refine store_ok (X := X.suite a ((a, o5) :: (X.pn ++ pins))) (v := .ref a) S5 hN hi (.inl hn) rfl (fun sx Sx => ?_) (.inr hn)
          refine wpAny_mono ((hsu a o5 cls d (X.pn ++ pins) z5 ⟨_, d5⟩).run [] sx _ H' (gone D i) Sx (yes rfl a na)) (fun f s6 sp => ?_) (fun _ _ z => False.elim z)
          have out : ∀ {σ6 : L2.St} {H6 : Hp} {Q : Shared → Prop}, Inv (X.suite a ((a, o5) :: (X.pn ++ pins))) [] σ6 H6 s6 → (∀ s7, Inv X pins (σ6.set i none) H6 s7 → Q s7) →
              wpAny (model X.prog X.w) X.A (do bindName X.env n .none; unbindBehindTheSuite X.env n q) (fun _ s7 => Q s7) X.xe s6 := fun {σ6 H6 Q} S6 hq => gone_ok (S6.unsuite ok) hN hi hn hq
          cases f with
          | ret u =>
            obtain ⟨v6, σ6, H6, S6, r6, q6⟩ := sp
            exact out S6 fun s7 J7 => ⟨v6, _, H6, J7, r6, q6⟩
          | next =>
            obtain ⟨σ6, H6, S6, q6⟩ := sp
            exact out S6 fun s7 J7 => ⟨_, H6, J7, q6⟩
          | brk =>
            obtain ⟨σ6, H6, S6, q6⟩ := sp
            exact out S6 fun s7 J7 => ⟨_, H6, J7, q6⟩
          | cont =>
            obtain ⟨σ6, H6, S6, q6⟩ := sp
            exact out S6 fun s7 J7 => ⟨_, H6, J7, q6⟩
    exact go cl wish h0 fl0 up0
  · cases f with
    | ret u =>
      obtain ⟨v, σ', H', J', r, q⟩ := sp
      exact ⟨v, σ', H', J'.ofTry ok, r, q⟩
    | next =>
      obtain ⟨σ', H', J', q⟩ := sp
      exact wpAny_execs_nil ⟨σ', H', J'.ofTry ok, q⟩
    | brk =>
      obtain ⟨σ', H', J', q⟩ := sp
      exact ⟨σ', H', J'.ofTry ok, q⟩
    | cont =>
      obtain ⟨σ', H', J', q⟩ := sp
      exact ⟨σ', H', J'.ofTry ok, q⟩
end L3

namespace Lw
open PySem PySem.Spec PyProof.Rows L2 Evl L3
def top (i : Nat) : Stmt := PySem.Challenge.pw_latewords_k02_settings_refused.main.body.getD i (.Pass ⟨0, 0, 0, 0⟩)
abbrev sIsInt : Stmt := top 8
abbrev sBetw : Stmt := top 9
abbrev sBag : Stmt := top 19
abbrev sTake : Stmt := top 20
abbrev sWith : Stmt := top 22
/-- what is read of the top -/
structure Txt (K : PySem.W.Frag) (mg : Str → Option Value) : Prop where
  isi : mg "isinstance" = none
  isint : ∃ (f : Addr) (fd : FuncData), Fun K "is_integer" "is_integer" sIsInt f fd ∧ Binds K fd ["value"] [] ∧ mg "is_integer" = some (.ref f)
  int : mg "int" = none
  bool : mg "bool" = none
  tuple : mg "tuple" = none
  len : mg "len" = none
  range : mg "range" = none
  str : mg "str" = none
  repr : mg "repr" = none
  all : mg "all" = none
  max : mg "max" = none
  min : mg "min" = none
  abs : mg "abs" = none
/-! ### is_integer -/
def isInD (d : PyData) : Bool := match d with
  | .int _ => true
  | _ => false
def spIsInt (K : PySem.W.Frag) : Sp := fun vs H Q _ => ∃ (x : V) (d : PyData), vs = [x] ∧ Dp K H x d ∧ RetV (.bl (isInD d)) H Q
theorem scIsInt : FnScope ["value"] ["value"] (defScope sIsInt) := ⟨rfl, rfl, rfl, by decide +kernel, rfl, by decide +kernel, by decide +kernel⟩
theorem ok_isInt {P : Program} {w : World} {K : PySem.W.Frag} {mg : Str → Option Value} {base : Heap} {f : Addr} {fd : FuncData} (F : Fun K "is_integer" "is_integer" sIsInt f fd) (T : Txt K mg) : FnOk P w K mg base CX0 0 f fd ["value"] (spIsInt K) := by
  refine ok0 F scIsInt (fun vs H Q E h => ?_) (fun cdv A outer s H vs Q E h => ?_)
  · obtain ⟨x, d, rfl, _⟩ := h
    rfl
  · obtain ⟨x, d, rfl, hd, k⟩ := h
    refine ⟨_, pss_one (ps_ret (pe_and (pe_callB call_isi (by rfl) T.isi (by decide +kernel) (pa_cons (pv 0) (pa_cons (pe_ty "int" T.int) pa_nil)))
      (pe_one (pe_not (pe_callB call_isi (by rfl) T.isi (by decide +kernel) (pa_cons (pv 0) (pa_cons (pe_ty "bool" T.bool) pa_nil))))))), ?_⟩
    refine s_ret (v := .bl (isInD d)) ?_ k
    cases d with
    | int i =>
      cases hd
      exact ev_is (ev_andV (ev_isi (ev_var rfl) (.int i) (kit_int _)) fun _ => ev_notV (ev_isi (ev_var rfl) (.int i) (kit_bool _))) rfl
    | bool b => exact ev_is (ev_andV (b := false) (ev_isi (ev_var rfl) hd (kit_int _)) fun _ => ev_notV (ev_isi (ev_var rfl) hd (kit_bool _))) rfl
    | none => exact ev_is (ev_andV (b := false) (ev_isi (ev_var rfl) hd (kit_int _)) fun z => nomatch z) rfl
    | str b => exact ev_is (ev_andV (b := false) (ev_isi (ev_var rfl) hd (kit_int _)) fun z => nomatch z) rfl
    | list b => exact ev_is (ev_andV (b := false) (ev_isi (ev_var rfl) hd (kit_int _)) fun z => nomatch z) rfl
    | tuple b => exact ev_is (ev_andV (b := false) (ev_isi (ev_var rfl) hd (kit_int _)) fun z => nomatch z) rfl
    | dict b => exact ev_is (ev_andV (b := false) (ev_isi (ev_var rfl) hd (kit_int _)) fun z => nomatch z) rfl
theorem sp_isInt {K : PySem.W.Frag} {x : V} {d : PyData} {H : Hp} (hd : Dp K H x d) : SpV (spIsInt K) [x] H (.bl (isInD d)) :=
  fun H1 e Q q E => ⟨x, d, rfl, dp_ex e hd, fun H2 e2 => q H2 e2⟩
/-! ### between -/
def betwD (d : PyData) (lo hi : Int) : Bool := match d with
  | .int i => decide (lo ≤ i) && decide (i ≤ hi)
  | _ => false
def spBetw (K : PySem.W.Frag) : Sp := fun vs H Q _ => ∃ (x : V) (d : PyData) (lo hi : Int), vs = [x, .int lo, .int hi] ∧ Dp K H x d ∧ RetV (.bl (betwD d lo hi)) H Q
section
variable {P : Program} {w : World} {K : PySem.W.Frag} {mg : Str → Option Value} {base : Heap}
theorem scB : FnScope ["value", "low", "high"] ["value", "low", "high"] (defScope sBetw) := ⟨rfl, rfl, rfl, by decide +kernel, rfl, by decide +kernel, by decide +kernel⟩
theorem ok_betw {f : Addr} {fd : FuncData} (F : Fun K "between" "between" sBetw f fd) (T : Txt K mg) : FnOk P w K mg base CX0 1 f fd ["value", "low", "high"] (spBetw K) := by
  refine F.ok scB (fun vs H Q E h => ?_) (fun cdv A outer s H vs Q E hr h => ?_)
  · obtain ⟨x, d, lo, hi, rfl, _⟩ := h
    rfl
  · obtain ⟨x, d, lo, hi, rfl, hd, k⟩ := h
    obtain ⟨fI, fdI, FI, bI, gI⟩ := T.isint
    have GI : FnOk P w K mg base CX0 0 fI fdI ["value"] (spIsInt K) := ok_isInt FI T
    refine ⟨_, pss_one (ps_ret (pe_and (pe_call GI hr rfl gI FI.kp bI .nil pass0 (pa_cons (pv 0) pa_nil)) (pe_one (pe_chain op_le op_le (pv 1) (pv 0) (pv 2))))), ?_⟩
    refine s_ret (v := .bl (betwD d lo hi)) ?_ k
    cases d with
    | int i =>
      cases hd
      exact ev_is (ev_andV (a := true) (ev_call (ea_cons (ev_var rfl) ea_nil) (sp_isInt (.int i))) fun _ => ev_chain (ev_var rfl) (ev_var rfl) (ev_var rfl)) rfl
    | bool b => exact ev_is (ev_andV (a := false) (b := false) (ev_call (ea_cons (ev_var rfl) ea_nil) (sp_isInt hd)) fun z => nomatch z) rfl
    | none => exact ev_is (ev_andV (a := false) (b := false) (ev_call (ea_cons (ev_var rfl) ea_nil) (sp_isInt hd)) fun z => nomatch z) rfl
    | str b => exact ev_is (ev_andV (a := false) (b := false) (ev_call (ea_cons (ev_var rfl) ea_nil) (sp_isInt hd)) fun z => nomatch z) rfl
    | list b => exact ev_is (ev_andV (a := false) (b := false) (ev_call (ea_cons (ev_var rfl) ea_nil) (sp_isInt hd)) fun z => nomatch z) rfl
    | tuple b => exact ev_is (ev_andV (a := false) (b := false) (ev_call (ea_cons (ev_var rfl) ea_nil) (sp_isInt hd)) fun z => nomatch z) rfl
    | dict b => exact ev_is (ev_andV (a := false) (b := false) (ev_call (ea_cons (ev_var rfl) ea_nil) (sp_isInt hd)) fun z => nomatch z) rfl
theorem sp_betw {x : V} {d : PyData} {lo hi : Int} {H : Hp} (hd : Dp K H x d) : SpV (spBetw K) [x, .int lo, .int hi] H (.bl (betwD d lo hi)) :=
  fun H1 e Q q E => ⟨x, d, lo, hi, rfl, dp_ex e hd, fun H2 e2 => q H2 e2⟩
end
/-- the bag at g: digits, a seed, a count that leaves room for n more draws -/
def BagAt (H : Hp) (g : Addr) (n : Nat) : Prop := ∃ d s c : Int, H g = some (.lst [.int d, .int s, .int c]) ∧ 0 ≤ d ∧ 0 ≤ s ∧ s < 4294967296 ∧ 0 ≤ c ∧ c + 3 * n ≤ 1099511627776
theorem BagAt.ex {H H1 : Hp} {g : Addr} {n : Nat} (b : BagAt H g n) (e : Ex H H1) : BagAt H1 g n := by
  obtain ⟨d, s, c, h, r⟩ := b
  exact ⟨d, s, c, e g _ h, r⟩
theorem BagAt.less {H : Hp} {g : Addr} {n m : Nat} (b : BagAt H g n) (h : m ≤ n) : BagAt H g m := by
  obtain ⟨d, s, c, h1, h2, h3, h4, h5, h6⟩ := b
  exact ⟨d, s, c, h1, h2, h3, h4, h5, by omega⟩
/-- one draw -/
def spTake : Sp := fun vs H Q _ => ∃ (g : Addr) (n : Nat) (m : Int), vs = [.ref g, .int m] ∧ BagAt H g (n + 1) ∧ 1 ≤ m ∧ m ≤ 100000000000000000000 ∧
  ∀ (r : Int) (H' : Hp), 0 ≤ r → r < m → Ex (del H g) (del H' g) → BagAt H' g n → Q (.int r) H'
section
variable {P : Program} {w : World} {K : PySem.W.Frag} {mg : Str → Option Value} {base : Heap}
theorem rc_int {H : Hp} {i : Int} : RC (fun xs H Q => (∃ i, xs = [V.int i] ∧ Q (.int i) H) ∨ ∃ k, xs = [V.bl k] ∧ Q (.int (if k then 1 else 0)) H) [.int i] H (.int i) := fun H1 e Q q => Or.inl ⟨i, rfl, q H1 (Ex.refl H1)⟩
theorem scTa : FnScope ["_law_bag_here", "_law_many", "_law_digit", "_law_found", "_law_reach", "_law_more"] ["_law_bag_here", "_law_many"] (defScope sTake) := ⟨rfl, rfl, rfl, by decide +kernel, rfl, by decide +kernel, by decide +kernel⟩
theorem ok_take {f : Addr} {fd : FuncData} (F : Fun K "_law_take" "_law_take" sTake f fd) (T : Txt K mg) : FnOk P w K mg base CX0 1 f fd ["_law_bag_here", "_law_many"] spTake := by
  refine F.ok scTa (fun vs H Q E h => ?_) (fun cdv A outer s H vs Q E hr h => ?_)
  · obtain ⟨g, n, m, rfl, _⟩ := h
    rfl
  · obtain ⟨g, n, m, rfl, ⟨d, s, c, hg, hd, hs0, hs1, hc0, hc1⟩, hm1, hm2, k⟩ := h
    refine ⟨_, pss_cons (ps_if (pt_cmpR op_gt (pe_ix ix_list (pv 0) pe_int (fun _ _ => rfl)) pe_int (nomark _))
        (pss_cons (ps_set (i := 2) scTa.nd rfl (Or.inl rfl) (pe_op op_mod (pe_callTy call_int1 (by rfl) T.int PyProof.Rows.boot_int (pa_cons (pe_ix ix_list (pv 0) pe_int (fun _ _ => rfl)) pa_nil)) (pv 1)))
        (pss_cons (ps_asg (pe_op op_fdivW (pe_ix ix_list (pv 0) pe_int (fun _ _ => rfl)) (pv 1)) (pg_sub (pv 0) pe_int set_list))
        (pss_one (ps_ret (pv 2))))) pss_nil)
      (pss_cons (ps_asg (pe_tup (pa_cons pe_int (pa_cons pe_int pa_nil))) (pg_tup rfl (pgs_cons (pg_name (i := 3) scTa.nd rfl (Or.inl rfl)) (pgs_cons (pg_name (i := 4) scTa.nd rfl (Or.inl rfl)) pgs_nil))))
      (pss_cons (ps_while PassesOwn.never (pt_cmpR op_lt (pv 4) (pv 1) (nomark _))
        (pss_cons (ps_asg (pe_op op_add (pe_ix ix_list (pv 0) pe_int (fun _ _ => rfl)) pe_int) (pg_sub (pv 0) pe_int set_list))
        (pss_cons (ps_asg (pe_op op_mod (pe_callTy call_int1 (by rfl) T.int PyProof.Rows.boot_int (pa_cons (pe_op op_add (pe_op op_add (pe_op op_mul (pe_ix ix_list (pv 0) pe_int (fun _ _ => rfl)) pe_int)
            (pe_op op_mul (pe_op op_mul pe_int (pe_ix ix_list (pv 0) pe_int (fun _ _ => rfl))) (pe_ix ix_list (pv 0) pe_int (fun _ _ => rfl)))) pe_int) pa_nil)) pe_int) (pg_sub (pv 0) pe_int set_list))
        (pss_cons (ps_set (i := 5) scTa.nd rfl (Or.inl rfl) (pe_op op_mod (pe_callTy call_int1 (by rfl) T.int PyProof.Rows.boot_int (pa_cons (pe_op op_mul (pe_op op_fdiv (pe_ix ix_list (pv 0) pe_int (fun _ _ => rfl)) pe_int)
            (pe_op op_add (pe_op op_fdiv (pe_ix ix_list (pv 0) pe_int (fun _ _ => rfl)) pe_int) (pe_ix ix_list (pv 0) pe_int (fun _ _ => rfl)))) pa_nil)) pe_int))
        (pss_cons (ps_set (i := 3) scTa.nd rfl (Or.inl rfl) (pe_op op_add (pe_op op_mul (pv 3) pe_int) (pe_op op_mod (pe_callTy call_int1 (by rfl) T.int PyProof.Rows.boot_int (pa_cons (pe_op op_fdiv (pv 5) pe_int) pa_nil)) pe_int)))
        (pss_one (ps_set (i := 4) scTa.nd rfl (Or.inl rfl) (pe_op op_mul (pv 4) pe_int))))))))
      (pss_one (ps_ret (pe_op op_mod (pv 3) (pv 1)))))), ?_⟩
    refine q_when (b := decide (0 < d)) (et_test (ev_op (ev_op (ev_var rfl) ev_c (rv_ixL (sq_of hg) (atI_nat (j := 0) rfl))) ev_c rv_I0)) (fun hb H1 e1 => ?_) (fun hb H1 e1 => ?_)
    · have hd1 : 0 < d := of_decide_eq_true hb
      refine q_asg (ev_op (ev_cb (ea_cons (ev_op (ev_var rfl) ev_c (rv_ixL (sq_of (e1 g _ hg)) (atI_nat (j := 0) rfl))) ea_nil) rc_int) (ev_var rfl) (rv_I (show 0 < m by omega))) fun H2 e2 => ?_
      have hg2 : H2 g = some (.lst [.int d, .int s, .int c]) := e2 g _ (e1 g _ hg)
      refine q_setL (j := 0) hg2 (ev_op (ev_op (ev_var rfl) ev_c (rv_ixL (sq_of hg2) (atI_nat (j := 0) rfl))) (ev_var rfl) (rv_I (wide_div (b := 100) (show 0 < m by omega) (by omega) (by decide) (by decide)))) (ev_var rfl) ev_c (by show 0 < 3; decide) fun H3 e3 => ?_
      refine s_ret (ev_var rfl) fun H4 e4 => ?_
      refine k (d % m) H4 (Int.emod_nonneg _ (by omega)) (Int.emod_lt_of_pos _ (by omega)) ?_ ⟨d / m, s, c, e4 g _ upd_same, Int.ediv_nonneg hd (by omega), hs0, hs1, hc0, by omega⟩
      refine (ex_del ((e1.trans e2).trans e3)).trans ?_
      rw [← del_upd (H := H3) (l := g) (o := .lst (List.set [V.int d, V.int s, V.int c] 0 (V.int (d / m))))]
      exact ex_del e4
    · have hd1 : d = 0 := by
        have z := of_decide_eq_false hb
        omega
      refine ⟨by show 2 ≤ sizeLine; decide, fun pt hpt => ⟨pt, _, rfl, st_of upd_same, rfl, _, _, rfl, _, _, rfl, rfl, ?_⟩⟩
      have e1 : Ex H (upd H1 pt (.tup [.int 0, .int 1])) := e1.trans (Ex.new hpt)
      refine q_while (fun j σ' H' => ∃ (i : Nat) (fd : Int) (o2 o5 : Option V) (s' c' : Int), j = 3 - i ∧ i ≤ 3 ∧ σ' = [some (.ref g), some (.int m), o2, some (.int fd), some (.int (33554432 ^ i)), o5] ∧
          Ex (del H g) (del H' g) ∧ H' g = some (.lst [.int d, .int s', .int c']) ∧ 0 ≤ s' ∧ s' < 4294967296 ∧ 0 ≤ c' ∧ c' ≤ c + i) 3
        ⟨0, 0, none, none, s, c, rfl, by decide, rfl, ex_del e1, e1 g _ hg, hs0, hs1, hc0, by omega⟩ ?_
      rintro j σ' H' ⟨i, fd, o2, o5, s', c', rfl, hi, rfl, ex, hg', b1, b2, b3, b4⟩
      refine ⟨decide ((33554432 : Int) ^ i < m), et_test (ev_op (ev_var rfl) (ev_var rfl) rv_I0), fun hb2 H2 e2 => ?_, fun hb2 H2 e2 => ?_⟩
      · have hlt : (33554432 : Int) ^ i < m := of_decide_eq_true hb2
        have hi3 : i < 3 := by
          match i, hi, hlt with
          | 0, _, _ => decide
          | 1, _, _ => decide
          | 2, _, _ => decide
          | 3, _, hlt =>
            exfalso
            have z : (33554432 : Int) ^ 3 = 37778931862957161709568 := by decide
            omega
          | i + 4, hi, _ => omega
        have hg2 : H2 g = some (.lst [.int d, .int s', .int c']) := e2 g _ hg'
        refine ⟨_, fun σ2 H3 q => q, ?_⟩
        refine q_setL (j := 2) hg2 (ev_op (ev_op (ev_var rfl) ev_c (rv_ixL (sq_of hg2) (atI_nat (j := 2) rfl))) ev_c rv_I0) (ev_var rfl) ev_c (by show 2 < 3; decide) fun H3 e3 => ?_
        have hg3 : upd H3 g (.lst [.int d, .int s', .int (c' + 1)]) g = some (.lst [.int d, .int s', .int (c' + 1)]) := upd_same
        have ix0 : ∀ {σ : L2.St} {HH : Hp} {xs : List V} {q : Nat} {v : V}, σ[0]? = some (some (V.ref g)) → HH g = some (.lst xs) → xs[q]? = some v → Ev (tOp (rIxL K) (tVar 0) (tC (.int (q : Int)))) σ HH v :=
          fun h1 h2 h3 => ev_op (ev_var h1) ev_c (rv_ixL (sq_of h2) (atI_nat h3))
        obtain ⟨s2, hs2⟩ : ∃ s2, s2 = (s' * 40014 + 7919 * (c' + 1) * (c' + 1) + 83) % 2147483563 := ⟨_, rfl⟩
        have hs2a : 0 ≤ s2 := by rw [hs2]; exact Int.emod_nonneg _ (by decide)
        have hs2b : s2 < 2147483563 := by rw [hs2]; exact Int.emod_lt_of_pos _ (by decide)
        refine q_setL (j := 1) (v := .int s2) hg3 (ev_is ?_ (congrArg V.int hs2.symm)) (ev_var rfl) ev_c (by show 1 < 3; decide) fun H4 e4 => ?_
        · refine ev_op (ev_cb (ea_cons (ev_op (ev_op (ev_op (ix0 (q := 1) rfl hg3 rfl) ev_c (rv_I (Or.inr (by decide)))) (ev_op (ev_op ev_c (ix0 (q := 2) rfl hg3 rfl) (rv_I (Or.inl (by decide)))) (ix0 (q := 2) rfl hg3 rfl) (rv_I (Or.inr (by omega)))) rv_I0) ev_c rv_I0) ea_nil) rc_int) ev_c (rv_I (by show (0 : Int) < 2147483563; decide))
        have hg4 : upd H4 g (.lst [.int d, .int s2, .int (c' + 1)]) g = some (.lst [.int d, .int s2, .int (c' + 1)]) := upd_same
        refine q_asg (v := .int ((s2 / 7 * (s2 / 131 + (c' + 1))) % 2147483399)) ?_ fun H5 e5 => ?_
        · refine ev_op (ev_cb (ea_cons (ev_op (ev_op (ix0 (q := 1) rfl hg4 rfl) ev_c (rv_I ⟨by decide, by decide⟩)) (ev_op (ev_op (ix0 (q := 1) rfl hg4 rfl) ev_c (rv_I ⟨by decide, by decide⟩)) (ix0 (q := 2) rfl hg4 rfl) rv_I0) (rv_I (Or.inl (by omega)))) ea_nil) rc_int) ev_c (rv_I (by show (0 : Int) < 2147483399; decide))
        refine q_asg (ev_op (ev_op (ev_var rfl) ev_c (rv_I (Or.inr (by decide)))) (ev_op (ev_cb (ea_cons (ev_op (ev_var rfl) ev_c (rv_I ⟨by decide, by decide⟩)) ea_nil) rc_int) ev_c (rv_I (by show (0 : Int) < 33554432; decide))) rv_I0) fun H6 e6 => ?_
        refine s_asg (ev_op (ev_var rfl) ev_c (rv_I (Or.inr (by decide)))) fun H7 e7 => ?_
        refine ⟨3 - (i + 1), by omega, i + 1, fd * 33554432 + s2 / 7 * (s2 / 131 + (c' + 1)) % 2147483399 / 64 % 33554432, o2, some (.int (s2 / 7 * (s2 / 131 + (c' + 1)) % 2147483399)), s2, c' + 1, rfl, by omega, ?_, ?_, e7 g _ (e6 g _ (e5 g _ hg4)), hs2a, by omega, by omega, by omega⟩
        · rw [Int.pow_succ] <;> rfl
        · have q1 : Ex (del H' g) (del H3 g) := ex_del (e2.trans e3)
          have q2 : Ex (del H3 g) (del H4 g) := by
            rw [← del_upd (H := H3) (l := g) (o := .lst (List.set [V.int d, V.int s', V.int c'] 2 (V.int (c' + 1))))]
            exact ex_del e4
          have q3 : Ex (del H4 g) (del H7 g) := by
            rw [← del_upd (H := H4) (l := g) (o := .lst [.int d, .int s2, .int (c' + 1)])]
            exact ex_del ((e5.trans e6).trans e7)
          exact ((ex.trans q1).trans q2).trans q3
      · refine s_ret (ev_op (ev_var rfl) (ev_var rfl) (rv_I (show 0 < m by omega))) fun H3 e3 => ?_
        exact k (fd % m) H3 (Int.emod_nonneg _ (by omega)) (Int.emod_lt_of_pos _ (by omega)) (ex.trans (ex_del (e2.trans e3))) ⟨d, s', c', e3 g _ (e2 g _ hg'), hd, b1, b2, b3, by omega⟩
end

/-- the bag of the j-th cell -/
def spBag (K : PySem.W.Frag) : Sp := fun vs H Q _ => ∃ (a : Addr) (ns : List Int) (j : Nat), vs = [.ref a, .int (j : Int)] ∧ SqL K H a (ns.map V.int) ∧ j ≤ 63 ∧
  ∀ p H2, H p = none → Ex H (del H2 p) → BagAt H2 p 100000000000 → Q (.ref p) H2
section
variable {P : Program} {w : World} {K : PySem.W.Frag} {mg : Str → Option Value} {base : Heap}
theorem rc_intb {H : Hp} {b : Bool} : RC (fun xs H Q => (∃ i, xs = [V.int i] ∧ Q (.int i) H) ∨ ∃ k, xs = [V.bl k] ∧ Q (.int (if k then 1 else 0)) H) [.bl b] H (.int (if b then 1 else 0)) := fun H1 e Q q => Or.inr ⟨b, rfl, q H1 (Ex.refl H1)⟩
theorem rc_abs {H : Hp} {i : Int} : RC (fun xs H Q => ∃ i, xs = [V.int i] ∧ Q (.int (if i < 0 then -i else i)) H) [.int i] H (.int (if i < 0 then -i else i)) := fun H1 e Q q => ⟨i, rfl, q H1 (Ex.refl H1)⟩
theorem scBa : FnScope ["_law_script", "_law_at", "_law_cell", "_law_digits"] ["_law_script", "_law_at"] (defScope sBag) := ⟨rfl, rfl, rfl, by decide +kernel, rfl, by decide +kernel, by decide +kernel⟩
theorem ok_bag {f : Addr} {fd : FuncData} (F : Fun K "_law_bag" "_law_bag" sBag f fd) (T : Txt K mg) (hA : mg "abs" = none) : FnOk P w K mg base CX0 1 f fd ["_law_script", "_law_at"] (spBag K) := by
  refine F.ok scBa (fun vs H Q E h => ?_) (fun cdv A outer s H vs Q E hr h => ?_)
  · obtain ⟨a, ns, j, rfl, _⟩ := h
    rfl
  · obtain ⟨a, ns, j, rfl, hs, hj, k⟩ := h
    refine ⟨_, pss_cons (ps_set (i := 2) scBa.nd rfl (Or.inl rfl) (pe_ifExp (pt_cmpR op_lt (pv 1) (pe_callB call_len_seq (by rfl) T.len PySem.boot_len (pa_cons (pv 0) pa_nil)) (nomark _)) (pe_ix ix_list (pv 0) (pv 1) (fun _ _ => rfl)) pe_int))
      (pss_cons (ps_set (i := 3) scBa.nd rfl (Or.inl rfl) (pe_op op_mul (pe_callB call_abs (by rfl) hA PyProof.Rows.boot_abs (pa_cons (pv 2) pa_nil))
        (pe_callTy call_int1 (by rfl) T.int PyProof.Rows.boot_int (pa_cons (pe_cmpR op_ge (pe_callB call_abs (by rfl) hA PyProof.Rows.boot_abs (pa_cons (pv 2) pa_nil)) (pe_op op_pow pe_int pe_int) (nomark _)) pa_nil))))
      (pss_one (ps_ret (pe_lst (pa_cons (pv 3) (pa_cons (pe_op op_add (pe_op op_add (pe_op op_mod (pe_callTy call_int1 (by rfl) T.int PyProof.Rows.boot_int (pa_cons (pv 2) pa_nil)) pe_int) (pe_op op_mul pe_int (pv 1))) pe_int)
        (pa_cons pe_int pa_nil))))))), ?_⟩
    obtain ⟨cell, hcell⟩ : ∃ cell : Int, cell = ns.getD j 0 := ⟨_, rfl⟩
    have evl : Ev (tCB (rLenS K) (tCons (tVar 0) tNil)) (start ["_law_script", "_law_at", "_law_cell", "_law_digits"] [V.ref a, V.int (j : Int)]) H (.int (ns.length : Int)) := by
      have z := ev_len (K := K) (σ := start ["_law_script", "_law_at", "_law_cell", "_law_digits"] [V.ref a, V.int (j : Int)]) (H := H) (ta := tVar 0) (ev_var rfl) hs
      rw [List.length_map] at z
      exact z
    refine q_asg (v := .int cell) (ev_if (b := decide ((j : Int) < (ns.length : Int))) (et_test (ev_op (ev_var rfl) evl rv_I0)) (fun hb => ?_) fun hb => ?_) fun H1 e1 => ?_
    · have hlt := of_decide_eq_true hb
      refine ev_op (ev_var rfl) (ev_var rfl) (rv_ixL hs (atI_nat ?_))
      rw [List.getElem?_map, hcell, List.getD_eq_getElem?_getD]
      have hlt2 : j < ns.length := by omega
      have e : ns[j]? = some ns[j] := by simp [hlt2]
      rw [e] <;> rfl
    · have hge := of_decide_eq_false hb
      have e : ns[j]? = none := by simp; omega
      have e0 : cell = 0 := by rw [hcell, List.getD_eq_getElem?_getD, e] <;> rfl
      rw [e0]
      exact ev_c
    obtain ⟨ab, hab⟩ : ∃ ab : Int, ab = if cell < 0 then -cell else cell := ⟨_, rfl⟩
    have ab0 : 0 ≤ ab := by rw [hab]; split <;> omega
    obtain ⟨bb, hbb⟩ : ∃ bb : Bool, bb = decide ((10 : Int) ^ (18 : Int).toNat ≤ ab) := ⟨_, rfl⟩
    refine q_asg (v := .int (ab * (if bb then 1 else 0))) ?_ fun H2 e2 => ?_
    · have ea : ∀ {H' : Hp}, Ev (tCB (fun xs H Q => ∃ i, xs = [V.int i] ∧ Q (.int (if i < 0 then -i else i)) H) (tCons (tVar 2) tNil)) ((start ["_law_script", "_law_at", "_law_cell", "_law_digits"] [V.ref a, V.int (j : Int)]).set 2 (some (.int cell))) H' (.int ab) := fun {H'} => by
        rw [hab]
        exact ev_cb (ea_cons (ev_var rfl) ea_nil) rc_abs
      refine ev_op ea (ev_cb (ea_cons (ev_is (ev_op ea (ev_op ev_c ev_c (rv_I ⟨by decide, by decide, by decide⟩)) rv_I0) (congrArg V.bl hbb.symm)) ea_nil) rc_intb) (rv_I (Or.inr ?_))
      cases bb <;> exact ⟨by decide, by decide⟩
    refine s_retL (el_lst (ea_cons (ev_var rfl) (ea_cons (ev_op (ev_op (ev_op (ev_cb (ea_cons (ev_var rfl) ea_nil) rc_int) ev_c (rv_I (by show (0 : Int) < 2147483563; decide))) (ev_op ev_c (ev_var rfl) (rv_I (Or.inl ⟨by decide, by decide⟩))) rv_I0) ev_c rv_I0) (ea_cons ev_c ea_nil))) (by show 3 ≤ 100000; decide)) fun p H3 hp e3 h3 => ?_
    have q1 := Int.emod_nonneg cell (b := 2147483563) (by decide)
    have q2 := Int.emod_lt_of_pos cell (b := 2147483563) (by decide)
    have hp0 : H p = none := fresh_back (e1.trans e2) hp
    refine k p H3 hp0 (ex_beside ((e1.trans e2).trans e3) hp0) ⟨_, _, _, h3, ?_, by omega, by omega, by omega, by omega⟩
    cases bb
    · show 0 ≤ ab * 0
      omega
    · show 0 ≤ ab * 1
      omega
end
theorem take_go {σ : L2.St} {H : Hp} {Q : VK} {E : XK} {g : Addr} {n : Nat} {m : Int} {tg tm : TE} (h1 : Ev tg σ H (.ref g)) (h2 : Ev tm σ H (.int m)) (b : BagAt H g (n + 1)) (m1 : 1 ≤ m) (m2 : m ≤ 100000000000000000000)
    (k : ∀ (r : Int) (H' : Hp), 0 ≤ r → r < m → Ex (del H g) (del H' g) → BagAt H' g n → Q (.int r) H') : tCall spTake [] E (tCons tg (tCons tm tNil)) σ H Q :=
  h1 H (Ex.refl H) _ fun H1 e1 => h2 H1 e1 _ fun H2 e2 => ⟨g, n, m, rfl, b.ex (e1.trans e2), m1, m2, fun r H' r0 r1 ex bg => k r H' r0 r1 ((ex_del (e1.trans e2)).trans ex) bg⟩
/-- a drawn item of a short list -/
theorem atI_mem {xs : List V} {r : Int} (h0 : 0 ≤ r) (h1 : r < (xs.length : Int)) : ∃ v, atI xs r = some v ∧ v ∈ xs := by
  obtain ⟨j, rfl⟩ : ∃ j : Nat, r = (j : Int) := ⟨r.toNat, by omega⟩
  have hj : j < xs.length := by omega
  have e : xs[j]? = some xs[j] := by simp [hj]
  exact ⟨xs[j], atI_nat e, List.getElem_mem hj⟩
theorem bag_ne {H : Hp} {g p : Addr} {n : Nat} (b : BagAt H g n) (h : H p = none) : p ≠ g := fun z => by
  obtain ⟨d, s, c, hg, _⟩ := b
  rw [z, hg] at h
  cases h
theorem del_at {H H' : Hp} {g p : Addr} {o : HO} (e : Ex (del H g) (del H' g)) (h : H p = some o) (n : p ≠ g) : H' p = some o := by
  have z : (del H g) p = some o := by rw [del_ne n]; exact h
  have z2 := e p o z
  rw [del_ne n] at z2
  exact z2
theorem del_fresh {H H' : Hp} {g p : Addr} (e : Ex (del H g) (del H' g)) (h : H' p = none) (n : p ≠ g) : H p = none := by
  cases q : H p with
  | none => rfl
  | some o =>
    rw [del_at e q n] at h
    cases h
section
variable {P : Program} {w : World} {K : PySem.W.Frag} {mg : Str → Option Value} {base : Heap}
theorem scWi : FnScope ["_law_value", "_law_low", "_law_high"] ["_law_value", "_law_low", "_law_high"] (defScope sWith) := ⟨rfl, rfl, rfl, by decide +kernel, rfl, by decide +kernel, by decide +kernel⟩
theorem ok_within {f : Addr} {fd : FuncData} (F : Fun K "_law_within" "_law_within" sWith f fd) (T : Txt K mg) : FnOk P w K mg base CX0 1 f fd ["_law_value", "_law_low", "_law_high"] (spBetw K) := by
  refine F.ok scWi (fun vs H Q E h => ?_) (fun cdv A outer s H vs Q E hr h => ?_)
  · obtain ⟨x, d, lo, hi, rfl, _⟩ := h
    rfl
  · obtain ⟨x, d, lo, hi, rfl, hd, k⟩ := h
    refine ⟨_, pss_one (ps_ret (pe_and (pe_callB call_isi (by rfl) T.isi (by decide +kernel) (pa_cons (pv 0) (pa_cons (pe_ty "int" T.int) pa_nil)))
      (pe_and (pe_not (pe_callB call_isi (by rfl) T.isi (by decide +kernel) (pa_cons (pv 0) (pa_cons (pe_ty "bool" T.bool) pa_nil))))
        (pe_one (pe_chain op_le op_le (pv 1) (pv 0) (pv 2)))))), ?_⟩
    refine s_ret (v := .bl (betwD d lo hi)) ?_ k
    cases d with
    | int i =>
      cases hd
      exact ev_is (ev_andV (ev_isi (ev_var rfl) (.int i) (kit_int _)) fun _ => ev_andV (ev_notV (ev_isi (ev_var rfl) (.int i) (kit_bool _))) fun _ => ev_chain (ev_var rfl) (ev_var rfl) (ev_var rfl)) rfl
    | bool b => exact ev_is (ev_andV (b := false) (ev_isi (ev_var rfl) hd (kit_int _)) fun _ => ev_andV (b := false) (ev_notV (ev_isi (ev_var rfl) hd (kit_bool _))) fun z => nomatch z) rfl
    | none => exact ev_is (ev_andV (b := false) (ev_isi (ev_var rfl) hd (kit_int _)) fun z => nomatch z) rfl
    | str b => exact ev_is (ev_andV (b := false) (ev_isi (ev_var rfl) hd (kit_int _)) fun z => nomatch z) rfl
    | list b => exact ev_is (ev_andV (b := false) (ev_isi (ev_var rfl) hd (kit_int _)) fun z => nomatch z) rfl
    | tuple b => exact ev_is (ev_andV (b := false) (ev_isi (ev_var rfl) hd (kit_int _)) fun z => nomatch z) rfl
    | dict b => exact ev_is (ev_andV (b := false) (ev_isi (ev_var rfl) hd (kit_int _)) fun z => nomatch z) rfl
end
end Lw

namespace Lw
open PySem PySem.Spec PyProof.Rows L2 Evl L3 ClX
abbrev sIniB : Stmt := inClass (top 3) 0
abbrev sCkS : Stmt := top 16
abbrev sPI : Stmt := inClass (top 14) 1
abbrev sPEq : Stmt := inClass (top 14) 2
def polF (h : Str) (e q : Int) : List (Str × V) := [("hold", .str h), ("every", .int e), ("quick", .int q)]
def polG (y0 y1 y2 : V) : List (Str × V) := [("hold", y0), ("every", y1), ("quick", y2)]
def PolAt (CP : Addr) (H : Hp) (a : Addr) (h : Str) (e q : Int) : Prop := ∃ dx, H a = some (.ins CP dx (polF h e q))
theorem PolAt.ex {CP a : Addr} {H H1 : Hp} {h : Str} {e q : Int} (p : PolAt CP H a h e q) (ex : Ex H H1) : PolAt CP H1 a h e q := by
  obtain ⟨dx, hd⟩ := p
  exact ⟨dx, ex _ _ hd⟩
/-- what is read of the class Policy -/
structure Pol (K : PySem.W.Frag) (mg : Str → Option Value) (CP : Addr) : Prop where
  hm : mg "Policy" = some (.ref CP)
  k : Kls K CP
  nh : NoAttr K CP "hold"
  ne : NoAttr K CP "every"
  nq : NoAttr K CP "quick"
  hold : ∃ mc a, CRead K CP mc ∧ CVal K CP mc "HOLDS" (.ref a) (.ref a) ∧ ∀ H, SqT K H a ([("off" : Str), "partial", "all"].map V.str)
section
variable {P : Program} {w : World} {K : PySem.W.Frag} {mg : Str → Option Value} {base : Heap}
theorem scIniB : FnScope ["self", "name"] ["self", "name"] (defScope sIniB) := ⟨rfl, rfl, rfl, by decide +kernel, rfl, by decide +kernel, by decide +kernel⟩
theorem ok_iniB {f C : Addr} {fd : FuncData} (F : Fun K "__init__" "BadSetting.__init__" sIniB f fd) : FnOk P w K mg base CX0 1 f fd ["self", "name"] (spErr K C "name") := by
  refine F.ok scIniB (fun vs H Q E h => ?_) (fun cdv A outer s H vs Q E hr h => ⟨_, pss_one (ps_ost (pv 0) (pv 1)), ?_⟩)
  · obtain ⟨a, v, rfl, _⟩ := h
    rfl
  · exact s_ini h (by obtain ⟨a, v, rfl, _⟩ := h; rfl)
/-! ### check_size, of any value -/
def sizeOk (d : PyData) : Bool := betwD d 1 1000000000000000000
def spCkS (K : PySem.W.Frag) (CB : Addr) : Sp := fun vs H Q E => ∃ (y : V) (d : PyData), vs = [y] ∧ Dp K H y d ∧ (sizeOk d = true → RetV .non H Q) ∧ (sizeOk d = false → ErrV CB "name" (.str "size") H E)
theorem scCk : FnScope ["size"] ["size"] (defScope sCkS) := ⟨rfl, rfl, rfl, by decide +kernel, rfl, by decide +kernel, by decide +kernel⟩
theorem ok_ckS {f fB CB fI : Addr} {fd fdB fdI : FuncData} (F : Fun K "check_size" "check_size" sCkS f fd) (T : Txt K mg) (hS : ∃ t, mg "MOST_SIZE" = some (.int 1000000000000000000 t)) (TB : ErC P w K mg base "BadSetting" "name" CB fI fdI)
    (FB : Fun K "between" "between" sBetw fB fdB) (bB : Binds K fdB ["value", "low", "high"] []) (gB : mg "between" = some (.ref fB)) (GB : FnOk P w K mg base CX0 1 fB fdB ["value", "low", "high"] (spBetw K)) :
    FnOk P w K mg base (L2.CX P w) 3 f fd ["size"] (spCkS K CB) := by
  obtain ⟨tS, hS⟩ := hS
  refine F.okX scCk (fun vs H Q E h => ?_) (fun cdv A outer s H vs Q E hr h => ?_)
  · obtain ⟨y, d, rfl, _⟩ := h
    rfl
  · obtain ⟨y, d, rfl, hd, k, ke⟩ := h
    have hr1 : Room 1 _ := hr.mono (by decide)
    refine ⟨_, pss_one (ps_if (pt_not (pt_val (pe_call GB hr1 rfl gB FB.kp bB .nil pass0 (pa_cons (pv 0) (pa_cons pe_int (pa_cons (pe_glob (v := .int 1000000000000000000) rfl hS ⟨_, rfl⟩) pa_nil))))))
      (pss_one (ps_rz rfl TB hr (takes_of rfl rfl rfl rfl) (by exact pa_cons pe_str pa_nil))) pss_nil), ?_⟩
    refine s_when (b := !sizeOk d) (et_not (et_B (ev_call (ea_cons (ev_var rfl) (ea_cons ev_c (ea_cons ev_c ea_nil))) (sp_betw hd)))) (fun hb H1 e1 => ?_) fun hb H1 e1 => ?_
    · exact s_rz ev_c TB.oex TB.no ((ke (by simpa using hb)).go e1)
    · exact k (by simpa using hb) H1 e1
/-! ### Policy(..), of any values -/
def holdD (d : PyData) : Bool := [("off" : Str), "partial", "all"].any fun s => PyData.eqv (.str s) d
def dueP (d0 d1 d2 : PyData) : Option Str := if holdD d0 = true then (if betwD d1 0 9 = true then (if betwD d2 0 4 = true then none else some "quick") else some "every") else some "hold"
abbrev PIps : List Str := ["self", "hold", "every", "quick"]
def spPI (K : PySem.W.Frag) (CP CB : Addr) : Sp := fun vs H Q E => ∃ (x dx : Addr) (y0 y1 y2 : V) (d0 d1 d2 : PyData), vs = [.ref x, y0, y1, y2] ∧ H x = some (.ins CP dx []) ∧ Dp K H y0 d0 ∧ Dp K H y1 d1 ∧ Dp K H y2 d2 ∧ SeqAt.shaped d0 = true ∧
  (dueP d0 d1 d2 = none → ∀ H', Ex (del H x) (del H' x) → H' x = some (.ins CP dx (polG y0 y1 y2)) → Q .non H') ∧ ∀ nm, dueP d0 d1 d2 = some nm → ErrV CB "name" (.str nm) H E
theorem scPI : FnScope PIps PIps (defScope sPI) := ⟨rfl, rfl, rfl, by decide +kernel, rfl, by decide +kernel, by decide +kernel⟩
theorem rv_niD {x : V} {d : PyData} {t : Addr} {ss : List Str} {H : Hp} (hd : Dp K H x d) (sd : SeqAt.shaped d = true) (ht : SqT K H t (ss.map V.str)) (hc : ∀ s ∈ ss, (PyData.str s).canLay0 = true) : RV (rNiD K) x (.ref t) H (.bl (!(ss.any fun s => PyData.eqv (.str s) d))) := fun H1 e Q q =>
  ⟨d, t, ss, rfl, dp_ex e hd, sd, ex_t e ht, hc, q H1 (Ex.refl H1)⟩
theorem ok_PI {f fB CB CP fI : Addr} {fd fdB fdI : FuncData} (F : FunD K "__init__" "Policy.__init__" (defArgs sPI) (defBody sPI) (defScope sPI) [.str "all"] [("every", .int 2), ("quick", .int 0)] f fd) (T : Pol K mg CP)
    (hE : ∃ t, mg "MOST_EVERY" = some (.int 9 t)) (hQ : ∃ t, mg "MOST_QUICK" = some (.int 4 t)) (TB : ErC P w K mg base "BadSetting" "name" CB fI fdI)
    (FB : Fun K "between" "between" sBetw fB fdB) (bB : Binds K fdB ["value", "low", "high"] []) (gB : mg "between" = some (.ref fB)) (GB : FnOk P w K mg base CX0 1 fB fdB ["value", "low", "high"] (spBetw K)) :
    FnOk P w K mg base (L2.CX P w) 3 f fd PIps (spPI K CP CB) := by
  obtain ⟨tE, hE⟩ := hE
  obtain ⟨tQ, hQ⟩ := hQ
  obtain ⟨mc, aH, rd, cv, sH⟩ := T.hold
  refine F.ok scPI (fun vs H Q E h => ?_) (fun cdv A outer s H vs Q E hr h => ?_)
  · obtain ⟨x, dx, y0, y1, y2, d0, d1, d2, rfl, _⟩ := h
    rfl
  · obtain ⟨x, dx, y0, y1, y2, d0, d1, d2, rfl, hx, h0, h1, h2, sd, k, ke⟩ := h
    have hr1 : Room 1 _ := hr.mono (by decide)
    refine ⟨_, pss_cons (ps_if (pt_cmpR (op_notInD hr.units) (pv 1) (pe_cval (pe_glob (v := .ref CP) rfl T.hm rfl)) rfl) (pss_one (ps_rz rfl TB hr (takes_of rfl rfl rfl rfl) (by exact pa_cons pe_str pa_nil))) pss_nil)
      (pss_cons (ps_if (pt_not (pt_val (pe_call GB hr1 rfl gB FB.kp bB .nil pass0 (pa_cons (pv 2) (pa_cons pe_int (pa_cons (pe_glob (v := .int 9) rfl hE ⟨_, rfl⟩) pa_nil)))))) (pss_one (ps_rz rfl TB hr (takes_of rfl rfl rfl rfl) (by exact pa_cons pe_str pa_nil))) pss_nil)
      (pss_cons (ps_if (pt_not (pt_val (pe_call GB hr1 rfl gB FB.kp bB .nil pass0 (pa_cons (pv 3) (pa_cons pe_int (pa_cons (pe_glob (v := .int 4) rfl hQ ⟨_, rfl⟩) pa_nil)))))) (pss_one (ps_rz rfl TB hr (takes_of rfl rfl rfl rfl) (by exact pa_cons pe_str pa_nil))) pss_nil)
      (pss_cons (ps_fld (pv 0) (pv 1) rfl) (pss_cons (ps_fld (pv 0) (pv 2) rfl) (pss_one (ps_fld (pv 0) (pv 3) rfl)))))), ?_⟩
    refine q_when (b := !holdD d0) (et_test (ev_op (ev_var rfl) (ev_cval ev_c rd cv) (rv_niD h0 sd (sH _) (by decide +kernel)))) (fun hb H1 e1 => ?_) fun hb H1 e1 => ?_
    · refine s_rz ev_c TB.oex TB.no ((ke "hold" ?_).go e1)
      have z : holdD d0 = false := by simpa using hb
      unfold dueP
      rw [if_neg (by rw [z]; simp)]
    have z0 : holdD d0 = true := by simpa using hb
    refine q_when (b := !betwD d1 0 9) (et_not (et_B (ev_call (ea_cons (ev_var rfl) (ea_cons ev_c (ea_cons ev_c ea_nil))) (sp_betw (dp_ex e1 h1))))) (fun hb2 H2 e2 => ?_) fun hb2 H2 e2 => ?_
    · refine s_rz ev_c TB.oex TB.no ((ke "every" ?_).go (e1.trans e2))
      have z : betwD d1 0 9 = false := by simpa using hb2
      unfold dueP
      rw [if_pos z0, if_neg (by rw [z]; simp)]
    have z1 : betwD d1 0 9 = true := by simpa using hb2
    refine q_when (b := !betwD d2 0 4) (et_not (et_B (ev_call (ea_cons (ev_var rfl) (ea_cons ev_c (ea_cons ev_c ea_nil))) (sp_betw (dp_ex (e1.trans e2) h2))))) (fun hb3 H3 e3 => ?_) fun hb3 H3 e3 => ?_
    · refine s_rz ev_c TB.oex TB.no ((ke "quick" ?_).go ((e1.trans e2).trans e3))
      have z : betwD d2 0 4 = false := by simpa using hb3
      unfold dueP
      rw [if_pos z0, if_pos z1, if_neg (by rw [z]; simp)]
    have z2 : betwD d2 0 4 = true := by simpa using hb3
    have ex := (e1.trans e2).trans e3
    refine ⟨_, rfl, _, rfl, x, CP, dx, _, rfl, ex _ _ hx, T.k.cl, T.nh, by decide, ?_⟩
    refine ⟨_, rfl, _, rfl, x, CP, dx, _, rfl, upd_same, T.k.cl, T.ne, Nat.lt_of_le_of_lt (putF_len _ _ _) (by decide), ?_⟩
    refine ⟨_, rfl, _, rfl, x, CP, dx, _, rfl, upd_same, T.k.cl, T.nq, Nat.lt_of_le_of_lt (Nat.le_trans (putF_len _ _ _) (Nat.succ_le_succ (putF_len _ _ _))) (by decide), ?_⟩
    refine k ?_ _ ?_ upd_same
    · unfold dueP
      rw [if_pos z0, if_pos z1, if_pos z2]
    · rw [del_upd, del_upd, del_upd]
      exact ex_del ex
/-- == of a policy and of anything -/
def polC (h : Str) (e q : Int) (h2 : Str) (e2 q2 : Int) : Bool := decide (h = h2) && (decide (e = e2) && decide (q = q2))
def spPEq (K : PySem.W.Frag) (CP : Addr) : Sp := fun vs H Q _ => ∃ (a : Addr) (y : V) (h : Str) (e q : Int) (c : Bool), vs = [.ref a, y] ∧ PolAt CP H a h e q ∧
  ((∃ b h2 e2 q2, y = .ref b ∧ PolAt CP H b h2 e2 q2 ∧ c = polC h e q h2 e2 q2) ∨ (c = false ∧ ∃ tb, (∀ H1, Ex H H1 → TyX K H1 y tb) ∧ PySem.W.kitOne K tb (.ref CP) = some false)) ∧ RetV (.bl c) H Q
theorem scPEq : FnScope ["self", "other"] ["self", "other"] (defScope sPEq) := ⟨rfl, rfl, rfl, by decide +kernel, rfl, by decide +kernel, by decide +kernel⟩
theorem kit_self {K : PySem.W.Frag} {C : Addr} : PySem.W.kitOne K (.ref C) (.ref C) = some true := by
  unfold PySem.W.kitOne
  rw [if_pos (by simp)]
theorem ok_PEq {f CP : Addr} {fd : FuncData} (F : Fun K "__eq__" "Policy.__eq__" sPEq f fd) (T : Txt K mg) (TP : Pol K mg CP) : FnOk P w K mg base CX0 1 f fd ["self", "other"] (spPEq K CP) := by
  refine F.ok scPEq (fun vs H Q E h => ?_) (fun cdv A outer s H vs Q E hr h => ?_)
  · obtain ⟨a, y, h, e, q, c, rfl, _⟩ := h
    rfl
  · obtain ⟨a, y, h, e, q, c, rfl, ⟨dx, ha⟩, hc, k⟩ := h
    refine ⟨_, pss_one (ps_ret (pe_and (pe_callB call_isi (by rfl) T.isi boot_isinstance (pa_cons (pv 1) (pa_cons (pe_glob (v := .ref CP) rfl TP.hm rfl) pa_nil)))
      (pe_and (pe_cmpR op_eq (pe_fld (pv 0) rfl) (pe_fld (pv 1) rfl) (nomark _)) (pe_and (pe_cmpR op_eq (pe_fld (pv 0) rfl) (pe_fld (pv 1) rfl) (nomark _)) (pe_one (pe_cmpR op_eq (pe_fld (pv 0) rfl) (pe_fld (pv 1) rfl) (nomark _))))))), ?_⟩
    rcases hc with ⟨b, h2, e2, q2, rfl, ⟨dy, hb⟩, rfl⟩ | ⟨rfl, tb, hty, hk⟩
    · refine s_ret (v := .bl (polC h e q h2 e2 q2)) (ev_is (ev_andV (a := true) (b := polC h e q h2 e2 q2) (ev_isC (ev_var rfl) (fun H1 e => TP.k.ty (e _ _ hb)) kit_self) fun _ => ?_) (congrArg V.bl (Bool.true_and _))) k
      refine ev_andV (ev_is (ev_op (ev_fld (ev_var rfl) ha TP.k.cl TP.nh rfl) (ev_fld (ev_var rfl) hb TP.k.cl TP.nh rfl) (rv_eq rfl)) (congrArg V.bl (decide_eq_decide.mpr ⟨fun z => by injection z, fun z => by rw [z]⟩))) fun _ => ?_
      refine ev_andV (ev_is (ev_op (ev_fld (ev_var rfl) ha TP.k.cl TP.ne rfl) (ev_fld (ev_var rfl) hb TP.k.cl TP.ne rfl) (rv_eq rfl)) (congrArg V.bl (decide_eq_decide.mpr ⟨fun z => by injection z, fun z => by rw [z]⟩))) fun _ => ?_
      exact ev_is (ev_op (ev_fld (ev_var rfl) ha TP.k.cl TP.nq rfl) (ev_fld (ev_var rfl) hb TP.k.cl TP.nq rfl) (rv_eq rfl)) (congrArg V.bl (decide_eq_decide.mpr ⟨fun z => by injection z, fun z => by rw [z]⟩))
    · exact s_ret (v := .bl false) (ev_andV (a := false) (b := false) (ev_isC (ev_var rfl) hty hk) fun z => nomatch z) k
theorem bP0 {f : Addr} {fd : FuncData} (F : FunD K "__init__" "Policy.__init__" (defArgs sPI) (defBody sPI) (defScope sPI) [.str "all"] [("every", .int 2), ("quick", .int 0)] f fd) : ∃ ds, Vals [.str "all", .int 2, .int 0] ds ∧ Binds K fd PIps ds := by
  refine F.binds (ps := PIps) 1 0 (by simp) rfl (fun T D doc pm an cdv ct us its ks h1 h2 h3 => ?_) (by simp)
  match us, its, ks, h1, h2, h3 with
  | [a], [b], [c, d], _, _, _ => exact ⟨_, rfl, _, _, _, _, _, _, rfl, rfl, _, _, _, _, _, _, rfl, rfl, rfl⟩
theorem bP3 {f : Addr} {fd : FuncData} (F : FunD K "__init__" "Policy.__init__" (defArgs sPI) (defBody sPI) (defScope sPI) [.str "all"] [("every", .int 2), ("quick", .int 0)] f fd) : ∃ g, KBn K fd PIps 2 ["every", "quick"] g (fun vs zs => vs ++ zs) := by
  obtain ⟨its, mv, h⟩ := F.kbinds (ps := PIps) 2 ["every", "quick"] [] (fun us _ _ ws => us ++ ws) (by simp) (by simp) (fun q hq => nomatch hq) (fun a _ _ b => a.append b) (fun T D doc pm an cdv ct us its mv ws h1 h2 h3 h4 => by
    match us, its, mv, ws, h1, h2, h3, h4 with
    | [a, b], [c], [], [d, e], _, _, _, _ => exact ⟨_, rfl, rfl⟩)
  exact ⟨_, h⟩
theorem bPq {f : Addr} {fd : FuncData} (F : FunD K "__init__" "Policy.__init__" (defArgs sPI) (defBody sPI) (defScope sPI) [.str "all"] [("every", .int 2), ("quick", .int 0)] f fd) : ∃ g, KBn K fd PIps 1 ["quick"] g (fun vs zs => vs ++ ([.str "all"] ++ ([.int 2] ++ zs))) := by
  obtain ⟨its, mv, h⟩ := F.kbinds (ps := PIps) 1 ["quick"] [("every", .int 2)] (fun us ds mz ws => us ++ (ds ++ (mz ++ ws))) (by simp) (by simp) (fun q hq => by simp at hq; simp [hq]) (fun a b c d => a.append (b.append (c.append d))) (fun T D doc pm an cdv ct us its mv ws h1 h2 h3 h4 => by
    match us, its, mv, ws, h1, h2, h3, h4 with
    | [a], [c], [m], [d], _, _, _, _ => exact ⟨_, rfl, _, _, _, _, _, _, rfl, rfl, rfl⟩)
  exact ⟨_, h⟩
theorem bPeh {f : Addr} {fd : FuncData} (F : FunD K "__init__" "Policy.__init__" (defArgs sPI) (defBody sPI) (defScope sPI) [.str "all"] [("every", .int 2), ("quick", .int 0)] f fd) : ∃ g, KBn K fd PIps 1 ["every", "hold"] g (fun vs zs => vs ++ (zs.reverse ++ [.int 0])) := by
  obtain ⟨its, mv, h⟩ := F.kbinds (ps := PIps) 1 ["every", "hold"] [("quick", .int 0)] (fun us ds mz ws => us ++ (ws.reverse ++ mz)) (by simp) (by simp) (fun q hq => by simp at hq; simp [hq]) (fun a _ c d => a.append (d.reverse.append c)) (fun T D doc pm an cdv ct us its mv ws h1 h2 h3 h4 => by
    match us, its, mv, ws, h1, h2, h3, h4 with
    | [a], [c], [m], [d, e], _, _, _, _ => exact ⟨_, rfl, _, _, _, _, _, _, rfl, rfl, rfl⟩)
  exact ⟨_, h⟩
end
end Lw

namespace Lw
open PySem PySem.Spec PyProof.Rows L2 Evl L3 ClX
abbrev sPair : Stmt := top 17
abbrev sSI : Stmt := inClass (top 15) 0
/-- what is read of the class Setting -/
structure Stg (K : PySem.W.Frag) (mg : Str → Option Value) (CS : Addr) : Prop where
  hm : mg "Setting" = some (.ref CS)
  k : Kls K CS
  ns : NoAttr K CS "size"
  np : NoAttr K CS "policies"
section
variable {P : Program} {w : World} {K : PySem.W.Frag} {mg : Str → Option Value} {base : Heap}
def spPair (K : PySem.W.Frag) : Sp := fun vs H Q _ => ∃ (t : Addr) (xs : List V), vs = [.ref t] ∧ SqT K H t xs ∧ (xs.length = 1 ∨ xs.length = 2) ∧ ∀ v H', Ex H H' → Q v H'
theorem scPair : FnScope ["policies"] ["policies"] (defScope sPair) := ⟨rfl, rfl, rfl, by decide +kernel, rfl, by decide +kernel, by decide +kernel⟩
theorem ok_pair {f fI CP CB : Addr} {fd fdI : FuncData} (F : Fun K "policy_pair" "policy_pair" sPair f fd) (T : Txt K mg) (TP : Pol K mg CP) (M : Mk K CP fI) (FI : FunD K "__init__" "Policy.__init__" (defArgs sPI) (defBody sPI) (defScope sPI) [.str "all"] [("every", .int 2), ("quick", .int 0)] fI fdI)
    (GI : FnOk P w K mg base (L2.CX P w) 3 fI fdI PIps (spPI K CP CB)) : FnOk P w K mg base CX0 5 f fd ["policies"] (spPair K) := by
  obtain ⟨ds, hd, bI⟩ := bP0 FI
  refine F.ok scPair (fun vs H Q E h => ?_) (fun cdv A outer s H vs Q E hr h => ?_)
  · obtain ⟨t, xs, rfl, _⟩ := h
    rfl
  · obtain ⟨t, xs, rfl, ht, hl, k⟩ := h
    refine ⟨_, pss_cons (ps_if (pt_cmpR op_eq (pe_callB call_len_seq (by rfl) T.len PySem.boot_len (pa_cons (pv 0) pa_nil)) pe_int (nomark _))
        (pss_one (ps_ret (pe_tup (pa_cons (pe_make0 M GI hr rfl TP.hm bI hd passE) (pa_cons (pe_make0 M GI hr rfl TP.hm bI hd passE) pa_nil))))) pss_nil)
      (pss_cons (ps_if (pt_cmpR op_eq (pe_callB call_len_seq (by rfl) T.len PySem.boot_len (pa_cons (pv 0) pa_nil)) pe_int (nomark _))
        (pss_one (ps_ret (pe_tup (pa_cons (pe_ix ix_tup (pv 0) pe_int (fun _ _ => rfl)) (pa_cons (pe_ix ix_tup (pv 0) pe_int (fun _ _ => rfl)) pa_nil))))) pss_nil)
      (pss_one (ps_ret (pv 0)))), ?_⟩
    have evl : ∀ {H1 : Hp} {n : Int}, Ex H H1 → EvT (tTest (tOp rEq (tCB (rLenS K) (tCons (tVar 0) tNil)) (tC (.int n)))) (start ["policies"] [V.ref t]) H1 (decide ((xs.length : Int) = n)) := fun {H1 n} e =>
      et_is (et_test (ev_op (ev_cb (ea_cons (ev_var rfl) ea_nil) (fun H2 e2 Q q => ⟨t, _, rfl, Or.inr (ex_t (e.trans e2) ht), q H2 (Ex.refl H2)⟩)) ev_c (rv_eq rfl))) (decide_eq_decide.mpr ⟨fun z => by injection z with z, fun z => by rw [← z]⟩)
    refine q_when (b := false) (et_is (evl (Ex.refl H)) (decide_eq_false (by omega))) (fun hb => nomatch hb) fun _ H1 e1 => ?_
    by_cases h1 : xs.length = 1
    · refine q_when (b := true) (et_is (evl e1) (decide_eq_true (by omega))) (fun _ H2 e2 => ?_) (fun hb => nomatch hb)
      have e12 := e1.trans e2
      obtain ⟨a, ha⟩ : ∃ a, xs[0]? = some a := ⟨xs[0]'(by omega), by simp [h1]⟩
      exact s_retU (eu_tup (ea_cons (ev_op (ev_var rfl) ev_c (rv_ixT (ex_t e12 ht) (atI_nat (j := 0) ha))) (ea_cons (ev_op (ev_var rfl) ev_c (rv_ixT (ex_t e12 ht) (atI_nat (j := 0) ha))) ea_nil)) (by show 2 ≤ 100000; decide)) fun u H3 hu e3 h3 => k _ H3 (e12.trans e3)
    · refine q_when (b := false) (et_is (evl e1) (decide_eq_false (by omega))) (fun hb => nomatch hb) fun _ H2 e2 => ?_
      exact s_ret (ev_var rfl) fun H3 e3 => k _ H3 ((e1.trans e2).trans e3)
/-! ### Setting(..), of any values -/
/-- no type of Python is the class -/
structure NoKit (K : PySem.W.Frag) (CP : Addr) : Prop where
  no : ∀ d : PyData, PySem.W.kitOne K (.type (tyN d)) (.ref CP) = some false
/-- a policy or some data -/
def Itm (K : PySem.W.Frag) (CP : Addr) (H : Hp) (v : V) (b : Bool) : Prop := (b = true ∧ ∃ p h e q, v = .ref p ∧ PolAt CP H p h e q) ∨ (b = false ∧ ∃ d, Dp K H v d)
theorem Itm.ex {CP : Addr} {H H1 : Hp} {v : V} {b : Bool} (h : Itm K CP H v b) (e : Ex H H1) : Itm K CP H1 v b := by
  rcases h with ⟨hb, p, h, e', q, hv, hp⟩ | ⟨hb, d, hd⟩
  · exact Or.inl ⟨hb, p, h, e', q, hv, hp.ex e⟩
  · exact Or.inr ⟨hb, d, dp_ex e hd⟩
def dueS (dw : PyData) (bs : List Bool) : Option Str := if sizeOk dw = true then (if (decide (bs.length > 2) || !bs.all id) = true then some "policies" else none) else some "size"
def spSI0 (K : PySem.W.Frag) (CS CP CB : Addr) : Sp := fun vs H Q E => ∃ (x dx t : Addr) (yw : V) (dw : PyData) (xs : List V) (bs : List Bool), vs = [.ref x, yw, .ref t] ∧ H x = some (.ins CS dx []) ∧ Dp K H yw dw ∧ SqT K (del H x) t xs ∧ xs.length = bs.length ∧ 1 ≤ bs.length ∧ bs.length ≤ 100 ∧
  (∀ (i : Nat) (v : V) (b : Bool), xs[i]? = some v → bs[i]? = some b → Itm K CP H v b) ∧ (dueS dw bs = none → ∀ H', Ex (del H x) (del H' x) → Q .non H') ∧ ∀ nm, dueS dw bs = some nm → ErrV CB "name" (.str nm) H E
abbrev nSI : List Str := ["self", "size", "policies", "policy"]
theorem scSI : FnScope nSI ((["self", "size"] : List Str) ++ (["policies"] : List Str)) (defScope sSI) := ⟨rfl, rfl, rfl, by decide +kernel, rfl, by decide +kernel, by decide +kernel⟩
theorem given_allT {n : Nat} {v : Nat → V} : given n (fun _ => true) v = (List.range n).map v := by
  unfold given
  rw [List.filter_eq_self.mpr (fun _ _ => rfl)]
theorem ev_allB {σ : L2.St} {H : Hp} {tl : TE} {bs : List Bool} (h : EvL tl σ H (bs.map V.bl)) : Ev (tCB (rAll K) (tCons tl tNil)) σ H (.bl (bs.all id)) := fun H1 e Q q =>
  h H1 e _ fun p H2 _ e2 h2 => ⟨p, bs, rfl, sq_of h2, q H2 e2⟩
theorem body_SI {f fC fR CB CS CP fE : Addr} {fdC fdR fdE : FuncData} {cdv : Value} (T : Txt K mg) (TB : ErC P w K mg base "BadSetting" "name" CB fE fdE) (TP : Pol K mg CP) (NP : NoKit K CP) (TS : Stg K mg CS)
    (FC : Fun K "check_size" "check_size" sCkS fC fdC) (bC : Binds K fdC ["size"] []) (gC : mg "check_size" = some (.ref fC)) (GC : FnOk P w K mg base (L2.CX P w) 3 fC fdC ["size"] (spCkS K CB))
    (FR : Fun K "policy_pair" "policy_pair" sPair fR fdR) (bR : Binds K fdR ["policies"] []) (gR : mg "policy_pair" = some (.ref fR)) (GR : FnOk P w K mg base CX0 5 fR fdR ["policies"] (spPair K)) (A : Around) (outer : List Env) (s : Shared) (H : Hp) (vs : List V) (Q : VK) (E : XK)
    (hr : Room 5 (A.deeper (envOfC "Setting.__init__" (defScope sSI) s.heap.objs.size f cdv))) (h : spSI0 K CS CP CB vs H Q E) :
    ∃ t, PSs (cxOf (L2.CX P w) P w K mg base nSI "Setting.__init__" (defScope sSI) f cdv A outer s H E) (defBody sSI) t ∧ t { nx := fun _ H' => Q .non H', rt := Q } (start nSI vs) H := by
  obtain ⟨x, dx, t, yw, dw, xs, bs, rfl, hx, hw, ht, hlb, hb1, hb2, hit, k, ke⟩ := h
  have hr3 : Room 3 _ := hr.mono (by decide)
  have hr2 : Room 2 _ := hr.mono (by decide)
  refine ⟨_, pss_cons (ps_expr (pe_call GC hr3 rfl gC FC.kp bC .nil (passes_call (takes_of rfl rfl rfl rfl) fun _ _ _ _ z => z) (by exact pa_cons (pv 1) pa_nil)))
    (pss_cons (ps_if (PW.pt (pw_or (pt_cmpR op_gt (pe_callB call_len_seq (by rfl) T.len PySem.boot_len (pa_cons (pv 2) pa_nil)) pe_int (nomark _))
        (pw_or1 (pt_not (pt_val (pe_callB (cr_all rfl) (by rfl) T.all PyProof.Rows.boot_all (pa_cons (pe_lc (own := [("policy", 3)]) (g := gName 3) (tt := tYes) (te := tCB (rIsi K) (tCons (tVar 3) (tCons (tC (.ref CP)) tNil))) rfl scSI.nd (pi_tup (pv 2))
          (blkOk_by (N := nSI) (sc := defScope sSI) (by decide +kernel)) (fun _ _ _ _ _ => pg_name (i := 3) scSI.nd rfl (Or.inl rfl)) (fun _ _ _ _ _ => pts_nil) (fun _ _ _ _ _ => pe_callB call_isi (by rfl) T.isi boot_isinstance (pa_cons (pv 3) (pa_cons (pe_glob (v := .ref CP) rfl TP.hm rfl) pa_nil)))) pa_nil)))))))
      (pss_one (ps_rz rfl TB hr2 (takes_of rfl rfl rfl rfl) (by exact pa_cons pe_str pa_nil))) pss_nil)
    (pss_cons (ps_fld (pv 0) (pv 1) rfl) (pss_one (ps_fld (pv 0) (pe_call GR hr rfl gR FR.kp bR .nil pass0 (pa_cons (pv 2) pa_nil)) rfl)))), ?_⟩
  refine ⟨_, rfl, yw, dw, rfl, hw, fun hz H1 e1 => ?_, fun hz => ?_⟩
  · have ht1 : SqT K H1 t xs := ex_t (ex_del_self.trans e1) ht
    dsimp only
    refine q_when (b := decide (bs.length > 2) || !bs.all id) (et_or (a := decide (bs.length > 2)) (b := !bs.all id) ?_ fun _ => ?_) (fun hb H2 e2 => ?_) fun hb H2 e2 => ?_
    · refine et_is (et_test (ev_op (ev_cb (ea_cons (ev_var rfl) ea_nil) (fun H2 e2 Q q => ⟨t, _, rfl, Or.inr (ex_t e2 ht1), q H2 (Ex.refl H2)⟩)) ev_c rv_I0)) ?_
      rw [hlb]
      exact decide_eq_decide.mpr ⟨fun z => by omega, fun z => by omega⟩
    · refine et_not (et_B (ev_allB (bs := bs) ?_))
      have z := el_lcT (K := K) (σ := start nSI [.ref x, yw, .ref t]) (H := H1) (xs := xs) (a := t) (tl := tVar 2) (j := 3) (vs := [3]) (t := tYes) (te := tCB (rIsi K) (tCons (tVar 3) (tCons (tC (.ref CP)) tNil)))
        (fun _ => true) (fun i => .bl (bs.getD i false)) (ev_var rfl) ht1 (by omega) (fun _ => rfl) (fun _ _ _ _ _ => fun H1 e Q q => q H1 (Ex.refl H1)) (fun i v H3 e3 hv _ => by
          have hi : i < bs.length := by
            rw [← hlb]
            exact (List.getElem?_eq_some_iff.mp hv).1
          have eb : bs[i]? = some (bs.getD i false) := by
            rw [List.getD_eq_getElem?_getD]
            simp [hi]
          rcases hit i v _ hv eb with ⟨hb, p, h, e, q, rfl, dp, hd⟩ | ⟨hb, d, hd⟩
          · rw [hb]
            exact ev_isC (ev_var rfl) (fun H4 e4 => TP.k.ty ((e1.trans (e3.trans e4)) _ _ hd)) kit_self
          · rw [hb]
            exact ev_isC (ev_var rfl) (fun H4 e4 => dp_ty (dp_ex (e1.trans (e3.trans e4)) hd)) (NP.no d))
      rw [given_allT, hlb] at z
      have e0 : (List.range bs.length).map (fun i => V.bl (bs.getD i false)) = bs.map V.bl := by
        apply List.ext_getElem (by simp)
        intro i h1 h2
        have h3 : i < bs.length := by simpa using h2
        simp [List.getD_eq_getElem?_getD, h3]
      rw [e0] at z
      exact z
    · refine s_rz ev_c TB.oex TB.no ((ke "policies" ?_).go (e1.trans e2))
      unfold dueS
      rw [if_pos hz, if_pos hb]
    · have e12 := e1.trans e2
      have hl2 : bs.length = 1 ∨ bs.length = 2 := by
        have z := (Bool.or_eq_false_iff.mp hb).1
        have z2 := of_decide_eq_false z
        omega
      refine ⟨_, rfl, _, rfl, x, CS, dx, _, rfl, e12 _ _ hx, TS.k.cl, TS.ns, by decide, ?_⟩
      have e3 : Ex (del H x) (del (upd H2 x (.ins CS dx (putF "size" yw []))) x) := by
        rw [del_upd]
        exact ex_del e12
      refine ⟨_, rfl, t, xs, rfl, ex_t (e3.trans ex_del_self) ht, by rw [hlb]; exact hl2, fun v H4 e4 => ?_⟩
      refine ⟨_, rfl, x, CS, dx, _, rfl, e4 _ _ upd_same, TS.k.cl, TS.np, Nat.lt_of_le_of_lt (putF_len _ _ _) (by decide), ?_⟩
      refine k ?_ _ ?_
      · unfold dueS
        rw [if_pos hz, if_neg (by rw [hb]; simp)]
      · rw [del_upd]
        exact e3.trans (ex_del e4)
  · refine ke "size" ?_
    unfold dueS
    rw [if_neg (by rw [hz]; simp)]
/-- Setting(size, ..) -/
theorem ok_SI {f fC fR CB CS CP fE : Addr} {fdC fdR fdE : FuncData} {oc kV dc pm cd ct : Value} {od an : Option Addr} {sl : Array (Option Value)} (lk : K.lookup f = some ⟨oc, od, .func (PySem.W.fnOf "__init__" "Setting.__init__" (defArgs sSI) (defBody sSI) (defScope sSI) .none kV dc pm an cd ct), sl⟩) (hcd : PySem.W.codeIn K cd "Setting.__init__" = true)
    (T : Txt K mg) (TB : ErC P w K mg base "BadSetting" "name" CB fE fdE) (TP : Pol K mg CP) (NP : NoKit K CP) (TS : Stg K mg CS)
    (FC : Fun K "check_size" "check_size" sCkS fC fdC) (bC : Binds K fdC ["size"] []) (gC : mg "check_size" = some (.ref fC)) (GC : FnOk P w K mg base (L2.CX P w) 3 fC fdC ["size"] (spCkS K CB))
    (FR : Fun K "policy_pair" "policy_pair" sPair fR fdR) (bR : Binds K fdR ["policies"] []) (gR : mg "policy_pair" = some (.ref fR)) (GR : FnOk P w K mg base CX0 5 fR fdR ["policies"] (spPair K)) :
    FnR P w K mg base (L2.CX P w) 6 f (fun vs H Q E => ∃ ws rest, vs = ws ++ rest ∧ ws.length = 2 ∧ rest.length ≤ sizeLine ∧ ∀ p, H p = none → spSI0 K CS CP CB (ws ++ [V.ref p]) (upd H p (.tup rest)) Q E) := by
  refine StX.fn_star (ps := (["self", "size"] : List Str)) (pv := "policies") (N := nSI) lk hcd scSI StX.cxUp (StX.bind_star2 (B := fun us => bindArgs (PySem.W.fnOf "__init__" "Setting.__init__" (defArgs sSI) (defBody sSI) (defScope sSI) .none kV dc pm an cd ct) ⟨us, []⟩) (p1 := "self") (p2 := "size") (pv := "policies") (fun a b => rfl) (fun a b r rs => rfl)) fun A outer s H vs Q E hr h => ?_
  exact body_SI T TB TP NP TS FC bC gC GC FR bR gR GR A outer s H vs Q E hr h
end
end Lw

namespace Lw
open PySem PySem.Spec PyProof.Rows L2 Evl L3
abbrev sOdd : Stmt := top 21
abbrev sDue : Stmt := top 23
def oddL : List PyData := [.none, .bool true, .bool false, .str "", .str "all ", .str "ALL", .str "2", .int (-1), .int 10, .int 5, .int (10 ^ (18 : Int).toNat + 1), .int (10 ^ (30 : Int).toNat), .int (-(10 ^ (20 : Int).toNat)), .list [], .tuple []] ++
  [.list [.str "all"], .list [.int 2], .tuple [.int 1], .str "off", .str "partial", .str "all", .int 0, .int 1, .int 4, .int 9, .int (10 ^ (18 : Int).toNat)]
theorem dps_at {K : PySem.W.Frag} {H : Hp} : ∀ {xs : List V} {ds : List PyData} {i : Nat} {d : PyData}, DpAll K H xs ds → ds[i]? = some d → ∃ v, xs[i]? = some v ∧ Dp K H v d
  | _, _, i, d, .nil, h => by cases i <;> exact nomatch h
  | _, _, 0, d, .cons a r, h => by
    cases h
    exact ⟨_, rfl, a⟩
  | _, _, i + 1, d, .cons a r, h => dps_at (i := i) r h
section
variable {P : Program} {w : World} {K : PySem.W.Frag} {mg : Str → Option Value} {base : Heap}
def spOdd (K : PySem.W.Frag) : Sp := fun vs H Q _ => ∃ (g : Addr) (n : Nat), vs = [.ref g] ∧ BagAt H g (n + 1) ∧ ∀ (z : V) (d : PyData) (H' : Hp), d ∈ oddL → Ex (del H g) (del H' g) → Dp K (newIn H' H) z d → BagAt H' g n → Q z H'
theorem scOd : FnScope ["_law_bag_here", "_law_some"] ["_law_bag_here"] (defScope sOdd) := ⟨rfl, rfl, rfl, by decide +kernel, rfl, by decide +kernel, by decide +kernel⟩
theorem ok_odd {f fT : Addr} {fd fdT : FuncData} (F : Fun K "_law_odd" "_law_odd" sOdd f fd) (T : Txt K mg) (FT : Fun K "_law_take" "_law_take" sTake fT fdT) (bT : Binds K fdT ["_law_bag_here", "_law_many"] []) (gT : mg "_law_take" = some (.ref fT)) (GT : FnOk P w K mg base CX0 1 fT fdT ["_law_bag_here", "_law_many"] spTake) :
    FnOk P w K mg base CX0 2 f fd ["_law_bag_here"] (spOdd K) := by
  refine F.ok scOd (fun vs H Q E h => ?_) (fun cdv A outer s H vs Q E hr h => ?_)
  · obtain ⟨g, n, rfl, _⟩ := h
    rfl
  · obtain ⟨g, n, rfl, bg, k⟩ := h
    refine ⟨_, pss_cons (ps_set (i := 1) scOd.nd rfl (Or.inl rfl) (pe_lst (pa_cons pe_non (pa_cons pe_bl (pa_cons pe_bl (pa_cons pe_str (pa_cons pe_str (pa_cons pe_str (pa_cons pe_str (pa_cons (pe_un un_neg pe_int) (pa_cons pe_int (pa_cons pe_int
        (pa_cons (pe_op op_add (pe_op op_pow pe_int pe_int) pe_int) (pa_cons (pe_op op_pow pe_int pe_int) (pa_cons (pe_un un_neg (pe_op op_pow pe_int pe_int)) (pa_cons (pe_lst pa_nil) (pa_cons (pe_tup pa_nil) pa_nil)))))))))))))))))
      (pss_cons (ps_set (i := 1) scOd.nd rfl (Or.inl rfl) (pe_op op_cat (pv 1) (pe_lst (pa_cons (pe_lst (pa_cons pe_str pa_nil)) (pa_cons (pe_lst (pa_cons pe_int pa_nil)) (pa_cons (pe_tup (pa_cons pe_int pa_nil)) (pa_cons pe_str (pa_cons pe_str (pa_cons pe_str (pa_cons pe_int (pa_cons pe_int (pa_cons pe_int (pa_cons pe_int
        (pa_cons (pe_op op_pow pe_int pe_int) pa_nil))))))))))))))
      (pss_one (ps_ret (pe_ix ix_list (pv 1) (pe_call GT hr rfl gT FT.kp bT .nil pass0 (pa_cons (pv 0) (pa_cons (pe_callB call_len_seq (by rfl) T.len PySem.boot_len (pa_cons (pv 1) pa_nil)) pa_nil))) (fun _ _ => rfl))))), ?_⟩
    obtain ⟨ob, hg⟩ : ∃ o, H g = some o := by
      obtain ⟨_, _, _, h, _⟩ := bg
      exact ⟨_, h⟩
    refine q_asgDl (K := K) (B := H) (dl_lst (Ex.refl H) (da_cons (dv_non ev_c) (da_cons (dv_bl ev_c) (da_cons (dv_bl ev_c) (da_cons (dv_str ev_c) (da_cons (dv_str ev_c) (da_cons (dv_str ev_c) (da_cons (dv_str ev_c) (da_cons (dv_int (ev_un ev_c ru_neg)) (da_cons (dv_int ev_c) (da_cons (dv_int ev_c)
      (da_cons (dv_int (ev_op (ev_op ev_c ev_c (rv_I ⟨by decide, by decide, by decide⟩)) ev_c rv_I0)) (da_cons (dv_int (ev_op ev_c ev_c (rv_I ⟨by decide, by decide, by decide⟩))) (da_cons (dv_int (ev_un (ev_op ev_c ev_c (rv_I ⟨by decide, by decide, by decide⟩)) ru_neg))
      (da_cons (dv_l (dl_lst (Ex.refl H) da_nil (by show 0 ≤ 100000; decide))) (da_cons (dv_tup (Ex.refl H) da_nil (by show 0 ≤ 100000; decide)) da_nil))))))))))))))) (by show 15 ≤ 100000; decide)) fun p1 xs1 H1 e1 n1 h1 x1 => ?_
    refine q_asgDl (K := K) (B := H) (ds := oddL) (dl_cat e1 (dl_var rfl n1 h1 x1) (dl_lst e1 (da_cons (dv_l (dl_lst e1 (da_cons (dv_str ev_c) da_nil) (by show 1 ≤ 100000; decide))) (da_cons (dv_l (dl_lst e1 (da_cons (dv_int ev_c) da_nil) (by show 1 ≤ 100000; decide))) (da_cons (dv_tup e1 (da_cons (dv_int ev_c) da_nil) (by show 1 ≤ 100000; decide))
      (da_cons (dv_str ev_c) (da_cons (dv_str ev_c) (da_cons (dv_str ev_c) (da_cons (dv_int ev_c) (da_cons (dv_int ev_c) (da_cons (dv_int ev_c) (da_cons (dv_int ev_c) (da_cons (dv_int (ev_op ev_c ev_c (rv_I ⟨by decide, by decide, by decide⟩))) da_nil))))))))))) (by show 11 ≤ 100000; decide)) (by show 26 ≤ 100000; decide)) fun p2 xs2 H2 e2 n2 h2 x2 => ?_
    have e12 := e1.trans e2
    have hl : xs2.length = 26 := dps_len' x2
    have n2g : p2 ≠ g := fun z => by
      rw [z, hg] at n2
      cases n2
    refine ⟨_, rfl, ?_⟩
    have evl : Ev (tCB (rLenS K) (tCons (tVar 1) tNil)) [some (.ref g), some (.ref p2)] H2 (.int 26) := by
      have z := ev_len (K := K) (σ := [some (V.ref g), some (V.ref p2)]) (H := H2) (ta := tVar 1) (ev_var rfl) (sq_of h2)
      rw [hl] at z
      exact z
    refine take_go (n := n) (m := 26) (ev_var rfl) evl (bg.ex e12) (by decide) (by decide) fun r H5 r0 r1 x5 b5 => ?_
    obtain ⟨j, rfl⟩ : ∃ j : Nat, r = (j : Int) := ⟨r.toNat, by omega⟩
    have hj : oddL[j]? = some (oddL[j]'(by show j < 26; omega)) := by simp
    obtain ⟨v, hv, hvd⟩ := dps_at x2 hj
    refine ⟨p2, xs2, (j : Int), v, rfl, rfl, sq_of (del_at x5 h2 n2g), atI_nat hv, ?_⟩
    exact k v _ H5 (List.getElem_mem _) ((ex_del e12).trans x5) (dp_ex (new_bag hg x5) hvd) b5
/-! ### what is due of three values -/
def dueV : Option Str → V
  | none => .non
  | some s => .str s
def spDue (K : PySem.W.Frag) : Sp := fun vs H Q _ => ∃ (p : Addr) (y0 y1 y2 : V) (d0 d1 d2 : PyData), vs = [.ref p] ∧ SqL K H p [y0, y1, y2] ∧ Dp K H y0 d0 ∧ Dp K H y1 d1 ∧ Dp K H y2 d2 ∧ RetV (dueV (dueP d0 d1 d2)) H Q
theorem scDu : FnScope ["_law_values"] ["_law_values"] (defScope sDue) := ⟨rfl, rfl, rfl, by decide +kernel, rfl, by decide +kernel, by decide +kernel⟩
theorem hold_str {d : PyData} (h : holdD d = true) : isStrD d = true := by
  cases d <;> first | rfl | exact absurd (show false = true from h) Bool.false_ne_true
theorem ok_due {f fW : Addr} {fd fdW : FuncData} (F : Fun K "_law_due" "_law_due" sDue f fd) (T : Txt K mg) (FW : Fun K "_law_within" "_law_within" sWith fW fdW) (bW : Binds K fdW ["_law_value", "_law_low", "_law_high"] []) (gW : mg "_law_within" = some (.ref fW)) (GW : FnOk P w K mg base CX0 1 fW fdW ["_law_value", "_law_low", "_law_high"] (spBetw K)) :
    FnOk P w K mg base CX0 2 f fd ["_law_values"] (spDue K) := by
  refine F.ok scDu (fun vs H Q E h => ?_) (fun cdv A outer s H vs Q E hr h => ?_)
  · obtain ⟨p, y0, y1, y2, d0, d1, d2, rfl, _⟩ := h
    rfl
  · obtain ⟨p, y0, y1, y2, d0, d1, d2, rfl, hp, h0, h1, h2, k⟩ := h
    refine ⟨_, pss_cons (ps_if (PW.pt (pw_or (pt_not (pt_val (pe_callB call_isi (by rfl) T.isi boot_isinstance (pa_cons (pe_ix ix_list (pv 0) pe_int (fun _ _ => rfl)) (pa_cons (pe_ty "str" T.str) pa_nil)))))
          (pw_or1 (pt_cmpR op_notIn_seq (pe_ix ix_list (pv 0) pe_int (fun _ _ => rfl)) (pe_tup (pa_cons pe_str (pa_cons pe_str (pa_cons pe_str pa_nil)))) rfl))))
        (pss_one (ps_ret pe_str)) pss_nil)
      (pss_cons (ps_if (pt_not (pt_val (pe_call GW hr rfl gW FW.kp bW .nil pass0 (pa_cons (pe_ix ix_list (pv 0) pe_int (fun _ _ => rfl)) (pa_cons pe_int (pa_cons pe_int pa_nil)))))) (pss_one (ps_ret pe_str)) pss_nil)
      (pss_one (ps_ret (pe_ifExp (pt_val (pe_call GW hr rfl gW FW.kp bW .nil pass0 (pa_cons (pe_ix ix_list (pv 0) pe_int (fun _ _ => rfl)) (pa_cons pe_int (pa_cons pe_int pa_nil))))) pe_non pe_str)))), ?_⟩
    have ix : ∀ {σ : L2.St} {H1 : Hp} {j : Nat} {v : V}, σ[0]? = some (some (V.ref p)) → Ex H H1 → [y0, y1, y2][j]? = some v → Ev (tOp (rIxL K) (tVar 0) (tC (.int (j : Int)))) σ H1 v := fun h1 e h2 => ev_op (ev_var h1) ev_c (rv_ixL (ex_l e hp) (atI_nat h2))
    have cond : EvT (tOr (tNot (tB (tCB (rIsi K) (tCons (tOp (rIxL K) (tVar 0) (tC (.int 0))) (tCons (tC (.ty "str")) tNil))))) (tTest (tOp (rIn K true) (tOp (rIxL K) (tVar 0) (tC (.int 0))) (tTup (tCons (tC (.str "off")) (tCons (tC (.str "partial")) (tCons (tC (.str "all")) tNil))))))) (start ["_law_values"] [V.ref p]) H (!holdD d0) := by
      cases hs : isStrD d0 with
      | false =>
        have z : holdD d0 = false := by
          cases q : holdD d0 with
          | false => rfl
          | true =>
            rw [hold_str q] at hs
            cases hs
        rw [z]
        exact et_is (et_or (a := true) (b := true) (et_not (a := false) (et_B (ev_is (ev_isi (ix (j := 0) rfl (Ex.refl H) rfl) h0 (kit_str _)) (by rw [hs])))) fun hb => nomatch hb) rfl
      | true =>
        obtain ⟨z, rfl⟩ : ∃ z, d0 = .str z := by
          cases d0 with
          | str z => exact ⟨z, rfl⟩
          | _ => cases hs
        cases h0
        refine et_is (et_or (a := false) (b := !holdD (.str z)) (et_not (a := true) (et_B (ev_isi (ix (j := 0) rfl (Ex.refl H) rfl) (.str z) (kit_str _)))) fun _ => ?_) (Bool.false_or _)
        exact et_is (et_test (ev_niU (ix (j := 0) rfl (Ex.refl H) rfl) (eu_tup (ea_cons ev_c (ea_cons ev_c (ea_cons ev_c ea_nil))) (by show 3 ≤ 100000; decide)) rfl rfl)) rfl
    refine q_when cond (fun hb H1 e1 => ?_) fun hb H1 e1 => ?_
    · refine s_ret ev_c fun H2 e2 => ?_
      have z : holdD d0 = false := by simpa using hb
      have e0 : dueP d0 d1 d2 = some ("hold" : Str) := by
        unfold dueP
        rw [if_neg (by rw [z]; simp)]
      rw [e0] at k
      exact k H2 (e1.trans e2)
    have z0 : holdD d0 = true := by simpa using hb
    refine q_when (b := !betwD d1 0 9) (et_not (et_B (ev_call (ea_cons (ix (j := 1) rfl e1 rfl) (ea_cons ev_c (ea_cons ev_c ea_nil))) (sp_betw (dp_ex e1 h1))))) (fun hb2 H2 e2 => ?_) fun hb2 H2 e2 => ?_
    · refine s_ret ev_c fun H3 e3 => ?_
      have z : betwD d1 0 9 = false := by simpa using hb2
      have e0 : dueP d0 d1 d2 = some ("every" : Str) := by
        unfold dueP
        rw [if_pos z0, if_neg (by rw [z]; simp)]
      rw [e0] at k
      exact k H3 ((e1.trans e2).trans e3)
    have z1 : betwD d1 0 9 = true := by simpa using hb2
    have e12 := e1.trans e2
    refine s_ret (v := dueV (dueP d0 d1 d2)) (ev_if (b := betwD d2 0 4) (et_B (ev_call (ea_cons (ix (j := 2) rfl e12 rfl) (ea_cons ev_c (ea_cons ev_c ea_nil))) (sp_betw (dp_ex e12 h2)))) (fun hb3 => ?_) fun hb3 => ?_) fun H3 e3 => k H3 (e12.trans e3)
    · have e0 : dueP d0 d1 d2 = none := by
        unfold dueP
        rw [if_pos z0, if_pos z1, if_pos hb3]
      rw [e0]
      exact ev_c
    · have e0 : dueP d0 d1 d2 = some ("quick" : Str) := by
        unfold dueP
        rw [if_pos z0, if_pos z1, if_neg (by rw [hb3]; simp)]
      rw [e0]
      exact ev_c
end
end Lw

namespace Lw
open PySem PySem.Spec PyProof.Rows L2 Evl L3 LamX
abbrev sTold : Stmt := top 24
abbrev sRight : Stmt := top 25
/-- what a lambda does: nothing, or BadSetting with the name -/
def Beh (CB : Addr) (tl : XK → Hp → VK → Prop) (H : Hp) (due : Option Str) : Prop := ∀ H1, Ex H H1 → ∀ (E : XK) (Q : VK), (due = none → ∀ v H2, Ex H1 H2 → Q v H2) → (∀ nm, due = some nm → ErrV CB "name" (.str nm) H1 E) → tl E H1 Q
theorem Beh.go {CB : Addr} {tl : XK → Hp → VK → Prop} {H H1 : Hp} {due : Option Str} (b : Beh CB tl H due) (e : Ex H H1) : Beh CB tl H1 due := fun H2 e2 => b H2 (e.trans e2)
/-- which clause takes which error, what its isinstance asks -/
structure Exm (K : PySem.W.Frag) (CB CO CW CT CL : Addr) : Prop where
  bo : PySem.W.exmOne K (.ref CB) (.ref CO) = some false
  bw : PySem.W.exmOne K (.ref CB) (.ref CW) = some false
  bt : PySem.W.exmOne K (.ref CB) (.ref CT) = some false
  bb : PySem.W.exmOne K (.ref CB) (.ref CB) = some true
  xf : XfC K CB
  ec : ExcC K CB
  kv : PySem.W.kitOne K (.ref CB) (.type "ValueError") = some true
  kl : PySem.W.kitOne K (.ref CB) (.ref CL) = some true
theorem exm_three {K : PySem.W.Frag} {cls c e f : Value} (h1 : PySem.W.exmOne K cls c = some false) (h2 : PySem.W.exmOne K cls e = some false) (h3 : PySem.W.exmOne K cls f = some false) : exmC K cls [c, e, f] = some false := by
  show PySem.W.exmAny K cls [c, e, f] = _
  unfold PySem.W.exmAny
  rw [h1]
  unfold PySem.W.exmAny
  rw [h2]
  unfold PySem.W.exmAny
  rw [h3]
  rfl
section
variable {P : Program} {w : World} {K : PySem.W.Frag} {mg : Str → Option Value} {base : Heap}
def dueD : Option Str → PyData
  | none => .none
  | some nm => .list [.str nm, .bool true, .bool true]
def RetD (K : PySem.W.Frag) (d : PyData) (H : Hp) (Q : VK) : Prop := ∀ z H2, Ex H H2 → Dp K H2 z d → Q z H2
def spTold (K : PySem.W.Frag) (CB : Addr) (l c' : Addr) (q : Str) (tl : XK → Hp → VK → Prop) : Sp := fun vs H Q _ => ∃ due : Option Str, vs = [.ref l] ∧ H c' = some (CodeO c' q) ∧ Beh CB tl H due ∧ RetD K (dueD due) H Q
theorem scTo : FnScope ["_law_call", "e"] ["_law_call"] (defScope sTold) := ⟨rfl, rfl, rfl, by decide +kernel, rfl, by decide +kernel, by decide +kernel⟩
theorem ok_told {f CB CO CW CT CL fI : Addr} {fd fdI : FuncData} (F : Fun K "_law_told" "_law_told" sTold f fd) (T : Txt K mg) (X : Exm K CB CO CW CT CL) (hO : mg "BadOrder" = some (.ref CO)) (hW : mg "BadWrite" = some (.ref CW)) (hT : mg "TooLong" = some (.ref CT)) (hL : mg "LatewordsError" = some (.ref CL)) (hV : mg "ValueError" = none)
    (TB : ErC P w K mg base "BadSetting" "name" CB fI fdI) : FnC P w K mg base 8 10 f fd ["_law_call"] (spTold K CB) := by
  refine fnC_of F scTo (fun l c' q tl vs H Q E h => ?_) (fun cdv A outer s H vs Q E l c' q tl hr C h => ?_)
  · obtain ⟨due, rfl, _⟩ := h
    rfl
  · obtain ⟨due, rfl, hc, hb, k⟩ := h
    refine ⟨_, pss_cons (ps_tryT3 (tb := fun W => tDrop (fun σ H Q => σ[0]? = some (some (.ref l)) ∧ H c' = some (CodeO c' q) ∧ tl (WE W σ) H Q)) (Wout := fun _ _ _ _ => False)
        (l := [([.ref CO, .ref CW, .ref CT], none, fun _ _ _ => tRet (tC (.str "another"))), ([.ref CB], some 1, fun a cls d => tRet (tLst (tCons (tXf a cls d CB "name" (tVar 1)) (tCons (tCB (rIsX K CB a cls d) (tCons (tVar 1) (tCons (tC (.ty "ValueError")) tNil))) (tCons (tCB (rIsX K CB a cls d) (tCons (tVar 1) (tCons (tC (.ref CL)) tNil))) tNil)))))]) rfl rfl L2.takes0
        (fun W pn xe tk _ => pss_one (ps_expr (by exact (pe_do (j := 8) (i := 0) C rfl hr (fun σ => passAt tk σ) rfl (Or.inl rfl)))))
        (.bare (.three ⟨rfl, by decide, Or.inl hO⟩ ⟨rfl, by decide, Or.inl hW⟩ ⟨rfl, by decide, Or.inl hT⟩) (fun a oe cls d pn hz hf => pss_one (ps_ret pe_str))
          (.named scTo.nd rfl rfl (.one ⟨rfl, by decide, Or.inl TB.hm⟩) (fun a oe cls d pn hz hf => pss_one (ps_ret (by exact (pe_lst (by exact (pa_cons (by exact (pe_xf X.xf TB.no hz hf (pv 1)))
            (pa_cons (by exact (pe_callB (call_isX X.ec hz hf) (by rfl) T.isi boot_isinstance (pa_cons (pv 1) (pa_cons (pe_ty "ValueError" hV) pa_nil)))) (pa_cons (by exact (pe_callB (call_isX X.ec hz hf) (by rfl) T.isi boot_isinstance (pa_cons (pv 1) (pa_cons (pe_glob (v := .ref CL) rfl hL rfl) pa_nil)))) pa_nil)))))))) .nil)))
      (pss_one (ps_ret pe_non)), ?_⟩
    refine ⟨rfl, hc, hb H (Ex.refl H) _ _ (fun hd v H1 e1 => ?_) fun nm hd => ?_⟩
    · subst hd
      exact k .non H1 e1 .non
    · subst hd
      intro dd H2 e2 hdd h2
      refine ⟨false, exm_three X.bo X.bw X.bt, (fun z => nomatch z), fun _ => ⟨true, X.bb, fun _ a ha => ?_, fun z => nomatch z⟩⟩
      have lk : List.lookup ("name" : Str) [(("name" : Str), V.str nm)] = some (.str nm) := by simp [List.lookup]
      refine ⟨_, rfl, rfl, rfl, dd, _, .str nm, rfl, h2, lk, ?_⟩
      refine ⟨_, rfl, .ty "ValueError", _, _, rfl, rfl, ⟨dd, _, rfl, h2⟩, fun u hu => hu, X.kv, ?_⟩
      refine ⟨_, rfl, .ref CL, _, _, rfl, rfl, ⟨dd, _, rfl, h2⟩, fun u hu => hu, X.kl, ?_⟩
      refine ⟨by show 3 ≤ sizeLine; decide, fun p hp => ?_⟩
      exact k _ _ (e2.trans (Ex.new hp)) (.lst (sq_of upd_same) (.cons (.str nm) (.cons (.bl true) (.cons (.bl true) .nil))))
def spRight (CB : Addr) (l c' : Addr) (q : Str) (tl : XK → Hp → VK → Prop) : Sp := fun vs H Q _ => ∃ due : Option Str, vs = [.ref l, dueV due] ∧ H c' = some (CodeO c' q) ∧ Beh CB tl H due ∧ (∀ nm, due = some nm → (PyData.str nm).canLay0 = true) ∧ RetV (.bl true) H Q
theorem scRi : FnScope ["_law_call", "_law_due_here", "_law_wanted"] ["_law_call", "_law_due_here"] (defScope sRight) := ⟨rfl, rfl, rfl, by decide +kernel, rfl, by decide +kernel, by decide +kernel⟩
theorem ok_right {f fT CB : Addr} {fd fdT : FuncData} (F : Fun K "_law_right" "_law_right" sRight f fd)
    (FT : Fun K "_law_told" "_law_told" sTold fT fdT) (bT : Binds K fdT ["_law_call"] []) (gT : mg "_law_told" = some (.ref fT)) (GT : FnC P w K mg base 8 10 fT fdT ["_law_call"] (spTold K CB)) : FnC P w K mg base 8 11 f fd ["_law_call", "_law_due_here"] (spRight CB) := by
  refine fnC_of F scRi (fun l c' q tl vs H Q E h => ?_) (fun cdv A outer s H vs Q E l c' q tl hr C h => ?_)
  · obtain ⟨due, rfl, _⟩ := h
    rfl
  · obtain ⟨due, rfl, hc, hb, hcl, k⟩ := h
    refine ⟨_, pss_cons (ps_set (i := 2) scRi.nd rfl (Or.inl rfl) (pe_ifExp (pt_cmpR op_isN (pv 1) pe_non (nomark _)) pe_non (pe_lst (pa_cons (pv 1) (pa_cons pe_bl (pa_cons pe_bl pa_nil))))))
      (pss_one (ps_ret (pe_and (pe_cmpR (op_eqD hr.units) (pe_callC GT C rfl hr rfl gT FT.kp bT (pa_cons (pv 0) pa_nil)) (pv 2) (nomark _)) (pe_one (pe_cmpR (op_eqD hr.units) (pe_callC GT C rfl hr rfl gT FT.kp bT (pa_cons (pv 0) pa_nil)) (pv 2) (nomark _)))))), ?_⟩
    have nd : Nice (dueD due) ∨ True := Or.inr trivial
    have sh : SeqAt.shaped (dueD due) = true := by
      cases due with
      | none => rfl
      | some nm =>
        show ((PyData.list [.str nm, .bool true, .bool true]).canLay0 && decide ((PyData.list [.str nm, .bool true, .bool true]).depth ≤ 64)) = true
        have z := hcl nm rfl
        have z2 : (PyData.list [.str nm, .bool true, .bool true]).canLay0 = ((PyData.str nm).canLay0 && true) := rfl
        rw [z2, z] <;> rfl
    have rf : PyData.eqv (dueD due) (dueD due) = true := eqv_refl _ (by cases due <;> rfl)
    have body : ∀ {W : V} {H1 : Hp}, Ex H H1 → Dp K H1 W (dueD due) → tRet (tAndV (tOp (rEqD K) (tCall (spTold K CB l c' q tl) [] E0 (tCons (tVar 0) tNil)) (tVar 2)) (tOp (rEqD K) (tCall (spTold K CB l c' q tl) [] E0 (tCons (tVar 0) tNil)) (tVar 2))) { nx := fun _ H' => Q .non H', rt := Q } [some (.ref l), some (dueV due), some W] H1 := by
      intro W H1 e1 hW
      have one : ∀ {H2 : Hp}, Ex H1 H2 → Ev (tOp (rEqD K) (tCall (spTold K CB l c' q tl) [] E0 (tCons (tVar 0) tNil)) (tVar 2)) [some (.ref l), some (dueV due), some W] H2 (.bl true) := fun {H2} e2 H3 e3 Q' q' => by
        refine ⟨_, rfl, due, rfl, (e1.trans (e2.trans e3)) _ _ hc, hb.go (e1.trans (e2.trans e3)), fun z H4 e4 hz => ?_⟩
        refine ⟨_, rfl, dueD due, dueD due, hz, dp_ex (e2.trans (e3.trans e4)) hW, sh, sh, ?_⟩
        rw [rf]
        exact q' H4 e4
      exact s_ret (ev_is (ev_andV (a := true) (b := true) (one (Ex.refl H1)) fun _ => one (Ex.refl H1)) rfl) fun H2 e2 => k H2 (e1.trans e2)
    cases due with
    | none =>
      refine q_asg (v := .non) (ev_if (b := true) (et_is (et_test fun H1 e Q' q' => ⟨_, rfl, rfl, q' H1 (Ex.refl H1)⟩) rfl) (fun _ => ev_c) fun hb => nomatch hb) fun H1 e1 => ?_
      exact body e1 .non
    | some nm =>
      refine ⟨_, rfl, rfl, ?_⟩
      refine ⟨false, rfl, ?_⟩
      refine ⟨_, rfl, by show 3 ≤ sizeLine; decide, fun p hp => ?_⟩
      exact body (Ex.new hp) (.lst (sq_of upd_same) (.cons (.str nm) (.cons (.bl true) (.cons (.bl true) .nil))))
end
end Lw

namespace L3
open PySem PySem.Spec PyProof.Rows L2 Evl LamX
/-! ### a heap without its tables of code objects -/
def nt (H : Hp) : Hp := fun b => match H b with
  | some (.tbl _) => none
  | o => o
section
variable {K : PySem.W.Frag} {H H1 : Hp} {a b g : Addr} {u : HO} {xs : List V} {T : List (Addr × Str)}
theorem nt_iff : nt H b = some u ↔ H b = some u ∧ ∀ ps, u ≠ .tbl ps := by
  unfold nt
  constructor
  · intro h
    split at h
    · cases h
    · rename_i hn
      exact ⟨h, fun ps z => hn ps (by rw [h, z])⟩
  · rintro ⟨h, n⟩
    split
    · rename_i ps q
      rw [q] at h
      cases h
      exact absurd rfl (n ps)
    · exact h
theorem nt_sub : Ex (nt H) H := fun b u h => (nt_iff.mp h).1
theorem nt_ex (e : Ex H H1) : Ex (nt H) (nt H1) := fun b u h => nt_iff.mpr ⟨e _ _ (nt_iff.mp h).1, (nt_iff.mp h).2⟩
theorem nt_ext (e : ExtN H H1) : Ex (nt H) (nt H1) := fun b u h => nt_iff.mpr ⟨e _ _ (nt_iff.mp h).1 (nt_iff.mp h).2, (nt_iff.mp h).2⟩
theorem sql_nt (h : SqL K H a xs) : SqL K (nt H) a xs := by
  rcases h with (h | ⟨o, h⟩) | h
  · exact Or.inl (Or.inl (nt_iff.mpr ⟨h, fun ps z => nomatch z⟩))
  · exact Or.inl (Or.inr ⟨o, nt_iff.mpr ⟨h, fun ps z => nomatch z⟩⟩)
  · exact Or.inr h
theorem sqt_nt (h : SqT K H a xs) : SqT K (nt H) a xs := by
  rcases h with (h | ⟨o, h⟩) | h
  · exact Or.inl (Or.inl (nt_iff.mpr ⟨h, fun ps z => nomatch z⟩))
  · exact Or.inl (Or.inr ⟨o, nt_iff.mpr ⟨h, fun ps z => nomatch z⟩⟩)
  · exact Or.inr h
mutual
theorem dp_nt : ∀ {d : PyData} {x : V}, Dp K H x d → Dp K (nt H) x d
  | _, _, .non => .non
  | _, _, .bl b => .bl b
  | _, _, .int i => .int i
  | _, _, .str x => .str x
  | _, _, .lst hs ha => .lst (sql_nt hs) (dps_nt ha)
  | _, _, .tup hs ha => .tup (sqt_nt hs) (dps_nt ha)
theorem dps_nt : ∀ {ds : List PyData} {xs : List V}, DpAll K H xs ds → DpAll K (nt H) xs ds
  | _, _, .nil => .nil
  | _, _, .cons a r => .cons (dp_nt a) (dps_nt r)
end
/-- .. and without the bag -/
def Wb (g : Addr) (H : Hp) : Hp := del (nt H) g
theorem w_at (h : H b = some u) (n : b ≠ g) (t : ∀ ps, u ≠ .tbl ps) : Wb g H b = some u := by
  unfold Wb
  rw [del_ne n]
  exact nt_iff.mpr ⟨h, t⟩
theorem w_of (h : Wb g H b = some u) : H b = some u ∧ b ≠ g ∧ ∀ ps, u ≠ .tbl ps := by
  unfold Wb at h
  by_cases c : b = g
  · rw [c, del_same] at h
    cases h
  · rw [del_ne c] at h
    exact ⟨(nt_iff.mp h).1, c, (nt_iff.mp h).2⟩
theorem w_sub : Ex (Wb g H) H := fun b u h => (w_of h).1
theorem w_ex (e : Ex H H1) : Ex (Wb g H) (Wb g H1) := fun b u h => w_at (e _ _ (w_of h).1) (w_of h).2.1 (w_of h).2.2
theorem w_ext (e : ExtN H H1) : Ex (Wb g H) (Wb g H1) := fun b u h => w_at (e _ _ (w_of h).1 (w_of h).2.2) (w_of h).2.1 (w_of h).2.2
theorem w_del (e : Ex (del H g) (del H1 g)) : Ex (Wb g H) (Wb g H1) := fun b u h => by
  obtain ⟨h1, h2, h3⟩ := w_of h
  have z := e b u (by rw [del_ne h2]; exact h1)
  rw [del_ne h2] at z
  exact w_at z h2 h3
theorem tabs_del (t : Tabs T H) (hg : H g = some (.lst xs)) (e : Ex (del H g) (del H1 g)) : Tabs T H1 := fun p hp => by
  obtain ⟨ps, h1, h2, h3⟩ := t p hp
  have n1 : p.1 ≠ g := fun z => by
    rw [z, hg] at h1
    cases h1
  have z := e p.1 _ (by rw [del_ne n1]; exact h1)
  rw [del_ne n1] at z
  refine ⟨ps, z, h2, fun pos cv hc => ?_⟩
  obtain ⟨c, e1, e2⟩ := h3 pos cv hc
  have n2 : c ≠ g := fun z => by
    rw [z, hg] at e2
    unfold CodeO at e2
    cases e2
  have z2 := e c _ (by rw [del_ne n2]; exact e2)
  rw [del_ne n2] at z2
  exact ⟨c, e1, z2⟩
/-- what is new is beside what stood -/
theorem new_w {p : Addr} {o : HO} (hg : ∃ o, H g = some o) (hp : H p = some o) : Ex (nt (newIn H1 H)) (del (Wb g H1) p) := fun b u h => by
  obtain ⟨h1, h2⟩ := nt_iff.mp h
  obtain ⟨og, hg⟩ := hg
  cases q : H b with
  | some v =>
    rw [new_off q] at h1
    cases h1
  | none =>
    rw [new_at q] at h1
    have n1 : b ≠ g := fun z => by
      rw [z, hg] at q
      cases q
    have n2 : b ≠ p := fun z => by
      rw [z, hp] at q
      cases q
    rw [del_ne n2]
    exact w_at h1 n1 h2
end
/-- x == y: one of both is an own instance -/
theorem op_eqB {X : Cx} {CX : CXT} {n : Nat} {C f : Addr} {fd : FuncData} {ps : List Str} {sp : Sp} (S : Spm X.K C "__eq__" f) (N : NoBase X.K C) (F : FnOk X.prog X.w X.K X.mg X.base CX n f fd ps sp) (hb : Binds X.K fd ps []) (hx : Passes CX X E0) (hr : Room n X.A) :
    OpR X (compareOp .Eq) (fun x y H Q => rEqO X.K C sp x y H Q ∨ rEqR X.K C sp x y H Q) := by
  intro pins s σ H x y v u Q I rx ry h
  rcases h with h | h
  · exact op_eqO S F hb hx hr pins s σ H x y v u Q I rx ry h
  · exact op_eqR S N F hb hx hr pins s σ H x y v u Q I rx ry h
end L3
namespace Lw
open PySem PySem.Spec PyProof.Rows L2 Evl L3 LamX
/-- how far the law has come: B stands, the bag has n draws left, the tables are as they should be -/
structure LS (T : List (Addr × Str)) (g : Addr) (B H : Hp) (n : Nat) : Prop where
  ex : Ex B (Wb g H)
  bag : BagAt H g n
  tab : Tabs T H
section
variable {T : List (Addr × Str)} {g : Addr} {B B' H H1 : Hp} {n m : Nat}
theorem LS.up (S : LS T g B H n) : Ex B H := S.ex.trans w_sub
theorem LS.e (S : LS T g B H n) (e : Ex H H1) : LS T g B H1 n := ⟨S.ex.trans (w_ex e), S.bag.ex e, S.tab.ext fun b o h => e b o h⟩
theorem LS.d (S : LS T g B H n) (e : Ex (del H g) (del H1 g)) (b : BagAt H1 g m) : LS T g B H1 m := by
  obtain ⟨d, s, c, hg, _⟩ := S.bag
  exact ⟨S.ex.trans (w_del e), b, tabs_del S.tab hg e⟩
theorem LS.t (S : LS T g B H n) (e : ExtN H H1) (t : Tabs T H1) : LS T g B H1 n := by
  obtain ⟨d, s, c, hg, r⟩ := S.bag
  exact ⟨S.ex.trans (w_ext e), ⟨d, s, c, e _ _ hg (fun ps z => nomatch z), r⟩, t⟩
theorem LS.re (S : LS T g B H n) : LS T g (Wb g H) H n := ⟨Ex.refl _, S.bag, S.tab⟩
theorem LS.less (S : LS T g B H n) (h : m ≤ n) : LS T g B H m := ⟨S.ex, S.bag.less h, S.tab⟩
end
section
variable {P : Program} {w : World} {K : PySem.W.Frag} {mg : Str → Option Value} {base : Heap}
theorem ex_made {CP x dx : Addr} {H : Hp} (hx : H x = none) (hd : H dx = none) (n : dx ≠ x) : Ex H (upd (upd H dx (.own x)) x (.ins CP dx [])) :=
  (Ex.new hd).trans (Ex.new (by rw [upd_ne n.symm]; exact hx))
theorem made_pol {CP x dx : Addr} {H H' : Hp} {fs : List (Str × V)} (hx : H x = none) (hd : H dx = none) (n : dx ≠ x) (e : Ex (del (upd (upd H dx (.own x)) x (.ins CP dx fs)) x) (del H' x)) : Ex H H' := fun b o h => by
  have nb : b ≠ x := ne_of_none h hx
  have nd : b ≠ dx := ne_of_none h hd
  have z := e b o (by rw [del_ne nb, upd_ne nb, upd_ne nd]; exact h)
  rw [del_ne nb] at z
  exact z
/-- Policy(h, every=e, quick=q) of any values, in a lambda -/
theorem beh_pol {CP CB : Addr} {gV : List V → List V → List V} {ta tk : TA} {σ : L2.St} {H : Hp} {y0 y1 y2 : V} {d0 d1 d2 : PyData} (h1 : EvA ta σ H [y0]) (h2 : EvA tk σ H [y1, y2]) (hg : ∀ x, gV [x, y0] [y1, y2] = [x, y0, y1, y2]) (hd0 : Dp K H y0 d0) (hd1 : Dp K H y1 d1) (hd2 : Dp K H y2 d2) (sd : SeqAt.shaped d0 = true) :
    Beh CB (fun E H' Q' => tMakeK CP 1 2 (spPI K CP CB) gV E ta tk σ H' Q') H (dueP d0 d1 d2) := fun H1 e E Q k ke =>
  h1 H1 e _ fun H2 e2 => h2 H2 (e.trans e2) _ fun H3 e3 => ⟨rfl, rfl, fun x dx hx hd nd => by
    rw [hg]
    have em := ex_made (CP := CP) hx hd nd
    have e4 := (e.trans (e2.trans e3)).trans em
    exact ⟨x, dx, y0, y1, y2, d0, d1, d2, rfl, upd_same, dp_ex e4 hd0, dp_ex e4 hd1, dp_ex e4 hd2, sd, fun hn H' x' h' => ⟨rfl, k hn _ H' ((e2.trans e3).trans (made_pol hx hd nd x'))⟩, fun nm hn => (ke nm hn).go ((e2.trans e3).trans em)⟩⟩
/-- Policy(h, every=e), of good values -/
theorem pol_good {CP CB : Addr} {m : Nat} {gV : List V → List V → List V} {ta tk : TA} {σ : L2.St} {H : Hp} {Q : VK} {h : Str} {e : Int} (h1 : EvA ta σ H [.str h]) (h2 : EvA tk σ H [.int e]) (hm : 1 = m) (hg : ∀ x, gV [x, .str h] [.int e] = [x, .str h, .int e, .int 0]) (ok : dueP (.str h) (.int e) (.int 0) = none) (sd : SeqAt.shaped (.str h) = true)
    (k : ∀ x H', Ex H H' → PolAt CP H' x h e 0 → Q (.ref x) H') : tMakeK CP 1 m (spPI K CP CB) gV E0 ta tk σ H Q :=
  h1 H (Ex.refl H) _ fun H1 e1 => h2 H1 e1 _ fun H2 e2 => ⟨rfl, hm, fun x dx hx hd nd => by
    rw [hg]
    refine ⟨x, dx, .str h, .int e, .int 0, _, _, _, rfl, upd_same, .str h, .int e, .int 0, sd, fun hn H' x' h' => ⟨rfl, k x H' ((e1.trans e2).trans (made_pol hx hd nd x')) ⟨dx, h'⟩⟩, fun nm hn => ?_⟩
    rw [ok] at hn
    cases hn⟩
/-- Setting(size, ..) of any values, in a lambda -/
theorem beh_set {CS CP CB : Addr} {ta : TA} {σ : L2.St} {H : Hp} {yw : V} {dw : PyData} {xs : List V} {bs : List Bool} (h1 : EvA ta σ H (yw :: xs)) (hw : Dp K H yw dw) (hl : xs.length = bs.length) (hb1 : 1 ≤ bs.length) (hb2 : bs.length ≤ 100) (hit : ∀ (i : Nat) (v : V) (b : Bool), xs[i]? = some v → bs[i]? = some b → Itm K CP H v b) :
    Beh CB (fun E H' Q' => StX.tMakeR CS (fun vs H Q E => ∃ ws rest, vs = ws ++ rest ∧ ws.length = 2 ∧ rest.length ≤ sizeLine ∧ ∀ p, H p = none → spSI0 K CS CP CB (ws ++ [V.ref p]) (upd H p (.tup rest)) Q E) E ta σ H' Q') H (dueS dw bs) := fun H1 e E Q k ke =>
  h1 H1 e _ fun H2 e2 => fun x dx hx hd nd => by
    refine ⟨[.ref x, yw], xs, rfl, rfl, sz_of (by omega), fun t ht => ?_⟩
    have em := ex_made (CP := CS) hx hd nd
    have en := Ex.new (o := .tup xs) ht
    have e4 := (e.trans e2).trans (em.trans en)
    have ntx : t ≠ x := fun z => by
      rw [z, upd_same] at ht
      cases ht
    refine ⟨x, dx, t, yw, dw, xs, bs, rfl, by rw [upd_ne ntx.symm]; exact upd_same, dp_ex e4 hw, st_of (by rw [del_ne ntx]; exact upd_same), hl, hb1, hb2, fun i v b hv hb => (hit i v b hv hb).ex e4, fun hn H' x' => ⟨rfl, k hn _ H' ?_⟩, fun nm hn => (ke nm hn).go (e2.trans (em.trans en))⟩
    intro b o hbo
    have h2 := e2 _ _ hbo
    have nb : b ≠ x := ne_of_none h2 hx
    have z := x' b o (by rw [del_ne nb]; exact (em.trans en) _ _ h2)
    rw [del_ne nb] at z
    exact z
end
end Lw

namespace Lw
open PySem PySem.Spec PyProof.Rows L2 Evl L3 LamX ClX
section
variable {K : PySem.W.Frag}
/-- if not right(lambda: ..., due): it is -/
theorem q_lam {T : List (Addr × Str)} {q : Str} {CB : Addr} {t : XK → TE} {σ : L2.St} {H : Hp} {D : Ends} {tA tz : TS} {due : Option Str} (tab : Tabs T H) (h6 : σ[6]? = some (some (dueV due))) (hc : ∀ nm, due = some nm → (PyData.str nm).canLay0 = true)
    (hb : ∀ H1, ExtN H H1 → Beh CB (fun E H' Q' => t E σ H' Q') H1 due) (k : ∀ H1 H2, ExtN H H1 → Tabs T H1 → Ex H1 H2 → tz D σ H2) : tSeq (tIfS (tNot (tB (tLamC T q (spRight CB) t (tCons (tVar 6) tNil)))) tA tNext) tz D σ H :=
  ⟨tab, fun f' c' H1 eN tN hco => ⟨_, h6, due, rfl, hco, hb H1 eN, hc, fun H2 e2 => ⟨true, rfl, by
    show tz D σ H2
    exact k H1 H2 eN tN e2⟩⟩⟩
theorem s_lam {T : List (Addr × Str)} {q : Str} {CB : Addr} {t : XK → TE} {σ : L2.St} {H : Hp} {D : Ends} {tA : TS} {due : Option Str} (tab : Tabs T H) (h6 : σ[6]? = some (some (dueV due))) (hc : ∀ nm, due = some nm → (PyData.str nm).canLay0 = true)
    (hb : ∀ H1, ExtN H H1 → Beh CB (fun E H' Q' => t E σ H' Q') H1 due) (k : ∀ H1 H2, ExtN H H1 → Tabs T H1 → Ex H1 H2 → D.nx σ H2) : tIfS (tNot (tB (tLamC T q (spRight CB) t (tCons (tVar 6) tNil)))) tA tNext D σ H :=
  ⟨tab, fun f' c' H1 eN tN hco => ⟨_, h6, due, rfl, hco, hb H1 eN, hc, fun H2 e2 => ⟨true, rfl, by
    show D.nx σ H2
    exact k H1 H2 eN tN e2⟩⟩⟩
theorem q_polgood {CP CB : Addr} {m i : Nat} {gV : List V → List V → List V} {ta tk : TA} {σ : L2.St} {H : Hp} {D : Ends} {tz : TS} {h : Str} {e : Int} (h1 : EvA ta σ H [.str h]) (h2 : EvA tk σ H [.int e]) (hm : 1 = m) (hg : ∀ x, gV [x, .str h] [.int e] = [x, .str h, .int e, .int 0]) (ok : dueP (.str h) (.int e) (.int 0) = none) (sd : SeqAt.shaped (.str h) = true)
    (k : ∀ x H', Ex H H' → PolAt CP H' x h e 0 → tz D (σ.set i (some (.ref x))) H') : tSeq (tAsg (tMakeK CP 1 m (spPI K CP CB) gV E0 ta tk) (gName i)) tz D σ H := by
  show tMakeK CP 1 m (spPI K CP CB) gV E0 ta tk σ H fun x H1 => tz D (σ.set i (some x)) H1
  exact pol_good h1 h2 hm hg ok sd k
theorem q_par {i j : Nat} {ta tb : TE} {tz : TS} {D : Ends} {σ : L2.St} {H : Hp} {x y : V} (h1 : Ev ta σ H x) (h2 : Ev tb σ H y) (k : ∀ H1, Ex H H1 → tz D ((σ.set i (some x)).set j (some y)) H1) : tSeq (tPar i j (tCons ta (tCons tb tNil))) tz D σ H :=
  h1 H (Ex.refl H) _ fun H1 e1 => h2 H1 e1 _ fun H2 e2 => ⟨x, y, rfl, k H2 (e1.trans e2)⟩
theorem w_nt {g : Addr} {H : Hp} : Ex (Wb g H) (nt H) := fun b u h => nt_iff.mpr ⟨(w_of h).1, (w_of h).2.2⟩
theorem dps_set {H : Hp} {z : V} {d : PyData} (hz : Dp K H z d) : ∀ {xs : List V} {ds : List PyData} (j : Nat), DpAll K H xs ds → DpAll K H (xs.set j z) (ds.set j d)
  | _, _, _, .nil => .nil
  | _, _, 0, .cons _ r => .cons hz r
  | _, _, j + 1, .cons a r => .cons a (dps_set hz j r)
/-- a list of three values at p that is being bent -/
structure VS (K : PySem.W.Frag) (T : List (Addr × Str)) (g p : Addr) (B H : Hp) (ys : List V) (ds : List PyData) (n : Nat) : Prop where
  ex : Ex B (del (Wb g H) p)
  at_ : H p = some (.lst ys)
  da : DpAll K (del (Wb g H) p) ys ds
  bag : BagAt H g n
  tab : Tabs T H
  ne : p ≠ g
  len : ds.length = 3
  sh : ∀ d ∈ ds, SeqAt.shaped d = true
section
variable {T : List (Addr × Str)} {g p : Addr} {B H H1 : Hp} {ys : List V} {ds : List PyData} {n m : Nat}
theorem VS.less (S : VS K T g p B H ys ds n) (h : m ≤ n) : VS K T g p B H ys ds m := ⟨S.ex, S.at_, S.da, S.bag.less h, S.tab, S.ne, S.len, S.sh⟩
theorem VS.d (S : VS K T g p B H ys ds n) (e : Ex (del H g) (del H1 g)) (b : BagAt H1 g m) : VS K T g p B H1 ys ds m := by
  obtain ⟨d, s, c, hg, _⟩ := S.bag
  have z : Ex (del (Wb g H) p) (del (Wb g H1) p) := ex_del (w_del e)
  exact ⟨S.ex.trans z, del_at e S.at_ S.ne, dps_ex z S.da, b, tabs_del S.tab hg e, S.ne, S.len, S.sh⟩
theorem VS.set (S : VS K T g p B H ys ds n) {z : V} {d : PyData} (hz : Dp K (del (Wb g H) p) z d) (hd : SeqAt.shaped d = true) (j : Nat) : VS K T g p B (upd H p (.lst (ys.set j z))) (ys.set j z) (ds.set j d) n := by
  have e : Ex (del (Wb g H) p) (del (Wb g (upd H p (.lst (ys.set j z)))) p) := fun b u h => by
    by_cases c : b = p
    · rw [c, del_same] at h
      cases h
    · rw [del_ne c] at h ⊢
      obtain ⟨h1, h2, h3⟩ := w_of h
      exact w_at (by rw [upd_ne c]; exact h1) h2 h3
  obtain ⟨b1, b2, b3, hg, r⟩ := S.bag
  refine ⟨S.ex.trans e, upd_same, dps_ex e (dps_set hz j S.da), ⟨b1, b2, b3, by rw [upd_ne S.ne.symm]; exact hg, r⟩, fun t ht => ?_, S.ne, by rw [List.length_set]; exact S.len, fun x hx => ?_⟩
  · obtain ⟨ps, h1, h2, h3⟩ := S.tab t ht
    have n1 : t.1 ≠ p := fun z2 => by
      rw [z2, S.at_] at h1
      cases h1
    refine ⟨ps, by rw [upd_ne n1]; exact h1, h2, fun pos cv hc => ?_⟩
    obtain ⟨c, e1, e2⟩ := h3 pos cv hc
    have n2 : c ≠ p := fun z2 => by
      rw [z2, S.at_] at e2
      unfold CodeO at e2
      cases e2
    exact ⟨c, e1, by rw [upd_ne n2]; exact e2⟩
  · rcases List.mem_or_eq_of_mem_set hx with h | h
    · exact S.sh x h
    · rw [h]
      exact hd
/-- the bending is over -/
theorem VS.ls (S : VS K T g p B H ys ds n) : LS T g (Wb g H) H n := ⟨Ex.refl _, S.bag, S.tab⟩
theorem VS.up (S : VS K T g p B H ys ds n) : Ex B (Wb g H) := S.ex.trans ex_del_self
end
theorem dps_three {H : Hp} {ys : List V} {ds : List PyData} (h : DpAll K H ys ds) (hl : ds.length = 3) : ∃ y0 y1 y2 d0 d1 d2, ys = [y0, y1, y2] ∧ ds = [d0, d1, d2] ∧ Dp K H y0 d0 ∧ Dp K H y1 d1 ∧ Dp K H y2 d2 := by
  match ys, ds, h, hl with
  | _, [d0, d1, d2], .cons h0 (.cons h1 (.cons h2 .nil)), _ => exact ⟨_, _, _, _, _, _, rfl, rfl, h0, h1, h2⟩
theorem odd_shaped : ∀ d ∈ oddL, SeqAt.shaped d = true := by
  have z : oddL.all SeqAt.shaped = true := by decide +kernel
  exact fun d hd => List.all_eq_true.mp z d hd
theorem good_due {h : Str} {e : Int} (hh : h ∈ [("off" : Str), "partial", "all"]) (e0 : 0 ≤ e) (e1 : e < 10) : dueP (.str h) (.int e) (.int 0) = none := by
  have z0 : holdD (.str h) = true := by
    simp only [List.mem_cons, List.not_mem_nil, or_false] at hh
    rcases hh with rfl | rfl | rfl <;> decide +kernel
  have z1 : betwD (.int e) 0 9 = true := by
    show (decide (0 ≤ e) && decide (e ≤ 9)) = true
    rw [decide_eq_true e0, decide_eq_true (by omega)] <;> rfl
  unfold dueP
  rw [if_pos z0, if_pos z1, if_pos (by decide)]
theorem hold_shaped {h : Str} (hh : h ∈ [("off" : Str), "partial", "all"]) : SeqAt.shaped (.str h) = true := by
  simp only [List.mem_cons, List.not_mem_nil, or_false] at hh
  rcases hh with rfl | rfl | rfl <;> decide +kernel
theorem due_lay {d0 d1 d2 : PyData} : ∀ nm, dueP d0 d1 d2 = some nm → (PyData.str nm).canLay0 = true := fun nm h => by
  unfold dueP at h
  split at h
  · split at h
    · split at h
      · cases h
      · cases h
        decide +kernel
    · cases h
      decide +kernel
  · cases h
    decide +kernel
theorem dueS_lay {dw : PyData} {bs : List Bool} : ∀ nm, dueS dw bs = some nm → (PyData.str nm).canLay0 = true := fun nm h => by
  unfold dueS at h
  split at h
  · split at h
    · cases h
      decide +kernel
    · cases h
  · cases h
    decide +kernel
theorem new_w1 {g : Addr} {H H1 : Hp} (hg : ∃ o, H g = some o) : Ex (nt (newIn H1 H)) (Wb g H1) := by
  obtain ⟨o, h⟩ := hg
  exact (new_w ⟨o, h⟩ h).trans ex_del_self
theorem bag_some {H : Hp} {g : Addr} {n : Nat} (b : BagAt H g n) : ∃ o, H g = some o := by
  obtain ⟨_, _, _, h, _⟩ := b
  exact ⟨_, h⟩
def dueL (wide b : Bool) : Option Str := if (wide && !b) = true then some ("policies" : Str) else if wide = true then none else some ("size" : Str)
theorem dueS_1 {dw : PyData} {b : Bool} : dueS dw [b] = dueL (sizeOk dw) b := by
  unfold dueS dueL
  cases sizeOk dw <;> cases b <;> rfl
theorem dueS_2 {dw : PyData} {b : Bool} : dueS dw [true, b] = dueL (sizeOk dw) b := by
  unfold dueS dueL
  cases sizeOk dw <;> cases b <;> rfl
theorem dueS_3 {dw : PyData} : dueS dw [true, true, true] = dueL (sizeOk dw) false := by
  unfold dueS dueL
  cases sizeOk dw <;> rfl
theorem polC_same {h : Str} {e q : Int} : polC h e q h e q = true := by
  unfold polC
  rw [decide_eq_true rfl, decide_eq_true rfl, decide_eq_true rfl] <;> rfl
theorem pol_w {CP x g : Addr} {H : Hp} {n : Nat} {h : Str} {e q : Int} (b : BagAt H g n) (p : PolAt CP H x h e q) : PolAt CP (Wb g H) x h e q := by
  obtain ⟨dx, hx⟩ := p
  obtain ⟨_, _, _, hg, _⟩ := b
  exact ⟨dx, w_at hx (fun z => by
    rw [z, hg] at hx
    cases hx) (fun ps z => nomatch z)⟩
/-- other == one -/
theorem rv_one {mg : Str → Option Value} {CP x1 : Addr} {H : Hp} {yo : V} {b : Bool} {h : Str} {e : Int} (TP : Pol K mg CP) (NK : NoKit K CP) (hp : PolAt CP H x1 h e 0) (ho : (b = true ∧ yo = .ref x1) ∨ (b = false ∧ ∃ d, Dp K H yo d)) :
    RV (fun x y H Q => rEqO K CP (spPEq K CP) x y H Q ∨ rEqR K CP (spPEq K CP) x y H Q) yo (.ref x1) H (.bl b) := fun H1 ex Q k => by
  obtain ⟨dx, hx⟩ := hp.ex ex
  rcases ho with ⟨rfl, rfl⟩ | ⟨rfl, d, hd⟩
  · exact Or.inl ⟨x1, dx, _, rfl, hx, ⟨.ref CP, TP.k.ty hx, by simp [PySem.W.notFirst]⟩, x1, .ref x1, h, e, 0, true, rfl, ⟨dx, hx⟩, Or.inl ⟨x1, h, e, 0, rfl, ⟨dx, hx⟩, polC_same.symm⟩, fun H2 x2 => ⟨_, rfl, k H2 x2⟩⟩
  · exact Or.inr ⟨x1, dx, _, d, rfl, hx, dp_ex ex hd, x1, yo, h, e, 0, false, rfl, ⟨dx, hx⟩, Or.inr ⟨rfl, _, fun H2 x2 => dp_ty (dp_ex (ex.trans x2) hd), NK.no d⟩, fun H2 x2 => ⟨_, rfl, k H2 x2⟩⟩
theorem itm_1 {CP : Addr} {H : Hp} {v : V} {b : Bool} (h : Itm K CP H v b) : ∀ (i : Nat) (v' : V) (b' : Bool), [v][i]? = some v' → [b][i]? = some b' → Itm K CP H v' b'
  | 0, _, _, h1, h2 => by
    cases h1
    cases h2
    exact h
  | i + 1, _, _, h1, _ => by simp at h1
theorem itm_2 {CP : Addr} {H : Hp} {v v2 : V} {b b2 : Bool} (h : Itm K CP H v b) (h' : Itm K CP H v2 b2) : ∀ (i : Nat) (v' : V) (b' : Bool), [v, v2][i]? = some v' → [b, b2][i]? = some b' → Itm K CP H v' b'
  | 0, _, _, h1, h2 => by
    cases h1
    cases h2
    exact h
  | i + 1, _, _, h1, h2 => itm_1 h' i _ _ h1 h2
theorem itm_3 {CP : Addr} {H : Hp} {v v2 v3 : V} {b b2 b3 : Bool} (h : Itm K CP H v b) (h' : Itm K CP H v2 b2) (h'' : Itm K CP H v3 b3) : ∀ (i : Nat) (v' : V) (b' : Bool), [v, v2, v3][i]? = some v' → [b, b2, b3][i]? = some b' → Itm K CP H v' b'
  | 0, _, _, h1, h2 => by
    cases h1
    cases h2
    exact h
  | i + 1, _, _, h1, h2 => itm_2 h' h'' i _ _ h1 h2
end
end Lw

namespace Lw
open PySem PySem.Spec PyProof.Rows L2 Evl L3 LamX ClX
abbrev sLaw : Stmt := top 26
section
variable {P : Program} {w : World} {K : PySem.W.Frag} {mg : Str → Option Value} {base : Heap}
theorem rc_min {H : Hp} {i j : Int} : RC (fun xs H Q => ∃ i j, xs = [V.int i, V.int j] ∧ Q (.int (if j < i then j else i)) H) [.int i, .int j] H (.int (if j < i then j else i)) := fun H1 e Q q => ⟨i, j, rfl, q H1 (Ex.refl H1)⟩
theorem rc_max {H : Hp} {i j : Int} : RC (fun xs H Q => ∃ i j, xs = [V.int i, V.int j] ∧ Q (.int (if j > i then j else i)) H) [.int i, .int j] H (.int (if j > i then j else i)) := fun H1 e Q q => ⟨i, j, rfl, q H1 (Ex.refl H1)⟩
theorem bPe {f : Addr} {fd : FuncData} (F : FunD K "__init__" "Policy.__init__" (defArgs sPI) (defBody sPI) (defScope sPI) [.str "all"] [("every", .int 2), ("quick", .int 0)] f fd) : ∃ g, KBn K fd PIps 2 ["every"] g (fun vs zs => vs ++ (zs ++ [.int 0])) := by
  obtain ⟨its, mv, h⟩ := F.kbinds (ps := PIps) 2 ["every"] [("quick", .int 0)] (fun us ds mz ws => us ++ (ws ++ mz)) (by simp) (by simp) (fun q hq => by simp at hq; simp [hq]) (fun a _ c d => a.append (d.append c)) (fun T D doc pm an cdv ct us its mv ws h1 h2 h3 h4 => by
    match us, its, mv, ws, h1, h2, h3, h4 with
    | [a, b], [c], [m], [d], _, _, _, _ => exact ⟨_, rfl, _, _, _, _, _, _, rfl, rfl, rfl⟩)
  exact ⟨_, h⟩
abbrev nLa : List Str := ["_law_script", "_law_at", "_law_bag_here", "_law_good", "_law_step", "_law_place", "_law_due_here", "_law_is_wide", "_law_is_one", "_law_one", "_law_other", "_law_values", "_law_width"]
theorem scLa : FnScope nLa ["_law_script"] (defScope sLaw) := ⟨rfl, rfl, rfl, by decide +kernel, rfl, by decide +kernel, by decide +kernel⟩
abbrev qLam : Str := (envOfC "law" (defScope sLaw) 0 0 (.ref 0)).qual ++ "<lambda>"
def spLaw (K : PySem.W.Frag) (Pt : Addr) : Sp := fun vs H Q _ => ∃ (a : Addr) (ns : List Int), vs = [.ref a] ∧ SqL K H a (ns.map V.int) ∧ ns.length ≤ 63 ∧ H Pt = some (.tbl #[]) ∧ ∀ H', Q (.bl true) H'
theorem ok_law {f c Pt fB fT fO fW fD fR fI fJ fE CP CS CB : Addr} {fdB fdT fdO fdW fdD fdR fdI fdE : FuncData} {oc kV dc pm ct : Value} {od an : Option Addr} {sl : Array (Option Value)}
    (lk : K.lookup f = some ⟨oc, od, .func (PySem.W.fnOf "law" "law" (defArgs sLaw) (defBody sLaw) (defScope sLaw) .none kV dc pm an (.ref c) ct), sl⟩) (hcd : PySem.W.codeIn K (.ref c) "law" = true) (TB : TabB base mg c Pt) (T : Txt K mg) (hLi : mg "list" = none)
    (FB : Fun K "_law_bag" "_law_bag" sBag fB fdB) (bB : Binds K fdB ["_law_script", "_law_at"] []) (gB : mg "_law_bag" = some (.ref fB)) (GB : FnOk P w K mg base CX0 1 fB fdB ["_law_script", "_law_at"] (spBag K))
    (FT : Fun K "_law_take" "_law_take" sTake fT fdT) (bT : Binds K fdT ["_law_bag_here", "_law_many"] []) (gT : mg "_law_take" = some (.ref fT)) (GT : FnOk P w K mg base CX0 1 fT fdT ["_law_bag_here", "_law_many"] spTake)
    (FO : Fun K "_law_odd" "_law_odd" sOdd fO fdO) (bO : Binds K fdO ["_law_bag_here"] []) (gO : mg "_law_odd" = some (.ref fO)) (GO : FnOk P w K mg base CX0 2 fO fdO ["_law_bag_here"] (spOdd K))
    (FW : Fun K "_law_within" "_law_within" sWith fW fdW) (bW : Binds K fdW ["_law_value", "_law_low", "_law_high"] []) (gW : mg "_law_within" = some (.ref fW)) (GW : FnOk P w K mg base CX0 1 fW fdW ["_law_value", "_law_low", "_law_high"] (spBetw K))
    (FD : Fun K "_law_due" "_law_due" sDue fD fdD) (bD : Binds K fdD ["_law_values"] []) (gD : mg "_law_due" = some (.ref fD)) (GD : FnOk P w K mg base CX0 2 fD fdD ["_law_values"] (spDue K))
    (FR : Fun K "_law_right" "_law_right" sRight fR fdR) (bR : Binds K fdR ["_law_call", "_law_due_here"] []) (gR : mg "_law_right" = some (.ref fR)) (GR : FnC P w K mg base 8 11 fR fdR ["_law_call", "_law_due_here"] (spRight CB))
    (TP : Pol K mg CP) (MP : Mk K CP fI) (FI : FunD K "__init__" "Policy.__init__" (defArgs sPI) (defBody sPI) (defScope sPI) [.str "all"] [("every", .int 2), ("quick", .int 0)] fI fdI) (GI : FnOk P w K mg base (L2.CX P w) 3 fI fdI PIps (spPI K CP CB))
    (TS : Stg K mg CS) (MS : Mk K CS fJ) (GJ : FnR P w K mg base (L2.CX P w) 6 fJ (fun vs H Q E => ∃ ws rest, vs = ws ++ rest ∧ ws.length = 2 ∧ rest.length ≤ sizeLine ∧ ∀ p, H p = none → spSI0 K CS CP CB (ws ++ [V.ref p]) (upd H p (.tup rest)) Q E))
    (SE : Spm K CP "__eq__" fE) (NB : NoBase K CP) (NK : NoKit K CP) (bE : Binds K fdE ["self", "other"] []) (GE : FnOk P w K mg base CX0 1 fE fdE ["self", "other"] (spPEq K CP)) :
    FnOk P w K mg base CX0 12 f (PySem.W.fnOf "law" "law" (defArgs sLaw) (defBody sLaw) (defScope sLaw) .none kV dc pm an (.ref c) ct) ["_law_script"] (spLaw K Pt) := by
  obtain ⟨gP3, bI3⟩ := bP3 FI
  obtain ⟨gPe, bIe⟩ := bPe FI
  refine fn_of lk hcd scLa (fun vs H Q E h => ?_) (fun A outer s H vs Q E hr h => ?_)
  · obtain ⟨a, ns, rfl, _⟩ := h
    rfl
  · obtain ⟨a, ns, rfl, hs, hl, hP, k⟩ := h
    have hr1 : Room 1 _ := hr.mono (by decide)
    have hr2 : Room 2 _ := hr.mono (by decide)
    have hr4 : Room 4 _ := hr.mono (by decide)
    have hu : ∀ p ∈ [(Pt, qLam)], p.1 = Pt → p.2 = qLam := fun p hp _ => by
      rw [List.mem_singleton.mp hp]
    refine ⟨_, PSs.nox (X := cxOf CX0 P w K mg base nLa "law" (defScope sLaw) f (.ref c) A outer s H E) (pss_cons (ps_for PassesOwn.never rfl (pi_range1 rfl T.range (pa_cons (pe_callB (call_max2 rfl) (by rfl) T.max PyProof.Rows.boot_max (pa_cons pe_int (pa_cons (pe_callB (call_min2 rfl) (by rfl) T.min PyProof.Rows.boot_min (pa_cons pe_int (pa_cons (pe_callB call_len_seq (by rfl) T.len PySem.boot_len (pa_cons (pv 0) pa_nil)) pa_nil))) pa_nil))) pa_nil)) (pg_name (i := 1) scLa.nd rfl (Or.inl rfl))
      (pss_cons (ps_set (i := 2) scLa.nd rfl (Or.inl rfl) (pe_call GB hr1 rfl gB FB.kp bB .nil pass0 (pa_cons (pv 0) (pa_cons (pv 1) pa_nil))))
      (pss_cons (ps_set (i := 3) scLa.nd rfl (Or.inl rfl) (pe_lst (pa_cons (pe_ix ix_list (pe_lst (pa_cons pe_str (pa_cons pe_str (pa_cons pe_str pa_nil)))) (pe_call GT hr1 rfl gT FT.kp bT .nil pass0 (pa_cons (pv 2) (pa_cons pe_int pa_nil))) (fun _ _ => rfl))
          (pa_cons (pe_call GT hr1 rfl gT FT.kp bT .nil pass0 (pa_cons (pv 2) (pa_cons pe_int pa_nil))) (pa_cons (pe_call GT hr1 rfl gT FT.kp bT .nil pass0 (pa_cons (pv 2) (pa_cons pe_int pa_nil))) pa_nil)))))
      (pss_one (ps_for PassesOwn.never rfl (pi_range1 rfl T.range (pa_cons pe_int pa_nil)) (pg_name (i := 4) scLa.nd rfl (Or.inl rfl))
        (pss_cons (ps_set (i := 11) scLa.nd rfl (Or.inr rfl) (pe_callTy call_list_of (by rfl) hLi (by decide +kernel) (pa_cons (pv 3) pa_nil)))
        (pss_cons (ps_for PassesOwn.never rfl (pi_range1 rfl T.range (pa_cons (pe_op op_add pe_int (pe_call GT hr1 rfl gT FT.kp bT .nil pass0 (pa_cons (pv 2) (pa_cons pe_int pa_nil)))) pa_nil)) (pg_name (i := 5) scLa.nd rfl (Or.inl rfl))
          (pss_one (ps_asg (pe_call GO hr2 rfl gO FO.kp bO .nil pass0 (pa_cons (pv 2) pa_nil)) (pg_sub (pv 11) (pe_call GT hr1 rfl gT FT.kp bT .nil pass0 (pa_cons (pv 2) (pa_cons pe_int pa_nil))) set_list))))
        (pss_cons (ps_set (i := 6) scLa.nd rfl (Or.inl rfl) (pe_call GD hr2 rfl gD FD.kp bD .nil pass0 (pa_cons (pv 11) pa_nil)))
        (pss_cons (ps_if (pt_not (pt_val (pe_lamC (T := [(Pt, qLam)]) (t := fun E => tMakeK CP 1 2 (spPI K CP CB) (fun vs zs => vs ++ zs) E (tCons (tOp (rIxL K) (tVar 11) (tC (.int 0))) tNil) (tCons (tOp (rIxL K) (tVar 11) (tC (.int 1))) (tCons (tOp (rIxL K) (tVar 11) (tC (.int 2))) tNil)))
            GR hr rfl gR FR.kp bR rfl rfl TB rfl List.mem_cons_self hu (lamS_by (sc := defScope sLaw) (by decide +kernel)) rfl (fun _ _ _ _ _ => rfl)
            (fun A2 o2 s2 H2 E2 f2 c2 hrL => by exact pe_makeK (x := "Policy") (n := 1) (ks := ["every", "quick"]) (X := lamCx (cxOf CX0 P w K mg base nLa "law" (defScope sLaw) f (.ref c) A outer s H E).nox A2 o2 s2 H2 E2 _ f2 c2) MP GI (hrL.mono (by decide)) rfl TP.hm bI3 (passes_call (takes_of rfl rfl rfl rfl) fun _ _ _ _ z => z) (pa_cons (pe_ix ix_list (pv 11) pe_int (fun _ _ => rfl)) pa_nil) (pk_cons (pe_ix ix_list (pv 11) pe_int (fun _ _ => rfl)) (pk_cons (pe_ix ix_list (pv 11) pe_int (fun _ _ => rfl)) pk_nil))) (pa_cons (pv 6) pa_nil))))
          (pss_one (ps_ret pe_bl)) pss_nil)
        (pss_cons (ps_set (i := 12) scLa.nd rfl (Or.inr rfl) (pe_ix ix_list (pe_lst (pa_cons (pe_call GO hr2 rfl gO FO.kp bO .nil pass0 (pa_cons (pv 2) pa_nil)) (pa_cons (pe_op op_add pe_int (pe_call GT hr1 rfl gT FT.kp bT .nil pass0 (pa_cons (pv 2) (pa_cons pe_int pa_nil)))) pa_nil)))
            (pe_call GT hr1 rfl gT FT.kp bT .nil pass0 (pa_cons (pv 2) (pa_cons pe_int pa_nil))) (fun _ _ => rfl)))
        (pss_cons (ps_set (i := 9) scLa.nd rfl (Or.inr rfl) (pe_makeK MP GI hr4 rfl TP.hm bIe passE (pa_cons (pe_ix ix_list (pv 3) pe_int (fun _ _ => rfl)) pa_nil) (pk_cons (pe_ix ix_list (pv 3) pe_int (fun _ _ => rfl)) pk_nil)))
        (pss_cons (ps_set (i := 10) scLa.nd rfl (Or.inr rfl) (pe_ix ix_list (pe_lst (pa_cons (pv 9) (pa_cons (pe_call GO hr2 rfl gO FO.kp bO .nil pass0 (pa_cons (pv 2) pa_nil)) (pa_cons (pe_lst (pa_cons pe_int pa_nil)) (pa_cons (pe_tup (pa_cons pe_str (pa_cons pe_int (pa_cons pe_int pa_nil)))) pa_nil)))))
            (pe_call GT hr1 rfl gT FT.kp bT .nil pass0 (pa_cons (pv 2) (pa_cons pe_int pa_nil))) (fun _ _ => rfl)))
        (pss_cons (ps_par (i := 7) (j := 8) rfl scLa.nd rfl rfl (by decide) rfl rfl (pa_cons (pe_call GW hr1 rfl gW FW.kp bW .nil pass0 (pa_cons (pv 12) (pa_cons pe_int (pa_cons (pe_op op_pow pe_int pe_int) pa_nil)))) (pa_cons (pe_cmpR (op_eqB SE NB GE bE pass0 hr1) (pv 10) (pv 9) (nomark _)) pa_nil)) (by rfl))
        (pss_cons (ps_set (i := 6) scLa.nd rfl (Or.inl rfl) (pe_ifExp (PW.pt (pw_and (pt_val (pv 7)) (pw_and1 (pt_not (pt_val (pv 8)))))) pe_str (pe_ifExp (pt_val (pv 7)) pe_non pe_str)))
        (pss_cons (ps_if (pt_not (pt_val (pe_lamC (T := [(Pt, qLam)])
            GR hr rfl gR FR.kp bR rfl rfl TB rfl List.mem_cons_self hu (lamS_by (sc := defScope sLaw) (by decide +kernel)) rfl (fun _ _ _ _ _ => rfl)
            (fun A2 o2 s2 H2 E2 f2 c2 hrL => by exact StX.pe_makeR (X := lamCx (cxOf CX0 P w K mg base nLa "law" (defScope sLaw) f (.ref c) A outer s H E).nox A2 o2 s2 H2 E2 _ f2 c2) MS GJ (hrL.mono (by decide)) rfl TS.hm (passes_call (takes_of rfl rfl rfl rfl) fun _ _ _ _ z => z) (pa_cons (pv 12) (pa_cons (pv 10) pa_nil))) (pa_cons (pv 6) pa_nil)))) (pss_one (ps_ret pe_bl)) pss_nil)
        (pss_cons (ps_if (pt_not (pt_val (pe_lamC (T := [(Pt, qLam)])
            GR hr rfl gR FR.kp bR rfl rfl TB rfl List.mem_cons_self hu (lamS_by (sc := defScope sLaw) (by decide +kernel)) rfl (fun _ _ _ _ _ => rfl)
            (fun A2 o2 s2 H2 E2 f2 c2 hrL => by exact StX.pe_makeR (X := lamCx (cxOf CX0 P w K mg base nLa "law" (defScope sLaw) f (.ref c) A outer s H E).nox A2 o2 s2 H2 E2 _ f2 c2) MS GJ (hrL.mono (by decide)) rfl TS.hm (passes_call (takes_of rfl rfl rfl rfl) fun _ _ _ _ z => z) (pa_cons (pv 12) (pa_cons (pv 9) (pa_cons (pv 10) pa_nil)))) (pa_cons (pv 6) pa_nil)))) (pss_one (ps_ret pe_bl)) pss_nil)
        (pss_cons (ps_set (i := 6) scLa.nd rfl (Or.inl rfl) (pe_ifExp (pt_val (pv 7)) pe_str pe_str))
        (pss_one (ps_if (pt_not (pt_val (pe_lamC (T := [(Pt, qLam)])
            GR hr rfl gR FR.kp bR rfl rfl TB rfl List.mem_cons_self hu (lamS_by (sc := defScope sLaw) (by decide +kernel)) rfl (fun _ _ _ _ _ => rfl)
            (fun A2 o2 s2 H2 E2 f2 c2 hrL => by exact StX.pe_makeR (X := lamCx (cxOf CX0 P w K mg base nLa "law" (defScope sLaw) f (.ref c) A outer s H E).nox A2 o2 s2 H2 E2 _ f2 c2) MS GJ (hrL.mono (by decide)) rfl TS.hm (passes_call (takes_of rfl rfl rfl rfl) fun _ _ _ _ z => z) (pa_cons (pv 12) (pa_cons (pv 9) (pa_cons (pv 9) (pa_cons (pv 9) pa_nil))))) (pa_cons (pv 6) pa_nil)))) (pss_one (ps_ret pe_bl)) pss_nil)))))))))))))))))))
      (pss_one (ps_ret pe_bl))), ?_⟩
    obtain ⟨M, hM2⟩ : ∃ M : Int, M = (if (if (ns.length : Int) < 8 then (ns.length : Int) else 8) > 2 then (if (ns.length : Int) < 8 then (ns.length : Int) else 8) else 2) := ⟨_, rfl⟩
    have hM8 : 0 ≤ M ∧ M ≤ 8 := by
      rw [hM2]
      split <;> split <;> omega
    have evl : Ev (tCB (rLenS K) (tCons (tVar 0) tNil)) (start nLa [V.ref a]) H (.int (ns.length : Int)) := by
      have z := ev_len (K := K) (σ := start nLa [V.ref a]) (H := H) (ta := tVar 0) (ev_var rfl) hs
      rw [List.length_map] at z
      exact z
    have tab0 : Tabs [(Pt, qLam)] H := fun p hp => by
      rw [List.mem_singleton.mp hp]
      exact .nil hP
    refine q_forR1 (n := M) (ea_cons (ev_is (ev_cb (ea_cons ev_c (ea_cons (ev_cb (ea_cons ev_c (ea_cons evl ea_nil)) rc_min) ea_nil)) rc_max) (congrArg V.int hM2.symm)) ea_nil) (by omega)
      (fun i σ' H' => ∃ o1 o2 o3 o4 o5 o6 o7 o8 o9 o10 o11 o12 : Option V, σ' = [some (.ref a), o1, o2, o3, o4, o5, o6, o7, o8, o9, o10, o11, o12] ∧ Ex (nt H) (nt H') ∧ Tabs [(Pt, qLam)] H')
      (fun H1 e1 => ⟨_, _, _, _, _, _, _, _, _, _, _, _, rfl, nt_ex e1, tab0.ext fun b o h => e1 b o h⟩) ?_ ?_
    · rintro i σ' H' hi ⟨o1, o2, o3, o4, o5, o6, o7, o8, o9, o10, o11, o12, rfl, e0, tab⟩
      refine ⟨_, rfl, _, rfl, a, ns, i, rfl, ex_l (e0.trans nt_sub) (sql_nt hs), by omega, fun g H1 hg0 e1 b1 => ?_⟩
      have S1 : LS [(Pt, qLam)] g (nt H') H1 100000000000 := ⟨fun b u h => by
        obtain ⟨h1, h2⟩ := nt_iff.mp h
        have z := e1 b u h1
        have nb : b ≠ g := fun z2 => by
          rw [z2, del_same] at z
          cases z
        rw [del_ne nb] at z
        exact w_at z nb h2, b1, tab.ext fun b o h => ex_del_self _ _ (e1 b o h)⟩
      -- good
      refine ⟨by show 3 ≤ sizeLine; decide, fun l hl => ?_⟩
      have S2 := (S1.less (m := 3001) (by decide)).e (Ex.new (o := .lst [.str "off", .str "partial", .str "all"]) hl)
      have nlg : l ≠ g := bag_ne b1 hl
      refine take_go (n := 3000) (ev_var rfl) ev_c S2.bag (by decide) (by decide) fun r1 H2 r10 r11 x2 b2 => ?_
      have S3 := S2.d x2 b2
      obtain ⟨vh, hvh, hmh⟩ := atI_mem (xs := [.str "off", .str "partial", .str "all"]) (r := r1) r10 (by show r1 < 3; omega)
      refine ⟨l, _, r1, vh, rfl, rfl, sq_of (del_at x2 upd_same nlg), hvh, ?_⟩
      obtain ⟨h, rfl, hh⟩ : ∃ h : Str, vh = .str h ∧ h ∈ [("off" : Str), "partial", "all"] := by
        simp only [List.mem_cons, List.not_mem_nil, or_false] at hmh
        rcases hmh with rfl | rfl | rfl
        · exact ⟨_, rfl, by simp⟩
        · exact ⟨_, rfl, by simp⟩
        · exact ⟨_, rfl, by simp⟩
      refine take_go (n := 2999) (ev_var rfl) ev_c b2 (by decide) (by decide) fun e H3 e10 e11 x3 b3 => ?_
      have S4 := S3.d x3 b3
      refine take_go (n := 2998) (ev_var rfl) ev_c b3 (by decide) (by decide) fun q H4 q10 q11 x4 b4 => ?_
      have S5 := S4.d x4 b4
      refine ⟨by show 3 ≤ sizeLine; decide, fun pg hpg => ?_⟩
      have S6 := S5.e (Ex.new (o := .lst [.str h, .int e, .int q]) hpg)
      have npg : pg ≠ g := bag_ne b4 hpg
      have B0 : Wb g (upd H4 pg (.lst [.str h, .int e, .int q])) pg = some (.lst [.str h, .int e, .int q]) := w_at upd_same npg (fun ps z => nomatch z)
      refine s_forR1 (n := 6) (ea_cons ev_c ea_nil) (by omega)
        (fun st σ' Hx => ∃ o4 o5 o6 o7 o8 o9 o10 o11 o12 : Option V, σ' = [some (.ref a), some (.int (i : Int)), some (.ref g), some (.ref pg), o4, o5, o6, o7, o8, o9, o10, o11, o12] ∧ LS [(Pt, qLam)] g (Wb g (upd H4 pg (.lst [.str h, .int e, .int q]))) Hx (2998 - 100 * st))
        (fun H6 e6 => ⟨_, _, _, _, _, _, _, _, _, rfl, S6.re.e e6⟩) ?_ ?_
      · rintro st σ' Hx hst ⟨o4, o5, o6, o7, o8, o9, o10, o11, o12, rfl, S⟩
        have hst6 : st < 6 := by omega
        have hpgx : Hx pg = some (.lst [.str h, .int e, .int q]) := S.up _ _ B0
        -- values
        refine ⟨_, rfl, pg, _, rfl, Or.inl (sq_of hpgx), fun p hp => ?_⟩
        have npp : p ≠ g := bag_ne S.bag hp
        have enp := Ex.new (o := .lst [.str h, .int e, .int q]) hp
        have SP := S.e enp
        have V0 : VS K [(Pt, qLam)] g p (Wb g Hx) (upd Hx p (.lst [.str h, .int e, .int q])) [.str h, .int e, .int q] [.str h, .int e, .int q] (2998 - 100 * st) := ⟨fun b u hb => by
            obtain ⟨h1, h2, h3⟩ := w_of hb
            have nb : b ≠ p := ne_of_none h1 hp
            rw [del_ne nb]
            exact w_at (enp _ _ h1) h2 h3, upd_same, .cons (.str h) (.cons (.int e) (.cons (.int q) .nil)), SP.bag, SP.tab, npp, rfl, fun d hd => by
            simp only [List.mem_cons, List.not_mem_nil, or_false] at hd
            rcases hd with rfl | rfl | rfl
            · exact hold_shaped hh
            · rfl
            · rfl⟩
        refine take_go (n := 2998 - 100 * st - 1) (ev_var rfl) ev_c (V0.bag.less (by omega)) (by decide) (by decide) fun r7 Hc r70 r71 x7 b7 => ?_
        refine ⟨_, _, rfl, rfl, ?_⟩
        have V1 := V0.d x7 b7
        refine ⟨1 + r7, rfl, by omega, by omega, for_range (lo := 0) (n := (1 + r7).toNat)
          (fun j σ' Hy => ∃ (u5 : Option V) (ys : List V) (ds : List PyData), σ' = [some (.ref a), some (.int (i : Int)), some (.ref g), some (.ref pg), some (.int (st : Int)), u5, o6, o7, o8, o9, o10, some (.ref p), o12] ∧ VS K [(Pt, qLam)] g p (Wb g Hx) Hy ys ds (2998 - 100 * st - 1 - 2 * j))
          ⟨_, _, _, rfl, V1⟩ ?_ ?_⟩
        · rintro j σ' Hy hj ⟨u5, ys, ds, rfl, VV⟩
          have hj3 : j < 3 := by omega
          refine ⟨_, rfl, g, 2998 - 100 * st - 1 - 2 * j - 1, rfl, VV.bag.less (by omega), fun z d Hz hd xz hz bz => ?_⟩
          have Vz := VV.d xz bz
          obtain ⟨b1', b2', b3', hgy, _⟩ := VV.bag
          have dz : Dp K (del (Wb g Hz) p) z d := dp_ex (new_w ⟨_, hgy⟩ VV.at_) (dp_nt hz)
          refine ⟨_, rfl, ?_⟩
          refine take_go (n := 2998 - 100 * st - 1 - 2 * j - 2) (ev_var rfl) ev_c (bz.less (by omega)) (by decide) (by decide) fun wj Hw w0 w1 xw bw => ?_
          have Vw := Vz.d xw bw
          obtain ⟨jj, rfl⟩ : ∃ jj : Nat, wj = (jj : Int) := ⟨wj.toNat, by omega⟩
          have hly : ys.length = 3 := by rw [dps_len' VV.da, VV.len]
          refine ⟨p, ys, (jj : Int), jj, rfl, rfl, Vw.at_, ixN_nat (by omega), ?_⟩
          exact ⟨_, _, _, rfl, (Vw.set (dp_ex (ex_del (w_del xw)) dz) (odd_shaped d hd) jj).less (by omega)⟩
        · rintro σ' Hy ⟨u5, ys, ds, rfl, VV⟩
          have V' := VV.less (m := 2950 - 100 * st) (by omega)
          obtain ⟨y0, y1, y2, d0, d1, d2, rfl, rfl, hy0, hy1, hy2⟩ := dps_three V'.da V'.len
          have dw : ∀ {y : V} {d : PyData}, Dp K (del (Wb g Hy) p) y d → Dp K (Wb g Hy) y d := fun h => dp_ex ex_del_self h
          have SL := V'.ls
          have hpw : Wb g Hy p = some (.lst [y0, y1, y2]) := w_at V'.at_ npp (fun ps z => nomatch z)
          have BX : Ex (Wb g (upd H4 pg (.lst [.str h, .int e, .int q]))) (Wb g Hy) := S.ex.trans V'.up
          -- due
          refine ⟨_, rfl, p, y0, y1, y2, d0, d1, d2, rfl, sq_of V'.at_, dp_ex w_sub (dw hy0), dp_ex w_sub (dw hy1), dp_ex w_sub (dw hy2), fun Ha ea => ?_⟩
          have SA := SL.e ea
          have ixv : ∀ {σ : L2.St} {HH : Hp} {j : Nat} {v : V}, σ[11]? = some (some (V.ref p)) → Ex (Wb g Hy) HH → [y0, y1, y2][j]? = some v → Ev (tOp (rIxL K) (tVar 11) (tC (.int (j : Int)))) σ HH v := fun h1 e2 h2 => ev_op (ev_var h1) ev_c (rv_ixL (sq_of (e2 _ _ hpw)) (atI_nat h2))
          refine q_lam (due := dueP d0 d1 d2) SA.tab rfl due_lay (fun Hb eb => ?_) fun Hb Hc eb tb ec => ?_
          · have eB : Ex (Wb g Hy) Hb := SA.ex.trans ((w_ext eb).trans w_sub)
            exact beh_pol (ea_cons (ixv (j := 0) rfl eB rfl) ea_nil) (ea_cons (ixv (j := 1) rfl eB rfl) (ea_cons (ixv (j := 2) rfl eB rfl) ea_nil)) (fun x => rfl) (dp_ex eB (dw hy0)) (dp_ex eB (dw hy1)) (dp_ex eB (dw hy2)) (V'.sh d0 List.mem_cons_self)
          have SC := (SA.t eb tb).e ec
          -- width
          refine ⟨_, rfl, g, 2950 - 100 * st - 1, rfl, SC.bag.less (by omega), fun zw dw0 Hd hdw xd hzw bd => ?_⟩
          have SD := SC.d xd bd
          have zwd : Dp K (Wb g Hd) zw dw0 := dp_ex (new_w1 (bag_some SC.bag)) (dp_nt hzw)
          refine take_go (n := 2950 - 100 * st - 2) (ev_var rfl) ev_c (bd.less (by omega)) (by decide) (by decide) fun r8 He r80 r81 xe be => ?_
          have SE1 := SD.d xe be
          refine ⟨_, _, rfl, rfl, ?_⟩
          refine ⟨by show 2 ≤ sizeLine; decide, fun lw hlw => ?_⟩
          have nlw : lw ≠ g := bag_ne be hlw
          have SE2 := SE1.e (Ex.new (o := .lst [zw, .int (1 + r8)]) hlw)
          refine take_go (n := 2950 - 100 * st - 3) (ev_var rfl) ev_c (SE2.bag.less (by omega)) (by decide) (by decide) fun r9 Hf r90 r91 xf bf => ?_
          have SF := SE2.d xf bf
          obtain ⟨yw, hyw, hmw⟩ := atI_mem (xs := [zw, .int (1 + r8)]) (r := r9) r90 (by show r9 < 2; omega)
          refine ⟨lw, _, r9, yw, rfl, rfl, sq_of (del_at xf upd_same nlw), hyw, ?_⟩
          obtain ⟨dw, hdF⟩ : ∃ dw, Dp K (Wb g Hf) yw dw := by
            simp only [List.mem_cons, List.not_mem_nil, or_false] at hmw
            rcases hmw with rfl | rfl
            · exact ⟨dw0, dp_ex (((w_del xe).trans (w_ex (Ex.new hlw))).trans (w_del xf)) zwd⟩
            · exact ⟨_, .int _⟩
          have BF := BX.trans SF.ex
          have hpgf : Hf pg = some (.lst [.str h, .int e, .int q]) := w_sub _ _ (BF _ _ B0)
          -- one
          have gn : ∀ {i : Nat} {v : L2.V} {σ : L2.St} {HH : Hp} {Q : L2.St → Hp → Prop}, Q (σ.set i (some v)) HH → gName i v σ HH Q := fun h => h
          refine gn ?_
          dsimp only
          show tSeq _ _ _ _ Hf
          refine q_polgood (h := h) (e := e) ?_ ?_ ?_ ?_ ?_ ?_ fun x1 Hg eg hx1 => ?_
          · exact ea_cons (ev_op (ev_var rfl) ev_c (rv_ixL (sq_of hpgf) (atI_nat (j := 0) rfl))) ea_nil
          · exact ea_cons (ev_op (ev_var rfl) ev_c (rv_ixL (sq_of hpgf) (atI_nat (j := 1) rfl))) ea_nil
          · rfl
          · exact fun x => rfl
          · exact good_due hh e10 e11
          · exact hold_shaped hh
          have RG := SF.re.e eg
          have hx1w := pol_w RG.bag hx1
          -- other
          refine ⟨_, rfl, ?_⟩
          refine ⟨_, rfl, g, 2950 - 100 * st - 4, rfl, RG.bag.less (by omega), fun zo do0 Hh hdo xh hzo bh => ?_⟩
          have RH := RG.d xh bh
          have zod : Dp K (Wb g Hh) zo do0 := dp_ex (new_w1 (bag_some RG.bag)) (dp_nt hzo)
          refine ⟨by show 1 ≤ sizeLine; decide, fun l2 hl2 => ⟨by show 3 ≤ sizeLine; decide, fun t3 ht3 => ⟨by show 4 ≤ sizeLine; decide, fun lo hlo => ?_⟩⟩⟩
          have n2 : l2 ≠ g := bag_ne RH.bag hl2
          have RI1 := RH.e (Ex.new (o := .lst [.int 2]) hl2)
          have n3 : t3 ≠ g := bag_ne RI1.bag ht3
          have RI2 := RI1.e (Ex.new (o := .tup [.str "all", .int 2, .int 0]) ht3)
          have nlo : lo ≠ g := bag_ne RI2.bag hlo
          have RI3 := RI2.e (Ex.new (o := .lst [.ref x1, zo, .ref l2, .ref t3]) hlo)
          refine take_go (n := 2950 - 100 * st - 5) (ev_var rfl) ev_c (RI3.bag.less (by omega)) (by decide) (by decide) fun r10 Hj r100 r101 xj bj => ?_
          have RJ := RI3.d xj bj
          have e2J := (w_ex (g := g) (Ex.new (o := .tup [.str "all", .int 2, .int 0]) ht3)).trans ((w_ex (g := g) (Ex.new (o := .lst [.ref x1, zo, .ref l2, .ref t3]) hlo)).trans (w_del xj))
          have eHJ := (w_ex (g := g) (Ex.new (o := .lst [.int 2]) hl2)).trans e2J
          have eGJ := (w_del xh).trans eHJ
          obtain ⟨yo, hyo, hmo⟩ := atI_mem (xs := [.ref x1, zo, .ref l2, .ref t3]) (r := r10) r100 (by show r10 < 4; omega)
          refine ⟨lo, _, r10, yo, rfl, rfl, sq_of (del_at xj upd_same nlo), hyo, ?_⟩
          have hx1j : PolAt CP (Wb g Hj) x1 h e 0 := hx1w.ex eGJ
          obtain ⟨b, hbo⟩ : ∃ b, (b = true ∧ yo = .ref x1) ∨ (b = false ∧ ∃ d, Dp K (Wb g Hj) yo d) := by
            simp only [List.mem_cons, List.not_mem_nil, or_false] at hmo
            rcases hmo with rfl | rfl | rfl | rfl
            · exact ⟨true, Or.inl ⟨rfl, rfl⟩⟩
            · exact ⟨false, Or.inr ⟨rfl, do0, dp_ex eHJ zod⟩⟩
            · exact ⟨false, Or.inr ⟨rfl, .list [.int 2], .lst (sq_of (e2J _ _ (w_at upd_same n2 (fun ps z => nomatch z)))) (.cons (.int 2) .nil)⟩⟩
            · exact ⟨false, Or.inr ⟨rfl, .tuple [.str "all", .int 2, .int 0], .tup (st_of (((w_ex (g := g) (Ex.new (o := .lst [.ref x1, zo, .ref l2, .ref t3]) hlo)).trans (w_del xj)) _ _ (w_at upd_same n3 (fun ps z => nomatch z)))) (.cons (.str "all") (.cons (.int 2) (.cons (.int 0) .nil)))⟩⟩
          have hdJ := dp_ex RJ.ex hdF
          have BJ := BF.trans RJ.ex
          have RK := RJ.re
          have itP : ∀ {HH : Hp}, Ex (Wb g Hj) HH → Itm K CP HH (.ref x1) true := fun ee => Or.inl ⟨rfl, x1, h, e, 0, rfl, hx1j.ex ee⟩
          have itO : ∀ {HH : Hp}, Ex (Wb g Hj) HH → Itm K CP HH yo b := fun ee => by
            rcases hbo with ⟨hb, hy⟩ | ⟨hb, d, hd⟩
            · exact Or.inl ⟨hb, x1, h, e, 0, hy, hx1j.ex ee⟩
            · exact Or.inr ⟨hb, d, dp_ex ee hd⟩
          have ho2 : (b = true ∧ yo = .ref x1) ∨ (b = false ∧ ∃ d, Dp K Hj yo d) := hbo.elim Or.inl fun ⟨hb, d, hd⟩ => Or.inr ⟨hb, d, dp_ex w_sub hd⟩
          have p18 : (10 : Int) ^ (18 : Int).toNat = 1000000000000000000 := by decide
          -- is_wide, is_one
          refine gn ?_
          dsimp only
          show tSeq _ _ _ _ Hj
          refine q_par (x := .bl (sizeOk dw)) (y := .bl b) ?_ ?_ fun Hk ek => ?_
          · refine ev_is (ev_call (ea_cons (ev_var rfl) (ea_cons ev_c (ea_cons (ev_op ev_c ev_c (rv_I ⟨by decide, by decide, by decide⟩)) ea_nil))) (sp_betw (dp_ex w_sub hdJ))) ?_
            rw [p18] <;> rfl
          · exact ev_op (ev_var rfl) (ev_var rfl) (rv_one TP NK (hx1j.ex w_sub) ho2)
          have RK1 := RK.e ek
          -- due
          refine q_asg (v := dueV (dueL (sizeOk dw) b)) (ev_if (b := sizeOk dw && !b) (et_and (et_B (ev_var rfl)) fun _ => et_not (et_B (ev_var rfl))) (fun hb => ?_) fun hb => ev_if (b := sizeOk dw) (et_B (ev_var rfl)) (fun hb2 => ?_) fun hb2 => ?_) fun Hl el => ?_
          · unfold dueL
            rw [if_pos hb]
            exact ev_c
          · unfold dueL
            rw [if_neg (by rw [hb]; simp), if_pos hb2]
            exact ev_c
          · unfold dueL
            rw [if_neg (by rw [hb]; simp), if_neg (by rw [hb2]; simp)]
            exact ev_c
          have RL := RK1.e el
          refine q_lam (due := dueL (sizeOk dw) b) RL.tab rfl (fun nm hn => dueS_lay nm (dueS_1.trans hn)) (fun Hb eb => ?_) fun Hb Hm eb tb2 em => ?_
          · have eB : Ex (Wb g Hj) Hb := RL.ex.trans ((w_ext eb).trans w_sub)
            rw [← dueS_1]
            exact beh_set (ea_cons (ev_var rfl) (ea_cons (ev_var rfl) ea_nil)) (dp_ex eB hdJ) rfl (by show 1 ≤ 1; decide) (by show 1 ≤ 100; decide) (itm_1 (itO eB))
          have RM := (RL.t eb tb2).e em
          refine q_lam (due := dueL (sizeOk dw) b) RM.tab rfl (fun nm hn => dueS_lay nm (dueS_1.trans hn)) (fun Hb eb => ?_) fun Hb Hn eb tb3 en => ?_
          · have eB : Ex (Wb g Hj) Hb := RM.ex.trans ((w_ext eb).trans w_sub)
            rw [← dueS_2]
            exact beh_set (ea_cons (ev_var rfl) (ea_cons (ev_var rfl) (ea_cons (ev_var rfl) ea_nil))) (dp_ex eB hdJ) rfl (by show 1 ≤ 2; decide) (by show 2 ≤ 100; decide) (itm_2 (itP eB) (itO eB))
          have RN := (RM.t eb tb3).e en
          refine q_asg (v := dueV (dueL (sizeOk dw) false)) (ev_if (b := sizeOk dw) (et_B (ev_var rfl)) (fun hb2 => ?_) fun hb2 => ?_) fun Ho eo => ?_
          · unfold dueL
            rw [hb2]
            exact ev_c
          · unfold dueL
            rw [hb2]
            exact ev_c
          have RO := RN.e eo
          refine s_lam (due := dueL (sizeOk dw) false) RO.tab rfl (fun nm hn => dueS_lay nm (dueS_1.trans hn)) (fun Hb eb => ?_) fun Hb Hq eb tb4 eq => ?_
          · have eB : Ex (Wb g Hj) Hb := RO.ex.trans ((w_ext eb).trans w_sub)
            rw [← dueS_3]
            exact beh_set (ea_cons (ev_var rfl) (ea_cons (ev_var rfl) (ea_cons (ev_var rfl) (ea_cons (ev_var rfl) ea_nil)))) (dp_ex eB hdJ) rfl (by decide) (by decide) (itm_3 (itP eB) (itP eB) (itP eB))
          have RQ := (RO.t eb tb4).e eq
          exact ⟨_, _, _, _, _, _, _, _, _, rfl, BJ.trans RQ.ex, RQ.bag.less (by omega), RQ.tab⟩
      · rintro σ' Hx ⟨o4, o5, o6, o7, o8, o9, o10, o11, o12, rfl, S⟩
        exact ⟨_, _, _, _, _, _, _, _, _, _, _, _, rfl, e0.trans ((S6.ex.trans S.ex).trans w_nt), S.tab⟩
    · rintro σ' H' ⟨o1, o2, o3, o4, o5, o6, o7, o8, o9, o10, o11, o12, rfl, e0, tab⟩
      exact s_ret ev_c fun H1 e1 => k H1
end
end Lw

namespace Lw
open PySem PySem.Spec PyProof.Rows L2 Evl L3 ClX
theorem exm_ref' {K : PySem.W.Frag} {C : Addr} {cls : Value} {b : Bool} (h1 : PySem.W.subIn K (.ref C) (.type "BaseException") = some true) (h2 : PySem.W.hasDictIn K C = true) (h3 : PySem.W.typeIn K (.ref C) = some (.type "type")) (h4 : PySem.W.subIn K cls (.ref C) = some b) :
    PySem.W.exmOne K cls (.ref C) = some b := PySem.W.exm_ref h1 h2 h3 h4
theorem kit_ref {K : PySem.W.Frag} {D C : Addr} {b : Bool} (h0 : PySem.W.subIn K (.ref D) (.ref D) = some true) (h1 : PySem.W.subIn K (.ref D) (.ref C) = some b) (h2 : PySem.W.hasDictIn K C = true) (h3 : PySem.W.typeIn K (.ref C) = some (.type "type")) : PySem.W.kitOne K (.ref D) (.ref C) = some b := by
  unfold PySem.W.kitOne
  by_cases e : D = C
  · subst e
    rw [h0] at h1
    rw [if_pos (by simp)]
    exact h1
  · have n : ¬ ((Value.ref D == Value.ref C) = true) := fun z => e (by simpa using z)
    rw [if_neg n]
    have c : (PySem.W.clsIn K C).isSome = true := by
      unfold PySem.W.hasDictIn at h2
      cases q : PySem.W.clsIn K C with
      | none =>
        rw [q] at h2
        cases h2
      | some v => rfl
    show (if ((PySem.W.clsIn K C).isSome && PySem.W.typeIn K (.ref C) == some (.type "type")) = true then PySem.W.subIn K (.ref D) (.ref C) else none) = some b
    rw [c, h3, if_pos (by simp)]
    exact h1
theorem kit_ty {K : PySem.W.Frag} {D : Addr} {T : String} {b : Bool} (h : PySem.W.kitMeta T = true) (h1 : PySem.W.subIn K (.ref D) (.type T) = some b) : PySem.W.kitOne K (.ref D) (.type T) = some b := by
  unfold PySem.W.kitOne
  have n : ¬ ((Value.ref D == Value.type T) = true) := fun z => by simp at z
  rw [if_neg n]
  show (if PySem.W.kitMeta T = true then PySem.W.subIn K (.ref D) (.type T) else none) = some b
  rw [if_pos h]
  exact h1
theorem kit_no {K : PySem.W.Frag} {C : Addr} {T : String} {b : Bool} (h2 : PySem.W.hasDictIn K C = true) (h3 : PySem.W.typeIn K (.ref C) = some (.type "type")) (h1 : PySem.W.subIn K (.type T) (.ref C) = some b) : PySem.W.kitOne K (.type T) (.ref C) = some b := by
  unfold PySem.W.kitOne
  have n : ¬ ((Value.type T == Value.ref C) = true) := fun z => by simp at z
  rw [if_neg n]
  have c : (PySem.W.clsIn K C).isSome = true := by
    unfold PySem.W.hasDictIn at h2
    cases q : PySem.W.clsIn K C with
    | none =>
      rw [q] at h2
      cases h2
    | some v => rfl
  show (if ((PySem.W.clsIn K C).isSome && PySem.W.typeIn K (.ref C) == some (.type "type")) = true then PySem.W.subIn K (.type T) (.ref C) else none) = some b
  rw [c, h3, if_pos (by simp)]
  exact h1
theorem all_mk {P : Program} {w : World} {K : PySem.W.Frag} {h : Heap} {mg : Str → Option Value} (X : K.In h) (G : h.Ns mainGlobals mg)
    {f1 f2 f3 f4 f5 f6 f7 f8 f9 f10 f11 f12 fBadSetting fPolicyinit fPolicyeq fSettinginit : Addr} {CBadSetting EBadSetting NBadSetting : Addr} {fa : Addr} (hfa : mg "law" = some (.ref fa)) (own : LamX.OwnTab K fa h)
    {od1 an1 od2 an2 od3 an3 od4 an4 od5 an5 od6 an6 od7 an7 od8 an8 od9 an9 od10 an10 od11 an11 od12 an12 odBadSetting anBadSetting odPolicyinit anPolicyinit odPolicyeq anPolicyeq odSettinginit anSettinginit : Option Addr} {sl1 sl2 sl3 sl4 sl5 sl6 sl7 sl8 sl9 sl10 sl11 sl12 slBadSetting slPolicyinit slPolicyeq slSettinginit : Array (Option Value)} {oc1 kV1 dc1 pm1 cd1 ct1 oc2 kV2 dc2 pm2 cd2 ct2 oc3 kV3 dc3 pm3 cd3 ct3 oc4 kV4 dc4 pm4 cd4 ct4 oc5 kV5 dc5 pm5 cd5 ct5 oc6 kV6 dc6 pm6 cd6 ct6 oc7 kV7 dc7 pm7 cd7 ct7 oc8 kV8 dc8 pm8 cd8 ct8 oc9 kV9 dc9 pm9 cd9 ct9 oc10 kV10 dc10 pm10 cd10 ct10 oc11 kV11 dc11 pm11 cd11 ct11 oc12 kV12 dc12 pm12 cd12 ct12 ocBadSetting kVBadSetting dcBadSetting pmBadSetting cdBadSetting ctBadSetting ocPolicyinit dcPolicyinit pmPolicyinit cdPolicyinit ctPolicyinit ocPolicyeq kVPolicyeq dcPolicyeq pmPolicyeq cdPolicyeq ctPolicyeq ocSettinginit kVSettinginit dcSettinginit pmSettinginit cdSettinginit ctSettinginit : Value}
    {aPolicyHOLDS : Addr} {odPolicyHOLDS : Option Addr} {nPolicyHOLDS : Nat} {slPolicyHOLDS : Array (Option Value)} {tPolicyHOLDS0 tPolicyHOLDS1 tPolicyHOLDS2 : Tok}
    {CPolicy CSetting : Addr}
    {TDPolicyinit DDPolicyinit : Addr} {oTPolicyinit : Value} {odTPolicyinit : Option Addr} {nTPolicyinit : Nat} {slTPolicyinit : Array (Option Value)} {tDPolicyinit0 tKPolicyinitevery tKPolicyinitquick : Tok}
    {CO CW CT CL cL Pt : Addr} {ddc : Option Addr} {vsc : Array Value} {slc : Array (Option Value)} {fileC : Str} {tfC tgC ttC : Tok} {flC txC : Int} {inC : Bool}
    {nmBadSetting qBadSetting : Str} {bsBadSetting : List Value} {snBadSetting : List Str} {subBadSetting : List Value} {abBadSetting : Bool} {colBadSetting : Option Bool} {ddBadSetting : Option Addr} {m0BadSetting m1BadSetting m2BadSetting m3BadSetting m5BadSetting : Option Value}
    {tMOST_SIZE tMOST_EVERY tMOST_QUICK : Tok}
    (a1 : PySem.W.nsIn K mainGlobals "between" = some (some (.ref f1)))
    (l1 : K.lookup f1 = some ⟨oc1, od1, .func (PySem.W.fnOf "between" "between" (defArgs sBetw) (defBody sBetw) (defScope sBetw) .none kV1 dc1 pm1 an1 cd1 ct1), sl1⟩)
    (c1 : PySem.W.codeIn K cd1 "between" = true)
    (k1 : PySem.W.keepIn K (.ref f1) = true)
    (a2 : PySem.W.nsIn K mainGlobals "check_size" = some (some (.ref f2)))
    (l2 : K.lookup f2 = some ⟨oc2, od2, .func (PySem.W.fnOf "check_size" "check_size" (defArgs sCkS) (defBody sCkS) (defScope sCkS) .none kV2 dc2 pm2 an2 cd2 ct2), sl2⟩)
    (c2 : PySem.W.codeIn K cd2 "check_size" = true)
    (k2 : PySem.W.keepIn K (.ref f2) = true)
    (a3 : PySem.W.nsIn K mainGlobals "policy_pair" = some (some (.ref f3)))
    (l3 : K.lookup f3 = some ⟨oc3, od3, .func (PySem.W.fnOf "policy_pair" "policy_pair" (defArgs sPair) (defBody sPair) (defScope sPair) .none kV3 dc3 pm3 an3 cd3 ct3), sl3⟩)
    (c3 : PySem.W.codeIn K cd3 "policy_pair" = true)
    (k3 : PySem.W.keepIn K (.ref f3) = true)
    (a4 : PySem.W.nsIn K mainGlobals "_law_bag" = some (some (.ref f4)))
    (l4 : K.lookup f4 = some ⟨oc4, od4, .func (PySem.W.fnOf "_law_bag" "_law_bag" (defArgs sBag) (defBody sBag) (defScope sBag) .none kV4 dc4 pm4 an4 cd4 ct4), sl4⟩)
    (c4 : PySem.W.codeIn K cd4 "_law_bag" = true)
    (k4 : PySem.W.keepIn K (.ref f4) = true)
    (a5 : PySem.W.nsIn K mainGlobals "_law_take" = some (some (.ref f5)))
    (l5 : K.lookup f5 = some ⟨oc5, od5, .func (PySem.W.fnOf "_law_take" "_law_take" (defArgs sTake) (defBody sTake) (defScope sTake) .none kV5 dc5 pm5 an5 cd5 ct5), sl5⟩)
    (c5 : PySem.W.codeIn K cd5 "_law_take" = true)
    (k5 : PySem.W.keepIn K (.ref f5) = true)
    (a6 : PySem.W.nsIn K mainGlobals "_law_odd" = some (some (.ref f6)))
    (l6 : K.lookup f6 = some ⟨oc6, od6, .func (PySem.W.fnOf "_law_odd" "_law_odd" (defArgs sOdd) (defBody sOdd) (defScope sOdd) .none kV6 dc6 pm6 an6 cd6 ct6), sl6⟩)
    (c6 : PySem.W.codeIn K cd6 "_law_odd" = true)
    (k6 : PySem.W.keepIn K (.ref f6) = true)
    (a7 : PySem.W.nsIn K mainGlobals "_law_within" = some (some (.ref f7)))
    (l7 : K.lookup f7 = some ⟨oc7, od7, .func (PySem.W.fnOf "_law_within" "_law_within" (defArgs sWith) (defBody sWith) (defScope sWith) .none kV7 dc7 pm7 an7 cd7 ct7), sl7⟩)
    (c7 : PySem.W.codeIn K cd7 "_law_within" = true)
    (k7 : PySem.W.keepIn K (.ref f7) = true)
    (a8 : PySem.W.nsIn K mainGlobals "_law_due" = some (some (.ref f8)))
    (l8 : K.lookup f8 = some ⟨oc8, od8, .func (PySem.W.fnOf "_law_due" "_law_due" (defArgs sDue) (defBody sDue) (defScope sDue) .none kV8 dc8 pm8 an8 cd8 ct8), sl8⟩)
    (c8 : PySem.W.codeIn K cd8 "_law_due" = true)
    (k8 : PySem.W.keepIn K (.ref f8) = true)
    (a9 : PySem.W.nsIn K mainGlobals "_law_told" = some (some (.ref f9)))
    (l9 : K.lookup f9 = some ⟨oc9, od9, .func (PySem.W.fnOf "_law_told" "_law_told" (defArgs sTold) (defBody sTold) (defScope sTold) .none kV9 dc9 pm9 an9 cd9 ct9), sl9⟩)
    (c9 : PySem.W.codeIn K cd9 "_law_told" = true)
    (k9 : PySem.W.keepIn K (.ref f9) = true)
    (a10 : PySem.W.nsIn K mainGlobals "_law_right" = some (some (.ref f10)))
    (l10 : K.lookup f10 = some ⟨oc10, od10, .func (PySem.W.fnOf "_law_right" "_law_right" (defArgs sRight) (defBody sRight) (defScope sRight) .none kV10 dc10 pm10 an10 cd10 ct10), sl10⟩)
    (c10 : PySem.W.codeIn K cd10 "_law_right" = true)
    (k10 : PySem.W.keepIn K (.ref f10) = true)
    (a11 : PySem.W.nsIn K mainGlobals "law" = some (some (.ref f11)))
    (l11 : K.lookup f11 = some ⟨oc11, od11, .func (PySem.W.fnOf "law" "law" (defArgs sLaw) (defBody sLaw) (defScope sLaw) .none kV11 dc11 pm11 an11 cd11 ct11), sl11⟩)
    (c11 : PySem.W.codeIn K cd11 "law" = true)
    (k11 : PySem.W.keepIn K (.ref f11) = true)
    (a12 : PySem.W.nsIn K mainGlobals "is_integer" = some (some (.ref f12)))
    (l12 : K.lookup f12 = some ⟨oc12, od12, .func (PySem.W.fnOf "is_integer" "is_integer" (defArgs sIsInt) (defBody sIsInt) (defScope sIsInt) .none kV12 dc12 pm12 an12 cd12 ct12), sl12⟩)
    (c12 : PySem.W.codeIn K cd12 "is_integer" = true)
    (k12 : PySem.W.keepIn K (.ref f12) = true)
    (gBadSetting : PySem.W.nsIn K mainGlobals "BadSetting" = some (some (.ref CBadSetting)))
    (aBadSetting : PySem.W.findIn K (.ref CBadSetting) "__init__" = some (some (.ref fBadSetting)))
    (lBadSetting : K.lookup fBadSetting = some ⟨ocBadSetting, odBadSetting, .func (PySem.W.fnOf "__init__" "BadSetting.__init__" (defArgs sIniB) (defBody sIniB) (defScope sIniB) .none kVBadSetting dcBadSetting pmBadSetting anBadSetting cdBadSetting ctBadSetting), slBadSetting⟩)
    (cBadSetting : PySem.W.codeIn K cdBadSetting "BadSetting.__init__" = true)
    (kBadSetting : PySem.W.keepIn K (.ref fBadSetting) = true)
    (xBadSetting : K.lookup CBadSetting = some (excClassObj nmBadSetting qBadSetting CBadSetting NBadSetting bsBadSetting [.ref EBadSetting, .type "ValueError", .type "Exception", .type "BaseException", .type "object"] true snBadSetting subBadSetting abBadSetting colBadSetting ddBadSetting m0BadSetting m1BadSetting m2BadSetting m3BadSetting m5BadSetting "ValueError.__new__"))
    (sBadSetting : PySem.W.findIn K (.ref CBadSetting) "__setattr__" = some (some (.builtin "object.__setattr__")))
    (eBadSetting : PySem.W.subIn K (.ref CBadSetting) (.type "BaseException") = some true)
    (yBadSetting : PySem.W.typeIn K (.ref CBadSetting) = some (.type "type"))
    (pBadSetting : PySem.W.keepIn K (.ref CBadSetting) = true)
    (tBadSetting : PySem.W.typeIn K (.ref fBadSetting) = some (.type "function"))
    (nBadSetting : PySem.W.findIn K (.ref CBadSetting) "name" = some none)
    (hBadSetting : PySem.W.hasDictIn K CBadSetting = true)
    (gPolicy : PySem.W.nsIn K mainGlobals "Policy" = some (some (.ref CPolicy)))
    (qPolicypg : PySem.W.plainGet K CPolicy Str.empty = true)
    (qPolicyhd : PySem.W.hasDictIn K CPolicy = true)
    (qPolicypo : PySem.W.plainOver K CPolicy = true)
    (qPolicysa : PySem.W.findIn K (.ref CPolicy) "__setattr__" = some (some (.builtin "object.__setattr__")))
    (qPolicyca : PySem.W.findIn K (.ref CPolicy) "__class__" = some (some (.builtin "object.__class__")))
    (qPolicymo : PySem.W.mroIn K CPolicy (.type "object") = some true)
    (qPolicymk : PySem.W.makesIn K CPolicy = true)
    (qPolicykp : PySem.W.keepIn K (.ref CPolicy) = true)
    (qPolicyne : PySem.W.findIn K (.ref CPolicy) "__ne__" = some (some (.builtin "object.__ne__")))
    (qPolicyfm : PySem.W.findIn K (.ref CPolicy) "__format__" = some (some (.builtin "object.__format__")))
    (qPolicyno_hold : PySem.W.findIn K (.ref CPolicy) "hold" = some none)
    (qPolicyno_every : PySem.W.findIn K (.ref CPolicy) "every" = some none)
    (qPolicyno_quick : PySem.W.findIn K (.ref CPolicy) "quick" = some none)
    (qPolicyrd : PySem.W.readsIn K CPolicy (.type "type") = true)
    (qPolicyga : PySem.W.specialIn K (.ref CPolicy) "__getattribute__" = some (some (.builtin "type.__getattribute__")))
    (uPolicyHOLDS : PySem.W.findCls K (.ref CPolicy) (.type "type") "HOLDS" = some (.val (.ref aPolicyHOLDS)))
    (vPolicyHOLDS : K.lookup aPolicyHOLDS = some ⟨.type "tuple", odPolicyHOLDS, .seq #[.str "off" tPolicyHOLDS0, .str "partial" tPolicyHOLDS1, .str "all" tPolicyHOLDS2] nPolicyHOLDS, slPolicyHOLDS⟩)
    (gSetting : PySem.W.nsIn K mainGlobals "Setting" = some (some (.ref CSetting)))
    (qSettingpg : PySem.W.plainGet K CSetting Str.empty = true)
    (qSettinghd : PySem.W.hasDictIn K CSetting = true)
    (qSettingpo : PySem.W.plainOver K CSetting = true)
    (qSettingsa : PySem.W.findIn K (.ref CSetting) "__setattr__" = some (some (.builtin "object.__setattr__")))
    (qSettingca : PySem.W.findIn K (.ref CSetting) "__class__" = some (some (.builtin "object.__class__")))
    (qSettingmo : PySem.W.mroIn K CSetting (.type "object") = some true)
    (qSettingmk : PySem.W.makesIn K CSetting = true)
    (qSettingkp : PySem.W.keepIn K (.ref CSetting) = true)
    (qSettingne : PySem.W.findIn K (.ref CSetting) "__ne__" = some (some (.builtin "object.__ne__")))
    (qSettingfm : PySem.W.findIn K (.ref CSetting) "__format__" = some (some (.builtin "object.__format__")))
    (qSettingno_size : PySem.W.findIn K (.ref CSetting) "size" = some none)
    (qSettingno_policies : PySem.W.findIn K (.ref CSetting) "policies" = some none)
    (qdesc : PySem.W.specialIn K (.builtin "object.__class__") "__get__" = some (some (.builtin "getset_descriptor.__get__")))
    (qtake : PySem.W.takesIn K (.builtin "object.__class__") = some true)
    (aPolicyinit : PySem.W.findIn K (.ref CPolicy) "__init__" = some (some (.ref fPolicyinit)))
    (lPolicyinit : K.lookup fPolicyinit = some ⟨ocPolicyinit, odPolicyinit, .func (PySem.W.fnOf "__init__" "Policy.__init__" (defArgs sPI) (defBody sPI) (defScope sPI) (.ref TDPolicyinit) (.ref DDPolicyinit) dcPolicyinit pmPolicyinit anPolicyinit cdPolicyinit ctPolicyinit), slPolicyinit⟩)
    (cPolicyinit : PySem.W.codeIn K cdPolicyinit "Policy.__init__" = true)
    (kPolicyinit : PySem.W.keepIn K (.ref fPolicyinit) = true)
    (qPolicyinitfn : PySem.W.isFn K (.ref fPolicyinit) = true)
    (dPolicyinit : K.lookup TDPolicyinit = some ⟨oTPolicyinit, odTPolicyinit, .seq #[.str "all" tDPolicyinit0] nTPolicyinit, slTPolicyinit⟩)
    (dkPolicyinitevery : PySem.W.nsIn K DDPolicyinit "every" = some (some (.int 2 tKPolicyinitevery)))
    (dkPolicyinitquick : PySem.W.nsIn K DDPolicyinit "quick" = some (some (.int 0 tKPolicyinitquick)))
    (aPolicyeq : PySem.W.findIn K (.ref CPolicy) "__eq__" = some (some (.ref fPolicyeq)))
    (lPolicyeq : K.lookup fPolicyeq = some ⟨ocPolicyeq, odPolicyeq, .func (PySem.W.fnOf "__eq__" "Policy.__eq__" (defArgs sPEq) (defBody sPEq) (defScope sPEq) .none kVPolicyeq dcPolicyeq pmPolicyeq anPolicyeq cdPolicyeq ctPolicyeq), slPolicyeq⟩)
    (cPolicyeq : PySem.W.codeIn K cdPolicyeq "Policy.__eq__" = true)
    (kPolicyeq : PySem.W.keepIn K (.ref fPolicyeq) = true)
    (qPolicyeqfn : PySem.W.isFn K (.ref fPolicyeq) = true)
    (aSettinginit : PySem.W.findIn K (.ref CSetting) "__init__" = some (some (.ref fSettinginit)))
    (lSettinginit : K.lookup fSettinginit = some ⟨ocSettinginit, odSettinginit, .func (PySem.W.fnOf "__init__" "Setting.__init__" (defArgs sSI) (defBody sSI) (defScope sSI) .none kVSettinginit dcSettinginit pmSettinginit anSettinginit cdSettinginit ctSettinginit), slSettinginit⟩)
    (cSettinginit : PySem.W.codeIn K cdSettinginit "Setting.__init__" = true)
    (kSettinginit : PySem.W.keepIn K (.ref fSettinginit) = true)
    (qSettinginitfn : PySem.W.isFn K (.ref fSettinginit) = true)
    (g_O : PySem.W.nsIn K mainGlobals "BadOrder" = some (some (.ref CO)))
    (e_O : PySem.W.subIn K (.ref CO) (.type "BaseException") = some true)
    (y_O : PySem.W.typeIn K (.ref CO) = some (.type "type"))
    (h_O : PySem.W.hasDictIn K CO = true)
    (m_O : PySem.W.subIn K (.ref CBadSetting) (.ref CO) = some false)
    (g_W : PySem.W.nsIn K mainGlobals "BadWrite" = some (some (.ref CW)))
    (e_W : PySem.W.subIn K (.ref CW) (.type "BaseException") = some true)
    (y_W : PySem.W.typeIn K (.ref CW) = some (.type "type"))
    (h_W : PySem.W.hasDictIn K CW = true)
    (m_W : PySem.W.subIn K (.ref CBadSetting) (.ref CW) = some false)
    (g_T : PySem.W.nsIn K mainGlobals "TooLong" = some (some (.ref CT)))
    (e_T : PySem.W.subIn K (.ref CT) (.type "BaseException") = some true)
    (y_T : PySem.W.typeIn K (.ref CT) = some (.type "type"))
    (h_T : PySem.W.hasDictIn K CT = true)
    (m_T : PySem.W.subIn K (.ref CBadSetting) (.ref CT) = some false)
    (g_L : PySem.W.nsIn K mainGlobals "LatewordsError" = some (some (.ref CL)))
    (e_L : PySem.W.subIn K (.ref CL) (.type "BaseException") = some true)
    (y_L : PySem.W.typeIn K (.ref CL) = some (.type "type"))
    (h_L : PySem.W.hasDictIn K CL = true)
    (m_L : PySem.W.subIn K (.ref CBadSetting) (.ref CL) = some true)
    (m_B : PySem.W.subIn K (.ref CBadSetting) (.ref CBadSetting) = some true)
    (m_V : PySem.W.subIn K (.ref CBadSetting) (.type "ValueError") = some true)
    (w_B : PySem.W.findIn K (.ref CBadSetting) "__getattribute__" = some (some (.builtin "BaseException.__getattribute__")))
    (v_B : PySem.W.findIn K (.ref CBadSetting) "__getattr__" = some none)
    (u_B : PySem.W.findIn K (.ref CBadSetting) "__class__" = some (some (.builtin "object.__class__")))
    (o_B : PySem.W.mroIn K CBadSetting (.type "object") = some true)
    (s_NoneType : PySem.W.subIn K (.type "NoneType") (.ref CPolicy) = some false)
    (b_NoneType : PySem.W.subIn K (.ref CPolicy) (.type "NoneType") = some false)
    (s_bool : PySem.W.subIn K (.type "bool") (.ref CPolicy) = some false)
    (b_bool : PySem.W.subIn K (.ref CPolicy) (.type "bool") = some false)
    (s_int : PySem.W.subIn K (.type "int") (.ref CPolicy) = some false)
    (b_int : PySem.W.subIn K (.ref CPolicy) (.type "int") = some false)
    (s_str : PySem.W.subIn K (.type "str") (.ref CPolicy) = some false)
    (b_str : PySem.W.subIn K (.ref CPolicy) (.type "str") = some false)
    (s_list : PySem.W.subIn K (.type "list") (.ref CPolicy) = some false)
    (b_list : PySem.W.subIn K (.ref CPolicy) (.type "list") = some false)
    (s_tuple : PySem.W.subIn K (.type "tuple") (.ref CPolicy) = some false)
    (b_tuple : PySem.W.subIn K (.ref CPolicy) (.type "tuple") = some false)
    (s_dict : PySem.W.subIn K (.type "dict") (.ref CPolicy) = some false)
    (y_P : PySem.W.typeIn K (.ref CPolicy) = some (.type "type"))
    (qcd : cd11 = .ref cL)
    (qlc : K.lookup cL = some ⟨.type "code", ddc, .fields vsc, slc⟩)
    (qp11 : vsc[11]? = some (.ref Pt))
    (qe11 : vsc.getD 11 .none = .ref Pt)
    (qe18 : vsc.getD 18 .none = .str fileC tfC)
    (qe7 : vsc.getD 7 .none = .int flC tgC)
    (qe9 : vsc.getD 9 .none = .bool inC)
    (qe10 : vsc.getD 10 .none = .int txC ttC)
    (qne : cL ≠ Pt)
    (qlp : K.lookup Pt = none)
    (zisinstance : PySem.W.nsIn K mainGlobals "isinstance" = some none)
    (zint : PySem.W.nsIn K mainGlobals "int" = some none)
    (zbool : PySem.W.nsIn K mainGlobals "bool" = some none)
    (ztuple : PySem.W.nsIn K mainGlobals "tuple" = some none)
    (zlen : PySem.W.nsIn K mainGlobals "len" = some none)
    (zrange : PySem.W.nsIn K mainGlobals "range" = some none)
    (zstr : PySem.W.nsIn K mainGlobals "str" = some none)
    (zrepr : PySem.W.nsIn K mainGlobals "repr" = some none)
    (zall : PySem.W.nsIn K mainGlobals "all" = some none)
    (zmax : PySem.W.nsIn K mainGlobals "max" = some none)
    (zmin : PySem.W.nsIn K mainGlobals "min" = some none)
    (zabs : PySem.W.nsIn K mainGlobals "abs" = some none)
    (zlist : PySem.W.nsIn K mainGlobals "list" = some none)
    (zValueError : PySem.W.nsIn K mainGlobals "ValueError" = some none)
    (iMOST_SIZE : PySem.W.nsIn K mainGlobals "MOST_SIZE" = some (some (.int 1000000000000000000 tMOST_SIZE)))
    (iMOST_EVERY : PySem.W.nsIn K mainGlobals "MOST_EVERY" = some (some (.int 9 tMOST_EVERY)))
    (iMOST_QUICK : PySem.W.nsIn K mainGlobals "MOST_QUICK" = some (some (.int 4 tMOST_QUICK))) :
    ∃ (cL Pt : Addr) (fd : FuncData), h.get? Pt = some { cls := .none, data := .fields #[] } ∧ K.lookup Pt = none ∧ PySem.W.CodeHd h cL Pt ∧ (∀ (s : Shared) (v : Value), BindsTo s fd ⟨[v], []⟩ [("_law_script", v)]) ∧ ∀ base : Heap, K.In base → base.Ns mainGlobals mg → LamX.TabB base mg cL Pt → FnOk P w K mg base CX0 12 fa fd ["_law_script"] (spLaw K Pt) := by
  have ef := hfa.symm.trans (PySem.W.mg_of X G a11)
  cases ef
  have F1 := fun_mk (st := sBetw) l1 c1 k1
  have b1 := F1.binds (ps := ["value", "low", "high"]) fun _ _ _ _ _ _ us hl => match us, hl with | [_, _, _], _ => rfl
  have g1 := PySem.W.mg_of X G a1
  have F2 := fun_mk (st := sCkS) l2 c2 k2
  have b2 := F2.binds (ps := ["size"]) fun _ _ _ _ _ _ us hl => match us, hl with | [_], _ => rfl
  have g2 := PySem.W.mg_of X G a2
  have F3 := fun_mk (st := sPair) l3 c3 k3
  have b3 := F3.binds (ps := ["policies"]) fun _ _ _ _ _ _ us hl => match us, hl with | [_], _ => rfl
  have g3 := PySem.W.mg_of X G a3
  have F4 := fun_mk (st := sBag) l4 c4 k4
  have b4 := F4.binds (ps := ["_law_script", "_law_at"]) fun _ _ _ _ _ _ us hl => match us, hl with | [_, _], _ => rfl
  have g4 := PySem.W.mg_of X G a4
  have F5 := fun_mk (st := sTake) l5 c5 k5
  have b5 := F5.binds (ps := ["_law_bag_here", "_law_many"]) fun _ _ _ _ _ _ us hl => match us, hl with | [_, _], _ => rfl
  have g5 := PySem.W.mg_of X G a5
  have F6 := fun_mk (st := sOdd) l6 c6 k6
  have b6 := F6.binds (ps := ["_law_bag_here"]) fun _ _ _ _ _ _ us hl => match us, hl with | [_], _ => rfl
  have g6 := PySem.W.mg_of X G a6
  have F7 := fun_mk (st := sWith) l7 c7 k7
  have b7 := F7.binds (ps := ["_law_value", "_law_low", "_law_high"]) fun _ _ _ _ _ _ us hl => match us, hl with | [_, _, _], _ => rfl
  have g7 := PySem.W.mg_of X G a7
  have F8 := fun_mk (st := sDue) l8 c8 k8
  have b8 := F8.binds (ps := ["_law_values"]) fun _ _ _ _ _ _ us hl => match us, hl with | [_], _ => rfl
  have g8 := PySem.W.mg_of X G a8
  have F9 := fun_mk (st := sTold) l9 c9 k9
  have b9 := F9.binds (ps := ["_law_call"]) fun _ _ _ _ _ _ us hl => match us, hl with | [_], _ => rfl
  have g9 := PySem.W.mg_of X G a9
  have F10 := fun_mk (st := sRight) l10 c10 k10
  have b10 := F10.binds (ps := ["_law_call", "_law_due_here"]) fun _ _ _ _ _ _ us hl => match us, hl with | [_, _], _ => rfl
  have g10 := PySem.W.mg_of X G a10
  have F11 := fun_mk (st := sLaw) l11 c11 k11
  have b11 := F11.binds (ps := ["_law_script"]) fun _ _ _ _ _ _ us hl => match us, hl with | [_], _ => rfl
  have g11 := PySem.W.mg_of X G a11
  have F12 := fun_mk (st := sIsInt) l12 c12 k12
  have b12 := F12.binds (ps := ["value"]) fun _ _ _ _ _ _ us hl => match us, hl with | [_], _ => rfl
  have g12 := PySem.W.mg_of X G a12
  have FBadSetting := fun_mk (st := sIniB) lBadSetting cBadSetting kBadSetting
  have bBadSetting := FBadSetting.binds (ps := ["self", "name"]) fun _ _ _ _ _ _ us hl => match us, hl with | [_, _], _ => rfl
  have OBadSetting : OexC K CBadSetting := ⟨⟨nmBadSetting, qBadSetting, NBadSetting, bsBadSetting, _, snBadSetting, subBadSetting, abBadSetting, colBadSetting, ddBadSetting, m0BadSetting, m1BadSetting, m2BadSetting, m3BadSetting, m5BadSetting, xBadSetting, by first | rfl | decide +kernel⟩, sBadSetting, eBadSetting, yBadSetting, pBadSetting⟩
  have FPolicyinit : FunD K "__init__" "Policy.__init__" (defArgs sPI) (defBody sPI) (defScope sPI) [.str "all"] [("every", .int 2), ("quick", .int 0)] fPolicyinit _ := ⟨⟨ocPolicyinit, odPolicyinit, .ref TDPolicyinit, .ref DDPolicyinit, dcPolicyinit, pmPolicyinit, anPolicyinit, cdPolicyinit, ctPolicyinit, slPolicyinit, rfl, lPolicyinit, cPolicyinit, Or.inr ⟨by simp, TDPolicyinit, _, _, _, rfl, dPolicyinit, rfl, .cons ⟨_, rfl⟩ (.nil)⟩, Or.inr ⟨DDPolicyinit, rfl, List.forall_mem_cons.mpr ⟨⟨_, dkPolicyinitevery, ⟨_, rfl⟩⟩, List.forall_mem_cons.mpr ⟨⟨_, dkPolicyinitquick, ⟨_, rfl⟩⟩, fun _ h => nomatch h⟩⟩⟩⟩, kPolicyinit⟩
  have FPolicyeq := fun_mk (st := sPEq) lPolicyeq cPolicyeq kPolicyeq
  have bPolicyeq := FPolicyeq.binds (ps := ["self", "other"]) fun _ _ _ _ _ _ us hl => match us, hl with | [_, _], _ => rfl
  subst qcd
  have T : Txt K mg := { isi := PySem.W.mg_none_of X G zisinstance, isint := ⟨_, _, F12, b12, g12⟩, int := PySem.W.mg_none_of X G zint, bool := PySem.W.mg_none_of X G zbool, tuple := PySem.W.mg_none_of X G ztuple, len := PySem.W.mg_none_of X G zlen, range := PySem.W.mg_none_of X G zrange, str := PySem.W.mg_none_of X G zstr, repr := PySem.W.mg_none_of X G zrepr, all := PySem.W.mg_none_of X G zall, max := PySem.W.mg_none_of X G zmax, min := PySem.W.mg_none_of X G zmin, abs := PySem.W.mg_none_of X G zabs }
  have TP : Pol K mg CPolicy := { hm := PySem.W.mg_of X G gPolicy, k := ⟨⟨qPolicypg, qPolicyhd, qPolicypo, qPolicysa⟩, qPolicyca, qdesc, qtake, qPolicymo⟩, nh := qPolicyno_hold, ne := qPolicyno_every, nq := qPolicyno_quick, hold := ⟨_, aPolicyHOLDS, ⟨qPolicyrd, qPolicyga⟩, ⟨uPolicyHOLDS, rfl⟩, fun H => Or.inr ⟨_, _, _, vPolicyHOLDS, rfl, rfl, by show 3 ≤ sizeLine; decide, .cons ⟨_, rfl⟩ (.cons ⟨_, rfl⟩ (.cons ⟨_, rfl⟩ .nil))⟩⟩ }
  have TS : Stg K mg CSetting := { hm := PySem.W.mg_of X G gSetting, k := ⟨⟨qSettingpg, qSettinghd, qSettingpo, qSettingsa⟩, qSettingca, qdesc, qtake, qSettingmo⟩, ns := qSettingno_size, np := qSettingno_policies }
  have gB := PySem.W.mg_of X G gBadSetting
  have MP : Mk K CPolicy fPolicyinit := ⟨qPolicymk, aPolicyinit, qPolicyinitfn, qPolicykp⟩
  have MS : Mk K CSetting fSettinginit := ⟨qSettingmk, aSettinginit, qSettinginitfn, qSettingkp⟩
  have NK : NoKit K CPolicy := ⟨fun d => by cases d <;> first | exact kit_no qPolicyhd y_P s_NoneType | exact kit_no qPolicyhd y_P s_bool | exact kit_no qPolicyhd y_P s_int | exact kit_no qPolicyhd y_P s_str | exact kit_no qPolicyhd y_P s_list | exact kit_no qPolicyhd y_P s_tuple | exact kit_no qPolicyhd y_P s_dict⟩
  have NB : NoBase K CPolicy := ⟨b_NoneType, b_bool, b_int, b_str, b_list, b_tuple⟩
  have EX : Exm K CBadSetting CO CW CT CL := { bo := exm_ref' e_O h_O y_O m_O, bw := exm_ref' e_W h_W y_W m_W, bt := exm_ref' e_T h_T y_T m_T, bb := exm_ref' eBadSetting hBadSetting yBadSetting m_B, xf := ⟨w_B, v_B, eBadSetting, hBadSetting⟩, ec := ⟨w_B, v_B, eBadSetting, hBadSetting, u_B, qdesc, qtake, o_B⟩, kv := kit_ty (by decide +kernel) m_V, kl := kit_ref m_B m_L h_L y_L }
  have hE : ∃ t, mg "MOST_EVERY" = some (.int 9 t) := ⟨_, PySem.W.mg_of X G iMOST_EVERY⟩
  have hQ : ∃ t, mg "MOST_QUICK" = some (.int 4 t) := ⟨_, PySem.W.mg_of X G iMOST_QUICK⟩
  have hS : ∃ t, mg "MOST_SIZE" = some (.int 1000000000000000000 t) := ⟨_, PySem.W.mg_of X G iMOST_SIZE⟩
  refine ⟨cL, Pt, PySem.W.fnOf "law" "law" (defArgs sLaw) (defBody sLaw) (defScope sLaw) .none kV11 dc11 pm11 an11 (.ref cL) ct11, own _ _ _ _ _ _ _ _ l11 rfl rfl qlc qp11, qlp, ⟨_, vsc, fileC, tfC, flC, tgC, inC, txC, ttC, X _ _ qlc, rfl, rfl, qp11, qe11, qe18, qe7, qe9, qe10, qne⟩, fun s v => .of_eq rfl, fun base _ _ TBL => ?_⟩
  have TB : ErC P w K mg base "BadSetting" "name" CBadSetting fBadSetting _ := ⟨OBadSetting, gB, aBadSetting, tBadSetting, nBadSetting, ok_iniB FBadSetting, bBadSetting⟩
  have G1 : FnOk P w K mg base CX0 1 f1 _ ["value", "low", "high"] (spBetw K) := ok_betw F1 T
  have G2 : FnOk P w K mg base (L2.CX P w) 3 f2 _ ["size"] (spCkS K CBadSetting) := ok_ckS F2 T hS TB F1 b1 g1 G1
  have GI : FnOk P w K mg base (L2.CX P w) 3 fPolicyinit _ PIps (spPI K CPolicy CBadSetting) := ok_PI FPolicyinit TP hE hQ TB F1 b1 g1 G1
  have G3 : FnOk P w K mg base CX0 5 f3 _ ["policies"] (spPair K) := ok_pair F3 T TP MP FPolicyinit GI
  have GJ := ok_SI (P := P) (w := w) (base := base) (CS := CSetting) lSettinginit cSettinginit T TB TP NK TS F2 b2 g2 G2 F3 b3 g3 G3
  have GE : FnOk P w K mg base CX0 1 fPolicyeq _ ["self", "other"] (spPEq K CPolicy) := ok_PEq FPolicyeq T TP
  have G4 : FnOk P w K mg base CX0 1 f4 _ ["_law_script", "_law_at"] (spBag K) := ok_bag F4 T T.abs
  have G5 : FnOk P w K mg base CX0 1 f5 _ ["_law_bag_here", "_law_many"] spTake := ok_take F5 T
  have G6 : FnOk P w K mg base CX0 2 f6 _ ["_law_bag_here"] (spOdd K) := ok_odd F6 T F5 b5 g5 G5
  have G7 : FnOk P w K mg base CX0 1 f7 _ ["_law_value", "_law_low", "_law_high"] (spBetw K) := ok_within F7 T
  have G8 : FnOk P w K mg base CX0 2 f8 _ ["_law_values"] (spDue K) := ok_due F8 T F7 b7 g7 G7
  have G9 : FnC P w K mg base 8 10 f9 _ ["_law_call"] (spTold K CBadSetting) := ok_told F9 T EX (PySem.W.mg_of X G g_O) (PySem.W.mg_of X G g_W) (PySem.W.mg_of X G g_T) (PySem.W.mg_of X G g_L) (PySem.W.mg_none_of X G zValueError) TB
  have G10 : FnC P w K mg base 8 11 f10 _ ["_law_call", "_law_due_here"] (spRight CBadSetting) := ok_right F10 F9 b9 g9 G9
  exact ok_law l11 c11 TBL T (PySem.W.mg_none_of X G zlist) F4 b4 g4 G4 F5 b5 g5 G5 F6 b6 g6 G6 F7 b7 g7 G7 F8 b8 g8 G8 F10 b10 g10 G10 TP MP FPolicyinit GI TS MS GJ ⟨aPolicyeq, qPolicyeqfn⟩ NB NK bPolicyeq GE
theorem to_law {l : PySem.W.OpenLaw} {w : World} {K : PySem.W.Frag} {mg : Str → Option Value} {fa : Addr} {h : Heap} (q : ∃ (cL Pt : Addr) (fd : FuncData), h.get? Pt = some { cls := .none, data := .fields #[] } ∧ K.lookup Pt = none ∧ PySem.W.CodeHd h cL Pt ∧ (∀ (s : Shared) (v : Value), BindsTo s fd ⟨[v], []⟩ [("_law_script", v)]) ∧ ∀ base : Heap, K.In base → base.Ns mainGlobals mg → LamX.TabB base mg cL Pt → FnOk l.prog w K mg base CX0 12 fa fd ["_law_script"] (spLaw K Pt)) :
    LamX.LawAtS l w K (fun _ _ _ _ _ _ => False) 12 63 "_law_script" mg fa h := by
  obtain ⟨cL, Pt, fd, h1, h2, h3, h4, h5⟩ := q
  refine ⟨fd, [(cL, Pt)], spLaw K Pt, fun p hp => ?_, fun p hp => ?_, fun p hp => ?_, h4, fun H a ns hl _ hT hS => ⟨a, ns, rfl, hS, hl, hT (cL, Pt) List.mem_cons_self, fun _ => rfl⟩, fun base hK hN hB => h5 base hK hN (hB (cL, Pt) List.mem_cons_self)⟩
  · rw [List.mem_singleton.mp hp]
    exact h1
  · rw [List.mem_singleton.mp hp]
    exact h2
  · rw [List.mem_singleton.mp hp]
    exact h3
def walk := @walkG
end Lw
open PySem PySem.W PyProof.Rows
set_option maxRecDepth 100000 in
set_option maxHeartbeats 0 in
theorem PySem.Challenge.cw_latewords_k02_settings_refused_holds : PySem.Challenge.rw_latewords_k02_settings_refused.Holds := by
  w_on; o_law; k_head; (case hw => w_witness2)
  k_fill
  refine LamX.walk_ofOwn (l := PySem.Challenge.rw_latewords_k02_settings_refused) (n := 63) (k := 12) (x := "_law_script") (CX := fun _ _ _ _ _ _ _ => False) rfl (by decide) rfl ⟨rfl, by decide, by decide⟩ (by decide +kernel) (fun w h Y => PySem.W.km_in_of Y) ?F (fun _ _ _ _ _ z => z)
  case F =>
    intro w mg fa h Y KX G hmg own
    refine' Lw.to_law (Lw.all_mk KX G hmg own ?a1 ?l1 ?c1 ?k1 ?a2 ?l2 ?c2 ?k2 ?a3 ?l3 ?c3 ?k3 ?a4 ?l4 ?c4 ?k4 ?a5 ?l5 ?c5 ?k5 ?a6 ?l6 ?c6 ?k6 ?a7 ?l7 ?c7 ?k7 ?a8 ?l8 ?c8 ?k8 ?a9 ?l9 ?c9 ?k9 ?a10 ?l10 ?c10 ?k10 ?a11 ?l11 ?c11 ?k11 ?a12 ?l12 ?c12 ?k12 ?gBadSetting ?aBadSetting ?lBadSetting ?cBadSetting ?kBadSetting ?xBadSetting ?sBadSetting ?eBadSetting ?yBadSetting ?pBadSetting ?tBadSetting ?nBadSetting ?hBadSetting ?gPolicy ?qPolicypg ?qPolicyhd ?qPolicypo ?qPolicysa ?qPolicyca ?qPolicymo ?qPolicymk ?qPolicykp ?qPolicyne ?qPolicyfm ?qPolicyno_hold ?qPolicyno_every ?qPolicyno_quick ?qPolicyrd ?qPolicyga ?uPolicyHOLDS ?vPolicyHOLDS ?gSetting ?qSettingpg ?qSettinghd ?qSettingpo ?qSettingsa ?qSettingca ?qSettingmo ?qSettingmk ?qSettingkp ?qSettingne ?qSettingfm ?qSettingno_size ?qSettingno_policies ?qdesc ?qtake ?aPolicyinit ?lPolicyinit ?cPolicyinit ?kPolicyinit ?qPolicyinitfn ?dPolicyinit ?dkPolicyinitevery ?dkPolicyinitquick ?aPolicyeq ?lPolicyeq ?cPolicyeq ?kPolicyeq ?qPolicyeqfn ?aSettinginit ?lSettinginit ?cSettinginit ?kSettinginit ?qSettinginitfn ?g_O ?e_O ?y_O ?h_O ?m_O ?g_W ?e_W ?y_W ?h_W ?m_W ?g_T ?e_T ?y_T ?h_T ?m_T ?g_L ?e_L ?y_L ?h_L ?m_L ?m_B ?m_V ?w_B ?v_B ?u_B ?o_B ?s_NoneType ?b_NoneType ?s_bool ?b_bool ?s_int ?b_int ?s_str ?b_str ?s_list ?b_list ?s_tuple ?b_tuple ?s_dict ?y_P ?qcd ?qlc ?qp11 ?qe11 ?qe18 ?qe7 ?qe9 ?qe10 ?qne ?qlp ?zisinstance ?zint ?zbool ?ztuple ?zlen ?zrange ?zstr ?zrepr ?zall ?zmax ?zmin ?zabs ?zlist ?zValueError ?iMOST_SIZE ?iMOST_EVERY ?iMOST_QUICK)
    (case a1 => k_is)
    (case l1 => k_is)
    (case c1 => k_is)
    (case k1 => k_is)
    (case a2 => k_is)
    (case l2 => k_is)
    (case c2 => k_is)
    (case k2 => k_is)
    (case a3 => k_is)
    (case l3 => k_is)
    (case c3 => k_is)
    (case k3 => k_is)
    (case a4 => k_is)
    (case l4 => k_is)
    (case c4 => k_is)
    (case k4 => k_is)
    (case a5 => k_is)
    (case l5 => k_is)
    (case c5 => k_is)
    (case k5 => k_is)
    (case a6 => k_is)
    (case l6 => k_is)
    (case c6 => k_is)
    (case k6 => k_is)
    (case a7 => k_is)
    (case l7 => k_is)
    (case c7 => k_is)
    (case k7 => k_is)
    (case a8 => k_is)
    (case l8 => k_is)
    (case c8 => k_is)
    (case k8 => k_is)
    (case a9 => k_is)
    (case l9 => k_is)
    (case c9 => k_is)
    (case k9 => k_is)
    (case a10 => k_is)
    (case l10 => k_is)
    (case c10 => k_is)
    (case k10 => k_is)
    (case a11 => k_is)
    (case l11 => k_is)
    (case c11 => k_is)
    (case k11 => k_is)
    (case a12 => k_is)
    (case l12 => k_is)
    (case c12 => k_is)
    (case k12 => k_is)
    (case gBadSetting => k_is)
    (case aBadSetting => k_is)
    (case lBadSetting => k_is)
    (case cBadSetting => k_is)
    (case kBadSetting => k_is)
    (case xBadSetting => k_is)
    (case sBadSetting => k_is)
    (case eBadSetting => k_is)
    (case yBadSetting => k_is)
    (case pBadSetting => k_is)
    (case tBadSetting => k_is)
    (case nBadSetting => k_is)
    (case hBadSetting => k_is)
    (case gPolicy => k_is)
    (case qPolicypg => first | rfl | k_is | decide +kernel | exact ⟨by decide +kernel, by decide +kernel⟩)
    (case qPolicyhd => first | rfl | k_is | decide +kernel | exact ⟨by decide +kernel, by decide +kernel⟩)
    (case qPolicypo => first | rfl | k_is | decide +kernel | exact ⟨by decide +kernel, by decide +kernel⟩)
    (case qPolicysa => first | rfl | k_is | decide +kernel | exact ⟨by decide +kernel, by decide +kernel⟩)
    (case qPolicyca => first | rfl | k_is | decide +kernel | exact ⟨by decide +kernel, by decide +kernel⟩)
    (case qPolicymo => first | rfl | k_is | decide +kernel | exact ⟨by decide +kernel, by decide +kernel⟩)
    (case qPolicymk => first | rfl | k_is | decide +kernel | exact ⟨by decide +kernel, by decide +kernel⟩)
    (case qPolicykp => first | rfl | k_is | decide +kernel | exact ⟨by decide +kernel, by decide +kernel⟩)
    (case qPolicyne => first | rfl | k_is | decide +kernel | exact ⟨by decide +kernel, by decide +kernel⟩)
    (case qPolicyfm => first | rfl | k_is | decide +kernel | exact ⟨by decide +kernel, by decide +kernel⟩)
    (case qPolicyno_hold => first | rfl | k_is | decide +kernel | exact ⟨by decide +kernel, by decide +kernel⟩)
    (case qPolicyno_every => first | rfl | k_is | decide +kernel | exact ⟨by decide +kernel, by decide +kernel⟩)
    (case qPolicyno_quick => first | rfl | k_is | decide +kernel | exact ⟨by decide +kernel, by decide +kernel⟩)
    (case qPolicyrd => first | rfl | k_is | decide +kernel | exact ⟨by decide +kernel, by decide +kernel⟩)
    (case qPolicyga => first | rfl | k_is | decide +kernel | exact ⟨by decide +kernel, by decide +kernel⟩)
    (case uPolicyHOLDS => k_is)
    (case vPolicyHOLDS => k_is)
    (case gSetting => k_is)
    (case qSettingpg => first | rfl | k_is | decide +kernel | exact ⟨by decide +kernel, by decide +kernel⟩)
    (case qSettinghd => first | rfl | k_is | decide +kernel | exact ⟨by decide +kernel, by decide +kernel⟩)
    (case qSettingpo => first | rfl | k_is | decide +kernel | exact ⟨by decide +kernel, by decide +kernel⟩)
    (case qSettingsa => first | rfl | k_is | decide +kernel | exact ⟨by decide +kernel, by decide +kernel⟩)
    (case qSettingca => first | rfl | k_is | decide +kernel | exact ⟨by decide +kernel, by decide +kernel⟩)
    (case qSettingmo => first | rfl | k_is | decide +kernel | exact ⟨by decide +kernel, by decide +kernel⟩)
    (case qSettingmk => first | rfl | k_is | decide +kernel | exact ⟨by decide +kernel, by decide +kernel⟩)
    (case qSettingkp => first | rfl | k_is | decide +kernel | exact ⟨by decide +kernel, by decide +kernel⟩)
    (case qSettingne => first | rfl | k_is | decide +kernel | exact ⟨by decide +kernel, by decide +kernel⟩)
    (case qSettingfm => first | rfl | k_is | decide +kernel | exact ⟨by decide +kernel, by decide +kernel⟩)
    (case qSettingno_size => first | rfl | k_is | decide +kernel | exact ⟨by decide +kernel, by decide +kernel⟩)
    (case qSettingno_policies => first | rfl | k_is | decide +kernel | exact ⟨by decide +kernel, by decide +kernel⟩)
    (case qdesc => first | rfl | k_is | decide +kernel | exact ⟨by decide +kernel, by decide +kernel⟩)
    (case qtake => first | rfl | k_is | decide +kernel | exact ⟨by decide +kernel, by decide +kernel⟩)
    (case aPolicyinit => k_is)
    (case lPolicyinit => k_is)
    (case cPolicyinit => k_is)
    (case kPolicyinit => k_is)
    (case qPolicyinitfn => first | rfl | k_is | decide +kernel | exact ⟨by decide +kernel, by decide +kernel⟩)
    (case dPolicyinit => k_is)
    (case dkPolicyinitevery => k_is)
    (case dkPolicyinitquick => k_is)
    (case aPolicyeq => k_is)
    (case lPolicyeq => k_is)
    (case cPolicyeq => k_is)
    (case kPolicyeq => k_is)
    (case qPolicyeqfn => first | rfl | k_is | decide +kernel | exact ⟨by decide +kernel, by decide +kernel⟩)
    (case aSettinginit => k_is)
    (case lSettinginit => k_is)
    (case cSettinginit => k_is)
    (case kSettinginit => k_is)
    (case qSettinginitfn => first | rfl | k_is | decide +kernel | exact ⟨by decide +kernel, by decide +kernel⟩)
    (case g_O => k_is)
    (case e_O => k_is)
    (case y_O => k_is)
    (case h_O => k_is)
    (case m_O => k_is)
    (case g_W => k_is)
    (case e_W => k_is)
    (case y_W => k_is)
    (case h_W => k_is)
    (case m_W => k_is)
    (case g_T => k_is)
    (case e_T => k_is)
    (case y_T => k_is)
    (case h_T => k_is)
    (case m_T => k_is)
    (case g_L => k_is)
    (case e_L => k_is)
    (case y_L => k_is)
    (case h_L => k_is)
    (case m_L => k_is)
    (case m_B => k_is)
    (case m_V => k_is)
    (case w_B => k_is)
    (case v_B => k_is)
    (case u_B => k_is)
    (case o_B => k_is)
    (case s_NoneType => k_is)
    (case b_NoneType => k_is)
    (case s_bool => k_is)
    (case b_bool => k_is)
    (case s_int => k_is)
    (case b_int => k_is)
    (case s_str => k_is)
    (case b_str => k_is)
    (case s_list => k_is)
    (case b_list => k_is)
    (case s_tuple => k_is)
    (case b_tuple => k_is)
    (case s_dict => k_is)
    (case y_P => k_is)
    (case qcd => exact rfl)
    (case qlc => first | k_is | rfl)
    (case qp11 => first | rfl | k_is | decide +kernel | exact ⟨by decide +kernel, by decide +kernel⟩)
    (case qe11 => first | rfl | k_is | decide +kernel | exact ⟨by decide +kernel, by decide +kernel⟩)
    (case qe18 => first | rfl | k_is | decide +kernel | exact ⟨by decide +kernel, by decide +kernel⟩)
    (case qe7 => first | rfl | k_is | decide +kernel | exact ⟨by decide +kernel, by decide +kernel⟩)
    (case qe9 => first | rfl | k_is | decide +kernel | exact ⟨by decide +kernel, by decide +kernel⟩)
    (case qe10 => first | rfl | k_is | decide +kernel | exact ⟨by decide +kernel, by decide +kernel⟩)
    (case qne => decide +kernel)
    (case qlp => first | k_is | rfl | decide +kernel)
    (case zisinstance => k_is)
    (case zint => k_is)
    (case zbool => k_is)
    (case ztuple => k_is)
    (case zlen => k_is)
    (case zrange => k_is)
    (case zstr => k_is)
    (case zrepr => k_is)
    (case zall => k_is)
    (case zmax => k_is)
    (case zmin => k_is)
    (case zabs => k_is)
    (case zlist => k_is)
    (case zValueError => k_is)
    (case iMOST_SIZE => k_is)
    (case iMOST_EVERY => k_is)
    (case iMOST_QUICK => k_is)
#print axioms PySem.Challenge.cw_latewords_k02_settings_refused_holds
