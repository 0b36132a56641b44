import PyProof.Rows.All
import Wide.All
import OpenK.AllK
import Wide.FinOn
import HandS.ForMost
import HandS.Exc
import HandS.ExcOwn
import HandS.ExcInit
import HandS.ExcField
import HandS.TryMany
import HandS.WordsExc
import HandS.IsInst
import HandS.Wide
import HandS.Evl
import HandS.RaiseMore
import HandS.Defaults
import HandS.Flow
import HandS.Walk
import PyProof.ReprLen
import HandS.DeepEq
import HandS.ExcIs
import HandS.More
import PySem.Challenge.RW_latewords_k04_conversations_and_turns
set_option Elab.async false
set_option linter.all false
set_option maxRecDepth 100000
set_option maxHeartbeats 8000000
namespace L3
open PySem PySem.Spec PyProof.Rows L2 Evl
/-! ### data in a heap that grows -/
section
variable {K : PySem.W.Frag} {H H1 : Hp}
mutual
theorem dp_ex (e : Ex H H1) : ∀ {d : PyData} {x : V}, Dp K H x d → Dp K H1 x d
  | _, _, .non => .non
  | _, _, .bl b => .bl b
  | _, _, .int i => .int i
  | _, _, .str x => .str x
  | _, _, .lst h a => .lst (ex_l e h) (dps_ex e a)
  | _, _, .tup h a => .tup (ex_t e h) (dps_ex e a)
theorem dps_ex (e : Ex H H1) : ∀ {ds : List PyData} {xs : List V}, DpAll K H xs ds → DpAll K H1 xs ds
  | _, _, .nil => .nil
  | _, _, .cons a r => .cons (dp_ex e a) (dps_ex e r)
end
/-- the name of a datum's type -/
def tyN : PyData → String
  | .none => "NoneType"
  | .bool _ => "bool"
  | .int _ => "int"
  | .str _ => "str"
  | .list _ => "list"
  | .tuple _ => "tuple"
  | .dict _ => "dict"
theorem ty_list {a : Addr} {xs : List V} (h : SqL K H a xs) : TyX K H (.ref a) (.type "list") := by
  rcases h with (h | ⟨o, h⟩) | ⟨o, its, n, h, c, _⟩
  · exact .base (.lst h)
  · exact .base (.frz h)
  · exact .kList h c
theorem ty_tup {a : Addr} {xs : List V} (h : SqT K H a xs) : TyX K H (.ref a) (.type "tuple") := by
  rcases h with (h | ⟨o, h⟩) | ⟨o, its, n, h, c, _⟩
  · exact .base (.tup h)
  · exact .fTuple h
  · exact .kTuple h c
theorem dp_ty {d : PyData} {x : V} (h : Dp K H x d) : TyX K H x (.type (tyN d)) := by
  cases h with
  | non => exact .base .non
  | bl b => exact .base (.bl b)
  | int i => exact .base (.int i)
  | str z => exact .base (.str z)
  | lst h _ => exact ty_list h
  | tup h _ => exact ty_tup h
end
def isIntD : PyData → Bool
  | .int _ => true
  | .bool _ => true
  | _ => false
def isBoolD : PyData → Bool
  | .bool _ => true
  | _ => false
def isListD : PyData → Bool
  | .list _ => true
  | _ => false
def isTupD : PyData → Bool
  | .tuple _ => true
  | _ => false
def isStrD : PyData → Bool
  | .str _ => true
  | _ => false
theorem kit_int (d : PyData) : kitB (tyN d) "int" = some (isIntD d) := by
  cases d <;> (dsimp only [tyN, isIntD, isBoolD, isListD, isTupD, isStrD]; decide +kernel)
theorem kit_bool (d : PyData) : kitB (tyN d) "bool" = some (isBoolD d) := by
  cases d <;> (dsimp only [tyN, isIntD, isBoolD, isListD, isTupD, isStrD]; decide +kernel)
theorem kit_list (d : PyData) : kitB (tyN d) "list" = some (isListD d) := by
  cases d <;> (dsimp only [tyN, isIntD, isBoolD, isListD, isTupD, isStrD]; decide +kernel)
theorem kit_tuple (d : PyData) : kitB (tyN d) "tuple" = some (isTupD d) := by
  cases d <;> (dsimp only [tyN, isIntD, isBoolD, isListD, isTupD, isStrD]; decide +kernel)
theorem kit_str (d : PyData) : kitB (tyN d) "str" = some (isStrD d) := by
  cases d <;> (dsimp only [tyN, isIntD, isBoolD, isListD, isTupD, isStrD]; decide +kernel)
section
variable {K : PySem.W.Frag} {σ : L2.St} {H H' : Hp} {ta tb tc te tx : TE} {t u : TT} {x y z v : V} {r : R2}
/-- isinstance(x, T), T a built-in type by its name -/
theorem ev_isi {d : PyData} {n : String} {b : Bool} (ha : Ev ta σ H x) (hd : Dp K H x d) (hb : kitB (tyN d) n = some b) :
    Ev (tCB (rIsi K) (tCons ta (tCons (tC (.ty n)) tNil))) σ H (.bl b) :=
  ev_cb (ea_cons ha (ea_cons ev_c ea_nil)) fun H1 e Q q => ⟨x, .ty n, _, _, b, rfl, .ty n, dp_ty (dp_ex e hd), kit_ty hb, q H1 (Ex.refl H1)⟩
/-- a op b op c of three ints -/
theorem ev_chain {g g' : Int → Int → Bool} {i j k : Int} (ha : Ev ta σ H (.int i)) (hb : Ev tb σ H (.int j)) (hc : Ev tc σ H (.int k)) :
    Ev (tChain (rI0 fun i j => .bl (g i j)) (rI0 fun i j => .bl (g' i j)) ta tb tc) σ H (.bl (g i j && g' j k)) := fun H1 e Q q =>
  ha H1 e _ fun H2 e2 => hb H2 (e.trans e2) _ fun H3 e3 => ⟨i, j, rfl, rfl, g i j, rfl, by
    cases h : g i j with
    | true =>
      rw [h] at q
      show tc σ H3 _
      exact hc H3 ((e.trans e2).trans e3) _ fun H4 e4 => ⟨j, k, rfl, rfl, q H4 ((e2.trans e3).trans e4)⟩
    | false =>
      rw [h] at q
      show Q (.bl false) H3
      exact q H3 (e2.trans e3)⟩
end
/-- a built-in type by its name, as a value -/
theorem pe_ty {X : Cx} {x : Str} {pos : Pos} (n : String) (hm : X.mg x = none) (hv : bootBuiltins x = some (.type n) := by decide +kernel) (hg : Gl X x := by rfl)
    (hn : x ≠ "__name__" := by decide) (hd : (x == ("__debug__" : Str)) = false := by decide) : PE X (.Name x pos) (tC (.ty n)) :=
  pe_bltn (v := .ty n) (u := .type n) hg hm hv rfl hn hd
end L3

namespace L3
open PySem PySem.Spec PyProof.Rows L2 Evl
/-! ### loops over new pairs -/
section
variable {K : PySem.W.Frag} {σ : L2.St} {H : Hp} {D : Ends} {tu tz : TS}
/-- for i, x in enumerate(list): slots j and k -/
theorem s_forEn {a : Addr} {xs : List V} {ta : TA} {j k : Nat} (h : EvA ta σ H [.ref a]) (hx : SqL K H a xs) (Pv : Nat → L2.St → Hp → Prop) (h0 : ∀ H1, Ex H H1 → Pv 0 σ H1)
    (hl : ∀ i σ' H', i ≤ xs.length → Pv i σ' H' → SqL K H' a xs)
    (hs : ∀ i x σ' H', xs[i]? = some x → Pv i σ' H' → ∀ H1, Ex H' H1 → tu { D with nx := Pv (i + 1), ct := Pv (i + 1), bk := D.nx } ((σ'.set j (some (.int (i : Nat)))).set k (some x)) H1)
    (hd : ∀ σ' H', Pv xs.length σ' H' → D.nx σ' H') : tFor (iEnum K ta) (gTup K 2 (gCons (gName j) (gCons (gName k) gNil))) tu D σ H :=
  h H (Ex.refl H) _ fun H1 e => ⟨a, xs, rfl, ex_l e hx, for_it (walk_enum (xs := xs)) Pv (h0 H1 e) (fun i σ' H' hi p => hl i σ' H' hi p) (fun i v σ' H' H2 hi p y => by
    obtain ⟨T, x, z, rfl, hT, rfl, hx1, hz⟩ := y
    cases hx1
    refine ⟨T, _, rfl, Or.inl (Or.inl upd_same), rfl, ?_⟩
    refine ⟨_, _, rfl, _, _, rfl, rfl, ?_⟩
    exact hs i z σ' H' hz p _ (Ex.new hT)) hd⟩
theorem q_forEn {a : Addr} {xs : List V} {ta : TA} {j k : Nat} (h : EvA ta σ H [.ref a]) (hx : SqL K H a xs) (Pv : Nat → L2.St → Hp → Prop) (h0 : ∀ H1, Ex H H1 → Pv 0 σ H1)
    (hl : ∀ i σ' H', i ≤ xs.length → Pv i σ' H' → SqL K H' a xs)
    (hs : ∀ i x σ' H', xs[i]? = some x → Pv i σ' H' → ∀ H1, Ex H' H1 → tu { D with nx := Pv (i + 1), ct := Pv (i + 1), bk := tz D } ((σ'.set j (some (.int (i : Nat)))).set k (some x)) H1)
    (hd : ∀ σ' H', Pv xs.length σ' H' → tz D σ' H') : tSeq (tFor (iEnum K ta) (gTup K 2 (gCons (gName j) (gCons (gName k) gNil))) tu) tz D σ H :=
  s_forEn (D := { D with nx := tz D }) h hx Pv h0 hl hs hd
end
/-! ### an own error class with one field, told by its __init__ -/
/-- an error of the class at C is in the air, its own dict holds f = v; all that stood stands -/
def ErrV (C : Addr) (f : Str) (v : V) (H : Hp) (E : XK) : Prop := ∀ (d : Addr) (H' : Hp), Ex H H' → H d = none → H' d = some (.xd [(f, v)]) → E (.ref C) (some d) H'
theorem ErrV.go {C : Addr} {f : Str} {v : V} {H H1 : Hp} {E : XK} (k : ErrV C f v H E) (e : Ex H H1) : ErrV C f v H1 E := fun d H' e2 hd h => k d H' (e.trans e2) (fresh_back e hd) h
/-- __init__(self, f): self.f = f, for a fresh error -/
def spErr (K : PySem.W.Frag) (C : Addr) (f : Str) : Sp := fun vs H Q _ => ∃ (a : Addr) (v : V), vs = [.ref a, v] ∧ OexC K C ∧ PySem.W.findIn K (.ref C) f = some none ∧ H a = some (exo a C none) ∧
  ∀ dx, H dx = none → dx ≠ a → Q .non (upd (upd H dx (exd dx [(f, v)])) a (exo a C (some dx)))
/-- what is known of such a class and of its __init__, at fI -/
structure ErC (P : Program) (w : World) (K : PySem.W.Frag) (mg : Str → Option Value) (base : Heap) (x : Str) (f : Str) (C fI : Addr) (fd : FuncData) : Prop where
  oex : OexC K C
  hm : mg x = some (.ref C)
  iC : PySem.W.findIn K (.ref C) "__init__" = some (some (.ref fI))
  tI : PySem.W.typeIn K (.ref fI) = some (.type "function")
  no : PySem.W.findIn K (.ref C) f = some none
  ok : FnOk P w K mg base CX0 1 fI fd ["self", f] (spErr K C f)
  bi : Binds K fd ["self", f] []
/-- raise C(e) -/
def tRz (K : PySem.W.Frag) (C : Addr) (f : Str) (W : WX) (te : TE) : TS := fun _ σ H => tMkO C (spErr K C f) [] (tCons te tNil) σ H fun cls d H' => W cls d σ H'
theorem ps_rz {X : Cx} {x f : Str} {C fI : Addr} {fd : FuncData} {W : WX} {e : Expr} {te : TE} {p pos pos' : Pos} (hc : X.calm = true) (T : ErC X.prog X.w X.K X.mg X.base x f C fI fd) (hr : Room 2 X.A) (tk : Takes X W) (he : PA X [e] (tCons te tNil)) (hg : Gl X x := by rfl)
    (hdb : (x == ("__debug__" : Str)) = false := by decide) (hst : starEach (e :: []) X.env = (false, eval e X.env) :: starEach [] X.env := by rfl) (hpl : (backTo pos (starEach [] X.env)).any (·.1) = false := by rfl) :
    PS X (.Raise (some (.Call (.Name x p) [e] [] pos)) none pos') (tRz X.K C f W te) :=
  ps_raise hc tk (pmk_oex (sp := spErr X.K C f) T.oex T.iC T.tI T.ok hr T.bi .nil pass0 hg T.hm he hdb hst hpl)
theorem s_rz {K : PySem.W.Frag} {C : Addr} {f : Str} {W : WX} {te : TE} {σ : L2.St} {H : Hp} {v : V} {D : Ends} (h : Ev te σ H v) (ox : OexC K C) (no : PySem.W.findIn K (.ref C) f = some none)
    (k : ErrV C f v H fun cls d H' => W cls d σ H') : tRz K C f W te D σ H := by
  refine h H (Ex.refl H) _ fun H1 e => ?_
  refine ⟨by show 1 ≤ 1000; decide, fun a ha => ⟨a, v, rfl, ox, no, upd_same, fun dx hdx hne => ⟨rfl, dx, [(f, v)], upd_same, ?_, ?_, ?_⟩⟩⟩
  · rw [upd_ne hne]
    exact upd_same
  · rw [upd_ne hne] at hdx
    exact hdx
  · rw [upd_ne hne] at hdx
    have eH : upd (del (upd (upd (upd H1 a (exo a C none)) dx (exd dx [(f, v)])) a (exo a C (some dx))) a) dx (.xd [(f, v)]) = upd H1 dx (.xd [(f, v)]) := by
      funext b
      by_cases hb : b = dx
      · rw [hb, upd_same, upd_same]
      · rw [upd_ne hb, upd_ne hb]
        by_cases hba : b = a
        · rw [hba, del_same, ha]
        · rw [del_ne hba, upd_ne hba, upd_ne hb, upd_ne hba]
    rw [eH]
    exact k dx _ (e.trans (Ex.new hdx)) (fresh_back e hdx) upd_same
/-- the body of such an __init__ -/
theorem s_ini {K : PySem.W.Frag} {C : Addr} {f : Str} {vs : List V} {H : Hp} {Q : VK} {E : XK} {N : List Str} (h : spErr K C f vs H Q E) (hN : start N vs = vs.map some) :
    tOst K f (tVar 0) (tVar 1) { nx := fun _ H' => Q .non H', rt := Q } (start N vs) H := by
  obtain ⟨a, v, rfl, ox, no, ha, k⟩ := h
  rw [hN]
  exact ⟨v, rfl, .ref a, rfl, a, C, rfl, ox, no, .inl ⟨ha, k⟩⟩
end L3

namespace L3
open PySem PySem.Spec PyProof.Rows L2 Evl
/-! ### a list of one's own beside what stands -/
section
variable {K : PySem.W.Frag} {H H1 H2 : Hp} {l : Addr}
theorem ex_del_self : Ex (del H l) H := fun a o e => by
  by_cases h : a = l
  · rw [h, del_same] at e
    cases e
  · rw [del_ne h] at e
    exact e
theorem ex_del (e : Ex H H1) : Ex (del H l) (del H1 l) := fun a o h => by
  by_cases c : a = l
  · rw [c, del_same] at h
    cases h
  · rw [del_ne c] at h ⊢
    exact e a o h
theorem del_upd {o : HO} : del (upd H l o) l = del H l := by
  funext b
  by_cases c : b = l
  · rw [c, del_same, del_same]
  · rw [del_ne c, del_ne c, upd_ne c]
/-- what does not know l stands beside l -/
theorem ex_beside (e : Ex H H1) (h : H l = none) : Ex H (del H1 l) := fun a o q => by
  have c : a ≠ l := ne_of_none q h
  rw [del_ne c]
  exact e a o q
/-- a new list of data is handed back: what stood stands beside it -/
def RetLD (K : PySem.W.Frag) (ds : List PyData) (H : Hp) (Q : VK) : Prop := ∀ p xs H2, H p = none → Ex H (del H2 p) → H2 p = some (.lst xs) → DpAll K (del H2 p) xs ds → Q (.ref p) H2
theorem RetLD.go {ds : List PyData} {Q : VK} (k : RetLD K ds H Q) (e : Ex H H1) : RetLD K ds H1 Q := fun p xs H2 h1 h2 h3 h4 => k p xs H2 (fresh_back e h1) (e.trans h2) h3 h4
theorem dps_snoc {xs : List V} {ds : List PyData} {x : V} {d : PyData} (h : DpAll K H xs ds) (hx : Dp K H x d) : DpAll K H (xs ++ [x]) (ds ++ [d]) := by
  induction ds generalizing xs with
  | nil =>
    cases h
    exact .cons hx .nil
  | cons e es ih =>
    cases h with
    | cons a r => exact .cons a (ih r)
theorem dps_len' : ∀ {xs : List V} {ds : List PyData}, DpAll K H xs ds → xs.length = ds.length
  | _, _, .nil => rfl
  | _, _, .cons _ r => by rw [List.length_cons, List.length_cons, dps_len' r]
theorem dps_at {xs : List V} {ds : List PyData} {i : Nat} {d : PyData} (h : DpAll K H xs ds) (hi : ds[i]? = some d) : ∃ x, xs[i]? = some x ∧ Dp K H x d := by
  induction ds generalizing xs i with
  | nil => simp at hi
  | cons e es ih =>
    cases h with
    | @cons v vs _ _ a r =>
      cases i with
      | zero =>
        simp at hi
        exact ⟨v, by simp, hi ▸ a⟩
      | succ j =>
        obtain ⟨x, h1, h2⟩ := ih r (by simpa using hi)
        exact ⟨x, by simpa using h1, h2⟩
end
/-! ### a conversation: its writes -/
abbrev Wr := Int × Int × Str
def wD (w : Wr) : PyData := .tuple [.int w.1, .int w.2.1, .str w.2.2]
def cD (ws : List Wr) : PyData := .list (ws.map wD)
/-- the endpoint of the j-th write -/
def spk (ws : List Wr) (j : Nat) : Int := (ws.getD j (0, 0, "")).1
theorem spk_of {ws : List Wr} {j : Nat} {w : Wr} (h : ws[j]? = some w) : spk ws j = w.1 := by
  unfold spk
  rw [List.getD_eq_getElem?_getD, h]
  rfl
section
variable {K : PySem.W.Frag} {H : Hp}
theorem wr_at {xs : List V} {ws : List Wr} {j : Nat} (h : DpAll K H xs (ws.map wD)) (hj : j < ws.length) : ∃ (t : Addr) (w : Wr), ws[j]? = some w ∧ xs[j]? = some (.ref t) ∧ SqT K H t [.int w.1, .int w.2.1, .str w.2.2] := by
  have e : ws[j]? = some ws[j] := by simp [hj]
  obtain ⟨x, h1, h2⟩ := dps_at h (i := j) (d := wD ws[j]) (by rw [List.getElem?_map, e]; rfl)
  cases h2 with
  | tup hs ha =>
    cases ha with
    | cons a1 r1 =>
    cases r1 with
    | cons a2 r2 =>
    cases r2 with
    | cons a3 r3 =>
    cases r3
    cases a1
    cases a2
    cases a3
    exact ⟨_, _, e, h1, hs⟩
end
/-! ### turns -/
/-- one step of the search for turns: what is found, the start of the running one -/
def tstep (ws : List Wr) (a : List (Int × Nat × Nat) × Nat) (stop : Nat) : List (Int × Nat × Nat) × Nat :=
  if stop = ws.length ∨ spk ws stop ≠ spk ws a.2 then (a.1 ++ [(spk ws a.2, a.2, stop)], stop) else a
def tN (ws : List Wr) : Nat → List (Int × Nat × Nat) × Nat
  | 0 => ([], 0)
  | i + 1 => tstep ws (tN ws i) (i + 1)
def turnsM (ws : List Wr) : List (Int × Nat × Nat) := (tN ws ws.length).1
def tD (t : Int × Nat × Nat) : PyData := .tuple [.int t.1, .int (t.2.1 : Int), .int (t.2.2 : Int)]
theorem tN_le (ws : List Wr) : ∀ i, (tN ws i).2 ≤ i
  | 0 => Nat.le_refl _
  | i + 1 => by
    have h := tN_le ws i
    show (tstep ws (tN ws i) (i + 1)).2 ≤ i + 1
    unfold tstep
    split
    · exact Nat.le_refl _
    · omega
theorem tN_len (ws : List Wr) : ∀ i, (tN ws i).1.length ≤ i
  | 0 => Nat.le_refl _
  | i + 1 => by
    have h := tN_len ws i
    show (tstep ws (tN ws i) (i + 1)).1.length ≤ i + 1
    unfold tstep
    split
    · rw [List.length_append, List.length_singleton]
      omega
    · omega
/-- a turn begins at the j-th write -/
def isSt (ws : List Wr) (j : Nat) : Prop := j = 0 ∨ spk ws (j - 1) ≠ spk ws j
instance (ws : List Wr) (j : Nat) : Decidable (isSt ws j) := inferInstanceAs (Decidable (_ ∨ _))
def starts (ts : List (Int × Nat × Nat)) : List Nat := ts.map fun t => t.2.1
structure TI (ws : List Wr) (i : Nat) : Prop where
  mem : ∀ j, j ∈ starts (tN ws i).1 ↔ j < (tN ws i).2 ∧ isSt ws j
  here : (tN ws i).2 < ws.length → isSt ws (tN ws i).2
  run : i < ws.length → ∀ j, (tN ws i).2 ≤ j → j ≤ i → spk ws j = spk ws (tN ws i).2
  fin : i = ws.length → (tN ws i).2 = ws.length
theorem ti_all (ws : List Wr) : ∀ i, i ≤ ws.length → TI ws i
  | 0, _ => ⟨fun j => ⟨(fun h => nomatch h), fun h => absurd h.1 (Nat.not_lt_zero _)⟩, fun _ => Or.inl rfl, fun _ j _ h => by rw [Nat.le_zero.mp h] <;> rfl, fun h => h⟩
  | i + 1, hi => by
    have I := ti_all ws i (by omega)
    have hst := tN_le ws i
    by_cases c : i + 1 = ws.length ∨ spk ws (i + 1) ≠ spk ws (tN ws i).2
    · have eN : tN ws (i + 1) = ((tN ws i).1 ++ [(spk ws (tN ws i).2, (tN ws i).2, i + 1)], i + 1) := if_pos c
      refine ⟨fun j => ?_, fun h => ?_, fun h j h1 h2 => ?_, fun h => ?_⟩
      · rw [eN]
        show j ∈ List.map (fun t => t.2.1) ((tN ws i).1 ++ [(spk ws (tN ws i).2, (tN ws i).2, i + 1)]) ↔ j < i + 1 ∧ isSt ws j
        rw [List.map_append, List.mem_append]
        have m := I.mem j
        constructor
        · intro h
          rcases h with h | h
          · have q := m.mp h
            exact ⟨by omega, q.2⟩
          · have q : j = (tN ws i).2 := by simpa using h
            rw [q]
            exact ⟨by omega, I.here (by omega)⟩
        · rintro ⟨h1, h2⟩
          by_cases c1 : j < (tN ws i).2
          · exact Or.inl (m.mpr ⟨c1, h2⟩)
          · by_cases c2 : j = (tN ws i).2
            · right
              rw [c2]
              simp
            · exfalso
              have r1 := I.run (by omega) j (by omega) (by omega)
              have r2 := I.run (by omega) (j - 1) (by omega) (by omega)
              rcases h2 with h2 | h2
              · omega
              · exact h2 (r2.trans r1.symm)
      · rw [eN] at h ⊢
        have h' : i + 1 < ws.length := h
        have c' : spk ws (i + 1) ≠ spk ws (tN ws i).2 := c.resolve_left (by omega)
        have r1 := I.run (by omega) i (by omega) (Nat.le_refl _)
        refine Or.inr fun z => c' ?_
        have z' : spk ws i = spk ws (i + 1) := z
        rw [← z', r1]
      · rw [eN] at h1 ⊢
        have h1' : i + 1 ≤ j := h1
        have e : j = i + 1 := by omega
        rw [e]
      · rw [eN]
        exact h
    · have eN : tN ws (i + 1) = tN ws i := if_neg c
      have c1 : i + 1 ≠ ws.length := fun z => c (Or.inl z)
      have c2 : spk ws (i + 1) = spk ws (tN ws i).2 := Classical.byContradiction fun z => c (Or.inr z)
      refine ⟨fun j => ?_, fun h => ?_, fun h j h1 h2 => ?_, fun h => absurd h c1⟩
      · rw [eN]
        exact I.mem j
      · rw [eN] at h ⊢
        exact I.here h
      · rw [eN] at h1 ⊢
        by_cases c3 : j = i + 1
        · rw [c3, c2]
        · exact I.run (by omega) j h1 (by omega)
theorem starts_turns (ws : List Wr) (j : Nat) : j ∈ starts (turnsM ws) ↔ j < ws.length ∧ isSt ws j := by
  have I := ti_all ws ws.length (Nat.le_refl _)
  have m := I.mem j
  rw [I.fin rfl] at m
  exact m
/-- how many clearings may stand ahead of each write -/
def limM (ws : List Wr) : List Int := (List.range ws.length).map fun j => if isSt ws j then 0 else 2
theorem set_all {α : Type} (z : α) : ∀ (ss : List Nat) (L : List α) (j : Nat), (ss.foldl (fun L s => L.set s z) L)[j]? = if j ∈ ss then L[j]?.map (fun _ => z) else L[j]?
  | [], L, j => by simp
  | s :: ss, L, j => by
    rw [List.foldl_cons, set_all z ss (L.set s z) j]
    by_cases c : j = s
    · subst c
      rw [if_pos (List.mem_cons_self)]
      by_cases h : j < L.length
      · have e1 : (L.set j z)[j]? = some z := List.getElem?_set_self h
        rw [e1]
        have e2 : L[j]? = some L[j] := by simp [h]
        rw [e2]
        split <;> rfl
      · have e2 : L[j]? = none := by simp; omega
        have e1 : (L.set j z)[j]? = none := by simp; omega
        rw [e1, e2]
        split <;> rfl
    · have e1 : (L.set s z)[j]? = L[j]? := List.getElem?_set_ne (fun q => c q.symm)
      rw [e1]
      have e2 : (j ∈ s :: ss) ↔ j ∈ ss := by
        rw [List.mem_cons]
        exact ⟨fun q => q.resolve_left c, Or.inr⟩
      by_cases h : j ∈ ss
      · rw [if_pos h, if_pos (e2.mpr h)]
      · rw [if_neg h, if_neg fun q => h (e2.mp q)]
theorem lim_set (ws : List Wr) : (starts (turnsM ws)).foldl (fun L s => L.set s (0 : Int)) (List.replicate ws.length 2) = limM ws := by
  refine List.ext_getElem? fun j => ?_
  rw [set_all]
  unfold limM
  rw [List.getElem?_map]
  by_cases h : j < ws.length
  · have e1 : (List.replicate ws.length (2 : Int))[j]? = some 2 := by simp [h]
    have e2 : (List.range ws.length)[j]? = some j := by simp [h]
    rw [e1, e2]
    by_cases c : isSt ws j
    · rw [if_pos ((starts_turns ws j).mpr ⟨h, c⟩)]
      show some (0 : Int) = some (if isSt ws j then 0 else 2)
      rw [if_pos c]
    · rw [if_neg fun q => c ((starts_turns ws j).mp q).2]
      show some (2 : Int) = some (if isSt ws j then 0 else 2)
      rw [if_neg c]
  · have e1 : (List.replicate ws.length (2 : Int))[j]? = none := by simp; omega
    have e2 : (List.range ws.length)[j]? = none := by simp; omega
    rw [e1, e2]
    split <;> rfl
theorem yes_then {te : TE} {σ : L2.St} {H : Hp} {k1 : V → Hp → Prop} {k2 : Hp → Prop} (h : te σ H k1) : tYes σ H fun b H3 => if b = true then te σ H3 k1 else k2 H3 := by
  show (if true = true then te σ H k1 else k2 H)
  rw [if_pos rfl]
  exact h
/-! ### [v] * n -/
section
variable {K : PySem.W.Frag} {σ : L2.St} {H : Hp} {te tn : TE} {v : V}
theorem el_rep {n : Nat} (h : Ev te σ H v) (hn : Ev tn σ H (.int (n : Int))) (hz : n ≤ 100000) : EvL (tOp rRep (tLst (tCons te tNil)) tn) σ H (List.replicate n v) := fun H1 e Q q =>
  h H1 e _ fun H2 e2 => ⟨by show 1 ≤ sizeLine; decide, fun l hl => hn _ ((e.trans e2).trans (Ex.new hl)) _ fun H3 e3 => ⟨l, (n : Int), [v], rfl, rfl, e3 l _ upd_same, by omega, by omega, by
      have q1 : [v].length * ((n : Int)).toNat = n := by simp
      rw [q1]
      exact sz_of hz, fun p hp => by
        have q2 : (List.replicate ((n : Int)).toNat [v]).flatten = List.replicate n v := by simp
        rw [q2]
        have hp1 : H1 p = none := fresh_back (e2.trans ((Ex.new hl).trans e3)) hp
        exact q p _ hp1 ((e2.trans ((Ex.new hl).trans e3)).trans (Ex.new hp)) upd_same⟩⟩
end
section
variable {K : PySem.W.Frag} {σ : L2.St} {H : Hp} {ta tb : TE} {x y : V} {d e : PyData}
theorem rv_eqD (hd : Dp K H x d) (he : Dp K H y e) (s1 : SeqAt.shaped d = true) (s2 : SeqAt.shaped e = true) : RV (rEqD K) x y H (.bl (PyData.eqv d e)) := fun H1 ex Q q => ⟨d, e, dp_ex ex hd, dp_ex ex he, s1, s2, q H1 (Ex.refl H1)⟩
theorem rv_neD (hd : Dp K H x d) (he : Dp K H y e) (s1 : SeqAt.shaped d = true) (s2 : SeqAt.shaped e = true) : RV (rNeD K) x y H (.bl (!PyData.eqv d e)) := fun H1 ex Q q => ⟨d, e, dp_ex ex hd, dp_ex ex he, s1, s2, q H1 (Ex.refl H1)⟩
theorem eqv_str (d : PyData) (s : Str) : PyData.eqv d (.str s) = (match d with | .str z => decide (z = s) | _ => false) := by
  cases d with
  | str z =>
    show (z == s) = decide (z = s)
    by_cases q : z = s
    · rw [q, decide_eq_true rfl, beq_self_eq_true]
    · rw [decide_eq_false q]
      exact beq_eq_false_iff_ne.mpr q
  | _ => rfl
end
end L3

namespace L3
open PySem PySem.Spec PyProof.Rows L2 Evl
/-! ### a try whose clauses stand one after the other, some with a name -/
abbrev Clause := Value × Option Nat × (Addr → Value → Option Addr → TS)
/-- behind a named suite the name is gone -/
def gone (D : Ends) (i : Nat) : Ends := { nx := fun σ H => D.nx (σ.set i none) H, rt := D.rt, bk := fun σ H => D.bk (σ.set i none) H, ct := fun σ H => D.ct (σ.set i none) H }
def suiteOf (D : Ends) (o : Option Nat) (t : TS) (a : Addr) : L2.St → Hp → Prop := match o with
  | none => fun σ H => t D σ H
  | some i => fun σ H => t (gone D i) (σ.set i (some (.ref a))) H
def wCl (K : PySem.W.Frag) (Wout : WX) (D : Ends) : List Clause → WX
  | [] => Wout
  | (c, o, t) :: r => fun cls d σ H => ∃ b, PySem.W.exmOne K cls c = some b ∧ (b = true → ∀ a, H a = none → suiteOf D o (t a cls d) a σ H) ∧ (b = false → wCl K Wout D r cls d σ H)
inductive ClsOk (X : Cx) : List ExceptHandler → List Clause → Prop
  | nil : ClsOk X [] []
  | bare {x : Str} {c : Value} {t : Addr → Value → Option Addr → TS} {b : Stmt} {bs : List Stmt} {p q : Pos} {hs : List ExceptHandler} {l : List Clause} (hc : Names X x c)
      (hsu : ∀ (a : Addr) (o : Obj) (cls : Value) (d : Option Addr) (pn : List (Addr × Obj)), Zc cls d o → (∃ vs, o.data = .fields vs) → PSs (X.suite a ((a, o) :: pn)) (b :: bs) (t a cls d)) (r : ClsOk X hs l) :
      ClsOk X (.ExceptHandler (some (.Name x p)) none (b :: bs) q :: hs) ((c, none, t) :: l)
  | named {x n : Str} {i : Nat} {c : Value} {t : Addr → Value → Option Addr → TS} {b : Stmt} {bs : List Stmt} {p q : Pos} {hs : List ExceptHandler} {l : List Clause} (hN : X.N.Nodup) (hi : X.N[i]? = some n) (hn : X.env.kindOf n = some .local) (hc : Names X x c)
      (hsu : ∀ (a : Addr) (o : Obj) (cls : Value) (d : Option Addr) (pn : List (Addr × Obj)), Zc cls d o → (∃ vs, o.data = .fields vs) → PSs (X.suite a ((a, o) :: pn)) (b :: bs) (t a cls d)) (r : ClsOk X hs l) :
      ClsOk X (.ExceptHandler (some (.Name x p)) (some n) (b :: bs) q :: hs) ((c, some i, t) :: l)
theorem ps_tryC {X : Cx} {body : List Stmt} {h : ExceptHandler} {hs : List ExceptHandler} {l : List Clause} {pos : Pos} {tb : WX → TS} {Wout : WX} (st : X.stack = X.env :: X.outer) (fr : X.env.frame = some X.env.locals) (tk : Takes X Wout)
    (bo : ∀ (W : WX) (pn : List (Addr × Obj)) (xe : Value → Shared → Prop), Takes (X.tr pn xe) W → PassesOwn (model X.prog X.w) X.A X.env xe → PSs (X.tr pn xe) body (tb W))
    (cl : ClsOk X (h :: hs) l) : PS X (.Try body (h :: hs) [] [] pos) (fun D σ H => tb (wCl X.K Wout D l) D σ H) := by
  refine ⟨fun pins s σ H D I rd => ?_⟩
  have ok := I.ok
  have hfr : X.A.frames = some (X.env :: X.outer) := by rw [ok.frames, st]
  refine wpAny_Try_except ?_
  refine wpAny_mono ((bo (wCl X.K Wout D l) (X.pn ++ pins) (fun e z => wpAny (model X.prog X.w) X.A (noteFrame e X.env) (fun _ z2 => wpAny (model X.prog X.w) X.A (setFlight e none) (fun _ z3 =>
    wpAny (model X.prog X.w) X.A (handleBy e X.env (h :: hs)) (SP X pins D) X.xe z3) X.xe z2) X.xe z) (fun u s' hit => ?_) PassesOwn.looking).run [] s σ H D (I.toTry _) rd) (fun f z sp => ?_) (fun e z he => he)
  · obtain ⟨a, B, s0, pins', σ', H', cls, d, rfl, J', nb, up, sky, na, os, ag, wish⟩ := hit
    have J : Inv X pins σ' H' s0 := J'.ofTry ok
    have sky' : Sky B (X.env :: X.outer) a (Zc cls d) X.env.locals s'.heap := by
      rw [← st]
      exact sky
    show wpAny (model X.prog X.w) X.A (noteFrame (.ref a) X.env) _ _ _
    refine Sky.land Zc.steady hfr fr sky' fun h3 fl up3 => ?_
    have J3 : Inv X pins σ' H' { s' with heap := h3 } := J.landed nb fl.1 (up.trans up3) os ag
    obtain ⟨o3, v3, at3, z3, d3⟩ := fl.there
    have off : a ∉ frs (X.env :: X.outer) := fun hm => by
      obtain ⟨_, o', e', nf⟩ := fl.2.2.1.mem hm
      rw [at3] at e'
      cases e'
      exact nf _ d3
    have nL : a ≠ X.env.locals := fun z => off (List.mem_filterMap.mpr ⟨X.env, List.mem_cons_self, by rw [fr, z]⟩)
    have nF : a ∉ X.fs := fun hm => by
      obtain ⟨e, he, q⟩ := List.mem_filterMap.mp hm
      exact off (List.mem_filterMap.mpr ⟨e, List.mem_cons_of_mem _ he, q⟩)
    have S3 := J3.suite at3 d3 na nL nF
    have typ : PySem.W.Looks (model X.prog X.w) h3 (typeOf (.ref a)) cls := fun A Q E s k q => wpAny_typeOf_ref (k _ _ at3) (by rw [z3.1]; exact q)
    have named : ∀ {x : Str} {c : Value} {p : Pos} {Q E : Value → Shared → Prop}, Names X x c → Q c { s' with heap := h3 } →
        wpAny (model X.prog X.w) (X.A.mark (some (.ref a))) (eval (.Name x p) X.env) Q E { s' with heap := h3 } := fun {x c p Q E} hc q => by
      obtain ⟨hg, hdb, hm | ⟨hm, hv, hne⟩⟩ := hc
      · exact ld_glob (X := X.suite a ((a, o3) :: (X.pn ++ pins))) S3 hg hm q hdb
      · exact ld_blt (X := X.suite a ((a, o3) :: (X.pn ++ pins))) S3 hg hm hv q hne hdb
    have go : ∀ {ks : List ExceptHandler} {ls : List Clause}, ClsOk X ks ls → wCl X.K Wout D ls cls d σ' H' →
        wpAny (model X.prog X.w) X.A (handleBy (.ref a) X.env ks) (SP X pins D) X.xe { s' with heap := h3 } := by
      intro ks ls hk
      induction hk with
      | nil =>
        intro wi
        refine wpAny_handleBy_nil ?_
        obtain ⟨y1, y2, y3, oe, vs, Ta, oT, ts, he, hz, hd, hv1, hrest⟩ := id fl
        unfold PySem.passOn
        refine wpAny_bind (wpAny_field he hd hv1 ?_)
        rw [if_neg (show ¬ ((Value.ref Ta == Value.none) = true) by simp)]
        have fin : wpAny (model X.prog X.w) X.A (setFlight (.ref a) X.env.frame) (fun _ w4 => wpAny (model X.prog X.w) X.A (throw (.ref a) : Sem Flow) (SP X pins D) X.xe w4) X.xe { s' with heap := h3 } := by
          rw [fr]
          refine HandSPX.setFlight_upZ fl fun h4 hh up4 => wpAny_throw (tk _ _ ?_)
          exact ⟨a, B, s0, pins, σ', H', cls, d, rfl, J, nb, (up.trans up3).trans up4, .inr (.inr (by rw [st]; exact hh)), na, os, ag, wi⟩
        first | exact wpAny_bind (wpAny_pure (wpAny_bind fin)) | exact wpAny_bind fin
      | @bare x c t b bs p q hs2 l2 hc hsu r ih =>
        intro wi
        obtain ⟨y, hy, yes, no⟩ := wi
        refine wpAny_handleBy_cons (codeAny_handlers_test ?_) (by intro q; cases q)
        have LM := PySem.W.exm_one (M := model X.prog X.w) (J3.kIn) typ hy
        refine named hc (LM.here ?_)
        cases y with
        | false =>
          show wpAny _ X.A (handleBy (.ref a) X.env hs2) _ _ _
          exact ih (no rfl)
        | true =>
          refine codeAny_handlers_suite ?_
          refine HandSPX.lands_againZ fl fun h4 fl4 up4 => ?_
          have J4 : Inv X pins σ' H' { s' with heap := h4 } := J.landed nb fl4.1 ((up.trans up3).trans up4) os ag
          obtain ⟨o4, v4, at4, z4, d4⟩ := fl4.there
          have S4 := J4.suite at4 d4 na nL nF
          refine wpAny_mono ((hsu a o4 cls d (X.pn ++ pins) z4 ⟨_, d4⟩).run [] _ _ H' D S4 (yes rfl a na)) (fun f s6 sp => ?_) (fun _ _ z => False.elim z)
          cases f with
          | ret u =>
            obtain ⟨v6, σ6, H6, S6, r6, q6⟩ := sp
            exact ⟨v6, σ6, H6, S6.unsuite ok, r6, q6⟩
          | next =>
            obtain ⟨σ6, H6, S6, q6⟩ := sp
            exact ⟨σ6, H6, S6.unsuite ok, q6⟩
          | brk =>
            obtain ⟨σ6, H6, S6, q6⟩ := sp
            exact ⟨σ6, H6, S6.unsuite ok, q6⟩
          | cont =>
            obtain ⟨σ6, H6, S6, q6⟩ := sp
            exact ⟨σ6, H6, S6.unsuite ok, q6⟩
      | @named x n i c t b bs p q hs2 l2 hN hi hn hc hsu r ih =>
        intro wi
        obtain ⟨y, hy, yes, no⟩ := wi
        refine wpAny_handleBy_cons (codeAny_handlers_test ?_) (by intro q; cases q)
        have LM := PySem.W.exm_one (M := model X.prog X.w) (J3.kIn) typ hy
        refine named hc (LM.here ?_)
        cases y with
        | false =>
          show wpAny _ X.A (handleBy (.ref a) X.env hs2) _ _ _
          exact ih (no rfl)
        | true =>
          refine codeAny_handlers_suite_as ?_
          refine HandSPX.lands_againZ fl fun h4 fl4 up4 => ?_
          have J4 : Inv X pins σ' H' { s' with heap := h4 } := J.landed nb fl4.1 ((up.trans up3).trans up4) os ag
          obtain ⟨o4, v4, at4, z4, d4⟩ := fl4.there
          have S4 := J4.suite at4 d4 na nL nF
          refine store_ok (X := X.suite a ((a, o4) :: (X.pn ++ pins))) (v := .ref a) S4 hN hi (.inl hn) rfl (fun s5 S5 => ?_) (.inr hn)
          refine wpAny_mono ((hsu a o4 cls d (X.pn ++ pins) z4 ⟨_, d4⟩).run [] s5 _ H' (gone D i) S5 (yes rfl a na)) (fun f s6 sp => ?_) (fun _ _ z => False.elim z)
          have out : ∀ {σ6 : L2.St} {H6 : Hp} {Q : Shared → Prop}, Inv (X.suite a ((a, o4) :: (X.pn ++ pins))) [] σ6 H6 s6 → (∀ s7, Inv X pins (σ6.set i none) H6 s7 → Q s7) →
              wpAny (model X.prog X.w) X.A (do bindName X.env n .none; unbindBehindTheSuite X.env n q) (fun _ s7 => Q s7) X.xe s6 := fun {σ6 H6 Q} S6 hq => gone_ok (S6.unsuite ok) hN hi hn hq
          cases f with
          | ret u =>
            obtain ⟨v6, σ6, H6, S6, r6, q6⟩ := sp
            exact out S6 fun s7 J7 => ⟨v6, _, H6, J7, r6, q6⟩
          | next =>
            obtain ⟨σ6, H6, S6, q6⟩ := sp
            exact out S6 fun s7 J7 => ⟨_, H6, J7, q6⟩
          | brk =>
            obtain ⟨σ6, H6, S6, q6⟩ := sp
            exact out S6 fun s7 J7 => ⟨_, H6, J7, q6⟩
          | cont =>
            obtain ⟨σ6, H6, S6, q6⟩ := sp
            exact out S6 fun s7 J7 => ⟨_, H6, J7, q6⟩
    exact go cl wish
  · cases f with
    | ret u =>
      obtain ⟨v, σ', H', J', r, q⟩ := sp
      exact ⟨v, σ', H', J'.ofTry ok, r, q⟩
    | next =>
      obtain ⟨σ', H', J', q⟩ := sp
      exact wpAny_execs_nil ⟨σ', H', J'.ofTry ok, q⟩
    | brk =>
      obtain ⟨σ', H', J', q⟩ := sp
      exact ⟨σ', H', J'.ofTry ok, q⟩
    | cont =>
      obtain ⟨σ', H', J', q⟩ := sp
      exact ⟨σ', H', J'.ofTry ok, q⟩
end L3

namespace L3
open PySem PySem.Spec PyProof.Rows L2 Evl
/-! ### repr of data -/
/-- what may be shown: no dict, not deep, a text of bounded length -/
structure Shw (d : PyData) : Prop where
  ok : d.showable = true
  nd : d.hasDict = false
  dp : d.depth ≤ 60
  sz : d.shown.length ≤ sizeLine
def rRepr (K : PySem.W.Frag) : List V → Hp → VK → Prop := fun xs H Q => ∃ x d, xs = [x] ∧ Dp K H x d ∧ Shw d ∧ Q (.str d.shown) H
theorem call_reprD {X : Cx} (hg : X.A.guards = some []) (hu : X.A.units + 64 < cLine) : CallR X (.builtin "repr") (rRepr X.K) := by
  intro pins s σ H xs us Q I r h
  obtain ⟨x, d, rfl, hd, sh, q⟩ := h
  obtain ⟨u, rfl, rx⟩ := vals1 r
  cases hd with
  | non =>
    cases (show u = Value.none from rx)
    exact PySem.P.repr_of_none ⟨.str _, H, I.tok _, ⟨_, rfl⟩, q⟩
  | bl b =>
    cases (show u = Value.bool b from rx)
    exact PySem.P.repr_of_bool ⟨.str _, H, I.tok _, ⟨_, rfl⟩, q⟩
  | int i =>
    obtain ⟨t, rfl⟩ := (show ∃ t, u = Value.int i t from rx)
    exact PySem.P.repr_of_int (of_decide_eq_true sh.ok) ⟨.str _, H, I.tok _, ⟨_, rfl⟩, q⟩
  | str z =>
    obtain ⟨t, rfl⟩ := (show ∃ t, u = Value.str z t from rx)
    exact PySem.P.repr_of_str ⟨.str _, H, I.tok _, ⟨_, rfl⟩, q⟩ sh.sz
  | lst hs ha =>
    obtain ⟨as, rd⟩ := Dp.reads I _ _ u (.lst hs ha) rx
    cases (show u = Value.ref _ from rx)
    exact repr_of_reads' rd sh.ok (fun z => by rw [sh.nd] at z; cases z) hg (by have := sh.dp; omega) (fun _ _ e => e) (fun h' uu tk hk => ⟨.str _, H, I.kept hk, ⟨_, rfl⟩, q⟩) sh.sz
  | tup hs ha =>
    obtain ⟨as, rd⟩ := Dp.reads I _ _ u (.tup hs ha) rx
    cases (show u = Value.ref _ from rx)
    exact repr_of_reads' rd sh.ok (fun z => by rw [sh.nd] at z; cases z) hg (by have := sh.dp; omega) (fun _ _ e => e) (fun h' uu tk hk => ⟨.str _, H, I.kept hk, ⟨_, rfl⟩, q⟩) sh.sz
/-! ### a def's promise where no repr is under way -/
structure FnG (P : Program) (w : World) (K : PySem.W.Frag) (mg : Str → Option Value) (base : Heap) (k : Nat) (f : Addr) (fd : FuncData) (ps : List Str) (sp : Sp) : Prop where
  len : ∀ vs H Q E, sp vs H Q E → vs.length = ps.length
  run : ∀ (A : Around) (outer : List Env) (s : Shared) (H : Hp) (args : Args) (us : List Value) (vs : List V) (Q : VK) (E : XK), A.guards = some [] → Room k A → Env0 P w K mg base A outer s H → BindsTo s fd args (ps.zip us) → Vals vs us → sp vs H Q E →
    codeAny (model P w) A (.call (.ref f) args) (CR CX0 outer P w H s Q E) s
section
variable {P : Program} {w : World} {K : PySem.W.Frag} {mg : Str → Option Value} {base : Heap}
theorem okG {x qual : Str} {st : Stmt} {f : Addr} {fd : FuncData} {N ps : List Str} {k : Nat} {sp : Sp} (F : Fun K x qual st f fd) (S : FnScope N ps (defScope st)) (len : ∀ vs H Q E, sp vs H Q E → vs.length = ps.length)
    (body : ∀ (cd : Value) (A : Around) (outer : List Env) (s : Shared) (H : Hp) (vs : List V) (Q : VK) (E : XK), (A.deeper (envOfC qual (defScope st) s.heap.objs.size f cd)).guards = some [] → Room k (A.deeper (envOfC qual (defScope st) s.heap.objs.size f cd)) → sp vs H Q E →
      ∃ t, PSs (cxOf CX0 P w K mg base N qual (defScope st) f cd A outer s H E).nox (defBody st) t ∧ t { nx := fun _ H' => Q .non H', rt := Q } (start N vs) H) : FnG P w K mg base (k + 1) f fd ps sp := by
  obtain ⟨oc, od, kV, doc, pm, an, cd, ct, osl, rfl, lk, hcd⟩ := F.ex
  refine ⟨len, fun A outer s H args us vs Q E hg hr e0 hb r hsp => ?_⟩
  have hl := len vs H Q E hsp
  have KX : K.In s.heap := e0.mod.kin.keeps fun b o e => (e0.bs b o e).1
  have lim : s.heap.NoLimit := e0.mod.nolimit.keeps fun b o e => (e0.bs b o e).1
  have kinds : ∀ y ∈ ps.zip us, (defScope st).names.lookup y.1 = some .local ∨ ((defScope st).names.lookup y.1 = some .cell ∧ ((cellsFrom (s.heap.objs.size + 1) (defScope st).names []).lookup y.1).isSome = true) := fun ⟨n, v⟩ hy =>
    (S.par n (List.of_mem_zip hy).1).elim Or.inl fun q => Or.inr ⟨q, PySem.W.cellsFrom_some _ _ _ (.inl q)⟩
  refine codeAny_call_function hr.depth (KX _ _ lk) rfl S.co S.gen rfl (PySem.W.codeRec_of KX hcd) (hb _ _ _ _ ?_)
  refine wpAny_newFunctionEnv_cells S.kind kinds fun env he s1 x => ?_
  subst he
  refine ⟨lim.keeps x.toInCall.keep, codeAny_func ?_⟩
  obtain ⟨t, ht, hq⟩ := body cd A outer s H vs Q E hg (hr.deeper _) hsp
  have I : Inv (cxOf CX0 P w K mg base N qual (defScope st) f cd A outer s H E) [] (start N vs) H s1 := inv_start S hr.hd e0 hl r x
  refine wpAny_mono (ht.nox.run [] s1 (start N vs) H _ I hq) (fun fl s' hs => ?_) fun e s' hs => hs
  cases fl with
  | next =>
    obtain ⟨σ', H', J, q⟩ := hs
    exact ⟨V.non, H', J.os, J.bare, J.base, J.hok, rfl, q⟩
  | ret u =>
    obtain ⟨v, σ', H', J, rv, q⟩ := hs
    exact ⟨v, H', J.os, J.bare, J.base, J.hok, rv, q⟩
  | brk =>
    obtain ⟨σ', H', J, q⟩ := hs
    exact q.elim
  | cont =>
    obtain ⟨σ', H', J, q⟩ := hs
    exact q.elim
end
/-- a def at level 0: it calls no def -/
theorem ok0 {P : Program} {w : World} {K : PySem.W.Frag} {mg : Str → Option Value} {base : Heap} {x qual : Str} {st : Stmt} {f : Addr} {fd : FuncData} {N ps : List Str} {sp : Sp} (F : Fun K x qual st f fd) (S : FnScope N ps (defScope st)) (len : ∀ vs H Q E, sp vs H Q E → vs.length = ps.length)
    (body : ∀ (cd : Value) (A : Around) (outer : List Env) (s : Shared) (H : Hp) (vs : List V) (Q : VK) (E : XK), sp vs H Q E →
      ∃ t, PSs (cxOf CX0 P w K mg base N qual (defScope st) f cd A outer s H E).nox (defBody st) t ∧ t { nx := fun _ H' => Q .non H', rt := Q } (start N vs) H) : FnOk P w K mg base CX0 0 f fd ps sp := by
  obtain ⟨oc, od, kV, doc, pm, an, cd, ct, osl, rfl, lk, hcd⟩ := F.ex
  refine ⟨len, fun A outer s H args us vs Q E hr e0 hb r hsp => ?_⟩
  have hl := len vs H Q E hsp
  have KX : K.In s.heap := e0.mod.kin.keeps fun b o e => (e0.bs b o e).1
  have lim : s.heap.NoLimit := e0.mod.nolimit.keeps fun b o e => (e0.bs b o e).1
  have kinds : ∀ y ∈ ps.zip us, (defScope st).names.lookup y.1 = some .local ∨ ((defScope st).names.lookup y.1 = some .cell ∧ ((cellsFrom (s.heap.objs.size + 1) (defScope st).names []).lookup y.1).isSome = true) := fun ⟨n, v⟩ hy =>
    (S.par n (List.of_mem_zip hy).1).elim Or.inl fun q => Or.inr ⟨q, PySem.W.cellsFrom_some _ _ _ (.inl q)⟩
  refine codeAny_call_function hr.depth (KX _ _ lk) rfl S.co S.gen rfl (PySem.W.codeRec_of KX hcd) (hb _ _ _ _ ?_)
  refine wpAny_newFunctionEnv_cells S.kind kinds fun env he s1 x => ?_
  subst he
  refine ⟨lim.keeps x.toInCall.keep, codeAny_func ?_⟩
  obtain ⟨t, ht, hq⟩ := body cd A outer s H vs Q E hsp
  have I : Inv (cxOf CX0 P w K mg base N qual (defScope st) f cd A outer s H E) [] (start N vs) H s1 := inv_start S hr.hd e0 hl r x
  refine wpAny_mono (ht.nox.run [] s1 (start N vs) H _ I hq) (fun fl s' hs => ?_) fun e s' hs => hs
  cases fl with
  | next =>
    obtain ⟨σ', H', J, q⟩ := hs
    exact ⟨V.non, H', J.os, J.bare, J.base, J.hok, rfl, q⟩
  | ret u =>
    obtain ⟨v, σ', H', J, rv, q⟩ := hs
    exact ⟨v, H', J.os, J.bare, J.base, J.hok, rv, q⟩
  | brk =>
    obtain ⟨σ', H', J, q⟩ := hs
    exact q.elim
  | cont =>
    obtain ⟨σ', H', J, q⟩ := hs
    exact q.elim
theorem pe_callG {X : Cx} {k : Nat} {f : Addr} {fd : FuncData} {ps : List Str} {sp : Sp} {x : Str} {p pos : Pos} {e : Expr} {es : List Expr} {t : TA} (F : FnG X.prog X.w X.K X.mg X.base k f fd ps sp) (hgu : X.A.guards = some []) (hr : Room k X.A) (hg : Gl X x) (hm : X.mg x = some (.ref f))
    (hk : PySem.W.keepIn X.K (.ref f) = true) (hb : Binds X.K fd ps []) (ha : PA X (e :: es) t) (hdb : (x == ("__debug__" : Str)) = false := by decide)
    (he : starEach (e :: es) X.env = (false, eval e X.env) :: starEach es X.env := by rfl) (hpl : (backTo pos (starEach es X.env)).any (·.1) = false := by rfl) :
    PE X (.Call (.Name x p) (e :: es) [] pos) (tCall sp [] E0 t) := by
  refine ⟨fun pins s σ H Q I h => ?_⟩
  refine wpAny_Call_Name_kw (ld_glob I hg hm ?_ hdb)
  refine PySem.W.callWith_K (h₀ := X.base) I.ok.mod.kin hk (thn (ha.run pos pins s σ H _ I h) fun us s1 ⟨vs, H1, I1, r, q⟩ => ⟨I1.kIn, ?_⟩) he hpl
  have q' : sp vs H1 Q E0 := by
    have z : sp (vs ++ []) H1 Q E0 := q
    rw [List.append_nil] at z
    exact z
  have hl : us.length = ps.length := by
    rw [← r.length]
    exact F.len _ _ _ _ q'
  have hb' := hb s1 us I1.kIn (by rw [List.append_nil]; exact hl)
  rw [List.append_nil] at hb'
  refine wpAny_call (codeAny_mono (F.run X.A X.stack s1 H1 ⟨us, []⟩ us vs Q E0 hgu hr I1.env0 hb' r q') fun r s' hq => ?_)
  cases r with
  | error e => exact hq.elim
  | ok fl =>
    cases fl with
    | ret u => exact I1.after hq
    | next => exact hq.elim
    | brk => exact hq.elim
    | cont => exact hq.elim
end L3

namespace L3
open PySem PySem.Spec PyProof.Rows L2 Evl
/-! ### data that is small: it may be compared and shown -/
mutual
def niceD : PyData → Bool
  | .none | .bool _ => true
  | .int i => decide (i.natAbs < 10 ^ 50)
  | .str x => PyData.strOk x && decide (x.cps.size ≤ 100)
  | .list xs | .tuple xs => niceAll xs
  | .dict _ => false
def niceAll : List PyData → Bool
  | [] => true
  | x :: xs => niceD x && niceAll xs
end
mutual
def nodes : PyData → Nat
  | .list xs | .tuple xs => nodesAll xs + 1
  | _ => 1
def nodesAll : List PyData → Nat
  | [] => 0
  | x :: xs => nodes x + nodesAll xs
end
mutual
theorem nice_nd : ∀ d : PyData, niceD d = true → d.hasDict = false
  | .none, _ | .bool _, _ | .int _, _ | .str _, _ => rfl
  | .list xs, h => nice_ndAll xs h
  | .tuple xs, h => nice_ndAll xs h
theorem nice_ndAll : ∀ xs : List PyData, niceAll xs = true → PyData.hasDictAll xs = false
  | [], _ => rfl
  | x :: xs, h => by
    have h' := Bool.and_eq_true_iff.mp (show (niceD x && niceAll xs) = true from h)
    show (x.hasDict || PyData.hasDictAll xs) = false
    rw [nice_nd x h'.1, nice_ndAll xs h'.2] <;> rfl
end
theorem log_small {i : Int} (h : i.natAbs < 10 ^ 50) : i.natAbs.log2 < 180 := by
  by_cases z : i.natAbs = 0
  · rw [z]
    decide
  · exact (Nat.log2_lt z).mpr (Nat.lt_of_lt_of_le h (by decide))
mutual
theorem nice_show : ∀ d : PyData, niceD d = true → d.showable = true
  | .none, _ | .bool _, _ | .str _, _ => rfl
  | .int i, h => decide_eq_true (Nat.lt_of_lt_of_le (log_small (of_decide_eq_true h)) (by decide))
  | .list xs, h => nice_showAll xs h
  | .tuple xs, h => nice_showAll xs h
theorem nice_showAll : ∀ xs : List PyData, niceAll xs = true → PyData.showableAll xs = true
  | [], _ => rfl
  | x :: xs, h => by
    have h' := Bool.and_eq_true_iff.mp (show (niceD x && niceAll xs) = true from h)
    show (x.showable && PyData.showableAll xs) = true
    rw [nice_show x h'.1, nice_showAll xs h'.2] <;> rfl
end
mutual
theorem nice_lay : ∀ d : PyData, niceD d = true → d.canLay0 = true
  | .none, _ | .bool _, _ | .int _, _ => rfl
  | .str x, h => (Bool.and_eq_true_iff.mp (show (PyData.strOk x && decide (x.cps.size ≤ 100)) = true from h)).1
  | .list xs, h => nice_layAll xs h
  | .tuple xs, h => nice_layAll xs h
theorem nice_layAll : ∀ xs : List PyData, niceAll xs = true → PyData.canLayAll0 xs = true
  | [], _ => rfl
  | x :: xs, h => by
    have h' := Bool.and_eq_true_iff.mp (show (niceD x && niceAll xs) = true from h)
    show (x.canLay0 && PyData.canLayAll0 xs) = true
    rw [nice_lay x h'.1, nice_layAll xs h'.2] <;> rfl
end
mutual
theorem nice_short : ∀ d : PyData, niceD d = true → PyData.leavesShort 61 d = true
  | .none, _ | .bool _, _ => rfl
  | .int i, h => decide_eq_true (by
      have z := int_text_length_le10 (a := i) (k := 50) (by decide) (of_decide_eq_true h)
      show (Str.ofString (toString i)).length ≤ 61
      rw [PySem.ofString_length]
      omega)
  | .str x, h => by
    have q := (Bool.and_eq_true_iff.mp (show (PyData.strOk x && decide (x.cps.size ≤ 100)) = true from h)).1
    show (x.cps.toList.all fun c => decide (c < 16 ^ 8)) = true
    rw [List.all_eq_true]
    intro c hc
    have q2 : x.cps.all (fun c => decide (c < 0x110000)) = true := q
    have q3 : x.cps.toList.all (fun c => decide (c < 0x110000)) = true := by
      rw [← q2]
      simp
    have z := of_decide_eq_true (List.all_eq_true.mp q3 c hc)
    exact decide_eq_true (Nat.lt_of_lt_of_le z (by decide))
  | .list xs, h => nice_shortAll xs h
  | .tuple xs, h => nice_shortAll xs h
theorem nice_shortAll : ∀ xs : List PyData, niceAll xs = true → PyData.leavesShortAll 61 xs = true
  | [], _ => rfl
  | x :: xs, h => by
    have h' := Bool.and_eq_true_iff.mp (show (niceD x && niceAll xs) = true from h)
    show (PyData.leavesShort 61 x && PyData.leavesShortAll 61 xs) = true
    rw [nice_short x h'.1, nice_shortAll xs h'.2] <;> rfl
end
mutual
theorem nice_weight : ∀ d : PyData, niceD d = true → d.weight + 1 ≤ 201 * nodes d
  | .none, _ | .bool _, _ => by show 0 + 1 ≤ 201 * 1; decide
  | .int i, h => by
    show (if i == 0 then 0 else i.natAbs.log2 + 1) + 1 ≤ 201 * 1
    have z := log_small (of_decide_eq_true h)
    split <;> omega
  | .str x, h => by
    have q := of_decide_eq_true (Bool.and_eq_true_iff.mp (show (PyData.strOk x && decide (x.cps.size ≤ 100)) = true from h)).2
    show x.cps.size + 1 ≤ 201 * 1
    omega
  | .list xs, h => by
    have z := nice_weightAll xs h
    show PyData.weightAll xs + 1 ≤ 201 * (nodesAll xs + 1)
    omega
  | .tuple xs, h => by
    have z := nice_weightAll xs h
    show PyData.weightAll xs + 1 ≤ 201 * (nodesAll xs + 1)
    omega
theorem nice_weightAll : ∀ xs : List PyData, niceAll xs = true → PyData.weightAll xs ≤ 201 * nodesAll xs
  | [], _ => by show 0 ≤ 201 * 0; decide
  | x :: xs, h => by
    have h' := Bool.and_eq_true_iff.mp (show (niceD x && niceAll xs) = true from h)
    have z1 := nice_weight x h'.1
    have z2 := nice_weightAll xs h'.2
    show x.weight + 1 + PyData.weightAll xs ≤ 201 * (nodes x + nodesAll xs)
    omega
end
structure Nice (d : PyData) : Prop where
  ok : niceD d = true
  dp : d.depth ≤ 10
  nd : nodes d ≤ 1200
theorem Nice.shaped {d : PyData} (h : Nice d) : SeqAt.shaped d = true := by
  show (d.canLay0 && decide (d.depth ≤ 64)) = true
  rw [nice_lay d h.ok, decide_eq_true (by have := h.dp; omega : d.depth ≤ 64)] <;> rfl
theorem Nice.shw {d : PyData} (h : Nice d) : Shw d where
  ok := nice_show d h.ok
  nd := nice_nd d h.ok
  dp := by have := h.dp; omega
  sz := by
    have z := PyData.shown_le 61 (by decide) d (nice_short d h.ok)
    have z2 := nice_weight d h.ok
    have z3 := h.nd
    rw [sizeLine_eq]
    omega
mutual
theorem eqv_refl : ∀ d : PyData, d.hasDict = false → PyData.eqv d d = true
  | .none, _ => rfl
  | .bool b, _ => by show (b == b) = true; simp
  | .int i, _ => by show (i == i) = true; simp
  | .str x, _ => by show (x == x) = true; simp
  | .list xs, h => eqv_reflAll xs h
  | .tuple xs, h => eqv_reflAll xs h
theorem eqv_reflAll : ∀ xs : List PyData, PyData.hasDictAll xs = false → PyData.eqvAll xs xs = true
  | [], _ => rfl
  | x :: xs, h => by
    have h' : x.hasDict = false ∧ PyData.hasDictAll xs = false := by
      have z : (x.hasDict || PyData.hasDictAll xs) = false := h
      exact Bool.or_eq_false_iff.mp z
    show (PyData.eqv x x && PyData.eqvAll xs xs) = true
    rw [eqv_refl x h'.1, eqv_reflAll xs h'.2] <;> rfl
end
theorem Nice.refl {d : PyData} (h : Nice d) : PyData.eqv d d = true := eqv_refl d (nice_nd d h.ok)
/-- a list of small things -/
theorem nice_list {xs : List PyData} {k m : Nat} (h1 : ∀ x ∈ xs, niceD x = true ∧ x.depth ≤ k ∧ nodes x ≤ m) (hk : k ≤ 8) (hm : m * xs.length ≤ 1100) : Nice (.list xs) ∧ Nice (.tuple xs) := by
  have all : ∀ ys : List PyData, (∀ x ∈ ys, niceD x = true ∧ x.depth ≤ k ∧ nodes x ≤ m) → niceAll ys = true ∧ PyData.depthAll ys ≤ k ∧ nodesAll ys ≤ m * ys.length := by
    intro ys
    induction ys with
    | nil => intro _; exact ⟨rfl, Nat.zero_le _, Nat.zero_le _⟩
    | cons y r ih =>
      intro h
      obtain ⟨a1, a2, a3⟩ := h y List.mem_cons_self
      obtain ⟨b1, b2, b3⟩ := ih fun x hx => h x (List.mem_cons_of_mem _ hx)
      refine ⟨?_, ?_, ?_⟩
      · show (niceD y && niceAll r) = true
        rw [a1, b1] <;> rfl
      · show max y.depth (PyData.depthAll r) ≤ k
        omega
      · show nodes y + nodesAll r ≤ m * (r.length + 1)
        rw [Nat.mul_add, Nat.mul_one]
        omega
  obtain ⟨a, b, c⟩ := all xs h1
  constructor
  · exact ⟨a, by show PyData.depthAll xs + 1 ≤ 10; omega, by show nodesAll xs + 1 ≤ 1200; omega⟩
  · exact ⟨a, by show PyData.depthAll xs + 1 ≤ 10; omega, by show nodesAll xs + 1 ≤ 1200; omega⟩
/-! ### comprehensions over a tuple -/
section
variable {K : PySem.W.Frag} {σ : L2.St} {H : Hp} {te tl : TE} {t : TT}
theorem el_lcT {a : Addr} {xs : List V} {j : Nat} {vs : List Nat} (f : Nat → Bool) (v : Nat → V) (h : Ev tl σ H (.ref a)) (hx : SqT K H a xs) (hz : xs.length ≤ 40000) (hw : ∀ x, wipe ((wipe σ vs).set j (some x)) vs = wipe σ vs)
    (ht : ∀ (i : Nat) (x : V) H1, Ex H H1 → xs[i]? = some x → EvT t ((wipe σ vs).set j (some x)) H1 (f i)) (he : ∀ (i : Nat) (x : V) H1, Ex H H1 → xs[i]? = some x → f i = true → Ev te ((wipe σ vs).set j (some x)) H1 (v i)) :
    EvL (tLc (iTup K tl) (gName j) t te vs) σ H (given xs.length f v) := by
  intro H0 e Q q
  refine h H0 e _ fun H1 e1 => ⟨a, rfl, ⟨xs, ex_t (e.trans e1) hx⟩, fun Dl hD => ?_⟩
  refine lc_tup (xs := xs) (Cw H1 f v Dl) ⟨hD, Ex.new hD, upd_same⟩ (fun i H' _ p => ex_t ((e.trans e1).trans p.2.1) hx) (fun i x H' hi p => ?_) (fun H' p => q Dl H' (fresh_back e1 p.1) (e1.trans p.2.1) p.2.2)
  exact ⟨hw x, cw_turn p (by have := (List.getElem?_eq_some_iff.mp hi).1; omega) (ht i x H1 (e.trans e1) hi) (fun hf => he i x H1 (e.trans e1) hi hf)⟩
end
end L3

namespace L3
open PySem PySem.Spec PyProof.Rows L2 Evl
/-! ### the end, for a promise that holds where no repr is under way -/
section
variable {P : Program} {w : World} {K : PySem.W.Frag} {mg mb : Str → Option Value} {k : Nat} {fa a : Addr} {fd : FuncData} {x : Str} {sp : Sp} {z : Shared} {vs : List Value} {ns : List Int}
/-- from an abstract heap H that may track the script alone -/
theorem endAt (KX : K.In z.heap) (hn : z.heap.Ns mainGlobals mg) (hb : z.heap.Ns builtinsNs mb) (hbb : ∀ x : Str, x ≠ "__name__" → mb x = bootBuiltins x) (lim : z.heap.NoLimit) (hg : z.gens = #[])
    (ha : z.heap.get? a = some { cls := .type "list", data := .seq vs.toArray }) (hr : Room k callerA) (F : ∀ base : Heap, K.In base → base.Ns mainGlobals mg → FnG P w K mg base k fa fd [x] sp)
    (bi : ∀ (s : Shared) (u : Value), BindsTo s fd ⟨[u], []⟩ [(x, u)]) {H : Hp} (only : Only H) (hok : HOk P w H z.heap) (hA : ∀ b, H b ≠ none → b = a) (hK : H a ≠ none → K.lookup a = none) (hsp : sp [.ref a] H (fun v _ => v = .bl true) fun _ _ _ => False) :
    codeAny (model P w) callerA (.call (.ref fa) ⟨[.ref a], []⟩) (fun r s' => r = .ok (.ret (.bool true)) ∧ OldK z.heap s'.heap ∧ s'.os = z.os ∧ AllBare s'.gens) z := by
  have off : ∀ {b : Addr}, b ≠ a → H b = none := fun {b} hb => by
    cases q : H b with
    | none => rfl
    | some u => exact absurd (hA b (by rw [q]; simp)) hb
  have offD : ∀ {b : Addr} {o : Obj} {es : Array DictEntry} {ep : Nat}, z.heap.get? b = some o → o.data = .dict es ep → H b = none := fun {b o es ep} e d => off fun y => by
    rw [y, ha] at e
    cases e
    have d' : Data.seq vs.toArray _ = Data.dict es ep := d
    cases d'
  have offK : ∀ {b : Addr} {o : Obj}, K.lookup b = some o → H b = none := fun {b o} e => by
    by_cases c : b = a
    · cases q : H b with
      | none => rfl
      | some u =>
        have n := hK (by rw [← c, q]; simp)
        rw [← c, e] at n
        cases n
    · exact off c
  have nsK : ∀ {b : Addr} {m : Str → Option Value}, z.heap.Ns b m → (hidT z.heap H).Ns b m := fun {b m} ⟨o, es, ep, e, d, r⟩ => ⟨o, es, ep, hidT_get e (offD e d), d, r⟩
  have kb : K.In (hidT z.heap H) := fun b o e => hidT_get (KX b o e) (offK e)
  have md : Mod K mg (hidT z.heap H) := ⟨kb, nsK hn, ⟨mb, nsK hb, hbb⟩, let ⟨mc, h1, h2⟩ := lim; ⟨mc, nsK h1, h2⟩⟩
  have e0 : Env0 P w K mg (hidT z.heap H) callerA [] z H := ⟨rfl, md, fun b o e => of_hidT e, Nat.le_of_eq (hidT_size _ _), trivial, (fun b hb => absurd (show b ∈ ([] : List Addr) from hb) (by simp)), hok, .of_eq hg⟩
  refine codeAny_mono ((F _ kb (nsK hn)).run callerA [] z H ⟨[.ref a], []⟩ [.ref a] [.ref a] _ _ rfl hr e0 (bi z (.ref a)) (.cons rfl .nil) hsp) fun r s' h => ?_
  cases r with
  | error e => exact h.elim
  | ok fl =>
    cases fl with
    | ret u =>
      obtain ⟨v, H', os, bare, un, hok', rv, q⟩ := h
      obtain rfl : v = .bl true := q
      obtain rfl : u = Value.bool true := rv
      refine ⟨rfl, OldK.of_keep fun b o e => ?_, os, bare⟩
      rcases only b with n | ⟨ob, xs, n⟩
      · exact un.keep b o e n (fun y => absurd (show b ∈ ([] : List Addr) from y) (by simp)) (by simp)
      · obtain ⟨e1, _⟩ := hok b _ n
        obtain ⟨e2, _⟩ := hok' b _ (un.frzs b ob _ n)
        rw [e] at e1
        cases e1
        exact e2
    | next => exact h.elim
    | brk => exact h.elim
    | cont => exact h.elim
theorem endG (KX : K.In z.heap) (hn : z.heap.Ns mainGlobals mg) (hb : z.heap.Ns builtinsNs mb) (hbb : ∀ x : Str, x ≠ "__name__" → mb x = bootBuiltins x) (lim : z.heap.NoLimit) (hg : z.gens = #[])
    (ha : z.heap.get? a = some { cls := .type "list", data := .seq vs.toArray }) (hi : IntsAre vs ns) (hl : ns.length ≤ sizeLine) (hr : Room k callerA) (F : ∀ base : Heap, K.In base → base.Ns mainGlobals mg → FnG P w K mg base k fa fd [x] sp)
    (bi : ∀ (s : Shared) (u : Value), BindsTo s fd ⟨[u], []⟩ [(x, u)]) (hsp : ∀ H : Hp, Only H → SqL K H a (ns.map V.int) → sp [.ref a] H (fun v _ => v = .bl true) fun _ _ _ => False) :
    codeAny (model P w) callerA (.call (.ref fa) ⟨[.ref a], []⟩) (fun r s' => r = .ok (.ret (.bool true)) ∧ OldK z.heap s'.heap ∧ s'.os = z.os ∧ AllBare s'.gens) z := by
  have rv := vals_ints hi
  cases hk : K.lookup a with
  | some o =>
    have e := KX a o hk
    rw [ha] at e
    cases e
    have hS : SqL K (fun _ => none) a (ns.map V.int) := Or.inr ⟨_, vs.toArray, _, hk, rfl, rfl, rfl, by rw [List.size_toArray, hi.length]; exact hl, by simpa using rv⟩
    have on : Only (fun _ => none) := fun _ => Or.inl rfl
    exact endAt KX hn hb hbb lim hg ha hr F bi on (fun b u y => nomatch (show (none : Option HO) = some u from y)) (fun b y => absurd rfl y) (fun y => absurd rfl y) (hsp _ on hS)
  | none =>
    have at_ : (fun b : Addr => if b = a then some (HO.frz { cls := .type "list", data := .seq vs.toArray } (.lst (ns.map V.int))) else none) a = some (.frz { cls := .type "list", data := .seq vs.toArray } (.lst (ns.map V.int))) := if_pos rfl
    have on : Only (fun b : Addr => if b = a then some (HO.frz { cls := .type "list", data := .seq vs.toArray } (.lst (ns.map V.int))) else none) := fun b => by
      by_cases c : b = a
      · exact Or.inr ⟨_, _, if_pos c⟩
      · exact Or.inl (if_neg c)
    refine endAt KX hn hb hbb lim hg ha hr F bi on (fun b u y => ?_) (fun b y => ?_) (fun _ => hk) (hsp _ on (Or.inl (Or.inr ⟨_, at_⟩)))
    · by_cases c : b = a
      · have y' := (if_pos c).symm.trans y
        cases y'
        rw [c]
        exact ⟨ha, by rw [List.length_map]; exact hl, vs, _, rv, ha⟩
      · have y' := (if_neg c).symm.trans y
        cases y'
    · by_cases c : b = a
      · exact c
      · exact absurd (if_neg c) y
end
theorem walkG {l : PySem.W.OpenLaw} {n k : Nat} {q : Program} {loose : List Str} {XP : (Str → Option Value) → Heap → Prop} {YP : World → Heap → Prop} {d : DefRec} {K : Params → PySem.W.Frag} {sp : World → Sp} {x : Str} (hn : l.most = some n) (hn2 : n ≤ sizeLine) (hdf : d.params.defaults = []) (hr : Room k callerA)
    (hY : ∀ (w : World) (h : Heap), YP w h → (K w.params).In h)
    (F : ∀ (w : World) (mg : Str → Option Value) (fa : Addr) (h : Heap), (K w.params).In h → h.Ns mainGlobals mg → mg d.name = some (.ref fa) →
      ∃ fd : FuncData, (∀ (s : Shared) (u : Value), BindsTo s fd ⟨[u], []⟩ [(x, u)]) ∧ ∀ base : Heap, (K w.params).In base → base.Ns mainGlobals mg → FnG l.prog w (K w.params) mg base k fa fd [x] (sp w))
    (hsp : ∀ (w : World) (H : Hp) (a : Addr) (ns : List Int), ns.length ≤ n → Only H → SqL (K w.params) H a (ns.map V.int) → sp w [.ref a] H (fun v _ => v = .bl true) fun _ _ _ => False) :
    PySem.W.WalkO q loose XP YP l.row.toRowW d [] (fun f vs => PySem.call f vs) := by
  refine Att.attach_call hn hdf fun w s₀ z mg mb fa o pm cd doc a vs ns G Y ho hd hcd hmg hobj hints hlen hg => ?_
  have KX := hY w _ Y
  obtain ⟨fd, hb, hF⟩ := F w mg fa _ KX G.T.g hmg
  exact endG KX G.T.g G.T.b G.T.builtins G.T.nolimit hg hobj hints (Nat.le_trans hlen hn2) hr hF hb fun H hO hS => hsp w H a ns hlen hO hS
end L3

namespace L3
open PySem PySem.Spec PyProof.Rows L2 Evl
/-! ### several clauses, some naming two classes at once -/
def exmC (K : PySem.W.Frag) (cls : Value) : List Value → Option Bool
  | [c] => PySem.W.exmOne K cls c
  | l => PySem.W.exmAny K cls l
abbrev ClauseT := List Value × Option Nat × (Addr → Value → Option Addr → TS)
def wClT (K : PySem.W.Frag) (Wout : WX) (D : Ends) : List ClauseT → WX
  | [] => Wout
  | (cs, o, t) :: r => fun cls d σ H => ∃ b, exmC K cls cs = some b ∧ (b = true → ∀ a, H a = none → suiteOf D o (t a cls d) a σ H) ∧ (b = false → wClT K Wout D r cls d σ H)
inductive TestOk (X : Cx) : Expr → List Value → Prop
  | one {x : Str} {c : Value} {p : Pos} (hc : Names X x c) : TestOk X (.Name x p) [c]
  | two {x y : Str} {c e : Value} {p q r : Pos} {kk : Nat} (hc : Names X x c) (he : Names X y e) : TestOk X (.Tuple [.Name x p, .Name y q] kk r) [c, e]
inductive ClsT (X : Cx) : List ExceptHandler → List ClauseT → Prop
  | nil : ClsT X [] []
  | bare {te : Expr} {cs : List Value} {t : Addr → Value → Option Addr → TS} {b : Stmt} {bs : List Stmt} {q : Pos} {hs : List ExceptHandler} {l : List ClauseT} (hc : TestOk X te cs)
      (hsu : ∀ (a : Addr) (o : Obj) (cls : Value) (d : Option Addr) (pn : List (Addr × Obj)), Zc cls d o → (∃ vs, o.data = .fields vs) → PSs (X.suite a ((a, o) :: pn)) (b :: bs) (t a cls d)) (r : ClsT X hs l) :
      ClsT X (.ExceptHandler (some te) none (b :: bs) q :: hs) ((cs, none, t) :: l)
  | named {te : Expr} {n : Str} {i : Nat} {cs : List Value} {t : Addr → Value → Option Addr → TS} {b : Stmt} {bs : List Stmt} {q : Pos} {hs : List ExceptHandler} {l : List ClauseT} (hN : X.N.Nodup) (hi : X.N[i]? = some n) (hn : X.env.kindOf n = some .local) (hc : TestOk X te cs)
      (hsu : ∀ (a : Addr) (o : Obj) (cls : Value) (d : Option Addr) (pn : List (Addr × Obj)), Zc cls d o → (∃ vs, o.data = .fields vs) → PSs (X.suite a ((a, o) :: pn)) (b :: bs) (t a cls d)) (r : ClsT X hs l) :
      ClsT X (.ExceptHandler (some te) (some n) (b :: bs) q :: hs) ((cs, some i, t) :: l)
/-- a flight bears a further object -/
theorem flying_push {B : Heap} {l : List Env} {a : Addr} {Z : Obj → Prop} {h : Heap} {o : Obj} (fl : HandSPX.FlyingZ B l a Z h) : HandSPX.FlyingZ B l a Z (h.push o) := by
  have kp : ∀ b u, h.get? b = some u → (h.push o).get? b = some u := fun _ _ z => Heap.get?_push_of_some _ z
  obtain ⟨f1, f2, f3, oe, vs, T, oT, ts, g1, g2, g3, g4, g5, g6, g7, g8, g9⟩ := fl
  exact ⟨fun b u e => kp b u (f1 b u e), f2, Heap.FunFrames.of_keeps (fun b u e _ => ⟨u, kp b u e, rfl⟩) f3, oe, vs, T, oT, ts, kp _ _ g1, g2, g3, g4, g5, g6, kp _ _ g7, g8, g9⟩
theorem ps_tryT {X : Cx} {body : List Stmt} {h : ExceptHandler} {hs : List ExceptHandler} {l : List ClauseT} {pos : Pos} {tb : WX → TS} {Wout : WX} (st : X.stack = X.env :: X.outer) (fr : X.env.frame = some X.env.locals) (tk : Takes X Wout)
    (bo : ∀ (W : WX) (pn : List (Addr × Obj)) (xe : Value → Shared → Prop), Takes (X.tr pn xe) W → PassesOwn (model X.prog X.w) X.A X.env xe → PSs (X.tr pn xe) body (tb W))
    (cl : ClsT X (h :: hs) l) : PS X (.Try body (h :: hs) [] [] pos) (fun D σ H => tb (wClT X.K Wout D l) D σ H) := by
  refine ⟨fun pins s σ H D I rd => ?_⟩
  have ok := I.ok
  have hfr : X.A.frames = some (X.env :: X.outer) := by rw [ok.frames, st]
  refine wpAny_Try_except ?_
  refine wpAny_mono ((bo (wClT X.K Wout D l) (X.pn ++ pins) (fun e z => wpAny (model X.prog X.w) X.A (noteFrame e X.env) (fun _ z2 => wpAny (model X.prog X.w) X.A (setFlight e none) (fun _ z3 =>
    wpAny (model X.prog X.w) X.A (handleBy e X.env (h :: hs)) (SP X pins D) X.xe z3) X.xe z2) X.xe z) (fun u s' hit => ?_) PassesOwn.looking).run [] s σ H D (I.toTry _) rd) (fun f z sp => ?_) (fun e z he => he)
  · obtain ⟨a, B, s0, pins', σ', H', cls, d, rfl, J', nb, up, sky, na, os, ag, wish⟩ := hit
    have J : Inv X pins σ' H' s0 := J'.ofTry ok
    have sky' : Sky B (X.env :: X.outer) a (Zc cls d) X.env.locals s'.heap := by
      rw [← st]
      exact sky
    show wpAny (model X.prog X.w) X.A (noteFrame (.ref a) X.env) _ _ _
    refine Sky.land Zc.steady hfr fr sky' fun h0 fl0 up0 => ?_
    have off : ∀ {hh : Heap} {o3 : Obj} {v3 : Array Value}, Inv X pins σ' H' { s' with heap := hh } → HandSPX.FlyingZ B (X.env :: X.outer) a (Zc cls d) hh → hh.get? a = some o3 → o3.data = .fields v3 → a ≠ X.env.locals ∧ a ∉ X.fs := fun {hh o3 v3} _ fl at3 d3 => by
      have of1 : a ∉ frs (X.env :: X.outer) := fun hm => by
        obtain ⟨_, o', e', nf⟩ := fl.2.2.1.mem hm
        rw [at3] at e'
        cases e'
        exact nf _ d3
      exact ⟨fun z => of1 (List.mem_filterMap.mpr ⟨X.env, List.mem_cons_self, by rw [fr, z]⟩), fun hm => by
        obtain ⟨e, he, q⟩ := List.mem_filterMap.mp hm
        exact of1 (List.mem_filterMap.mpr ⟨e, List.mem_cons_of_mem _ he, q⟩)⟩
    have tst : ∀ {te : Expr} {cs : List Value} {b : Bool} {R : Bool → Shared → Prop} {E1 E2 : Value → Shared → Prop}, TestOk X te cs → exmC X.K cls cs = some b → ∀ h3, HandSPX.FlyingZ B (X.env :: X.outer) a (Zc cls d) h3 → s'.heap.UpToSlots h3 →
        (∀ h4, HandSPX.FlyingZ B (X.env :: X.outer) a (Zc cls d) h4 → s'.heap.UpToSlots h4 → R b { s' with heap := h4 }) →
        wpAny (model X.prog X.w) (X.A.mark (some (.ref a))) (eval te X.env) (fun c s2 => wpAny (model X.prog X.w) (X.A.mark (some (.ref a))) (excMatches (.ref a) c) R E1 s2) E2 { s' with heap := h3 } := by
      intro te cs b R E1 E2 ht hb h3 fl up3 q
      have J3 : Inv X pins σ' H' { s' with heap := h3 } := J.landed nb fl.1 (up.trans up3) os ag
      obtain ⟨o3, v3, at3, z3, d3⟩ := fl.there
      obtain ⟨nL, nF⟩ := off J3 fl at3 d3
      have S3 := J3.suite at3 d3 na nL nF
      have typ : PySem.W.Looks (model X.prog X.w) h3 (typeOf (.ref a)) cls := fun A Q E s k q => wpAny_typeOf_ref (k _ _ at3) (by rw [z3.1]; exact q)
      have named : ∀ {x : Str} {c : Value} {p : Pos} {Q E0 : Value → Shared → Prop}, Names X x c → Q c { s' with heap := h3 } →
          wpAny (model X.prog X.w) (X.A.mark (some (.ref a))) (eval (.Name x p) X.env) Q E0 { s' with heap := h3 } := fun {x c p Q E0} hc q => by
        obtain ⟨hg, hdb, hm | ⟨hm, hv, hne⟩⟩ := hc
        · exact ld_glob (X := X.suite a ((a, o3) :: (X.pn ++ pins))) S3 hg hm q hdb
        · exact ld_blt (X := X.suite a ((a, o3) :: (X.pn ++ pins))) S3 hg hm hv q hne hdb
      cases ht with
      | one hc => exact named hc ((PySem.W.exm_one (M := model X.prog X.w) (J3.kIn) typ hb).here (q h3 fl up3))
      | @two x y c e p r r2 kk hc he =>
        refine wpAny_Tuple ?_
        refine wpAny_items_cons (named hc ?_)
        refine wpAny_items_cons (named he ?_)
        refine wpAny_items_nil ⟨by size_fits, ?_⟩
        have kp : ∀ b o, h3.get? b = some o → (h3.push { cls := .type "tuple", data := .seq [c, e].toArray }).get? b = some o := fun _ _ z => Heap.get?_push_of_some _ z
        refine (PySem.W.exm_tup2 (M := model X.prog X.w) (J3.kIn.keeps kp) (typ.keeps kp) (Heap.get?_push_size h3 rfl) hb).here (q _ (flying_push fl) (up3.trans (Heap.UpToSlots.of_keeps kp)))
    have go : ∀ {ks : List ExceptHandler} {ls : List ClauseT}, ClsT X ks ls → wClT X.K Wout D ls cls d σ' H' → ∀ h3, HandSPX.FlyingZ B (X.env :: X.outer) a (Zc cls d) h3 → s'.heap.UpToSlots h3 →
        wpAny (model X.prog X.w) X.A (handleBy (.ref a) X.env ks) (SP X pins D) X.xe { s' with heap := h3 } := by
      intro ks ls hk
      induction hk with
      | nil =>
        intro wi h3 fl up3
        have J3 : Inv X pins σ' H' { s' with heap := h3 } := J.landed nb fl.1 (up.trans up3) os ag
        refine wpAny_handleBy_nil ?_
        obtain ⟨y1, y2, y3, oe, vs, Ta, oT, ts, he, hz, hd, hv1, hrest⟩ := id fl
        unfold PySem.passOn
        refine wpAny_bind (wpAny_field he hd hv1 ?_)
        rw [if_neg (show ¬ ((Value.ref Ta == Value.none) = true) by simp)]
        have fin : wpAny (model X.prog X.w) X.A (setFlight (.ref a) X.env.frame) (fun _ w4 => wpAny (model X.prog X.w) X.A (throw (.ref a) : Sem Flow) (SP X pins D) X.xe w4) X.xe { s' with heap := h3 } := by
          rw [fr]
          refine HandSPX.setFlight_upZ fl fun h4 hh up4 => wpAny_throw (tk _ _ ?_)
          exact ⟨a, B, s0, pins, σ', H', cls, d, rfl, J, nb, (up.trans up3).trans up4, .inr (.inr (by rw [st]; exact hh)), na, os, ag, wi⟩
        first | exact wpAny_bind (wpAny_pure (wpAny_bind fin)) | exact wpAny_bind fin
      | @bare te cs t b bs q hs2 l2 hc hsu r ih =>
        intro wi h3 fl up3
        obtain ⟨y, hy, yes, no⟩ := wi
        refine wpAny_handleBy_cons (codeAny_handlers_test ?_) (by cases hc <;> (intro q; cases q))
        refine tst hc hy h3 fl up3 fun h4 fl4 up4 => ?_
        cases y with
        | false =>
          show wpAny _ X.A (handleBy (.ref a) X.env hs2) _ _ _
          exact ih (no rfl) h4 fl4 up4
        | true =>
          refine codeAny_handlers_suite ?_
          refine HandSPX.lands_againZ fl4 fun h5 fl5 up5 => ?_
          have J5 : Inv X pins σ' H' { s' with heap := h5 } := J.landed nb fl5.1 ((up.trans up4).trans up5) os ag
          obtain ⟨o5, v5, at5, z5, d5⟩ := fl5.there
          obtain ⟨nL, nF⟩ := off J5 fl5 at5 d5
          have S5 := J5.suite at5 d5 na nL nF
          refine wpAny_mono ((hsu a o5 cls d (X.pn ++ pins) z5 ⟨_, d5⟩).run [] _ _ H' D S5 (yes rfl a na)) (fun f s6 sp => ?_) (fun _ _ z => False.elim z)
          cases f with
          | ret u =>
            obtain ⟨v6, σ6, H6, S6, r6, q6⟩ := sp
            exact ⟨v6, σ6, H6, S6.unsuite ok, r6, q6⟩
          | next =>
            obtain ⟨σ6, H6, S6, q6⟩ := sp
            exact ⟨σ6, H6, S6.unsuite ok, q6⟩
          | brk =>
            obtain ⟨σ6, H6, S6, q6⟩ := sp
            exact ⟨σ6, H6, S6.unsuite ok, q6⟩
          | cont =>
            obtain ⟨σ6, H6, S6, q6⟩ := sp
            exact ⟨σ6, H6, S6.unsuite ok, q6⟩
      | @named te n i cs t b bs q hs2 l2 hN hi hn hc hsu r ih =>
        intro wi h3 fl up3
        obtain ⟨y, hy, yes, no⟩ := wi
        refine wpAny_handleBy_cons (codeAny_handlers_test ?_) (by cases hc <;> (intro q; cases q))
        refine tst hc hy h3 fl up3 fun h4 fl4 up4 => ?_
        cases y with
        | false =>
          show wpAny _ X.A (handleBy (.ref a) X.env hs2) _ _ _
          exact ih (no rfl) h4 fl4 up4
        | true =>
          refine codeAny_handlers_suite_as ?_
          refine HandSPX.lands_againZ fl4 fun h5 fl5 up5 => ?_
          have J5 : Inv X pins σ' H' { s' with heap := h5 } := J.landed nb fl5.1 ((up.trans up4).trans up5) os ag
          obtain ⟨o5, v5, at5, z5, d5⟩ := fl5.there
          obtain ⟨nL, nF⟩ := off J5 fl5 at5 d5
          have S5 := J5.suite at5 d5 na nL nF
          refine store_ok (X := X.suite a ((a, o5) :: (X.pn ++ pins))) (v := .ref a) S5 hN hi (.inl hn) rfl (fun sx Sx => ?_) (.inr hn)
          refine wpAny_mono ((hsu a o5 cls d (X.pn ++ pins) z5 ⟨_, d5⟩).run [] sx _ H' (gone D i) Sx (yes rfl a na)) (fun f s6 sp => ?_) (fun _ _ z => False.elim z)
          have out : ∀ {σ6 : L2.St} {H6 : Hp} {Q : Shared → Prop}, Inv (X.suite a ((a, o5) :: (X.pn ++ pins))) [] σ6 H6 s6 → (∀ s7, Inv X pins (σ6.set i none) H6 s7 → Q s7) →
              wpAny (model X.prog X.w) X.A (do bindName X.env n .none; unbindBehindTheSuite X.env n q) (fun _ s7 => Q s7) X.xe s6 := fun {σ6 H6 Q} S6 hq => gone_ok (S6.unsuite ok) hN hi hn hq
          cases f with
          | ret u =>
            obtain ⟨v6, σ6, H6, S6, r6, q6⟩ := sp
            exact out S6 fun s7 J7 => ⟨v6, _, H6, J7, r6, q6⟩
          | next =>
            obtain ⟨σ6, H6, S6, q6⟩ := sp
            exact out S6 fun s7 J7 => ⟨_, H6, J7, q6⟩
          | brk =>
            obtain ⟨σ6, H6, S6, q6⟩ := sp
            exact out S6 fun s7 J7 => ⟨_, H6, J7, q6⟩
          | cont =>
            obtain ⟨σ6, H6, S6, q6⟩ := sp
            exact out S6 fun s7 J7 => ⟨_, H6, J7, q6⟩
    exact go cl wish h0 fl0 up0
  · cases f with
    | ret u =>
      obtain ⟨v, σ', H', J', r, q⟩ := sp
      exact ⟨v, σ', H', J'.ofTry ok, r, q⟩
    | next =>
      obtain ⟨σ', H', J', q⟩ := sp
      exact wpAny_execs_nil ⟨σ', H', J'.ofTry ok, q⟩
    | brk =>
      obtain ⟨σ', H', J', q⟩ := sp
      exact ⟨σ', H', J'.ofTry ok, q⟩
    | cont =>
      obtain ⟨σ', H', J', q⟩ := sp
      exact ⟨σ', H', J'.ofTry ok, q⟩
/-! ### isinstance of a caught error that has a dict of its own -/
section
open PySem.W PySem.Calls
variable {prog : Program} {w : World} {A : Around} {E : Value → Shared → Prop} {s : Shared} {K : Frag} {x D : Addr} {ox : Obj} {od : Option Obj}
theorem find_data {C : Addr} {nm : Str} {at0 g0 : Value} (h1 : (clsIn K C).isSome = true) (h2 : findIn K (.ref C) nm = some (some at0)) (h3 : specialIn K at0 "__get__" = some (some g0)) (h4 : takesIn K at0 = some true) : findObj K C od nm = some (.bind g0 at0) := by
  obtain ⟨cd, h1⟩ := Option.isSome_iff_exists.mp h1
  unfold findObj
  rw [h1, Option.bind_some, h2, Option.bind_some]
  simp [h3, h4]
theorem class_of_err {Q : Option Value → Shared → Prop} (T : ExcC K D) (X : K.In s.heap) (I : InstAt s.heap x ox D od) (h : Q (some (.ref D)) { s with toks := s.toks + 1 }) : wpAny (model prog w) A (getAttr? (.ref x) "__class__") Q E s := by
  have ff : findObj K D od "__class__" = some (.bind (.builtin "getset_descriptor.__get__") (.builtin "object.__class__")) := find_data (by obtain ⟨cd, hc, _⟩ := any_some T.hd; rw [hc]; rfl) T.ha T.hn T.ht
  obtain ⟨hp, g, d, t, os⟩ := s
  have T0 := I.type (M := model prog w)
  have T1 := looks_findIn (M := model prog w) X T.hg
  have T2 := looks_findIn (M := model prog w) X T.hk
  have T3 := looks_find (M := model prog w) X I ff
  have sb : Looks (model prog w) hp (isInstance (.ref x) (.type "BaseException")) true := T0.andThen (looks_subIn X T.hs)
  have n2 : (Value.builtin "BaseException.__getattribute__" == Value.builtin "object.__getattribute__") = false := by decide +kernel
  have n1 : (onTheHeap (Value.ref D) && Value.builtin "BaseException.__getattribute__" == Value.builtin "object.__getattribute__") = false := by rw [n2] <;> rfl
  have n0 : (false && onTheHeap (Value.builtin "BaseException.__getattribute__")) = false := rfl
  unfold getAttr? getAttrBy? getAttrBy
  refine wpAny_bind (wpAny_mkText (wpAny_bind (wpAny_attempt (wpAny_holding (wpAny_bind (T0.at (wpAny_bind (T1.at ?_))))))))
  show wpAny _ _ (if (onTheHeap (Value.ref D) && Value.builtin "BaseException.__getattribute__" == Value.builtin "object.__getattribute__") = true then _ else _) _ _ _
  rw [n1, if_neg Bool.false_ne_true]
  unfold getAttrByItsOwn hookBefore
  refine wpAny_bind ?_
  rw [if_pos (show onTheHeap (Value.ref D) = true from rfl)]
  refine T2.at ?_
  refine wpAny_bind (wpAny_attempt (wpAny_holding ?_))
  unfold callGetattribute
  rw [n0, if_neg Bool.false_ne_true]
  unfold boundAndCalled
  rw [PySem.F.excAttr_ValueError.ga.bind (.ref x)]
  refine wpAny_bind (wpAny_pure ?_)
  show wpAny _ _ (call (.builtin "BaseException.__getattribute__") [.ref x, .str "__class__" t]) _ _ _
  refine wpAny_call (codeAny_call_builtin PySem.F.excAttr_ValueError.ga.plain PySem.F.entry_bexc_ga ?_)
  refine @check_slot (model prog w) _ _ ⟨hp, g, d, t + 1, os⟩ "BaseException.__getattribute__" "BaseException" "__getattribute__" (.ref x) [.str "__class__" t] [] _ (by decide +kernel) (by decide +kernel) sb (PySem.F.args_bexc_ga (.ref x) (.str "__class__" t)) ?_
  unfold Builtin.«object.__getattribute__»
  refine wpAny_bind (wpAny_of_eq (a := ((Value.ref x : Value), [Value.str "__class__" t])) (by first | rfl | (simp only [slotArgs]; rfl)) ?_)
  refine wpAny_bind (wpAny_pure (wpAny_bind (T0.at (wpAny_bind (T3.at ?_)))))
  show wpAny _ _ (holding [Value.builtin "object.__class__"] (call (.builtin "getset_descriptor.__get__") [.builtin "object.__class__", .ref x, .ref D]) >>= ret) _ _ _
  refine wpAny_bind (wpAny_holding (wpAny_call (class_get (s := ⟨hp, g, d, t + 1, os⟩) (ox := ox) (od := od) X I T.hm ?_)))
  refine wpAny_pure ?_
  show wpAny _ _ (handedOut (.ref D)) _ _ _
  rw [handedOut_of (v := .ref D) rfl]
  first
    | exact wpAny_pure (wpAny_pure h)
    | exact wpAny_pure h
    | exact wpAny_pure (wpAny_bind (wpAny_pure (wpAny_pure h)))
theorem kitx_err (T : ExcC K D) : KitX K (.ref x) (.ref D) (fun h => InstAt h x ox D od) where
  ty := fun _ _ _ I => I.type
  it := fun _ _ X _ => by
    obtain ⟨cdD, hcD, _⟩ := any_some T.hd
    unfold clsIn at hcD
    split at hcD
    · rename_i c' d' cd' sl' ho
      intro A' Q' E' s' k q
      unfold isType loadHead
      exact wpAny_bind (wpAny_loadPart (k _ _ (X _ _ ho)) (wpAny_pure q))
    · cases hcD
  ne := fun h tp dd its n sl X htp => by
    obtain ⟨cdD, hcD, _⟩ := any_some T.hd
    refine Bool.eq_false_iff.mpr fun q => ?_
    have e : D = tp := Value.ref.inj (beq_iff_eq.mp q)
    subst e
    unfold clsIn at hcD
    split at hcD
    · rename_i c' d' cd' sl' ho
      have z := (X _ _ ho).symm.trans htp
      cases z
    · cases hcD
  ca := fun X I k => class_of_err T X I k
end
/-- isinstance(err, c), the error of class D with a dict of its own -/
def rIsX (K : PySem.W.Frag) (D a : Addr) (cls : Value) (d : Option Addr) : List V → Hp → VK → Prop := fun xs H Q => ∃ (c : V) (cv : Value) (b : Bool), xs = [.ref a, c] ∧ cls = .ref D ∧ (∃ (dd : Addr) (fs : List (Str × V)), d = some dd ∧ H dd = some (.xd fs)) ∧ (∀ u, RelV c u → u = cv) ∧ PySem.W.kitOne K (.ref D) cv = some b ∧ Q (.bl b) H
theorem call_isX {X : Cx} {a D : Addr} {oe : Obj} {cls : Value} {d : Option Addr} {pn : List (Addr × Obj)} (T : ExcC X.K D) (hz : Zc cls d oe) (hf : ∃ vs, oe.data = .fields vs) : CallR (X.suite a ((a, oe) :: pn)) (.builtin "isinstance") (rIsX X.K D a cls d) := by
  intro pins s σ H xs us Q I r h
  obtain ⟨c, cv, b, rfl, rfl, ⟨dd, fs, rfl, hdd⟩, hcv, e, q⟩ := h
  cases r with
  | cons rx rr =>
    cases rr with
    | cons rt rr =>
      cases rr
      cases rx
      have ec := hcv _ rt
      subst ec
      obtain ⟨hget, _⟩ := I.pin (a, oe) (List.mem_append.mpr (.inl List.mem_cons_self))
      obtain ⟨vs, hv⟩ := hf
      have hx : ObjOk X.prog X.w H s.heap dd (.xd fs) := I.hok dd _ hdd
      obtain ⟨mA, hns, hr⟩ := hx
      obtain ⟨od, ho, hl⟩ := lookIn_ns hns
      have J : PySem.W.InstAt s.heap a oe D (some od) := ⟨hget, hz.1, by unfold PySem.W.notCls; rw [hv] <;> rfl, by rw [hz.2]; exact ho⟩
      exact PySem.W.kia_one (kitx_err T) I.kIn J e (fun z => nomatch z) fun tk => ⟨.bl b, H, I.kept (t' := tk) fun _ _ z => z, rfl, q⟩
end L3

namespace L3
open PySem PySem.Spec PyProof.Rows L2 Evl
/-! ### what an expression tells, as data that stands where a heap B tells nothing -/
/-- what stands beside B -/
def newIn (H B : Hp) : Hp := fun a => match B a with
  | none => H a
  | some _ => none
section
variable {B H H1 : Hp} {g p : Addr} {o : HO}
theorem new_at (hB : B p = none) : newIn H B p = H p := by
  unfold newIn
  rw [hB]
theorem new_off (hB : B p = some o) : newIn H B p = none := by
  unfold newIn
  rw [hB]
theorem new_sub : Ex (newIn H B) H := fun a u h => by
  cases q : B a with
  | none =>
    rw [new_at q] at h
    exact h
  | some v =>
    rw [new_off q] at h
    cases h
theorem new_ex (e : Ex H H1) : Ex (newIn H B) (newIn H1 B) := fun a u h => by
  cases q : B a with
  | none =>
    rw [new_at q] at h ⊢
    exact e a u h
  | some v =>
    rw [new_off q] at h
    cases h
theorem new_del (hB : B g = some o) (e : Ex (newIn H B) H1) : Ex (newIn H B) (del H1 g) := fun a u h => by
  by_cases c : a = g
  · rw [c, new_off hB] at h
    cases h
  · rw [del_ne c]
    exact e a u h
theorem del_keep (e : Ex (del H g) (del H1 g)) (h : H p = some o) (n : p ≠ g) : H1 p = some o := by
  have z := e p o (by rw [del_ne n]; exact h)
  rw [del_ne n] at z
  exact z
theorem new_bag (hB : B g = some o) (e : Ex (del H g) (del H1 g)) : Ex (newIn H B) (newIn H1 B) := fun a u h => by
  cases q : B a with
  | none =>
    rw [new_at q] at h ⊢
    have c : a ≠ g := fun z => by
      rw [z, hB] at q
      cases q
    exact del_keep e h c
  | some v =>
    rw [new_off q] at h
    cases h
/-- one object alone -/
def onlyAt (H : Hp) (g : Addr) : Hp := fun a => if a = g then H g else none
theorem only_at : onlyAt H g g = H g := if_pos rfl
theorem only_ne (h : p ≠ g) : onlyAt H g p = none := if_neg h
theorem only_ex : Ex (onlyAt H g) H := fun a u h => by
  by_cases c : a = g
  · rw [c, only_at] at h
    rw [c]
    exact h
  · rw [only_ne c] at h
    cases h
theorem new_only (hg : H g = some o) : newIn H1 (onlyAt H g) = del H1 g := by
  funext b
  by_cases c : b = g
  · rw [c, new_off (by rw [only_at]; exact hg), del_same]
  · rw [new_at (only_ne c), del_ne c]
end
section
variable (K : PySem.W.Frag) (B : Hp)
def DvE (te : TE) (σ : L2.St) (H : Hp) (d : PyData) : Prop := ∀ H1, Ex H H1 → ∀ Q : VK, (∀ z H2, Ex H1 H2 → Dp K (newIn H2 B) z d → Q z H2) → te σ H1 Q
def DvA (ta : TA) (σ : L2.St) (H : Hp) (ds : List PyData) : Prop := ∀ H1, Ex H H1 → ∀ Q : List V → Hp → Prop, (∀ xs H2, Ex H1 H2 → DpAll K (newIn H2 B) xs ds → Q xs H2) → ta σ H1 Q
def DvL (te : TE) (σ : L2.St) (H : Hp) (ds : List PyData) : Prop := ∀ H1, Ex H H1 → ∀ Q : VK, (∀ p xs H2, Ex H1 H2 → B p = none → H2 p = some (.lst xs) → DpAll K (newIn H2 B) xs ds → Q (.ref p) H2) → te σ H1 Q
end
section
variable {K : PySem.W.Frag} {B : Hp} {σ : L2.St} {H : Hp} {te tb tn : TE} {ta tr : TA} {d : PyData} {ds es : List PyData} {v : V}
theorem dv_ev (h : Ev te σ H v) (hd : Dp K (newIn H B) v d) : DvE K B te σ H d := fun H1 e Q q => h H1 e Q fun H2 e2 => q v H2 e2 (dp_ex (new_ex (e.trans e2)) hd)
theorem dv_int {i : Int} (h : Ev te σ H (.int i)) : DvE K B te σ H (.int i) := fun H1 e Q q => h H1 e Q fun H2 e2 => q _ H2 e2 (.int i)
theorem dv_str {x : Str} (h : Ev te σ H (.str x)) : DvE K B te σ H (.str x) := fun H1 e Q q => h H1 e Q fun H2 e2 => q _ H2 e2 (.str x)
theorem dv_bl {b : Bool} (h : Ev te σ H (.bl b)) : DvE K B te σ H (.bool b) := fun H1 e Q q => h H1 e Q fun H2 e2 => q _ H2 e2 (.bl b)
theorem dv_non (h : Ev te σ H .non) : DvE K B te σ H .none := fun H1 e Q q => h H1 e Q fun H2 e2 => q _ H2 e2 .non
theorem da_nil : DvA K B tNil σ H [] := fun H1 e Q q => q [] H1 (Ex.refl H1) .nil
theorem da_cons (h : DvE K B te σ H d) (hr : DvA K B tr σ H ds) : DvA K B (tCons te tr) σ H (d :: ds) := fun H1 e Q q =>
  h H1 e _ fun z H2 e2 hz => hr H2 (e.trans e2) _ fun xs H3 e3 hx => q (z :: xs) H3 (e2.trans e3) (.cons (dp_ex (new_ex e3) hz) hx)
theorem dv_tup (hb : Ex B H) (h : DvA K B ta σ H ds) (hl : ds.length ≤ 100000) : DvE K B (tTup ta) σ H (.tuple ds) := fun H1 e Q q =>
  h H1 e _ fun xs H2 e2 hx => ⟨sz_of (by rw [dps_len' hx]; exact hl), fun p hp => q _ _ (e2.trans (Ex.new hp)) (.tup (st_of (by rw [new_at (fresh_back ((hb.trans e).trans e2) hp)]; exact upd_same)) (dps_ex (new_ex (Ex.new hp)) hx))⟩
theorem dl_lst (hb : Ex B H) (h : DvA K B ta σ H ds) (hl : ds.length ≤ 100000) : DvL K B (tLst ta) σ H ds := fun H1 e Q q =>
  h H1 e _ fun xs H2 e2 hx => ⟨sz_of (by rw [dps_len' hx]; exact hl), fun p hp => q _ xs _ (e2.trans (Ex.new hp)) (fresh_back ((hb.trans e).trans e2) hp) upd_same (dps_ex (new_ex (Ex.new hp)) hx)⟩
theorem dl_var {i : Nat} {p : Addr} {xs : List V} (h : σ[i]? = some (some (.ref p))) (n : B p = none) (hp : H p = some (.lst xs)) (hx : DpAll K (newIn H B) xs ds) : DvL K B (tVar i) σ H ds := fun H1 e Q q =>
  ⟨_, h, q p xs H1 (Ex.refl H1) n (e p _ hp) (dps_ex (new_ex e) hx)⟩
theorem dv_l (h : DvL K B te σ H ds) : DvE K B te σ H (.list ds) := fun H1 e Q q =>
  h H1 e Q fun p xs H2 e2 n hp hx => q _ H2 e2 (.lst (sq_of (by rw [new_at n]; exact hp)) hx)
theorem dps_app {H : Hp} : ∀ {xs ys : List V} {ds es : List PyData}, DpAll K H xs ds → DpAll K H ys es → DpAll K H (xs ++ ys) (ds ++ es)
  | _, _, _, _, .nil, h => h
  | _, _, _, _, .cons a r, h => .cons a (dps_app r h)
theorem dl_cat (hb : Ex B H) (h1 : DvL K B te σ H ds) (h2 : DvL K B tb σ H es) (hl : ds.length + es.length ≤ 100000) : DvL K B (tOp rCat te tb) σ H (ds ++ es) := fun H1 e Q q =>
  h1 H1 e _ fun p xs H2 e2 n2 hp2 hx2 => h2 H2 (e.trans e2) _ fun p3 ys H3 e3 n3 hp3 hx3 =>
    ⟨p, p3, xs, ys, rfl, rfl, e3 p _ hp2, hp3, sz_of (by rw [dps_len' hx2, dps_len' hx3]; exact hl), fun pz hpz =>
      q _ _ _ ((e2.trans e3).trans (Ex.new hpz)) (fresh_back (((hb.trans e).trans e2).trans e3) hpz) upd_same (dps_ex (new_ex (Ex.new hpz)) (dps_app (dps_ex (new_ex e3) hx2) hx3))⟩
theorem dl_rep {n : Nat} (hb : Ex B H) (h : DvE K B te σ H d) (hn : Ev tn σ H (.int (n : Int))) (hz : n ≤ 100000) : DvL K B (tOp rRep (tLst (tCons te tNil)) tn) σ H (List.replicate n d) := fun H1 e Q q =>
  h H1 e _ fun z H2 e2 hd => ⟨by show 1 ≤ sizeLine; decide, fun l hl => hn _ ((e.trans e2).trans (Ex.new hl)) _ fun H3 e3 => ⟨l, (n : Int), [z], rfl, rfl, e3 l _ upd_same, by omega, by omega, by
      have q1 : [z].length * ((n : Int)).toNat = n := by simp
      rw [q1]
      exact sz_of hz, fun p hp => by
        have q2 : (List.replicate ((n : Int)).toNat [z]).flatten = List.replicate n z := by simp
        rw [q2]
        have e23 := (Ex.new (o := .lst [z]) hl).trans e3
        refine q p _ _ ((e2.trans e23).trans (Ex.new hp)) (fresh_back (((hb.trans e).trans e2).trans e23) hp) upd_same (dps_ex (new_ex (Ex.new hp)) ?_)
        have hd3 : Dp K (newIn H3 B) z d := dp_ex (new_ex e23) hd
        clear q q2 hp hn hz
        induction n with
        | zero => exact .nil
        | succ m ih => exact .cons hd3 ih⟩⟩
theorem dps_take : ∀ {H : Hp} {xs : List V} {ds : List PyData} (n : Nat), DpAll K H xs ds → DpAll K H (xs.take n) (ds.take n)
  | _, _, _, 0, _ => .nil
  | _, _, _, _ + 1, .nil => .nil
  | _, _, _, n + 1, .cons a r => .cons a (dps_take n r)
theorem dps_drop : ∀ {H : Hp} {xs : List V} {ds : List PyData} (n : Nat), DpAll K H xs ds → DpAll K H (xs.drop n) (ds.drop n)
  | _, _, _, 0, h => h
  | _, _, _, _ + 1, .nil => .nil
  | _, _, _, n + 1, .cons _ r => dps_drop n r
theorem cut_take {xs : List V} (n : Nat) : cutV xs none (some (n : Int)) = xs.take n := by
  unfold cutV
  rw [HT.sIx_none, HT.sIx_nat, List.drop_zero, Nat.sub_zero]
  by_cases c : n ≤ xs.length
  · rw [Nat.min_eq_left c]
  · rw [Nat.min_eq_right (by omega), List.take_of_length_le (Nat.le_refl _), List.take_of_length_le (by omega)]
theorem passE {X : Cx} : Passes (L2.CX X.prog X.w) X E0 := fun _ _ _ _ _ _ _ ⟨_, _, _, _, _, _, _, _, _, _, _, _, h⟩ => h.elim
theorem q_asgDl {tz : TS} {D : Ends} {i : Nat} (h : DvL K B te σ H ds) (k : ∀ p xs H1, Ex H H1 → B p = none → H1 p = some (.lst xs) → DpAll K (newIn H1 B) xs ds → tz D (σ.set i (some (.ref p))) H1) : tSeq (tAsg te (gName i)) tz D σ H :=
  h H (Ex.refl H) _ fun p xs H2 e2 n hp hx => k p xs H2 e2 n hp hx
theorem q_asgD {tz : TS} {D : Ends} {i : Nat} (h : DvE K B te σ H d) (k : ∀ z H1, Ex H H1 → Dp K (newIn H1 B) z d → tz D (σ.set i (some z)) H1) : tSeq (tAsg te (gName i)) tz D σ H :=
  h H (Ex.refl H) _ fun z H2 e2 hz => k z H2 e2 hz
end
end L3

namespace Lw
open PySem PySem.Spec PyProof.Rows L2 Evl L3
def top (i : Nat) : Stmt := PySem.Challenge.pw_latewords_k04_conversations_and_turns.main.body.getD i (.Pass ⟨0, 0, 0, 0⟩)
abbrev sIsInt : Stmt := top 6
abbrev sBetw : Stmt := top 7
abbrev sIsW : Stmt := top 13
/-- what is read of the top -/
structure Txt (K : PySem.W.Frag) (mg : Str → Option Value) : Prop where
  isi : mg "isinstance" = none
  isint : ∃ (f : Addr) (fd : FuncData), Fun K "is_integer" "is_integer" sIsInt f fd ∧ Binds K fd ["value"] [] ∧ mg "is_integer" = some (.ref f)
  int : mg "int" = none
  bool : mg "bool" = none
  tuple : mg "tuple" = none
  list : mg "list" = none
  len : mg "len" = none
  enumerate : mg "enumerate" = none
  range : mg "range" = none
  mlen : ∃ t, mg "MOST_LENGTH" = some (.int 1000000000000000000 t)
  modes : ∃ a, mg "MODES" = some (.ref a) ∧ ∀ H, SqT K H a [.str "plain", .str "push", .str "more"]
/-! ### is_integer -/
def isInD (d : PyData) : Bool := match d with
  | .int _ => true
  | _ => false
def spIsInt (K : PySem.W.Frag) : Sp := fun vs H Q _ => ∃ (x : V) (d : PyData), vs = [x] ∧ Dp K H x d ∧ RetV (.bl (isInD d)) H Q
theorem scIsInt : FnScope ["value"] ["value"] (defScope sIsInt) := ⟨rfl, rfl, rfl, by decide +kernel, rfl, by decide +kernel, by decide +kernel⟩
theorem ok_isInt {P : Program} {w : World} {K : PySem.W.Frag} {mg : Str → Option Value} {base : Heap} {f : Addr} {fd : FuncData} (F : Fun K "is_integer" "is_integer" sIsInt f fd) (T : Txt K mg) : FnOk P w K mg base CX0 0 f fd ["value"] (spIsInt K) := by
  refine ok0 F scIsInt (fun vs H Q E h => ?_) (fun cdv A outer s H vs Q E h => ?_)
  · obtain ⟨x, d, rfl, _⟩ := h
    rfl
  · obtain ⟨x, d, rfl, hd, k⟩ := h
    refine ⟨_, pss_one (ps_ret (pe_and (pe_callB call_isi (by rfl) T.isi (by decide +kernel) (pa_cons (pv 0) (pa_cons (pe_ty "int" T.int) pa_nil)))
      (pe_one (pe_not (pe_callB call_isi (by rfl) T.isi (by decide +kernel) (pa_cons (pv 0) (pa_cons (pe_ty "bool" T.bool) pa_nil))))))), ?_⟩
    refine s_ret (v := .bl (isInD d)) ?_ k
    cases d with
    | int i =>
      cases hd
      exact ev_is (ev_andV (ev_isi (ev_var rfl) (.int i) (kit_int _)) fun _ => ev_notV (ev_isi (ev_var rfl) (.int i) (kit_bool _))) rfl
    | bool b => exact ev_is (ev_andV (b := false) (ev_isi (ev_var rfl) hd (kit_int _)) fun _ => ev_notV (ev_isi (ev_var rfl) hd (kit_bool _))) rfl
    | none => exact ev_is (ev_andV (b := false) (ev_isi (ev_var rfl) hd (kit_int _)) fun z => nomatch z) rfl
    | str b => exact ev_is (ev_andV (b := false) (ev_isi (ev_var rfl) hd (kit_int _)) fun z => nomatch z) rfl
    | list b => exact ev_is (ev_andV (b := false) (ev_isi (ev_var rfl) hd (kit_int _)) fun z => nomatch z) rfl
    | tuple b => exact ev_is (ev_andV (b := false) (ev_isi (ev_var rfl) hd (kit_int _)) fun z => nomatch z) rfl
    | dict b => exact ev_is (ev_andV (b := false) (ev_isi (ev_var rfl) hd (kit_int _)) fun z => nomatch z) rfl
theorem sp_isInt {K : PySem.W.Frag} {x : V} {d : PyData} {H : Hp} (hd : Dp K H x d) : SpV (spIsInt K) [x] H (.bl (isInD d)) :=
  fun H1 e Q q E => ⟨x, d, rfl, dp_ex e hd, fun H2 e2 => q H2 e2⟩
/-! ### between -/
def betwD (d : PyData) (lo hi : Int) : Bool := match d with
  | .int i => decide (lo ≤ i) && decide (i ≤ hi)
  | _ => false
def spBetw (K : PySem.W.Frag) : Sp := fun vs H Q _ => ∃ (x : V) (d : PyData) (lo hi : Int), vs = [x, .int lo, .int hi] ∧ Dp K H x d ∧ RetV (.bl (betwD d lo hi)) H Q
section
variable {P : Program} {w : World} {K : PySem.W.Frag} {mg : Str → Option Value} {base : Heap}
theorem scB : FnScope ["value", "low", "high"] ["value", "low", "high"] (defScope sBetw) := ⟨rfl, rfl, rfl, by decide +kernel, rfl, by decide +kernel, by decide +kernel⟩
theorem ok_betw {f : Addr} {fd : FuncData} (F : Fun K "between" "between" sBetw f fd) (T : Txt K mg) : FnOk P w K mg base CX0 1 f fd ["value", "low", "high"] (spBetw K) := by
  refine F.ok scB (fun vs H Q E h => ?_) (fun cdv A outer s H vs Q E hr h => ?_)
  · obtain ⟨x, d, lo, hi, rfl, _⟩ := h
    rfl
  · obtain ⟨x, d, lo, hi, rfl, hd, k⟩ := h
    obtain ⟨fI, fdI, FI, bI, gI⟩ := T.isint
    have GI : FnOk P w K mg base CX0 0 fI fdI ["value"] (spIsInt K) := ok_isInt FI T
    refine ⟨_, pss_one (ps_ret (pe_and (pe_call GI hr rfl gI FI.kp bI .nil pass0 (pa_cons (pv 0) pa_nil)) (pe_one (pe_chain op_le op_le (pv 1) (pv 0) (pv 2))))), ?_⟩
    refine s_ret (v := .bl (betwD d lo hi)) ?_ k
    cases d with
    | int i =>
      cases hd
      exact ev_is (ev_andV (a := true) (ev_call (ea_cons (ev_var rfl) ea_nil) (sp_isInt (.int i))) fun _ => ev_chain (ev_var rfl) (ev_var rfl) (ev_var rfl)) rfl
    | bool b => exact ev_is (ev_andV (a := false) (b := false) (ev_call (ea_cons (ev_var rfl) ea_nil) (sp_isInt hd)) fun z => nomatch z) rfl
    | none => exact ev_is (ev_andV (a := false) (b := false) (ev_call (ea_cons (ev_var rfl) ea_nil) (sp_isInt hd)) fun z => nomatch z) rfl
    | str b => exact ev_is (ev_andV (a := false) (b := false) (ev_call (ea_cons (ev_var rfl) ea_nil) (sp_isInt hd)) fun z => nomatch z) rfl
    | list b => exact ev_is (ev_andV (a := false) (b := false) (ev_call (ea_cons (ev_var rfl) ea_nil) (sp_isInt hd)) fun z => nomatch z) rfl
    | tuple b => exact ev_is (ev_andV (a := false) (b := false) (ev_call (ea_cons (ev_var rfl) ea_nil) (sp_isInt hd)) fun z => nomatch z) rfl
    | dict b => exact ev_is (ev_andV (a := false) (b := false) (ev_call (ea_cons (ev_var rfl) ea_nil) (sp_isInt hd)) fun z => nomatch z) rfl
theorem sp_betw {x : V} {d : PyData} {lo hi : Int} {H : Hp} (hd : Dp K H x d) : SpV (spBetw K) [x, .int lo, .int hi] H (.bl (betwD d lo hi)) :=
  fun H1 e Q q E => ⟨x, d, lo, hi, rfl, dp_ex e hd, fun H2 e2 => q H2 e2⟩
/-! ### is_write -/
def flatD : PyData → Bool
  | .none => true
  | .bool _ => true
  | .int _ => true
  | .str _ => true
  | _ => false
def modeD : PyData → Bool
  | .str s => decide (s = "plain") || decide (s = "push") || decide (s = "more")
  | _ => false
def isWD : PyData → Bool
  | .tuple [e, l, m] => betwD e 0 1 && (betwD l 1 1000000000000000000 && modeD m)
  | _ => false
/-- where a third item stands, it is flat -/
def third : PyData → Bool
  | .tuple [_, _, m] => flatD m
  | _ => true
theorem dps_len {H : Hp} {xs : List V} {ds : List PyData} (h : DpAll K H xs ds) : xs.length = ds.length := by
  induction ds generalizing xs with
  | nil => cases h; rfl
  | cons d ds ih =>
    cases h with
    | cons _ r => rw [List.length_cons, List.length_cons, ih r]
theorem dp_flat {H : Hp} {x : V} {d : PyData} (h : Dp K H x d) (f : flatD d = true) : flatV x = true := by
  cases h with
  | lst _ _ => exact absurd (show false = true from f) Bool.false_ne_true
  | tup _ _ => exact absurd (show false = true from f) Bool.false_ne_true
  | _ => rfl
theorem in_modes {H : Hp} {x : V} {d : PyData} (h : Dp K H x d) (f : flatD d = true) : inV x [.str "plain", .str "push", .str "more"] = modeD d := by
  cases h with
  | lst _ _ => exact absurd (show false = true from f) Bool.false_ne_true
  | tup _ _ => exact absurd (show false = true from f) Bool.false_ne_true
  | str s =>
    show (("plain" : Str) == s || (("push" : Str) == s || (("more" : Str) == s || false))) = (decide (s = "plain") || decide (s = "push") || decide (s = "more"))
    have e : ∀ a : Str, (a == s) = decide (s = a) := fun a => by
      by_cases q : s = a
      · rw [q, decide_eq_true rfl, beq_self_eq_true]
      · rw [decide_eq_false q]
        exact beq_eq_false_iff_ne.mpr fun z => q z.symm
    rw [e, e, e, Bool.or_false, Bool.or_assoc]
  | _ => rfl
def spIsW (K : PySem.W.Frag) : Sp := fun vs H Q _ => ∃ (x : V) (d : PyData), vs = [x] ∧ Dp K H x d ∧ third d = true ∧ RetV (.bl (isWD d)) H Q
theorem sp_isW {x : V} {d : PyData} {H : Hp} (hd : Dp K H x d) (ht : third d = true) : SpV (spIsW K) [x] H (.bl (isWD d)) :=
  fun H1 e Q q E => ⟨x, d, rfl, dp_ex e hd, ht, fun H2 e2 => q H2 e2⟩
theorem scI : FnScope ["value", "endpoint", "length", "mode"] ["value"] (defScope sIsW) := ⟨rfl, rfl, rfl, by decide +kernel, rfl, by decide +kernel, by decide +kernel⟩
theorem ok_isW {f fB : Addr} {fd fdB : FuncData} (F : Fun K "is_write" "is_write" sIsW f fd) (T : Txt K mg) (FB : Fun K "between" "between" sBetw fB fdB) (bB : Binds K fdB ["value", "low", "high"] []) (gB : mg "between" = some (.ref fB)) :
    FnOk P w K mg base CX0 2 f fd ["value"] (spIsW K) := by
  have GB : FnOk P w K mg base CX0 1 fB fdB ["value", "low", "high"] (spBetw K) := ok_betw FB T
  obtain ⟨tL, hL⟩ := T.mlen
  obtain ⟨aM, hM, sM⟩ := T.modes
  refine F.ok scI (fun vs H Q E h => ?_) (fun cdv A outer s H vs Q E hr h => ?_)
  · obtain ⟨x, d, rfl, _⟩ := h
    rfl
  · obtain ⟨x, d, rfl, hd, ht, k⟩ := h
    refine ⟨_, pss_cons (ps_if (PW.pt (pw_or (pt_not (pt_val (pe_callB call_isi (by rfl) T.isi boot_isinstance (pa_cons (pv 0) (pa_cons (pe_ty "tuple" T.tuple) pa_nil)))))
        (pw_or1 (pt_cmpR op_ne (pe_callB call_len_seq (by rfl) T.len PySem.boot_len (pa_cons (pv 0) pa_nil)) pe_int (nomark _)))))
        (pss_one (ps_ret pe_bl)) pss_nil)
      (pss_cons (ps_asg (pv 0) (pg_tup rfl (pgs_cons (pg_name (i := 1) scI.nd rfl (Or.inl rfl)) (pgs_cons (pg_name (i := 2) scI.nd rfl (Or.inl rfl)) (pgs_cons (pg_name (i := 3) scI.nd rfl (Or.inl rfl)) pgs_nil)))))
      (pss_one (ps_ret (pe_and (pe_call GB hr rfl gB FB.kp bB .nil pass0 (pa_cons (pv 1) (pa_cons pe_int (pa_cons pe_int pa_nil))))
        (pe_and (pe_call GB hr rfl gB FB.kp bB .nil pass0 (pa_cons (pv 2) (pa_cons pe_int (pa_cons (pe_glob (v := .int 1000000000000000000) rfl hL ⟨_, rfl⟩) pa_nil))))
          (pe_one (pe_cmpR op_in_seq (pv 3) (pe_glob (v := .ref aM) rfl hM rfl) rfl))))))), ?_⟩
    have no : isTupD d = false → isWD d = false := fun z => by cases d <;> first | rfl | exact absurd (show true = false from z) (by decide)
    cases hT : isTupD d with
    | false =>
      have e0 : isWD d = false := no hT
      rw [e0] at k
      refine q_when (b := true) (et_is (et_or (a := true) (b := false) (et_not (a := false) (et_B (ev_is (ev_isi (ev_var rfl) hd (kit_tuple _)) (by rw [hT])))) fun z => nomatch z) rfl) (fun _ H1 e1 => ?_) (fun hb => nomatch hb)
      exact s_ret ev_c fun H2 e2 => k H2 (e1.trans e2)
    | true =>
      obtain ⟨a, xs, ds, rfl, rfl, hs, ha⟩ : ∃ a xs ds, d = .tuple ds ∧ x = .ref a ∧ SqT K H a xs ∧ DpAll K H xs ds := by
        cases hd with
        | tup hs ha => exact ⟨_, _, _, rfl, rfl, hs, ha⟩
        | _ => exact absurd (show false = true from hT) Bool.false_ne_true
      have hl := dps_len ha
      refine q_when (b := decide (ds.length ≠ 3)) ?_ (fun hb H1 e1 => ?_) (fun hb H1 e1 => ?_)
      · refine et_is (et_or (a := false) (b := decide (ds.length ≠ 3)) (et_not (a := true) (et_B (ev_isi (ev_var rfl) (.tup hs ha) (kit_tuple _)))) fun _ => ?_) (Bool.false_or _)
        refine et_is (et_test (ev_op (ev_cb (ea_cons (ev_var rfl) ea_nil) (fun H1 e Q q => ⟨a, xs, rfl, Or.inr (ex_t e hs), q H1 (Ex.refl H1)⟩)) ev_c (rv_ne rfl))) ?_
        rw [hl]
        by_cases c : ds.length = 3
        · rw [c] <;> rfl
        · rw [decide_eq_true c]
          have c2 : ¬ V.int (ds.length : Int) = V.int 3 := fun z => c (by injection z with z; omega)
          rw [decide_eq_false c2] <;> rfl
      · have c : ds.length ≠ 3 := of_decide_eq_true hb
        have e0 : isWD (.tuple ds) = false := by
          match ds, c with
          | [], _ => rfl
          | [_], _ => rfl
          | [_, _], _ => rfl
          | [_, _, _], c => exact absurd rfl c
          | _ :: _ :: _ :: _ :: _, _ => rfl
        rw [e0] at k
        exact s_ret ev_c fun H2 e2 => k H2 (e1.trans e2)
      · have c : ds.length = 3 := by
          have z := of_decide_eq_false hb
          omega
        match ds, c, ha with
        | [de, dl, dm], _, ha =>
          cases ha with
          | @cons xe xs1 _ _ he ha1 =>
          cases ha1 with
          | @cons xl xs2 _ _ hl2 ha2 =>
          cases ha2 with
          | @cons xm xs3 _ _ hm ha3 =>
          cases ha3
          refine ⟨_, rfl, a, _, rfl, ex_t e1 hs, rfl, ?_⟩
          refine ⟨_, _, rfl, _, _, rfl, _, _, rfl, rfl, ?_⟩
          have fm : flatD dm = true := ht
          dsimp only
          refine s_ret (v := .bl (isWD (.tuple [de, dl, dm]))) ?_ (fun H2 e2 => ?_)
          case refine_2 => exact k H2 (e1.trans e2)
          refine ev_andV (ev_call (ea_cons (ev_var rfl) (ea_cons ev_c (ea_cons ev_c ea_nil))) (sp_betw (dp_ex e1 he))) fun _ =>
            ev_andV (ev_call (ea_cons (ev_var rfl) (ea_cons ev_c (ea_cons ev_c ea_nil))) (sp_betw (dp_ex e1 hl2))) fun _ =>
              ev_is (ev_op (ev_var rfl) ev_c (rv_isT (sM _) (dp_flat hm fm) rfl)) (congrArg V.bl (in_modes hm fm))
end
end Lw

namespace Lw
open PySem PySem.Spec PyProof.Rows L2 Evl L3
abbrev sIniW : Stmt := inClass (top 2) 0
abbrev sIniO : Stmt := inClass (top 3) 0
abbrev sChk : Stmt := top 12
abbrev sTurns : Stmt := top 14
section
variable {P : Program} {w : World} {K : PySem.W.Frag} {mg : Str → Option Value} {base : Heap}
theorem scIni : FnScope ["self", "index"] ["self", "index"] (defScope sIniW) := ⟨rfl, rfl, rfl, by decide +kernel, rfl, by decide +kernel, by decide +kernel⟩
theorem scIniO : FnScope ["self", "index"] ["self", "index"] (defScope sIniO) := ⟨rfl, rfl, rfl, by decide +kernel, rfl, by decide +kernel, by decide +kernel⟩
theorem ok_iniW {f C : Addr} {fd : FuncData} (F : Fun K "__init__" "BadWrite.__init__" sIniW f fd) : FnOk P w K mg base CX0 1 f fd ["self", "index"] (spErr K C "index") := by
  refine F.ok scIni (fun vs H Q E h => ?_) (fun cdv A outer s H vs Q E hr h => ⟨_, pss_one (ps_ost (pv 0) (pv 1)), ?_⟩)
  · obtain ⟨a, v, rfl, _⟩ := h
    rfl
  · exact s_ini h (by obtain ⟨a, v, rfl, _⟩ := h; rfl)
theorem ok_iniO {f C : Addr} {fd : FuncData} (F : Fun K "__init__" "BadOrder.__init__" sIniO f fd) : FnOk P w K mg base CX0 1 f fd ["self", "index"] (spErr K C "index") := by
  refine F.ok scIniO (fun vs H Q E h => ?_) (fun cdv A outer s H vs Q E hr h => ⟨_, pss_one (ps_ost (pv 0) (pv 1)), ?_⟩)
  · obtain ⟨a, v, rfl, _⟩ := h
    rfl
  · exact s_ini h (by obtain ⟨a, v, rfl, _⟩ := h; rfl)
/-! ### check -/
def thirds : PyData → Bool
  | .list ds => ds.all third
  | _ => true
def fbad : List PyData → Nat → Option Nat
  | [], _ => none
  | d :: r, i => if isWD d = true then fbad r (i + 1) else some i
/-- what check tells of a value: none, or what BadWrite bears -/
def chkD : PyData → Option V
  | .list ds => if 200 < ds.length then some .non else (fbad ds 0).map fun i => V.int (i : Int)
  | _ => some .non
theorem fbad_step {ds : List PyData} {i : Nat} {d : PyData} (h : ds[i]? = some d) : fbad (ds.drop i) i = if isWD d = true then fbad (ds.drop (i + 1)) (i + 1) else some i := by
  have hi := (List.getElem?_eq_some_iff.mp h).1
  rw [List.drop_eq_getElem_cons hi, (List.getElem?_eq_some_iff.mp h).2]
  rfl
theorem dps_get {H : Hp} : ∀ {xs : List V} {ds : List PyData} {i : Nat} {x : V}, DpAll K H xs ds → xs[i]? = some x → ∃ d, ds[i]? = some d ∧ Dp K H x d
  | _, _, 0, x, .cons a _, e => by
    simp at e
    exact ⟨_, by simp, e ▸ a⟩
  | _, _, i + 1, x, .cons _ r, e => by
    obtain ⟨d, h1, h2⟩ := dps_get (i := i) r (by simpa using e)
    exact ⟨d, by simpa using h1, h2⟩
  | _, _, _, _, .nil, e => by simp at e
def spChk (K : PySem.W.Frag) (CW : Addr) : Sp := fun vs H Q E => ∃ (x : V) (d : PyData), vs = [x] ∧ Dp K H x d ∧ thirds d = true ∧ (chkD d = none → RetV .non H Q) ∧ ∀ v, chkD d = some v → ErrV CW "index" v H E
theorem scC : FnScope ["conversation", "index", "write"] ["conversation"] (defScope sChk) := ⟨rfl, rfl, rfl, by decide +kernel, rfl, by decide +kernel, by decide +kernel⟩
theorem ok_chk {f fI CW fN : Addr} {fd fdI fdN : FuncData} (F : Fun K "check" "check" sChk f fd) (T : Txt K mg) (hW : ∃ t, mg "MOST_WRITES" = some (.int 200 t)) (TW : ErC P w K mg base "BadWrite" "index" CW fN fdN)
    (FI : Fun K "is_write" "is_write" sIsW fI fdI) (bI : Binds K fdI ["value"] []) (gI : mg "is_write" = some (.ref fI)) (GI : FnOk P w K mg base CX0 2 fI fdI ["value"] (spIsW K)) :
    FnOk P w K mg base (L2.CX P w) 3 f fd ["conversation"] (spChk K CW) := by
  obtain ⟨tW, hW⟩ := hW
  refine F.okX scC (fun vs H Q E h => ?_) (fun cdv A outer s H vs Q E hr h => ?_)
  · obtain ⟨x, d, rfl, _⟩ := h
    rfl
  · obtain ⟨x, d, rfl, hd, ht, k0, k1⟩ := h
    refine ⟨_, pss_cons (ps_if (PW.pt (pw_or (pt_not (pt_val (pe_callB call_isi (by rfl) T.isi boot_isinstance (pa_cons (pv 0) (pa_cons (pe_ty "list" T.list) pa_nil)))))
        (pw_or1 (pt_cmpR op_gt (pe_callB call_len_seq (by rfl) T.len PySem.boot_len (pa_cons (pv 0) pa_nil)) (pe_glob (v := .int 200) rfl hW ⟨_, rfl⟩) (nomark _)))))
        (pss_one (ps_rz rfl TW hr (takes_of rfl rfl rfl rfl) (by exact pa_cons pe_non pa_nil))) pss_nil)
      (pss_one (ps_for (passes_of rfl) rfl (pi_enum (by rfl) T.enumerate (pa_cons (pv 0) pa_nil)) (pg_tup rfl (pgs_cons (pg_name (i := 1) scC.nd rfl (Or.inl rfl)) (pgs_cons (pg_name (i := 2) scC.nd rfl (Or.inl rfl)) pgs_nil)))
        (pss_one (ps_if (pt_not (pt_val (pe_call GI hr rfl gI FI.kp bI .nil pass0 (pa_cons (pv 2) pa_nil)))) (pss_one (ps_rz rfl TW hr (takes_of rfl rfl rfl rfl) (by exact pa_cons (pv 1) pa_nil))) pss_nil)))), ?_⟩
    cases hT : isListD d with
    | false =>
      have e0 : chkD d = some .non := by cases d <;> first | rfl | exact absurd (show true = false from hT) (by decide)
      refine q_when (b := true) (et_is (et_or (a := true) (b := false) (et_not (a := false) (et_B (ev_is (ev_isi (ev_var rfl) hd (kit_list _)) (by rw [hT])))) fun z => nomatch z) rfl) (fun _ H1 e1 => ?_) (fun hb => nomatch hb)
      exact s_rz ev_c TW.oex TW.no ((k1 _ e0).go e1)
    | true =>
      obtain ⟨a, xs, ds, rfl, rfl, hs, ha⟩ : ∃ a xs ds, d = .list ds ∧ x = .ref a ∧ SqL K H a xs ∧ DpAll K H xs ds := by
        cases hd with
        | lst hs ha => exact ⟨_, _, _, rfl, rfl, hs, ha⟩
        | _ => exact absurd (show false = true from hT) Bool.false_ne_true
      have hl := dps_len ha
      refine q_when (b := decide (200 < ds.length)) ?_ (fun hb H1 e1 => ?_) (fun hb H1 e1 => ?_)
      · refine et_is (et_or (a := false) (b := decide (200 < ds.length)) (et_not (a := true) (et_B (ev_isi (ev_var rfl) (.lst hs ha) (kit_list _)))) fun _ => ?_) (Bool.false_or _)
        refine et_is (et_test (ev_op (ev_cb (ea_cons (ev_var rfl) ea_nil) (fun H1 e Q q => ⟨a, xs, rfl, Or.inl (ex_l e hs), q H1 (Ex.refl H1)⟩)) ev_c rv_I0)) ?_
        rw [hl]
        exact decide_eq_decide.mpr (by omega)
      · have c : 200 < ds.length := of_decide_eq_true hb
        have e0 : chkD (.list ds) = some .non := if_pos c
        exact s_rz ev_c TW.oex TW.no ((k1 _ e0).go e1)
      · have c : ¬ 200 < ds.length := of_decide_eq_false hb
        have e0 : chkD (.list ds) = (fbad ds 0).map fun i => V.int (i : Int) := if_neg c
        refine s_forEn (ea_cons (ev_var rfl) ea_nil) (ex_l e1 hs) (fun i σ' H' => Ex H H' ∧ (∃ o1 o2, σ' = [some (.ref a), o1, o2]) ∧ fbad ds 0 = fbad (ds.drop i) i) (fun H2 e2 => ⟨e1.trans e2, ⟨none, none, rfl⟩, rfl⟩) (fun i σ' H' _ p => ex_l p.1 hs) ?_ ?_
        · rintro i y σ' H' hy ⟨e3, ⟨o1, o2, rfl⟩, hf⟩ H2 e2
          obtain ⟨dy, h1, h2⟩ := dps_get ha hy
          have t3 : third dy = true := by
            have z : ds.all third = true := ht
            exact List.all_eq_true.mp z _ (List.mem_of_getElem? h1)
          rw [fbad_step h1] at hf
          refine s_when (b := !isWD dy) (et_not (et_B (ev_call (ea_cons (ev_var rfl) ea_nil) (sp_isW (dp_ex (e3.trans e2) h2) t3)))) (fun hb H3 e4 => ?_) (fun hb H3 e4 => ?_)
          · have c2 : isWD dy = false := by simpa using hb
            rw [c2, if_neg Bool.false_ne_true] at hf
            rw [hf] at e0
            exact s_rz (ev_var rfl) TW.oex TW.no ((k1 _ e0).go ((e3.trans e2).trans e4))
          · have c2 : isWD dy = true := by simpa using hb
            rw [c2, if_pos rfl] at hf
            exact ⟨(e3.trans e2).trans e4, ⟨_, _, rfl⟩, hf⟩
        · rintro σ' H' ⟨e3, _, hf⟩
          rw [hl, List.drop_length] at hf
          rw [hf] at e0
          exact k0 e0 _ e3
end
end Lw

namespace Lw
open PySem PySem.Spec PyProof.Rows L2 Evl L3
/-! ### what check lets by -/
def okW (w : Wr) : Bool := betwD (.int w.1) 0 1 && (betwD (.int w.2.1) 1 1000000000000000000 && modeD (.str w.2.2))
theorem isWD_wD (w : Wr) : isWD (wD w) = okW w := rfl
theorem isWD_some {d : PyData} (h : isWD d = true) : ∃ w, d = wD w ∧ okW w = true := by
  match d, h with
  | .tuple [e, l, m], h =>
    have h' : (betwD e 0 1 && (betwD l 1 1000000000000000000 && modeD m)) = true := h
    simp only [Bool.and_eq_true] at h'
    obtain ⟨h1, h2, h3⟩ := h'
    match e, h1 with
    | .int i, h1 =>
    match l, h2 with
    | .int j, h2 =>
    match m, h3 with
    | .str s, h3 =>
      refine ⟨(i, j, s), rfl, ?_⟩
      unfold okW
      simp only [Bool.and_eq_true]
      exact ⟨h1, h2, h3⟩
theorem fbad_good : ∀ {ds : List PyData} {i : Nat}, fbad ds i = none → ∃ ws : List Wr, ds = ws.map wD ∧ ∀ w ∈ ws, okW w = true
  | [], _, _ => ⟨[], rfl, fun _ h => nomatch h⟩
  | d :: r, i, h => by
    have h' : (if isWD d = true then fbad r (i + 1) else some i) = none := h
    by_cases c : isWD d = true
    · rw [if_pos c] at h'
      obtain ⟨ws, e, a⟩ := fbad_good h'
      obtain ⟨w, e1, a1⟩ := isWD_some c
      refine ⟨w :: ws, by rw [e1, e]; rfl, fun v hv => ?_⟩
      rcases List.mem_cons.mp hv with q | q
      · rw [q]; exact a1
      · exact a v q
    · rw [if_neg c] at h'
      cases h'
theorem good_fbad : ∀ {ws : List Wr} {i : Nat}, (∀ w ∈ ws, okW w = true) → fbad (ws.map wD) i = none
  | [], _, _ => rfl
  | w :: r, i, h => by
    show (if isWD (wD w) = true then fbad (r.map wD) (i + 1) else some i) = none
    rw [isWD_wD, h w List.mem_cons_self, if_pos rfl]
    exact good_fbad fun v hv => h v (List.mem_cons_of_mem _ hv)
theorem chk_good {d : PyData} (h : chkD d = none) : ∃ ws : List Wr, d = cD ws ∧ ws.length ≤ 200 ∧ ∀ w ∈ ws, okW w = true := by
  match d, h with
  | .list ds, h =>
    have h' : (if 200 < ds.length then some V.non else (fbad ds 0).map fun i => V.int (i : Int)) = none := h
    by_cases c : 200 < ds.length
    · rw [if_pos c] at h'
      cases h'
    · rw [if_neg c] at h'
      cases e : fbad ds 0 with
      | some i =>
        rw [e] at h'
        cases h'
      | none =>
        obtain ⟨ws, e1, a⟩ := fbad_good e
        exact ⟨ws, by rw [e1] <;> rfl, by rw [e1, List.length_map] at c; omega, a⟩
theorem good_chk {ws : List Wr} (hl : ws.length ≤ 200) (h : ∀ w ∈ ws, okW w = true) : chkD (cD ws) = none := by
  show (if 200 < (ws.map wD).length then some V.non else (fbad (ws.map wD) 0).map fun i => V.int (i : Int)) = none
  rw [if_neg (by rw [List.length_map]; omega), good_fbad h] <;> rfl
theorem third_wD (ws : List Wr) : thirds (cD ws) = true := by
  show (ws.map wD).all third = true
  rw [List.all_eq_true]
  intro d hd
  obtain ⟨w, _, e⟩ := List.mem_map.mp hd
  rw [← e] <;> rfl
section
variable {P : Program} {w : World} {K : PySem.W.Frag} {mg : Str → Option Value} {base : Heap}
def spTurns (K : PySem.W.Frag) (CW : Addr) : Sp := fun vs H Q E => ∃ (x : V) (d : PyData), vs = [x] ∧ Dp K H x d ∧ thirds d = true ∧
  (∀ ws : List Wr, d = cD ws → chkD d = none → RetLD K ((turnsM ws).map tD) H Q) ∧ ∀ v, chkD d = some v → ErrV CW "index" v H E
theorem scTu : FnScope ["conversation", "found", "start", "stop", "speaker"] ["conversation"] (defScope sTurns) := ⟨rfl, rfl, rfl, by decide +kernel, rfl, by decide +kernel, by decide +kernel⟩
theorem ok_turns {f fC CW : Addr} {fd fdC : FuncData} (F : Fun K "turns" "turns" sTurns f fd) (T : Txt K mg)
    (FC : Fun K "check" "check" sChk fC fdC) (bC : Binds K fdC ["conversation"] []) (gC : mg "check" = some (.ref fC)) (GC : FnOk P w K mg base (L2.CX P w) 3 fC fdC ["conversation"] (spChk K CW)) :
    FnOk P w K mg base (L2.CX P w) 4 f fd ["conversation"] (spTurns K CW) := by
  refine F.okX scTu (fun vs H Q E h => ?_) (fun cdv A outer s H vs Q E hr h => ?_)
  · obtain ⟨x, d, rfl, _⟩ := h
    rfl
  · obtain ⟨x, d, rfl, hd, ht, k0, k1⟩ := h
    refine ⟨_, pss_cons (ps_expr (pe_call GC hr rfl gC FC.kp bC .nil (passes_call (takes_of rfl rfl rfl rfl) fun _ _ _ _ z => z) (by exact pa_cons (pv 0) pa_nil)))
      (pss_cons (ps_set (i := 1) scTu.nd rfl (Or.inl rfl) (pe_lst pa_nil)) (pss_cons (ps_set (i := 2) scTu.nd rfl (Or.inl rfl) pe_int)
      (pss_cons (ps_for (passes_of rfl) rfl (pi_range2 rfl T.range (pa_cons pe_int (pa_cons (pe_op op_add (pe_callB call_len_seq (by rfl) T.len PySem.boot_len (pa_cons (pv 0) pa_nil)) pe_int) pa_nil))) (pg_name (i := 3) scTu.nd rfl (Or.inl rfl))
        (pss_cons (ps_set (i := 4) scTu.nd rfl (Or.inl rfl) (pe_ix ix_tup (pe_ix ix_list (pv 0) (pv 2) (fun _ _ => rfl)) pe_int (fun _ _ => rfl)))
        (pss_one (ps_if (PW.pt (pw_or (pt_cmpR op_eq (pv 3) (pe_callB call_len_seq (by rfl) T.len PySem.boot_len (pa_cons (pv 0) pa_nil)) (nomark _))
            (pw_or1 (pt_cmpR op_ne (pe_ix ix_tup (pe_ix ix_list (pv 0) (pv 3) (fun _ _ => rfl)) pe_int (fun _ _ => rfl)) (pv 4) (nomark _)))))
          (pss_cons (ps_expr (pe_bm PySem.F.plainAttrs_list PySem.F.slot_list_append PySem.F.type_list_append mt_append (pv 1) (pa_cons (pe_tup (pa_cons (pv 4) (pa_cons (pv 2) (pa_cons (pv 3) pa_nil)))) pa_nil)))
            (pss_one (ps_set (i := 2) scTu.nd rfl (Or.inl rfl) (pv 3)))) pss_nil))))
      (pss_one (ps_ret (pv 1)))))), ?_⟩
    refine ⟨_, rfl, x, d, rfl, hd, ht, fun c0 H1 e1 => ?_, k1⟩
    obtain ⟨ws, rfl, hlen, _⟩ := chk_good c0
    have kk := k0 ws rfl c0
    cases hd with
    | @lst a xs _ hs ha =>
    have hl : xs.length = ws.length := by rw [dps_len' ha, List.length_map]
    refine q_asgL (el_lst ea_nil (by show 0 ≤ 100000; decide)) fun p H2 hp2 e2 h2 => ?_
    refine q_asg ev_c fun H3 e3 => ?_
    have evlen : ∀ {σ : L2.St} {H' : Hp}, σ[0]? = some (some (V.ref a)) → Ex H H' → Ev (tCB (rLenS K) (tCons (tVar 0) tNil)) σ H' (.int (ws.length : Int)) := fun hσ e => by
      rw [← hl]
      exact ev_len (ev_var hσ) (ex_l e hs)
    have hp0 : H p = none := fresh_back e1 hp2
    refine q_forR2 (ea_cons ev_c (ea_cons (ev_op (evlen rfl ((e1.trans e2).trans e3)) ev_c rv_I0) ea_nil)) (by omega)
      (fun i σ' H' => ∃ o3 o4 ys, σ' = [some (.ref a), some (.ref p), some (.int ((tN ws i).2 : Int)), o3, o4] ∧ Ex H (del H' p) ∧ H' p = some (.lst ys) ∧ DpAll K (del H' p) ys ((tN ws i).1.map tD))
      (fun H4 e4 => ⟨none, none, [], rfl, ex_beside (((e1.trans e2).trans e3).trans e4) hp0, e4 p _ (e3 p _ h2), .nil⟩) ?_ ?_
    · rintro i σ' H' hi ⟨o3, o4, ys, rfl, ex, hys, hda⟩
      have hi2 : i < ws.length := by omega
      have eH : Ex H H' := ex.trans ex_del_self
      have hst := tN_le ws i
      obtain ⟨t1, w1, q1, x1, s1⟩ := wr_at ha (j := (tN ws i).2) (by omega)
      have sp1 : w1.1 = spk ws (tN ws i).2 := (spk_of q1).symm
      refine q_asg (v := .int (spk ws (tN ws i).2)) ?_ fun H4 e4 => ?_
      · rw [← sp1]
        exact ev_op (ev_op (ev_var rfl) (ev_var rfl) (rv_ixL (ex_l eH hs) (atI_nat x1))) ev_c (rv_ixT (ex_t eH s1) (atI_nat (j := 0) rfl))
      have e14 : ((1 : Int) + (i : Int)) = ((i + 1 : Nat) : Int) := by omega
      refine s_when (b := decide (i + 1 = ws.length ∨ spk ws (i + 1) ≠ spk ws (tN ws i).2)) ?_ (fun hb H5 e5 => ?_) (fun hb H5 e5 => ?_)
      · by_cases c : i + 1 = ws.length
        · refine et_is (et_or (a := true) (b := true) (et_is (et_test (ev_op (ev_var rfl) (evlen rfl (eH.trans e4)) (rv_eq rfl))) (decide_eq_true (by rw [← c, e14]))) fun z => nomatch z) ?_
          rw [decide_eq_true (Or.inl c)] <;> rfl
        · obtain ⟨t2, w2, q2, x2, s2⟩ := wr_at ha (j := i + 1) (by omega)
          have sp2 : w2.1 = spk ws (i + 1) := (spk_of q2).symm
          refine et_is (et_or (a := false) (b := decide (spk ws (i + 1) ≠ spk ws (tN ws i).2)) (et_is (et_test (ev_op (ev_var rfl) (evlen rfl (eH.trans e4)) (rv_eq rfl))) (decide_eq_false (fun z => c (by injection z with z; omega)))) fun _ => ?_) ?_
          · refine et_is (et_test (ev_op (x := .int (spk ws (i + 1))) ?_ (ev_var rfl) (rv_ne rfl))) ?_
            · rw [← sp2]
              refine ev_op (ev_op (ev_var rfl) (ev_var (v := .int ((i + 1 : Nat) : Int)) (by rw [← e14]; rfl)) (rv_ixL (ex_l (eH.trans e4) hs) (atI_nat x2))) ev_c (rv_ixT (ex_t (eH.trans e4) s2) (atI_nat (j := 0) rfl))
            · by_cases c2 : spk ws (i + 1) = spk ws (tN ws i).2
              · rw [c2, decide_eq_true rfl, decide_eq_false (fun z => z rfl)] <;> rfl
              · rw [decide_eq_true c2, decide_eq_false (fun z => c2 (by injection z))] <;> rfl
          · rw [Bool.false_or]
            exact decide_eq_decide.mpr ⟨Or.inr, fun z => z.resolve_left c⟩
      · have c := of_decide_eq_true hb
        have eN : tN ws (i + 1) = ((tN ws i).1 ++ [(spk ws (tN ws i).2, (tN ws i).2, i + 1)], i + 1) := if_pos c
        have hys5 : H5 p = some (.lst ys) := e5 p _ (e4 p _ hys)
        refine q_appU hys5 (ev_var rfl) (eu_tup (ea_cons (ev_var rfl) (ea_cons (ev_var rfl) (ea_cons (ev_var rfl) ea_nil))) (by show 3 ≤ 100000; decide)) ?_ fun u H6 hu e6 h6 => ?_
        · have z1 := dps_len' hda
          have z2 := tN_len ws i
          rw [List.length_map] at z1
          omega
        have nup : u ≠ p := fun z => by
          rw [z, hys5] at hu
          cases hu
        refine s_asg (ev_var rfl) fun H7 e7 => ?_
        refine ⟨some (.int (1 + (i : Int))), some (.int (spk ws (tN ws i).2)), ys ++ [.ref u], ?_, ?_, e7 p _ upd_same, ?_⟩
        · rw [eN, ← e14] <;> rfl
        · refine (ex.trans (ex_del ((e4.trans e5).trans e6))).trans ?_
          rw [← del_upd (H := H6) (l := p) (o := .lst (ys ++ [.ref u]))]
          exact ex_del e7
        · rw [eN, List.map_append]
          have k7 : Ex (del H6 p) (del H7 p) := by
            rw [← del_upd (H := H6) (l := p) (o := .lst (ys ++ [.ref u]))]
            exact ex_del e7
          refine dps_snoc (dps_ex (((ex_del ((e4.trans e5).trans e6))).trans k7) hda) ?_
          have hu6 : (del H6 p) u = some (.tup [.int (spk ws (tN ws i).2), .int ((tN ws i).2 : Int), .int ((i + 1 : Nat) : Int)]) := by
            rw [del_ne nup, h6, e14]
          exact .tup (st_of (k7 u _ hu6)) (.cons (.int _) (.cons (.int _) (.cons (.int _) .nil)))
      · have c := of_decide_eq_false hb
        have eN : tN ws (i + 1) = tN ws i := if_neg c
        have k5 : Ex (del H' p) (del H5 p) := ex_del (e4.trans e5)
        refine ⟨some (.int (1 + (i : Int))), some (.int (spk ws (tN ws i).2)), ys, ?_, ex.trans k5, e5 p _ (e4 p _ hys), ?_⟩
        · rw [eN] <;> rfl
        · rw [eN]
          exact dps_ex k5 hda
    · rintro σ' H' ⟨o3, o4, ys, rfl, ex, hys, hda⟩
      have e0 : (((ws.length : Nat) : Int) + 1 - 1).toNat = ws.length := by omega
      rw [e0] at hda
      exact s_ret (ev_var rfl) fun H4 e4 => kk p ys H4 hp0 (ex.trans (ex_del e4)) (e4 p _ hys) (dps_ex (ex_del e4) hda)
end
end Lw

namespace Lw
open PySem PySem.Spec PyProof.Rows L2 Evl L3
abbrev sBag : Stmt := top 16
abbrev sTake : Stmt := top 17
/-- the bag at g: digits, a seed, a count that leaves room for n more draws -/
def BagAt (H : Hp) (g : Addr) (n : Nat) : Prop := ∃ d s c : Int, H g = some (.lst [.int d, .int s, .int c]) ∧ 0 ≤ d ∧ 0 ≤ s ∧ s < 4294967296 ∧ 0 ≤ c ∧ c + 3 * n ≤ 1099511627776
theorem BagAt.ex {H H1 : Hp} {g : Addr} {n : Nat} (b : BagAt H g n) (e : Ex H H1) : BagAt H1 g n := by
  obtain ⟨d, s, c, h, r⟩ := b
  exact ⟨d, s, c, e g _ h, r⟩
theorem BagAt.less {H : Hp} {g : Addr} {n m : Nat} (b : BagAt H g n) (h : m ≤ n) : BagAt H g m := by
  obtain ⟨d, s, c, h1, h2, h3, h4, h5, h6⟩ := b
  exact ⟨d, s, c, h1, h2, h3, h4, h5, by omega⟩
/-- one draw -/
def spTake : Sp := fun vs H Q _ => ∃ (g : Addr) (n : Nat) (m : Int), vs = [.ref g, .int m] ∧ BagAt H g (n + 1) ∧ 1 ≤ m ∧ m ≤ 100000000000000000000 ∧
  ∀ (r : Int) (H' : Hp), 0 ≤ r → r < m → Ex (del H g) (del H' g) → BagAt H' g n → Q (.int r) H'
section
variable {P : Program} {w : World} {K : PySem.W.Frag} {mg : Str → Option Value} {base : Heap}
theorem rc_int {H : Hp} {i : Int} : RC (fun xs H Q => (∃ i, xs = [V.int i] ∧ Q (.int i) H) ∨ ∃ k, xs = [V.bl k] ∧ Q (.int (if k then 1 else 0)) H) [.int i] H (.int i) := fun H1 e Q q => Or.inl ⟨i, rfl, q H1 (Ex.refl H1)⟩
theorem scTa : FnScope ["_law_bag_here", "_law_many", "_law_digit", "_law_found", "_law_reach", "_law_more"] ["_law_bag_here", "_law_many"] (defScope sTake) := ⟨rfl, rfl, rfl, by decide +kernel, rfl, by decide +kernel, by decide +kernel⟩
theorem ok_take {f : Addr} {fd : FuncData} (F : Fun K "_law_take" "_law_take" sTake f fd) (T : Txt K mg) : FnOk P w K mg base CX0 1 f fd ["_law_bag_here", "_law_many"] spTake := by
  refine F.ok scTa (fun vs H Q E h => ?_) (fun cdv A outer s H vs Q E hr h => ?_)
  · obtain ⟨g, n, m, rfl, _⟩ := h
    rfl
  · obtain ⟨g, n, m, rfl, ⟨d, s, c, hg, hd, hs0, hs1, hc0, hc1⟩, hm1, hm2, k⟩ := h
    refine ⟨_, pss_cons (ps_if (pt_cmpR op_gt (pe_ix ix_list (pv 0) pe_int (fun _ _ => rfl)) pe_int (nomark _))
        (pss_cons (ps_set (i := 2) scTa.nd rfl (Or.inl rfl) (pe_op op_mod (pe_callTy call_int1 (by rfl) T.int PyProof.Rows.boot_int (pa_cons (pe_ix ix_list (pv 0) pe_int (fun _ _ => rfl)) pa_nil)) (pv 1)))
        (pss_cons (ps_asg (pe_op op_fdivW (pe_ix ix_list (pv 0) pe_int (fun _ _ => rfl)) (pv 1)) (pg_sub (pv 0) pe_int set_list))
        (pss_one (ps_ret (pv 2))))) pss_nil)
      (pss_cons (ps_asg (pe_tup (pa_cons pe_int (pa_cons pe_int pa_nil))) (pg_tup rfl (pgs_cons (pg_name (i := 3) scTa.nd rfl (Or.inl rfl)) (pgs_cons (pg_name (i := 4) scTa.nd rfl (Or.inl rfl)) pgs_nil))))
      (pss_cons (ps_while PassesOwn.never (pt_cmpR op_lt (pv 4) (pv 1) (nomark _))
        (pss_cons (ps_asg (pe_op op_add (pe_ix ix_list (pv 0) pe_int (fun _ _ => rfl)) pe_int) (pg_sub (pv 0) pe_int set_list))
        (pss_cons (ps_asg (pe_op op_mod (pe_callTy call_int1 (by rfl) T.int PyProof.Rows.boot_int (pa_cons (pe_op op_add (pe_op op_add (pe_op op_mul (pe_ix ix_list (pv 0) pe_int (fun _ _ => rfl)) pe_int)
            (pe_op op_mul (pe_op op_mul pe_int (pe_ix ix_list (pv 0) pe_int (fun _ _ => rfl))) (pe_ix ix_list (pv 0) pe_int (fun _ _ => rfl)))) pe_int) pa_nil)) pe_int) (pg_sub (pv 0) pe_int set_list))
        (pss_cons (ps_set (i := 5) scTa.nd rfl (Or.inl rfl) (pe_op op_mod (pe_callTy call_int1 (by rfl) T.int PyProof.Rows.boot_int (pa_cons (pe_op op_mul (pe_op op_fdiv (pe_ix ix_list (pv 0) pe_int (fun _ _ => rfl)) pe_int)
            (pe_op op_add (pe_op op_fdiv (pe_ix ix_list (pv 0) pe_int (fun _ _ => rfl)) pe_int) (pe_ix ix_list (pv 0) pe_int (fun _ _ => rfl)))) pa_nil)) pe_int))
        (pss_cons (ps_set (i := 3) scTa.nd rfl (Or.inl rfl) (pe_op op_add (pe_op op_mul (pv 3) pe_int) (pe_op op_mod (pe_callTy call_int1 (by rfl) T.int PyProof.Rows.boot_int (pa_cons (pe_op op_fdiv (pv 5) pe_int) pa_nil)) pe_int)))
        (pss_one (ps_set (i := 4) scTa.nd rfl (Or.inl rfl) (pe_op op_mul (pv 4) pe_int))))))))
      (pss_one (ps_ret (pe_op op_mod (pv 3) (pv 1)))))), ?_⟩
    refine q_when (b := decide (0 < d)) (et_test (ev_op (ev_op (ev_var rfl) ev_c (rv_ixL (sq_of hg) (atI_nat (j := 0) rfl))) ev_c rv_I0)) (fun hb H1 e1 => ?_) (fun hb H1 e1 => ?_)
    · have hd1 : 0 < d := of_decide_eq_true hb
      refine q_asg (ev_op (ev_cb (ea_cons (ev_op (ev_var rfl) ev_c (rv_ixL (sq_of (e1 g _ hg)) (atI_nat (j := 0) rfl))) ea_nil) rc_int) (ev_var rfl) (rv_I (show 0 < m by omega))) fun H2 e2 => ?_
      have hg2 : H2 g = some (.lst [.int d, .int s, .int c]) := e2 g _ (e1 g _ hg)
      refine q_setL (j := 0) hg2 (ev_op (ev_op (ev_var rfl) ev_c (rv_ixL (sq_of hg2) (atI_nat (j := 0) rfl))) (ev_var rfl) (rv_I (wide_div (b := 100) (show 0 < m by omega) (by omega) (by decide) (by decide)))) (ev_var rfl) ev_c (by show 0 < 3; decide) fun H3 e3 => ?_
      refine s_ret (ev_var rfl) fun H4 e4 => ?_
      refine k (d % m) H4 (Int.emod_nonneg _ (by omega)) (Int.emod_lt_of_pos _ (by omega)) ?_ ⟨d / m, s, c, e4 g _ upd_same, Int.ediv_nonneg hd (by omega), hs0, hs1, hc0, by omega⟩
      refine (ex_del ((e1.trans e2).trans e3)).trans ?_
      rw [← del_upd (H := H3) (l := g) (o := .lst (List.set [V.int d, V.int s, V.int c] 0 (V.int (d / m))))]
      exact ex_del e4
    · have hd1 : d = 0 := by
        have z := of_decide_eq_false hb
        omega
      refine ⟨by show 2 ≤ sizeLine; decide, fun pt hpt => ⟨pt, _, rfl, st_of upd_same, rfl, _, _, rfl, _, _, rfl, rfl, ?_⟩⟩
      have e1 : Ex H (upd H1 pt (.tup [.int 0, .int 1])) := e1.trans (Ex.new hpt)
      refine q_while (fun j σ' H' => ∃ (i : Nat) (fd : Int) (o2 o5 : Option V) (s' c' : Int), j = 3 - i ∧ i ≤ 3 ∧ σ' = [some (.ref g), some (.int m), o2, some (.int fd), some (.int (33554432 ^ i)), o5] ∧
          Ex (del H g) (del H' g) ∧ H' g = some (.lst [.int d, .int s', .int c']) ∧ 0 ≤ s' ∧ s' < 4294967296 ∧ 0 ≤ c' ∧ c' ≤ c + i) 3
        ⟨0, 0, none, none, s, c, rfl, by decide, rfl, ex_del e1, e1 g _ hg, hs0, hs1, hc0, by omega⟩ ?_
      rintro j σ' H' ⟨i, fd, o2, o5, s', c', rfl, hi, rfl, ex, hg', b1, b2, b3, b4⟩
      refine ⟨decide ((33554432 : Int) ^ i < m), et_test (ev_op (ev_var rfl) (ev_var rfl) rv_I0), fun hb2 H2 e2 => ?_, fun hb2 H2 e2 => ?_⟩
      · have hlt : (33554432 : Int) ^ i < m := of_decide_eq_true hb2
        have hi3 : i < 3 := by
          match i, hi, hlt with
          | 0, _, _ => decide
          | 1, _, _ => decide
          | 2, _, _ => decide
          | 3, _, hlt =>
            exfalso
            have z : (33554432 : Int) ^ 3 = 37778931862957161709568 := by decide
            omega
          | i + 4, hi, _ => omega
        have hg2 : H2 g = some (.lst [.int d, .int s', .int c']) := e2 g _ hg'
        refine ⟨_, fun σ2 H3 q => q, ?_⟩
        refine q_setL (j := 2) hg2 (ev_op (ev_op (ev_var rfl) ev_c (rv_ixL (sq_of hg2) (atI_nat (j := 2) rfl))) ev_c rv_I0) (ev_var rfl) ev_c (by show 2 < 3; decide) fun H3 e3 => ?_
        have hg3 : upd H3 g (.lst [.int d, .int s', .int (c' + 1)]) g = some (.lst [.int d, .int s', .int (c' + 1)]) := upd_same
        have ix0 : ∀ {σ : L2.St} {HH : Hp} {xs : List V} {q : Nat} {v : V}, σ[0]? = some (some (V.ref g)) → HH g = some (.lst xs) → xs[q]? = some v → Ev (tOp (rIxL K) (tVar 0) (tC (.int (q : Int)))) σ HH v :=
          fun h1 h2 h3 => ev_op (ev_var h1) ev_c (rv_ixL (sq_of h2) (atI_nat h3))
        obtain ⟨s2, hs2⟩ : ∃ s2, s2 = (s' * 40014 + 7919 * (c' + 1) * (c' + 1) + 83) % 2147483563 := ⟨_, rfl⟩
        have hs2a : 0 ≤ s2 := by rw [hs2]; exact Int.emod_nonneg _ (by decide)
        have hs2b : s2 < 2147483563 := by rw [hs2]; exact Int.emod_lt_of_pos _ (by decide)
        refine q_setL (j := 1) (v := .int s2) hg3 (ev_is ?_ (congrArg V.int hs2.symm)) (ev_var rfl) ev_c (by show 1 < 3; decide) fun H4 e4 => ?_
        · refine ev_op (ev_cb (ea_cons (ev_op (ev_op (ev_op (ix0 (q := 1) rfl hg3 rfl) ev_c (rv_I (Or.inr (by decide)))) (ev_op (ev_op ev_c (ix0 (q := 2) rfl hg3 rfl) (rv_I (Or.inl (by decide)))) (ix0 (q := 2) rfl hg3 rfl) (rv_I (Or.inr (by omega)))) rv_I0) ev_c rv_I0) ea_nil) rc_int) ev_c (rv_I (by show (0 : Int) < 2147483563; decide))
        have hg4 : upd H4 g (.lst [.int d, .int s2, .int (c' + 1)]) g = some (.lst [.int d, .int s2, .int (c' + 1)]) := upd_same
        refine q_asg (v := .int ((s2 / 7 * (s2 / 131 + (c' + 1))) % 2147483399)) ?_ fun H5 e5 => ?_
        · refine ev_op (ev_cb (ea_cons (ev_op (ev_op (ix0 (q := 1) rfl hg4 rfl) ev_c (rv_I ⟨by decide, by decide⟩)) (ev_op (ev_op (ix0 (q := 1) rfl hg4 rfl) ev_c (rv_I ⟨by decide, by decide⟩)) (ix0 (q := 2) rfl hg4 rfl) rv_I0) (rv_I (Or.inl (by omega)))) ea_nil) rc_int) ev_c (rv_I (by show (0 : Int) < 2147483399; decide))
        refine q_asg (ev_op (ev_op (ev_var rfl) ev_c (rv_I (Or.inr (by decide)))) (ev_op (ev_cb (ea_cons (ev_op (ev_var rfl) ev_c (rv_I ⟨by decide, by decide⟩)) ea_nil) rc_int) ev_c (rv_I (by show (0 : Int) < 33554432; decide))) rv_I0) fun H6 e6 => ?_
        refine s_asg (ev_op (ev_var rfl) ev_c (rv_I (Or.inr (by decide)))) fun H7 e7 => ?_
        refine ⟨3 - (i + 1), by omega, i + 1, fd * 33554432 + s2 / 7 * (s2 / 131 + (c' + 1)) % 2147483399 / 64 % 33554432, o2, some (.int (s2 / 7 * (s2 / 131 + (c' + 1)) % 2147483399)), s2, c' + 1, rfl, by omega, ?_, ?_, e7 g _ (e6 g _ (e5 g _ hg4)), hs2a, by omega, by omega, by omega⟩
        · rw [Int.pow_succ] <;> rfl
        · have q1 : Ex (del H' g) (del H3 g) := ex_del (e2.trans e3)
          have q2 : Ex (del H3 g) (del H4 g) := by
            rw [← del_upd (H := H3) (l := g) (o := .lst (List.set [V.int d, V.int s', V.int c'] 2 (V.int (c' + 1))))]
            exact ex_del e4
          have q3 : Ex (del H4 g) (del H7 g) := by
            rw [← del_upd (H := H4) (l := g) (o := .lst [.int d, .int s2, .int (c' + 1)])]
            exact ex_del ((e5.trans e6).trans e7)
          exact ((ex.trans q1).trans q2).trans q3
      · refine s_ret (ev_op (ev_var rfl) (ev_var rfl) (rv_I (show 0 < m by omega))) fun H3 e3 => ?_
        exact k (fd % m) H3 (Int.emod_nonneg _ (by omega)) (Int.emod_lt_of_pos _ (by omega)) (ex.trans (ex_del (e2.trans e3))) ⟨d, s', c', e3 g _ (e2 g _ hg'), hd, b1, b2, b3, by omega⟩
end
end Lw

namespace Lw
open PySem PySem.Spec PyProof.Rows L2 Evl L3
abbrev sAmount : Stmt := top 18
abbrev sWrites : Stmt := top 19
/-- the bag of the j-th cell -/
def spBag (K : PySem.W.Frag) : Sp := fun vs H Q _ => ∃ (a : Addr) (ns : List Int) (j : Nat), vs = [.ref a, .int (j : Int)] ∧ SqL K H a (ns.map V.int) ∧ j ≤ 63 ∧
  ∀ p H2, H p = none → Ex H (del H2 p) → BagAt H2 p 100000000000 → Q (.ref p) H2
section
variable {P : Program} {w : World} {K : PySem.W.Frag} {mg : Str → Option Value} {base : Heap}
theorem rc_intb {H : Hp} {b : Bool} : RC (fun xs H Q => (∃ i, xs = [V.int i] ∧ Q (.int i) H) ∨ ∃ k, xs = [V.bl k] ∧ Q (.int (if k then 1 else 0)) H) [.bl b] H (.int (if b then 1 else 0)) := fun H1 e Q q => Or.inr ⟨b, rfl, q H1 (Ex.refl H1)⟩
theorem rc_abs {H : Hp} {i : Int} : RC (fun xs H Q => ∃ i, xs = [V.int i] ∧ Q (.int (if i < 0 then -i else i)) H) [.int i] H (.int (if i < 0 then -i else i)) := fun H1 e Q q => ⟨i, rfl, q H1 (Ex.refl H1)⟩
theorem scBa : FnScope ["_law_script", "_law_at", "_law_cell", "_law_digits"] ["_law_script", "_law_at"] (defScope sBag) := ⟨rfl, rfl, rfl, by decide +kernel, rfl, by decide +kernel, by decide +kernel⟩
theorem ok_bag {f : Addr} {fd : FuncData} (F : Fun K "_law_bag" "_law_bag" sBag f fd) (T : Txt K mg) (hA : mg "abs" = none) : FnOk P w K mg base CX0 1 f fd ["_law_script", "_law_at"] (spBag K) := by
  refine F.ok scBa (fun vs H Q E h => ?_) (fun cdv A outer s H vs Q E hr h => ?_)
  · obtain ⟨a, ns, j, rfl, _⟩ := h
    rfl
  · obtain ⟨a, ns, j, rfl, hs, hj, k⟩ := h
    refine ⟨_, pss_cons (ps_set (i := 2) scBa.nd rfl (Or.inl rfl) (pe_ifExp (pt_cmpR op_lt (pv 1) (pe_callB call_len_seq (by rfl) T.len PySem.boot_len (pa_cons (pv 0) pa_nil)) (nomark _)) (pe_ix ix_list (pv 0) (pv 1) (fun _ _ => rfl)) pe_int))
      (pss_cons (ps_set (i := 3) scBa.nd rfl (Or.inl rfl) (pe_op op_mul (pe_callB call_abs (by rfl) hA PyProof.Rows.boot_abs (pa_cons (pv 2) pa_nil))
        (pe_callTy call_int1 (by rfl) T.int PyProof.Rows.boot_int (pa_cons (pe_cmpR op_ge (pe_callB call_abs (by rfl) hA PyProof.Rows.boot_abs (pa_cons (pv 2) pa_nil)) (pe_op op_pow pe_int pe_int) (nomark _)) pa_nil))))
      (pss_one (ps_ret (pe_lst (pa_cons (pv 3) (pa_cons (pe_op op_add (pe_op op_add (pe_op op_mod (pe_callTy call_int1 (by rfl) T.int PyProof.Rows.boot_int (pa_cons (pv 2) pa_nil)) pe_int) (pe_op op_mul pe_int (pv 1))) pe_int)
        (pa_cons pe_int pa_nil))))))), ?_⟩
    obtain ⟨cell, hcell⟩ : ∃ cell : Int, cell = ns.getD j 0 := ⟨_, rfl⟩
    have evl : Ev (tCB (rLenS K) (tCons (tVar 0) tNil)) (start ["_law_script", "_law_at", "_law_cell", "_law_digits"] [V.ref a, V.int (j : Int)]) H (.int (ns.length : Int)) := by
      have z := ev_len (K := K) (σ := start ["_law_script", "_law_at", "_law_cell", "_law_digits"] [V.ref a, V.int (j : Int)]) (H := H) (ta := tVar 0) (ev_var rfl) hs
      rw [List.length_map] at z
      exact z
    refine q_asg (v := .int cell) (ev_if (b := decide ((j : Int) < (ns.length : Int))) (et_test (ev_op (ev_var rfl) evl rv_I0)) (fun hb => ?_) fun hb => ?_) fun H1 e1 => ?_
    · have hlt := of_decide_eq_true hb
      refine ev_op (ev_var rfl) (ev_var rfl) (rv_ixL hs (atI_nat ?_))
      rw [List.getElem?_map, hcell, List.getD_eq_getElem?_getD]
      have hlt2 : j < ns.length := by omega
      have e : ns[j]? = some ns[j] := by simp [hlt2]
      rw [e] <;> rfl
    · have hge := of_decide_eq_false hb
      have e : ns[j]? = none := by simp; omega
      have e0 : cell = 0 := by rw [hcell, List.getD_eq_getElem?_getD, e] <;> rfl
      rw [e0]
      exact ev_c
    obtain ⟨ab, hab⟩ : ∃ ab : Int, ab = if cell < 0 then -cell else cell := ⟨_, rfl⟩
    have ab0 : 0 ≤ ab := by rw [hab]; split <;> omega
    obtain ⟨bb, hbb⟩ : ∃ bb : Bool, bb = decide ((10 : Int) ^ (18 : Int).toNat ≤ ab) := ⟨_, rfl⟩
    refine q_asg (v := .int (ab * (if bb then 1 else 0))) ?_ fun H2 e2 => ?_
    · have ea : ∀ {H' : Hp}, Ev (tCB (fun xs H Q => ∃ i, xs = [V.int i] ∧ Q (.int (if i < 0 then -i else i)) H) (tCons (tVar 2) tNil)) ((start ["_law_script", "_law_at", "_law_cell", "_law_digits"] [V.ref a, V.int (j : Int)]).set 2 (some (.int cell))) H' (.int ab) := fun {H'} => by
        rw [hab]
        exact ev_cb (ea_cons (ev_var rfl) ea_nil) rc_abs
      refine ev_op ea (ev_cb (ea_cons (ev_is (ev_op ea (ev_op ev_c ev_c (rv_I ⟨by decide, by decide, by decide⟩)) rv_I0) (congrArg V.bl hbb.symm)) ea_nil) rc_intb) (rv_I (Or.inr ?_))
      cases bb <;> exact ⟨by decide, by decide⟩
    refine s_retL (el_lst (ea_cons (ev_var rfl) (ea_cons (ev_op (ev_op (ev_op (ev_cb (ea_cons (ev_var rfl) ea_nil) rc_int) ev_c (rv_I (by show (0 : Int) < 2147483563; decide))) (ev_op ev_c (ev_var rfl) (rv_I (Or.inl ⟨by decide, by decide⟩))) rv_I0) ev_c rv_I0) (ea_cons ev_c ea_nil))) (by show 3 ≤ 100000; decide)) fun p H3 hp e3 h3 => ?_
    have q1 := Int.emod_nonneg cell (b := 2147483563) (by decide)
    have q2 := Int.emod_lt_of_pos cell (b := 2147483563) (by decide)
    have hp0 : H p = none := fresh_back (e1.trans e2) hp
    refine k p H3 hp0 (ex_beside ((e1.trans e2).trans e3) hp0) ⟨_, _, _, h3, ?_, by omega, by omega, by omega, by omega⟩
    cases bb
    · show 0 ≤ ab * 0
      omega
    · show 0 ≤ ab * 1
      omega
end
end Lw
namespace Lw
open PySem PySem.Spec PyProof.Rows L2 Evl L3
theorem take_go {σ : L2.St} {H : Hp} {Q : VK} {E : XK} {g : Addr} {n : Nat} {m : Int} {tg tm : TE} (h1 : Ev tg σ H (.ref g)) (h2 : Ev tm σ H (.int m)) (b : BagAt H g (n + 1)) (m1 : 1 ≤ m) (m2 : m ≤ 100000000000000000000)
    (k : ∀ (r : Int) (H' : Hp), 0 ≤ r → r < m → Ex (del H g) (del H' g) → BagAt H' g n → Q (.int r) H') : tCall spTake [] E (tCons tg (tCons tm tNil)) σ H Q :=
  h1 H (Ex.refl H) _ fun H1 e1 => h2 H1 e1 _ fun H2 e2 => ⟨g, n, m, rfl, b.ex (e1.trans e2), m1, m2, fun r H' r0 r1 ex bg => k r H' r0 r1 ((ex_del (e1.trans e2)).trans ex) bg⟩
/-- a drawn item of a short list -/
theorem atI_mem {xs : List V} {r : Int} (h0 : 0 ≤ r) (h1 : r < (xs.length : Int)) : ∃ v, atI xs r = some v ∧ v ∈ xs := by
  obtain ⟨j, rfl⟩ : ∃ j : Nat, r = (j : Int) := ⟨r.toNat, by omega⟩
  have hj : j < xs.length := by omega
  have e : xs[j]? = some xs[j] := by simp [hj]
  exact ⟨xs[j], atI_nat e, List.getElem_mem hj⟩
theorem bag_ne {H : Hp} {g p : Addr} {n : Nat} (b : BagAt H g n) (h : H p = none) : p ≠ g := fun z => by
  obtain ⟨d, s, c, hg, _⟩ := b
  rw [z, hg] at h
  cases h
theorem del_at {H H' : Hp} {g p : Addr} {o : HO} (e : Ex (del H g) (del H' g)) (h : H p = some o) (n : p ≠ g) : H' p = some o := by
  have z : (del H g) p = some o := by rw [del_ne n]; exact h
  have z2 := e p o z
  rw [del_ne n] at z2
  exact z2
theorem del_fresh {H H' : Hp} {g p : Addr} (e : Ex (del H g) (del H' g)) (h : H' p = none) (n : p ≠ g) : H p = none := by
  cases q : H p with
  | none => rfl
  | some o =>
    rw [del_at e q n] at h
    cases h
/-- a length: 1 to 5 times the width -/
def spAmount : Sp := fun vs H Q _ => ∃ (g : Addr) (n : Nat) (wd : Int), vs = [.ref g, .int wd] ∧ BagAt H g (n + 4) ∧ 1 ≤ wd ∧ wd ≤ 1000000 ∧
  ∀ (r : Int) (H' : Hp), 1 ≤ r → r ≤ 5 * wd → Ex (del H g) (del H' g) → BagAt H' g n → Q (.int r) H'
section
variable {P : Program} {w : World} {K : PySem.W.Frag} {mg : Str → Option Value} {base : Heap}
theorem scAm : FnScope ["_law_bag_here", "_law_width", "_law_more"] ["_law_bag_here", "_law_width"] (defScope sAmount) := ⟨rfl, rfl, rfl, by decide +kernel, rfl, by decide +kernel, by decide +kernel⟩
theorem ok_amount {f fT : Addr} {fd fdT : FuncData} (F : Fun K "_law_amount" "_law_amount" sAmount f fd) (T : Txt K mg) (FT : Fun K "_law_take" "_law_take" sTake fT fdT) (bT : Binds K fdT ["_law_bag_here", "_law_many"] []) (gT : mg "_law_take" = some (.ref fT)) :
    FnOk P w K mg base CX0 2 f fd ["_law_bag_here", "_law_width"] spAmount := by
  have GT : FnOk P w K mg base CX0 1 fT fdT ["_law_bag_here", "_law_many"] spTake := ok_take FT T
  refine F.ok scAm (fun vs H Q E h => ?_) (fun cdv A outer s H vs Q E hr h => ?_)
  · obtain ⟨g, n, wd, rfl, _⟩ := h
    rfl
  · obtain ⟨g, n, wd, rfl, bg, w1, w2, k⟩ := h
    refine ⟨_, pss_cons (ps_set (i := 2) scAm.nd rfl (Or.inl rfl) (pe_op op_add pe_int (pe_call GT hr rfl gT FT.kp bT .nil pass0 (pa_cons (pv 0) (pa_cons (pv 1) pa_nil)))))
      (pss_one (ps_ret (pe_ix ix_list (pe_lst (pa_cons (pv 2) (pa_cons (pv 2) (pa_cons (pe_op op_mul (pv 1) (pe_op op_add pe_int (pe_call GT hr rfl gT FT.kp bT .nil pass0 (pa_cons (pv 0) (pa_cons pe_int pa_nil)))))
        (pa_cons (pe_op op_add (pe_op op_mul (pv 1) (pe_call GT hr rfl gT FT.kp bT .nil pass0 (pa_cons (pv 0) (pa_cons pe_int pa_nil)))) (pv 2)) pa_nil))))) (pe_call GT hr rfl gT FT.kp bT .nil pass0 (pa_cons (pv 0) (pa_cons pe_int pa_nil))) (fun _ _ => rfl)))), ?_⟩
    refine take_go (n := n + 3) (ev_var rfl) (ev_var rfl) bg w1 (by omega) fun r1 H1 r10 r11 x1 b1 => ?_
    refine ⟨_, _, rfl, rfl, ?_⟩
    refine ⟨_, rfl, _, rfl, _, rfl, ?_⟩
    refine take_go (n := n + 2) (ev_var rfl) ev_c b1 (by decide) (by decide) fun r2 H2 r20 r21 x2 b2 => ?_
    refine ⟨_, _, rfl, rfl, _, _, rfl, rfl, Or.inl ⟨by omega, by omega⟩, ?_⟩
    refine ⟨_, rfl, take_go (n := n + 1) (ev_var rfl) ev_c b2 (by decide) (by decide) fun r3 H3 r30 r31 x3 b3 => ?_⟩
    refine ⟨_, _, rfl, rfl, Or.inl ⟨by omega, by omega⟩, _, rfl, _, _, rfl, rfl, ?_⟩
    refine ⟨by show 4 ≤ sizeLine; decide, fun p hp => ?_⟩
    have npg : p ≠ g := bag_ne b3 hp
    refine take_go (n := n) (ev_var rfl) ev_c (b3.ex (Ex.new hp)) (by decide) (by decide) fun r4 H4 r40 r41 x4 b4 => ?_
    have h4 := del_at x4 (upd_same (H := H3) (a := p) (o := .lst [.int (1 + r1), .int (1 + r1), .int (wd * (1 + r2)), .int (wd * r3 + (1 + r1))])) npg
    obtain ⟨v, hv, hm⟩ := atI_mem (xs := [.int (1 + r1), .int (1 + r1), .int (wd * (1 + r2)), .int (wd * r3 + (1 + r1))]) (r := r4) r40 (by show r4 < 4; omega)
    refine ⟨p, _, r4, v, rfl, rfl, sq_of h4, hv, ?_⟩
    have xx : Ex (del H g) (del H4 g) := ((x1.trans x2).trans x3).trans ((ex_del (Ex.new hp)).trans x4)
    have m2 : wd * (1 + r2) ≤ wd * 4 := Int.mul_le_mul_of_nonneg_left (by omega) (by omega)
    have m2' : wd * 1 ≤ wd * (1 + r2) := Int.mul_le_mul_of_nonneg_left (by omega) (by omega)
    have m3 : wd * r3 ≤ wd * 3 := Int.mul_le_mul_of_nonneg_left (by omega) (by omega)
    have m3' : 0 ≤ wd * r3 := Int.mul_nonneg (by omega) r30
    have fin : ∃ z, v = .int z ∧ 1 ≤ z ∧ z ≤ 5 * wd := by
      simp only [List.mem_cons, List.not_mem_nil, or_false] at hm
      rcases hm with rfl | rfl | rfl | rfl
      · exact ⟨_, rfl, by omega, by omega⟩
      · exact ⟨_, rfl, by omega, by omega⟩
      · exact ⟨_, rfl, by omega, by omega⟩
      · exact ⟨_, rfl, by omega, by omega⟩
    obtain ⟨z, rfl, z1, z2⟩ := fin
    exact k z H4 z1 z2 xx b4
end
end Lw

namespace Lw
open PySem PySem.Spec PyProof.Rows L2 Evl L3
def del2 (H : Hp) (g p : Addr) : Hp := del (del H g) p
theorem ex2 {H H1 : Hp} {g p : Addr} (e : Ex H H1) : Ex (del2 H g p) (del2 H1 g p) := ex_del (ex_del e)
theorem ex2g {H H1 : Hp} {g p : Addr} (e : Ex (del H g) (del H1 g)) : Ex (del2 H g p) (del2 H1 g p) := ex_del e
theorem del2_upd {H : Hp} {g p : Addr} {o : HO} : del2 (upd H p o) g p = del2 H g p := by
  funext b
  unfold del2
  by_cases c : b = p
  · rw [c, del_same, del_same]
  · rw [del_ne c, del_ne c]
    by_cases c2 : b = g
    · rw [c2, del_same, del_same]
    · rw [del_ne c2, del_ne c2, upd_ne c]
theorem ex2_self {H : Hp} {g p : Addr} : Ex (del2 H g p) H := (ex_del_self).trans ex_del_self
theorem ex2_g {H : Hp} {g p : Addr} : Ex (del2 H g p) (del H g) := ex_del_self
theorem at2 {H : Hp} {g p b : Addr} {o : HO} (h : H b = some o) (n1 : b ≠ g) (n2 : b ≠ p) : (del2 H g p) b = some o := by
  unfold del2
  rw [del_ne n2, del_ne n1]
  exact h
/-- a drawn write: small -/
def okS (wd : Int) (w : Wr) : Prop := okW w = true ∧ w.2.1 ≤ 5 * wd
/-- many drawn writes -/
def spWrites (K : PySem.W.Frag) : Sp := fun vs H Q _ => ∃ (g : Addr) (n m : Nat) (wd : Int), vs = [.ref g, .int wd, .int (m : Int)] ∧ BagAt H g (n + 1 + 6 * m) ∧ 1 ≤ wd ∧ wd ≤ 1000000 ∧ m ≤ 1000 ∧
  ∀ (p : Addr) (xs : List V) (ws : List Wr) (H' : Hp), ws.length = m → (∀ w ∈ ws, okS wd w) → H p = none → p ≠ g → Ex (del H g) (del2 H' g p) → H' p = some (.lst xs) → DpAll K (del2 H' g p) xs (ws.map wD) → BagAt H' g n → Q (.ref p) H'
section
variable {P : Program} {w : World} {K : PySem.W.Frag} {mg : Str → Option Value} {base : Heap}
theorem scWr : FnScope ["_law_bag_here", "_law_width", "_law_many", "_law_found", "_law_who", "_law_at", "_law_word"] ["_law_bag_here", "_law_width", "_law_many"] (defScope sWrites) := ⟨rfl, rfl, rfl, by decide +kernel, rfl, by decide +kernel, by decide +kernel⟩
theorem ok_writes {f fT fA : Addr} {fd fdT fdA : FuncData} (F : Fun K "_law_writes" "_law_writes" sWrites f fd) (T : Txt K mg) (FT : Fun K "_law_take" "_law_take" sTake fT fdT) (bT : Binds K fdT ["_law_bag_here", "_law_many"] []) (gT : mg "_law_take" = some (.ref fT))
    (FA : Fun K "_law_amount" "_law_amount" sAmount fA fdA) (bA : Binds K fdA ["_law_bag_here", "_law_width"] []) (gA : mg "_law_amount" = some (.ref fA)) :
    FnOk P w K mg base CX0 3 f fd ["_law_bag_here", "_law_width", "_law_many"] (spWrites K) := by
  have GT : FnOk P w K mg base CX0 1 fT fdT ["_law_bag_here", "_law_many"] spTake := ok_take FT T
  have GA : FnOk P w K mg base CX0 2 fA fdA ["_law_bag_here", "_law_width"] spAmount := ok_amount FA T FT bT gT
  refine F.ok scWr (fun vs H Q E h => ?_) (fun cdv A outer s H vs Q E hr h => ?_)
  · obtain ⟨g, n, m, wd, rfl, _⟩ := h
    rfl
  · obtain ⟨g, n, m, wd, rfl, bg, w1, w2, hm, k⟩ := h
    have hr1 : Room 1 _ := hr.mono (by decide)
    refine ⟨_, pss_cons (ps_par (i := 3) (j := 4) rfl scWr.nd rfl rfl (by decide) rfl rfl (pa_cons (pe_lst pa_nil) (pa_cons (pe_call GT hr1 rfl gT FT.kp bT .nil pass0 (pa_cons (pv 0) (pa_cons pe_int pa_nil))) pa_nil)) (by rfl))
      (pss_cons (ps_for PassesOwn.never rfl (pi_range1 rfl T.range (pa_cons (pv 2) pa_nil)) (pg_name (i := 5) scWr.nd rfl (Or.inl rfl))
        (pss_cut (ps_if (pt_cmpR op_eq (pe_call GT hr1 rfl gT FT.kp bT .nil pass0 (pa_cons (pv 0) (pa_cons pe_int pa_nil))) pe_int (nomark _)) (pss_one (ps_set (i := 4) scWr.nd rfl (Or.inl rfl) (pe_op op_sub pe_int (pv 4)))) pss_nil)
        (pss_cons (ps_set (i := 6) scWr.nd rfl (Or.inl rfl) (pe_ix ix_list (pe_lst (pa_cons pe_str (pa_cons pe_str (pa_cons pe_str (pa_cons pe_str (pa_cons pe_str (pa_cons pe_str pa_nil))))))) (pe_call GT hr1 rfl gT FT.kp bT .nil pass0 (pa_cons (pv 0) (pa_cons pe_int pa_nil))) (fun _ _ => rfl)))
        (pss_one (ps_expr (pe_bm PySem.F.plainAttrs_list PySem.F.slot_list_append PySem.F.type_list_append mt_append (pv 3) (pa_cons (pe_tup (pa_cons (pv 4) (pa_cons (pe_call GA hr rfl gA FA.kp bA .nil pass0 (pa_cons (pv 0) (pa_cons (pv 1) pa_nil))) (pa_cons (pv 6) pa_nil)))) pa_nil)))))))
      (pss_one (ps_ret (pv 3)))), ?_⟩
    refine ⟨Nat.zero_le _, fun p hp => ?_⟩
    have npg : p ≠ g := bag_ne bg hp
    refine take_go (n := n + 6 * m) (ev_var rfl) ev_c ((bg.less (by omega)).ex (Ex.new hp)) (by decide) (by decide) fun r H1 r0 r1 x1 b1 => ?_
    have hp1 : H1 p = some (.lst []) := del_at x1 upd_same npg
    refine ⟨_, _, rfl, ?_⟩
    have ex1 : Ex (del H g) (del2 H1 g p) := by
      have z : Ex (del H g) (del2 (upd H p (.lst [])) g p) := by
        rw [del2_upd]
        exact ex_beside (Ex.refl _) (by rw [del_ne npg]; exact hp)
      exact z.trans (ex2g x1)
    refine q_forR1 (ea_cons (ev_var rfl) ea_nil) (by omega) (fun i σ' H' => ∃ (who : Int) (o5 o6 : Option V) (ws : List Wr) (xs : List V), σ' = [some (.ref g), some (.int wd), some (.int (m : Int)), some (.ref p), some (.int who), o5, o6] ∧ (who = 0 ∨ who = 1) ∧ ws.length = i ∧ (∀ w ∈ ws, okS wd w) ∧
        Ex (del H g) (del2 H' g p) ∧ H' p = some (.lst xs) ∧ DpAll K (del2 H' g p) xs (ws.map wD) ∧ BagAt H' g (n + 6 * (m - i)))
      (fun H2 e2 => ⟨r, none, none, [], [], rfl, by omega, rfl, (fun _ z => nomatch z), ex1.trans (ex2 e2), e2 p _ hp1, .nil, (b1.ex e2).less (by omega)⟩) ?_ ?_
    · rintro i σ' H' hi ⟨who, o5, o6, ws, xs, rfl, hwho, hlen, hok, ex, hxs, hda, bgi⟩
      have him : i < m := by omega
      refine ⟨fun σ4 H4 => ∃ who', (who' = 0 ∨ who' = 1) ∧ σ4 = [some (.ref g), some (.int wd), some (.int (m : Int)), some (.ref p), some (.int who'), some (.int (i : Int)), o6] ∧ Ex (del H' g) (del H4 g) ∧ BagAt H4 g (n + 6 * (m - i) - 1), ?_, ?_⟩
      · refine take_go (n := n + 6 * (m - i) - 1) (ev_var rfl) ev_c (bgi.less (by omega)) (by decide) (by decide) fun r3 H3 r30 r31 x3 b3 => ?_
        refine ⟨rfl, _, rfl, ?_⟩
        refine ite2 (fun _ => ?_) (fun _ => ?_)
        · refine s_asg (ev_op ev_c (ev_var rfl) rv_I0) fun H4 e4 => ⟨1 - who, by omega, rfl, x3.trans (ex_del e4), b3.ex e4⟩
        · exact ⟨who, hwho, rfl, x3, b3⟩
      · rintro σ4 H4 ⟨who', hw', rfl, x4, b4⟩
        have hx4 : H4 p = some (.lst xs) := del_at x4 hxs npg
        refine ⟨by show 6 ≤ sizeLine; decide, fun q hq => ?_⟩
        have nqg : q ≠ g := bag_ne b4 hq
        have nqp : q ≠ p := fun z => by
          rw [z, hx4] at hq
          cases hq
        refine take_go (n := n + 6 * (m - i) - 2) (ev_var rfl) ev_c ((b4.less (by omega)).ex (Ex.new hq)) (by decide) (by decide) fun r5 H5 r50 r51 x5 b5 => ?_
        have hq5 := del_at x5 (upd_same (H := H4) (a := q) (o := .lst [.str "plain", .str "plain", .str "plain", .str "push", .str "more", .str "plain"])) nqg
        obtain ⟨v, hv, hmem⟩ := atI_mem (xs := [.str "plain", .str "plain", .str "plain", .str "push", .str "more", .str "plain"]) (r := r5) r50 (by show r5 < 6; omega)
        refine ⟨q, _, r5, v, rfl, rfl, sq_of hq5, hv, ?_⟩
        obtain ⟨sv, rfl, hmode⟩ : ∃ sv : Str, v = .str sv ∧ modeD (.str sv) = true := by
          simp only [List.mem_cons, List.not_mem_nil, or_false] at hmem
          rcases hmem with rfl | rfl | rfl | rfl | rfl | rfl
          · exact ⟨_, rfl, by decide +kernel⟩
          · exact ⟨_, rfl, by decide +kernel⟩
          · exact ⟨_, rfl, by decide +kernel⟩
          · exact ⟨_, rfl, by decide +kernel⟩
          · exact ⟨_, rfl, by decide +kernel⟩
          · exact ⟨_, rfl, by decide +kernel⟩
        have x45 : Ex (del H4 g) (del H5 g) := (ex_del (Ex.new hq)).trans x5
        have hx5 : H5 p = some (.lst xs) := del_at x45 hx4 npg
        refine ⟨_, rfl, Or.inl ⟨rfl, _, sq_of hx5⟩, ?_⟩
        refine ⟨_, rfl, _, rfl, _, rfl, g, n + 6 * (m - i) - 6, wd, rfl, b5.less (by omega), w1, w2, fun r6 H6 r60 r61 x6 b6 => ?_⟩
        refine ⟨_, rfl, by show 3 ≤ sizeLine; decide, fun t ht => ?_⟩
        have hx6 : H6 p = some (.lst xs) := del_at x6 hx5 npg
        have ntg : t ≠ g := bag_ne b6 ht
        have ntp : t ≠ p := fun z => by
          rw [z, hx6] at ht
          cases ht
        have hlx : xs.length = i := by rw [dps_len' hda, List.length_map, hlen]
        refine ⟨p, xs, .ref t, rfl, rfl, by rw [upd_ne ntp.symm]; exact hx6, sz_lt (by omega), ?_⟩
        have chain : Ex (del2 H' g p) (del2 (upd H6 t (.tup [.int who', .int r6, .str sv])) g p) := ex2g (((x4.trans x45).trans x6).trans (ex_del (Ex.new ht)))
        refine ⟨who', _, _, ws ++ [(who', r6, sv)], xs ++ [.ref t], rfl, hw', by rw [List.length_append, hlen]; rfl, ?_, ?_, upd_same, ?_, ?_⟩
        · intro x hx
          rcases List.mem_append.mp hx with z | z
          · exact hok x z
          · have e : x = (who', r6, sv) := by simpa using z
            rw [e]
            refine ⟨?_, r61⟩
            show (betwD (.int who') 0 1 && (betwD (.int r6) 1 1000000000000000000 && modeD (.str sv))) = true
            rw [hmode]
            have q1 : betwD (.int who') 0 1 = true := by
              rcases hw' with z | z <;> rw [z] <;> rfl
            have q2 : betwD (.int r6) 1 1000000000000000000 = true := by
              show (decide (1 ≤ r6) && decide (r6 ≤ 1000000000000000000)) = true
              rw [decide_eq_true r60, decide_eq_true (by omega : r6 ≤ 1000000000000000000)] <;> rfl
            rw [q1, q2] <;> rfl
        · rw [del2_upd]
          exact ex.trans chain
        · rw [del2_upd, List.map_append]
          refine dps_snoc (dps_ex chain hda) ?_
          exact .tup (st_of (at2 upd_same ntg ntp)) (.cons (.int _) (.cons (.int _) (.cons (.str _) .nil)))
        · obtain ⟨bd, bs, bc, c1, c2⟩ := b6.less (m := n + 6 * (m - (i + 1))) (by omega)
          exact ⟨bd, bs, bc, by rw [upd_ne npg.symm, upd_ne ntg.symm]; exact c1, c2⟩
    · rintro σ' H' ⟨who, o5, o6, ws, xs, rfl, hwho, hlen, hok, ex, hxs, hda, bgi⟩
      refine s_ret (ev_var rfl) fun H2 e2 => ?_
      exact k p xs ws H2 (by simpa using hlen) hok hp npg (ex.trans (ex2 e2)) (e2 p _ hxs) (dps_ex (ex2 e2) hda) ((bgi.ex e2).less (by omega))
end
end Lw

namespace Lw
open PySem PySem.Spec PyProof.Rows L2 Evl L3
abbrev sWhole : Stmt := top 20
section
variable {P : Program} {w : World} {K : PySem.W.Frag} {mg : Str → Option Value} {base : Heap}
/-! ### _law_whole -/
def wholeD : PyData → Bool
  | .int _ => true
  | _ => false
def spWhole (K : PySem.W.Frag) : Sp := fun vs H Q _ => ∃ (x : V) (d : PyData), vs = [x] ∧ Dp K H x d ∧ RetV (.bl (wholeD d)) H Q
theorem sp_whole {x : V} {d : PyData} {H : Hp} (hd : Dp K H x d) : SpV (spWhole K) [x] H (.bl (wholeD d)) := fun H1 e Q q E => ⟨x, d, rfl, dp_ex e hd, fun H2 e2 => q H2 e2⟩
theorem scWh : FnScope ["_law_value"] ["_law_value"] (defScope sWhole) := ⟨rfl, rfl, rfl, by decide +kernel, rfl, by decide +kernel, by decide +kernel⟩
theorem ok_whole {f : Addr} {fd : FuncData} (F : Fun K "_law_whole" "_law_whole" sWhole f fd) (T : Txt K mg) : FnOk P w K mg base CX0 1 f fd ["_law_value"] (spWhole K) := by
  refine F.ok scWh (fun vs H Q E h => ?_) (fun cdv A outer s H vs Q E hr h => ?_)
  · obtain ⟨x, d, rfl, _⟩ := h
    rfl
  · obtain ⟨x, d, rfl, hd, k⟩ := h
    refine ⟨_, pss_one (ps_ret (pe_and (pe_callB call_isi (by rfl) T.isi boot_isinstance (pa_cons (pv 0) (pa_cons (pe_ty "int" T.int) pa_nil)))
      (pe_one (pe_not (pe_callB call_isi (by rfl) T.isi boot_isinstance (pa_cons (pv 0) (pa_cons (pe_ty "bool" T.bool) pa_nil))))))), ?_⟩
    refine s_ret (v := .bl (wholeD d)) (ev_is (ev_andV (b := !isBoolD d) (ev_isi (ev_var rfl) hd (kit_int _)) fun _ => ev_notV (ev_isi (ev_var rfl) hd (kit_bool _))) (congrArg V.bl ?_)) k
    cases d <;> rfl
end
end Lw

namespace Lw
open PySem PySem.Spec PyProof.Rows L2 Evl L3
abbrev sLisW : Stmt := top 21
abbrev sDue : Stmt := top 22
section
variable {P : Program} {w : World} {K : PySem.W.Frag} {mg : Str → Option Value} {base : Heap}
theorem scLi : FnScope ["_law_value"] ["_law_value"] (defScope sLisW) := ⟨rfl, rfl, rfl, by decide +kernel, rfl, by decide +kernel, by decide +kernel⟩
theorem betw_whole (d : PyData) (lo hi : Int) : betwD d lo hi = (wholeD d && betwD d lo hi) := by cases d <;> rfl
theorem ok_lisW {f fW : Addr} {fd fdW : FuncData} (F : Fun K "_law_is_write" "_law_is_write" sLisW f fd) (T : Txt K mg) (hS : mg "str" = none) (FW : Fun K "_law_whole" "_law_whole" sWhole fW fdW) (bW : Binds K fdW ["_law_value"] []) (gW : mg "_law_whole" = some (.ref fW)) :
    FnOk P w K mg base CX0 2 f fd ["_law_value"] (spIsW K) := by
  have GW : FnOk P w K mg base CX0 1 fW fdW ["_law_value"] (spWhole K) := ok_whole FW T
  refine F.ok scLi (fun vs H Q E h => ?_) (fun cdv A outer s H vs Q E hr h => ?_)
  · obtain ⟨x, d, rfl, _⟩ := h
    rfl
  · obtain ⟨x, d, rfl, hd, ht, k⟩ := h
    refine ⟨_, pss_cons (ps_if (PW.pt (pw_or (pt_not (pt_val (pe_callB call_isi (by rfl) T.isi boot_isinstance (pa_cons (pv 0) (pa_cons (pe_ty "tuple" T.tuple) pa_nil)))))
          (pw_or (pt_cmpR op_ne (pe_callB call_len_seq (by rfl) T.len PySem.boot_len (pa_cons (pv 0) pa_nil)) pe_int (nomark _))
          (pw_or (pt_not (pt_val (pe_call GW hr rfl gW FW.kp bW .nil pass0 (pa_cons (pe_ix ix_tup (pv 0) pe_int (fun _ _ => rfl)) pa_nil))))
          (pw_or1 (pt_not (pt_val (pe_call GW hr rfl gW FW.kp bW .nil pass0 (pa_cons (pe_ix ix_tup (pv 0) pe_int (fun _ _ => rfl)) pa_nil)))))))))
        (pss_one (ps_ret pe_bl)) pss_nil)
      (pss_cons (ps_if (PW.pt (pw_or (pt_cmpR op_notIn_seq (pe_ix ix_tup (pv 0) pe_int (fun _ _ => rfl)) (pe_tup (pa_cons pe_int (pa_cons pe_int pa_nil))) rfl)
          (pw_or1 (pt_not (pt_chain op_le op_le pe_int (pe_ix ix_tup (pv 0) pe_int (fun _ _ => rfl)) (pe_op op_pow pe_int pe_int))))))
        (pss_one (ps_ret pe_bl)) pss_nil)
      (pss_one (ps_ret (pe_and (pe_callB call_isi (by rfl) T.isi boot_isinstance (pa_cons (pe_ix ix_tup (pv 0) pe_int (fun _ _ => rfl)) (pa_cons (pe_ty "str" hS) pa_nil)))
        (pe_one (pe_cmpR op_in_seq (pe_ix ix_tup (pv 0) pe_int (fun _ _ => rfl)) (pe_tup (pa_cons pe_str (pa_cons pe_str (pa_cons pe_str pa_nil)))) rfl)))))), ?_⟩
    cases hT : isTupD d with
    | false =>
      have e0 : isWD d = false := by cases d <;> first | rfl | exact absurd (show true = false from hT) (by decide)
      rw [e0] at k
      refine q_when (b := true) (et_is (et_or (a := true) (b := false) (et_not (a := false) (et_B (ev_is (ev_isi (ev_var rfl) hd (kit_tuple _)) (by rw [hT])))) fun z => nomatch z) rfl) (fun _ H1 e1 => ?_) (fun hb => nomatch hb)
      exact s_ret ev_c fun H2 e2 => k H2 (e1.trans e2)
    | true =>
      obtain ⟨a, xs, ds, rfl, rfl, hs, ha⟩ : ∃ a xs ds, d = .tuple ds ∧ x = .ref a ∧ SqT K H a xs ∧ DpAll K H xs ds := by
        cases hd with
        | tup hs ha => exact ⟨_, _, _, rfl, rfl, hs, ha⟩
        | _ => exact absurd (show false = true from hT) Bool.false_ne_true
      have hl := dps_len ha
      have t0 : EvT (tNot (tB (tCB (rIsi K) (tCons (tVar 0) (tCons (tC (.ty "tuple")) tNil))))) (start ["_law_value"] [V.ref a]) H false := et_not (a := true) (et_B (ev_isi (ev_var rfl) (.tup hs ha) (kit_tuple _)))
      have t1 : EvT (tTest (tOp rNe (tCB (rLenS K) (tCons (tVar 0) tNil)) (tC (.int 3)))) (start ["_law_value"] [V.ref a]) H (decide (ds.length ≠ 3)) := by
        refine et_is (et_test (ev_op (ev_cb (ea_cons (ev_var rfl) ea_nil) (fun H1 e Q q => ⟨a, xs, rfl, Or.inr (ex_t e hs), q H1 (Ex.refl H1)⟩)) ev_c (rv_ne rfl))) ?_
        rw [hl]
        by_cases c : ds.length = 3
        · rw [c] <;> rfl
        · rw [decide_eq_true c]
          have c2 : ¬ V.int (ds.length : Int) = V.int 3 := fun z => c (by injection z with z; omega)
          rw [decide_eq_false c2] <;> rfl
      by_cases c3 : ds.length = 3
      · have e3 : decide (ds.length ≠ 3) = false := decide_eq_false fun z => z c3
        rw [e3] at t1
        match ds, c3, ha with
        | [de, dl, dm], _, ha =>
          cases ha with
          | @cons xe xs1 _ _ he ha1 =>
          cases ha1 with
          | @cons xl xs2 _ _ hl2 ha2 =>
          cases ha2 with
          | @cons xm xs3 _ _ hm ha3 =>
          cases ha3
          have fm : flatD dm = true := ht
          have ix : ∀ {σ : L2.St} {H1 : Hp} {j : Nat} {v : V}, σ[0]? = some (some (V.ref a)) → Ex H H1 → [xe, xl, xm][j]? = some v → Ev (tOp (rIxT K) (tVar 0) (tC (.int (j : Int)))) σ H1 v := fun h1 e h2 => ev_op (ev_var h1) ev_c (rv_ixT (ex_t e hs) (atI_nat h2))
          have wh : ∀ {σ : L2.St} {H1 : Hp} {j : Nat} {v : V} {d : PyData}, σ[0]? = some (some (V.ref a)) → Ex H H1 → [xe, xl, xm][j]? = some v → Dp K H v d → EvT (tNot (tB (tCall (spWhole K) [] E0 (tCons (tOp (rIxT K) (tVar 0) (tC (.int (j : Int)))) tNil)))) σ H1 (!wholeD d) := fun h1 e h2 h3 => et_not (et_B (ev_call (ea_cons (ix h1 e h2) ea_nil) (sp_whole (dp_ex e h3))))
          refine q_when (b := !(wholeD de && wholeD dl)) ?_ (fun hb H1 e1 => ?_) (fun hb H1 e1 => ?_)
          · refine et_is (et_or (a := false) (b := !(wholeD de && wholeD dl)) t0 fun _ => et_is (et_or (a := false) (b := !(wholeD de && wholeD dl)) t1 fun _ => ?_) (Bool.false_or _)) (Bool.false_or _)
            refine et_is (et_or (wh (j := 0) rfl (Ex.refl H) rfl he) fun _ => wh (j := 1) rfl (Ex.refl H) rfl hl2) ?_
            cases wholeD de <;> cases wholeD dl <;> rfl
          · have e0 : isWD (.tuple [de, dl, dm]) = false := by
              show (betwD de 0 1 && (betwD dl 1 1000000000000000000 && modeD dm)) = false
              rw [betw_whole de, betw_whole dl]
              cases q1 : wholeD de with
              | false => rfl
              | true =>
                cases q2 : wholeD dl with
                | false => cases betwD de 0 1 <;> rfl
                | true =>
                  rw [q1, q2] at hb
                  cases hb
            rw [e0] at k
            exact s_ret ev_c fun H2 e2 => k H2 (e1.trans e2)
          · have q12 : wholeD de = true ∧ wholeD dl = true := by
              cases q1 : wholeD de <;> cases q2 : wholeD dl <;> rw [q1, q2] at hb <;> first | exact ⟨rfl, rfl⟩ | cases hb
            obtain ⟨i, rfl⟩ : ∃ i, de = .int i := by
              cases de with
              | int i => exact ⟨i, rfl⟩
              | _ => cases q12.1
            obtain ⟨j, rfl⟩ : ∃ j, dl = .int j := by
              cases dl with
              | int j => exact ⟨j, rfl⟩
              | _ => cases q12.2
            cases he
            cases hl2
            have p18 : (10 : Int) ^ (18 : Int).toNat = 1000000000000000000 := by decide
            refine q_when (b := !(betwD (.int i) 0 1 && betwD (.int j) 1 1000000000000000000)) ?_ (fun hb2 H2 e2 => ?_) (fun hb2 H2 e2 => ?_)
            · refine et_is (et_or (a := !betwD (.int i) 0 1) (et_is (et_test (ev_niU (ix (j := 0) rfl e1 rfl) (eu_tup (ea_cons ev_c (ea_cons ev_c ea_nil)) (by show 2 ≤ 100000; decide)) rfl rfl)) ?_) (b := !betwD (.int j) 1 1000000000000000000) fun _ => et_not ?_) ?_
              · refine congrArg (!·) ?_
                show ((0 : Int) == i || ((1 : Int) == i || false)) = (decide (0 ≤ i) && decide (i ≤ 1))
                by_cases c0 : i = 0
                · rw [c0] <;> rfl
                · by_cases c1 : i = 1
                  · rw [c1] <;> rfl
                  · have z0 : ((0 : Int) == i) = false := beq_eq_false_iff_ne.mpr fun z => c0 z.symm
                    have z1 : ((1 : Int) == i) = false := beq_eq_false_iff_ne.mpr fun z => c1 z.symm
                    rw [z0, z1]
                    by_cases c2 : 0 ≤ i
                    · rw [decide_eq_false (show ¬ i ≤ 1 by omega)]
                      cases decide (0 ≤ i) <;> rfl
                    · rw [decide_eq_false c2] <;> rfl
              · refine et_is (et_test (ev_chain ev_c (ix (j := 1) rfl e1 rfl) (ev_op ev_c ev_c (rv_I ⟨by decide, by decide, by decide⟩)))) ?_
                rw [p18] <;> rfl
              · cases betwD (.int i) 0 1 <;> cases betwD (.int j) 1 1000000000000000000 <;> rfl
            · have e0 : isWD (.tuple [.int i, .int j, dm]) = false := by
                show (betwD (.int i) 0 1 && (betwD (.int j) 1 1000000000000000000 && modeD dm)) = false
                cases q1 : betwD (.int i) 0 1 with
                | false => rfl
                | true =>
                  cases q2 : betwD (.int j) 1 1000000000000000000 with
                  | false => rfl
                  | true =>
                    rw [q1, q2] at hb2
                    cases hb2
              rw [e0] at k
              exact s_ret ev_c fun H3 e3 => k H3 ((e1.trans e2).trans e3)
            · have q34 : betwD (.int i) 0 1 = true ∧ betwD (.int j) 1 1000000000000000000 = true := by
                cases q1 : betwD (.int i) 0 1 <;> cases q2 : betwD (.int j) 1 1000000000000000000 <;> rw [q1, q2] at hb2 <;> first | exact ⟨rfl, rfl⟩ | cases hb2
              have e0 : isWD (.tuple [.int i, .int j, dm]) = modeD dm := by
                show (betwD (.int i) 0 1 && (betwD (.int j) 1 1000000000000000000 && modeD dm)) = modeD dm
                rw [q34.1, q34.2] <;> rfl
              rw [e0] at k
              have e12 := e1.trans e2
              refine s_ret (v := .bl (modeD dm)) (ev_is (ev_andV (b := modeD dm) (ev_isi (ix (j := 2) rfl e12 rfl) (dp_ex e12 hm) (kit_str _)) fun _ => ev_is (ev_inU (ix (j := 2) rfl e12 rfl) (eu_tup (ea_cons ev_c (ea_cons ev_c (ea_cons ev_c ea_nil))) (by show 3 ≤ 100000; decide)) (dp_flat hm fm) rfl) (congrArg V.bl (in_modes hm fm))) ?_) fun H3 e3 => k H3 (e12.trans e3)
              cases dm <;> rfl
      · have e0 : isWD (.tuple ds) = false := by
          match ds, c3 with
          | [], _ => rfl
          | [_], _ => rfl
          | [_, _], _ => rfl
          | [_, _, _], c => exact absurd rfl c
          | _ :: _ :: _ :: _ :: _, _ => rfl
        rw [e0] at k
        rw [decide_eq_true c3] at t1
        refine q_when (b := true) (et_is (et_or (a := false) (b := true) t0 fun _ => et_is (et_or (a := true) (b := false) t1 fun z => nomatch z) rfl) rfl) (fun _ H1 e1 => ?_) (fun hb => nomatch hb)
        exact s_ret ev_c fun H2 e2 => k H2 (e1.trans e2)
end
end Lw

namespace Lw
open PySem PySem.Spec PyProof.Rows L2 Evl L3
abbrev sTold : Stmt := top 23
abbrev sIniT : Stmt := inClass (top 4) 0
/-- what is due: the index, or that it is good -/
def dueV (d : PyData) : V := match chkD d with
  | none => .str "good"
  | some v => v
theorem fbad_lt : ∀ {ds : List PyData} {i k : Nat}, fbad ds i = some k → k < i + ds.length
  | d :: r, i, k, h => by
    have h' : (if isWD d = true then fbad r (i + 1) else some i) = some k := h
    by_cases c : isWD d = true
    · rw [if_pos c] at h'
      have z := fbad_lt h'
      rw [List.length_cons]
      omega
    · rw [if_neg c] at h'
      injection h' with e
      rw [List.length_cons]
      omega
/-- what BadWrite bears is none or a small index -/
theorem chk_bad {d : PyData} {v : V} (h : chkD d = some v) : v = .non ∨ ∃ k : Nat, v = .int (k : Int) ∧ k ≤ 200 := by
  cases d with
  | list ds =>
    have h' : (if 200 < ds.length then some V.non else (fbad ds 0).map fun i => V.int (i : Int)) = some v := h
    by_cases c : 200 < ds.length
    · rw [if_pos c] at h'
      injection h' with e
      exact Or.inl e.symm
    · rw [if_neg c] at h'
      cases e : fbad ds 0 with
      | none =>
        rw [e] at h'
        cases h'
      | some k =>
        rw [e] at h'
        have z := fbad_lt e
        injection h' with e2
        exact Or.inr ⟨k, e2.symm, by omega⟩
  | _ =>
    injection h with e
    exact Or.inl e.symm
section
variable {P : Program} {w : World} {K : PySem.W.Frag} {mg : Str → Option Value} {base : Heap}
def spDue (K : PySem.W.Frag) : Sp := fun vs H Q _ => ∃ (x : V) (d : PyData), vs = [x] ∧ Dp K H x d ∧ thirds d = true ∧ RetV (dueV d) H Q
theorem scDu : FnScope ["_law_value", "_law_at"] ["_law_value"] (defScope sDue) := ⟨rfl, rfl, rfl, by decide +kernel, rfl, by decide +kernel, by decide +kernel⟩
theorem ok_due {f fI : Addr} {fd fdI : FuncData} (F : Fun K "_law_due" "_law_due" sDue f fd) (T : Txt K mg)
    (FI : Fun K "_law_is_write" "_law_is_write" sLisW fI fdI) (bI : Binds K fdI ["_law_value"] []) (gI : mg "_law_is_write" = some (.ref fI)) (GI : FnOk P w K mg base CX0 2 fI fdI ["_law_value"] (spIsW K)) :
    FnOk P w K mg base CX0 3 f fd ["_law_value"] (spDue K) := by
  refine F.ok scDu (fun vs H Q E h => ?_) (fun cdv A outer s H vs Q E hr h => ?_)
  · obtain ⟨x, d, rfl, _⟩ := h
    rfl
  · obtain ⟨x, d, rfl, hd, ht, k⟩ := h
    refine ⟨_, pss_cons (ps_if (PW.pt (pw_or (pt_not (pt_val (pe_callB call_isi (by rfl) T.isi boot_isinstance (pa_cons (pv 0) (pa_cons (pe_ty "list" T.list) pa_nil)))))
        (pw_or1 (pt_cmpR op_gt (pe_callB call_len_seq (by rfl) T.len PySem.boot_len (pa_cons (pv 0) pa_nil)) pe_int (nomark _)))))
        (pss_one (ps_ret pe_non)) pss_nil)
      (pss_cons (ps_for PassesOwn.never rfl (pi_range1 rfl T.range (pa_cons (pe_callB call_len_seq (by rfl) T.len PySem.boot_len (pa_cons (pv 0) pa_nil)) pa_nil)) (pg_name (i := 1) scDu.nd rfl (Or.inl rfl))
        (pss_one (ps_if (pt_not (pt_val (pe_call GI hr rfl gI FI.kp bI .nil pass0 (pa_cons (pe_ix ix_list (pv 0) (pv 1) (fun _ _ => rfl)) pa_nil)))) (pss_one (ps_ret (pv 1))) pss_nil)))
      (pss_one (ps_ret pe_str))), ?_⟩
    cases hT : isListD d with
    | false =>
      have e0 : dueV d = .non := by cases d <;> first | rfl | exact absurd (show true = false from hT) (by decide)
      rw [e0] at k
      refine q_when (b := true) (et_is (et_or (a := true) (b := false) (et_not (a := false) (et_B (ev_is (ev_isi (ev_var rfl) hd (kit_list _)) (by rw [hT])))) fun z => nomatch z) rfl) (fun _ H1 e1 => ?_) (fun hb => nomatch hb)
      exact s_ret ev_c fun H2 e2 => k H2 (e1.trans e2)
    | true =>
      obtain ⟨a, xs, ds, rfl, rfl, hs, ha⟩ : ∃ a xs ds, d = .list ds ∧ x = .ref a ∧ SqL K H a xs ∧ DpAll K H xs ds := by
        cases hd with
        | lst hs ha => exact ⟨_, _, _, rfl, rfl, hs, ha⟩
        | _ => exact absurd (show false = true from hT) Bool.false_ne_true
      have hl := dps_len ha
      have evlen : ∀ {σ : L2.St} {H' : Hp}, σ[0]? = some (some (V.ref a)) → Ex H H' → Ev (tCB (rLenS K) (tCons (tVar 0) tNil)) σ H' (.int (ds.length : Int)) := fun hσ e => by
        rw [← hl]
        exact ev_len (ev_var hσ) (ex_l e hs)
      refine q_when (b := decide (200 < ds.length)) ?_ (fun hb H1 e1 => ?_) (fun hb H1 e1 => ?_)
      · refine et_is (et_or (a := false) (b := decide (200 < ds.length)) (et_not (a := true) (et_B (ev_isi (ev_var rfl) (.lst hs ha) (kit_list _)))) fun _ => ?_) (Bool.false_or _)
        exact et_is (et_test (ev_op (evlen rfl (Ex.refl H)) ev_c rv_I0)) (decide_eq_decide.mpr (by omega))
      · have c : 200 < ds.length := of_decide_eq_true hb
        have e0 : chkD (.list ds) = some .non := if_pos c
        have e1' : dueV (.list ds) = .non := by
          unfold dueV
          rw [e0]
        rw [e1'] at k
        exact s_ret ev_c fun H2 e2 => k H2 (e1.trans e2)
      · have c : ¬ 200 < ds.length := of_decide_eq_false hb
        have e0 : chkD (.list ds) = (fbad ds 0).map fun i => V.int (i : Int) := if_neg c
        refine q_forR1 (ea_cons (evlen rfl e1) ea_nil) (by omega) (fun i σ' H' => Ex H H' ∧ (∃ o1, σ' = [some (.ref a), o1]) ∧ fbad ds 0 = fbad (ds.drop i) i) (fun H2 e2 => ⟨e1.trans e2, ⟨none, rfl⟩, rfl⟩) ?_ ?_
        · rintro i σ' H' hi ⟨e3, ⟨o1, rfl⟩, hf⟩
          have him : i < ds.length := by omega
          have h1 : ds[i]? = some ds[i] := by simp [him]
          obtain ⟨y, h3, h2⟩ := dps_at ha h1
          generalize ds[i] = dy at h1 h2
          have t3 : third dy = true := by
            have z : ds.all third = true := ht
            exact List.all_eq_true.mp z _ (List.mem_of_getElem? h1)
          rw [fbad_step h1] at hf
          refine s_when (b := !isWD dy) (et_not (et_B (ev_call (ea_cons (ev_op (ev_var rfl) (ev_var rfl) (rv_ixL (ex_l e3 hs) (atI_nat h3))) ea_nil) (sp_isW (dp_ex e3 h2) t3)))) (fun hb H3 e4 => ?_) (fun hb H3 e4 => ?_)
          · have c2 : isWD dy = false := by simpa using hb
            rw [c2, if_neg Bool.false_ne_true] at hf
            rw [hf] at e0
            have e1' : dueV (.list ds) = .int (i : Int) := by
              unfold dueV
              rw [e0] <;> rfl
            rw [e1'] at k
            exact s_ret (ev_var rfl) fun H5 e5 => k H5 ((e3.trans e4).trans e5)
          · have c2 : isWD dy = true := by simpa using hb
            rw [c2, if_pos rfl] at hf
            exact ⟨e3.trans e4, ⟨_, rfl⟩, hf⟩
        · rintro σ' H' ⟨e3, ⟨o1, rfl⟩, hf⟩
          have z1 : ds.drop ((ds.length : Int)).toNat = [] := by
            rw [List.drop_eq_nil_iff]
            omega
          rw [z1] at hf
          have hf' : fbad ds 0 = none := hf
          rw [hf'] at e0
          have e1' : dueV (.list ds) = .str "good" := by
            unfold dueV
            rw [e0] <;> rfl
          rw [e1'] at k
          exact s_ret ev_c fun H5 e5 => k H5 (e3.trans e5)
/-! ### _law_told -/
def vD : V → PyData
  | .int i => .int i
  | _ => .none
theorem dp_vD {H : Hp} {d : PyData} {v : V} (h : chkD d = some v) : Dp K H v (vD v) := by
  rcases chk_bad h with rfl | ⟨k, rfl, _⟩
  · exact .non
  · exact .int _
/-- what is told of a value, way 0 by check, else by turns -/
def toldD (d : PyData) (zero : Bool) : PyData → PyData := fun ts => match chkD d with
  | none => .list [.str "good", if zero then .none else ts]
  | some v => .list [vD v, .bool true, .bool true]
/-- the turns of a value -/
def wsOf : PyData → List Wr
  | .list ds => ds.map fun d => match d with
      | .tuple [.int e, .int l, .str m] => (e, l, m)
      | _ => (0, 0, "")
  | _ => []
theorem wsOf_cD (ws : List Wr) : wsOf (cD ws) = ws := by
  show (ws.map wD).map _ = ws
  rw [List.map_map]
  have e : ∀ l : List Wr, l.map ((fun d => match d with
      | PyData.tuple [.int e, .int l, .str m] => (e, l, m)
      | _ => (0, 0, "")) ∘ wD) = l := fun l => by
    induction l with
    | nil => rfl
    | cons x r ih =>
      rw [List.map_cons, ih]
      rfl
  exact e ws
def turnsD (d : PyData) : PyData := .list ((turnsM (wsOf d)).map tD)
/-- some value that is such data -/
def RetX (K : PySem.W.Frag) (d : PyData) (H : Hp) (Q : VK) : Prop := ∀ z H2, Ex H H2 → Dp K H2 z d → Q z H2
/-- which clause takes which error, what its isinstance asks -/
structure Exm (K : PySem.W.Frag) (CW CO CT CL : Addr) : Prop where
  ww : PySem.W.exmOne K (.ref CW) (.ref CW) = some true
  wo : PySem.W.exmOne K (.ref CW) (.ref CO) = some false
  wt : PySem.W.exmOne K (.ref CW) (.ref CT) = some false
  xf : XfC K CW
  ec : ExcC K CW
  kv : PySem.W.kitOne K (.ref CW) (.type "ValueError") = some true
  kl : PySem.W.kitOne K (.ref CW) (.ref CL) = some true
theorem exm_two {cls c e : Value} {a b : Bool} (h1 : PySem.W.exmOne K cls c = some a) (h2 : PySem.W.exmOne K cls e = some b) : exmC K cls [c, e] = some (a || (b || false)) := by
  show PySem.W.exmAny K cls [c, e] = _
  unfold PySem.W.exmAny
  rw [h1]
  unfold PySem.W.exmAny
  rw [h2]
  rfl
def spTold (K : PySem.W.Frag) : Sp := fun vs H Q _ => ∃ (x : V) (d : PyData) (y : Int), vs = [x, .int y] ∧ Dp K H x d ∧ thirds d = true ∧ RetX K (toldD d (decide (y = 0)) (turnsD d)) H Q
theorem scTo : FnScope ["_law_value", "_law_way", "_law_found", "e"] ["_law_value", "_law_way"] (defScope sTold) := ⟨rfl, rfl, rfl, by decide +kernel, rfl, by decide +kernel, by decide +kernel⟩
theorem ok_told {f fC fT CW CO CT CL fI : Addr} {fd fdC fdT fdI : FuncData} (F : Fun K "_law_told" "_law_told" sTold f fd) (T : Txt K mg) (X : Exm K CW CO CT CL) (hO : mg "BadOrder" = some (.ref CO)) (hT : mg "TooLong" = some (.ref CT)) (hL : mg "LatewordsError" = some (.ref CL)) (hV : mg "ValueError" = none)
    (TW : ErC P w K mg base "BadWrite" "index" CW fI fdI)
    (FC : Fun K "check" "check" sChk fC fdC) (bC : Binds K fdC ["conversation"] []) (gC : mg "check" = some (.ref fC)) (GC : FnOk P w K mg base (L2.CX P w) 3 fC fdC ["conversation"] (spChk K CW))
    (FT : Fun K "turns" "turns" sTurns fT fdT) (bT : Binds K fdT ["conversation"] []) (gT : mg "turns" = some (.ref fT)) (GT : FnOk P w K mg base (L2.CX P w) 4 fT fdT ["conversation"] (spTurns K CW)) :
    FnOk P w K mg base CX0 5 f fd ["_law_value", "_law_way"] (spTold K) := by
  refine F.ok scTo (fun vs H Q E h => ?_) (fun cdv A outer s H vs Q E hr h => ?_)
  · obtain ⟨x, d, y, rfl, _⟩ := h
    rfl
  · obtain ⟨x, d, y, rfl, hd, ht, k⟩ := h
    have hr3 : Room 3 _ := hr.mono (by decide)
    refine ⟨_, pss_cons (ps_tryT (tb := fun W => tAsg (tIf (tTest (tOp rEq (tVar 1) (tC (.int 0)))) (tCallS (spChk K CW) (WE W) (tCons (tVar 0) tNil)) (tCallS (spTurns K CW) (WE W) (tCons (tVar 0) tNil))) (gName 2)) (Wout := fun _ _ _ _ => False)
        (l := [([.ref CO, .ref CT], none, fun _ _ _ => tRet (tC (.str "another"))), ([.ref CW], some 3, fun a cls d => tRet (tLst (tCons (tXf a cls d CW "index" (tVar 3)) (tCons (tCB (rIsX K CW a cls d) (tCons (tVar 3) (tCons (tC (.ty "ValueError")) tNil))) (tCons (tCB (rIsX K CW a cls d) (tCons (tVar 3) (tCons (tC (.ref CL)) tNil))) tNil)))))]) rfl rfl takes0
        (fun W pn xe tk _ => pss_one (ps_set (i := 2) scTo.nd rfl (Or.inl rfl) (by exact (pe_ifExp (pt_cmpR op_eq (pv 1) pe_int (nomark _)) (pe_callS GC hr3 rfl gC FC.kp bC (fun σ => passAt tk σ) (by exact (pa_cons (pv 0) pa_nil))) (pe_callS GT hr rfl gT FT.kp bT (fun σ => passAt tk σ) (by exact (pa_cons (pv 0) pa_nil)))))))
        (.bare (.two ⟨rfl, by decide, Or.inl hO⟩ ⟨rfl, by decide, Or.inl hT⟩) (fun a oe cls d pn hz hf => pss_one (ps_ret pe_str))
          (.named scTo.nd rfl rfl (.one ⟨rfl, by decide, Or.inl TW.hm⟩) (fun a oe cls d pn hz hf => pss_one (ps_ret (by exact (pe_lst (by exact (pa_cons (by exact (pe_xf X.xf TW.no hz hf (pv 3)))
            (pa_cons (by exact (pe_callB (call_isX X.ec hz hf) (by rfl) T.isi boot_isinstance (pa_cons (pv 3) (pa_cons (pe_ty "ValueError" hV) pa_nil)))) (pa_cons (by exact (pe_callB (call_isX X.ec hz hf) (by rfl) T.isi boot_isinstance (pa_cons (pv 3) (pa_cons (pe_glob (v := .ref CL) rfl hL rfl) pa_nil)))) pa_nil)))))))) .nil)))
      (pss_one (ps_ret (pe_lst (pa_cons pe_str (pa_cons (pv 2) pa_nil))))), ?_⟩
    have bad : ∀ (v : V), chkD d = some v → ∀ {W : WX}, W = wClT K (fun _ _ _ _ => False) { nx := fun σ' H' => (tRet (tLst (tCons (tC (.str "good")) (tCons (tVar 2) tNil)))) { nx := fun _ H' => Q .non H', rt := Q } σ' H', rt := Q }
          [([.ref CO, .ref CT], none, fun _ _ _ => tRet (tC (.str "another"))), ([.ref CW], some 3, fun a cls d => tRet (tLst (tCons (tXf a cls d CW "index" (tVar 3)) (tCons (tCB (rIsX K CW a cls d) (tCons (tVar 3) (tCons (tC (.ty "ValueError")) tNil))) (tCons (tCB (rIsX K CW a cls d) (tCons (tVar 3) (tCons (tC (.ref CL)) tNil))) tNil)))))] →
        ErrV CW "index" v H fun cls d H' => W cls d [some x, some (.int y), none, none] H' := by
      rintro v hv W rfl dd H2 e2 hdd h2
      refine ⟨false, exm_two X.wo X.wt, (fun z => nomatch z), fun _ => ⟨true, X.ww, fun _ a ha => ?_, fun z => nomatch z⟩⟩
      have lk : List.lookup ("index" : Str) [(("index" : Str), v)] = some v := by simp [List.lookup]
      refine ⟨_, rfl, rfl, rfl, dd, _, v, rfl, h2, lk, ?_⟩
      refine ⟨_, rfl, .ty "ValueError", _, _, rfl, rfl, ⟨dd, _, rfl, h2⟩, fun u hu => hu, X.kv, ?_⟩
      refine ⟨_, rfl, .ref CL, _, _, rfl, rfl, ⟨dd, _, rfl, h2⟩, fun u hu => hu, X.kl, ?_⟩
      refine ⟨by show 3 ≤ sizeLine; decide, fun p hp => ?_⟩
      have et : toldD d (decide (y = 0)) (turnsD d) = .list [vD v, .bool true, .bool true] := by
        unfold toldD
        rw [hv]
      rw [et] at k
      exact k _ _ (e2.trans (Ex.new hp)) (.lst (sq_of upd_same) (.cons (dp_vD hv) (.cons (.bl true) (.cons (.bl true) .nil))))
    have tv : EvT (tTest (tOp rEq (tVar 1) (tC (.int 0)))) [some x, some (.int y), none, none] H (decide (y = 0)) := et_is (et_test (ev_op (ev_var rfl) ev_c (rv_eq rfl))) (decide_eq_decide.mpr ⟨fun z => by injection z, fun z => by rw [z]⟩)
    have good : ∀ {v : V} {H1 : Hp} {vd : PyData}, chkD d = none → toldD d (decide (y = 0)) (turnsD d) = .list [.str "good", vd] → Ex H H1 → Dp K H1 v vd → tRet (tLst (tCons (tC (.str "good")) (tCons (tVar 2) tNil))) { nx := fun _ H' => Q .non H', rt := Q } [some x, some (.int y), some v, none] H1 := by
      intro v H1 vd hc et e1 hv
      rw [et] at k
      exact s_retL (el_lst (ea_cons ev_c (ea_cons (ev_var rfl) ea_nil)) (by show 2 ≤ 100000; decide)) fun p H2 hp e2 h2 => k _ _ (e1.trans e2) (.lst (sq_of h2) (.cons (.str "good") (.cons (dp_ex e2 hv) .nil)))
    refine tv H (Ex.refl H) _ fun H1 e1 => ?_
    by_cases hy : y = 0
    · rw [decide_eq_true hy, if_pos rfl]
      refine ⟨_, rfl, x, d, rfl, dp_ex e1 hd, ht, fun c0 H2 e2 => ?_, fun v hv => (bad v hv rfl).go e1⟩
      refine good c0 ?_ (e1.trans e2) .non
      unfold toldD
      rw [c0, decide_eq_true hy] <;> rfl
    · rw [decide_eq_false hy, if_neg Bool.false_ne_true]
      refine ⟨_, rfl, x, d, rfl, dp_ex e1 hd, ht, fun ws e0 c0 p ys H2 hp e2 h2 hda => ?_, fun v hv => (bad v hv rfl).go e1⟩
      refine good (vd := turnsD d) c0 ?_ (e1.trans (e2.trans ex_del_self)) ?_
      · unfold toldD
        rw [c0, decide_eq_false hy] <;> rfl
      · rw [e0]
        show Dp K H2 (.ref p) (.list ((turnsM (wsOf (cD ws))).map tD))
        rw [wsOf_cD]
        exact .lst (sq_of h2) (dps_ex ex_del_self hda)
end
end Lw

namespace Lw
open PySem PySem.Spec PyProof.Rows L2 Evl L3
abbrev sOdd : Stmt := top 24
/-- a small item of a list -/
structure Odd (d : PyData) : Prop where
  ok : niceD d = true
  dp : d.depth ≤ 1
  nd : nodes d ≤ 5
  th : third d = true
def Sc (d : PyData) : Prop := flatD d = true ∧ niceD d = true
theorem sc_depth {d : PyData} (h : Sc d) : d.depth = 0 ∧ nodes d = 1 ∧ third d = true := by
  obtain ⟨h, _⟩ := h
  cases d with
  | list _ => exact absurd (show false = true from h) Bool.false_ne_true
  | tuple _ => exact absurd (show false = true from h) Bool.false_ne_true
  | dict _ => exact absurd (show false = true from h) Bool.false_ne_true
  | _ => exact ⟨rfl, rfl, rfl⟩
theorem Sc.odd {d : PyData} (h : Sc d) : Odd d := by
  obtain ⟨a, b, c⟩ := sc_depth h
  exact ⟨h.2, by omega, by omega, c⟩
theorem sc_all : ∀ {ds : List PyData}, (∀ d ∈ ds, Sc d) → niceAll ds = true ∧ PyData.depthAll ds = 0 ∧ nodesAll ds = ds.length
  | [], _ => ⟨rfl, rfl, rfl⟩
  | d :: r, h => by
    obtain ⟨a, b, c⟩ := sc_all (ds := r) fun x hx => h x (List.mem_cons_of_mem _ hx)
    obtain ⟨a1, b1, _⟩ := sc_depth (h d List.mem_cons_self)
    refine ⟨?_, ?_, ?_⟩
    · show (niceD d && niceAll r) = true
      rw [(h d List.mem_cons_self).2, a] <;> rfl
    · show max d.depth (PyData.depthAll r) = 0
      rw [a1, b] <;> rfl
    · show nodes d + nodesAll r = r.length + 1
      omega
theorem odd_tup {ds : List PyData} (h : ∀ d ∈ ds, Sc d) (hl : ds.length ≤ 4) : Odd (.tuple ds) := by
  obtain ⟨a, b, c⟩ := sc_all h
  refine ⟨a, ?_, ?_, ?_⟩
  · show PyData.depthAll ds + 1 ≤ 1
    omega
  · show nodesAll ds + 1 ≤ 5
    omega
  · match ds, h with
    | [_, _, m], h => exact (h m (by simp)).1
    | [], _ => rfl
    | [_], _ => rfl
    | [_, _], _ => rfl
    | _ :: _ :: _ :: _ :: _, _ => rfl
theorem odd_lst {ds : List PyData} (h : ∀ d ∈ ds, Sc d) (hl : ds.length ≤ 4) : Odd (.list ds) := by
  obtain ⟨a, b, c⟩ := sc_all h
  refine ⟨a, ?_, ?_, rfl⟩
  · show PyData.depthAll ds + 1 ≤ 1
    omega
  · show nodesAll ds + 1 ≤ 5
    omega
theorem sc_int {i : Int} (h : i.natAbs < 10 ^ 50) : Sc (.int i) := ⟨rfl, decide_eq_true h⟩
theorem sc_nil {d : PyData} : d ∈ ([] : List PyData) → Sc d := fun h => nomatch h
theorem sc_cons {a : PyData} {r : List PyData} (h : Sc a) (hr : ∀ d ∈ r, Sc d) : ∀ d ∈ a :: r, Sc d := List.forall_mem_cons.mpr ⟨h, hr⟩
theorem nice_num : ∀ n : Nat, n < 31 → niceD (.str (Str.ofString (toString (n : Int)))) = true := by decide +kernel
theorem nice_mode {x : Str} (h : modeD (.str x) = true) : niceD (.str x) = true := by
  have z : (decide (x = "plain") || decide (x = "push") || decide (x = "more")) = true := h
  simp only [Bool.or_eq_true, decide_eq_true_eq] at z
  rcases z with (z | z) | z <;> rw [z] <;> decide +kernel
/-- the odd ones -/
def oddL (e s : Int) (m : Str) : List PyData :=
  [.tuple [.int e, .int 0, .str m], .tuple [.int e, .int (10 ^ (18 : Int).toNat + 1), .str m], .tuple [.int e, .int (-s), .str m], .tuple [.bool true, .int s, .str m], .tuple [.int 2, .int s, .str m]] ++
  [.tuple [.int (-1), .int s, .str m], .tuple [.int e, .bool true, .str m], .tuple [.int e, .int s, .str "Plain"], .tuple [.int e, .int s, .str ""], .tuple [.int e, .int s, .none]] ++
  [.tuple [.int e, .int s], .tuple [.int e, .int s, .str m, .str m], .list [.int e, .int s, .str m], .none, .int 5, .str "0 5", .tuple [], .tuple [.str m, .int s, .int e]] ++
  [.tuple [.int e, .int s, .str m], .tuple [.int e, .str (toString s), .str m], .tuple [.none, .int s, .str m]]
theorem oddL_ok {e s : Int} {m : Str} (he : 0 ≤ e ∧ e ≤ 1) (hs : 1 ≤ s ∧ s ≤ 30) (hm : modeD (.str m) = true) : ∀ d ∈ oddL e s m, Odd d := by
  have sm : Sc (.str m) := ⟨rfl, nice_mode hm⟩
  have se : Sc (.int e) := sc_int (by omega)
  have ss : Sc (.int s) := sc_int (by omega)
  have sn : Sc (.int (-s)) := sc_int (by omega)
  have st : Sc (.bool true) := ⟨rfl, rfl⟩
  have so : Sc .none := ⟨rfl, rfl⟩
  have sx : Sc (.str (toString s)) := by
    obtain ⟨n, rfl⟩ : ∃ n : Nat, s = (n : Int) := ⟨s.toNat, by omega⟩
    exact ⟨rfl, nice_num n (by omega)⟩
  have three : ∀ {a b c : PyData}, Sc a → Sc b → Sc c → Odd (.tuple [a, b, c]) := fun h1 h2 h3 => odd_tup (sc_cons h1 (sc_cons h2 (sc_cons h3 fun _ => sc_nil))) (by show 3 ≤ 4; decide)
  have cons : ∀ {a : PyData} {r : List PyData}, Odd a → (∀ d ∈ r, Odd d) → ∀ d ∈ a :: r, Odd d := fun h hr => List.forall_mem_cons.mpr ⟨h, hr⟩
  have nil : ∀ d ∈ ([] : List PyData), Odd d := fun _ h => nomatch h
  refine cons (three se (sc_int (by decide)) sm) (cons (three se (sc_int (by decide)) sm) (cons (three se sn sm) (cons (three st ss sm) (cons (three (sc_int (by decide)) ss sm) ?_))))
  refine cons (three (sc_int (by decide)) ss sm) (cons (three se st sm) (cons (three se ss ⟨rfl, by decide +kernel⟩) (cons (three se ss ⟨rfl, by decide +kernel⟩) (cons (three se ss so) ?_))))
  refine cons (odd_tup (sc_cons se (sc_cons ss fun _ => sc_nil)) (by show 2 ≤ 4; decide)) (cons (odd_tup (sc_cons se (sc_cons ss (sc_cons sm (sc_cons sm fun _ => sc_nil)))) (by show 4 ≤ 4; decide)) (cons (odd_lst (sc_cons se (sc_cons ss (sc_cons sm fun _ => sc_nil))) (by show 3 ≤ 4; decide)) ?_))
  refine cons so.odd (cons (sc_int (by decide)).odd (cons (Sc.odd ⟨rfl, by decide +kernel⟩) (cons (odd_tup (fun _ => sc_nil) (by show 0 ≤ 4; decide)) (cons (three sm ss se) ?_))))
  exact cons (three se ss sm) (cons (three se sx sm) (cons (three so ss sm) nil))
section
variable {P : Program} {w : World} {K : PySem.W.Frag} {mg : Str → Option Value} {base : Heap}
def spOdd (K : PySem.W.Frag) : Sp := fun vs H Q _ => ∃ (g t : Addr) (n : Nat) (e s : Int) (m : Str), vs = [.ref g, .ref t] ∧ BagAt H g (n + 1) ∧ SqT K (del H g) t [.int e, .int s, .str m] ∧ (0 ≤ e ∧ e ≤ 1) ∧ (1 ≤ s ∧ s ≤ 30) ∧ modeD (.str m) = true ∧
  ∀ (z : V) (d : PyData) (H' : Hp), Odd d → Ex (del H g) (del H' g) → Dp K (newIn H' H) z d → BagAt H' g n → Q z H'
theorem scOd : FnScope ["_law_bag_here", "_law_good", "_law_who", "_law_some", "_law_word", "_law_rows"] ["_law_bag_here", "_law_good"] (defScope sOdd) := ⟨rfl, rfl, rfl, by decide +kernel, rfl, by decide +kernel, by decide +kernel⟩
theorem rc_str {H : Hp} {i : Int} (h : i.natAbs.log2 < 1920) : RC (fun xs H Q => ∃ i, xs = [V.int i] ∧ i.natAbs.log2 < 1920 ∧ Q (.str (toString i)) H) [.int i] H (.str (toString i)) := fun H1 e Q q => ⟨i, rfl, h, q H1 (Ex.refl H1)⟩
theorem ok_odd {f fT : Addr} {fd fdT : FuncData} (F : Fun K "_law_odd" "_law_odd" sOdd f fd) (hS : mg "str" = none) (FT : Fun K "_law_take" "_law_take" sTake fT fdT) (bT : Binds K fdT ["_law_bag_here", "_law_many"] []) (gT : mg "_law_take" = some (.ref fT)) (GT : FnOk P w K mg base CX0 1 fT fdT ["_law_bag_here", "_law_many"] spTake) :
    FnOk P w K mg base CX0 2 f fd ["_law_bag_here", "_law_good"] (spOdd K) := by
  refine F.ok scOd (fun vs H Q E h => ?_) (fun cdv A outer s H vs Q E hr h => ?_)
  · obtain ⟨g, t, n, e, s, m, rfl, _⟩ := h
    rfl
  · obtain ⟨g, t, n, e, sm, m, rfl, bg, hs, he, hs2, hm, k⟩ := h
    refine ⟨_, pss_cons (ps_asg (pv 1) (pg_tup rfl (pgs_cons (pg_name (i := 2) scOd.nd rfl (Or.inl rfl)) (pgs_cons (pg_name (i := 3) scOd.nd rfl (Or.inl rfl)) (pgs_cons (pg_name (i := 4) scOd.nd rfl (Or.inl rfl)) pgs_nil)))))
      (pss_cons (ps_set (i := 5) scOd.nd rfl (Or.inl rfl) (pe_lst (pa_cons (pe_tup (pa_cons (pv 2) (pa_cons pe_int (pa_cons (pv 4) pa_nil)))) (pa_cons (pe_tup (pa_cons (pv 2) (pa_cons (pe_op op_add (pe_op op_pow pe_int pe_int) pe_int) (pa_cons (pv 4) pa_nil)))) (pa_cons (pe_tup (pa_cons (pv 2) (pa_cons (pe_un un_neg (pv 3)) (pa_cons (pv 4) pa_nil)))) (pa_cons (pe_tup (pa_cons pe_bl (pa_cons (pv 3) (pa_cons (pv 4) pa_nil)))) (pa_cons (pe_tup (pa_cons pe_int (pa_cons (pv 3) (pa_cons (pv 4) pa_nil)))) pa_nil)))))))
      (pss_cons (ps_set (i := 5) scOd.nd rfl (Or.inl rfl) (pe_op op_cat (pv 5) (pe_lst (pa_cons (pe_tup (pa_cons (pe_un un_neg pe_int) (pa_cons (pv 3) (pa_cons (pv 4) pa_nil)))) (pa_cons (pe_tup (pa_cons (pv 2) (pa_cons pe_bl (pa_cons (pv 4) pa_nil)))) (pa_cons (pe_tup (pa_cons (pv 2) (pa_cons (pv 3) (pa_cons pe_str pa_nil)))) (pa_cons (pe_tup (pa_cons (pv 2) (pa_cons (pv 3) (pa_cons pe_str pa_nil)))) (pa_cons (pe_tup (pa_cons (pv 2) (pa_cons (pv 3) (pa_cons pe_non pa_nil)))) pa_nil))))))))
      (pss_cons (ps_set (i := 5) scOd.nd rfl (Or.inl rfl) (pe_op op_cat (pv 5) (pe_lst (pa_cons (pe_tup (pa_cons (pv 2) (pa_cons (pv 3) pa_nil))) (pa_cons (pe_tup (pa_cons (pv 2) (pa_cons (pv 3) (pa_cons (pv 4) (pa_cons (pv 4) pa_nil))))) (pa_cons (pe_lst (pa_cons (pv 2) (pa_cons (pv 3) (pa_cons (pv 4) pa_nil))))
          (pa_cons pe_non (pa_cons pe_int (pa_cons pe_str (pa_cons (pe_tup pa_nil) (pa_cons (pe_tup (pa_cons (pv 4) (pa_cons (pv 3) (pa_cons (pv 2) pa_nil)))) pa_nil)))))))))))
      (pss_one (ps_ret (pe_ix ix_list (pe_op op_cat (pv 5) (pe_lst (pa_cons (pe_tup (pa_cons (pv 2) (pa_cons (pv 3) (pa_cons (pv 4) pa_nil)))) (pa_cons (pe_tup (pa_cons (pv 2) (pa_cons (pe_callTy call_str_int (by rfl) hS (by decide +kernel) (pa_cons (pv 3) pa_nil)) (pa_cons (pv 4) pa_nil)))) (pa_cons (pe_tup (pa_cons pe_non (pa_cons (pv 3) (pa_cons (pv 4) pa_nil)))) pa_nil)))))
        (pe_call GT hr rfl gT FT.kp bT .nil pass0 (pa_cons (pv 0) (pa_cons pe_int pa_nil))) (fun _ _ => rfl))))))), ?_⟩
    refine ⟨_, rfl, t, _, rfl, ex_t ex_del_self hs, rfl, ?_⟩
    refine ⟨_, _, rfl, _, _, rfl, _, _, rfl, rfl, ?_⟩
    dsimp only
    obtain ⟨ob, hg⟩ : ∃ o, H g = some o := by
      obtain ⟨_, _, _, h, _⟩ := bg
      exact ⟨_, h⟩
    have d3 : ∀ {σ : L2.St} {H' : Hp} {ta tb tc : TE} {a b c : PyData}, Ex H H' → DvE K H ta σ H' a → DvE K H tb σ H' b → DvE K H tc σ H' c → DvE K H (tTup (tCons ta (tCons tb (tCons tc tNil)))) σ H' (.tuple [a, b, c]) := fun e h1 h2 h3 => dv_tup e (da_cons h1 (da_cons h2 (da_cons h3 da_nil))) (by show 3 ≤ 100000; decide)
    refine q_asgDl (K := K) (B := H) (dl_lst (Ex.refl H) (da_cons (d3 (Ex.refl H) (dv_int (ev_var rfl)) (dv_int ev_c) (dv_str (ev_var rfl))) (da_cons (d3 (Ex.refl H) (dv_int (ev_var rfl)) (dv_int (ev_op (ev_op ev_c ev_c (rv_I ⟨by decide, by decide, by decide⟩)) ev_c rv_I0)) (dv_str (ev_var rfl)))
      (da_cons (d3 (Ex.refl H) (dv_int (ev_var rfl)) (dv_int (ev_un (ev_var rfl) ru_neg)) (dv_str (ev_var rfl))) (da_cons (d3 (Ex.refl H) (dv_bl ev_c) (dv_int (ev_var rfl)) (dv_str (ev_var rfl))) (da_cons (d3 (Ex.refl H) (dv_int ev_c) (dv_int (ev_var rfl)) (dv_str (ev_var rfl))) da_nil))))) (by show 5 ≤ 100000; decide)) fun p1 xs1 H1 e1 n1 h1 x1 => ?_
    refine q_asgDl (K := K) (B := H) (dl_cat e1 (dl_var rfl n1 h1 x1) (dl_lst e1 (da_cons (d3 e1 (dv_int (ev_un ev_c ru_neg)) (dv_int (ev_var rfl)) (dv_str (ev_var rfl))) (da_cons (d3 e1 (dv_int (ev_var rfl)) (dv_bl ev_c) (dv_str (ev_var rfl)))
      (da_cons (d3 e1 (dv_int (ev_var rfl)) (dv_int (ev_var rfl)) (dv_str ev_c)) (da_cons (d3 e1 (dv_int (ev_var rfl)) (dv_int (ev_var rfl)) (dv_str ev_c)) (da_cons (d3 e1 (dv_int (ev_var rfl)) (dv_int (ev_var rfl)) (dv_non ev_c)) da_nil))))) (by show 5 ≤ 100000; decide)) (by show 10 ≤ 100000; decide)) fun p2 xs2 H2 e2 n2 h2 x2 => ?_
    have e12 := e1.trans e2
    refine q_asgDl (K := K) (B := H) (dl_cat e12 (dl_var rfl n2 h2 x2) (dl_lst e12 (da_cons (dv_tup e12 (da_cons (dv_int (ev_var rfl)) (da_cons (dv_int (ev_var rfl)) da_nil)) (by show 2 ≤ 100000; decide))
      (da_cons (dv_tup e12 (da_cons (dv_int (ev_var rfl)) (da_cons (dv_int (ev_var rfl)) (da_cons (dv_str (ev_var rfl)) (da_cons (dv_str (ev_var rfl)) da_nil)))) (by show 4 ≤ 100000; decide))
      (da_cons (dv_l (dl_lst e12 (da_cons (dv_int (ev_var rfl)) (da_cons (dv_int (ev_var rfl)) (da_cons (dv_str (ev_var rfl)) da_nil))) (by show 3 ≤ 100000; decide)))
      (da_cons (dv_non ev_c) (da_cons (dv_int ev_c) (da_cons (dv_str ev_c) (da_cons (dv_tup e12 da_nil (by show 0 ≤ 100000; decide)) (da_cons (d3 e12 (dv_str (ev_var rfl)) (dv_int (ev_var rfl)) (dv_int (ev_var rfl))) da_nil)))))))) (by show 8 ≤ 100000; decide)) (by show 18 ≤ 100000; decide)) fun p3 xs3 H3 e3 n3 h3 x3 => ?_
    have e13 := e12.trans e3
    have fin : DvL K H (tOp rCat (tVar 5) (tLst (tCons (tTup (tCons (tVar 2) (tCons (tVar 3) (tCons (tVar 4) tNil)))) (tCons (tTup (tCons (tVar 2) (tCons (tCB (fun xs H Q => ∃ i, xs = [V.int i] ∧ i.natAbs.log2 < 1920 ∧ Q (.str (toString i)) H) (tCons (tVar 3) tNil)) (tCons (tVar 4) tNil)))) (tCons (tTup (tCons (tC .non) (tCons (tVar 3) (tCons (tVar 4) tNil)))) tNil)))))
        [some (.ref g), some (.ref t), some (.int e), some (.int sm), some (.str m), some (.ref p3)] H3 (oddL e sm m) :=
      dl_cat e13 (dl_var rfl n3 h3 x3) (dl_lst e13 (da_cons (d3 e13 (dv_int (ev_var rfl)) (dv_int (ev_var rfl)) (dv_str (ev_var rfl))) (da_cons (d3 e13 (dv_int (ev_var rfl)) (dv_str (ev_cb (ea_cons (ev_var rfl) ea_nil) (rc_str (Nat.lt_trans (log_small (i := sm) (by omega)) (by decide))))) (dv_str (ev_var rfl)))
        (da_cons (d3 e13 (dv_non ev_c) (dv_int (ev_var rfl)) (dv_str (ev_var rfl))) da_nil))) (by show 3 ≤ 100000; decide)) (by show 21 ≤ 100000; decide)
    refine fin H3 (Ex.refl H3) _ fun p4 xs4 H4 e4 n4 h4 x4 => ?_
    refine take_go (n := n) (ev_var rfl) ev_c (bg.ex (e13.trans e4)) (by decide) (by decide) fun r H5 r0 r1 x5 b5 => ?_
    obtain ⟨j, rfl⟩ : ∃ j : Nat, r = (j : Int) := ⟨r.toNat, by omega⟩
    have hj : (oddL e sm m)[j]? = some ((oddL e sm m)[j]'(by show j < 21; omega)) := by simp
    obtain ⟨v, hv, hvd⟩ := dps_at x4 hj
    have n4g : p4 ≠ g := fun z => by
      rw [z, hg] at n4
      cases n4
    refine ⟨p4, xs4, (j : Int), v, rfl, rfl, sq_of (del_at x5 h4 n4g), atI_nat hv, ?_⟩
    exact k v _ H5 (oddL_ok he hs2 hm _ (List.getElem_mem _)) ((ex_del (e13.trans e4)).trans x5) (dp_ex (new_bag hg x5) hvd) b5
end
end Lw

namespace Lw
open PySem PySem.Spec PyProof.Rows L2 Evl L3
abbrev sRuns : Stmt := top 25
section
variable {P : Program} {w : World} {K : PySem.W.Frag} {mg : Str → Option Value} {base : Heap}
def spRuns (K : PySem.W.Frag) : Sp := fun vs H Q _ => ∃ (x : V) (ws : List Wr), vs = [x] ∧ Dp K H x (cD ws) ∧ ws.length ≤ 200 ∧ RetX K (turnsD (cD ws)) H Q
theorem scRu : FnScope ["_law_some", "_law_found", "_law_start", "_law_at"] ["_law_some"] (defScope sRuns) := ⟨rfl, rfl, rfl, by decide +kernel, rfl, by decide +kernel, by decide +kernel⟩
theorem ok_runs {f : Addr} {fd : FuncData} (F : Fun K "_law_runs" "_law_runs" sRuns f fd) (T : Txt K mg) : FnOk P w K mg base CX0 1 f fd ["_law_some"] (spRuns K) := by
  refine F.ok scRu (fun vs H Q E h => ?_) (fun cdv A outer s H vs Q E hr h => ?_)
  · obtain ⟨x, ws, rfl, _⟩ := h
    rfl
  · obtain ⟨x, ws, rfl, hd, hlen, k⟩ := h
    refine ⟨_, pss_cons (ps_par (i := 1) (j := 2) rfl scRu.nd rfl rfl (by decide) rfl rfl (pa_cons (pe_lst pa_nil) (pa_cons pe_int pa_nil)) (by rfl))
      (pss_cons (ps_for PassesOwn.never rfl (pi_range2 rfl T.range (pa_cons pe_int (pa_cons (pe_op op_add (pe_callB call_len_seq (by rfl) T.len PySem.boot_len (pa_cons (pv 0) pa_nil)) pe_int) pa_nil))) (pg_name (i := 3) scRu.nd rfl (Or.inl rfl))
        (pss_one (ps_if (PW.pt (pw_or (pt_cmpR op_eq (pv 3) (pe_callB call_len_seq (by rfl) T.len PySem.boot_len (pa_cons (pv 0) pa_nil)) (nomark _))
            (pw_or1 (pt_cmpR op_ne (pe_ix ix_tup (pe_ix ix_list (pv 0) (pv 3) (fun _ _ => rfl)) pe_int (fun _ _ => rfl)) (pe_ix ix_tup (pe_ix ix_list (pv 0) (pv 2) (fun _ _ => rfl)) pe_int (fun _ _ => rfl)) (nomark _)))))
          (pss_cons (ps_expr (pe_bm PySem.F.plainAttrs_list PySem.F.slot_list_append PySem.F.type_list_append mt_append (pv 1) (pa_cons (pe_tup (pa_cons (pe_ix ix_tup (pe_ix ix_list (pv 0) (pv 2) (fun _ _ => rfl)) pe_int (fun _ _ => rfl)) (pa_cons (pv 2) (pa_cons (pv 3) pa_nil)))) pa_nil)))
            (pss_one (ps_set (i := 2) scRu.nd rfl (Or.inl rfl) (pv 3)))) pss_nil)))
      (pss_one (ps_ret (pv 1)))), ?_⟩
    obtain ⟨a, xs, rfl, hs, ha⟩ : ∃ a xs, x = .ref a ∧ SqL K H a xs ∧ DpAll K H xs (ws.map wD) := by
      cases hd with
      | lst hs ha => exact ⟨_, _, rfl, hs, ha⟩
    have hl : xs.length = ws.length := by rw [dps_len' ha, List.length_map]
    refine ⟨Nat.zero_le _, fun p hp0 => ?_⟩
    refine ⟨_, _, rfl, ?_⟩
    have evlen : ∀ {σ : L2.St} {H' : Hp}, σ[0]? = some (some (V.ref a)) → Ex H H' → Ev (tCB (rLenS K) (tCons (tVar 0) tNil)) σ H' (.int (ws.length : Int)) := fun hσ e => by
      rw [← hl]
      exact ev_len (ev_var hσ) (ex_l e hs)
    have en : Ex H (upd H p (.lst [])) := Ex.new hp0
    refine q_forR2 (ea_cons ev_c (ea_cons (ev_op (evlen rfl en) ev_c rv_I0) ea_nil)) (by omega)
      (fun i σ' H' => ∃ o3 ys, σ' = [some (.ref a), some (.ref p), some (.int ((tN ws i).2 : Int)), o3] ∧ Ex H (del H' p) ∧ H' p = some (.lst ys) ∧ DpAll K (del H' p) ys ((tN ws i).1.map tD))
      (fun H4 e4 => ⟨none, [], rfl, ex_beside (en.trans e4) hp0, e4 p _ upd_same, .nil⟩) ?_ ?_
    · rintro i σ' H' hi ⟨o3, ys, rfl, ex, hys, hda⟩
      have hi2 : i < ws.length := by omega
      have eH : Ex H H' := ex.trans ex_del_self
      have hst := tN_le ws i
      obtain ⟨t1, w1, q1, x1, s1⟩ := wr_at ha (j := (tN ws i).2) (by omega)
      have sp1 : w1.1 = spk ws (tN ws i).2 := (spk_of q1).symm
      have evs : ∀ {σ : L2.St} {H4 : Hp}, σ[0]? = some (some (V.ref a)) → σ[2]? = some (some (.int ((tN ws i).2 : Int))) → Ex H' H4 → Ev (tOp (rIxT K) (tOp (rIxL K) (tVar 0) (tVar 2)) (tC (.int 0))) σ H4 (.int (spk ws (tN ws i).2)) := fun h0 h2 e4 => by
        rw [← sp1]
        exact ev_op (ev_op (ev_var h0) (ev_var h2) (rv_ixL (ex_l (eH.trans e4) hs) (atI_nat x1))) ev_c (rv_ixT (ex_t (eH.trans e4) s1) (atI_nat (j := 0) rfl))
      have e14 : ((1 : Int) + (i : Int)) = ((i + 1 : Nat) : Int) := by omega
      refine s_when (b := decide (i + 1 = ws.length ∨ spk ws (i + 1) ≠ spk ws (tN ws i).2)) ?_ (fun hb H5 e5 => ?_) (fun hb H5 e5 => ?_)
      · by_cases c : i + 1 = ws.length
        · refine et_is (et_or (a := true) (b := true) (et_is (et_test (ev_op (ev_var rfl) (evlen rfl eH) (rv_eq rfl))) (decide_eq_true (by rw [← c, e14]))) fun z => nomatch z) ?_
          rw [decide_eq_true (Or.inl c)] <;> rfl
        · obtain ⟨t2, w2, q2, x2, s2⟩ := wr_at ha (j := i + 1) (by omega)
          have sp2 : w2.1 = spk ws (i + 1) := (spk_of q2).symm
          refine et_is (et_or (a := false) (b := decide (spk ws (i + 1) ≠ spk ws (tN ws i).2)) (et_is (et_test (ev_op (ev_var rfl) (evlen rfl eH) (rv_eq rfl))) (decide_eq_false (fun z => c (by injection z with z; omega)))) fun _ => ?_) ?_
          · refine et_is (et_test (ev_op (x := .int (spk ws (i + 1))) ?_ (evs rfl rfl (Ex.refl H')) (rv_ne rfl))) ?_
            · rw [← sp2]
              refine ev_op (ev_op (ev_var rfl) (ev_var (v := .int ((i + 1 : Nat) : Int)) (by rw [← e14]; rfl)) (rv_ixL (ex_l eH hs) (atI_nat x2))) ev_c (rv_ixT (ex_t eH s2) (atI_nat (j := 0) rfl))
            · by_cases c2 : spk ws (i + 1) = spk ws (tN ws i).2
              · rw [c2, decide_eq_true rfl, decide_eq_false (fun z => z rfl)] <;> rfl
              · rw [decide_eq_true c2, decide_eq_false (fun z => c2 (by injection z))] <;> rfl
          · rw [Bool.false_or]
            exact decide_eq_decide.mpr ⟨Or.inr, fun z => z.resolve_left c⟩
      · have c := of_decide_eq_true hb
        have eN : tN ws (i + 1) = ((tN ws i).1 ++ [(spk ws (tN ws i).2, (tN ws i).2, i + 1)], i + 1) := if_pos c
        have hys5 : H5 p = some (.lst ys) := e5 p _ hys
        refine q_appU hys5 (ev_var rfl) (eu_tup (ea_cons (evs rfl rfl e5) (ea_cons (ev_var rfl) (ea_cons (ev_var rfl) ea_nil))) (by show 3 ≤ 100000; decide)) ?_ fun u H6 hu e6 h6 => ?_
        · have z1 := dps_len' hda
          have z2 := tN_len ws i
          rw [List.length_map] at z1
          omega
        have nup : u ≠ p := fun z => by
          rw [z, hys5] at hu
          cases hu
        refine s_asg (ev_var rfl) fun H7 e7 => ?_
        have k7 : Ex (del H6 p) (del H7 p) := by
          rw [← del_upd (H := H6) (l := p) (o := .lst (ys ++ [.ref u]))]
          exact ex_del e7
        refine ⟨some (.int (1 + (i : Int))), ys ++ [.ref u], ?_, (ex.trans (ex_del (e5.trans e6))).trans k7, e7 p _ upd_same, ?_⟩
        · rw [eN, ← e14] <;> rfl
        · rw [eN, List.map_append]
          refine dps_snoc (dps_ex ((ex_del (e5.trans e6)).trans k7) hda) ?_
          have hu6 : (del H6 p) u = some (.tup [.int (spk ws (tN ws i).2), .int ((tN ws i).2 : Int), .int ((i + 1 : Nat) : Int)]) := by
            rw [del_ne nup, h6, e14]
          exact .tup (st_of (k7 u _ hu6)) (.cons (.int _) (.cons (.int _) (.cons (.int _) .nil)))
      · have c := of_decide_eq_false hb
        have eN : tN ws (i + 1) = tN ws i := if_neg c
        have k5 : Ex (del H' p) (del H5 p) := ex_del e5
        refine ⟨some (.int (1 + (i : Int))), ys, ?_, ex.trans k5, e5 p _ hys, ?_⟩
        · rw [eN] <;> rfl
        · rw [eN]
          exact dps_ex k5 hda
    · rintro σ' H' ⟨o3, ys, rfl, ex, hys, hda⟩
      have e0 : (((ws.length : Nat) : Int) + 1 - 1).toNat = ws.length := by omega
      rw [e0] at hda
      refine s_ret (ev_var rfl) fun H4 e4 => k _ H4 ((ex.trans ex_del_self).trans e4) ?_
      show Dp K H4 (.ref p) (.list ((turnsM (wsOf (cD ws))).map tD))
      rw [wsOf_cD]
      exact .lst (sq_of (e4 p _ hys)) (dps_ex (ex_del_self.trans e4) hda)
end
end Lw

namespace Lw
open PySem PySem.Spec PyProof.Rows L2 Evl L3
abbrev sRight : Stmt := top 26
/-! ### what is told is small -/
theorem all_bnd {k m : Nat} : ∀ ys : List PyData, (∀ x ∈ ys, niceD x = true ∧ x.depth ≤ k ∧ nodes x ≤ m) → niceAll ys = true ∧ PyData.depthAll ys ≤ k ∧ nodesAll ys ≤ m * ys.length := by
  intro ys
  induction ys with
  | nil => intro _; exact ⟨rfl, Nat.zero_le _, Nat.zero_le _⟩
  | cons y r ih =>
    intro h
    obtain ⟨a1, a2, a3⟩ := h y List.mem_cons_self
    obtain ⟨b1, b2, b3⟩ := ih fun x hx => h x (List.mem_cons_of_mem _ hx)
    refine ⟨?_, ?_, ?_⟩
    · show (niceD y && niceAll r) = true
      rw [a1, b1] <;> rfl
    · show max y.depth (PyData.depthAll r) ≤ k
      omega
    · show nodes y + nodesAll r ≤ m * (r.length + 1)
      rw [Nat.mul_add, Nat.mul_one]
      omega
theorem nice_int {z : Int} (h0 : 0 ≤ z) (h1 : z ≤ 1000000000000000000) : niceD (.int z) = true := decide_eq_true (by omega)
theorem tN_mem (ws : List Wr) : ∀ i, ∀ t ∈ (tN ws i).1, ∃ a b, t = (spk ws a, a, b) ∧ a ≤ i ∧ b ≤ i
  | 0, t, h => nomatch h
  | i + 1, t, h => by
    have h' : t ∈ (tstep ws (tN ws i) (i + 1)).1 := h
    have old : ∀ t ∈ (tN ws i).1, ∃ a b, t = (spk ws a, a, b) ∧ a ≤ i + 1 ∧ b ≤ i + 1 := fun t ht => by
      obtain ⟨a, b, q1, q2, q3⟩ := tN_mem ws i t ht
      exact ⟨a, b, q1, by omega, by omega⟩
    unfold tstep at h'
    split at h'
    · rcases List.mem_append.mp h' with z | z
      · exact old t z
      · have e : t = (spk ws (tN ws i).2, (tN ws i).2, i + 1) := by simpa using z
        have := tN_le ws i
        exact ⟨_, _, e, by omega, by omega⟩
    · exact old t h'
theorem spk_small {ws : List Wr} (h : ∀ w ∈ ws, okW w = true) (j : Nat) : 0 ≤ spk ws j ∧ spk ws j ≤ 1 := by
  by_cases c : j < ws.length
  · have e : ws[j]? = some ws[j] := by simp [c]
    rw [spk_of e]
    have z := h _ (List.getElem_mem c)
    unfold okW at z
    simp only [Bool.and_eq_true] at z
    have z1 : (decide (0 ≤ ws[j].1) && decide (ws[j].1 ≤ 1)) = true := z.1
    rw [Bool.and_eq_true] at z1
    exact ⟨of_decide_eq_true z1.1, of_decide_eq_true z1.2⟩
  · unfold spk
    rw [List.getD_eq_getElem?_getD, List.getElem?_eq_none (by omega)]
    exact ⟨by decide, by decide⟩
theorem turns_bnd {ws : List Wr} (h : ∀ w ∈ ws, okW w = true) (hl : ws.length ≤ 200) : niceAll ((turnsM ws).map tD) = true ∧ PyData.depthAll ((turnsM ws).map tD) ≤ 1 ∧ nodesAll ((turnsM ws).map tD) ≤ 800 := by
  obtain ⟨a, b, c⟩ := all_bnd (k := 1) (m := 4) ((turnsM ws).map tD) fun x hx => by
    obtain ⟨t, ht, e⟩ := List.mem_map.mp hx
    obtain ⟨p, q, e2, z1, z2⟩ := tN_mem ws ws.length t ht
    rw [← e, e2]
    have s := spk_small h p
    refine ⟨?_, ?_, ?_⟩
    · show (niceD (.int (spk ws p)) && (niceD (.int (p : Int)) && (niceD (.int (q : Int)) && true))) = true
      rw [nice_int s.1 (by omega), nice_int (z := (p : Int)) (by omega) (by omega), nice_int (z := (q : Int)) (by omega) (by omega)] <;> rfl
    · show (1 : Nat) ≤ 1
      exact Nat.le_refl _
    · show (4 : Nat) ≤ 4
      exact Nat.le_refl _
  have n := tN_len ws ws.length
  refine ⟨a, b, ?_⟩
  rw [List.length_map] at c
  have : (turnsM ws).length ≤ 200 := Nat.le_trans n hl
  omega
theorem nice_told (d : PyData) (b : Bool) : Nice (toldD d b (turnsD d)) := by
  unfold toldD
  cases hc : chkD d with
  | some v =>
    have nv : niceD (vD v) = true ∧ (vD v).depth = 0 ∧ nodes (vD v) = 1 := by
      rcases chk_bad hc with rfl | ⟨k, rfl, hk⟩
      · exact ⟨rfl, rfl, rfl⟩
      · exact ⟨nice_int (by omega) (by omega), rfl, rfl⟩
    refine ⟨?_, ?_, ?_⟩
    · show (niceD (vD v) && true) = true
      rw [nv.1] <;> rfl
    · show max (vD v).depth _ + 1 ≤ 10
      rw [nv.2.1]
      decide
    · show nodes (vD v) + 2 + 1 ≤ 1200
      rw [nv.2.2]
      decide
  | none =>
    obtain ⟨ws, rfl, hl, hok⟩ := chk_good hc
    cases b with
    | true =>
      show Nice (.list [.str "good", .none])
      exact ⟨by decide +kernel, by decide, by decide⟩
    | false =>
      have et : turnsD (cD ws) = .list ((turnsM ws).map tD) := by
        unfold turnsD
        rw [wsOf_cD]
      obtain ⟨q1, q2, q3⟩ := turns_bnd hok hl
      dsimp only
      rw [if_neg Bool.false_ne_true, et]
      refine ⟨?_, ?_, ?_⟩
      · show (niceD (.str "good") && (niceAll ((turnsM ws).map tD) && true)) = true
        rw [q1]
        decide +kernel
      · show max 0 (max (PyData.depthAll ((turnsM ws).map tD) + 1) 0) + 1 ≤ 10
        omega
      · show 1 + (nodesAll ((turnsM ws).map tD) + 1 + 0) + 1 ≤ 1200
        omega
section
variable {P : Program} {w : World} {K : PySem.W.Frag} {mg : Str → Option Value} {base : Heap}
theorem dp_due {H : Hp} (d : PyData) : ∃ e, Dp K H (dueV d) e ∧ SeqAt.shaped e = true ∧ PyData.eqv e (.str "good") = (chkD d).isNone ∧ (chkD d ≠ none → e = vD (dueV d)) := by
  unfold dueV
  cases hc : chkD d with
  | none => exact ⟨.str "good", .str "good", by decide +kernel, by decide +kernel, fun z => absurd rfl z⟩
  | some v =>
    rcases chk_bad hc with rfl | ⟨k, rfl, hk⟩
    · exact ⟨.none, .non, rfl, rfl, fun _ => rfl⟩
    · exact ⟨.int (k : Int), .int _, rfl, rfl, fun _ => rfl⟩
/-- one look at any value -/
def spRight (K : PySem.W.Frag) : Sp := fun vs H Q _ => ∃ (x : V) (d : PyData), vs = [x] ∧ Dp K H x d ∧ thirds d = true ∧ Nice d ∧ RetV (.bl true) H Q
theorem scRi : FnScope ["_law_value", "_law_due_here", "_law_kept", "_law_way", "_law_told_here"] ["_law_value"] (defScope sRight) := ⟨rfl, rfl, rfl, by decide +kernel, rfl, by decide +kernel, by decide +kernel⟩
theorem ok_right {f fD fT fR : Addr} {fd fdD fdT fdR : FuncData} (F : Fun K "_law_right" "_law_right" sRight f fd) (T : Txt K mg) (hRe : mg "repr" = none)
    (FD : Fun K "_law_due" "_law_due" sDue fD fdD) (bD : Binds K fdD ["_law_value"] []) (gD : mg "_law_due" = some (.ref fD)) (GD : FnOk P w K mg base CX0 3 fD fdD ["_law_value"] (spDue K))
    (FT : Fun K "_law_told" "_law_told" sTold fT fdT) (bT : Binds K fdT ["_law_value", "_law_way"] []) (gT : mg "_law_told" = some (.ref fT)) (GT : FnOk P w K mg base CX0 5 fT fdT ["_law_value", "_law_way"] (spTold K))
    (FR : Fun K "_law_runs" "_law_runs" sRuns fR fdR) (bR : Binds K fdR ["_law_some"] []) (gR : mg "_law_runs" = some (.ref fR)) :
    FnG P w K mg base 6 f fd ["_law_value"] (spRight K) := by
  have GR : FnOk P w K mg base CX0 1 fR fdR ["_law_some"] (spRuns K) := ok_runs FR T
  refine okG F scRi (fun vs H Q E h => ?_) (fun cdv A outer s H vs Q E hgu hr h => ?_)
  · obtain ⟨x, d, rfl, _⟩ := h
    rfl
  · obtain ⟨x, d, rfl, hd, ht, nd, k⟩ := h
    have hr3 : Room 3 _ := hr.mono (by decide)
    have hr1 : Room 1 _ := hr.mono (by decide)
    have hrep : ∀ {σ : L2.St} {H' : Hp}, σ[0]? = some (some x) → Ex H H' → Ev (tCB (rRepr K) (tCons (tVar 0) tNil)) σ H' (.str d.shown) := fun h1 e1 =>
      ev_cb (ea_cons (ev_var h1) ea_nil) fun H1 e Q q => ⟨_, _, rfl, dp_ex (e1.trans e) hd, nd.shw, q H1 (Ex.refl H1)⟩
    refine ⟨_, pss_cons (ps_set (i := 1) scRi.nd rfl (Or.inl rfl) (pe_call GD hr3 rfl gD FD.kp bD .nil pass0 (pa_cons (pv 0) pa_nil)))
      (pss_cons (ps_set (i := 2) scRi.nd rfl (Or.inl rfl) (pe_callB (call_reprD hgu hr.units) (by rfl) hRe boot_repr (pa_cons (pv 0) pa_nil)))
      (pss_cons (ps_for PassesOwn.never rfl (pi_list (pe_lst (pa_cons pe_int (pa_cons pe_int (pa_cons pe_int pa_nil))))) (pg_name (i := 3) scRi.nd rfl (Or.inl rfl))
        (pss_cons (ps_set (i := 4) scRi.nd rfl (Or.inl rfl) (pe_call GT hr rfl gT FT.kp bT .nil pass0 (pa_cons (pv 0) (pa_cons (pv 3) pa_nil))))
        (pss_cons (ps_if (PW.pt (pw_and (pt_cmpR (op_eqD hr.units) (pv 1) pe_str (nomark _)) (pw_and1 (pt_cmpR (op_neD hr.units) (pv 4) (pe_lst (pa_cons pe_str (pa_cons (pe_ifExp (pt_cmpR op_eq (pv 3) pe_int (nomark _)) pe_non (pe_call GR hr1 rfl gR FR.kp bR .nil pass0 (pa_cons (pv 0) pa_nil))) pa_nil))) (nomark _)))))
          (pss_one (ps_ret pe_bl)) pss_nil)
        (pss_one (ps_if (PW.pt (pw_and (pt_cmpR (op_neD hr.units) (pv 1) pe_str (nomark _)) (pw_and1 (pt_cmpR (op_neD hr.units) (pv 4) (pe_lst (pa_cons (pv 1) (pa_cons pe_bl (pa_cons pe_bl pa_nil)))) (nomark _)))))
          (pss_one (ps_ret pe_bl)) pss_nil)))))
      (pss_one (ps_ret (pe_cmpR op_eq (pe_callB (call_reprD hgu hr.units) (by rfl) hRe boot_repr (pa_cons (pv 0) pa_nil)) (pv 2) (nomark _)))))), ?_⟩
    refine q_asg (v := dueV d) (ev_call (ea_cons (ev_var rfl) ea_nil) fun H1 e Q q E => ⟨x, d, rfl, dp_ex e hd, ht, fun H2 e2 => q H2 e2⟩) fun H1 e1 => ?_
    refine q_asg (hrep rfl e1) fun H2 e2 => ?_
    refine q_forNLn (el_lst (ea_cons ev_c (ea_cons ev_c (ea_cons ev_c ea_nil))) (by show 3 ≤ 100000; decide)) (fun p i σ' H' => Ex H H' ∧ H' p = some (.lst [.int 0, .int 1, .int 0]) ∧ ∃ o3 o4, σ' = [some x, some (dueV d), some (.str d.shown), o3, o4])
      (fun p H3 hp e3 h3 => ⟨(e1.trans e2).trans e3, h3, none, none, rfl⟩) (fun p i σ' H' _ q => sq_of q.2.1) ?_ ?_
    · rintro p i v σ' H' hv ⟨e3, h3, o3, o4, rfl⟩
      obtain ⟨y, rfl⟩ : ∃ y, v = .int y := by
        have z := List.mem_of_getElem? hv
        simp only [List.mem_cons, List.not_mem_nil, or_false] at z
        rcases z with rfl | rfl | rfl <;> exact ⟨_, rfl⟩
      have nt := nice_told d (decide (y = 0))
      refine ⟨_, rfl, _, rfl, x, d, y, rfl, dp_ex e3 hd, ht, fun z H4 e4 hz => ?_⟩
      obtain ⟨de, g1, g2, g3, g4⟩ := dp_due (K := K) (H := H4) d
      have hz' : Dp K H4 z (toldD d (decide (y = 0)) (turnsD d)) := hz
      have h34 : Ex H H4 := e3.trans e4
      have tq : ∀ {σ : L2.St}, σ[1]? = some (some (dueV d)) → EvT (tTest (tOp (rEqD K) (tVar 1) (tC (.str "good")))) σ H4 (chkD d).isNone := fun h1 =>
        et_is (et_test (ev_op (ev_var h1) ev_c (rv_eqD g1 (.str "good") g2 (by decide +kernel)))) g3
      have tn : ∀ {σ : L2.St} {H5 : Hp}, Ex H4 H5 → σ[1]? = some (some (dueV d)) → EvT (tTest (tOp (rNeD K) (tVar 1) (tC (.str "good")))) σ H5 (!(chkD d).isNone) := fun e h1 =>
        et_is (et_test (ev_op (ev_var h1) ev_c (rv_neD (dp_ex e g1) (.str "good") g2 (by decide +kernel)))) (by rw [g3])
      cases hc : chkD d with
      | none =>
        rw [hc] at tq tn
        obtain ⟨ws, rfl, hlen, hok⟩ := chk_good hc
        refine q_when (b := false) (et_is (et_and (a := true) (b := false) (tq rfl) fun _ => ?_) rfl) (fun hb => nomatch hb) fun _ H5 e5 => ?_
        · intro H5 e5 Q' q
          refine ⟨_, rfl, ?_⟩
          have tv : EvT (tTest (tOp rEq (tVar 3) (tC (.int 0)))) [some x, some (dueV (cD ws)), some (.str (cD ws).shown), some (.int y), some z] H5 (decide (y = 0)) := et_is (et_test (ev_op (ev_var rfl) ev_c (rv_eq rfl))) (decide_eq_decide.mpr ⟨fun z => by injection z, fun z => by rw [z]⟩)
          refine tv H5 (Ex.refl H5) _ fun H6 e6 => ?_
          have fin : ∀ {u : V} {ud : PyData} {H7 : Hp}, toldD (cD ws) (decide (y = 0)) (turnsD (cD ws)) = .list [.str "good", ud] → Ex H4 H7 → Dp K H7 u ud → (∀ HH, Ex H7 HH → Q' false HH) → 2 ≤ sizeLine ∧ ∀ p, H7 p = none → rNeD K z (.ref p) (upd H7 p (.lst [.str "good", u])) (fun xx HH => ∃ b, xx = .bl b ∧ Q' b HH) := by
            intro u ud H7 et e7 hu hq
            refine ⟨by show 2 ≤ sizeLine; decide, fun p hp => ?_⟩
            have en := Ex.new (o := .lst [.str "good", u]) hp
            refine ⟨_, _, dp_ex (e7.trans en) hz', (et ▸ .lst (sq_of upd_same) (.cons (.str "good") (.cons (dp_ex en hu) .nil)) : Dp K _ (.ref p) (toldD (cD ws) (decide (y = 0)) (turnsD (cD ws)))), nt.shaped, nt.shaped, _, rfl, ?_⟩
            rw [nt.refl]
            exact hq _ en
          have e56 := e5.trans e6
          by_cases hy : y = 0
          · rw [decide_eq_true hy, if_pos rfl]
            refine fin (ud := .none) ?_ e56 .non fun HH eH => q HH (e6.trans eH)
            unfold toldD
            rw [hc, decide_eq_true hy] <;> rfl
          · rw [decide_eq_false hy, if_neg Bool.false_ne_true]
            refine ⟨_, rfl, x, ws, rfl, dp_ex (h34.trans e56) hd, hlen, fun u H7 e7 hu => ?_⟩
            refine fin (ud := turnsD (cD ws)) ?_ (e56.trans e7) hu fun HH eH => q HH ((e6.trans e7).trans eH)
            unfold toldD
            rw [hc, decide_eq_false hy] <;> rfl
        · refine s_when (b := false) (et_is (et_and (a := false) (b := false) (tn e5 rfl) fun z => nomatch z) rfl) (fun hb => nomatch hb) fun _ H6 e6 => ?_
          exact ⟨h34.trans (e5.trans e6), (e5.trans e6) _ _ (e4 _ _ h3), _, _, rfl⟩
      | some v =>
        rw [hc] at tq tn
        have ed : dueV d = v := by
          unfold dueV
          rw [hc]
        refine q_when (b := false) (et_is (et_and (a := false) (b := false) (tq rfl) fun z => nomatch z) rfl) (fun hb => nomatch hb) fun _ H5 e5 => ?_
        refine s_when (b := false) (et_is (et_and (a := true) (b := false) (tn e5 rfl) fun _ => ?_) rfl) (fun hb => nomatch hb) fun _ H6 e6 => ?_
        · have et : toldD d (decide (y = 0)) (turnsD d) = .list [vD v, .bool true, .bool true] := by
            unfold toldD
            rw [hc]
          rw [et] at nt hz'
          refine et_is (et_test (ev_opL (ev_var rfl) (el_lst (ea_cons (ev_var rfl) (ea_cons ev_c (ea_cons ev_c ea_nil))) (by show 3 ≤ 100000; decide)) fun p H7 h7 e7 => rv_neD (dp_ex (e5.trans e7) hz') (.lst (sq_of h7) (.cons (by rw [ed]; exact dp_vD hc) (.cons (.bl true) (.cons (.bl true) .nil)))) nt.shaped nt.shaped)) ?_
          rw [nt.refl] <;> rfl
        · exact ⟨h34.trans (e5.trans e6), (e5.trans e6) _ _ (e4 _ _ h3), _, _, rfl⟩
    · rintro p σ' H' ⟨e3, h3, o3, o4, rfl⟩
      refine s_ret (ev_op (hrep rfl e3) (ev_var rfl) (rv_eq rfl)) fun H4 e4 => ?_
      rw [decide_eq_true rfl]
      exact k H4 (e3.trans e4)
end
end Lw

namespace Lw
open PySem PySem.Spec PyProof.Rows L2 Evl L3
abbrev sLaw : Stmt := top 27
section
variable {P : Program} {w : World} {K : PySem.W.Frag} {mg : Str → Option Value} {base : Heap}
/-- any value that may be looked at -/
def Fit (d : PyData) : Prop := Nice d ∧ thirds d = true
theorem sp_right {x : V} {d : PyData} {H : Hp} (hd : Dp K H x d) (hf : Fit d) : SpV (spRight K) [x] H (.bl true) := fun H1 e Q q E =>
  ⟨x, d, rfl, dp_ex e hd, hf.2, hf.1, fun H2 e2 => q H2 e2⟩
theorem wr_odd {u : Wr} (h : okW u = true) : Odd (wD u) := by
  have h' : (betwD (.int u.1) 0 1 && (betwD (.int u.2.1) 1 1000000000000000000 && modeD (.str u.2.2))) = true := h
  simp only [Bool.and_eq_true] at h'
  obtain ⟨a1, a2, a3⟩ := h'
  have b1 : (decide (0 ≤ u.1) && decide (u.1 ≤ 1)) = true := a1
  have b2 : (decide (1 ≤ u.2.1) && decide (u.2.1 ≤ 1000000000000000000)) = true := a2
  simp only [Bool.and_eq_true, decide_eq_true_eq] at b1 b2
  exact odd_tup (sc_cons (sc_int (by omega)) (sc_cons (sc_int (by omega)) (sc_cons ⟨rfl, nice_mode a3⟩ fun _ => sc_nil))) (by show 3 ≤ 4; decide)
theorem fit_list {ds : List PyData} (h : ∀ d ∈ ds, Odd d) (hl : ds.length ≤ 210) : Fit (.list ds) ∧ Fit (.tuple ds) ∧ Fit (.list [.list ds]) := by
  obtain ⟨a, b, c⟩ := all_bnd (k := 1) (m := 5) ds fun x hx => ⟨(h x hx).ok, (h x hx).dp, (h x hx).nd⟩
  have t : thirds (.list ds) = true := by
    show ds.all third = true
    rw [List.all_eq_true]
    exact fun x hx => (h x hx).th
  refine ⟨⟨⟨a, ?_, ?_⟩, t⟩, ⟨⟨a, ?_, ?_⟩, rfl⟩, ⟨⟨?_, ?_, ?_⟩, rfl⟩⟩
  · show PyData.depthAll ds + 1 ≤ 10
    omega
  · show nodesAll ds + 1 ≤ 1200
    omega
  · show PyData.depthAll ds + 1 ≤ 10
    omega
  · show nodesAll ds + 1 ≤ 1200
    omega
  · show (niceAll ds && true) = true
    rw [a] <;> rfl
  · show max (PyData.depthAll ds + 1) 0 + 1 ≤ 10
    omega
  · show (nodesAll ds + 1) + 0 + 1 ≤ 1200
    omega
theorem fit_conv {ws : List Wr} (h : ∀ u ∈ ws, okW u = true) (hl : ws.length ≤ 210) : Fit (cD ws) ∧ Fit (.tuple (ws.map wD)) ∧ Fit (.list [cD ws]) :=
  fit_list (ds := ws.map wD) (fun x hx => by
    obtain ⟨u, hu, e⟩ := List.mem_map.mp hx
    rw [← e]
    exact wr_odd (h u hu)) (by rw [List.length_map]; exact hl)
/-- a conversation at ps, beside the bag at g -/
structure Conv (K : PySem.W.Frag) (H0 : Hp) (g : Addr) (H : Hp) (ps : Addr) (xs : List V) (ws : List Wr) (n : Nat) : Prop where
  at_ : (del H g) ps = some (.lst xs)
  da : DpAll K (del H g) xs (ws.map wD)
  ok : ∀ u ∈ ws, okW u = true
  len : ws.length ≤ 201
  bag : BagAt H g n
  ex0 : Ex H0 (del H g)
theorem Conv.go {H0 H H1 : Hp} {g ps : Addr} {xs : List V} {ws : List Wr} {n m : Nat} (C : Conv K H0 g H ps xs ws n) (e : Ex (del H g) (del H1 g)) (b : BagAt H1 g m) : Conv K H0 g H1 ps xs ws m :=
  ⟨e _ _ C.at_, dps_ex e C.da, C.ok, C.len, b, C.ex0.trans e⟩
theorem Conv.ex {H0 H H1 : Hp} {g ps : Addr} {xs : List V} {ws : List Wr} {n : Nat} (C : Conv K H0 g H ps xs ws n) (e : Ex H H1) : Conv K H0 g H1 ps xs ws n := C.go (ex_del e) (C.bag.ex e)
theorem Conv.h {H0 H : Hp} {g ps : Addr} {xs : List V} {ws : List Wr} {n : Nat} (C : Conv K H0 g H ps xs ws n) : H ps = some (.lst xs) := ex_del_self _ _ C.at_
theorem Conv.dp {H0 H : Hp} {g ps : Addr} {xs : List V} {ws : List Wr} {n : Nat} (C : Conv K H0 g H ps xs ws n) : Dp K H (.ref ps) (cD ws) := .lst (sq_of C.h) (dps_ex ex_del_self C.da)
theorem Conv.ne {H0 H : Hp} {g ps : Addr} {xs : List V} {ws : List Wr} {n : Nat} (C : Conv K H0 g H ps xs ws n) : ps ≠ g := fun z => by
  have h := C.at_
  rw [z, del_same] at h
  cases h
theorem Conv.ll {H0 H : Hp} {g ps : Addr} {xs : List V} {ws : List Wr} {n : Nat} (C : Conv K H0 g H ps xs ws n) : xs.length = ws.length := by rw [dps_len' C.da, List.length_map]
/-- and a list at pb that is being bent -/
structure Stand (K : PySem.W.Frag) (H0 : Hp) (g ps pb : Addr) (xs : List V) (ws : List Wr) (H : Hp) (ys : List V) (ds : List PyData) (n : Nat) : Prop where
  cv : (del2 H g pb) ps = some (.lst xs) ∧ DpAll K (del2 H g pb) xs (ws.map wD)
  at_ : H pb = some (.lst ys)
  da : DpAll K (del2 H g pb) ys ds
  odd : ∀ d ∈ ds, Odd d
  bag : BagAt H g n
  ex0 : Ex H0 (del2 H g pb)
  ne : pb ≠ g
theorem Stand.go {H0 H H1 : Hp} {g ps pb : Addr} {xs ys : List V} {ws : List Wr} {ds : List PyData} {n m : Nat} (S : Stand K H0 g ps pb xs ws H ys ds n) (e : Ex (del H g) (del H1 g)) (b : BagAt H1 g m) : Stand K H0 g ps pb xs ws H1 ys ds m :=
  ⟨⟨ex2g e _ _ S.cv.1, dps_ex (ex2g e) S.cv.2⟩, del_at e S.at_ S.ne, dps_ex (ex2g e) S.da, S.odd, b, S.ex0.trans (ex2g e), S.ne⟩
theorem Stand.ex {H0 H H1 : Hp} {g ps pb : Addr} {xs ys : List V} {ws : List Wr} {ds : List PyData} {n : Nat} (S : Stand K H0 g ps pb xs ws H ys ds n) (e : Ex H H1) : Stand K H0 g ps pb xs ws H1 ys ds n := S.go (ex_del e) (S.bag.ex e)
theorem Stand.ins {H0 H : Hp} {g ps pb : Addr} {xs ys : List V} {ws : List Wr} {ds : List PyData} {n : Nat} (S : Stand K H0 g ps pb xs ws H ys ds n) {z : V} {d : PyData} (hz : Dp K (del2 H g pb) z d) (ho : Odd d) (j : Nat) :
    Stand K H0 g ps pb xs ws (upd H pb (.lst (ys.take j ++ [z] ++ ys.drop j))) (ys.take j ++ [z] ++ ys.drop j) (ds.take j ++ [d] ++ ds.drop j) n where
  cv := by
    rw [del2_upd]
    exact S.cv
  at_ := upd_same
  da := by
    rw [del2_upd]
    exact dps_app (dps_app (dps_take j S.da) (.cons hz .nil)) (dps_drop j S.da)
  odd := fun x hx => by
    rcases List.mem_append.mp hx with q | q
    · rcases List.mem_append.mp q with q | q
      · exact S.odd x (List.mem_of_mem_take q)
      · have e : x = d := by simpa using q
        rw [e]
        exact ho
    · exact S.odd x (List.mem_of_mem_drop q)
  bag := by
    obtain ⟨b1, b2, b3, h1, h2⟩ := S.bag
    exact ⟨b1, b2, b3, by rw [upd_ne S.ne.symm]; exact h1, h2⟩
  ex0 := by
    rw [del2_upd]
    exact S.ex0
  ne := S.ne
theorem del_upd_ne {H : Hp} {g p : Addr} {o : HO} (h : p ≠ g) : del (upd H p o) g = upd (del H g) p o := by
  funext b
  by_cases c : b = g
  · rw [c, del_same, upd_ne h.symm, del_same]
  · rw [del_ne c]
    by_cases c2 : b = p
    · rw [c2, upd_same, upd_same]
    · rw [upd_ne c2, upd_ne c2, del_ne c]
theorem ex_mut_g {H H1 : Hp} {g p : Addr} {o : HO} (e : Ex (del H g) (del H1 g)) (hp : H p = none) (n : p ≠ g) : Ex (del H g) (del (upd H1 p o) g) := by
  rw [del_upd_ne n]
  exact Ex.mut e (by rw [del_ne n]; exact hp)
theorem ev_all {σ : L2.St} {H : Hp} {tl : TE} {bs : List Bool} (h : EvL tl σ H (bs.map V.bl)) : Ev (tCB (rAll K) (tCons tl tNil)) σ H (.bl (bs.all id)) := fun H1 e Q q =>
  h H1 e _ fun p H2 _ e2 h2 => ⟨p, bs, rfl, sq_of h2, q H2 e2⟩
theorem given_all {n : Nat} {v : Nat → V} : given n (fun _ => true) v = (List.range n).map v := by
  unfold given
  rw [List.filter_eq_self.mpr (fun _ _ => rfl)]
theorem et_yes {σ : L2.St} {H : Hp} : EvT tYes σ H true := fun H1 e Q q => q H1 (Ex.refl H1)
theorem rc_min {H : Hp} {i j : Int} : RC (fun xs H Q => ∃ i j, xs = [V.int i, V.int j] ∧ Q (.int (if j < i then j else i)) H) [.int i, .int j] H (.int (if j < i then j else i)) := fun H1 e Q q => ⟨i, j, rfl, q H1 (Ex.refl H1)⟩
theorem rc_max {H : Hp} {i j : Int} : RC (fun xs H Q => ∃ i j, xs = [V.int i, V.int j] ∧ Q (.int (if j > i then j else i)) H) [.int i, .int j] H (.int (if j > i then j else i)) := fun H1 e Q q => ⟨i, j, rfl, q H1 (Ex.refl H1)⟩
def spLaw (K : PySem.W.Frag) : Sp := fun vs H Q _ => ∃ (a : Addr) (ns : List Int), vs = [.ref a] ∧ SqL K H a (ns.map V.int) ∧ ns.length ≤ 63 ∧ ∀ H', Q (.bl true) H'
abbrev nLa : List Str := ["_law_script", "_law_at", "_law_bag_here", "_law_some", "_law_found", "_law_bent", "_law_step", "_law_good", "_law_values", "_law_value"]
theorem scLa : FnScope nLa ["_law_script"] (defScope sLaw) := ⟨rfl, rfl, rfl, by decide +kernel, rfl, by decide +kernel, by decide +kernel⟩
theorem ok_law {f fB fT fW fR fO fC fU CW : Addr} {fd fdB fdT fdW fdR fdO fdC fdU : FuncData} (F : Fun K "law" "law" sLaw f fd) (T : Txt K mg) (hMax : mg "max" = none) (hMin : mg "min" = none) (hAll : mg "all" = none)
    (FB : Fun K "_law_bag" "_law_bag" sBag fB fdB) (bB : Binds K fdB ["_law_script", "_law_at"] []) (gB : mg "_law_bag" = some (.ref fB)) (GB : FnOk P w K mg base CX0 1 fB fdB ["_law_script", "_law_at"] (spBag K))
    (FT : Fun K "_law_take" "_law_take" sTake fT fdT) (bT : Binds K fdT ["_law_bag_here", "_law_many"] []) (gT : mg "_law_take" = some (.ref fT)) (GT : FnOk P w K mg base CX0 1 fT fdT ["_law_bag_here", "_law_many"] spTake)
    (FW : Fun K "_law_writes" "_law_writes" sWrites fW fdW) (bW : Binds K fdW ["_law_bag_here", "_law_width", "_law_many"] []) (gW : mg "_law_writes" = some (.ref fW)) (GW : FnOk P w K mg base CX0 3 fW fdW ["_law_bag_here", "_law_width", "_law_many"] (spWrites K))
    (FR : Fun K "_law_right" "_law_right" sRight fR fdR) (bR : Binds K fdR ["_law_value"] []) (gR : mg "_law_right" = some (.ref fR)) (GR : FnG P w K mg base 6 fR fdR ["_law_value"] (spRight K))
    (FO : Fun K "_law_odd" "_law_odd" sOdd fO fdO) (bO : Binds K fdO ["_law_bag_here", "_law_good"] []) (gO : mg "_law_odd" = some (.ref fO)) (GO : FnOk P w K mg base CX0 2 fO fdO ["_law_bag_here", "_law_good"] (spOdd K))
    (FC : Fun K "check" "check" sChk fC fdC) (bC : Binds K fdC ["conversation"] []) (gC : mg "check" = some (.ref fC)) (GC : FnOk P w K mg base (L2.CX P w) 3 fC fdC ["conversation"] (spChk K CW))
    (FU : Fun K "turns" "turns" sTurns fU fdU) (bU : Binds K fdU ["conversation"] []) (gU : mg "turns" = some (.ref fU)) (GU : FnOk P w K mg base (L2.CX P w) 4 fU fdU ["conversation"] (spTurns K CW)) :
    FnG P w K mg base 7 f fd ["_law_script"] (spLaw K) := by
  obtain ⟨aM, hM, sM⟩ := T.modes
  refine okG F scLa (fun vs H Q E h => ?_) (fun cdv A outer s H vs Q E hgu hr h => ?_)
  · obtain ⟨a, ns, rfl, _⟩ := h
    rfl
  · obtain ⟨a, ns, rfl, hs, hl, k⟩ := h
    have hr1 : Room 1 _ := hr.mono (by decide)
    have hr2 : Room 2 _ := hr.mono (by decide)
    have hr3 : Room 3 _ := hr.mono (by decide)
    have hr4 : Room 4 _ := hr.mono (by decide)
    refine ⟨_, pss_cons (ps_if (PW.pt (pw_or (pt_cmpR (op_neD hr.units) (pe_glob (v := .ref aM) rfl hM rfl) (pe_tup (pa_cons pe_str (pa_cons pe_str (pa_cons pe_str pa_nil)))) (nomark _))
          (pw_or (pt_cmpR (op_neD hr.units) (pe_call GU hr4 rfl gU FU.kp bU .nil passE (pa_cons (pe_lst pa_nil) pa_nil)) (pe_lst pa_nil) (nomark _))
          (pw_or1 (pt_cmpR op_notN (pe_call GC hr3 rfl gC FC.kp bC .nil passE (pa_cons (pe_lst pa_nil) pa_nil)) pe_non (nomark _)))))) (pss_one (ps_ret pe_bl)) pss_nil)
      (pss_cons (ps_for PassesOwn.never rfl (pi_range1 rfl T.range (pa_cons (pe_callB (call_max2 rfl) (by rfl) hMax PyProof.Rows.boot_max (pa_cons pe_int (pa_cons (pe_callB (call_min2 rfl) (by rfl) hMin PyProof.Rows.boot_min (pa_cons pe_int (pa_cons (pe_callB call_len_seq (by rfl) T.len PySem.boot_len (pa_cons (pv 0) pa_nil)) pa_nil))) pa_nil))) pa_nil)) (pg_name (i := 1) scLa.nd rfl (Or.inl rfl))
      (pss_cons (ps_set (i := 2) scLa.nd rfl (Or.inl rfl) (pe_call GB hr1 rfl gB FB.kp bB .nil pass0 (pa_cons (pv 0) (pa_cons (pv 1) pa_nil))))
      (pss_cons (ps_set (i := 3) scLa.nd rfl (Or.inl rfl) (pe_call GW hr3 rfl gW FW.kp bW .nil pass0 (pa_cons (pv 2) (pa_cons (pe_op op_add pe_int (pe_call GT hr1 rfl gT FT.kp bT .nil pass0 (pa_cons (pv 2) (pa_cons pe_int pa_nil))))
          (pa_cons (pe_ix ix_list (pe_lst (pa_cons (pe_call GT hr1 rfl gT FT.kp bT .nil pass0 (pa_cons (pv 2) (pa_cons pe_int pa_nil))) (pa_cons (pe_call GT hr1 rfl gT FT.kp bT .nil pass0 (pa_cons (pv 2) (pa_cons pe_int pa_nil))) pa_nil))) (pe_call GT hr1 rfl gT FT.kp bT .nil pass0 (pa_cons (pv 2) (pa_cons pe_int pa_nil))) (fun _ _ => rfl)) pa_nil)))))
      (pss_cut (ps_if (pt_cmpR op_eq (pe_call GT hr1 rfl gT FT.kp bT .nil pass0 (pa_cons (pv 2) (pa_cons pe_int pa_nil))) pe_int (nomark _))
          (pss_one (ps_set (i := 3) scLa.nd rfl (Or.inl rfl) (pe_slice sl_list (pe_op op_cat (pv 3) (pe_op op_rep (pe_lst (pa_cons (pe_tup (pa_cons (pe_op op_mod (pv 1) pe_int) (pa_cons (pe_op op_pow pe_int pe_int) (pa_cons pe_str pa_nil)))) pa_nil)) pe_int)) po_none (po_some (pe_op op_add pe_int (pe_call GT hr1 rfl gT FT.kp bT .nil pass0 (pa_cons (pv 2) (pa_cons pe_int pa_nil)))))))) pss_nil)
      (pss_cons (ps_if (pt_not (pt_val (pe_callG GR hgu hr rfl gR FR.kp bR (pa_cons (pv 3) pa_nil)))) (pss_one (ps_ret pe_bl)) pss_nil)
      (pss_cons (ps_set (i := 4) scLa.nd rfl (Or.inl rfl) (pe_call GU hr4 rfl gU FU.kp bU .nil passE (pa_cons (pe_slice sl_list (pv 3) po_none (po_some pe_int)) pa_nil)))
      (pss_cons (ps_expr (pe_bm PySem.F.plainAttrs_list PySem.F.slot_list_append PySem.F.type_list_append mt_append (pv 4) (pa_cons pe_non pa_nil)))
      (pss_cons (ps_set (i := 5) scLa.nd rfl (Or.inl rfl) (pe_callTy call_list_of (by rfl) T.list (by decide +kernel) (pa_cons (pv 3) pa_nil)))
      (pss_cons (ps_for PassesOwn.never rfl (pi_range1 rfl T.range (pa_cons (pe_op op_add pe_int (pe_call GT hr1 rfl gT FT.kp bT .nil pass0 (pa_cons (pv 2) (pa_cons pe_int pa_nil)))) pa_nil)) (pg_name (i := 6) scLa.nd rfl (Or.inl rfl))
        (pss_cons (ps_set (i := 7) scLa.nd rfl (Or.inl rfl) (pe_tup (pa_cons (pe_call GT hr1 rfl gT FT.kp bT .nil pass0 (pa_cons (pv 2) (pa_cons pe_int pa_nil))) (pa_cons (pe_op op_add pe_int (pe_call GT hr1 rfl gT FT.kp bT .nil pass0 (pa_cons (pv 2) (pa_cons pe_int pa_nil))))
          (pa_cons (pe_ix ix_tup (pe_glob (v := .ref aM) rfl hM rfl) (pe_call GT hr1 rfl gT FT.kp bT .nil pass0 (pa_cons (pv 2) (pa_cons pe_int pa_nil))) (fun _ _ => rfl)) pa_nil)))))
        (pss_one (ps_expr (pe_bm PySem.F.plainAttrs_list PySem.F.slot_list_insert PySem.F.type_list_insert mt_insert (pv 5) (pa_cons (pe_call GT hr1 rfl gT FT.kp bT .nil pass0 (pa_cons (pv 2) (pa_cons (pe_op op_add (pe_callB call_len_seq (by rfl) T.len PySem.boot_len (pa_cons (pv 5) pa_nil)) pe_int) pa_nil)))
          (pa_cons (pe_call GO hr2 rfl gO FO.kp bO .nil pass0 (pa_cons (pv 2) (pa_cons (pv 7) pa_nil))) pa_nil)))))))
      (pss_cons (ps_set (i := 8) scLa.nd rfl (Or.inl rfl) (pe_lst (pa_cons (pv 5) (pa_cons (pe_callTy call_tuple_of (by rfl) T.tuple (by decide +kernel) (pa_cons (pv 3) pa_nil)) (pa_cons pe_non (pa_cons pe_int (pa_cons pe_bl (pa_cons pe_str (pa_cons (pv 3) (pa_cons (pe_lst (pa_cons (pv 3) pa_nil))
          (pa_cons (pe_tup (pa_cons pe_int (pa_cons pe_int (pa_cons pe_str pa_nil)))) pa_nil)))))))))))
      (pss_one (ps_if (pt_not (pt_val (pe_callB (cr_all rfl) (by rfl) hAll PyProof.Rows.boot_all (pa_cons (pe_lc (own := [("_law_value", 9)]) (g := gName 9) (tt := tYes) (te := tCall (spRight K) [] E0 (tCons (tVar 9) tNil)) rfl scLa.nd (pi_list (pv 8))
          (blkOk_by (N := nLa) (sc := defScope sLaw) (by decide +kernel)) (fun _ _ _ _ _ => pg_name (i := 9) scLa.nd rfl (Or.inl rfl)) (fun _ _ _ _ _ => pts_nil) (fun _ _ _ _ _ => pe_callG GR hgu hr rfl gR FR.kp bR (pa_cons (pv 9) pa_nil))) pa_nil)))) (pss_one (ps_ret pe_bl)) pss_nil))))))))))))
      (pss_one (ps_ret pe_bl))), ?_⟩
    have ev0 : EvT (tOr (tTest (tOp (rNeD K) (tC (.ref aM)) (tTup (tCons (tC (.str "plain")) (tCons (tC (.str "push")) (tCons (tC (.str "more")) tNil)))))) (tOr (tTest (tOp (rNeD K) (tCall (spTurns K CW) [] E0 (tCons (tLst tNil) tNil)) (tLst tNil)))
        (tTest (tOp (fun x y H Q => y = .non ∧ Q (.bl (!decide (x = .non))) H) (tCall (spChk K CW) [] E0 (tCons (tLst tNil) tNil)) (tC .non))))) (start nLa [V.ref a]) H false := by
      refine et_is (et_or (a := false) (b := false) (et_is (et_test (ev_opU ev_c (eu_tup (ea_cons ev_c (ea_cons ev_c (ea_cons ev_c ea_nil))) (by show 3 ≤ 100000; decide)) fun p H1 h1 e =>
        rv_neD (.tup (sM H1) (.cons (.str "plain") (.cons (.str "push") (.cons (.str "more") .nil)))) (.tup (st_of h1) (.cons (.str "plain") (.cons (.str "push") (.cons (.str "more") .nil)))) (by decide +kernel) (by decide +kernel))) (by decide +kernel)) fun _ =>
          et_is (et_or (a := false) (b := false) ?_ fun _ => ?_) rfl) rfl
      · intro H1 e1 Q' q
        refine ⟨Nat.zero_le _, fun p1 hp1 => ?_⟩
        refine ⟨.ref p1, cD [], rfl, .lst (sq_of upd_same) .nil, rfl, fun ws e0 c0 p2 ys H2 hp2 e2 h2 hda => ?_, fun v hv => nomatch (show none = some v from hv)⟩
        have ew : ws = [] := by
          have z : PyData.list (([] : List Wr).map wD) = .list (ws.map wD) := e0
          injection z with z
          cases ws with
          | nil => rfl
          | cons _ _ => cases z
        subst ew
        refine ⟨Nat.zero_le _, fun p3 hp3 => ?_⟩
        have e23 := e2.trans ex_del_self
        have en := Ex.new (o := .lst []) hp3
        cases hda
        refine ⟨.list [], .list [], .lst (sq_of (en _ _ h2)) .nil, .lst (sq_of upd_same) .nil, rfl, rfl, false, rfl, ?_⟩
        exact q _ ((Ex.new hp1).trans (e23.trans en))
      · intro H1 e1 Q' q
        refine ⟨Nat.zero_le _, fun p1 hp1 => ?_⟩
        refine ⟨.ref p1, cD [], rfl, .lst (sq_of upd_same) .nil, rfl, fun c0 H2 e2 => ?_, fun v hv => nomatch (show none = some v from hv)⟩
        exact ⟨rfl, false, rfl, q _ ((Ex.new hp1).trans e2)⟩
    refine q_when (b := false) ev0 (fun hb => nomatch hb) fun _ Ha ea => ?_
    obtain ⟨M, hM2⟩ : ∃ M : Int, M = (if (if (ns.length : Int) < 6 then (ns.length : Int) else 6) > 2 then (if (ns.length : Int) < 6 then (ns.length : Int) else 6) else 2) := ⟨_, rfl⟩
    have hM6 : 0 ≤ M ∧ M ≤ 6 := by
      rw [hM2]
      split <;> split <;> omega
    have evl : Ev (tCB (rLenS K) (tCons (tVar 0) tNil)) (start nLa [V.ref a]) Ha (.int (ns.length : Int)) := by
      have z := ev_len (K := K) (σ := start nLa [V.ref a]) (H := Ha) (ta := tVar 0) (ev_var rfl) (ex_l ea hs)
      rw [List.length_map] at z
      exact z
    refine q_forR1 (n := M) (ea_cons (ev_is (ev_cb (ea_cons ev_c (ea_cons (ev_cb (ea_cons ev_c (ea_cons evl ea_nil)) rc_min) ea_nil)) rc_max) (congrArg V.int hM2.symm)) ea_nil) (by omega)
      (fun i σ' H' => ∃ o1 o2 o3 o4 o5 o6 o7 o8 o9 : Option V, σ' = [some (.ref a), o1, o2, o3, o4, o5, o6, o7, o8, o9] ∧ Ex H H')
      (fun H1 e1 => ⟨_, _, _, _, _, _, _, _, _, rfl, ea.trans e1⟩) ?_ ?_
    · rintro i σ' H' hi ⟨o1, o2, o3, o4, o5, o6, o7, o8, o9, rfl, e0⟩
      refine ⟨_, rfl, _, rfl, a, ns, i, rfl, ex_l e0 hs, by omega, fun g H1 hg0 e1 b1 => ?_⟩
      -- some
      refine ⟨_, rfl, ?_⟩
      refine take_go (n := 10000) (ev_var rfl) ev_c (b1.less (by decide)) (by decide) (by decide) fun r1 H2 r10 r11 x2 b2 => ?_
      refine ⟨_, _, rfl, rfl, ?_⟩
      refine take_go (n := 9999) (ev_var rfl) ev_c b2 (by decide) (by decide) fun r2 H3 r20 r21 x3 b3 => ?_
      refine take_go (n := 9998) (ev_var rfl) ev_c b3 (by decide) (by decide) fun r3 H4 r30 r31 x4 b4 => ?_
      refine ⟨by show 2 ≤ sizeLine; decide, fun pl hpl => ?_⟩
      have nplg : pl ≠ g := bag_ne b4 hpl
      refine take_go (n := 9997) (ev_var rfl) ev_c (b4.ex (Ex.new hpl)) (by decide) (by decide) fun r4 H5 r40 r41 x5 b5 => ?_
      have hpl5 := del_at x5 (upd_same (H := H4) (a := pl) (o := .lst [.int r2, .int r3])) nplg
      obtain ⟨v, hv, hmem⟩ := atI_mem (xs := [.int r2, .int r3]) (r := r4) r40 (by show r4 < 2; omega)
      obtain ⟨m, rfl, hm40⟩ : ∃ m : Nat, v = .int (m : Int) ∧ m ≤ 40 := by
        simp only [List.mem_cons, List.not_mem_nil, or_false] at hmem
        rcases hmem with rfl | rfl
        · exact ⟨r2.toNat, by rw [Int.toNat_of_nonneg r20], by omega⟩
        · exact ⟨r3.toNat, by rw [Int.toNat_of_nonneg r30], by omega⟩
      refine ⟨pl, _, r4, _, rfl, rfl, sq_of hpl5, hv, ?_⟩
      have x15 : Ex (del H1 g) (del H5 g) := ((x2.trans x3).trans x4).trans ((ex_del (Ex.new hpl)).trans x5)
      refine ⟨g, 1000, m, 1 + r1, rfl, b5.less (by omega), by omega, by omega, by omega, fun ps0 xs0 ws0 H6 hws0 hoks0 hps0 npsg0 x6 h6 hda0 b6 => ?_⟩
      have C0 : Conv K H' g H6 ps0 xs0 ws0 1000 := ⟨by rw [del_ne npsg0]; exact h6, dps_ex ex2_g hda0, fun u hu => (hoks0 u hu).1, by omega, b6, (e1.trans x15).trans (x6.trans ex2_g)⟩
      clear x6 h6 hda0 b6 x15 hpl5 x5 b5 x4 b4 x3 b3 x2 b2
      -- a longer one
      refine q_cut (M := fun σ4 Hm => ∃ (ps : Addr) (xs : List V) (ws : List Wr), σ4 = [some (.ref a), some (.int (i : Int)), some (.ref g), some (.ref ps), o4, o5, o6, o7, o8, o9] ∧ Conv K H' g Hm ps xs ws 900) ?_ ?_
      · refine take_go (n := 999) (ev_var rfl) ev_c C0.bag (by decide) (by decide) fun r5 H7 r50 r51 x7 b7 => ?_
        have C1 := C0.go x7 b7
        refine ⟨rfl, _, rfl, ?_⟩
        refine ite2 (fun _ => ?_) (fun _ => ?_)
        · obtain ⟨og, hg7⟩ : ∃ o, H7 g = some o := by
            obtain ⟨_, _, _, h, _⟩ := b7
            exact ⟨_, h⟩
          have nw : ∀ {HH : Hp}, newIn HH (onlyAt H7 g) = del HH g := new_only hg7
          refine (dl_cat (K := K) (B := onlyAt H7 g) only_ex (dl_var rfl (only_ne C1.ne) C1.h (by rw [nw]; exact C1.da)) (dl_rep only_ex (dv_tup only_ex (da_cons (dv_int (ev_op (ev_var rfl) ev_c (rv_I (by show (0 : Int) < 2; decide)))) (da_cons (dv_int (ev_op ev_c ev_c (rv_I ⟨by decide, by decide, by decide⟩))) (da_cons (dv_str ev_c) da_nil))) (by show 3 ≤ 100000; decide)) (n := 201) ev_c (by decide)) (by
            rw [List.length_map, List.length_replicate]
            have := C1.len
            omega)) H7 (Ex.refl H7) _ fun pc xs2 H8 e8 n8' h8 x8 => ?_
          rw [nw] at x8
          have n8 : pc ≠ g := fun z => by
            rw [z, only_at, hg7] at n8'
            cases n8'
          refine take_go (n := 998) (ev_var rfl) ev_c (b7.ex e8) (by decide) (by decide) fun r6 H9 r60 r61 x9 b9 => ?_
          refine ⟨_, _, rfl, rfl, _, rfl, pc, xs2, rfl, sq_of (del_at x9 h8 n8), fun pz hpz => ?_⟩
          have npz : pz ≠ g := bag_ne b9 hpz
          obtain ⟨j, hj⟩ : ∃ j : Nat, 199 + r6 = (j : Int) := ⟨(199 + r6).toNat, by omega⟩
          rw [hj, cut_take]
          have ed : ws0.map wD ++ List.replicate 201 (PyData.tuple [.int ((i : Int) % 2), .int (10 ^ (18 : Int).toNat), .str "more"]) = (ws0 ++ List.replicate 201 ((i : Int) % 2, (10 : Int) ^ (18 : Int).toNat, ("more" : Str))).map wD := by
            rw [List.map_append, List.map_replicate]
            rfl
          rw [ed] at x8
          have en := ex_del (l := g) (Ex.new (o := .lst (xs2.take j)) hpz)
          have okw : okW ((i : Int) % 2, (10 : Int) ^ (18 : Int).toNat, ("more" : Str)) = true := by
            show (betwD (.int ((i : Int) % 2)) 0 1 && (betwD (.int ((10 : Int) ^ (18 : Int).toNat)) 1 1000000000000000000 && modeD (.str "more"))) = true
            have q1 : betwD (.int ((i : Int) % 2)) 0 1 = true := by
              show (decide (0 ≤ (i : Int) % 2) && decide ((i : Int) % 2 ≤ 1)) = true
              rw [decide_eq_true (by omega : 0 ≤ (i : Int) % 2), decide_eq_true (by omega : (i : Int) % 2 ≤ 1)] <;> rfl
            rw [q1]
            decide +kernel
          refine ⟨pz, xs2.take j, (ws0 ++ List.replicate 201 ((i : Int) % 2, (10 : Int) ^ (18 : Int).toNat, ("more" : Str))).take j, rfl, ?_, ?_, ?_, ?_, ?_, ?_⟩
          · rw [del_ne npz]
            exact upd_same
          · rw [List.map_take]
            exact dps_take j (dps_ex (x9.trans en) x8)
          · intro u hu
            rcases List.mem_append.mp (List.mem_of_mem_take hu) with z | z
            · exact C1.ok u z
            · rw [(List.mem_replicate.mp z).2]
              exact okw
          · rw [List.length_take]
            omega
          · exact (b9.ex (Ex.new hpz)).less (by decide)
          · exact ((C1.ex0.trans (ex_del e8)).trans x9).trans en
        · exact ⟨ps0, xs0, ws0, rfl, C1.at_, C1.da, C1.ok, C1.len, C1.bag.less (by decide), C1.ex0⟩
      · rintro σ4 Hm ⟨ps, xs, ws, rfl, C⟩
        have fit := fit_conv C.ok (by have := C.len; omega)
        refine q_when (b := false) (et_is (et_not (a := true) (et_B (ev_call (ea_cons (ev_var rfl) ea_nil) (sp_right C.dp fit.1)))) rfl) (fun hb => nomatch hb) fun _ Hn en => ?_
        have C2 := C.ex en
        -- turns
        refine ⟨_, rfl, 200, rfl, ps, xs, rfl, sq_of C2.h, fun s1 hs1 => ?_⟩
        rw [show cutV xs none (some (200 : Int)) = xs.take 200 from cut_take 200]
        have e1s := Ex.new (o := .lst (xs.take 200)) hs1
        have hok2 : ∀ u ∈ ws.take 200, okW u = true := fun u hu => C2.ok u (List.mem_of_mem_take hu)
        have hl2 : (ws.take 200).length ≤ 200 := by
          rw [List.length_take]
          omega
        refine ⟨.ref s1, cD (ws.take 200), rfl, .lst (sq_of upd_same) ?_, third_wD _, fun ws' ew _ pt yt Ht hpt et ht hdat => ?_, fun v hv => by rw [good_chk hl2 hok2] at hv; cases hv⟩
        · rw [List.map_take]
          exact dps_take 200 (dps_ex (ex_del_self.trans e1s) C2.da)
        have npt : pt ≠ g := bag_ne (C2.bag.ex e1s) hpt
        have hyt : yt.length < 100000 := by
          rw [dps_len' hdat, List.length_map]
          have z := tN_len ws' ws'.length
          have z2 : ws'.length = (ws.take 200).length := by
            have q : PyData.list ((ws.take 200).map wD) = .list (ws'.map wD) := ew
            injection q with q
            have q2 := congrArg List.length q
            rw [List.length_map, List.length_map] at q2
            exact q2.symm
          have z3 : (turnsM ws').length ≤ ws'.length := z
          omega
        refine q_app ht (ev_var rfl) ev_c hyt fun Hu eu => ?_
        have e4 : Ex Hn Hu := (e1s.trans (et.trans ex_del_self)).trans eu
        have hptn : Hn pt = none := fresh_back e1s hpt
        have C3 : Conv K H' g (upd Hu pt (.lst (yt ++ [.non]))) ps xs ws 900 := C2.go (ex_mut_g (ex_del e4) hptn npt) (by
          obtain ⟨d1, d2, d3, q1, q2⟩ := C2.bag.ex e4
          exact ⟨d1, d2, d3, by rw [upd_ne npt.symm]; exact q1, q2⟩)
        -- bent
        refine q_asgL (el_cb (ea_cons (ev_var rfl) ea_nil) (fun H1 e1 Q q => ⟨ps, _, rfl, Or.inl (sq_of (e1 _ _ C3.h)), fun l hl => q l _ hl (Ex.new hl) upd_same⟩)) fun pb Hb hpb eb hb => ?_
        have npb : pb ≠ g := bag_ne C3.bag hpb
        have k9 : Ex (del (upd Hu pt (.lst (yt ++ [.non]))) g) (del2 Hb g pb) := ex_beside (ex_del eb) (by rw [del_ne npb]; exact hpb)
        have S0 : Stand K H' g ps pb xs ws Hb xs (ws.map wD) 900 := ⟨⟨k9 _ _ C3.at_, dps_ex k9 C3.da⟩, hb, dps_ex k9 C3.da, fun x hx => by
          obtain ⟨u, hu, e⟩ := List.mem_map.mp hx
          rw [← e]
          exact wr_odd (C3.ok u hu), C3.bag.ex eb, C3.ex0.trans k9, npb⟩
        refine take_go (n := 899) (ev_var rfl) ev_c S0.bag (by decide) (by decide) fun r7 Hc r70 r71 x7 b7 => ?_
        refine ⟨_, _, rfl, rfl, ?_⟩
        refine ⟨1 + r7, rfl, by omega, by omega, for_range (lo := 0) (n := (1 + r7).toNat)
          (fun q σ' Hx => ∃ (u6 u7 : Option V) (ys : List V) (ds : List PyData), σ' = [some (.ref a), some (.int (i : Int)), some (.ref g), some (.ref ps), some (.ref pt), some (.ref pb), u6, u7, o8, o9] ∧ Stand K H' g ps pb xs ws Hx ys ds (800 - 5 * q) ∧ ds.length = ws.length + q)
          ⟨_, _, _, _, rfl, S0.go x7 (b7.less (by decide)), by rw [List.length_map] <;> rfl⟩ ?_ ?_⟩
        · rintro q σ' Hx hq ⟨u6, u7, ys, ds, rfl, S, hdl⟩
          have hys : ys.length = ds.length := dps_len' S.da
          have hlw := C3.len
          -- good
          refine take_go (n := 800 - 5 * q - 1) (ev_var rfl) ev_c (S.bag.less (by omega)) (by decide) (by decide) fun w1 Hd w10 w11 y1 c1 => ?_
          have S1 := S.go y1 c1
          refine take_go (n := 800 - 5 * q - 2) (ev_var rfl) ev_c (c1.less (by omega)) (by decide) (by decide) fun w2 He w20 w21 y2 c2 => ?_
          have S2 := S1.go y2 c2
          refine ⟨_, _, rfl, rfl, ?_⟩
          refine take_go (n := 800 - 5 * q - 3) (ev_var rfl) ev_c (c2.less (by omega)) (by decide) (by decide) fun w3 Hf w30 w31 y3 c3 => ?_
          have S3 := S2.go y3 c3
          obtain ⟨v, hv, hmem⟩ := atI_mem (xs := [.str "plain", .str "push", .str "more"]) (r := w3) w30 (by show w3 < 3; omega)
          refine ⟨aM, _, w3, v, rfl, rfl, sM _, hv, ?_⟩
          obtain ⟨sv, rfl, hmode⟩ : ∃ sv : Str, v = .str sv ∧ modeD (.str sv) = true := by
            simp only [List.mem_cons, List.not_mem_nil, or_false] at hmem
            rcases hmem with rfl | rfl | rfl
            · exact ⟨_, rfl, by decide +kernel⟩
            · exact ⟨_, rfl, by decide +kernel⟩
            · exact ⟨_, rfl, by decide +kernel⟩
          refine ⟨by show 3 ≤ sizeLine; decide, fun t ht => ?_⟩
          have ntg : t ≠ g := bag_ne S3.bag ht
          have en := Ex.new (o := .tup [.int w1, .int (1 + w2), .str sv]) ht
          have S4 := S3.ex en
          have ht4 : (upd Hf t (.tup [.int w1, .int (1 + w2), .str sv])) t = some (.tup [.int w1, .int (1 + w2), .str sv]) := upd_same
          -- insert
          refine ⟨_, rfl, Or.inl ⟨rfl, _, sq_of S4.at_⟩, ?_⟩
          refine take_go (n := 800 - 5 * q - 4) (m := (ys.length : Int) + 1) (ev_var rfl) (ev_op (ev_len (ev_var rfl) (sq_of S4.at_)) ev_c rv_I0) (S4.bag.less (by omega)) (by omega) (by omega) fun w4 Hg w40 w41 y4 c4 => ?_
          have S5 := S4.go y4 c4
          have ht5 := del_at y4 ht4 ntg
          refine ⟨_, rfl, _, rfl, g, t, 800 - 5 * (q + 1), w1, 1 + w2, sv, rfl, c4.less (by omega), st_of (by rw [del_ne ntg]; exact ht5), by omega, by omega, hmode, fun z d Hh hodd y5 hz c5 => ?_⟩
          have S6 := S5.go y5 c5
          refine ⟨pb, ys, w4, z, rfl, rfl, S6.at_, sz_lt (by omega), w40, by omega, ?_⟩
          obtain ⟨bg1, bg2, bg3, hgg, _⟩ := c4
          have hz2 : Dp K (del2 Hh g pb) z d := dp_ex (new_del S5.at_ (new_del hgg new_sub)) hz
          refine ⟨_, _, _, _, rfl, S6.ins hz2 hodd w4.toNat, ?_⟩
          rw [List.length_append, List.length_append, List.length_take, List.length_drop, List.length_singleton]
          omega
        · rintro σ' Hx ⟨u6, u7, ys, ds, rfl, S, hdl⟩
          have hlw := C3.len
          have hd210 : ds.length ≤ 210 := by omega
          have fb := (fit_list S.odd hd210).1
          obtain ⟨og, hg⟩ : ∃ o, Hx g = some o := by
            obtain ⟨_, _, _, h, _⟩ := S.bag
            exact ⟨_, h⟩
          have ncv : Ex (del2 Hx g pb) (newIn Hx (fun _ => none)) := fun b o hbo => by
            rw [new_at rfl]
            exact ex2_self _ _ hbo
          have hps : Hx ps = some (.lst xs) := ex2_self _ _ S.cv.1
          have dps : ∀ {HH : Hp}, Ex Hx HH → Dp K (newIn HH (fun _ => none)) (.ref ps) (cD ws) := fun e => .lst (sq_of (by rw [new_at rfl]; exact e _ _ hps)) (dps_ex (ncv.trans (new_ex e)) S.cv.2)
          have nb : Ex (fun _ => none) Hx := fun _ _ h => nomatch h
          have tupE : DvE K (fun _ => none) (tCB (fun xs H Q => ∃ a ys, xs = [V.ref a] ∧ ((SqL K H a ys ∧ ∀ l, H l = none → Q (.ref l) (upd H l (.tup ys))) ∨ (SqT K H a ys ∧ Q (.ref a) H))) (tCons (tVar 3) tNil)) [some (.ref a), some (.int (i : Int)), some (.ref g), some (.ref ps), some (.ref pt), some (.ref pb), u6, u7, o8, o9] Hx (.tuple (ws.map wD)) := fun H1 e1 Q q =>
            ⟨_, rfl, ps, xs, rfl, Or.inl ⟨sq_of (e1 _ _ hps), fun l hl => q _ _ (Ex.new hl) (.tup (st_of (by rw [new_at rfl]; exact upd_same)) (dps_ex (ncv.trans (new_ex (e1.trans (Ex.new hl)))) S.cv.2))⟩⟩
          refine q_asgDl (K := K) (B := fun _ => none) (dl_lst nb (da_cons (dv_ev (ev_var rfl) (.lst (sq_of (by rw [new_at rfl]; exact S.at_)) (dps_ex ncv S.da))) (da_cons tupE (da_cons (dv_non ev_c) (da_cons (dv_int ev_c) (da_cons (dv_bl ev_c) (da_cons (dv_str ev_c) (da_cons (dv_ev (ev_var rfl) (dps (Ex.refl Hx)))
            (da_cons (dv_l (dl_lst nb (da_cons (dv_ev (ev_var rfl) (dps (Ex.refl Hx))) da_nil) (by show 1 ≤ 100000; decide))) (da_cons (dv_tup nb (da_cons (dv_int ev_c) (da_cons (dv_int ev_c) (da_cons (dv_str ev_c) da_nil))) (by show 3 ≤ 100000; decide)) da_nil))))))))) (by show 9 ≤ 100000; decide)) fun pv vals Hy ey _ hv hvd => ?_
          have fc := fit_conv C3.ok (by omega)
          have all : ∀ d ∈ [PyData.list ds, .tuple (ws.map wD), .none, .int 0, .bool true, .str "", cD ws, .list [cD ws], .tuple [.int 0, .int 5, .str "plain"]], Fit d := by
            refine List.forall_mem_cons.mpr ⟨fb, List.forall_mem_cons.mpr ⟨fc.2.1, List.forall_mem_cons.mpr ⟨⟨⟨rfl, by decide, by decide⟩, rfl⟩, List.forall_mem_cons.mpr ⟨⟨⟨by decide +kernel, by decide, by decide⟩, rfl⟩, List.forall_mem_cons.mpr ⟨⟨⟨rfl, by decide, by decide⟩, rfl⟩,
              List.forall_mem_cons.mpr ⟨⟨⟨by decide +kernel, by decide, by decide⟩, rfl⟩, List.forall_mem_cons.mpr ⟨fc.1, List.forall_mem_cons.mpr ⟨fc.2.2, List.forall_mem_cons.mpr ⟨⟨⟨by decide +kernel, by decide, by decide⟩, rfl⟩, fun _ h => nomatch h⟩⟩⟩⟩⟩⟩⟩⟩⟩
          have hvl : vals.length = 9 := dps_len' hvd
          refine s_when (b := false) (et_is (et_not (a := true) (et_B (ev_is (ev_all (bs := List.replicate 9 true) ?_) rfl))) rfl) (fun hb => nomatch hb) fun _ Hz ez => ?_
          · have z := el_lcL (K := K) (σ := [some (.ref a), some (.int (i : Int)), some (.ref g), some (.ref ps), some (.ref pt), some (.ref pb), u6, u7, some (.ref pv), o9]) (H := Hy) (a := pv) (xs := vals) (tl := tVar 8) (j := 9) (vs := [9]) (t := tYes) (te := tCall (spRight K) [] E0 (tCons (tVar 9) tNil))
              (fun _ => true) (fun _ => .bl true) (ev_var rfl) (sq_of hv) (by omega) (fun _ => rfl) (fun _ _ _ _ _ => et_yes) (fun q x H1 e1 hx _ => by
                obtain ⟨d, g1, g2⟩ := dps_get hvd hx
                exact ev_call (ea_cons (ev_var rfl) ea_nil) (sp_right (dp_ex (new_sub.trans e1) g2) (all d (List.mem_of_getElem? g1))))
            rw [given_all, hvl] at z
            exact z
          · exact ⟨_, _, _, _, _, _, _, _, _, rfl, e0.trans ((S.ex0.trans ex2_self).trans (ey.trans ez))⟩
    · rintro σ' H' ⟨o1, o2, o3, o4, o5, o6, o7, o8, o9, rfl, e0⟩
      exact s_ret ev_c fun H1 e1 => k H1
end
end Lw

namespace Lw
open PySem PySem.Spec PyProof.Rows L2 Evl L3
theorem exm_ref' {K : PySem.W.Frag} {C : Addr} {cls : Value} {b : Bool} (h1 : PySem.W.subIn K (.ref C) (.type "BaseException") = some true) (h2 : PySem.W.hasDictIn K C = true) (h3 : PySem.W.typeIn K (.ref C) = some (.type "type")) (h4 : PySem.W.subIn K cls (.ref C) = some b) :
    PySem.W.exmOne K cls (.ref C) = some b := PySem.W.exm_ref h1 h2 h3 h4
theorem all_mk {P : Program} {w : World} {K : PySem.W.Frag} {h : Heap} {mg : Str → Option Value} (X : K.In h) (G : h.Ns mainGlobals mg)
    {f1 f2 f3 f4 f5 f6 f7 f8 f9 f10 f11 f12 f13 f14 f15 f16 f17 fBadWrite fBadOrder fTooLong : Addr} {CBadWrite EBadWrite NBadWrite CBadOrder EBadOrder NBadOrder CTooLong ETooLong NTooLong : Addr} {CL : Addr} {fa : Addr} (hfa : mg "law" = some (.ref fa))
    {od1 an1 od2 an2 od3 an3 od4 an4 od5 an5 od6 an6 od7 an7 od8 an8 od9 an9 od10 an10 od11 an11 od12 an12 od13 an13 od14 an14 od15 an15 od16 an16 od17 an17 odBadWrite anBadWrite odBadOrder anBadOrder odTooLong anTooLong : Option Addr} {sl1 sl2 sl3 sl4 sl5 sl6 sl7 sl8 sl9 sl10 sl11 sl12 sl13 sl14 sl15 sl16 sl17 slBadWrite slBadOrder slTooLong : Array (Option Value)} {oc1 kV1 dc1 pm1 cd1 ct1 oc2 kV2 dc2 pm2 cd2 ct2 oc3 kV3 dc3 pm3 cd3 ct3 oc4 kV4 dc4 pm4 cd4 ct4 oc5 kV5 dc5 pm5 cd5 ct5 oc6 kV6 dc6 pm6 cd6 ct6 oc7 kV7 dc7 pm7 cd7 ct7 oc8 kV8 dc8 pm8 cd8 ct8 oc9 kV9 dc9 pm9 cd9 ct9 oc10 kV10 dc10 pm10 cd10 ct10 oc11 kV11 dc11 pm11 cd11 ct11 oc12 kV12 dc12 pm12 cd12 ct12 oc13 kV13 dc13 pm13 cd13 ct13 oc14 kV14 dc14 pm14 cd14 ct14 oc15 kV15 dc15 pm15 cd15 ct15 oc16 kV16 dc16 pm16 cd16 ct16 oc17 kV17 dc17 pm17 cd17 ct17 ocBadWrite kVBadWrite dcBadWrite pmBadWrite cdBadWrite ctBadWrite ocBadOrder kVBadOrder dcBadOrder pmBadOrder cdBadOrder ctBadOrder ocTooLong kVTooLong dcTooLong pmTooLong cdTooLong ctTooLong : Value}
    {nmBadWrite qBadWrite : Str} {bsBadWrite : List Value} {snBadWrite : List Str} {subBadWrite : List Value} {abBadWrite : Bool} {colBadWrite : Option Bool} {ddBadWrite : Option Addr} {m0BadWrite m1BadWrite m2BadWrite m3BadWrite m5BadWrite : Option Value}
    {nmBadOrder qBadOrder : Str} {bsBadOrder : List Value} {snBadOrder : List Str} {subBadOrder : List Value} {abBadOrder : Bool} {colBadOrder : Option Bool} {ddBadOrder : Option Addr} {m0BadOrder m1BadOrder m2BadOrder m3BadOrder m5BadOrder : Option Value}
    {nmTooLong qTooLong : Str} {bsTooLong : List Value} {snTooLong : List Str} {subTooLong : List Value} {abTooLong : Bool} {colTooLong : Option Bool} {ddTooLong : Option Addr} {m0TooLong m1TooLong m2TooLong m3TooLong m5TooLong : Option Value}
    {tMOST_LENGTH tMOST_WRITES : Tok}
    {aMODES : Addr} {odMODES : Option Addr} {nMODES : Nat} {slMODES : Array (Option Value)} {tMODES0 tMODES1 tMODES2 : Tok}
    (a1 : PySem.W.nsIn K mainGlobals "between" = some (some (.ref f1)))
    (l1 : K.lookup f1 = some ⟨oc1, od1, .func (PySem.W.fnOf "between" "between" (defArgs sBetw) (defBody sBetw) (defScope sBetw) .none kV1 dc1 pm1 an1 cd1 ct1), sl1⟩)
    (c1 : PySem.W.codeIn K cd1 "between" = true)
    (k1 : PySem.W.keepIn K (.ref f1) = true)
    (a2 : PySem.W.nsIn K mainGlobals "check" = some (some (.ref f2)))
    (l2 : K.lookup f2 = some ⟨oc2, od2, .func (PySem.W.fnOf "check" "check" (defArgs sChk) (defBody sChk) (defScope sChk) .none kV2 dc2 pm2 an2 cd2 ct2), sl2⟩)
    (c2 : PySem.W.codeIn K cd2 "check" = true)
    (k2 : PySem.W.keepIn K (.ref f2) = true)
    (a3 : PySem.W.nsIn K mainGlobals "is_write" = some (some (.ref f3)))
    (l3 : K.lookup f3 = some ⟨oc3, od3, .func (PySem.W.fnOf "is_write" "is_write" (defArgs sIsW) (defBody sIsW) (defScope sIsW) .none kV3 dc3 pm3 an3 cd3 ct3), sl3⟩)
    (c3 : PySem.W.codeIn K cd3 "is_write" = true)
    (k3 : PySem.W.keepIn K (.ref f3) = true)
    (a4 : PySem.W.nsIn K mainGlobals "turns" = some (some (.ref f4)))
    (l4 : K.lookup f4 = some ⟨oc4, od4, .func (PySem.W.fnOf "turns" "turns" (defArgs sTurns) (defBody sTurns) (defScope sTurns) .none kV4 dc4 pm4 an4 cd4 ct4), sl4⟩)
    (c4 : PySem.W.codeIn K cd4 "turns" = true)
    (k4 : PySem.W.keepIn K (.ref f4) = true)
    (a5 : PySem.W.nsIn K mainGlobals "_law_bag" = some (some (.ref f5)))
    (l5 : K.lookup f5 = some ⟨oc5, od5, .func (PySem.W.fnOf "_law_bag" "_law_bag" (defArgs sBag) (defBody sBag) (defScope sBag) .none kV5 dc5 pm5 an5 cd5 ct5), sl5⟩)
    (c5 : PySem.W.codeIn K cd5 "_law_bag" = true)
    (k5 : PySem.W.keepIn K (.ref f5) = true)
    (a6 : PySem.W.nsIn K mainGlobals "_law_take" = some (some (.ref f6)))
    (l6 : K.lookup f6 = some ⟨oc6, od6, .func (PySem.W.fnOf "_law_take" "_law_take" (defArgs sTake) (defBody sTake) (defScope sTake) .none kV6 dc6 pm6 an6 cd6 ct6), sl6⟩)
    (c6 : PySem.W.codeIn K cd6 "_law_take" = true)
    (k6 : PySem.W.keepIn K (.ref f6) = true)
    (a7 : PySem.W.nsIn K mainGlobals "_law_amount" = some (some (.ref f7)))
    (l7 : K.lookup f7 = some ⟨oc7, od7, .func (PySem.W.fnOf "_law_amount" "_law_amount" (defArgs sAmount) (defBody sAmount) (defScope sAmount) .none kV7 dc7 pm7 an7 cd7 ct7), sl7⟩)
    (c7 : PySem.W.codeIn K cd7 "_law_amount" = true)
    (k7 : PySem.W.keepIn K (.ref f7) = true)
    (a8 : PySem.W.nsIn K mainGlobals "_law_writes" = some (some (.ref f8)))
    (l8 : K.lookup f8 = some ⟨oc8, od8, .func (PySem.W.fnOf "_law_writes" "_law_writes" (defArgs sWrites) (defBody sWrites) (defScope sWrites) .none kV8 dc8 pm8 an8 cd8 ct8), sl8⟩)
    (c8 : PySem.W.codeIn K cd8 "_law_writes" = true)
    (k8 : PySem.W.keepIn K (.ref f8) = true)
    (a9 : PySem.W.nsIn K mainGlobals "_law_whole" = some (some (.ref f9)))
    (l9 : K.lookup f9 = some ⟨oc9, od9, .func (PySem.W.fnOf "_law_whole" "_law_whole" (defArgs sWhole) (defBody sWhole) (defScope sWhole) .none kV9 dc9 pm9 an9 cd9 ct9), sl9⟩)
    (c9 : PySem.W.codeIn K cd9 "_law_whole" = true)
    (k9 : PySem.W.keepIn K (.ref f9) = true)
    (a10 : PySem.W.nsIn K mainGlobals "_law_is_write" = some (some (.ref f10)))
    (l10 : K.lookup f10 = some ⟨oc10, od10, .func (PySem.W.fnOf "_law_is_write" "_law_is_write" (defArgs sLisW) (defBody sLisW) (defScope sLisW) .none kV10 dc10 pm10 an10 cd10 ct10), sl10⟩)
    (c10 : PySem.W.codeIn K cd10 "_law_is_write" = true)
    (k10 : PySem.W.keepIn K (.ref f10) = true)
    (a11 : PySem.W.nsIn K mainGlobals "_law_due" = some (some (.ref f11)))
    (l11 : K.lookup f11 = some ⟨oc11, od11, .func (PySem.W.fnOf "_law_due" "_law_due" (defArgs sDue) (defBody sDue) (defScope sDue) .none kV11 dc11 pm11 an11 cd11 ct11), sl11⟩)
    (c11 : PySem.W.codeIn K cd11 "_law_due" = true)
    (k11 : PySem.W.keepIn K (.ref f11) = true)
    (a12 : PySem.W.nsIn K mainGlobals "_law_told" = some (some (.ref f12)))
    (l12 : K.lookup f12 = some ⟨oc12, od12, .func (PySem.W.fnOf "_law_told" "_law_told" (defArgs sTold) (defBody sTold) (defScope sTold) .none kV12 dc12 pm12 an12 cd12 ct12), sl12⟩)
    (c12 : PySem.W.codeIn K cd12 "_law_told" = true)
    (k12 : PySem.W.keepIn K (.ref f12) = true)
    (a13 : PySem.W.nsIn K mainGlobals "_law_odd" = some (some (.ref f13)))
    (l13 : K.lookup f13 = some ⟨oc13, od13, .func (PySem.W.fnOf "_law_odd" "_law_odd" (defArgs sOdd) (defBody sOdd) (defScope sOdd) .none kV13 dc13 pm13 an13 cd13 ct13), sl13⟩)
    (c13 : PySem.W.codeIn K cd13 "_law_odd" = true)
    (k13 : PySem.W.keepIn K (.ref f13) = true)
    (a14 : PySem.W.nsIn K mainGlobals "_law_runs" = some (some (.ref f14)))
    (l14 : K.lookup f14 = some ⟨oc14, od14, .func (PySem.W.fnOf "_law_runs" "_law_runs" (defArgs sRuns) (defBody sRuns) (defScope sRuns) .none kV14 dc14 pm14 an14 cd14 ct14), sl14⟩)
    (c14 : PySem.W.codeIn K cd14 "_law_runs" = true)
    (k14 : PySem.W.keepIn K (.ref f14) = true)
    (a15 : PySem.W.nsIn K mainGlobals "_law_right" = some (some (.ref f15)))
    (l15 : K.lookup f15 = some ⟨oc15, od15, .func (PySem.W.fnOf "_law_right" "_law_right" (defArgs sRight) (defBody sRight) (defScope sRight) .none kV15 dc15 pm15 an15 cd15 ct15), sl15⟩)
    (c15 : PySem.W.codeIn K cd15 "_law_right" = true)
    (k15 : PySem.W.keepIn K (.ref f15) = true)
    (a16 : PySem.W.nsIn K mainGlobals "law" = some (some (.ref f16)))
    (l16 : K.lookup f16 = some ⟨oc16, od16, .func (PySem.W.fnOf "law" "law" (defArgs sLaw) (defBody sLaw) (defScope sLaw) .none kV16 dc16 pm16 an16 cd16 ct16), sl16⟩)
    (c16 : PySem.W.codeIn K cd16 "law" = true)
    (k16 : PySem.W.keepIn K (.ref f16) = true)
    (a17 : PySem.W.nsIn K mainGlobals "is_integer" = some (some (.ref f17)))
    (l17 : K.lookup f17 = some ⟨oc17, od17, .func (PySem.W.fnOf "is_integer" "is_integer" (defArgs sIsInt) (defBody sIsInt) (defScope sIsInt) .none kV17 dc17 pm17 an17 cd17 ct17), sl17⟩)
    (c17 : PySem.W.codeIn K cd17 "is_integer" = true)
    (k17 : PySem.W.keepIn K (.ref f17) = true)
    (gBadWrite : PySem.W.nsIn K mainGlobals "BadWrite" = some (some (.ref CBadWrite)))
    (aBadWrite : PySem.W.findIn K (.ref CBadWrite) "__init__" = some (some (.ref fBadWrite)))
    (lBadWrite : K.lookup fBadWrite = some ⟨ocBadWrite, odBadWrite, .func (PySem.W.fnOf "__init__" "BadWrite.__init__" (defArgs sIniW) (defBody sIniW) (defScope sIniW) .none kVBadWrite dcBadWrite pmBadWrite anBadWrite cdBadWrite ctBadWrite), slBadWrite⟩)
    (cBadWrite : PySem.W.codeIn K cdBadWrite "BadWrite.__init__" = true)
    (kBadWrite : PySem.W.keepIn K (.ref fBadWrite) = true)
    (xBadWrite : K.lookup CBadWrite = some (excClassObj nmBadWrite qBadWrite CBadWrite NBadWrite bsBadWrite [.ref EBadWrite, .type "ValueError", .type "Exception", .type "BaseException", .type "object"] true snBadWrite subBadWrite abBadWrite colBadWrite ddBadWrite m0BadWrite m1BadWrite m2BadWrite m3BadWrite m5BadWrite "ValueError.__new__"))
    (sBadWrite : PySem.W.findIn K (.ref CBadWrite) "__setattr__" = some (some (.builtin "object.__setattr__")))
    (eBadWrite : PySem.W.subIn K (.ref CBadWrite) (.type "BaseException") = some true)
    (yBadWrite : PySem.W.typeIn K (.ref CBadWrite) = some (.type "type"))
    (pBadWrite : PySem.W.keepIn K (.ref CBadWrite) = true)
    (tBadWrite : PySem.W.typeIn K (.ref fBadWrite) = some (.type "function"))
    (nBadWrite : PySem.W.findIn K (.ref CBadWrite) "index" = some none)
    (hBadWrite : PySem.W.hasDictIn K CBadWrite = true)
    (gBadOrder : PySem.W.nsIn K mainGlobals "BadOrder" = some (some (.ref CBadOrder)))
    (aBadOrder : PySem.W.findIn K (.ref CBadOrder) "__init__" = some (some (.ref fBadOrder)))
    (lBadOrder : K.lookup fBadOrder = some ⟨ocBadOrder, odBadOrder, .func (PySem.W.fnOf "__init__" "BadOrder.__init__" (defArgs sIniO) (defBody sIniO) (defScope sIniO) .none kVBadOrder dcBadOrder pmBadOrder anBadOrder cdBadOrder ctBadOrder), slBadOrder⟩)
    (cBadOrder : PySem.W.codeIn K cdBadOrder "BadOrder.__init__" = true)
    (kBadOrder : PySem.W.keepIn K (.ref fBadOrder) = true)
    (xBadOrder : K.lookup CBadOrder = some (excClassObj nmBadOrder qBadOrder CBadOrder NBadOrder bsBadOrder [.ref EBadOrder, .type "ValueError", .type "Exception", .type "BaseException", .type "object"] true snBadOrder subBadOrder abBadOrder colBadOrder ddBadOrder m0BadOrder m1BadOrder m2BadOrder m3BadOrder m5BadOrder "ValueError.__new__"))
    (sBadOrder : PySem.W.findIn K (.ref CBadOrder) "__setattr__" = some (some (.builtin "object.__setattr__")))
    (eBadOrder : PySem.W.subIn K (.ref CBadOrder) (.type "BaseException") = some true)
    (yBadOrder : PySem.W.typeIn K (.ref CBadOrder) = some (.type "type"))
    (pBadOrder : PySem.W.keepIn K (.ref CBadOrder) = true)
    (tBadOrder : PySem.W.typeIn K (.ref fBadOrder) = some (.type "function"))
    (nBadOrder : PySem.W.findIn K (.ref CBadOrder) "index" = some none)
    (hBadOrder : PySem.W.hasDictIn K CBadOrder = true)
    (gTooLong : PySem.W.nsIn K mainGlobals "TooLong" = some (some (.ref CTooLong)))
    (aTooLong : PySem.W.findIn K (.ref CTooLong) "__init__" = some (some (.ref fTooLong)))
    (lTooLong : K.lookup fTooLong = some ⟨ocTooLong, odTooLong, .func (PySem.W.fnOf "__init__" "TooLong.__init__" (defArgs sIniT) (defBody sIniT) (defScope sIniT) .none kVTooLong dcTooLong pmTooLong anTooLong cdTooLong ctTooLong), slTooLong⟩)
    (cTooLong : PySem.W.codeIn K cdTooLong "TooLong.__init__" = true)
    (kTooLong : PySem.W.keepIn K (.ref fTooLong) = true)
    (xTooLong : K.lookup CTooLong = some (excClassObj nmTooLong qTooLong CTooLong NTooLong bsTooLong [.ref ETooLong, .type "ValueError", .type "Exception", .type "BaseException", .type "object"] true snTooLong subTooLong abTooLong colTooLong ddTooLong m0TooLong m1TooLong m2TooLong m3TooLong m5TooLong "ValueError.__new__"))
    (sTooLong : PySem.W.findIn K (.ref CTooLong) "__setattr__" = some (some (.builtin "object.__setattr__")))
    (eTooLong : PySem.W.subIn K (.ref CTooLong) (.type "BaseException") = some true)
    (yTooLong : PySem.W.typeIn K (.ref CTooLong) = some (.type "type"))
    (pTooLong : PySem.W.keepIn K (.ref CTooLong) = true)
    (tTooLong : PySem.W.typeIn K (.ref fTooLong) = some (.type "function"))
    (nTooLong : PySem.W.findIn K (.ref CTooLong) "many" = some none)
    (hTooLong : PySem.W.hasDictIn K CTooLong = true)
    (qBadWriteBadWrite : PySem.W.subIn K (.ref CBadWrite) (.ref CBadWrite) = some true)
    (qBadWriteBadOrder : PySem.W.subIn K (.ref CBadWrite) (.ref CBadOrder) = some false)
    (qBadWriteTooLong : PySem.W.subIn K (.ref CBadWrite) (.ref CTooLong) = some false)
    (qgL : PySem.W.nsIn K mainGlobals "LatewordsError" = some (some (.ref CL)))
    (qkv : PySem.W.kitOne K (.ref CBadWrite) (.type "ValueError") = some true)
    (qkl : PySem.W.kitOne K (.ref CBadWrite) (.ref CL) = some true)
    (qha : PySem.W.findIn K (.ref CBadWrite) "__class__" = some (some (.builtin "object.__class__")))
    (qhn : PySem.W.specialIn K (.builtin "object.__class__") "__get__" = some (some (.builtin "getset_descriptor.__get__")))
    (qht : PySem.W.takesIn K (.builtin "object.__class__") = some true)
    (qhm : PySem.W.mroIn K CBadWrite (.type "object") = some true)
    (waBadWrite : PySem.W.findIn K (.ref CBadWrite) "__getattribute__" = some (some (.builtin "BaseException.__getattribute__")))
    (wgBadWrite : PySem.W.findIn K (.ref CBadWrite) "__getattr__" = some none)
    (zisinstance : PySem.W.nsIn K mainGlobals "isinstance" = some none)
    (zint : PySem.W.nsIn K mainGlobals "int" = some none)
    (zbool : PySem.W.nsIn K mainGlobals "bool" = some none)
    (ztuple : PySem.W.nsIn K mainGlobals "tuple" = some none)
    (zlist : PySem.W.nsIn K mainGlobals "list" = some none)
    (zlen : PySem.W.nsIn K mainGlobals "len" = some none)
    (zenumerate : PySem.W.nsIn K mainGlobals "enumerate" = some none)
    (zrange : PySem.W.nsIn K mainGlobals "range" = some none)
    (zabs : PySem.W.nsIn K mainGlobals "abs" = some none)
    (zstr : PySem.W.nsIn K mainGlobals "str" = some none)
    (zrepr : PySem.W.nsIn K mainGlobals "repr" = some none)
    (zmax : PySem.W.nsIn K mainGlobals "max" = some none)
    (zmin : PySem.W.nsIn K mainGlobals "min" = some none)
    (zall : PySem.W.nsIn K mainGlobals "all" = some none)
    (zValueError : PySem.W.nsIn K mainGlobals "ValueError" = some none)
    (iMOST_LENGTH : PySem.W.nsIn K mainGlobals "MOST_LENGTH" = some (some (.int 1000000000000000000 tMOST_LENGTH)))
    (iMOST_WRITES : PySem.W.nsIn K mainGlobals "MOST_WRITES" = some (some (.int 200 tMOST_WRITES)))
    (uMODES : PySem.W.nsIn K mainGlobals "MODES" = some (some (.ref aMODES)))
    (vMODES : K.lookup aMODES = some ⟨.type "tuple", odMODES, .seq #[.str "plain" tMODES0, .str "push" tMODES1, .str "more" tMODES2] nMODES, slMODES⟩) :
    ∃ fd : FuncData, (∀ (s : Shared) (v : Value), BindsTo s fd ⟨[v], []⟩ [("_law_script", v)]) ∧ ∀ base : Heap, K.In base → base.Ns mainGlobals mg → FnG P w K mg base 7 fa fd ["_law_script"] (spLaw K) := by
  have ef := hfa.symm.trans (PySem.W.mg_of X G a16)
  cases ef
  have F1 := fun_mk (st := sBetw) l1 c1 k1
  have b1 := F1.binds (ps := ["value", "low", "high"]) fun _ _ _ _ _ _ us hl => match us, hl with | [_, _, _], _ => rfl
  have g1 := PySem.W.mg_of X G a1
  have F2 := fun_mk (st := sChk) l2 c2 k2
  have b2 := F2.binds (ps := ["conversation"]) fun _ _ _ _ _ _ us hl => match us, hl with | [_], _ => rfl
  have g2 := PySem.W.mg_of X G a2
  have F3 := fun_mk (st := sIsW) l3 c3 k3
  have b3 := F3.binds (ps := ["value"]) fun _ _ _ _ _ _ us hl => match us, hl with | [_], _ => rfl
  have g3 := PySem.W.mg_of X G a3
  have F4 := fun_mk (st := sTurns) l4 c4 k4
  have b4 := F4.binds (ps := ["conversation"]) fun _ _ _ _ _ _ us hl => match us, hl with | [_], _ => rfl
  have g4 := PySem.W.mg_of X G a4
  have F5 := fun_mk (st := sBag) l5 c5 k5
  have b5 := F5.binds (ps := ["_law_script", "_law_at"]) fun _ _ _ _ _ _ us hl => match us, hl with | [_, _], _ => rfl
  have g5 := PySem.W.mg_of X G a5
  have F6 := fun_mk (st := sTake) l6 c6 k6
  have b6 := F6.binds (ps := ["_law_bag_here", "_law_many"]) fun _ _ _ _ _ _ us hl => match us, hl with | [_, _], _ => rfl
  have g6 := PySem.W.mg_of X G a6
  have F7 := fun_mk (st := sAmount) l7 c7 k7
  have b7 := F7.binds (ps := ["_law_bag_here", "_law_width"]) fun _ _ _ _ _ _ us hl => match us, hl with | [_, _], _ => rfl
  have g7 := PySem.W.mg_of X G a7
  have F8 := fun_mk (st := sWrites) l8 c8 k8
  have b8 := F8.binds (ps := ["_law_bag_here", "_law_width", "_law_many"]) fun _ _ _ _ _ _ us hl => match us, hl with | [_, _, _], _ => rfl
  have g8 := PySem.W.mg_of X G a8
  have F9 := fun_mk (st := sWhole) l9 c9 k9
  have b9 := F9.binds (ps := ["_law_value"]) fun _ _ _ _ _ _ us hl => match us, hl with | [_], _ => rfl
  have g9 := PySem.W.mg_of X G a9
  have F10 := fun_mk (st := sLisW) l10 c10 k10
  have b10 := F10.binds (ps := ["_law_value"]) fun _ _ _ _ _ _ us hl => match us, hl with | [_], _ => rfl
  have g10 := PySem.W.mg_of X G a10
  have F11 := fun_mk (st := sDue) l11 c11 k11
  have b11 := F11.binds (ps := ["_law_value"]) fun _ _ _ _ _ _ us hl => match us, hl with | [_], _ => rfl
  have g11 := PySem.W.mg_of X G a11
  have F12 := fun_mk (st := sTold) l12 c12 k12
  have b12 := F12.binds (ps := ["_law_value", "_law_way"]) fun _ _ _ _ _ _ us hl => match us, hl with | [_, _], _ => rfl
  have g12 := PySem.W.mg_of X G a12
  have F13 := fun_mk (st := sOdd) l13 c13 k13
  have b13 := F13.binds (ps := ["_law_bag_here", "_law_good"]) fun _ _ _ _ _ _ us hl => match us, hl with | [_, _], _ => rfl
  have g13 := PySem.W.mg_of X G a13
  have F14 := fun_mk (st := sRuns) l14 c14 k14
  have b14 := F14.binds (ps := ["_law_some"]) fun _ _ _ _ _ _ us hl => match us, hl with | [_], _ => rfl
  have g14 := PySem.W.mg_of X G a14
  have F15 := fun_mk (st := sRight) l15 c15 k15
  have b15 := F15.binds (ps := ["_law_value"]) fun _ _ _ _ _ _ us hl => match us, hl with | [_], _ => rfl
  have g15 := PySem.W.mg_of X G a15
  have F16 := fun_mk (st := sLaw) l16 c16 k16
  have b16 := F16.binds (ps := ["_law_script"]) fun _ _ _ _ _ _ us hl => match us, hl with | [_], _ => rfl
  have g16 := PySem.W.mg_of X G a16
  have F17 := fun_mk (st := sIsInt) l17 c17 k17
  have b17 := F17.binds (ps := ["value"]) fun _ _ _ _ _ _ us hl => match us, hl with | [_], _ => rfl
  have g17 := PySem.W.mg_of X G a17
  have FBadWrite := fun_mk (st := sIniW) lBadWrite cBadWrite kBadWrite
  have bBadWrite := FBadWrite.binds (ps := ["self", "index"]) fun _ _ _ _ _ _ us hl => match us, hl with | [_, _], _ => rfl
  have OBadWrite : OexC K CBadWrite := ⟨⟨nmBadWrite, qBadWrite, NBadWrite, bsBadWrite, _, snBadWrite, subBadWrite, abBadWrite, colBadWrite, ddBadWrite, m0BadWrite, m1BadWrite, m2BadWrite, m3BadWrite, m5BadWrite, xBadWrite, by first | rfl | decide +kernel⟩, sBadWrite, eBadWrite, yBadWrite, pBadWrite⟩
  have FBadOrder := fun_mk (st := sIniO) lBadOrder cBadOrder kBadOrder
  have bBadOrder := FBadOrder.binds (ps := ["self", "index"]) fun _ _ _ _ _ _ us hl => match us, hl with | [_, _], _ => rfl
  have OBadOrder : OexC K CBadOrder := ⟨⟨nmBadOrder, qBadOrder, NBadOrder, bsBadOrder, _, snBadOrder, subBadOrder, abBadOrder, colBadOrder, ddBadOrder, m0BadOrder, m1BadOrder, m2BadOrder, m3BadOrder, m5BadOrder, xBadOrder, by first | rfl | decide +kernel⟩, sBadOrder, eBadOrder, yBadOrder, pBadOrder⟩
  have FTooLong := fun_mk (st := sIniT) lTooLong cTooLong kTooLong
  have bTooLong := FTooLong.binds (ps := ["self", "many"]) fun _ _ _ _ _ _ us hl => match us, hl with | [_, _], _ => rfl
  have OTooLong : OexC K CTooLong := ⟨⟨nmTooLong, qTooLong, NTooLong, bsTooLong, _, snTooLong, subTooLong, abTooLong, colTooLong, ddTooLong, m0TooLong, m1TooLong, m2TooLong, m3TooLong, m5TooLong, xTooLong, by first | rfl | decide +kernel⟩, sTooLong, eTooLong, yTooLong, pTooLong⟩
  have T : Txt K mg := { isi := PySem.W.mg_none_of X G zisinstance, isint := ⟨_, _, F17, b17, g17⟩, int := PySem.W.mg_none_of X G zint, bool := PySem.W.mg_none_of X G zbool, tuple := PySem.W.mg_none_of X G ztuple, list := PySem.W.mg_none_of X G zlist, len := PySem.W.mg_none_of X G zlen, enumerate := PySem.W.mg_none_of X G zenumerate, range := PySem.W.mg_none_of X G zrange, mlen := ⟨_, PySem.W.mg_of X G iMOST_LENGTH⟩, modes := ⟨_, PySem.W.mg_of X G uMODES, fun H => Or.inr ⟨_, _, _, vMODES, rfl, rfl, by show 3 ≤ sizeLine; decide, .cons ⟨_, rfl⟩ (.cons ⟨_, rfl⟩ (.cons ⟨_, rfl⟩ .nil))⟩⟩ }
  have gW := PySem.W.mg_of X G gBadWrite
  have gO := PySem.W.mg_of X G gBadOrder
  have gT := PySem.W.mg_of X G gTooLong
  have gL := PySem.W.mg_of X G qgL
  have hS := PySem.W.mg_none_of X G zstr
  have EX : Exm K CBadWrite CBadOrder CTooLong CL := ⟨exm_ref' eBadWrite hBadWrite yBadWrite qBadWriteBadWrite, exm_ref' eBadOrder hBadOrder yBadOrder qBadWriteBadOrder, exm_ref' eTooLong hTooLong yTooLong qBadWriteTooLong, ⟨waBadWrite, wgBadWrite, eBadWrite, hBadWrite⟩, ⟨waBadWrite, wgBadWrite, eBadWrite, hBadWrite, qha, qhn, qht, qhm⟩, qkv, qkl⟩
  refine ⟨PySem.W.fnOf "law" "law" (defArgs sLaw) (defBody sLaw) (defScope sLaw) .none kV16 dc16 pm16 an16 cd16 ct16, fun s v => .of_eq rfl, fun base _ _ => ?_⟩
  have TW : ErC P w K mg base "BadWrite" "index" CBadWrite fBadWrite _ := ⟨OBadWrite, gW, aBadWrite, tBadWrite, nBadWrite, ok_iniW FBadWrite, bBadWrite⟩
  have G3 : FnOk P w K mg base CX0 2 f3 _ ["value"] (spIsW K) := ok_isW F3 T F1 b1 g1
  have G2 : FnOk P w K mg base (L2.CX P w) 3 f2 _ ["conversation"] (spChk K CBadWrite) := ok_chk F2 T ⟨_, PySem.W.mg_of X G iMOST_WRITES⟩ TW F3 b3 g3 G3
  have G4 : FnOk P w K mg base (L2.CX P w) 4 f4 _ ["conversation"] (spTurns K CBadWrite) := ok_turns F4 T F2 b2 g2 G2
  have G5 : FnOk P w K mg base CX0 1 f5 _ ["_law_script", "_law_at"] (spBag K) := ok_bag F5 T (PySem.W.mg_none_of X G zabs)
  have G6 : FnOk P w K mg base CX0 1 f6 _ ["_law_bag_here", "_law_many"] spTake := ok_take F6 T
  have G8 : FnOk P w K mg base CX0 3 f8 _ ["_law_bag_here", "_law_width", "_law_many"] (spWrites K) := ok_writes F8 T F6 b6 g6 F7 b7 g7
  have G10 : FnOk P w K mg base CX0 2 f10 _ ["_law_value"] (spIsW K) := ok_lisW F10 T hS F9 b9 g9
  have G11 : FnOk P w K mg base CX0 3 f11 _ ["_law_value"] (spDue K) := ok_due F11 T F10 b10 g10 G10
  have G12 : FnOk P w K mg base CX0 5 f12 _ ["_law_value", "_law_way"] (spTold K) := ok_told F12 T EX gO gT gL (PySem.W.mg_none_of X G zValueError) TW F2 b2 g2 G2 F4 b4 g4 G4
  have G13 : FnOk P w K mg base CX0 2 f13 _ ["_law_bag_here", "_law_good"] (spOdd K) := ok_odd F13 hS F6 b6 g6 G6
  have G15 : FnG P w K mg base 6 f15 _ ["_law_value"] (spRight K) := ok_right F15 T (PySem.W.mg_none_of X G zrepr) F11 b11 g11 G11 F12 b12 g12 G12 F14 b14 g14
  exact ok_law F16 T (PySem.W.mg_none_of X G zmax) (PySem.W.mg_none_of X G zmin) (PySem.W.mg_none_of X G zall) F5 b5 g5 G5 F6 b6 g6 G6 F8 b8 g8 G8 F15 b15 g15 G15 F13 b13 g13 G13 F2 b2 g2 G2 F4 b4 g4 G4
def walk := @walkG
end Lw
open PySem PySem.W PyProof.Rows
set_option maxRecDepth 100000 in
set_option maxHeartbeats 0 in
theorem PySem.Challenge.cw_latewords_k04_conversations_and_turns_holds : PySem.Challenge.rw_latewords_k04_conversations_and_turns.Holds := by
  w_on; o_law; k_head; (case hw => w_witness2)
  k_fill
  refine L3.walkG (l := PySem.Challenge.rw_latewords_k04_conversations_and_turns) (n := 63) (k := 7) (x := "_law_script") (sp := fun w => Lw.spLaw _) rfl (by decide) rfl ⟨rfl, by decide, by decide⟩ (fun w h Y => PySem.W.kIn_of Y) ?F (fun _ _ a ns hl _ hS => ⟨a, ns, rfl, hS, hl, fun _ => rfl⟩)
  case F =>
    intro w mg fa h KX G hmg
    refine' Lw.all_mk KX G hmg ?a1 ?l1 ?c1 ?k1 ?a2 ?l2 ?c2 ?k2 ?a3 ?l3 ?c3 ?k3 ?a4 ?l4 ?c4 ?k4 ?a5 ?l5 ?c5 ?k5 ?a6 ?l6 ?c6 ?k6 ?a7 ?l7 ?c7 ?k7 ?a8 ?l8 ?c8 ?k8 ?a9 ?l9 ?c9 ?k9 ?a10 ?l10 ?c10 ?k10 ?a11 ?l11 ?c11 ?k11 ?a12 ?l12 ?c12 ?k12 ?a13 ?l13 ?c13 ?k13 ?a14 ?l14 ?c14 ?k14 ?a15 ?l15 ?c15 ?k15 ?a16 ?l16 ?c16 ?k16 ?a17 ?l17 ?c17 ?k17 ?gBadWrite ?aBadWrite ?lBadWrite ?cBadWrite ?kBadWrite ?xBadWrite ?sBadWrite ?eBadWrite ?yBadWrite ?pBadWrite ?tBadWrite ?nBadWrite ?hBadWrite ?gBadOrder ?aBadOrder ?lBadOrder ?cBadOrder ?kBadOrder ?xBadOrder ?sBadOrder ?eBadOrder ?yBadOrder ?pBadOrder ?tBadOrder ?nBadOrder ?hBadOrder ?gTooLong ?aTooLong ?lTooLong ?cTooLong ?kTooLong ?xTooLong ?sTooLong ?eTooLong ?yTooLong ?pTooLong ?tTooLong ?nTooLong ?hTooLong ?qBadWriteBadWrite ?qBadWriteBadOrder ?qBadWriteTooLong ?qgL ?qkv ?qkl ?qha ?qhn ?qht ?qhm ?waBadWrite ?wgBadWrite ?zisinstance ?zint ?zbool ?ztuple ?zlist ?zlen ?zenumerate ?zrange ?zabs ?zstr ?zrepr ?zmax ?zmin ?zall ?zValueError ?iMOST_LENGTH ?iMOST_WRITES ?uMODES ?vMODES
    (case a1 => k_is)
    (case l1 => k_is)
    (case c1 => k_is)
    (case k1 => k_is)
    (case a2 => k_is)
    (case l2 => k_is)
    (case c2 => k_is)
    (case k2 => k_is)
    (case a3 => k_is)
    (case l3 => k_is)
    (case c3 => k_is)
    (case k3 => k_is)
    (case a4 => k_is)
    (case l4 => k_is)
    (case c4 => k_is)
    (case k4 => k_is)
    (case a5 => k_is)
    (case l5 => k_is)
    (case c5 => k_is)
    (case k5 => k_is)
    (case a6 => k_is)
    (case l6 => k_is)
    (case c6 => k_is)
    (case k6 => k_is)
    (case a7 => k_is)
    (case l7 => k_is)
    (case c7 => k_is)
    (case k7 => k_is)
    (case a8 => k_is)
    (case l8 => k_is)
    (case c8 => k_is)
    (case k8 => k_is)
    (case a9 => k_is)
    (case l9 => k_is)
    (case c9 => k_is)
    (case k9 => k_is)
    (case a10 => k_is)
    (case l10 => k_is)
    (case c10 => k_is)
    (case k10 => k_is)
    (case a11 => k_is)
    (case l11 => k_is)
    (case c11 => k_is)
    (case k11 => k_is)
    (case a12 => k_is)
    (case l12 => k_is)
    (case c12 => k_is)
    (case k12 => k_is)
    (case a13 => k_is)
    (case l13 => k_is)
    (case c13 => k_is)
    (case k13 => k_is)
    (case a14 => k_is)
    (case l14 => k_is)
    (case c14 => k_is)
    (case k14 => k_is)
    (case a15 => k_is)
    (case l15 => k_is)
    (case c15 => k_is)
    (case k15 => k_is)
    (case a16 => k_is)
    (case l16 => k_is)
    (case c16 => k_is)
    (case k16 => k_is)
    (case a17 => k_is)
    (case l17 => k_is)
    (case c17 => k_is)
    (case k17 => k_is)
    (case gBadWrite => k_is)
    (case aBadWrite => k_is)
    (case lBadWrite => k_is)
    (case cBadWrite => k_is)
    (case kBadWrite => k_is)
    (case xBadWrite => k_is)
    (case sBadWrite => k_is)
    (case eBadWrite => k_is)
    (case yBadWrite => k_is)
    (case pBadWrite => k_is)
    (case tBadWrite => k_is)
    (case nBadWrite => k_is)
    (case hBadWrite => k_is)
    (case gBadOrder => k_is)
    (case aBadOrder => k_is)
    (case lBadOrder => k_is)
    (case cBadOrder => k_is)
    (case kBadOrder => k_is)
    (case xBadOrder => k_is)
    (case sBadOrder => k_is)
    (case eBadOrder => k_is)
    (case yBadOrder => k_is)
    (case pBadOrder => k_is)
    (case tBadOrder => k_is)
    (case nBadOrder => k_is)
    (case hBadOrder => k_is)
    (case gTooLong => k_is)
    (case aTooLong => k_is)
    (case lTooLong => k_is)
    (case cTooLong => k_is)
    (case kTooLong => k_is)
    (case xTooLong => k_is)
    (case sTooLong => k_is)
    (case eTooLong => k_is)
    (case yTooLong => k_is)
    (case pTooLong => k_is)
    (case tTooLong => k_is)
    (case nTooLong => k_is)
    (case hTooLong => k_is)
    (case qBadWriteBadWrite => first | rfl | k_is | decide +kernel | exact ⟨by decide +kernel, by decide +kernel⟩)
    (case qBadWriteBadOrder => first | rfl | k_is | decide +kernel | exact ⟨by decide +kernel, by decide +kernel⟩)
    (case qBadWriteTooLong => first | rfl | k_is | decide +kernel | exact ⟨by decide +kernel, by decide +kernel⟩)
    (case qgL => first | rfl | k_is | decide +kernel | exact ⟨by decide +kernel, by decide +kernel⟩)
    (case qkv => first | rfl | k_is | decide +kernel | exact ⟨by decide +kernel, by decide +kernel⟩)
    (case qkl => first | rfl | k_is | decide +kernel | exact ⟨by decide +kernel, by decide +kernel⟩)
    (case qha => first | rfl | k_is | decide +kernel | exact ⟨by decide +kernel, by decide +kernel⟩)
    (case qhn => first | rfl | k_is | decide +kernel | exact ⟨by decide +kernel, by decide +kernel⟩)
    (case qht => first | rfl | k_is | decide +kernel | exact ⟨by decide +kernel, by decide +kernel⟩)
    (case qhm => first | rfl | k_is | decide +kernel | exact ⟨by decide +kernel, by decide +kernel⟩)
    (case waBadWrite => k_is)
    (case wgBadWrite => k_is)
    (case zisinstance => k_is)
    (case zint => k_is)
    (case zbool => k_is)
    (case ztuple => k_is)
    (case zlist => k_is)
    (case zlen => k_is)
    (case zenumerate => k_is)
    (case zrange => k_is)
    (case zabs => k_is)
    (case zstr => k_is)
    (case zrepr => k_is)
    (case zmax => k_is)
    (case zmin => k_is)
    (case zall => k_is)
    (case zValueError => k_is)
    (case iMOST_LENGTH => k_is)
    (case iMOST_WRITES => k_is)
    (case uMODES => k_is)
    (case vMODES => k_is)
#print axioms PySem.Challenge.cw_latewords_k04_conversations_and_turns_holds
