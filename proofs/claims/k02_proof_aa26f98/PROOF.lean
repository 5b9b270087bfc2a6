import PyProof.Rows.All
import Wide.All
import OpenK.AllK
import Wide.FinOn
import HandS.ForMost
import HandS.IsInst
import HandS.Wide
import HandS.ReplaceLit
import HandS.ReplaceList
import HandS.TupLe
import HandS.Walk
import HandS.EndBits
import KE.DataCmp
import KE.SortData
import HandS.Zip
import PySem.Challenge.RW_blackbars_k02_order_of_words_and_logs
set_option Elab.async false
set_option linter.all false
set_option maxRecDepth 100000
/-! own rules that no program is named in: great ints, repr of data, a text put ahead of a replaced one -/
namespace Bb
open PySem PySem.Spec PyProof.Rows L2

/-! ### great ints -/
def MulB (i j : Int) : Prop := ∃ a b : Nat, i.natAbs < 2 ^ a ∧ j.natAbs < 2 ^ b ∧ 0 < a ∧ 0 < b ∧ a + b ≤ 100000000
theorem MulB.ok {i j : Int} (h : MulB i j) : IntMulOk i j := by
  obtain ⟨a, b, ha, hb, h0, h1, h⟩ := h
  have x := intBits_le ha
  have y := intBits_le hb
  have e : bitsLine = 134217728 := by decide
  unfold IntMulOk
  intro z
  rw [Bool.and_eq_true] at z
  have z2 := z.2
  unfold Builtin.Int.intTooBig at z2
  have z3 := of_decide_eq_true z2
  rw [e] at z3
  omega
def PowB (i j : Int) : Prop := j = 2 ∧ ∃ a : Nat, i.natAbs < 2 ^ a ∧ a ≤ 50000000
section
variable {X : Cx}
theorem op_mulB : OpR X (binaryOp .Mult) (rI MulB fun i j => .int (i * j)) := opI fun _ _ _ _ _ _ _ hc q => mul_int q hc.ok
theorem op_sqB : OpR X (binaryOp .Pow) (rI PowB fun i j => .int (i ^ j.toNat)) := opI fun i j _ _ _ _ _ hc q => by
  obtain ⟨rfl, a, ha, hb⟩ := hc
  have x := intBits_le ha
  exact pow_int (by decide) (by omega) q
end

/-! ### data of the abstract heap, the empty dict among them -/
mutual
inductive Dq (H : Hp) : V → PyData → Prop
  | non : Dq H .non .none
  | bl (b : Bool) : Dq H (.bl b) (.bool b)
  | int (i : Int) : Dq H (.int i) (.int i)
  | str (x : Str) : Dq H (.str x) (.str x)
  | lst {a : Addr} {xs : List V} {ds : List PyData} : H a = some (.lst xs) → DqAll H xs ds → Dq H (.ref a) (.list ds)
  | tup {a : Addr} {xs : List V} {ds : List PyData} : H a = some (.tup xs) → DqAll H xs ds → Dq H (.ref a) (.tuple ds)
  | dic {a : Addr} : H a = some (.dK []) → Dq H (.ref a) (.dict [])
inductive DqAll (H : Hp) : List V → List PyData → Prop
  | nil : DqAll H [] []
  | cons {v : V} {vs : List V} {d : PyData} {ds : List PyData} : Dq H v d → DqAll H vs ds → DqAll H (v :: vs) (d :: ds)
end
section
variable {X : Cx} {pins : List (Addr × Obj)} {σ : L2.St} {H : Hp} {s : Shared}
theorem dict_nil {a : Addr} (I : Inv X pins σ H s) (e : H a = some (.dK [])) : ∃ (o : Obj) (es : Array DictEntry) (n : Nat), s.heap.get? a = some o ∧ o.cls = .type "dict" ∧ o.data = .dict es n ∧ es.toList = [] ∧ (a == sysModules) = false := by
  obtain ⟨_, hn, vs, kv, o, es, ep, h1, h2, h3, h4, h5, _⟩ := (show ObjOk X.prog X.w H s.heap a (.dK []) from I.hok a _ e)
  cases kv
  have hz : es.toList = [] := by
    cases hq : es.toList with
    | nil => rfl
    | cons x r =>
      rw [hq] at h5
      cases h5
  exact ⟨o, es, ep, h1, h2.1, h3, hz, hn⟩
mutual
theorem Dq.reads (I : Inv X pins σ H s) : ∀ (d : PyData) (v : V) (u : Value), Dq H v d → RelV v u → ∃ as, Reads s.heap u d as
  | .none, _, _, h, r => by
    cases h
    cases r
    exact ⟨_, Reads.none⟩
  | .bool b, _, _, h, r => by
    cases h
    cases r
    exact ⟨_, Reads.bool b⟩
  | .int i, _, _, h, r => by
    cases h
    obtain ⟨t, rfl⟩ := r
    exact ⟨_, Reads.int i t⟩
  | .str x, _, _, h, r => by
    cases h
    obtain ⟨t, rfl⟩ := r
    exact ⟨_, Reads.str x t⟩
  | .list ds, _, _, h, r => by
    cases h with
    | lst hs ha =>
      cases r
      obtain ⟨its, rv, ⟨o, n, ho, hc, _, hd⟩, _⟩ := I.list (.inl (.inl hs))
      obtain ⟨as, hr⟩ := Dq.readsAll I ds _ its ha rv
      exact ⟨_, Reads.list ho hc hd hr⟩
  | .tuple ds, _, _, h, r => by
    cases h with
    | tup hs ha =>
      cases r
      obtain ⟨its, rv, ⟨o, ho, hc, n, hd⟩, _⟩ := I.tuple (.inl (.inl hs))
      obtain ⟨as, hr⟩ := Dq.readsAll I ds _ its ha rv
      exact ⟨_, Reads.tuple ho hc hd hr⟩
  | .dict kvs, _, _, h, r => by
    cases h with
    | dic e =>
      cases r
      obtain ⟨o, es, n, h1, h2, h3, hz, _⟩ := dict_nil I e
      refine ⟨_, Reads.dict h1 h2 h3 (as := []) (bs := []) ?_ ?_⟩
      · rw [hz]
        exact ReadsAll.nil
      · rw [hz]
        exact ReadsAll.nil
theorem Dq.readsAll (I : Inv X pins σ H s) : ∀ (ds : List PyData) (vs : List V) (us : List Value), DqAll H vs ds → Vals vs us → ∃ as, ReadsAll s.heap us ds as
  | [], _, _, h, r => by
    cases h
    cases r
    exact ⟨_, ReadsAll.nil⟩
  | d :: ds, _, _, h, r => by
    cases h with
    | cons h1 h2 =>
      cases r with
      | cons r1 r2 =>
        obtain ⟨as, q1⟩ := Dq.reads I d _ _ h1 r1
        obtain ⟨bs, q2⟩ := Dq.readsAll I ds _ _ h2 r2
        exact ⟨_, ReadsAll.cons q1 q2⟩
end
theorem dictText_none : dictText [] = ("{}" : Str) := by decide +kernel
mutual
/-- what repr makes of data within other data -/
theorem Dq.reprK (I : Inv X pins σ H s) : ∀ (d : PyData) (v : V) (u : Value), Dq H v d → RelV v u → d.showable = true → d.shown.length ≤ sizeLine → ∃ bs, ReadAtMost s.heap d.depth bs ∧ ReprK X.prog X.w bs s.heap d.depth u d.shown
  | .none, _, _, h, r, _, _ => by
    cases h
    cases r
    refine ⟨[], (fun _ q => nomatch q), ?_⟩
    rw [PyData.shown]
    exact .of_is ReprIs.none _ _ _
  | .bool b, _, _, h, r, _, _ => by
    cases h
    cases r
    refine ⟨[], (fun _ q => nomatch q), ?_⟩
    rw [PyData.shown]
    exact .of_is (ReprIs.bool b) _ _ _
  | .int i, _, _, h, r, hs, _ => by
    cases h
    obtain ⟨t, rfl⟩ := r
    refine ⟨[], (fun _ q => nomatch q), ?_⟩
    rw [PyData.shown]
    exact .of_is (ReprIs.int t (by simpa [PyData.showable] using hs)) _ _ _
  | .str x, _, _, h, r, _, hz => by
    cases h
    obtain ⟨t, rfl⟩ := r
    refine ⟨[], (fun _ q => nomatch q), ?_⟩
    rw [PyData.shown] at hz ⊢
    exact .of_is (ReprIs.str x t hz) _ _ _
  | .list ds, v, u, h, r, hs, hz => by
    obtain ⟨as, hr⟩ := Dq.reads I _ _ _ h r
    rw [PyData.shown] at hz ⊢
    rw [PyData.depth]
    cases hr with
    | list h1 h2 h3 h4 =>
      rename_i a o vs n as'
      cases h with
      | lst e ha =>
        obtain ⟨its, rv, ⟨o', n', ho', hc', _, hd'⟩, _⟩ := I.list (.inl (.inl e))
        cases r
        rw [h1] at ho'
        cases ho'
        rw [h3] at hd'
        cases hd'
        obtain ⟨bs, hb, hk⟩ := Dq.reprAllK I ds _ _ ha rv (by simpa [PyData.showable] using hs) (fun t ht => Nat.le_trans (listText_mem_le ht) hz)
        have rr : Reads s.heap (.ref a) (.list ds) _ := .list h1 h2 h3 h4
        have hna : a ∉ bs := not_mem_of_deeper rr (by simp only [PyData.depth]; omega) hb
        refine ⟨a :: bs, ReadAtMost.cons rr (by simp only [PyData.depth]; omega) hb, ?_⟩
        cases its with
        | nil =>
          have hh : PyData.shownAll ds = [] := List.length_eq_zero_iff.mp (by simpa using hk.length_eq)
          rw [hh, listText_nil]
          exact ReprK.listEmpty h1 h2 h3
        | cons x l => exact ReprK.list h1 h2 h3 hna (by simpa using hk.length_eq) (fun i y q => hk.item i y (by simpa using q))
  | .tuple ds, v, u, h, r, hs, hz => by
    obtain ⟨as, hr⟩ := Dq.reads I _ _ _ h r
    rw [PyData.shown] at hz ⊢
    rw [PyData.depth]
    cases hr with
    | tuple h1 h2 h3 h4 =>
      rename_i a o vs n
      cases h with
      | tup e ha =>
        obtain ⟨its, rv, ⟨o', ho', hc', n', hd'⟩, _⟩ := I.tuple (.inl (.inl e))
        cases r
        rw [h1] at ho'
        cases ho'
        rw [h3] at hd'
        cases hd'
        obtain ⟨bs, hb, hk⟩ := Dq.reprAllK I ds _ _ ha rv (by simpa [PyData.showable] using hs) (fun t ht => Nat.le_trans (tupleText_mem_le ht) hz)
        have rr : Reads s.heap (.ref a) (.tuple ds) _ := .tuple h1 h2 h3 h4
        have hna : a ∉ bs := not_mem_of_deeper rr (by simp only [PyData.depth]; omega) hb
        refine ⟨a :: bs, ReadAtMost.cons rr (by simp only [PyData.depth]; omega) hb, ?_⟩
        exact ReprK.tuple h1 h2 h3 hna hk
  | .dict kvs, v, u, h, r, hs, hz => by
    cases h with
    | dic e =>
      rename_i a
      cases r
      obtain ⟨o, es, n, h1, h2, h3, hq, hsys⟩ := dict_nil I e
      obtain ⟨as, hr⟩ := Dq.reads I _ _ _ (Dq.dic e) rfl
      refine ⟨[a], ReadAtMost.cons hr (by simp [PyData.depth]) (n := 0) (fun _ q => nomatch q), ?_⟩
      rw [PyData.shown, PyData.shownKv, PyData.depth]
      refine ReprK.dict (as := []) h1 h2 h3 hsys (fun q => nomatch q) ?_
      rw [hq]
      exact ReprEntriesK.of_two [] [] [] .nil .nil
theorem Dq.reprAllK (I : Inv X pins σ H s) : ∀ (ds : List PyData) (vs : List V) (us : List Value), DqAll H vs ds → Vals vs us → PyData.showableAll ds = true → (∀ t ∈ PyData.shownAll ds, t.length ≤ sizeLine) →
    ∃ bs, ReadAtMost s.heap (PyData.depthAll ds) bs ∧ ReprAllK X.prog X.w bs s.heap (PyData.depthAll ds) us (PyData.shownAll ds)
  | [], _, _, h, r, _, _ => by
    cases h
    cases r
    refine ⟨[], (fun _ q => nomatch q), ?_⟩
    rw [PyData.shownAll]
    exact .nil
  | d :: ds, _, _, h, r, hs, hz => by
    cases h with
    | cons h1 h2 =>
      cases r with
      | cons r1 r2 =>
        rw [PyData.showableAll, Bool.and_eq_true] at hs
        rw [PyData.shownAll] at hz
        obtain ⟨b1, m1, k1⟩ := Dq.reprK I d _ _ h1 r1 hs.1 (hz _ (List.mem_cons_self ..))
        obtain ⟨b2, m2, k2⟩ := Dq.reprAllK I ds _ _ h2 r2 hs.2 (fun t ht => hz t (List.mem_cons_of_mem _ ht))
        rw [PyData.depthAll, PyData.shownAll]
        exact ⟨b1 ++ b2, (m1.mono (Nat.le_max_left _ _)).append (m2.mono (Nat.le_max_right _ _)),
          .cons ((k1.more fun b hb => List.mem_append_left _ hb).level_le (Nat.le_max_left _ _)) (k2.more_le (fun b hb => List.mem_append_right _ hb) (Nat.le_max_right _ _))⟩
end
end
section
variable {X : Cx}
/-- repr of data: at most 60 deep -/
def rRepr : List V → Hp → VK → Prop := fun xs H Q => ∃ v d, xs = [v] ∧ Dq H v d ∧ d.showable = true ∧ d.depth ≤ 60 ∧ d.shown.length ≤ 16777216 ∧ Q (.str d.shown) H
theorem call_reprD (hg : X.A.guards = some []) (hu : X.A.units + 64 < cLine) : CallR X (.builtin "repr") rRepr := by
  intro pins s σ H xs us Q I r h
  obtain ⟨v, d, rfl, hd, hs, hdp, hsz, q⟩ := h
  obtain ⟨u, rfl, ru⟩ := vals1 r
  have hz : d.shown.length ≤ sizeLine := by rw [sizeLine_eq]; exact hsz
  have fin : ∀ (h' : Heap) (w tk : Tok), (∀ b o, s.heap.get? b = some o → h'.get? b = some o) → EP X pins σ Q (.str d.shown w) { s with heap := h', toks := tk } := fun h' w tk k => ⟨.str d.shown, H, I.kept k, ⟨w, rfl⟩, q⟩
  have fin0 : ∀ (w tk : Tok), EP X pins σ Q (.str d.shown w) { s with toks := tk } := fun w tk => ⟨.str d.shown, H, I.tok tk, ⟨w, rfl⟩, q⟩
  cases d with
  | none =>
    cases hd
    cases ru
    rw [PyData.shown] at fin0
    exact PySem.P.repr_of_none (fin0 _ _)
  | bool b =>
    cases hd
    cases ru
    rw [PyData.shown] at fin0
    exact PySem.P.repr_of_bool (fin0 _ _)
  | int i =>
    cases hd
    obtain ⟨t, rfl⟩ := ru
    rw [PyData.shown] at fin0
    exact PySem.P.repr_of_int (by simpa [PyData.showable] using hs) (fin0 _ _)
  | str x =>
    cases hd
    obtain ⟨t, rfl⟩ := ru
    rw [PyData.shown] at fin0 hz
    exact PySem.P.repr_of_str (fin0 _ _) hz
  | list ds =>
    cases hd with
    | lst e ha =>
      cases ru
      obtain ⟨its, rv, ⟨o, n, h1, h2, _, h3⟩, _⟩ := I.list (.inl (.inl e))
      rw [PyData.shown] at fin fin0 hz
      rw [PyData.depth] at hdp
      obtain ⟨bs, hb, hk⟩ := Dq.reprAllK I ds _ _ ha rv (by simpa [PyData.showable] using hs) (fun t ht => Nat.le_trans (listText_mem_le ht) hz)
      obtain ⟨as, hr⟩ := Dq.reads I _ _ _ (Dq.lst e ha) rfl
      have hna : _ ∉ bs := not_mem_of_deeper hr (by simp only [PyData.depth]; omega) hb
      refine call_repr_slot (T := "list") (idr := "list.__repr__") (by omega) ⟨o, h1, h2⟩ F.slot_list_repr.toG ?_
      cases its with
      | nil =>
        have hh : PyData.shownAll ds = [] := List.length_eq_zero_iff.mp (by simpa using hk.length_eq)
        rw [hh, listText_nil] at fin0
        exact call_list_repr_empty ⟨o, h1, h2⟩ h1 h3 ⟨_, _, rfl, fin0 _ _⟩
      | cons x l =>
        exact call_list_reprK h1 h2 h3 hna (by simpa using hk.length_eq) (fun i y q => hk.item i y (by simpa using q)) hg (fun b _ => Clear.nil b) (by show X.A.units + 1 + _ < _; omega) (fun _ _ q => q) (fun h' u tk k => ⟨_, _, rfl, fin h' u tk k⟩) hz
  | tuple ds =>
    cases hd with
    | tup e ha =>
      cases ru
      obtain ⟨its, rv, ⟨o, h1, h2, n, h3⟩, _⟩ := I.tuple (.inl (.inl e))
      rw [PyData.shown] at fin hz
      rw [PyData.depth] at hdp
      obtain ⟨bs, hb, hk⟩ := Dq.reprAllK I ds _ _ ha rv (by simpa [PyData.showable] using hs) (fun t ht => Nat.le_trans (tupleText_mem_le ht) hz)
      obtain ⟨as, hr⟩ := Dq.reads I _ _ _ (Dq.tup e ha) rfl
      have hna : _ ∉ bs := not_mem_of_deeper hr (by simp only [PyData.depth]; omega) hb
      refine call_repr_slot (T := "tuple") (idr := "tuple.__repr__") (by omega) ⟨o, h1, h2⟩ F.slot_tuple_repr ?_
      exact call_tuple_reprK h1 h2 h3 hna hk hg (fun b _ => Clear.nil b) (by show X.A.units + 1 + _ < _; omega) (fun _ _ q => q) (fun h' u tk k => ⟨_, _, rfl, fin h' u tk k⟩) hz
  | dict kvs =>
    cases hd with
    | dic e =>
      cases ru
      obtain ⟨o, es, n, h1, h2, h3, hq, hsys⟩ := dict_nil I e
      rw [PyData.shown, PyData.shownKv] at fin hz
      refine call_repr_slot (T := "dict") (idr := "dict.__repr__") (by omega) ⟨o, h1, h2⟩ F.slot_dict_repr ?_
      refine call_dict_reprK (as := []) (d := 0) h1 h2 h3 hsys (fun q => nomatch q) ?_ hg (fun b _ => Clear.nil b) (by show X.A.units + 1 + _ < _; omega) (fun _ _ q => q) (fun h' u tk k => ⟨_, _, rfl, fin h' u tk k⟩) hz
      rw [hq]
      exact ReprEntriesK.of_two [] [] [] .nil .nil
end
end Bb
/-! promises of defs that show data (repr): kept where no repr is under way -/
namespace Bb
open PySem PySem.Spec PyProof.Rows L2
section
variable {P : Program} {w : World} {K : PySem.W.Frag} {mg : Str → Option Value} {base : Heap} {CX : CXT} {k : Nat} {f : Addr} {fd : FuncData} {ps : List Str} {sp : Sp}
variable (P w K mg base CX k f fd ps sp) in
structure FnG : Prop where
  len : ∀ vs H Q E, sp vs H Q E → vs.length = ps.length
  go : ∀ (A : Around) (outer : List Env) (s : Shared) (H : Hp) (args : Args) (us : List Value) (vs : List V) (Q : VK) (E : XK), A.guards = some [] → Room k A → Env0 P w K mg base A outer s H → BindsTo s fd args (ps.zip us) → Vals vs us →
    sp vs H Q E → codeAny (model P w) A (.call (.ref f) args) (CR CX outer P w H s Q E) s
theorem okG {x qual : Str} {st : Stmt} {N : List Str} (F : Fun K x qual st f fd) (S : FnScope N ps (defScope st)) (len : ∀ vs H Q E, sp vs H Q E → vs.length = ps.length)
    (hb : ∀ (cdv : Value) (A : Around) (outer : List Env) (s : Shared) (H : Hp) (vs : List V) (Q : VK) (E : XK), A.guards = some [] → Room k (A.deeper (envOfC qual (defScope st) s.heap.objs.size f cdv)) → sp vs H Q E →
      ∃ t, PSs (cxOf CX0 P w K mg base N qual (defScope st) f cdv A outer s H E).nox (defBody st) t ∧ t { nx := fun _ H' => Q .non H', rt := Q } (start N vs) H) : FnG P w K mg base CX0 (k + 1) f fd ps sp := by
  obtain ⟨oc, od, kV, doc, pm, an, cdv, ct, osl, rfl, lk, hcd⟩ := F.ex
  constructor
  · exact len
  intro A outer s H args us vs Q E hg hr e0 hbd rv hsp
  have hl := len _ _ _ _ hsp
  have kin : K.In s.heap := e0.mod.kin.keeps fun b o q => (e0.bs b o q).1
  have nol : s.heap.NoLimit := e0.mod.nolimit.keeps fun b o q => (e0.bs b o q).1
  have kinds : ∀ y ∈ ps.zip us, (defScope st).names.lookup y.1 = some .local ∨ ((defScope st).names.lookup y.1 = some .cell ∧ ((cellsFrom (s.heap.objs.size + 1) (defScope st).names []).lookup y.1).isSome = true) := by
    rintro ⟨n, v⟩ hy
    cases S.par n (List.of_mem_zip hy).1 with
    | inl q => exact Or.inl q
    | inr q => exact Or.inr ⟨q, PySem.W.cellsFrom_some _ _ _ (Or.inl q)⟩
  apply codeAny_call_function hr.depth (kin _ _ lk) rfl S.co S.gen rfl (PySem.W.codeRec_of kin hcd) (hbd _ _ _ _ ?_)
  apply wpAny_newFunctionEnv_cells S.kind kinds
  rintro env rfl s1 ic
  refine ⟨nol.keeps ic.toInCall.keep, codeAny_func ?_⟩
  obtain ⟨t, ht, hq⟩ := hb cdv A outer s H vs Q E hg (hr.deeper _) hsp
  have J : Inv (cxOf CX0 P w K mg base N qual (defScope st) f cdv A outer s H E) [] (start N vs) H s1 := inv_start S hr.hd e0 hl rv ic
  refine wpAny_mono (ht.nox.run [] s1 (start N vs) H _ J hq) (fun fl s' hs => ?_) (fun _ _ q => q)
  cases fl with
  | ret u =>
    obtain ⟨v, σ', H', I, r, q⟩ := hs
    exact ⟨v, H', I.os, I.bare, I.base, I.hok, r, q⟩
  | next =>
    obtain ⟨σ', H', I, q⟩ := hs
    exact ⟨V.non, H', I.os, I.bare, I.base, I.hok, rfl, q⟩
  | brk => exact hs.elim fun _ q => q.elim fun _ q => q.2.elim
  | cont => exact hs.elim fun _ q => q.elim fun _ q => q.2.elim
end
section
variable {X : Cx} {CX : CXT} {k : Nat} {f : Addr} {fd : FuncData} {ps : List Str} {sp : Sp} {dvs : List V} {ds : List Value} {E : XK} {x : Str} {p pos : Pos} {e : Expr} {es : List Expr} {t : TA}
theorem pe_callG (F : FnG X.prog X.w X.K X.mg X.base CX k f fd ps sp) (gd : X.A.guards = some []) (hr : Room k X.A) (hg : Gl X x) (hm : X.mg x = some (.ref f)) (hk : PySem.W.keepIn X.K (.ref f) = true) (hb : Binds X.K fd ps ds) (hd : Vals dvs ds) (hx : Passes CX X E)
    (ha : PA X (e :: es) t) (hdb : (x == ("__debug__" : Str)) = false := by decide) (he : starEach (e :: es) X.env = (false, eval e X.env) :: starEach es X.env := by rfl) (hpl : (backTo pos (starEach es X.env)).any (·.1) = false := by rfl) :
    PE X (.Call (.Name x p) (e :: es) [] pos) (tCall sp dvs E t) := by
  constructor
  intro pins s σ H Q I h
  apply wpAny_Call_Name_kw (ld_glob I hg hm ?_ hdb)
  apply PySem.W.callWith_K (h₀ := X.base) I.ok.mod.kin hk ?_ he hpl
  apply thn (ha.run pos pins s σ H _ I h)
  rintro us s1 ⟨vs, H1, I1, r, q⟩
  refine ⟨I1.kIn, ?_⟩
  have r2 : Vals (vs ++ dvs) (us ++ ds) := r.append hd
  have hl : (us ++ ds).length = ps.length := r2.length ▸ F.len _ _ _ _ q
  refine wpAny_call (codeAny_mono (F.go X.A X.stack s1 H1 ⟨us, []⟩ (us ++ ds) (vs ++ dvs) Q E gd hr I1.env0 (hb s1 us I1.kIn hl) r2 q) fun r s' hq => ?_)
  match r, hq with
  | .error e, hq => exact hx pins σ H1 s1 e s' I1 hq
  | .ok (.ret u), hq => exact I1.after hq
  | .ok .next, hq => exact hq.elim
  | .ok .brk, hq => exact hq.elim
  | .ok .cont, hq => exact hq.elim
end

/-! ### the end of a law row: the law's own promise where no repr is under way -/
section
open PySem.W
theorem law_goes {P : Program} {w : World} {K : PySem.W.Frag} {mg mb : Str → Option Value} {k : Nat} {fa a : Addr} {fd : FuncData} {x : Str} {sp : Sp} {s₁ : Shared} {vs : List Value} {ns : List Int}
    (KX : K.In s₁.heap) (hns : s₁.heap.Ns mainGlobals mg) (hb : s₁.heap.Ns builtinsNs mb) (hbb : ∀ x : Str, x ≠ "__name__" → mb x = bootBuiltins x) (hlim : s₁.heap.NoLimit) (hg : s₁.gens = #[])
    (ha : s₁.heap.get? a = some { cls := .type "list", data := .seq vs.toArray }) (hi : IntsAre vs ns) (hl : ns.length ≤ sizeLine) (hr : Room k callerA)
    (F : ∀ base : Heap, K.In base → base.Ns mainGlobals mg → FnG P w K mg base CX0 k fa fd [x] sp) (hbind : ∀ (s : Shared) (u : Value), BindsTo s fd ⟨[u], []⟩ [(x, u)])
    (hsp : ∀ H : Hp, Only H → SqL K H a (ns.map V.int) → sp [.ref a] H (fun v _ => v = .bl true) fun _ _ _ => False) :
    codeAny (model P w) callerA (.call (.ref fa) ⟨[.ref a], []⟩) (fun r s' => r = .ok (.ret (.bool true)) ∧ OldK s₁.heap s'.heap ∧ s'.os = s₁.os ∧ AllBare s'.gens) s₁ := by
  have rv := vals_ints hi
  have main : ∀ H : Hp, Only H → SqL K H a (ns.map V.int) → HOk P w H s₁.heap → (∀ b, H b ≠ none → b = a) → (H a ≠ none → K.lookup a = none) →
      codeAny (model P w) callerA (.call (.ref fa) ⟨[.ref a], []⟩) (fun r s' => r = .ok (.ret (.bool true)) ∧ OldK s₁.heap s'.heap ∧ s'.os = s₁.os ∧ AllBare s'.gens) s₁ := by
    intro H only seq hok onlyA freeK
    have notA : ∀ {b : Addr} {o : Obj}, s₁.heap.get? b = some o → o.data ≠ .seq vs.toArray 0 → H b = none := by
      intro b o q d
      cases z : H b with
      | none => rfl
      | some u =>
        exfalso
        have hba : b = a := onlyA b (by rw [z]; exact fun y => nomatch y)
        rw [hba, ha] at q
        cases q
        exact d rfl
    have ns' : ∀ {b : Addr} {m : Str → Option Value}, s₁.heap.Ns b m → (hidT s₁.heap H).Ns b m := by
      rintro b m ⟨o, es, ep, q, d, r⟩
      exact ⟨o, es, ep, hidT_get q (notA q (by rw [d]; exact fun y => nomatch y)), d, r⟩
    have kb : K.In (hidT s₁.heap H) := by
      intro b o q
      apply hidT_get (KX b o q)
      cases z : H b with
      | none => rfl
      | some u =>
        exfalso
        have hba : b = a := onlyA b (by rw [z]; exact fun y => nomatch y)
        have hn := freeK (by rw [← hba, z]; exact fun y => nomatch y)
        rw [hba, hn] at q
        cases q
    obtain ⟨mc, l1, l2⟩ := hlim
    have M : Mod K mg (hidT s₁.heap H) := ⟨kb, ns' hns, ⟨mb, ns' hb, hbb⟩, ⟨mc, ns' l1, l2⟩⟩
    have e0 : Env0 P w K mg (hidT s₁.heap H) callerA [] s₁ H := ⟨rfl, M, fun b o q => of_hidT q, Nat.le_of_eq (hidT_size _ _), trivial, fun b q => (nomatch (show b ∈ ([] : List Addr) from q)), hok, .of_eq hg⟩
    refine codeAny_mono ((F _ kb (ns' hns)).go callerA [] s₁ H ⟨[.ref a], []⟩ [.ref a] [.ref a] _ _ rfl hr e0 (hbind s₁ (.ref a)) (.cons rfl .nil) (hsp H only seq)) fun r s' h => ?_
    match r, h with
    | .error e, h => exact h.elim
    | .ok .next, h => exact h.elim
    | .ok .brk, h => exact h.elim
    | .ok .cont, h => exact h.elim
    | .ok (.ret u), h =>
      obtain ⟨v, H', os, bare, un, hok', r', q⟩ := h
      have qv : v = .bl true := q
      rw [qv] at r'
      have hu : u = Value.bool true := r'
      subst hu
      refine ⟨rfl, OldK.of_keep fun b o q => ?_, os, bare⟩
      rcases only b with z | ⟨ob, xs, z⟩
      · exact un.keep b o q z (fun y => (nomatch (show b ∈ ([] : List Addr) from y))) (fun y => nomatch y)
      · have g1 := (hok b _ z).1
        have g2 := (hok' b _ (un.frzs b ob _ z)).1
        rw [q] at g1
        cases g1
        exact g2
  have rl : (ns.map V.int).length ≤ sizeLine := by
    rw [List.length_map]
    exact hl
  cases hk : K.lookup a with
  | some o =>
    have q := KX a o hk
    rw [ha] at q
    cases q
    exact main (fun _ => none) (fun _ => Or.inl rfl) (Or.inr ⟨_, vs.toArray, _, hk, rfl, rfl, rfl, by rw [List.size_toArray, hi.length]; exact hl, by simpa using rv⟩) (fun b u z => nomatch (show (none : Option HO) = some u from z)) (fun b z => absurd rfl z) (fun z => absurd rfl z)
  | none =>
    have at1 : ∀ b u, (fun b => if b = a then some (HO.frz { cls := .type "list", data := .seq vs.toArray } (.lst (ns.map V.int))) else none) b = some u → b = a ∧ u = HO.frz { cls := .type "list", data := .seq vs.toArray } (.lst (ns.map V.int)) := by
      intro b u z
      by_cases hb : b = a
      · simp [hb] at z
        exact ⟨hb, z.symm⟩
      · simp [hb] at z
    refine main (fun b => if b = a then some (.frz { cls := .type "list", data := .seq vs.toArray } (.lst (ns.map V.int))) else none) (fun b => ?_) (Or.inl (Or.inr ⟨{ cls := .type "list", data := .seq vs.toArray }, if_pos rfl⟩)) (fun b u z => ?_) (fun b z => ?_) (fun _ => hk)
    · by_cases hb : b = a
      · exact Or.inr ⟨_, _, if_pos hb⟩
      · exact Or.inl (if_neg hb)
    · obtain ⟨rfl, rfl⟩ := at1 b u z
      exact ⟨ha, rl, vs, _, rv, ha⟩
    · cases hq : (fun b => if b = a then some (HO.frz { cls := .type "list", data := .seq vs.toArray } (.lst (ns.map V.int))) else none) b with
      | none => exact absurd hq z
      | some u => exact (at1 b u hq).1
theorem walkG {l : OpenLaw} {n k : Nat} {q : Program} {loose : List Str} {XP : (Str → Option Value) → Heap → Prop} {YP : World → Heap → Prop} {d : DefRec} {K : Params → Frag} {sp : World → Sp} {x : Str}
    (hn : l.most = some n) (hn2 : n ≤ sizeLine) (hdf : d.params.defaults = []) (hr : Room k callerA) (hY : ∀ (w : World) (h : Heap), YP w h → (K w.params).In h)
    (F : ∀ (w : World) (mg : Str → Option Value) (fa : Addr) (h : Heap), (K w.params).In h → h.Ns mainGlobals mg → mg d.name = some (.ref fa) →
      ∃ fd : FuncData, (∀ (s : Shared) (u : Value), BindsTo s fd ⟨[u], []⟩ [(x, u)]) ∧ ∀ base : Heap, (K w.params).In base → base.Ns mainGlobals mg → FnG l.prog w (K w.params) mg base CX0 k fa fd [x] (sp w))
    (hsp : ∀ (w : World) (H : Hp) (a : Addr) (ns : List Int), ns.length ≤ n → (∀ z ∈ ns, Builtin.Int.intBits z ≤ 1048576) → Only H → SqL (K w.params) H a (ns.map V.int) → sp w [.ref a] H (fun v _ => v = .bl true) fun _ _ _ => False) :
    WalkO q loose XP YP l.row.toRowW d [] (fun f vs => PySem.call f vs) := by
  apply Att.attach_callB hn hdf
  intro w s₀ s₁ mg mb fa o pm cd doc a vs ns G Y ho hd hcd hmg hobj hints hlen hbits hg
  have KX := hY w _ Y
  obtain ⟨fd, hb, hF⟩ := F w mg fa _ KX G.T.g hmg
  exact law_goes KX G.T.g G.T.b G.T.builtins G.T.nolimit hg hobj hints (Nat.le_trans hlen hn2) hr hF hb (fun H h1 h2 => hsp w H a ns hlen hbits h1 h2)
end
end Bb
/-! the text by places -/
namespace Bb
open PySem PySem.Spec PyProof.Rows L2
def topS (i : Nat) : Stmt := PySem.Challenge.pw_blackbars_k02_order_of_words_and_logs.main.body.getD i (.Pass ⟨0, 0, 0, 0⟩)
abbrev sWordKey : Stmt := topS 1
abbrev sLogKey : Stmt := topS 2
abbrev sJar : Stmt := topS 4
abbrev sDraw : Stmt := topS 5
abbrev sChoose : Stmt := topS 6
abbrev sWordBefore : Stmt := topS 7
abbrev sSizes : Stmt := topS 8
abbrev sLogBefore : Stmt := topS 9
abbrev sMakeLog : Stmt := topS 10
abbrev sLaw : Stmt := topS 11
theorem scJar : FnScope ["script", "start", "mixed", "entry", "digits"] ["script", "start"] (defScope sJar) := ⟨rfl, rfl, rfl, by decide +kernel, rfl, by decide +kernel, by decide +kernel⟩
theorem scDraw : FnScope ["jar", "many", "found"] ["jar", "many"] (defScope sDraw) := ⟨rfl, rfl, rfl, by decide +kernel, rfl, by decide +kernel, by decide +kernel⟩
theorem scChoose : FnScope ["jar", "things"] ["jar", "things"] (defScope sChoose) := ⟨rfl, rfl, rfl, by decide +kernel, rfl, by decide +kernel, by decide +kernel⟩
end Bb
/-! the law's jar of draws -/
namespace Bb
open PySem PySem.Spec PyProof.Rows L2
/-! ### heaps: all but the jar stays -/
def But (j : Addr) (H H' : Hp) : Prop := ∀ b o, b ≠ j → H b = some o → H' b = some o
theorem But.refl (j : Addr) (H : Hp) : But j H H := fun _ _ _ h => h
theorem But.trans {j : Addr} {H H1 H2 : Hp} (a : But j H H1) (b : But j H1 H2) : But j H H2 := fun c o n h => b c o n (a c o n h)
theorem But.of {j : Addr} {H H' : Hp} (a : Same H H') : But j H H' := fun c o _ h => a c o h
theorem But.upd {j : Addr} {H : Hp} {o : HO} : But j H (upd H j o) := fun c u n h => by
  rw [upd_ne n]
  exact h
theorem same_new {H : Hp} {p : Addr} {o : HO} (h : H p = none) : Same H (upd H p o) := fun b x e => by
  rw [upd_ne (ne_of_none e h)]
  exact e
/-- new things may change -/
theorem same_mut {H H' : Hp} {p : Addr} {o : HO} (e : Same H H') (h : H p = none) : Same H (upd H' p o) := fun a u ha => by
  rw [upd_ne (ne_of_none ha h)]
  exact e a u ha
def jarL (D M : Int) : List (Key × V) := [(.inr "digits", .int D), (.inr "mixed", .int M)]
def Jar (H : Hp) (j : Addr) : Prop := ∃ D M : Int, H j = some (.dK (jarL D M)) ∧ 0 ≤ M ∧ M < 2147483648
theorem dm : ¬ (("digits" : Str) = "mixed") := by decide +kernel
theorem md : ¬ (("mixed" : Str) = "digits") := by decide +kernel
theorem jar_d (D M : Int) : valV (jarL D M) (.inr "digits" : Key) = some (.int D) := by
  unfold jarL
  exact valV_pos rfl
theorem jar_m (D M : Int) : valV (jarL D M) (.inr "mixed" : Key) = some (.int M) := by
  unfold valV jarL
  simp [List.find?_cons, dm]
theorem jar_pd (D M E : Int) : putK (jarL D M) (.inr "digits" : Key) (.int E) = jarL E M := by
  unfold putK jarL
  simp [md]
theorem jar_pm (D M E : Int) : putK (jarL D M) (.inr "mixed" : Key) (.int E) = jarL D E := by
  unfold putK jarL
  simp [dm]
theorem jar_mk (D M : Int) : mergeK [] [((.inr "digits" : Key), V.int D), (.inr "mixed", .int M)] = jarL D M := by
  unfold mergeK jarL putK
  simp [dm]
theorem get_d {H : Hp} {j : Addr} {D M : Int} (h : H j = some (.dK (jarL D M))) : DGet H j (.str "digits") (some (.int D)) := .inl ⟨_, .inr "digits", .inl h, rfl, (jar_d D M).symm⟩
theorem get_m {H : Hp} {j : Addr} {D M : Int} (h : H j = some (.dK (jarL D M))) : DGet H j (.str "mixed") (some (.int M)) := .inl ⟨_, .inr "mixed", .inl h, rfl, (jar_m D M).symm⟩
theorem put_d {H : Hp} {j : Addr} {D M : Int} (E : Int) (h : H j = some (.dK (jarL D M))) : DPut H j (.str "digits") (.int E) (upd H j (.dK (jarL E M))) := .inl ⟨_, .inr "digits", h, rfl, by show 2 < sizeLine; decide, by rw [jar_pd]⟩
theorem put_m {H : Hp} {j : Addr} {D M : Int} (E : Int) (h : H j = some (.dK (jarL D M))) : DPut H j (.str "mixed") (.int E) (upd H j (.dK (jarL D E))) := .inl ⟨_, .inr "mixed", h, rfl, by show 2 < sizeLine; decide, by rw [jar_pm]⟩

/-! ### sizes -/
theorem nat_lt_of_bits {z : Int} (h : Builtin.Int.intBits z ≤ 1048576) : ∃ n : Nat, 0 < n ∧ n ≤ 1048577 ∧ z.natAbs < 2 ^ n := by
  refine ⟨z.natAbs.log2 + 1, Nat.succ_pos _, ?_, ?_⟩
  · unfold Builtin.Int.intBits at h
    split at h
    · rename_i q
      have : z = 0 := by simpa using q
      subst this
      decide
    · omega
  · exact Nat.lt_log2_self
theorem mix_bits {m e : Int} (h0 : 0 ≤ m) (h1 : m < 2147483648) (he : Builtin.Int.intBits e ≤ 1048576) : MulB e e ∧ PowB (m * 60089 + e * e + 29) 2 := by
  obtain ⟨n, n0, n1, hn⟩ := nat_lt_of_bits he
  refine ⟨⟨n, n, hn, hn, n0, n0, by omega⟩, rfl, n + n + 64, ?_, by omega⟩
  have hs : (e * e).natAbs < 2 ^ (n + n) := wide_lt hn hn
  have hm : (m * 60089).natAbs < 2 ^ 48 := by omega
  have h64 : (2 : Nat) ^ (n + n + 64) = 2 ^ (n + n) * 2 ^ 64 := Nat.pow_add 2 (n + n) 64
  have hp : 1 ≤ (2 : Nat) ^ (n + n) := Nat.one_le_two_pow
  rw [h64]
  have e1 : (2 : Nat) ^ 48 = 281474976710656 := by decide
  have e2 : (2 : Nat) ^ 64 = 18446744073709551616 := by decide
  rw [e2]
  rw [e1] at hm
  generalize (2 : Nat) ^ (n + n) = w at hs hp ⊢
  omega
section
variable {P : Program} {w : World} {K : PySem.W.Frag} {mg : Str → Option Value} {base : Heap}
structure TJ (mg : Str → Option Value) : Prop where
  int : mg "int" = none
  len : mg "len" = none
/-! ### _law_jar -/
def spJar (K : PySem.W.Frag) : Sp := fun vs H Q _ => ∃ (a : Addr) (ns : List Int) (st : Nat), vs = [.ref a, .int (st : Int)] ∧ SqL K H a (ns.map V.int) ∧ ns.length ≤ 63 ∧ (∀ z ∈ ns, Builtin.Int.intBits z ≤ 1048576) ∧ st ≤ 1000 ∧
  ∀ H' p, H p = none → Same H H' → Jar H' p → Q (.ref p) H'
theorem ok_jar {f : Addr} {fd : FuncData} {k : Nat} (F : Fun K "_law_jar" "_law_jar" sJar f fd) (T : TJ mg) : FnOk P w K mg base CX0 (k + 1) f fd ["script", "start"] (spJar K) := by
  refine F.ok scJar (fun vs H Q E h => ?_) (fun cdv A outer s H vs Q E hr h => ?_)
  · obtain ⟨a, ns, st, rfl, _⟩ := h
    rfl
  · obtain ⟨a, ns, st, rfl, hS, hlen, hbits, hst, q⟩ := h
    refine ⟨_, pss_cons (ps_set (i := 2) scJar.nd rfl (.inl rfl) (pe_op op_add pe_int (pe_op op_mul (pv 1) pe_int)))
      (pss_cons (ps_for PassesOwn.never rfl (pi_list (pv 0)) (pg_name (i := 3) scJar.nd rfl (.inl rfl))
        (pss_one (ps_set (i := 2) scJar.nd rfl (.inl rfl) (pe_op op_add (pe_op op_mod (pe_callTy call_int1 (by rfl) T.int (by decide +kernel)
          (pa_cons (pe_op op_sqB (pe_op op_add (pe_op op_add (pe_op op_mul (pv 2) pe_int) (pe_op op_mulB (pv 3) (pv 3))) pe_int) pe_int) pa_nil)) pe_int) pe_int))))
      (pss_cons (ps_set (i := 4) scJar.nd rfl (.inl rfl) (pe_ifExp (PW.pt (pw_and (pt_cmpR op_lt (pv 1) (pe_callB call_len_seq (by rfl) T.len PySem.boot_len (pa_cons (pv 0) pa_nil)) (nomark _))
          (pw_and1 (pt_cmpR op_ge (pe_ix ix_list (pv 0) (pv 1) (fun _ _ => rfl)) (pe_op op_pow pe_int pe_int) (nomark _)))))
          (pe_op op_sub (pe_ix ix_list (pv 0) (pv 1) (fun _ _ => rfl)) (pe_op op_pow pe_int pe_int)) pe_int))
      (pss_one (ps_ret (pe_disp (pps_cons pe_str (pv 4) (pps_cons pe_str (pv 2) pps_nil)) (by rfl) (by rfl) (fun z => by cases z) (by decide)))))), ?_⟩
    refine ⟨_, rfl, _, _, rfl, rfl, .inl ⟨by omega, by omega⟩, _, _, rfl, rfl, ?_⟩
    refine ⟨.ref a, rfl, a, rfl, ⟨_, hS⟩, for_list (K := K) (a := a) (xs := ns.map V.int) (fun i σ H2 => ∃ (m : Int) (e : Option V), σ = [some (.ref a), some (.int st), some (.int m), e, none] ∧ H2 = H ∧ 0 ≤ m ∧ m < 2147483648)
      ⟨_, none, rfl, rfl, by omega, by omega⟩ (fun i σ H2 _ ⟨_, _, _, e, _⟩ => e ▸ hS) ?_ ?_⟩
    · rintro i y σ H2 hi ⟨m, e, rfl, rfl, m0, m1⟩
      obtain ⟨z, hz, rfl⟩ : ∃ z, z ∈ ns ∧ y = V.int z := by
        rw [List.getElem?_map] at hi
        cases e : ns[i]? with
        | none =>
          rw [e] at hi
          cases hi
        | some z =>
          rw [e] at hi
          exact ⟨z, List.mem_of_getElem? e, (Option.some.inj hi).symm⟩
      obtain ⟨h1, h2⟩ := mix_bits m0 m1 (hbits z hz)
      refine ⟨_, rfl, _, _, rfl, rfl, .inl ⟨by omega, by omega⟩, _, rfl, _, rfl, _, _, rfl, rfl, h1, _, _, rfl, rfl, _, _, rfl, rfl, _, _, rfl, rfl, h2, .inl ⟨_, rfl, _, _, rfl, rfl, (by show (0 : Int) < 2147483423; decide), _, _, rfl, rfl, ?_⟩⟩
      refine ⟨_, _, rfl, rfl, ?_, ?_⟩
      · have := Int.emod_nonneg ((m * 60089 + z * z + 29) ^ (2 : Int).toNat) (show (2147483423 : Int) ≠ 0 by decide)
        omega
      · have := Int.emod_lt_of_pos ((m * 60089 + z * z + 29) ^ (2 : Int).toNat) (show (0 : Int) < 2147483423 by decide)
        omega
    · rintro σ H2 ⟨m, e, rfl, rfl, m0, m1⟩
      have fin : ∀ (D : Int), tRet (tDisp [(tC (.str "digits"), tVar 4), (tC (.str "mixed"), tVar 2)]) { nx := fun _ H' => Q .non H', rt := Q } [some (.ref a), some (.int st), some (.int m), e, some (.int D)] H2 := by
        intro D p np
        refine ⟨_, rfl, _, rfl, upd_same, [((.inr "digits" : Key), V.int D), (.inr "mixed", .int m)], rfl, by show 2 ≤ 15; decide, ?_⟩
        rw [jar_mk]
        exact q _ p np (same_mut (same_new np) np) ⟨D, m, upd_same, m0, m1⟩
      refine ⟨_, rfl, _, rfl, a, _, rfl, .inl hS, _, _, rfl, rfl, _, rfl, ite2 (fun c => ?_) (fun c => ?_)⟩
      · have hb : st < ns.length := by
          have := of_decide_eq_true c
          rw [List.length_map] at this
          omega
        have hx : atI (ns.map V.int) (st : Int) = some (.int ns[st]) := by
          apply atI_nat
          rw [List.getElem?_map, List.getElem?_eq_getElem hb]
          rfl
        refine ⟨_, rfl, _, rfl, a, _, _, _, rfl, rfl, hS, hx, _, _, rfl, rfl, ⟨by decide, by decide, by decide⟩, _, _, rfl, rfl, _, rfl, ite2 (fun _ => ?_) (fun _ => ?_)⟩
        · exact ⟨_, rfl, _, rfl, a, _, _, _, rfl, rfl, hS, hx, _, _, rfl, rfl, ⟨by decide, by decide, by decide⟩, _, _, rfl, rfl, fin _⟩
        · exact fin _
      · exact iteF (fin _)
/-! ### _law_draw -/
def spDraw : Sp := fun vs H Q _ => ∃ (j : Addr) (n : Int), vs = [.ref j, .int n] ∧ Jar H j ∧ 0 < n ∧ n < 1073741824 ∧ ∀ H' (r : Nat), (r : Int) < n → But j H H' → Jar H' j → Q (.int r) H'
theorem ok_draw {f : Addr} {fd : FuncData} {k : Nat} (F : Fun K "_law_draw" "_law_draw" sDraw f fd) (T : TJ mg) : FnOk P w K mg base CX0 (k + 1) f fd ["jar", "many"] spDraw := by
  refine F.ok scDraw (fun vs H Q E h => ?_) (fun cdv A outer s H vs Q E hr h => ?_)
  · obtain ⟨j, n, rfl, _⟩ := h
    rfl
  · obtain ⟨j, n, rfl, ⟨D, M, hj, m0, m1⟩, n0, n1, q⟩ := h
    have hu := hu_of hr
    refine ⟨_, pss_cons (ps_if (pt_cmpR op_ge (pe_dget hu (pv 0) pe_str (fun _ _ => rfl)) (pv 1) (nomark _))
        (pss_cons (ps_set (i := 2) scDraw.nd rfl (.inl rfl) (pe_op op_mod (pe_callTy call_int1 (by rfl) T.int (by decide +kernel) (pa_cons (pe_dget hu (pv 0) pe_str (fun _ _ => rfl)) pa_nil)) (pv 1)))
        (pss_cons (ps_dput hu (pv 0) pe_str (pe_op op_fdivN (pe_dget hu (pv 0) pe_str (fun _ _ => rfl)) (pv 1)) rfl)
        (pss_one (ps_ret (pv 2))))) pss_nil)
      (pss_cons (ps_dput hu (pv 0) pe_str (pe_op op_mod (pe_callTy call_int1 (by rfl) T.int (by decide +kernel) (pa_cons (pe_op op_add (pe_op op_mul (pe_dget hu (pv 0) pe_str (fun _ _ => rfl)) pe_int) pe_int) pa_nil)) pe_int) rfl)
      (pss_one (ps_ret (pe_op op_mod (pe_op op_fdiv (pe_op op_mod (pe_callTy call_int1 (by rfl) T.int (by decide +kernel) (pa_cons (pe_op op_pow
          (pe_op op_mod (pe_callTy call_int1 (by rfl) T.int (by decide +kernel) (pa_cons (pe_op op_pow (pe_dget hu (pv 0) pe_str (fun _ _ => rfl)) pe_int) pa_nil)) pe_int) pe_int) pa_nil)) pe_int) pe_int) (pv 1))))), ?_⟩
    refine ⟨_, rfl, j, _, rfl, get_d hj, _, rfl, _, _, rfl, rfl, _, rfl, ite2 (fun _ => ?_) (fun _ => ?_)⟩
    · refine ⟨_, rfl, j, _, rfl, get_d hj, .inl ⟨_, rfl, _, rfl, _, _, rfl, rfl, n0, ?_⟩⟩
      refine ⟨_, rfl, j, _, rfl, get_d hj, _, rfl, _, _, rfl, rfl, ⟨by omega, by omega⟩, _, rfl, j, _, rfl, put_d _ hj, _, rfl, ?_⟩
      have r0 := Int.emod_nonneg D (show n ≠ 0 by omega)
      have r1 := Int.emod_lt_of_pos D n0
      obtain ⟨r, hr⟩ := Int.eq_ofNat_of_zero_le r0
      rw [hr] at r1
      show Q (V.int (D % n)) _
      rw [hr]
      exact q _ r r1 But.upd ⟨_, M, upd_same, m0, m1⟩
    · have g0 := Int.emod_nonneg (M * 39373 + 4481) (show (2147483647 : Int) ≠ 0 by decide)
      have g1 := Int.emod_lt_of_pos (M * 39373 + 4481) (show (0 : Int) < 2147483647 by decide)
      generalize hg : (M * 39373 + 4481) % 2147483647 = G at g0 g1
      refine ⟨_, rfl, j, _, rfl, get_m hj, _, _, rfl, rfl, .inl ⟨by omega, by omega⟩, _, _, rfl, rfl, .inl ⟨_, rfl, _, _, rfl, rfl, (by show (0 : Int) < 2147483647; decide), _, rfl, j, _, rfl, put_m _ hj, ?_⟩⟩
      rw [hg]
      have hj2 : (upd H j (.dK (jarL D G))) j = some (.dK (jarL D G)) := upd_same
      have a0 := Int.emod_nonneg (G ^ (2 : Int).toNat) (show (2147483353 : Int) ≠ 0 by decide)
      have a1 := Int.emod_lt_of_pos (G ^ (2 : Int).toNat) (show (0 : Int) < 2147483353 by decide)
      refine ⟨_, rfl, j, _, rfl, get_m hj2, _, _, rfl, rfl, ⟨by decide, by decide, by omega⟩, .inl ⟨_, rfl, _, _, rfl, rfl, (by show (0 : Int) < 2147483353; decide), _, _, rfl, rfl, ⟨by decide, by decide, by omega⟩, .inl ⟨_, rfl, ?_⟩⟩⟩
      refine ⟨_, _, rfl, rfl, (by show (0 : Int) < 1000000093; decide), _, _, rfl, rfl, ⟨by decide, by decide⟩, _, rfl, _, _, rfl, rfl, n0, ?_⟩
      have r0 := Int.emod_nonneg ((G ^ (2 : Int).toNat % 2147483353) ^ (3 : Int).toNat % 1000000093 / 23) (show n ≠ 0 by omega)
      have r1 := Int.emod_lt_of_pos ((G ^ (2 : Int).toNat % 2147483353) ^ (3 : Int).toNat % 1000000093 / 23) n0
      obtain ⟨r, hr⟩ := Int.eq_ofNat_of_zero_le r0
      rw [hr] at r1
      show Q (V.int ((G ^ (2 : Int).toNat % 2147483353) ^ (3 : Int).toNat % 1000000093 / 23 % n)) _
      rw [hr]
      exact q _ r r1 But.upd ⟨_, G, upd_same, g0, by omega⟩
/-! ### _law_choose -/
def spChoose (K : PySem.W.Frag) : Sp := fun vs H Q _ => ∃ (j a : Addr) (xs : List V), vs = [.ref j, .ref a] ∧ Jar H j ∧ SqL K H a xs ∧ a ≠ j ∧ 0 < xs.length ∧ xs.length < 1000 ∧ ∀ H' x, x ∈ xs → But j H H' → Jar H' j → Q x H'
theorem seq_but {j a : Addr} {xs : List V} {H H' : Hp} (n : a ≠ j) (e : But j H H') (h : SqL K H a xs) : SqL K H' a xs := by
  rcases h with (h | ⟨o, h⟩) | h
  · exact .inl (.inl (e _ _ n h))
  · exact .inl (.inr ⟨o, e _ _ n h⟩)
  · exact .inr h
theorem ok_choose {f fD : Addr} {fd fdD : FuncData} {k : Nat} (F : Fun K "_law_choose" "_law_choose" sChoose f fd) (T : TJ mg) (FD : Fun K "_law_draw" "_law_draw" sDraw fD fdD) (bD : Binds K fdD ["jar", "many"] []) (gD : mg "_law_draw" = some (.ref fD)) :
    FnOk P w K mg base CX0 (k + 2) f fd ["jar", "things"] (spChoose K) := by
  have GD : FnOk P w K mg base CX0 (k + 1) fD fdD ["jar", "many"] spDraw := ok_draw FD T
  refine F.ok scChoose (fun vs H Q E h => ?_) (fun cdv A outer s H vs Q E hr h => ?_)
  · obtain ⟨j, a, xs, rfl, _⟩ := h
    rfl
  · obtain ⟨j, a, xs, rfl, hj, hS, ne, l0, l1, q⟩ := h
    refine ⟨_, pss_one (ps_ret (pe_ix ix_list (pv 1) (pe_call GD hr (by rfl) gD FD.kp bD .nil pass0 (pa_cons (pv 0) (pa_cons (pe_callB call_len_seq (by rfl) T.len PySem.boot_len (pa_cons (pv 1) pa_nil)) pa_nil))) (fun _ _ => rfl))), ?_⟩
    refine ⟨_, rfl, _, rfl, _, rfl, a, xs, rfl, .inl hS, j, _, rfl, hj, by omega, by omega, fun H' r hr b hj' => ?_⟩
    have hb : r < xs.length := by omega
    exact ⟨a, xs, _, xs[r], rfl, rfl, seq_but ne b hS, atI_nat (by rw [List.getElem?_eq_getElem hb]), q H' _ (List.getElem_mem hb) b hj'⟩
end
end Bb
/-! data: what stays, types, sizes; a list compared with an empty one; a text put ahead of a replaced one -/
namespace Bb
open PySem PySem.Spec PyProof.Rows L2
mutual
theorem Dq.stay {H H' : Hp} (h : ∀ a o, H a = some o → (o = .dK [] ∨ (∃ xs, o = .lst xs) ∨ ∃ xs, o = .tup xs) → H' a = some o) : ∀ (d : PyData) (v : V), Dq H v d → Dq H' v d
  | .none, _, q => by
    cases q
    exact .non
  | .bool b, _, q => by
    cases q
    exact .bl b
  | .int i, _, q => by
    cases q
    exact .int i
  | .str x, _, q => by
    cases q
    exact .str x
  | .list ds, _, q => by
    cases q with
    | lst e ha => exact .lst (h _ _ e (.inr (.inl ⟨_, rfl⟩))) (DqAll.stay h ds _ ha)
  | .tuple ds, _, q => by
    cases q with
    | tup e ha => exact .tup (h _ _ e (.inr (.inr ⟨_, rfl⟩))) (DqAll.stay h ds _ ha)
  | .dict kvs, _, q => by
    cases q with
    | dic e => exact .dic (h _ _ e (.inl rfl))
theorem DqAll.stay {H H' : Hp} (h : ∀ a o, H a = some o → (o = .dK [] ∨ (∃ xs, o = .lst xs) ∨ ∃ xs, o = .tup xs) → H' a = some o) : ∀ (ds : List PyData) (vs : List V), DqAll H vs ds → DqAll H' vs ds
  | [], _, q => by
    cases q
    exact .nil
  | d :: ds, _, q => by
    cases q with
    | cons a b => exact .cons (Dq.stay h d _ a) (DqAll.stay h ds _ b)
end
section
variable {H H' : Hp} {j p : Addr} {v : V} {vs : List V} {d : PyData} {ds : List PyData} {o : HO}
theorem Dq.same (e : Same H H') (q : Dq H v d) : Dq H' v d := Dq.stay (fun a o h _ => e a o h) d v q
theorem DqAll.same (e : Same H H') (q : DqAll H vs ds) : DqAll H' vs ds := DqAll.stay (fun a o h _ => e a o h) ds vs q
theorem jar_not {D M : Int} (hj : H j = some (.dK (jarL D M))) {a : Addr} {o : HO} (h : H a = some o) (k : o = .dK [] ∨ (∃ xs, o = .lst xs) ∨ ∃ xs, o = .tup xs) : a ≠ j := by
  rintro rfl
  rw [hj] at h
  cases h
  rcases k with k | ⟨_, k⟩ | ⟨_, k⟩
  · cases k
  · cases k
  · cases k
theorem Dq.but (hj : Jar H j) (e : But j H H') (q : Dq H v d) : Dq H' v d := by
  obtain ⟨D, M, hj, _⟩ := hj
  exact Dq.stay (fun a o h k => e a o (jar_not hj h k) h) d v q
theorem DqAll.but (hj : Jar H j) (e : But j H H') (q : DqAll H vs ds) : DqAll H' vs ds := by
  obtain ⟨D, M, hj, _⟩ := hj
  exact DqAll.stay (fun a o h k => e a o (jar_not hj h k) h) ds vs q
theorem lst_not (hj : Jar H j) {a : Addr} {xs : List V} (h : H a = some (.lst xs)) : a ≠ j := by
  obtain ⟨D, M, hj, _⟩ := hj
  exact jar_not hj h (.inr (.inl ⟨_, rfl⟩))
theorem Jar.same (e : Same H H') (h : Jar H j) : Jar H' j := by
  obtain ⟨D, M, hj, r⟩ := h
  exact ⟨D, M, e _ _ hj, r⟩
theorem Jar.some (h : Jar H j) (n : H p = none) : j ≠ p := by
  obtain ⟨D, M, hj, _⟩ := h
  exact ne_of_none hj n
theorem DqAll.len : ∀ {vs : List V} {ds : List PyData}, DqAll H vs ds → vs.length = ds.length
  | [], _, q => by
    cases q
    rfl
  | _ :: _, _, q => by
    cases q with
    | cons _ b =>
      rw [List.length_cons, List.length_cons, DqAll.len b]
theorem DqAll.at : ∀ {vs : List V} {ds : List PyData} {i : Nat} {v : V}, DqAll H vs ds → vs[i]? = some v → ∃ d, ds[i]? = some d ∧ Dq H v d
  | [], _, _, _, _, e => by simp at e
  | _ :: _, _, 0, _, q, e => by
    cases q with
    | cons a b =>
      cases e
      exact ⟨_, rfl, a⟩
  | _ :: _, _, i + 1, _, q, e => by
    cases q with
    | cons a b =>
      obtain ⟨d, h1, h2⟩ := DqAll.at (i := i) b e
      exact ⟨d, h1, h2⟩
theorem DqAll.take : ∀ {vs : List V} {ds : List PyData} (n : Nat), DqAll H vs ds → DqAll H (vs.take n) (ds.take n)
  | _, _, 0, _ => .nil
  | [], _, n + 1, q => by
    cases q
    exact .nil
  | _ :: _, _, n + 1, q => by
    cases q with
    | cons a b => exact .cons a (DqAll.take n b)
theorem DqAll.drop : ∀ {vs : List V} {ds : List PyData} (n : Nat), DqAll H vs ds → DqAll H (vs.drop n) (ds.drop n)
  | _, _, 0, q => q
  | [], _, n + 1, q => by
    cases q
    exact .nil
  | _ :: _, _, n + 1, q => by
    cases q with
    | cons a b => exact DqAll.drop n b
theorem DqAll.app : ∀ {vs ws : List V} {ds es : List PyData}, DqAll H vs ds → DqAll H ws es → DqAll H (vs ++ ws) (ds ++ es)
  | [], _, _, _, q, r => by
    cases q
    exact r
  | _ :: _, _, _, _, q, r => by
    cases q with
    | cons a b => exact .cons a (DqAll.app b r)
theorem DqAll.one (q : Dq H v d) : DqAll H [v] [d] := .cons q .nil
/-! ### types -/
def isS : PyData → Bool
  | .str _ => true
  | _ => false
def isL : PyData → Bool
  | .list _ => true
  | _ => false
theorem Dq.tyS {K : PySem.W.Frag} (q : Dq H v d) : ∃ t, TyX K H v (.type t) ∧ PySem.W.kitOne K (.type t) (.type "str") = some (isS d) := by
  cases q with
  | non => exact ⟨_, .base .non, kit_ty (by decide +kernel)⟩
  | bl b => exact ⟨_, .base (.bl b), kit_ty (by show _ = some false; decide +kernel)⟩
  | int i => exact ⟨_, .base (.int i), kit_ty (by show _ = some false; decide +kernel)⟩
  | str x => exact ⟨_, .base (.str x), kit_ty (by show _ = some true; decide +kernel)⟩
  | lst e _ => exact ⟨_, .base (.lst e), kit_ty (by show _ = some false; decide +kernel)⟩
  | tup e _ => exact ⟨_, .base (.tup e), kit_ty (by show _ = some false; decide +kernel)⟩
  | dic e => exact ⟨_, .base (.dK e), kit_ty (by decide +kernel)⟩
theorem Dq.tyL {K : PySem.W.Frag} (q : Dq H v d) : ∃ t, TyX K H v (.type t) ∧ PySem.W.kitOne K (.type t) (.type "list") = some (isL d) := by
  cases q with
  | non => exact ⟨_, .base .non, kit_ty (by decide +kernel)⟩
  | bl b => exact ⟨_, .base (.bl b), kit_ty (by show _ = some false; decide +kernel)⟩
  | int i => exact ⟨_, .base (.int i), kit_ty (by show _ = some false; decide +kernel)⟩
  | str x => exact ⟨_, .base (.str x), kit_ty (by show _ = some false; decide +kernel)⟩
  | lst e _ => exact ⟨_, .base (.lst e), kit_ty (by show _ = some true; decide +kernel)⟩
  | tup e _ => exact ⟨_, .base (.tup e), kit_ty (by show _ = some false; decide +kernel)⟩
  | dic e => exact ⟨_, .base (.dK e), kit_ty (by decide +kernel)⟩
end
/-! ### sizes -/
mutual
def wt : PyData → Nat
  | .none => 10
  | .bool _ => 10
  | .int i => 10 + (toString i : Str).length
  | .str x => 10 + x.length + (reprText x).length
  | .list ds => 10 + wtAll ds
  | .tuple ds => 10 + wtAll ds
  | .dict kvs => 10 + (PyData.shown (.dict kvs)).length
def wtAll : List PyData → Nat
  | [] => 0
  | d :: ds => wt d + wtAll ds
end
theorem wtAll_app : ∀ (a b : List PyData), wtAll (a ++ b) = wtAll a + wtAll b
  | [], b => by simp [wtAll]
  | x :: r, b => by
    rw [List.cons_append, wtAll, wtAll, wtAll_app r b]
    omega
theorem wtAll_take (a : List PyData) (n : Nat) : wtAll (a.take n) ≤ wtAll a := by
  have h := wtAll_app (a.take n) (a.drop n)
  rw [List.take_append_drop] at h
  omega
theorem wtAll_drop (a : List PyData) (n : Nat) : wtAll (a.drop n) ≤ wtAll a := by
  have h := wtAll_app (a.take n) (a.drop n)
  rw [List.take_append_drop] at h
  omega
theorem wt_at : ∀ {a : List PyData} {i : Nat} {d : PyData}, a[i]? = some d → wt d ≤ wtAll a
  | [], _, _, h => by simp at h
  | x :: r, 0, d, h => by
    have e : x = d := by simpa using h
    rw [wtAll, e]
    omega
  | x :: r, i + 1, d, h => by
    have := wt_at (a := r) (i := i) (d := d) (by simpa using h)
    rw [wtAll]
    omega
theorem wt_ten (d : PyData) : 10 ≤ wt d := by
  cases d <;> simp only [wt] <;> omega
theorem wt_len : ∀ a : List PyData, 10 * a.length ≤ wtAll a
  | [] => Nat.zero_le _
  | x :: r => by
    have h1 := wt_len r
    have h2 := wt_ten x
    rw [List.length_cons, wtAll]
    omega
theorem shownAll_len : ∀ ds : List PyData, (PyData.shownAll ds).length = ds.length
  | [] => by simp [PyData.shownAll]
  | d :: ds => by simp [PyData.shownAll, shownAll_len ds]
mutual
theorem shown_wt : ∀ d : PyData, d.shown.length + 2 ≤ wt d
  | .none => by
    rw [PyData.shown, wt]
    decide +kernel
  | .bool b => by
    rw [PyData.shown, wt]
    cases b <;> decide +kernel
  | .int i => by
    rw [PyData.shown, wt]
    omega
  | .str x => by
    rw [PyData.shown, wt]
    omega
  | .list ds => by
    have h := shownAll_wt ds
    have h2 := listText_len_le (PyData.shownAll ds)
    rw [shownAll_len] at h2
    rw [PyData.shown, wt]
    omega
  | .tuple ds => by
    have h := shownAll_wt ds
    have h2 := tupleText_len_le (PyData.shownAll ds)
    rw [shownAll_len] at h2
    rw [PyData.shown, wt]
    omega
  | .dict kvs => by
    rw [wt]
    omega
theorem shownAll_wt : ∀ ds : List PyData, ((PyData.shownAll ds).map (·.length)).sum + 2 * ds.length ≤ wtAll ds
  | [] => by simp [PyData.shownAll, wtAll]
  | d :: ds => by
    have h1 := shown_wt d
    have h2 := shownAll_wt ds
    rw [PyData.shownAll, wtAll, List.map_cons, List.sum_cons, List.length_cons]
    omega
end
/-- what is shown without a stop: not deeper than m, not larger than n -/
structure Fine (n m : Nat) (d : PyData) : Prop where
  w : wt d ≤ n
  p : d.depth ≤ m
  s : d.showable = true
structure FineA (n m : Nat) (ds : List PyData) : Prop where
  w : wtAll ds ≤ n
  p : PyData.depthAll ds ≤ m
  s : PyData.showableAll ds = true
section
variable {n m n' m' : Nat} {d : PyData} {ds es : List PyData}
theorem Fine.mono (h : Fine n m d) (a : n ≤ n') (b : m ≤ m') : Fine n' m' d := ⟨Nat.le_trans h.w a, Nat.le_trans h.p b, h.s⟩
theorem FineA.mono (h : FineA n m ds) (a : n ≤ n') (b : m ≤ m') : FineA n' m' ds := ⟨Nat.le_trans h.w a, Nat.le_trans h.p b, h.s⟩
theorem FineA.nil : FineA n m [] := ⟨by simp [wtAll], by simp [PyData.depthAll], by simp [PyData.showableAll]⟩
theorem FineA.cons (a : Fine n m d) (b : FineA n' m ds) : FineA (n + n') m (d :: ds) := by
  refine ⟨?_, ?_, ?_⟩
  · rw [wtAll]
    exact Nat.add_le_add a.w b.w
  · rw [PyData.depthAll]
    exact Nat.max_le.mpr ⟨a.p, b.p⟩
  · rw [PyData.showableAll, a.s, b.s]
    rfl
theorem FineA.app : ∀ {ds : List PyData}, FineA n m ds → FineA n' m es → FineA (n + n') m (ds ++ es) := by
  intro ds a b
  refine ⟨?_, ?_, ?_⟩
  · rw [wtAll_app]
    exact Nat.add_le_add a.w b.w
  · have h : ∀ (xs : List PyData), PyData.depthAll xs ≤ m → PyData.depthAll (xs ++ es) ≤ m := by
      intro xs
      induction xs with
      | nil => exact fun _ => b.p
      | cons x r ih =>
        intro q
        rw [PyData.depthAll] at q
        rw [List.cons_append, PyData.depthAll]
        exact Nat.max_le.mpr ⟨(Nat.max_le.mp q).1, ih (Nat.max_le.mp q).2⟩
    exact h ds a.p
  · have h : ∀ (xs : List PyData), PyData.showableAll xs = true → PyData.showableAll (xs ++ es) = true := by
      intro xs
      induction xs with
      | nil => exact fun _ => b.s
      | cons x r ih =>
        intro q
        rw [PyData.showableAll, Bool.and_eq_true] at q
        rw [List.cons_append, PyData.showableAll, q.1, ih q.2]
        rfl
    exact h ds a.s
theorem FineA.take (k : Nat) (h : FineA n m ds) : FineA n m (ds.take k) := by
  refine ⟨Nat.le_trans (wtAll_take ds k) h.w, ?_, ?_⟩
  · have g : ∀ (xs : List PyData) (k : Nat), PyData.depthAll xs ≤ m → PyData.depthAll (xs.take k) ≤ m := by
      intro xs
      induction xs with
      | nil => intro k q; simpa using q
      | cons x r ih =>
        intro k q
        cases k with
        | zero => simp [PyData.depthAll]
        | succ k =>
          rw [PyData.depthAll] at q
          rw [List.take_succ_cons, PyData.depthAll]
          exact Nat.max_le.mpr ⟨(Nat.max_le.mp q).1, ih k (Nat.max_le.mp q).2⟩
    exact g ds k h.p
  · have g : ∀ (xs : List PyData) (k : Nat), PyData.showableAll xs = true → PyData.showableAll (xs.take k) = true := by
      intro xs
      induction xs with
      | nil => intro k q; simpa using q
      | cons x r ih =>
        intro k q
        cases k with
        | zero => simp [PyData.showableAll]
        | succ k =>
          rw [PyData.showableAll, Bool.and_eq_true] at q
          rw [List.take_succ_cons, PyData.showableAll, q.1, ih k q.2]
          rfl
    exact g ds k h.s
theorem FineA.drop (k : Nat) (h : FineA n m ds) : FineA n m (ds.drop k) := by
  refine ⟨Nat.le_trans (wtAll_drop ds k) h.w, ?_, ?_⟩
  · have g : ∀ (xs : List PyData) (k : Nat), PyData.depthAll xs ≤ m → PyData.depthAll (xs.drop k) ≤ m := by
      intro xs
      induction xs with
      | nil => intro k q; simpa using q
      | cons x r ih =>
        intro k q
        cases k with
        | zero => exact q
        | succ k =>
          rw [PyData.depthAll] at q
          exact ih k (Nat.max_le.mp q).2
    exact g ds k h.p
  · have g : ∀ (xs : List PyData) (k : Nat), PyData.showableAll xs = true → PyData.showableAll (xs.drop k) = true := by
      intro xs
      induction xs with
      | nil => intro k q; simpa using q
      | cons x r ih =>
        intro k q
        cases k with
        | zero => exact q
        | succ k =>
          rw [PyData.showableAll, Bool.and_eq_true] at q
          exact ih k q.2
    exact g ds k h.s
theorem FineA.at {i : Nat} (h : FineA n m ds) (e : ds[i]? = some d) : Fine n m d := by
  refine ⟨Nat.le_trans (wt_at e) h.w, ?_, ?_⟩
  · exact Nat.le_trans (by
      have g : ∀ (xs : List PyData) (i : Nat), xs[i]? = some d → d.depth ≤ PyData.depthAll xs := by
        intro xs
        induction xs with
        | nil => intro i q; simp at q
        | cons x r ih =>
          intro i q
          rw [PyData.depthAll]
          cases i with
          | zero =>
            have : x = d := by simpa using q
            rw [this]
            exact Nat.le_max_left _ _
          | succ i => exact Nat.le_trans (ih i (by simpa using q)) (Nat.le_max_right _ _)
      exact g ds i e) h.p
  · have g : ∀ (xs : List PyData) (i : Nat), PyData.showableAll xs = true → xs[i]? = some d → d.showable = true := by
      intro xs
      induction xs with
      | nil => intro i _ q; simp at q
      | cons x r ih =>
        intro i z q
        rw [PyData.showableAll, Bool.and_eq_true] at z
        cases i with
        | zero =>
          have : x = d := by simpa using q
          rw [← this]
          exact z.1
        | succ i => exact ih i z.2 (by simpa using q)
    exact g ds i h.s e
theorem FineA.list (h : FineA n m ds) : Fine (n + 10) (m + 1) (.list ds) := by
  refine ⟨?_, ?_, ?_⟩
  · rw [wt]
    have := h.w
    omega
  · rw [PyData.depth]
    exact Nat.succ_le_succ h.p
  · rw [PyData.showable]
    exact h.s
theorem FineA.tuple (h : FineA n m ds) : Fine (n + 10) (m + 1) (.tuple ds) := by
  refine ⟨?_, ?_, ?_⟩
  · rw [wt]
    have := h.w
    omega
  · rw [PyData.depth]
    exact Nat.succ_le_succ h.p
  · rw [PyData.showable]
    exact h.s
theorem Fine.items (h : Fine n m (.list ds)) : FineA n (m - 1) ds ∧ 1 ≤ m := by
  obtain ⟨a, b, c⟩ := h
  rw [wt] at a
  rw [PyData.depth] at b
  rw [PyData.showable] at c
  exact ⟨⟨by omega, by omega, c⟩, by omega⟩
theorem FineA.len (h : FineA n m ds) : 10 * ds.length ≤ n := Nat.le_trans (wt_len ds) h.w
end
section
variable {X : Cx}
/-- a list compared with an empty one -/
def rEqE (K : PySem.W.Frag) : R2 := fun x y H Q => ∃ (a b : Addr) (xs : List V), x = .ref a ∧ y = .ref b ∧ SqL K H a xs ∧ SqL K H b [] ∧ Q (.bl xs.isEmpty) H
theorem op_eqE (hu : X.A.units + 64 < cLine) : OpR X (compareOp .Eq) (rEqE X.K) := by
  rintro pins s σ H x y v u Q I rx ry ⟨a, b, xs, rfl, rfl, ha, hb, q⟩
  cases rx
  cases ry
  obtain ⟨i1, r1, l1, _⟩ := I.list ha
  obtain ⟨i2, r2, l2, _⟩ := I.list hb
  cases r2
  have hl1 : s.heap.IsList a i1.toArray := by
    obtain ⟨o, n, h1, h2, h3, h4⟩ := l1
    exact ⟨o, h1, h2, n, h4⟩
  have hl2 : s.heap.IsList b #[] := by
    obtain ⟨o, n, h1, h2, h3, h4⟩ := l2
    exact ⟨o, h1, h2, n, h4⟩
  cases r1 with
  | nil =>
    exact SeqAt.eq_listAt (e := fun _ => true) hl1 hl2 rfl (by omega) (fun j h => absurd h (Nat.not_lt_zero _)) ⟨.bl true, H, I, rfl, q⟩
  | cons r t =>
    exact SeqAt.eq_list_lengthsAt hl1 hl2 (by simp) (by omega) ⟨.bl false, H, I, rfl, q⟩
/-- 'c' + e.replace('y', 'z') -/
theorem pe_addRepl {o : Expr} {to : TE} {c y z : Str} {j k l : Nat} {cp c0 c1 apos pos pos' : Pos} (ho : PE X o to) (hyz : (y == z) = false := by decide)
    (hst : starEach [.Constant (.str y) j c0, .Constant (.str z) k c1] X.env = [(false, eval (.Constant (.str y) j c0) X.env), (false, eval (.Constant (.str z) k c1) X.env)] := by rfl)
    (hbase : attributeBase o "replace" X.env (eval o X.env) = eval o X.env := by rfl) (hline : (apos.endLine == pos.line) = true := by rfl) :
    PE X (.BinOp (.Constant (.str c) l cp) .Add (.Call (.Attribute o "replace" apos) [.Constant (.str y) j c0, .Constant (.str z) k c1] [] pos) pos')
      (fun σ H Q => CwR.tReplC to y z σ H fun v H1 => ∃ x, v = .str x ∧ c.length + x.length ≤ sizeLine ∧ Q (.str (c ++ x)) H1) := by
  constructor
  intro pins s σ H Q I h
  apply wpAny_BinOp
  apply Calls.Constant_str
  have I1 := I.tok (s.toks + 1)
  have R := CwR.pet_replC (X := X) ho hyz hst hbase hline
  refine thn (R pins { s with toks := s.toks + 1 } σ H _ (Nat.le_add_left 1 s.toks) I1 h) ?_
  rintro u s2 ⟨v, H2, I2, r2, x, rfl, hl, q⟩
  exact op_add_str pins s2 σ H2 (.str c) (.str x) _ u Q I2 ⟨_, rfl⟩ r2 ⟨c, x, rfl, rfl, hl, q⟩
end
end Bb
/-! the orders of data -/
namespace Bb
open PySem PySem.Spec PyProof.Rows L2 PySem.W
section
variable {X : Cx}
def rLtQ : R2 := fun x y H Q => ∃ d e, Dq H x d ∧ Dq H y e ∧ alike d e = true ∧ d ≠ .none ∧ d.depth ≤ 60 ∧ Q (.bl (dataLt d e)) H
theorem op_ltQ (hu : X.A.units + 64 < cLine) : OpR X (compareOp .Lt) rLtQ := by
  rintro pins s σ H x y v u Q I rx ry ⟨d, e, hd, he, al, hn, hp, q⟩
  obtain ⟨as, r1⟩ := Dq.reads I d x v hd rx
  obtain ⟨bs, r2⟩ := Dq.reads I e y u he ry
  exact PySem.W.lt_data r1 r2 al hn (by have := Nat.min_le_left d.depth e.depth; omega) ⟨.bl _, H, I, rfl, q⟩
def rEqQ (neg : Bool) : R2 := fun x y H Q => ∃ d e, Dq H x d ∧ Dq H y e ∧ SeqAt.shaped d = true ∧ SeqAt.shaped e = true ∧ Q (.bl (if neg then !PyData.eqv d e else PyData.eqv d e)) H
theorem op_eqQ (hu : X.A.units + 64 < cLine) : OpR X (compareOp .Eq) (rEqQ false) := by
  rintro pins s σ H x y v u Q I rx ry ⟨d, e, hd, he, sd, se, q⟩
  obtain ⟨as, r1⟩ := Dq.reads I d x v hd rx
  obtain ⟨bs, r2⟩ := Dq.reads I e y u he ry
  exact SeqAt.compareEq_shaped r1 r2 sd se hu ⟨.bl _, H, I, rfl, q⟩
theorem op_neQ (hu : X.A.units + 64 < cLine) : OpR X (compareOp .NotEq) (rEqQ true) := by
  rintro pins s σ H x y v u Q I rx ry ⟨d, e, hd, he, sd, se, q⟩
  obtain ⟨as, r1⟩ := Dq.reads I d x v hd rx
  obtain ⟨bs, r2⟩ := Dq.reads I e y u he ry
  exact SeqAt.compareNe_shaped r1 r2 sd se hu ⟨.bl _, H, I, rfl, q⟩
end
/-! ### words and logs as data -/
def lineP (ws : List Str) : PyData := .list (ws.map .str)
def logP (ls : List (List Str)) : PyData := .list (ls.map lineP)
def rowP (ws : List Str) : PyData := .tuple (ws.map .str)
def wkeyP (w : Str) : PyData := .tuple [.int (w.length : Int), .str w]
def chars (ls : List (List Str)) : Nat := (ls.flatten.map Str.length).sum
def lkeyP (ls : List (List Str)) : PyData := .tuple [.int (ls.length : Int), .int (ls.flatten.length : Int), .int (chars ls : Int), .tuple (ls.map rowP)]
def wb (a b : Str) : Bool := decide (a.length < b.length) || (decide (a.length = b.length) && decide (a.cps.toList < b.cps.toList))
def lb (x y : List (List Str)) : Bool :=
  if x.length ≠ y.length then decide (x.length < y.length) else if x.flatten.length ≠ y.flatten.length then decide (x.flatten.length < y.flatten.length) else
  if chars x ≠ chars y then decide (chars x < chars y) else dataLt (logP x) (logP y)
theorem eqv_int (a b : Int) : PyData.eqv (.int a) (.int b) = decide (a = b) := by
  by_cases h : a = b <;> simp [PyData.eqv, h]
theorem eqv_str (a b : Str) : PyData.eqv (.str a) (.str b) = decide (a = b) := by
  by_cases h : a = b <;> simp [PyData.eqv, h]
theorem nat_dec (a b : Nat) : decide ((a : Int) = (b : Int)) = decide (a = b) := by
  by_cases h : a = b
  · rw [decide_eq_true h, decide_eq_true (by omega)]
  · rw [decide_eq_false h, decide_eq_false (by omega)]
theorem nat_lt (a b : Nat) : decide ((a : Int) < (b : Int)) = decide (a < b) := by
  by_cases h : a < b
  · rw [decide_eq_true h, decide_eq_true (by omega)]
  · rw [decide_eq_false h, decide_eq_false (by omega)]
theorem str_irr (l : List Nat) : ¬ l < l := List.lt_irrefl l
theorem lt_wkey (a b : Str) : dataLt (wkeyP a) (wkeyP b) = wb a b := by
  unfold wkeyP wb
  rw [dataLt_tuple, dataLt_cons (by rw [alike]), eqv_int, nat_dec, dataLt_int, nat_lt]
  by_cases h : a.length = b.length
  · rw [decide_eq_true h, if_pos rfl, dataLt_cons (by rw [alike]), eqv_str, dataLt_str, show decide (a.length < b.length) = false from decide_eq_false (by omega)]
    by_cases g : a = b
    · rw [decide_eq_true g, if_pos rfl, g, decide_eq_false (str_irr _)]
      rfl
    · rw [decide_eq_false g, if_neg Bool.false_ne_true]
      rfl
  · rw [decide_eq_false h, if_neg Bool.false_ne_true, Bool.false_and, Bool.or_false]
theorem toks_rows : ∀ ls : List (List Str), keyToksAll (ls.map rowP) = keyToksAll (ls.map lineP)
  | [] => rfl
  | x :: r => by
    rw [List.map_cons, List.map_cons, toks_all_cons, toks_all_cons, toks_rows r]
    unfold rowP lineP
    rw [keyToks, keyToks]
theorem alike_strs : ∀ x y : List Str, alikeAll (x.map PyData.str) (y.map PyData.str) = true
  | [], _ => by simp [alikeAll]
  | _ :: _, [] => by simp [alikeAll]
  | a :: r, b :: t => by
    rw [List.map_cons, List.map_cons, alikeAll, alike_strs r t, alike]
    rfl
theorem alike_rows : ∀ x y : List (List Str), alikeAll (x.map rowP) (y.map rowP) = true
  | [], _ => by simp [alikeAll]
  | _ :: _, [] => by simp [alikeAll]
  | a :: r, b :: t => by
    rw [List.map_cons, List.map_cons, alikeAll, alike_rows r t]
    unfold rowP
    rw [alike, alike_strs]
    rfl
theorem alike_lines : ∀ x y : List (List Str), alikeAll (x.map lineP) (y.map lineP) = true
  | [], _ => by simp [alikeAll]
  | _ :: _, [] => by simp [alikeAll]
  | a :: r, b :: t => by
    rw [List.map_cons, List.map_cons, alikeAll, alike_lines r t]
    unfold lineP
    rw [alike, alike_strs]
    rfl
theorem alike_wkey (a b : Str) : alike (wkeyP a) (wkeyP b) = true := by simp [wkeyP, alike, alikeAll]
theorem alike_log (x y : List (List Str)) : alike (logP x) (logP y) = true := by
  unfold logP
  rw [alike, alike_lines]
theorem alike_lkey (x y : List (List Str)) : alike (lkeyP x) (lkeyP y) = true := by
  unfold lkeyP
  simp [alike, alikeAll, alike_rows]
theorem lt_lkey (x y : List (List Str)) : dataLt (lkeyP x) (lkeyP y) = lb x y := by
  unfold lkeyP lb
  rw [dataLt_tuple, dataLt_cons (by rw [alike]), eqv_int, nat_dec, dataLt_int, nat_lt]
  by_cases h : x.length = y.length
  · rw [decide_eq_true h, if_pos rfl, if_neg (not_not_intro h), dataLt_cons (by rw [alike]), eqv_int, nat_dec, dataLt_int, nat_lt]
    by_cases g : x.flatten.length = y.flatten.length
    · rw [decide_eq_true g, if_pos rfl, if_neg (not_not_intro g), dataLt_cons (by rw [alike]), eqv_int, nat_dec, dataLt_int, nat_lt]
      by_cases k : chars x = chars y
      · rw [decide_eq_true k, if_pos rfl, if_neg (not_not_intro k)]
        have al : alike (.tuple (x.map rowP)) (.tuple (y.map rowP)) = true := by rw [alike, alike_rows]
        rw [dataLt_cons al]
        have e : dataLt (.tuple (x.map rowP)) (.tuple (y.map rowP)) = dataLt (logP x) (logP y) := by
          unfold logP
          rw [dataLt_tuple, dataLt_list, toks_rows, toks_rows]
        cases q : PyData.eqv (.tuple (x.map rowP)) (.tuple (y.map rowP)) with
        | false => rw [if_neg Bool.false_ne_true, e]
        | true =>
          rw [if_pos rfl, ← e]
          have t := (toks_eqv _ _ al).1 q
          unfold dataLt
          rw [t]
          exact (lex_irrefl _).trans (lex_irrefl _).symm
      · rw [decide_eq_false k, if_neg Bool.false_ne_true, if_pos k]
    · rw [decide_eq_false g, if_neg Bool.false_ne_true, if_pos g]
  · rw [decide_eq_false h, if_neg Bool.false_ne_true, if_pos h]
/-! ### equal data -/
theorem eqv_strs : ∀ x y : List Str, PyData.eqvAll (x.map PyData.str) (y.map PyData.str) = decide (x = y)
  | [], [] => by simp [PyData.eqvAll]
  | [], _ :: _ => by simp [PyData.eqvAll]
  | _ :: _, [] => by simp [PyData.eqvAll]
  | a :: r, b :: t => by
    rw [List.map_cons, List.map_cons, eqv_all_cons, eqv_str, eqv_strs r t]
    by_cases h : a = b <;> by_cases g : r = t <;> simp [h, g]
theorem eqv_line (x y : List Str) : PyData.eqv (lineP x) (lineP y) = decide (x = y) := by
  unfold lineP
  rw [PyData.eqv, eqv_strs]
theorem eqv_row (x y : List Str) : PyData.eqv (rowP x) (rowP y) = decide (x = y) := by
  unfold rowP
  rw [PyData.eqv, eqv_strs]
theorem eqv_lines : ∀ x y : List (List Str), PyData.eqvAll (x.map lineP) (y.map lineP) = decide (x = y)
  | [], [] => by simp [PyData.eqvAll]
  | [], _ :: _ => by simp [PyData.eqvAll]
  | _ :: _, [] => by simp [PyData.eqvAll]
  | a :: r, b :: t => by
    rw [List.map_cons, List.map_cons, eqv_all_cons, eqv_line, eqv_lines r t]
    by_cases h : a = b <;> by_cases g : r = t <;> simp [h, g]
theorem eqv_rows : ∀ x y : List (List Str), PyData.eqvAll (x.map rowP) (y.map rowP) = decide (x = y)
  | [], [] => by simp [PyData.eqvAll]
  | [], _ :: _ => by simp [PyData.eqvAll]
  | _ :: _, [] => by simp [PyData.eqvAll]
  | a :: r, b :: t => by
    rw [List.map_cons, List.map_cons, eqv_all_cons, eqv_row, eqv_rows r t]
    by_cases h : a = b <;> by_cases g : r = t <;> simp [h, g]
theorem eqv_log (x y : List (List Str)) : PyData.eqv (logP x) (logP y) = decide (x = y) := by
  unfold logP
  rw [PyData.eqv, eqv_lines]
theorem eqv_wkey (a b : Str) : PyData.eqv (wkeyP a) (wkeyP b) = decide (a = b) := by
  unfold wkeyP
  rw [PyData.eqv, eqv_all_cons, eqv_all_cons, eqv_int, eqv_str, nat_dec]
  by_cases h : a = b <;> simp [h, PyData.eqvAll]
theorem eqv_lkey (x y : List (List Str)) : PyData.eqv (lkeyP x) (lkeyP y) = decide (x = y) := by
  unfold lkeyP
  rw [PyData.eqv, eqv_all_cons, eqv_all_cons, eqv_all_cons, eqv_all_cons, eqv_int, eqv_int, eqv_int, nat_dec, nat_dec, nat_dec, PyData.eqv, eqv_rows]
  by_cases h : x = y
  · subst h
    simp [PyData.eqvAll]
  · simp [h]
/-! ### shapes of data -/
/-- a word as the laws draw them -/
def Wk (x : Str) : Prop := PyData.strOk x = true ∧ x.length ≤ 10 ∧ wt (.str x) ≤ 50
def Lk (ws : List Str) : Prop := ws.length ≤ 5 ∧ ∀ x ∈ ws, Wk x
def Gk (ls : List (List Str)) : Prop := ls.length ≤ 5 ∧ ∀ ws ∈ ls, Lk ws
theorem lay_strs : ∀ x : List Str, (∀ w ∈ x, Wk w) → PyData.canLayAll0 (x.map PyData.str) = true ∧ PyData.depthAll (x.map PyData.str) = 0
  | [], _ => by simp [PyData.canLayAll0, PyData.depthAll]
  | a :: r, h => by
    obtain ⟨h1, h2⟩ := lay_strs r fun w hw => h w (List.mem_cons_of_mem _ hw)
    have h3 := (h a (List.mem_cons_self ..)).1
    simp [PyData.canLayAll0, PyData.depthAll, PyData.canLay0, PyData.depth, h1, h2, h3]
theorem lay_lines : ∀ x : List (List Str), (∀ ws ∈ x, ∀ w ∈ ws, Wk w) → PyData.canLayAll0 (x.map lineP) = true ∧ PyData.depthAll (x.map lineP) ≤ 1
  | [], _ => by simp [PyData.canLayAll0, PyData.depthAll]
  | a :: r, h => by
    obtain ⟨h1, h2⟩ := lay_lines r fun w hw => h w (List.mem_cons_of_mem _ hw)
    obtain ⟨g1, g2⟩ := lay_strs a (h a (List.mem_cons_self ..))
    simp [PyData.canLayAll0, PyData.depthAll, PyData.canLay0, PyData.depth, lineP, h1, g1, g2]
    exact Nat.max_le.mpr ⟨Nat.le_refl _, h2⟩
theorem lay_rows : ∀ x : List (List Str), (∀ ws ∈ x, ∀ w ∈ ws, Wk w) → PyData.canLayAll0 (x.map rowP) = true ∧ PyData.depthAll (x.map rowP) ≤ 1
  | [], _ => by simp [PyData.canLayAll0, PyData.depthAll]
  | a :: r, h => by
    obtain ⟨h1, h2⟩ := lay_rows r fun w hw => h w (List.mem_cons_of_mem _ hw)
    obtain ⟨g1, g2⟩ := lay_strs a (h a (List.mem_cons_self ..))
    simp [PyData.canLayAll0, PyData.depthAll, PyData.canLay0, PyData.depth, rowP, h1, g1, g2]
    exact Nat.max_le.mpr ⟨Nat.le_refl _, h2⟩
theorem shaped_log {x : List (List Str)} (h : Gk x) : SeqAt.shaped (logP x) = true ∧ (logP x).depth ≤ 2 := by
  obtain ⟨h1, h2⟩ := lay_lines x fun ws hw => (h.2 ws hw).2
  refine ⟨?_, ?_⟩
  · unfold SeqAt.shaped logP
    rw [PyData.canLay0, h1, PyData.depth]
    simp
    omega
  · unfold logP
    rw [PyData.depth]
    omega
theorem shaped_wkey {a : Str} (h : Wk a) : SeqAt.shaped (wkeyP a) = true ∧ (wkeyP a).depth ≤ 2 := by
  refine ⟨?_, ?_⟩
  · simp [SeqAt.shaped, wkeyP, PyData.canLay0, PyData.canLayAll0, PyData.depth, PyData.depthAll, h.1]
  · simp [wkeyP, PyData.depth, PyData.depthAll]
theorem shaped_lkey {x : List (List Str)} (h : Gk x) : SeqAt.shaped (lkeyP x) = true ∧ (lkeyP x).depth ≤ 3 := by
  obtain ⟨h1, h2⟩ := lay_rows x fun ws hw => (h.2 ws hw).2
  refine ⟨?_, ?_⟩
  · simp [SeqAt.shaped, lkeyP, PyData.canLay0, PyData.canLayAll0, PyData.depth, PyData.depthAll, h1]
    omega
  · simp [lkeyP, PyData.depth, PyData.depthAll]
    omega
/-! ### a < b < c < d < e, each of them so -/
section
variable {X : Cx} {a b c d e : Expr} {ta tb tc td te : TE} {pos : Pos}
def tUp (r : R2) (ta tb tc td te : TE) : TE := fun σ H Q => ta σ H fun x H1 => tb σ H1 fun y H2 => r x y H2 fun k1 H3 => k1 = .bl true ∧ tc σ H3 fun z H4 => r y z H4 fun k2 H5 => k2 = .bl true ∧ td σ H5 fun u H6 => r z u H6 fun k3 H7 => k3 = .bl true ∧
  te σ H7 fun v H8 => r u v H8 Q
theorem pe_up {op : CmpOp} {r : R2} (ho : OpR X (compareOp op) r) (ha : PE X a ta) (hb : PE X b tb) (hc : PE X c tc) (hd : PE X d td) (he : PE X e te) (hm : lastMarks [op, op, op, op] [b, c, d, e] = false := by with_unfolding_all rfl) :
    PE X (.Compare a [op, op, op, op] [b, c, d, e] pos) (tUp r ta tb tc td te) := by
  constructor
  intro pins s σ H Q I h
  refine Compare_chain (thn (ha.run pins s σ H _ I h) ?_) hm
  rintro v1 s1 ⟨x1, H1, I1, r1, q1⟩
  refine chain_link (thn (hb.run pins s1 σ H1 _ I1 q1) ?_)
  rintro v2 s2 ⟨x2, H2, I2, r2, q2⟩
  refine thn (ho pins s2 σ H2 x1 x2 v1 v2 _ I2 r1 r2 q2) ?_
  rintro k1 s3 ⟨z1, H3, I3, t1, rfl, q3⟩
  cases t1
  refine wpAny_truthy_bool (ite_tt (chain_link (thn (hc.run pins s3 σ H3 _ I3 q3) ?_)))
  rintro v3 s4 ⟨x3, H4, I4, r3, q4⟩
  refine thn (ho pins s4 σ H4 x2 x3 v2 v3 _ I4 r2 r3 q4) ?_
  rintro k2 s5 ⟨z2, H5, I5, t2, rfl, q5⟩
  cases t2
  refine wpAny_truthy_bool (ite_tt (chain_link (thn (hd.run pins s5 σ H5 _ I5 q5) ?_)))
  rintro v4 s6 ⟨x4, H6, I6, r4, q6⟩
  refine thn (ho pins s6 σ H6 x3 x4 v3 v4 _ I6 r3 r4 q6) ?_
  rintro k3 s7 ⟨z3, H7, I7, t3, rfl, q7⟩
  cases t3
  refine wpAny_truthy_bool (ite_tt (chain_last (thn (he.run pins s7 σ H7 _ I7 q7) ?_)))
  rintro v5 s8 ⟨x5, H8, I8, r5, q8⟩
  exact ho pins s8 σ H8 x4 x5 v4 v5 Q I8 r4 r5 q8
end
end Bb
/-! keys and sizes -/
namespace Bb
open PySem PySem.Spec PyProof.Rows L2
/-! ### all but one list -/
def wo (H : Hp) (L : Addr) : Hp := fun b => if b = L then none else H b
section
variable {H H' : Hp} {L j p : Addr} {o : HO}
theorem wo_ne (h : p ≠ L) : wo H L p = H p := by
  unfold wo
  rw [if_neg h]
theorem wo_some {b : Addr} {o : HO} (h : wo H L b = some o) : b ≠ L ∧ H b = some o := by
  unfold wo at h
  by_cases e : b = L
  · rw [if_pos e] at h
    cases h
  · rw [if_neg e] at h
    exact ⟨e, h⟩
theorem wo_upd : wo (upd H L o) L = wo H L := by
  funext b
  unfold wo
  by_cases e : b = L
  · rw [if_pos e, if_pos e]
  · rw [if_neg e, if_neg e, upd_ne e]
theorem wo_sub : Same (wo H L) H := fun b o h => (wo_some h).2
theorem wo_but (h : But j H H') : But j (wo H L) (wo H' L) := fun b o n q => by
  obtain ⟨h1, h2⟩ := wo_some q
  rw [wo_ne h1]
  exact h b o n h2
theorem wo_jar (n : j ≠ L) (h : Jar H j) : Jar (wo H L) j := by
  obtain ⟨D, M, hj, r⟩ := h
  exact ⟨D, M, by rw [wo_ne n]; exact hj, r⟩
theorem same_but {H1 : Hp} (s : Same H H1) (n : H j = none) (b : But j H1 H') : Same H H' := fun c o h => b c o (ne_of_none h n) (s c o h)
theorem but_mut (b : But j H H') (n : H p = none) : But j H (upd H' p o) := fun c u m h => by
  rw [upd_ne (ne_of_none h n)]
  exact b c u m h
theorem Jar.put (h : Jar H j) (n : j ≠ p) : Jar (upd H p o) j := by
  obtain ⟨D, M, hj, r⟩ := h
  exact ⟨D, M, by rw [upd_ne n]; exact hj, r⟩
end

theorem scWordKey : FnScope ["word"] ["word"] (defScope sWordKey) := ⟨rfl, rfl, rfl, by decide +kernel, rfl, by decide +kernel, by decide +kernel⟩
theorem scLogKey : FnScope ["log", "words", "many_chars", "line", "word"] ["log"] (defScope sLogKey) := ⟨rfl, rfl, rfl, by decide +kernel, rfl, by decide +kernel, by decide +kernel⟩
theorem scWordBefore : FnScope ["one", "other"] ["one", "other"] (defScope sWordBefore) := ⟨rfl, rfl, rfl, by decide +kernel, rfl, by decide +kernel, by decide +kernel⟩
theorem scSizes : FnScope ["log", "lots", "line", "word"] ["log"] (defScope sSizes) := ⟨rfl, rfl, rfl, by decide +kernel, rfl, by decide +kernel, by decide +kernel⟩
theorem scLogBefore : FnScope ["one", "other", "first", "second"] ["one", "other"] (defScope sLogBefore) := ⟨rfl, rfl, rfl, by decide +kernel, rfl, by decide +kernel, by decide +kernel⟩
theorem scMakeLog : FnScope ["jar", "log", "line", "step", "turn"] ["jar"] (defScope sMakeLog) := ⟨rfl, rfl, rfl, by decide +kernel, rfl, by decide +kernel, by decide +kernel⟩
/-! ### logs in the heap -/
theorem strs_of {H : Hp} : ∀ {xs : List V} {ws : List Str}, DqAll H xs (ws.map PyData.str) → xs = ws.map V.str
  | [], [], _ => rfl
  | [], _ :: _, h => by cases h
  | _ :: _, [], h => by cases h
  | x :: xs, y :: ws, h => by
    cases h with
    | cons a b =>
      cases a
      rw [List.map_cons, strs_of b]
theorem dq_strs (H : Hp) : ∀ ws : List Str, DqAll H (ws.map V.str) (ws.map PyData.str)
  | [] => .nil
  | x :: r => .cons (.str x) (dq_strs H r)
theorem line_at {H : Hp} {v : V} {ws : List Str} (q : Dq H v (lineP ws)) : ∃ a, v = .ref a ∧ H a = some (.lst (ws.map V.str)) := by
  unfold lineP at q
  cases q with
  | lst e ha =>
    rw [strs_of ha] at e
    exact ⟨_, rfl, e⟩
theorem log_at {H : Hp} {v : V} {ls : List (List Str)} (q : Dq H v (logP ls)) : ∃ a xs, v = .ref a ∧ H a = some (.lst xs) ∧ DqAll H xs (ls.map lineP) := by
  unfold logP at q
  cases q with
  | lst e ha => exact ⟨_, _, rfl, e, ha⟩
theorem item_at {H : Hp} {xs : List V} {ls : List (List Str)} {i : Nat} {x : V} (h : DqAll H xs (ls.map lineP)) (e : xs[i]? = some x) : ∃ ws b, ls[i]? = some ws ∧ x = .ref b ∧ H b = some (.lst (ws.map V.str)) := by
  obtain ⟨d, h1, h2⟩ := h.at e
  rw [List.getElem?_map] at h1
  cases q : ls[i]? with
  | none =>
    rw [q] at h1
    cases h1
  | some ws =>
    rw [q] at h1
    cases h1
    obtain ⟨b, rfl, hb⟩ := line_at h2
    exact ⟨ws, b, rfl, rfl, hb⟩
theorem sum_cast : ∀ l : List Nat, (l.map fun n : Nat => (n : Int)).sum = ((l.sum : Nat) : Int)
  | [] => rfl
  | x :: r => by
    rw [List.map_cons, List.sum_cons, List.sum_cons, sum_cast r]
    omega
theorem flat_take {ls : List (List Str)} {i : Nat} {ws : List Str} (h : ls[i]? = some ws) : (ls.take (i + 1)).flatten = (ls.take i).flatten ++ ws := by
  rw [List.take_add_one, h, List.flatten_append]
  simp
theorem flat_len {ls : List (List Str)} (h : Gk ls) : ls.flatten.length ≤ 25 := by
  have g : ∀ l : List (List Str), (∀ ws ∈ l, Lk ws) → l.flatten.length ≤ 5 * l.length := by
    intro l
    induction l with
    | nil => intro _; exact Nat.zero_le _
    | cons x r ih =>
      intro q
      have h1 := (q x (List.mem_cons_self ..)).1
      have h2 := ih fun w hw => q w (List.mem_cons_of_mem _ hw)
      rw [List.flatten_cons, List.length_append, List.length_cons]
      omega
  have h1 := g ls h.2
  have h2 := h.1
  omega
def rTup (K : PySem.W.Frag) : List V → Hp → VK → Prop := fun xs H Q => ∃ p ys, xs = [.ref p] ∧ SqL K H p ys ∧ ∀ l, H l = none → Q (.ref l) (upd H l (.tup ys))
theorem call_tup {X : Cx} : CallR X (.type "tuple") (rTup X.K) := by
  rintro pins s σ H xs us Q I r ⟨p, ys, rfl, h, q⟩
  exact call_tuple_of pins s σ H _ us Q I r ⟨p, ys, rfl, .inl ⟨h, q⟩⟩
def rLen1 (K : PySem.W.Frag) : List V → Hp → VK → Prop := fun xs H Q => ∃ p ys, xs = [.ref p] ∧ SqL K H p ys ∧ Q (.int ys.length) H
theorem call_len1 {X : Cx} : CallR X (.builtin "len") (rLen1 X.K) := by
  rintro pins s σ H xs us Q I r ⟨p, ys, rfl, h, q⟩
  exact call_len_seq pins s σ H _ us Q I r ⟨p, ys, rfl, .inl h, q⟩
def rLenS1 : List V → Hp → VK → Prop := fun xs H Q => ∃ x : Str, xs = [.str x] ∧ x.length ≤ sizeLine ∧ Q (.int x.length) H
theorem call_lenS1 {X : Cx} : CallR X (.builtin "len") rLenS1 := by
  rintro pins s σ H xs us Q I r ⟨x, rfl, h, q⟩
  exact call_len_str pins s σ H _ us Q I r ⟨x, rfl, h, q⟩
/-! ### displays of data -/
def EvD (te : TE) (σ : L2.St) (d : PyData) : Prop := ∀ (H : Hp) (Q : VK), (∀ v H', Same H H' → Dq H' v d → Q v H') → te σ H Q
def EvDA (ta : TA) (σ : L2.St) (ds : List PyData) : Prop := ∀ (H : Hp) (Q : List V → Hp → Prop), (∀ vs H', Same H H' → DqAll H' vs ds → Q vs H') → ta σ H Q
section
variable {σ : L2.St} {te : TE} {ta : TA} {d : PyData} {ds : List PyData}
theorem ed_non : EvD (tC .non) σ .none := fun H Q q => q _ H (Same.refl H) .non
theorem ed_bl {b : Bool} : EvD (tC (.bl b)) σ (.bool b) := fun H Q q => q _ H (Same.refl H) (.bl b)
theorem ed_int {i : Int} : EvD (tC (.int i)) σ (.int i) := fun H Q q => q _ H (Same.refl H) (.int i)
theorem ed_str {x : Str} : EvD (tC (.str x)) σ (.str x) := fun H Q q => q _ H (Same.refl H) (.str x)
theorem ed_neg {i : Int} : EvD (tUn (rU fun i => .int (-i)) (tC (.int i))) σ (.int (-i)) := fun H Q q => ⟨i, rfl, q _ H (Same.refl H) (.int _)⟩
theorem ed_pow {i j : Int} (h : CPow i j) : EvD (tOp (rI CPow fun i j => .int (i ^ j.toNat)) (tC (.int i)) (tC (.int j))) σ (.int (i ^ j.toNat)) := fun H Q q => ⟨i, j, rfl, rfl, h, q _ H (Same.refl H) (.int _)⟩
theorem ed_dict : EvD tDNewK σ (.dict []) := fun H Q q p np => q _ _ (same_new np) (.dic upd_same)
theorem ed_nil : EvDA tNil σ [] := fun H Q q => q [] H (Same.refl H) .nil
theorem ed_cons (h : EvD te σ d) (t : EvDA ta σ ds) : EvDA (tCons te ta) σ (d :: ds) := fun H Q q =>
  h H _ fun v H1 s1 q1 => t H1 _ fun vs H2 s2 q2 => q _ H2 (s1.trans s2) (.cons (q1.same s2) q2)
theorem ed_lst (h : EvDA ta σ ds) (hl : ds.length ≤ 1000) : EvD (tLst ta) σ (.list ds) := fun H Q q =>
  h H _ fun vs H1 s1 q1 => ⟨by rw [q1.len, sizeLine_eq]; omega, fun p np => q _ _ (s1.trans (same_new np)) (.lst upd_same (q1.same (same_new np)))⟩
theorem ed_tup (h : EvDA ta σ ds) (hl : ds.length ≤ 1000) : EvD (tTup ta) σ (.tuple ds) := fun H Q q =>
  h H _ fun vs H1 s1 q1 => ⟨by rw [q1.len, sizeLine_eq]; omega, fun p np => q _ _ (s1.trans (same_new np)) (.tup upd_same (q1.same (same_new np)))⟩
end
theorem seq_set {te : TE} {i : Nat} {t2 : TS} {D : Ends} {σ : L2.St} {H : Hp} (h : te σ H fun v H1 => t2 D (σ.set i (some v)) H1) : tSeq (tAsg te (gName i)) t2 D σ H := h
theorem DqAll.mem {H : Hp} : ∀ {vs : List V} {ds : List PyData} {v : V}, DqAll H vs ds → v ∈ vs → ∃ d, d ∈ ds ∧ Dq H v d
  | [], _, _, _, h => nomatch h
  | _ :: _, _, _, q, h => by
    cases q with
    | cons a b =>
      rcases List.mem_cons.mp h with e | e
      · subst e
        exact ⟨_, List.mem_cons_self .., a⟩
      · obtain ⟨d, h1, h2⟩ := DqAll.mem b e
        exact ⟨d, List.mem_cons_of_mem _ h1, h2⟩
structure TK (mg : Str → Option Value) : Prop where
  len : mg "len" = none
  sum : mg "sum" = none
  tup : mg "tuple" = none
  zip : mg "zip" = none
section
variable {P : Program} {w : World} {K : PySem.W.Frag} {mg : Str → Option Value} {base : Heap}
theorem small_lt {n : Nat} (h : n ≤ 1000) : n < sizeLine := by
  rw [sizeLine_eq]
  omega
theorem small_le {n : Nat} (h : n ≤ 1000) : n ≤ sizeLine := Nat.le_of_lt (small_lt h)
def spWordKey : Sp := fun vs H Q _ => ∃ x : Str, vs = [.str x] ∧ Wk x ∧ ∀ H' v, Same H H' → Dq H' v (wkeyP x) → Q v H'
theorem ok_wordKey {f : Addr} {fd : FuncData} {k : Nat} (F : Fun K "word_key" "word_key" sWordKey f fd) (T : TK mg) : FnOk P w K mg base CX0 (k + 1) f fd ["word"] spWordKey := by
  refine F.ok scWordKey (fun vs H Q E h => ?_) (fun cdv A outer s H vs Q E hr h => ?_)
  · obtain ⟨x, rfl, _⟩ := h
    rfl
  · obtain ⟨x, rfl, hx, q⟩ := h
    refine ⟨_, pss_one (ps_ret (pe_tup (pa_cons (pe_callB call_len_str (by rfl) T.len PySem.boot_len (pa_cons (pv 0) pa_nil)) (pa_cons (pv 0) pa_nil)))), ?_⟩
    refine ⟨_, rfl, x, rfl, small_le (by have := hx.2.1; omega), _, rfl, by show 2 ≤ sizeLine; decide, fun p np => ?_⟩
    exact q _ _ (same_new np) (.tup upd_same (.cons (.int _) (.one (.str x))))
def spLogKey : Sp := fun vs H Q _ => ∃ (v : V) (ls : List (List Str)), vs = [v] ∧ Dq H v (logP ls) ∧ Gk ls ∧ ∀ H' v', Same H H' → Dq H' v' (lkeyP ls) → Q v' H'
set_option maxHeartbeats 1000000 in
theorem ok_logKey {f : Addr} {fd : FuncData} {k : Nat} (F : Fun K "log_key" "log_key" sLogKey f fd) (T : TK mg) : FnOk P w K mg base CX0 (k + 1) f fd ["log"] spLogKey := by
  refine F.ok scLogKey (fun vs H Q E h => ?_) (fun cdv A outer s H vs Q E hr h => ?_)
  · obtain ⟨v, ls, rfl, _⟩ := h
    rfl
  · obtain ⟨v, ls, rfl, hd, hg, q⟩ := h
    refine ⟨_, pss_cons (ps_setLc2 (i := 1) (own := [("line", 3), ("word", 4)]) (vs1 := [4]) (g := gName 3) (tt := tYes) (wi1 := iList K (tVar 3)) (g1 := gName 4) (tt1 := tYes) rfl scLogKey.nd rfl rfl (sw_true rfl rfl rfl (by decide +kernel)) (pi_list (pv 0))
        (blkOk_by (own := [("line", 3), ("word", 4)]) (N := ["log", "words", "many_chars", "line", "word"]) (sc := defScope sLogKey) (by decide +kernel)) (by decide)
        (fun _ _ _ _ _ => pg_name (i := 3) scLogKey.nd rfl (Or.inl rfl)) (fun _ _ _ _ _ => pts_nil) (fun _ _ _ _ _ => pi_list (pv 3)) (fun _ _ _ _ _ => pg_name (i := 4) scLogKey.nd rfl (Or.inl rfl)) (fun _ _ _ _ _ => pts_nil) (fun _ _ _ _ _ => pv 4))
      (pss_cons (ps_set (i := 2) scLogKey.nd rfl (.inl rfl) (pe_callB (cr_sum rfl) (by rfl) T.sum (by decide +kernel) (pa_cons
        (pe_lc (own := [("word", 4)]) (g := gName 4) (tt := tYes) rfl scLogKey.nd (pi_list (pv 1)) (blkOk_by (own := [("word", 4)]) (N := ["log", "words", "many_chars", "line", "word"]) (sc := defScope sLogKey) (by decide +kernel))
          (fun _ _ _ _ _ => pg_name (i := 4) scLogKey.nd rfl (Or.inl rfl)) (fun _ _ _ _ _ => pts_nil) (fun _ _ _ _ _ => pe_callB call_len_str (by rfl) T.len PySem.boot_len (pa_cons (pv 4) pa_nil))) pa_nil)))
      (pss_one (ps_ret (pe_tup (pa_cons (pe_callB call_len_seq (by rfl) T.len PySem.boot_len (pa_cons (pv 0) pa_nil)) (pa_cons (pe_callB call_len_seq (by rfl) T.len PySem.boot_len (pa_cons (pv 1) pa_nil)) (pa_cons (pv 2)
        (pa_cons (pe_callTy (T := "tuple") (r := rTup K) call_tup (by rfl) T.tup (by decide +kernel) (pa_cons
          (pe_lc (own := [("line", 3)]) (g := gName 3) (tt := tYes) rfl scLogKey.nd (pi_list (pv 0)) (blkOk_by (own := [("line", 3)]) (N := ["log", "words", "many_chars", "line", "word"]) (sc := defScope sLogKey) (by decide +kernel))
            (fun _ _ _ _ _ => pg_name (i := 3) scLogKey.nd rfl (Or.inl rfl)) (fun _ _ _ _ _ => pts_nil) (fun _ _ _ _ _ => pe_callTy (T := "tuple") (r := rTup K) call_tup (by rfl) T.tup (by decide +kernel) (pa_cons (pv 3) pa_nil))) pa_nil)) pa_nil)))))))), ?_⟩
    obtain ⟨a, xs, rfl, ea, qa⟩ := log_at hd
    have hxl : xs.length = ls.length := by rw [qa.len, List.length_map]
    have hfl := flat_len hg
    -- the words
    refine ⟨_, rfl, a, rfl, ⟨xs, .inl (.inl ea)⟩, fun D nD => ?_⟩
    refine ⟨fun i m H' => m = xs.length - i ∧ i ≤ xs.length ∧ Same H H' ∧ H' D = some (.lst ((ls.take i).flatten.map V.str)), ⟨xs.length, rfl, Nat.zero_le _, same_new nD, upd_same⟩, ?_⟩
    rintro i m H1 ⟨rfl, hi, s1, e1⟩
    by_cases hlt : i < xs.length
    · obtain ⟨ws, b, hws, hxb, hb⟩ := item_at qa (List.getElem?_eq_getElem hlt)
      refine .inr ⟨⟨xs, xs[i], .inl (.inl (s1 _ _ ea)), List.getElem?_eq_getElem hlt⟩, fun H' => Same H H' ∧ H' D = some (.lst ((ls.take (i + 1)).flatten.map V.str)), fun H' h' => ⟨xs.length - (i + 1), by omega, rfl, hlt, h'.1, h'.2⟩, ?_⟩
      rintro x H2 ⟨rfl, hx⟩
      have ex : x = xs[i] := Option.some.inj ((hx xs (.inl (.inl (s1 _ _ ea)))).symm.trans (List.getElem?_eq_getElem hlt))
      rw [ex, hxb]
      refine ⟨rfl, _, rfl, b, rfl, ⟨_, .inl (.inl (s1 _ _ hb))⟩, ?_⟩
      refine ⟨fun j k H' => k = ws.length - j ∧ j ≤ ws.length ∧ Same H H' ∧ H' D = some (.lst (((ls.take i).flatten ++ ws.take j).map V.str)), ⟨ws.length, rfl, Nat.zero_le _, s1, by rw [List.take_zero, List.append_nil]; exact e1⟩, ?_⟩
      rintro j k H3 ⟨rfl, hj, s3, e3⟩
      have hb3 : SqL K H3 b (ws.map V.str) := .inl (.inl (s3 _ _ hb))
      by_cases hlj : j < ws.length
      · refine .inr ⟨⟨_, .str ws[j], hb3, by rw [List.getElem?_map, List.getElem?_eq_getElem hlj]; rfl⟩, fun H' => Same H H' ∧ H' D = some (.lst (((ls.take i).flatten ++ ws.take (j + 1)).map V.str)), fun H' h' => ⟨ws.length - (j + 1), by omega, rfl, hlj, h'.1, h'.2⟩, ?_⟩
        rintro y H4 ⟨rfl, hy⟩
        have ey : y = .str ws[j] := Option.some.inj ((hy _ hb3).symm.trans (by rw [List.getElem?_map, List.getElem?_eq_getElem hlj]; rfl))
        rw [ey]
        refine ⟨rfl, _, rfl, _, e3, ?_, same_mut s3 nD, ?_⟩
        · have hwl := (hg.2 ws (List.mem_of_getElem? hws)).1
          have h9 : (ls.take i).flatten.length ≤ ls.flatten.length := by
            have := congrArg List.length (congrArg List.flatten (List.take_append_drop i ls))
            rw [List.flatten_append, List.length_append] at this
            omega
          rw [List.length_map, List.length_append, List.length_take]
          exact small_lt (by omega)
        · rw [upd_same, List.take_add_one, List.getElem?_eq_getElem hlj, ← List.append_assoc, List.map_append (l₁ := (ls.take i).flatten ++ ws.take j)]
          rfl
      · have ej : j = ws.length := by omega
        subst ej
        refine .inl ⟨⟨_, hb3, by rw [List.length_map]; exact Nat.le_refl _⟩, s3, ?_⟩
        rw [e3, List.take_length, flat_take hws]
    · have ei : i = xs.length := by omega
      subst ei
      refine .inl ⟨⟨xs, .inl (.inl (s1 _ _ ea)), Nat.le_refl _⟩, ?_⟩
      rw [hxl, List.take_length] at e1
      -- how many characters
      refine ⟨_, rfl, D, rfl, ⟨_, .inl (.inl e1)⟩, fun D2 nD2 => ?_⟩
      have nD20 : H D2 = none := s1.free nD2
      refine lc_list (K := K) (a := D) (xs := ls.flatten.map V.str) (fun i H' => Same H1 H' ∧ H' D2 = some (.lst (((ls.flatten.take i).map fun x : Str => (x.length : Int)).map V.int))) ⟨same_new nD2, upd_same⟩ (fun i H' _ ⟨s, _⟩ => s.seq (.inl (.inl e1))) ?_ ?_
      · rintro i y H2 hy ⟨s2, e2⟩
        rw [List.getElem?_map] at hy
        cases hz : ls.flatten[i]? with
        | none =>
          rw [hz] at hy
          cases hy
        | some z =>
          rw [hz] at hy
          cases hy
          have hi : i < ls.flatten.length := (List.getElem?_eq_some_iff.mp hz).1
          have hzl : Wk z := by
            obtain ⟨ws, h1, h2⟩ := List.mem_flatten.mp (List.mem_of_getElem? hz)
            exact (hg.2 ws h1).2 z h2
          refine ⟨rfl, _, rfl, z, rfl, small_le (by have := hzl.2.1; omega), _, e2, ?_, same_mut s2 nD2, ?_⟩
          · rw [List.length_map, List.length_map, List.length_take]
            exact small_lt (by omega)
          · rw [upd_same, List.take_add_one, hz, List.map_append, List.map_append]
            rfl
      · rintro H2 ⟨s2, e2⟩
        rw [List.length_map, List.take_length] at e2
        refine ⟨D2, _, rfl, .inl (.inl e2), ?_⟩
        have es : (ls.flatten.map fun x : Str => (x.length : Int)).sum = ((chars ls : Nat) : Int) := by
          unfold chars
          rw [← sum_cast, List.map_map]
          rfl
        rw [es]
        -- the tuple
        have s02 : Same H H2 := s1.trans s2
        refine ⟨_, rfl, a, xs, rfl, .inl (.inl (.inl (s02 _ _ ea))), _, rfl, D, _, rfl, .inl (.inl (.inl (s2 _ _ e1))), _, rfl, ?_⟩
        refine ⟨_, rfl, a, rfl, ⟨xs, .inl (.inl (s02 _ _ ea))⟩, fun D3 nD3 => ?_⟩
        refine lc_list (K := K) (a := a) (xs := xs) (fun i H' => Same H2 H' ∧ ∃ ps, H' D3 = some (.lst ps) ∧ DqAll (wo H' D3) ps ((ls.take i).map rowP)) ⟨same_new nD3, [], upd_same, .nil⟩ (fun i H' _ ⟨s, _⟩ => (s02.trans s).seq (.inl (.inl ea))) ?_ ?_
        · rintro i y H3 hy ⟨s3, ps, e3, q3⟩
          obtain ⟨ws, b, hws, rfl, hb⟩ := item_at qa hy
          have hi : i < xs.length := (List.getElem?_eq_some_iff.mp hy).1
          have hpl := q3.len
          rw [List.length_map, List.length_take] at hpl
          refine ⟨rfl, _, rfl, b, _, rfl, .inl (.inl (s3 _ _ (s02 _ _ hb))), fun l nl => ⟨ps, ?_, ?_, ?_⟩⟩
          · rw [upd_ne (ne_of_none e3 nl)]
            exact e3
          · have := hg.1
            exact small_lt (by omega)
          · have nlD : l ≠ D3 := (ne_of_none e3 nl).symm
            refine ⟨same_mut (s3.trans (same_new nl)) nD3, ps ++ [.ref l], upd_same, ?_⟩
            rw [wo_upd, List.take_add_one, hws, List.map_append]
            refine (q3.same ?_).app (.one ?_)
            · intro c o hc
              obtain ⟨h1, h2⟩ := wo_some hc
              rw [wo_ne h1]
              exact same_new nl c o h2
            · exact .tup (by rw [wo_ne nlD]; exact upd_same) (dq_strs _ ws)
        · rintro H3 ⟨s3, ps, e3, q3⟩
          rw [hxl, List.take_length] at q3
          refine ⟨D3, ps, rfl, .inl (.inl e3), fun T nT => ⟨by show 4 ≤ sizeLine; decide, fun p np => ?_⟩⟩
          have sT := same_new (o := .tup ps) nT
          have sp := same_new (o := .tup [.int (xs.length : Int), .int ((ls.flatten.map V.str).length : Int), .int (chars ls : Int), .ref T]) np
          refine q _ _ (((s02.trans s3).trans sT).trans sp) ?_
          unfold lkeyP
          rw [← hxl, ← List.length_map (f := V.str)]
          exact .tup upd_same (.cons (.int _) (.cons (.int _) (.cons (.int _) (.one (.tup (sp _ _ upd_same) ((q3.same wo_sub).same (sT.trans sp)))))))
/-! ### the law's own order -/
def spWordBefore : Sp := fun vs H Q _ => ∃ x y : Str, vs = [.str x, .str y] ∧ Wk x ∧ Wk y ∧ Q (.bl (wb x y)) H
theorem ok_wordBefore {f : Addr} {fd : FuncData} {k : Nat} (F : Fun K "_law_word_before" "_law_word_before" sWordBefore f fd) (T : TK mg) : FnOk P w K mg base CX0 (k + 1) f fd ["one", "other"] spWordBefore := by
  refine F.ok scWordBefore (fun vs H Q E h => ?_) (fun cdv A outer s H vs Q E hr h => ?_)
  · obtain ⟨x, y, rfl, _⟩ := h
    rfl
  · obtain ⟨x, y, rfl, hx, hy, q⟩ := h
    have lx := hx.2.1
    have ly := hy.2.1
    refine ⟨_, pss_one (ps_ret (pe_or (pe_cmpR op_lt (pe_callB call_len_str (by rfl) T.len PySem.boot_len (pa_cons (pv 0) pa_nil)) (pe_callB call_len_str (by rfl) T.len PySem.boot_len (pa_cons (pv 1) pa_nil)) (nomark _))
      (pe_one (pe_and (pe_cmpR op_eq (pe_callB call_len_str (by rfl) T.len PySem.boot_len (pa_cons (pv 0) pa_nil)) (pe_callB call_len_str (by rfl) T.len PySem.boot_len (pa_cons (pv 1) pa_nil)) (nomark _)) (pe_one (pe_cmpR op_lt_str (pv 0) (pv 1) (nomark _))))))), ?_⟩
    unfold wb at q
    refine ⟨_, rfl, x, rfl, small_le (by omega), _, rfl, y, rfl, small_le (by omega), _, _, rfl, rfl, _, rfl, ?_⟩
    rw [nat_lt]
    cases h1 : decide (x.length < y.length) with
    | true =>
      rw [h1] at q
      exact iteT q
    | false =>
      rw [h1, Bool.false_or] at q
      refine iteF ⟨_, rfl, x, rfl, small_le (by omega), _, rfl, y, rfl, small_le (by omega), rfl, _, rfl, ?_⟩
      have e : decide (V.int (x.length : Int) = V.int (y.length : Int)) = decide (x.length = y.length) := by
        by_cases h : x.length = y.length
        · rw [decide_eq_true h, decide_eq_true (by rw [h])]
        · rw [decide_eq_false h, decide_eq_false (fun z => h (by have := V.int.inj z; omega))]
      rw [e]
      cases h2 : decide (x.length = y.length) with
      | true =>
        rw [h2, Bool.true_and] at q
        exact iteT ⟨_, rfl, _, rfl, x, y, rfl, rfl, q⟩
      | false =>
        rw [h2, Bool.false_and] at q
        exact iteF q
def szScope : Scope := match defBody sSizes with
  | [_, .Return (some (.List [_, _, .Call _ [.ListComp _ _ sc _] _ _] _)) _] => sc
  | _ => defScope sSizes
def sizesP (ls : List (List Str)) : List Int := [(ls.length : Int), (ls.flatten.length : Int), (chars ls : Int)]
theorem sum_lens : ∀ ls : List (List Str), (ls.map fun ws : List Str => (ws.length : Int)).sum = ((ls.flatten.length : Nat) : Int)
  | [] => rfl
  | x :: r => by
    rw [List.map_cons, List.sum_cons, sum_lens r, List.flatten_cons, List.length_append]
    omega
def lineChars (ws : List Str) : Int := (ws.map fun x : Str => (x.length : Int)).sum
theorem sum_chars : ∀ ls : List (List Str), (ls.map lineChars).sum = ((chars ls : Nat) : Int)
  | [] => rfl
  | x :: r => by
    have ih := sum_chars r
    unfold chars at ih ⊢
    rw [List.map_cons, List.sum_cons, ih, List.flatten_cons, List.map_append, List.sum_append]
    have e : lineChars x = (((x.map Str.length).sum : Nat) : Int) := by
      unfold lineChars
      rw [← sum_cast, List.map_map]
      rfl
    rw [e]
    omega
def spSizes : Sp := fun vs H Q _ => ∃ (v : V) (ls : List (List Str)), vs = [v] ∧ Dq H v (logP ls) ∧ Gk ls ∧ ∀ H' p, Same H H' → H' p = some (.lst ((sizesP ls).map V.int)) → Q (.ref p) H'
set_option maxHeartbeats 1000000 in
theorem ok_sizes {f : Addr} {fd : FuncData} {k : Nat} (F : Fun K "_law_sizes" "_law_sizes" sSizes f fd) (T : TK mg) : FnOk P w K mg base CX0 (k + 1) f fd ["log"] spSizes := by
  refine F.ok scSizes (fun vs H Q E h => ?_) (fun cdv A outer s H vs Q E hr h => ?_)
  · obtain ⟨v, ls, rfl, _⟩ := h
    rfl
  · obtain ⟨v, ls, rfl, hd, hg, q⟩ := h
    refine ⟨_, pss_cons (ps_setLc (i := 1) (own := [("line", 2)]) (g := gName 2) (tt := tYes) rfl scSizes.nd rfl rfl (sw_true rfl rfl rfl (by decide +kernel)) (pi_list (pv 0)) (blkOk_by (own := [("line", 2)]) (N := ["log", "lots", "line", "word"]) (sc := defScope sSizes) (by decide +kernel))
        (fun _ _ _ _ _ => pg_name (i := 2) scSizes.nd rfl (Or.inl rfl)) (fun _ _ _ _ _ => pts_nil) (fun _ _ _ _ _ => pe_callB (r := rLen1 K) call_len1 (by rfl) T.len PySem.boot_len (pa_cons (pv 2) pa_nil)))
      (pss_one (ps_ret (pe_lst (pa_cons (pe_callB call_len_seq (by rfl) T.len PySem.boot_len (pa_cons (pv 0) pa_nil)) (pa_cons (pe_callB (cr_sum rfl) (by rfl) T.sum (by decide +kernel) (pa_cons (pv 1) pa_nil)) (pa_cons (pe_callB (cr_sum rfl) (by rfl) T.sum (by decide +kernel) (pa_cons
        (pe_lc (own := [("line", 2)]) (g := gName 2) (tt := tYes) (te := tCB (rSum K) (tCons (tLc (iList K (tVar 2)) (gName 3) tYes (tCB rLenS1 (tCons (tVar 3) tNil)) [3]) tNil)) rfl scSizes.nd (pi_list (pv 0)) (blkOk_by (own := [("line", 2)]) (N := ["log", "lots", "line", "word"]) (sc := defScope sSizes) (by decide +kernel))
          (fun _ _ _ _ _ => pg_name (i := 2) scSizes.nd rfl (Or.inl rfl)) (fun _ _ _ _ _ => pts_nil) (fun _ _ _ _ _ => pe_callB (r := rSum K) (cr_sum rfl) (by rfl) T.sum (by decide +kernel) (pa_cons
            (pe_lc (own := [("word", 3)]) (g := gName 3) (tt := tYes) rfl scSizes.nd (pi_list (pv 2)) (blkOk_by (own := [("word", 3)]) (N := ["log", "lots", "line", "word"]) (sc := szScope) (by decide +kernel))
              (fun _ _ _ _ _ => pg_name (i := 3) scSizes.nd rfl (Or.inl rfl)) (fun _ _ _ _ _ => pts_nil) (fun _ _ _ _ _ => pe_callB (r := rLenS1) call_lenS1 (by rfl) T.len PySem.boot_len (pa_cons (pv 3) pa_nil))) pa_nil))) pa_nil)) pa_nil)))))), ?_⟩
    obtain ⟨a, xs, rfl, ea, qa⟩ := log_at hd
    have hxl : xs.length = ls.length := by rw [qa.len, List.length_map]
    have hl5 := hg.1
    refine ⟨_, rfl, a, rfl, ⟨xs, .inl (.inl ea)⟩, fun D nD => ?_⟩
    refine lc_list (K := K) (a := a) (xs := xs) (fun i H' => Same H H' ∧ H' D = some (.lst (((ls.take i).map fun ws : List Str => (ws.length : Int)).map V.int))) ⟨same_new nD, upd_same⟩ (fun i H' _ ⟨s, _⟩ => s.seq (.inl (.inl ea))) ?_ ?_
    · rintro i y H1 hy ⟨s1, e1⟩
      obtain ⟨ws, b, hws, rfl, hb⟩ := item_at qa hy
      refine ⟨rfl, _, rfl, b, _, rfl, .inl (.inl (s1 _ _ hb)), _, e1, ?_, same_mut s1 nD, ?_⟩
      · rw [List.length_map, List.length_map, List.length_take]
        exact small_lt (by omega)
      · rw [upd_same, List.take_add_one, hws, List.map_append, List.map_append, List.length_map]
        rfl
    · rintro H1 ⟨s1, e1⟩
      rw [hxl, List.take_length] at e1
      refine ⟨_, rfl, a, xs, rfl, .inl (.inl (.inl (s1 _ _ ea))), _, rfl, D, _, rfl, .inl (.inl e1), ?_⟩
      rw [sum_lens]
      refine ⟨_, rfl, a, rfl, ⟨xs, .inl (.inl (s1 _ _ ea))⟩, fun D2 nD2 => ?_⟩
      refine lc_list (K := K) (a := a) (xs := xs) (fun i H' => Same H1 H' ∧ H' D2 = some (.lst (((ls.take i).map lineChars).map V.int))) ⟨same_new nD2, upd_same⟩ (fun i H' _ ⟨s, _⟩ => (s1.trans s).seq (.inl (.inl ea))) ?_ ?_
      · rintro i y H2 hy ⟨s2, e2⟩
        obtain ⟨ws, b, hws, rfl, hb⟩ := item_at qa hy
        have hb2 : H2 b = some (.lst (ws.map V.str)) := s2 _ _ (s1 _ _ hb)
        have hwk := hg.2 ws (List.mem_of_getElem? hws)
        refine ⟨rfl, _, rfl, b, rfl, ⟨_, .inl (.inl hb2)⟩, fun D3 nD3 => ?_⟩
        refine lc_list (K := K) (a := b) (xs := ws.map V.str) (fun i H' => Same H2 H' ∧ H' D3 = some (.lst (((ws.take i).map fun x : Str => (x.length : Int)).map V.int))) ⟨same_new nD3, upd_same⟩ (fun i H' _ ⟨s, _⟩ => s.seq (.inl (.inl hb2))) ?_ ?_
        · rintro j z H3 hz ⟨s3, e3⟩
          rw [List.getElem?_map] at hz
          cases hu : ws[j]? with
          | none =>
            rw [hu] at hz
            cases hz
          | some u =>
            rw [hu] at hz
            cases hz
            have hk := hwk.2 u (List.mem_of_getElem? hu)
            refine ⟨rfl, _, rfl, u, rfl, small_le (by have := hk.2.1; omega), _, e3, ?_, same_mut s3 nD3, ?_⟩
            · rw [List.length_map, List.length_map, List.length_take]
              have := hwk.1
              exact small_lt (by omega)
            · rw [upd_same, List.take_add_one, hu, List.map_append, List.map_append]
              rfl
        · rintro H3 ⟨s3, e3⟩
          rw [List.length_map, List.take_length] at e3
          refine ⟨D3, _, rfl, .inl (.inl e3), _, s3 _ _ e2, ?_, same_mut (s2.trans s3) nD2, ?_⟩
          · rw [List.length_map, List.length_map, List.length_take]
            exact small_lt (by omega)
          · rw [upd_same, List.take_add_one, hws, List.map_append, List.map_append]
            rfl
      · rintro H2 ⟨s2, e2⟩
        rw [hxl, List.take_length] at e2
        refine ⟨D2, _, rfl, .inl (.inl e2), by show 3 ≤ sizeLine; decide, fun p np => ?_⟩
        rw [sum_chars, hxl]
        exact q _ p ((s1.trans s2).trans (same_new np)) upd_same
def spLogBefore : Sp := fun vs H Q _ => ∃ (v v2 : V) (x y : List (List Str)), vs = [v, v2] ∧ Dq H v (logP x) ∧ Dq H v2 (logP y) ∧ Gk x ∧ Gk y ∧ ∀ H', Same H H' → Q (.bl (lb x y)) H'
theorem dec_int (a b : Nat) : (!decide (V.int (a : Int) = V.int (b : Int))) = decide (a ≠ b) := by
  by_cases h : a = b
  · rw [decide_eq_true (by rw [h]), decide_eq_false (not_not_intro h)]
    rfl
  · rw [decide_eq_false (fun z => h (by have := V.int.inj z; omega)), decide_eq_true h]
    rfl
set_option maxHeartbeats 1000000 in
theorem ok_logBefore {f fS : Addr} {fd fdS : FuncData} {k : Nat} (F : Fun K "_law_log_before" "_law_log_before" sLogBefore f fd) (T : TK mg) (FS : Fun K "_law_sizes" "_law_sizes" sSizes fS fdS) (bS : Binds K fdS ["log"] []) (gS : mg "_law_sizes" = some (.ref fS)) :
    FnOk P w K mg base CX0 (k + 2) f fd ["one", "other"] spLogBefore := by
  have GS : FnOk P w K mg base CX0 (k + 1) fS fdS ["log"] spSizes := ok_sizes FS T
  refine F.ok scLogBefore (fun vs H Q E h => ?_) (fun cdv A outer s H vs Q E hr h => ?_)
  · obtain ⟨v, v2, x, y, rfl, _⟩ := h
    rfl
  · obtain ⟨v, v2, x, y, rfl, hx, hy, gx, gy, q⟩ := h
    have hu := hr.units
    refine ⟨_, pss_cons (ps_for PassesOwn.never rfl (pi_zip (by rfl) T.zip (pa_cons (pe_call GS hr (by rfl) gS FS.kp bS .nil pass0 (pa_cons (pv 0) pa_nil)) (pa_cons (pe_call GS hr (by rfl) gS FS.kp bS .nil pass0 (pa_cons (pv 1) pa_nil)) pa_nil)))
        (pg_tup rfl (pgs_cons (pg_name (i := 2) scLogBefore.nd rfl (.inl rfl)) (pgs_cons (pg_name (i := 3) scLogBefore.nd rfl (.inl rfl)) pgs_nil)))
        (pss_one (ps_if (pt_cmpR op_ne (pv 2) (pv 3) (nomark _)) (pss_one (ps_ret (pe_cmpR op_lt (pv 2) (pv 3) (nomark _)))) pss_nil)))
      (pss_one (ps_ret (pe_cmpR (op_ltQ hu) (pv 0) (pv 1) (nomark _)))), ?_⟩
    refine ⟨_, rfl, v, x, rfl, hx, gx, fun H1 p1 s1 e1 => ⟨_, rfl, v2, y, rfl, hy.same s1, gy, fun H2 p2 s2 e2 => ?_⟩⟩
    have s12 := s1.trans s2
    refine ⟨p1, p2, _, _, rfl, .inl (.inl (s2 _ _ e1)), .inl (.inl e2), RZ.for_zipL (K := K) (by rfl) (fun i σ H' => ∃ y2 y3, σ = [some v, some v2, y2, y3] ∧ Same H2 H' ∧ (0 < i → x.length = y.length) ∧ (1 < i → x.flatten.length = y.flatten.length) ∧ (2 < i → chars x = chars y))
      ⟨none, none, rfl, Same.refl _, fun z => absurd z (by decide), fun z => absurd z (by decide), fun z => absurd z (by decide)⟩ (fun i σ H' ⟨_, _, _, s, _⟩ => ⟨s.seq (.inl (.inl (s2 _ _ e1))), s.seq (.inl (.inl e2))⟩) ?_ ?_⟩
    · rintro i u z Ta σ H3 hu' hz' ⟨y2, y3, rfl, s3, c0, c1, c2⟩ nT
      have sT := same_new (o := .tup [u, z]) nT
      have s0 : Same H (upd H3 Ta (.tup [u, z])) := (s12.trans s3).trans sT
      unfold sizesP at hu' hz'
      unfold lb at q
      match i, hu', hz' with
      | 0, hu', hz' =>
        cases hu'
        cases hz'
        refine ⟨Ta, _, rfl, .inl (.inl upd_same), rfl, _, _, rfl, _, _, rfl, rfl, _, rfl, _, rfl, rfl, _, rfl, ?_⟩
        rw [dec_int]
        by_cases c : x.length = y.length
        · rw [decide_eq_false (not_not_intro c)]
          exact iteF ⟨_, _, rfl, s3.trans sT, fun _ => c, fun z => absurd z (by decide), fun z => absurd z (by decide)⟩
        · rw [decide_eq_true c]
          rw [if_pos c] at q
          refine iteT ⟨_, rfl, _, rfl, _, _, rfl, rfl, ?_⟩
          show Q (.bl (decide (((x.length : Nat) : Int) < ((y.length : Nat) : Int)))) _
          rw [nat_lt]
          exact q _ s0
      | 1, hu', hz' =>
        cases hu'
        cases hz'
        have c0' := c0 (by decide)
        rw [if_neg (not_not_intro c0')] at q
        refine ⟨Ta, _, rfl, .inl (.inl upd_same), rfl, _, _, rfl, _, _, rfl, rfl, _, rfl, _, rfl, rfl, _, rfl, ?_⟩
        rw [dec_int]
        by_cases c : x.flatten.length = y.flatten.length
        · rw [decide_eq_false (not_not_intro c)]
          exact iteF ⟨_, _, rfl, s3.trans sT, fun _ => c0', fun _ => c, fun z => absurd z (by decide)⟩
        · rw [decide_eq_true c]
          rw [if_pos c] at q
          refine iteT ⟨_, rfl, _, rfl, _, _, rfl, rfl, ?_⟩
          show Q (.bl (decide (((x.flatten.length : Nat) : Int) < ((y.flatten.length : Nat) : Int)))) _
          rw [nat_lt]
          exact q _ s0
      | 2, hu', hz' =>
        cases hu'
        cases hz'
        have c0' := c0 (by decide)
        have c1' := c1 (by decide)
        rw [if_neg (not_not_intro c0'), if_neg (not_not_intro c1')] at q
        refine ⟨Ta, _, rfl, .inl (.inl upd_same), rfl, _, _, rfl, _, _, rfl, rfl, _, rfl, _, rfl, rfl, _, rfl, ?_⟩
        rw [dec_int]
        by_cases c : chars x = chars y
        · rw [decide_eq_false (not_not_intro c)]
          exact iteF ⟨_, _, rfl, s3.trans sT, fun _ => c0', fun _ => c1', fun _ => c⟩
        · rw [decide_eq_true c]
          rw [if_pos c] at q
          refine iteT ⟨_, rfl, _, rfl, _, _, rfl, rfl, ?_⟩
          show Q (.bl (decide (((chars x : Nat) : Int) < ((chars y : Nat) : Int)))) _
          rw [nat_lt]
          exact q _ s0
      | i + 3, hu', hz' => cases hu'
    · rintro σ H3 ⟨y2, y3, rfl, s3, c0, c1, c2⟩
      have c0' := c0 (by show 0 < 3; decide)
      have c1' := c1 (by show 1 < 3; decide)
      have c2' := c2 (by show 2 < 3; decide)
      unfold lb at q
      rw [if_neg (not_not_intro c0'), if_neg (not_not_intro c1'), if_neg (not_not_intro c2')] at q
      have s0 := s12.trans s3
      obtain ⟨_, dx⟩ := shaped_log gx
      exact ⟨_, rfl, _, rfl, logP x, logP y, hx.same s0, hy.same s0, alike_log x y, (fun z => by unfold logP at z; cases z), by omega, q _ s0⟩
/-! ### drawn logs -/
def words6 : List Str := ["a", "b", "-", "ab", "7", "aa"]
theorem words6_ok : ∀ x ∈ words6, PyData.strOk x = true ∧ x.length ≤ 10 ∧ wt (.str x) ≤ 50 := by decide +kernel
theorem ed6 {σ : L2.St} (H : Hp) (Q : VK) (q : ∀ xs p H', Same H H' → H' p = some (.lst xs) → DqAll H' xs (words6.map PyData.str) → Q (.ref p) H') :
    tLst (tCons (tC (.str "a")) (tCons (tC (.str "b")) (tCons (tC (.str "-")) (tCons (tC (.str "ab")) (tCons (tC (.str "7")) (tCons (tC (.str "aa")) tNil)))))) σ H Q := by
  refine ed_lst (ds := words6.map PyData.str) (ed_cons ed_str (ed_cons ed_str (ed_cons ed_str (ed_cons ed_str (ed_cons ed_str (ed_cons ed_str ed_nil)))))) (by decide) H Q ?_
  intro v H' s' q'
  cases q' with
  | lst e a => exact q _ _ H' s' e a
/-- the lines of a log that is being made -/
structure MadeAt (H H' : Hp) (L : Addr) (as : List Addr) (wss : List (List Str)) : Prop where
  at_ : H' L = some (.lst (as.map V.ref))
  len : wss.length = as.length
  line : ∀ (i : Nat) (a : Addr), as[i]? = some a → ∃ ws : List Str, wss[i]? = some ws ∧ H' a = some (.lst (ws.map V.str))
  nd : as.Nodup
  ne : L ∉ as
  new : ∀ a ∈ as, H a = none
theorem MadeAt.dq {H H' : Hp} {L : Addr} {as : List Addr} {wss : List (List Str)} (h : MadeAt H H' L as wss) : Dq H' (.ref L) (logP wss) := by
  refine .lst h.at_ ?_
  have g : ∀ (as : List Addr) (wss : List (List Str)), wss.length = as.length → (∀ (i : Nat) (a : Addr), as[i]? = some a → ∃ ws : List Str, wss[i]? = some ws ∧ H' a = some (.lst (ws.map V.str))) → DqAll H' (as.map V.ref) (wss.map lineP) := by
    intro as
    induction as with
    | nil =>
      intro wss hl _
      rw [List.length_eq_zero_iff.mp hl]
      exact .nil
    | cons a r ih =>
      intro wss hl hp
      cases wss with
      | nil => cases hl
      | cons ws t =>
        obtain ⟨u, h1, h2⟩ := hp 0 a rfl
        cases h1
        exact .cons (.lst h2 (dq_strs _ ws)) (ih t (by simpa using hl) fun i b hb => hp (i + 1) b (by simpa using hb))
  exact g as wss h.len h.line
theorem MadeAt.but {H H' H'' : Hp} {L j : Addr} {as : List Addr} {wss : List (List Str)} (h : MadeAt H H' L as wss) (hj : Jar H' j) (b : But j H' H'') : MadeAt H H'' L as wss := by
  refine ⟨b _ _ (lst_not hj h.at_) h.at_, h.len, fun i a ha => ?_, h.nd, h.ne, h.new⟩
  obtain ⟨ws, h1, h2⟩ := h.line i a ha
  exact ⟨ws, h1, b _ _ (lst_not hj h2) h2⟩
theorem MadeAt.put {H H' : Hp} {L a : Addr} {as : List Addr} {wss : List (List Str)} {i : Nat} {ws : List Str} {x : Str} (h : MadeAt H H' L as wss) (ha : as[i]? = some a) (hw : wss[i]? = some ws) :
    MadeAt H (upd H' a (.lst (ws.map V.str ++ [.str x]))) L as (wss.set i (ws ++ [x])) := by
  have hi : i < as.length := (List.getElem?_eq_some_iff.mp ha).1
  have ma : a ∈ as := List.mem_of_getElem? ha
  refine ⟨?_, by rw [List.length_set]; exact h.len, fun m b hb => ?_, h.nd, h.ne, h.new⟩
  · rw [upd_ne (fun z => h.ne (by rw [z]; exact ma))]
    exact h.at_
  · by_cases e : m = i
    · subst e
      rw [ha] at hb
      cases hb
      refine ⟨ws ++ [x], by rw [List.getElem?_set_self (by rw [h.len]; exact hi)], ?_⟩
      rw [upd_same, List.map_append]
      rfl
    · obtain ⟨u, h1, h2⟩ := h.line m b hb
      refine ⟨u, by rw [List.getElem?_set_ne (fun z => e z.symm)]; exact h1, ?_⟩
      rw [upd_ne (fun z => e (nd_ix h.nd hb (by rw [z]; exact ha)))]
      exact h2
theorem but_new {j p : Addr} {H : Hp} {o : HO} (h : H p = none) : But j H (upd H p o) := But.of (same_new h)
def spMakeLog : Sp := fun vs H Q _ => ∃ j : Addr, vs = [.ref j] ∧ Jar H j ∧ ∀ H' p as ls, But j H H' → Jar H' j → MadeAt H H' p as ls → H p = none → Gk ls → Q (.ref p) H'
theorem but_none {j b : Addr} {H H' : Hp} (hj : Jar H j) (hj' : Jar H' j) (e : But j H H') (h : H' b = none) : H b = none := by
  cases z : H b with
  | none => rfl
  | some o =>
    have n : b ≠ j := fun y => by
      obtain ⟨D, M, q, _⟩ := hj'
      rw [← y, h] at q
      cases q
    rw [e b o n z] at h
    cases h
set_option maxHeartbeats 2000000 in
theorem ok_makeLog {f fD fC : Addr} {fd fdD fdC : FuncData} {k : Nat} (F : Fun K "_law_log" "_law_log" sMakeLog f fd) (mr : mg "range" = none) (GD : FnOk P w K mg base CX0 (k + 2) fD fdD ["jar", "many"] spDraw) (kD : PySem.W.keepIn K (.ref fD) = true) (bD : Binds K fdD ["jar", "many"] []) (gD : mg "_law_draw" = some (.ref fD))
    (GC : FnOk P w K mg base CX0 (k + 2) fC fdC ["jar", "things"] (spChoose K)) (kC : PySem.W.keepIn K (.ref fC) = true) (bC : Binds K fdC ["jar", "things"] []) (gC : mg "_law_choose" = some (.ref fC)) : FnOk P w K mg base CX0 (k + 3) f fd ["jar"] spMakeLog := by
  refine F.ok scMakeLog (fun vs H Q E h => ?_) (fun cdv A outer s H vs Q E hr h => ?_)
  · obtain ⟨j, rfl, _⟩ := h
    rfl
  · obtain ⟨j, rfl, hj, q⟩ := h
    refine ⟨_, pss_cons (ps_setLc (i := 1) (own := [("turn", 4)]) (g := gName 4) (tt := tYes) rfl scMakeLog.nd rfl rfl (sw_true rfl rfl rfl (by decide +kernel)) (pi_range1 (by rfl) mr (pa_cons (pe_call GD hr (by rfl) gD kD bD .nil pass0 (pa_cons (pv 0) (pa_cons pe_int pa_nil))) pa_nil))
        (blkOk_by (own := [("turn", 4)]) (N := ["jar", "log", "line", "step", "turn"]) (sc := defScope sMakeLog) (by decide +kernel)) (fun _ _ _ _ _ => pg_name (i := 4) scMakeLog.nd rfl (Or.inl rfl)) (fun _ _ _ _ _ => pts_nil) (fun _ _ _ _ _ => pe_lst pa_nil))
      (pss_cons (ps_for PassesOwn.never rfl (pi_list (pv 1)) (pg_name (i := 2) scMakeLog.nd rfl (.inl rfl))
        (pss_one (ps_for PassesOwn.never rfl (pi_range1 (by rfl) mr (pa_cons (pe_call GD hr (by rfl) gD kD bD .nil pass0 (pa_cons (pv 0) (pa_cons pe_int pa_nil))) pa_nil)) (pg_name (i := 3) scMakeLog.nd rfl (.inl rfl))
          (pss_one (ps_expr (pe_bm PySem.F.plainAttrs_list PySem.F.slot_list_append PySem.F.type_list_append mt_append (pv 2) (pa_cons (pe_call GC hr (by rfl) gC kC bC .nil pass0 (pa_cons (pv 0)
            (pa_cons (pe_lst (pa_cons pe_str (pa_cons pe_str (pa_cons pe_str (pa_cons pe_str (pa_cons pe_str (pa_cons pe_str pa_nil))))))) pa_nil))) pa_nil)))))))
      (pss_one (ps_ret (pv 1)))), ?_⟩
    -- the empty lines
    refine ⟨_, rfl, j, _, rfl, hj, by decide, by decide, fun H1 r hr4 b1 j1 => ⟨_, rfl, by omega, by omega, fun L nL => ?_⟩⟩
    have njL : j ≠ L := j1.some nL
    refine lc_range (lo := 0) (fun i H' => But j H1 H' ∧ Jar H' j ∧ ∃ as : List Addr, MadeAt H1 H' L as (as.map fun _ => []) ∧ as.length = i) ⟨but_new nL, j1.same (same_new nL), [], ⟨upd_same, rfl, fun i a h => by simp at h, List.nodup_nil, (fun z => nomatch z), (fun _ z => nomatch z)⟩, rfl⟩ ?_ ?_
    · rintro i H2 hi ⟨b2, j2, as, M, la⟩
      refine ⟨rfl, Nat.zero_le _, fun l nl => ⟨_, by rw [upd_ne (ne_of_none M.at_ nl)]; exact M.at_, by rw [List.length_map]; exact small_lt (by omega), ?_⟩⟩
      have nlL : L ≠ l := ne_of_none M.at_ nl
      have njl : j ≠ l := j2.some nl
      have nl1 : H1 l = none := by
        cases z : H1 l with
        | none => rfl
        | some o =>
          rw [b2 _ _ njl.symm z] at nl
          cases nl
      refine ⟨but_mut (but_mut b2 nl1) nL, (j2.put njl).put njL, as ++ [l], ⟨?_, by simp, fun m a ha => ?_, ?_, ?_, ?_⟩, by rw [List.length_append, la]; rfl⟩
      · rw [upd_same, List.map_append]
        rfl
      · by_cases hm : m < as.length
        · rw [List.getElem?_append_left hm] at ha
          obtain ⟨ws, h1, h2⟩ := M.line m a ha
          refine ⟨ws, by rw [List.map_append, List.getElem?_append_left (by rw [List.length_map]; exact hm)]; exact h1, ?_⟩
          have haL : a ≠ L := fun z => M.ne (by rw [← z]; exact List.mem_of_getElem? ha)
          rw [upd_ne haL, upd_ne (ne_of_none h2 nl)]
          exact h2
        · have hm2 : m = as.length := by
            have := (List.getElem?_eq_some_iff.mp ha).1
            rw [List.length_append, List.length_singleton] at this
            omega
          subst hm2
          rw [List.getElem?_append_right (Nat.le_refl _), Nat.sub_self] at ha
          cases ha
          refine ⟨[], by rw [List.map_append, List.getElem?_append_right (by rw [List.length_map]; exact Nat.le_refl _), List.length_map, Nat.sub_self]; rfl, ?_⟩
          rw [upd_ne nlL.symm, upd_same]
          rfl
      · refine List.nodup_append.mpr ⟨M.nd, by simp, fun a ha b hb z => ?_⟩
        rw [List.mem_singleton.mp hb] at z
        subst z
        obtain ⟨m, hm⟩ := List.getElem?_of_mem ha
        obtain ⟨ws, _, h2⟩ := M.line m a hm
        rw [nl] at h2
        cases h2
      · intro z
        rcases List.mem_append.mp z with z | z
        · exact M.ne z
        · exact nlL (List.mem_singleton.mp z)
      · intro a ha
        rcases List.mem_append.mp ha with z | z
        · exact M.new a z
        · rw [List.mem_singleton.mp z]
          exact nl1
    · rintro H2 ⟨b2, j2, as, M, la⟩
      have lr : as.length ≤ 2 := by omega
      -- for line in log
      refine ⟨_, rfl, L, rfl, ⟨_, .inl (.inl M.at_)⟩, for_list (K := K) (a := L) (xs := as.map V.ref) (fun i σ H' => ∃ y2 y3 y4, σ = [some (.ref j), some (.ref L), y2, y3, y4] ∧ But j H1 H' ∧ Jar H' j ∧ ∃ wss, MadeAt H1 H' L as wss ∧ (∀ ws ∈ wss, Lk ws) ∧ ∀ m, i ≤ m → ∀ ws, wss[m]? = some ws → ws = [])
        ⟨_, _, _, rfl, b2, j2, _, M, fun ws h => by
          obtain ⟨_, _, e⟩ := List.mem_map.mp h
          rw [← e]
          exact ⟨Nat.zero_le _, fun _ z => nomatch z⟩, fun m _ ws h => by
          rw [List.getElem?_map] at h
          cases z : as[m]? with
          | none =>
            rw [z] at h
            cases h
          | some u =>
            rw [z] at h
            exact (Option.some.inj h).symm⟩ (fun i σ H' _ ⟨_, _, _, _, _, _, _, M', _⟩ => .inl (.inl M'.at_)) ?_ ?_⟩
      · rintro i x σ H3 hx ⟨y2, y3, y4, rfl, b3, j3, wss, M3, lk3, em3⟩
        obtain ⟨a, ha, rfl⟩ : ∃ a, as[i]? = some a ∧ x = .ref a := by
          rw [List.getElem?_map] at hx
          cases z : as[i]? with
          | none =>
            rw [z] at hx
            cases hx
          | some u =>
            rw [z] at hx
            exact ⟨u, rfl, (Option.some.inj hx).symm⟩
        have na1 : H1 a = none := M3.new a (List.mem_of_getElem? ha)
        refine ⟨_, rfl, j, _, rfl, j3, by decide, by decide, fun H4 r2 hr2 b4 j4 => ⟨_, rfl, by omega, by omega, ?_⟩⟩
        have M4 := M3.but j3 b4
        refine for_range (lo := 0) (fun m σ H' => ∃ y3 y4, σ = [some (.ref j), some (.ref L), some (.ref a), y3, y4] ∧ But j H1 H' ∧ Jar H' j ∧ ∃ wss ws, MadeAt H1 H' L as wss ∧ (∀ ws ∈ wss, Lk ws) ∧ (∀ m, i + 1 ≤ m → ∀ ws, wss[m]? = some ws → ws = []) ∧ wss[i]? = some ws ∧ ws.length = m)
          ⟨y3, y4, rfl, b3.trans b4, j4, wss, [], M4, lk3, fun m hm => em3 m (by omega), ?_, rfl⟩ ?_ (fun σ H' ⟨y3, y4, e, b', j', wss, ws, M', lk', em', _⟩ => ⟨_, y3, y4, e, b', j', wss, M', lk', em'⟩)
        · obtain ⟨ws, h1, _⟩ := M4.line i a ha
          rw [em3 i (Nat.le_refl _) ws h1] at h1
          exact h1
        · rintro m σ H5 hm ⟨y3, y4, rfl, b5, j5, wss5, ws5, M5, lk5, em5, hw5, lw5⟩
          obtain ⟨ws', h1, h2⟩ := M5.line i a ha
          rw [hw5] at h1
          cases h1
          refine ⟨_, rfl, .inl ⟨rfl, _, .inl (.inl h2)⟩, _, rfl, ?_⟩
          refine ed6 (σ := [some (.ref j), some (.ref L), some (.ref a), some (.int (0 + (m : Int))), y4]) H5 _ ?_
          intro xs6 p6 H6 s6 e6 a6
          have l6 : xs6.length = 6 := a6.len
          refine ⟨j, p6, xs6, rfl, j5.same s6, .inl (.inl e6), lst_not (j5.same s6) e6, by omega, by omega, fun H7 x hx b7 j7 => ?_⟩
          obtain ⟨d, hd, qd⟩ := a6.mem hx
          obtain ⟨u, hu, rfl⟩ := List.mem_map.mp hd
          cases qd
          have M7 := (M5.but j5 (But.of s6)).but (j5.same s6) b7
          obtain ⟨ws7, h7, h8⟩ := M7.line i a ha
          rw [hw5] at h7
          cases h7
          refine ⟨a, _, _, rfl, rfl, h8, by rw [List.length_map]; exact small_lt (by omega), ?_⟩
          have nja : j ≠ a := fun z => by
            rw [← z] at h8
            exact lst_not j7 h8 rfl
          refine ⟨_, y4, rfl, but_mut ((b5.trans (But.of s6)).trans b7) na1, j7.put nja, wss5.set i (ws5 ++ [u]), ws5 ++ [u], M7.put ha hw5, ?_, ?_, ?_, by rw [List.length_append, lw5]; rfl⟩
          · intro ws hws
            rcases List.mem_or_eq_of_mem_set hws with z | z
            · exact lk5 ws z
            · rw [z]
              have hl := lk5 ws5 (List.mem_of_getElem? hw5)
              refine ⟨by rw [List.length_append, List.length_singleton]; omega, fun y hy => ?_⟩
              rcases List.mem_append.mp hy with z | z
              · exact hl.2 y z
              · rw [List.mem_singleton.mp z]
                exact words6_ok u hu
          · intro m' hm' ws hws
            rw [List.getElem?_set_ne (by omega)] at hws
            exact em5 m' hm' ws hws
          · rw [List.getElem?_set_self (by have := (List.getElem?_eq_some_iff.mp hw5).1; exact this)]
      · rintro σ H3 ⟨y2, y3, y4, rfl, b3, j3, wss, M3, lk3, em3⟩
        exact ⟨_, rfl, q H3 L as wss (b1.trans b3) j3 ⟨M3.at_, M3.len, M3.line, M3.nd, M3.ne, fun a ha => but_none hj j1 b1 (M3.new a ha)⟩ (but_none hj j1 b1 nL) ⟨by rw [M3.len]; omega, lk3⟩⟩
end
end Bb
/-! the law's loops -/
namespace Bb
open PySem PySem.Spec PyProof.Rows L2 PySem.W
theorem scLaw : FnScope ["script", "start", "jar", "words", "logs", "seen", "one", "other", "line", "copy", "key", "turn"] ["script"] (defScope sLaw) := ⟨rfl, rfl, rfl, by decide +kernel, rfl, by decide +kernel, by decide +kernel⟩
def rList (K : PySem.W.Frag) : List V → Hp → VK → Prop := fun xs H Q => ∃ p ys, xs = [.ref p] ∧ SqL K H p ys ∧ ∀ l, H l = none → Q (.ref l) (upd H l (.lst ys))
theorem call_lst {X : Cx} : CallR X (.type "list") (rList X.K) := by
  rintro pins s σ H xs us Q I r ⟨p, ys, rfl, h, q⟩
  exact call_list_of pins s σ H _ us Q I r ⟨p, ys, rfl, .inl h, q⟩
/-! ### tuples stay -/
mutual
def tupO : PyData → Bool
  | .list _ => false
  | .dict _ => false
  | .tuple ds => tupOAll ds
  | _ => true
def tupOAll : List PyData → Bool
  | [] => true
  | d :: ds => tupO d && tupOAll ds
end
def TupS (H H' : Hp) : Prop := ∀ a xs, H a = some (.tup xs) → H' a = some (.tup xs)
mutual
theorem Dq.tups {H H' : Hp} (s : TupS H H') : ∀ (d : PyData) (v : V), tupO d = true → Dq H v d → Dq H' v d
  | .none, _, _, q => by
    cases q
    exact .non
  | .bool b, _, _, q => by
    cases q
    exact .bl b
  | .int i, _, _, q => by
    cases q
    exact .int i
  | .str x, _, _, q => by
    cases q
    exact .str x
  | .list ds, _, h, q => by simp [tupO] at h
  | .tuple ds, _, h, q => by
    cases q with
    | tup e ha => exact .tup (s _ _ e) (DqAll.tups s ds _ (by simpa [tupO] using h) ha)
  | .dict kvs, _, h, q => by simp [tupO] at h
theorem DqAll.tups {H H' : Hp} (s : TupS H H') : ∀ (ds : List PyData) (vs : List V), tupOAll ds = true → DqAll H vs ds → DqAll H' vs ds
  | [], _, _, q => by
    cases q
    exact .nil
  | d :: ds, _, h, q => by
    rw [tupOAll, Bool.and_eq_true] at h
    cases q with
    | cons a b => exact .cons (Dq.tups s d _ h.1 a) (DqAll.tups s ds _ h.2 b)
end
theorem tup_strs : ∀ ws : List Str, tupOAll (ws.map PyData.str) = true
  | [] => by simp [tupOAll]
  | x :: r => by
    simp [tupOAll, tupO, tup_strs r]
theorem tup_rows : ∀ ls : List (List Str), tupOAll (ls.map rowP) = true
  | [] => by simp [tupOAll]
  | x :: r => by
    rw [List.map_cons, tupOAll, tup_rows r]
    unfold rowP
    rw [tupO, tup_strs]
    rfl
theorem tup_lkey (ls : List (List Str)) : tupO (lkeyP ls) = true := by
  unfold lkeyP
  simp [tupO, tupOAll, tup_rows]
theorem TupS.refl (H : Hp) : TupS H H := fun _ _ h => h
theorem TupS.of {H H' : Hp} (s : Same H H') : TupS H H' := fun a xs h => s a _ h
theorem TupS.trans {H H1 H2 : Hp} (a : TupS H H1) (b : TupS H1 H2) : TupS H H2 := fun c xs h => b c xs (a c xs h)
theorem TupS.put {H : Hp} {p : Addr} {xs ys : List V} (h : H p = some (.lst xs)) : TupS H (upd H p (.lst ys)) := fun a zs e => by
  rw [upd_ne (fun z => by
    rw [z, h] at e
    cases e)]
  exact e
/-! ### sizes of logs -/
theorem strs_fine : ∀ ws : List Str, (∀ x ∈ ws, Wk x) → FineA (50 * ws.length) 0 (ws.map PyData.str)
  | [], _ => FineA.nil
  | x :: r, h => by
    have h1 : Fine 50 0 (.str x) := ⟨(h x (List.mem_cons_self ..)).2.2, by simp [PyData.depth], by simp [PyData.showable]⟩
    have h2 := FineA.cons h1 (strs_fine r fun y hy => h y (List.mem_cons_of_mem _ hy))
    exact h2.mono (by rw [List.length_cons]; omega) (Nat.le_refl _)
theorem line_fine {ws : List Str} (h : Lk ws) : Fine 260 1 (lineP ws) := (strs_fine ws h.2).list.mono (by have := h.1; omega) (Nat.le_refl _)
theorem lines_fine : ∀ ls : List (List Str), (∀ ws ∈ ls, Lk ws) → FineA (260 * ls.length) 1 (ls.map lineP)
  | [], _ => FineA.nil
  | x :: r, h => by
    have h2 := FineA.cons (line_fine (h x (List.mem_cons_self ..))) (lines_fine r fun y hy => h y (List.mem_cons_of_mem _ hy))
    exact h2.mono (by rw [List.length_cons]; omega) (Nat.le_refl _)
theorem log_fine {ls : List (List Str)} (h : Gk ls) : Fine 1310 2 (logP ls) := (lines_fine ls h.2).list.mono (by have := h.1; omega) (Nat.le_refl _)
theorem logs_fine : ∀ lss : List (List (List Str)), (∀ ls ∈ lss, Gk ls) → FineA (1310 * lss.length) 2 (lss.map logP)
  | [], _ => FineA.nil
  | x :: r, h => by
    have h2 := FineA.cons (log_fine (h x (List.mem_cons_self ..))) (logs_fine r fun y hy => h y (List.mem_cons_of_mem _ hy))
    exact h2.mono (by rw [List.length_cons]; omega) (Nat.le_refl _)
def words9 : List Str := ["a", "b", "ab", "aa", "-", "0", "z", "a-", "a0"]
theorem words9_ok : ∀ x ∈ words9, PyData.strOk x = true ∧ x.length ≤ 10 ∧ wt (.str x) ≤ 50 := by decide +kernel
theorem ed9 {σ : L2.St} (H : Hp) (Q : VK) (q : ∀ xs p H', Same H H' → H' p = some (.lst xs) → DqAll H' xs (words9.map PyData.str) → Q (.ref p) H') :
    tLst (tCons (tC (.str "a")) (tCons (tC (.str "b")) (tCons (tC (.str "ab")) (tCons (tC (.str "aa")) (tCons (tC (.str "-")) (tCons (tC (.str "0")) (tCons (tC (.str "z")) (tCons (tC (.str "a-")) (tCons (tC (.str "a0")) tNil))))))))) σ H Q := by
  refine ed_lst (ds := words9.map PyData.str) (ed_cons ed_str (ed_cons ed_str (ed_cons ed_str (ed_cons ed_str (ed_cons ed_str (ed_cons ed_str (ed_cons ed_str (ed_cons ed_str (ed_cons ed_str ed_nil))))))))) (by decide) H Q ?_
  intro v H' s' q'
  cases q' with
  | lst e a => exact q _ _ H' s' e a
theorem dec_str' (x y : Str) : decide (V.str x = V.str y) = decide (x = y) := by
  by_cases h : x = y
  · rw [decide_eq_true h, decide_eq_true (by rw [h])]
  · rw [decide_eq_false h, decide_eq_false (fun z => h (V.str.inj z))]
theorem tup_ty {K : PySem.W.Frag} {H : Hp} {v : V} {ds : List PyData} (q : Dq H v (.tuple ds)) : TyX K H v (.type "tuple") ∧ PySem.W.kitOne K (.type "tuple") (.type "tuple") = some true := by
  cases q with
  | tup e _ => exact ⟨.base (.tup e), kit_ty (by decide +kernel)⟩
/-- one line more -/
theorem MadeAt.add {H H' : Hp} {L l : Addr} {as : List Addr} {wss : List (List Str)} {ws : List Str} (M : MadeAt H H' L as wss) (nl : H' l = none) (n0 : H l = none) :
    MadeAt H (upd (upd H' l (.lst (ws.map V.str))) L (.lst (as.map V.ref ++ [.ref l]))) L (as ++ [l]) (wss ++ [ws]) := by
  have nlL : L ≠ l := ne_of_none M.at_ nl
  refine ⟨?_, by rw [List.length_append, List.length_append, M.len]; rfl, fun m a ha => ?_, ?_, ?_, ?_⟩
  · rw [upd_same, List.map_append]
    rfl
  · by_cases hm : m < as.length
    · rw [List.getElem?_append_left hm] at ha
      obtain ⟨u, h1, h2⟩ := M.line m a ha
      refine ⟨u, by rw [List.getElem?_append_left (by rw [M.len]; exact hm)]; exact h1, ?_⟩
      have haL : a ≠ L := fun z => M.ne (by rw [← z]; exact List.mem_of_getElem? ha)
      rw [upd_ne haL, upd_ne (ne_of_none h2 nl)]
      exact h2
    · have hm2 : m = as.length := by
        have := (List.getElem?_eq_some_iff.mp ha).1
        rw [List.length_append, List.length_singleton] at this
        omega
      subst hm2
      rw [List.getElem?_append_right (Nat.le_refl _), Nat.sub_self] at ha
      cases ha
      refine ⟨ws, by rw [List.getElem?_append_right (by rw [M.len]; exact Nat.le_refl _), M.len, Nat.sub_self]; rfl, ?_⟩
      rw [upd_ne nlL.symm, upd_same]
  · refine List.nodup_append.mpr ⟨M.nd, by simp, fun a ha b hb z => ?_⟩
    rw [List.mem_singleton.mp hb] at z
    subst z
    obtain ⟨m, hm⟩ := List.getElem?_of_mem ha
    obtain ⟨u, _, h2⟩ := M.line m a hm
    rw [nl] at h2
    cases h2
  · intro z
    rcases List.mem_append.mp z with z | z
    · exact M.ne z
    · exact nlL (List.mem_singleton.mp z)
  · intro a ha
    rcases List.mem_append.mp ha with z | z
    · exact M.new a z
    · rw [List.mem_singleton.mp z]
      exact n0
theorem wk_small (x : Str) (h : x ∈ (["a", "b", "aa"] : List Str)) : Wk x := by
  have g : ∀ x ∈ (["a", "b", "aa"] : List Str), PyData.strOk x = true ∧ x.length ≤ 10 ∧ wt (.str x) ≤ 50 := by decide +kernel
  exact g x h
theorem five_ok : Gk [] ∧ Gk [[]] ∧ Gk [["a"]] ∧ Gk [["b"]] ∧ Gk [["aa"]] := by
  have one : ∀ x : Str, x ∈ (["a", "b", "aa"] : List Str) → Gk [[x]] := fun x h => ⟨by show 1 ≤ 5; decide, fun ws hw => by
    rw [List.mem_singleton.mp hw]
    exact ⟨by show 1 ≤ 5; decide, fun y hy => by
      rw [List.mem_singleton.mp hy]
      exact wk_small x h⟩⟩
  refine ⟨⟨Nat.zero_le _, fun _ z => nomatch z⟩, ⟨by show 1 ≤ 5; decide, fun ws hw => ?_⟩, one _ (by simp), one _ (by simp), one _ (by simp)⟩
  rw [List.mem_singleton.mp hw]
  exact ⟨Nat.zero_le _, fun _ z => nomatch z⟩
theorem five_lt : lb [] [[]] = true ∧ lb [[]] [["a"]] = true ∧ lb [["a"]] [["b"]] = true ∧ lb [["b"]] [["aa"]] = true := by decide +kernel
theorem up_start {r : R2} {ta tb tc td te : TE} {D : Ends} {σ : L2.St} {H : Hp} (h : ta σ H fun x H1 => tb σ H1 fun y H2 => r x y H2 fun k1 H3 => k1 = .bl true ∧ tc σ H3 fun z H4 => r y z H4 fun k2 H5 => k2 = .bl true ∧ td σ H5 fun u H6 => r z u H6 fun k3 H7 => k3 = .bl true ∧
    te σ H7 fun v H8 => r u v H8 D.rt) : tRet (tUp r ta tb tc td te) D σ H := h
theorem call1 {sp : Sp} {E : XK} {te : TE} {σ : L2.St} {H : Hp} {Q : VK} (h : te σ H fun v H1 => sp [v] H1 Q E) : tCall sp [] E (tCons te tNil) σ H Q := h
structure TL (mg : Str → Option Value) : Prop where
  range : mg "range" = none
  max : mg "max" = none
  min : mg "min" = none
  len : mg "len" = none
  isi : mg "isinstance" = none
  tup : mg "tuple" = none
  list : mg "list" = none
  repr : mg "repr" = none
structure Helpers (P : Program) (w : World) (K : PySem.W.Frag) (mg : Str → Option Value) (base : Heap) (k : Nat) (fJ fC fL fW fG fB fO : Addr) (dJ dC dL dW dG dB dO : FuncData) : Prop where
  gJ : FnOk P w K mg base CX0 k fJ dJ ["script", "start"] (spJar K)
  gC : FnOk P w K mg base CX0 k fC dC ["jar", "things"] (spChoose K)
  gL : FnOk P w K mg base CX0 k fL dL ["jar"] spMakeLog
  gW : FnOk P w K mg base CX0 k fW dW ["word"] spWordKey
  gG : FnOk P w K mg base CX0 k fG dG ["log"] spLogKey
  gB : FnOk P w K mg base CX0 k fB dB ["one", "other"] spWordBefore
  gO : FnOk P w K mg base CX0 k fO dO ["one", "other"] spLogBefore
  bJ : L2.Binds K dJ ["script", "start"] []
  bC : L2.Binds K dC ["jar", "things"] []
  bL : L2.Binds K dL ["jar"] []
  bW : L2.Binds K dW ["word"] []
  bG : L2.Binds K dG ["log"] []
  bB : L2.Binds K dB ["one", "other"] []
  bO : L2.Binds K dO ["one", "other"] []
  kJ : PySem.W.keepIn K (.ref fJ) = true
  kC : PySem.W.keepIn K (.ref fC) = true
  kL : PySem.W.keepIn K (.ref fL) = true
  kW : PySem.W.keepIn K (.ref fW) = true
  kG : PySem.W.keepIn K (.ref fG) = true
  kB : PySem.W.keepIn K (.ref fB) = true
  kO : PySem.W.keepIn K (.ref fO) = true
  mJ : mg "_law_jar" = some (.ref fJ)
  mC : mg "_law_choose" = some (.ref fC)
  mL : mg "_law_log" = some (.ref fL)
  mW : mg "word_key" = some (.ref fW)
  mG : mg "log_key" = some (.ref fG)
  mB : mg "_law_word_before" = some (.ref fB)
  mO : mg "_law_log_before" = some (.ref fO)
section
variable {P : Program} {w : World} {K : PySem.W.Frag} {mg : Str → Option Value} {base : Heap} {fJ fC fL fW fG fB fO : Addr} {dJ dC dL dW dG dB dO : FuncData}
def spLaw (K : PySem.W.Frag) : Sp := fun vs H Q _ => ∃ (a : Addr) (ns : List Int), vs = [.ref a] ∧ SqL K H a (ns.map V.int) ∧ ns.length ≤ 63 ∧ (∀ z ∈ ns, Builtin.Int.intBits z ≤ 1048576) ∧ ∀ H', Q (.bl true) H'
set_option maxHeartbeats 8000000 in
theorem ok_law {f : Addr} {fd : FuncData} {k : Nat} (F : Fun K "law" "law" sLaw f fd) (G : Helpers P w K mg base k fJ fC fL fW fG fB fO dJ dC dL dW dG dB dO) (T : TL mg) :
    FnG P w K mg base CX0 (k + 1) f fd ["script"] (spLaw K) := by
  refine okG F scLaw (fun vs H Q E h => ?_) (fun cdv A outer s H vs Q E hg hr h => ?_)
  · obtain ⟨a, ns, rfl, _⟩ := h
    rfl
  · obtain ⟨a, ns, rfl, hS, hlen, hbits, q⟩ := h
    have hu := hr.units
    refine ⟨_, pss_cons (ps_for PassesOwn.never rfl (pi_range1 (by rfl) T.range (pa_cons (pe_callB (call_max2 rfl) (by rfl) T.max (by decide +kernel) (pa_cons pe_int (pa_cons (pe_callB (call_min2 rfl) (by rfl) T.min (by decide +kernel)
          (pa_cons pe_int (pa_cons (pe_callB call_len_seq (by rfl) T.len PySem.boot_len (pa_cons (pv 0) pa_nil)) pa_nil))) pa_nil))) pa_nil)) (pg_name (i := 1) scLaw.nd rfl (.inl rfl))
        (pss_cons (ps_set (i := 2) scLaw.nd rfl (.inr rfl) (pe_call G.gJ hr (by rfl) G.mJ G.kJ G.bJ .nil pass0 (pa_cons (pv 0) (pa_cons (pv 1) pa_nil))))
        (pss_cons (ps_setLc (i := 3) (own := [("turn", 11)]) (g := gName 11) (tt := tYes) rfl scLaw.nd rfl rfl (sw_true rfl rfl rfl (by decide +kernel)) (pi_range1 (by rfl) T.range (pa_cons pe_int pa_nil))
          (blkOk_by (own := [("turn", 11)]) (N := ["script", "start", "jar", "words", "logs", "seen", "one", "other", "line", "copy", "key", "turn"]) (sc := defScope sLaw) (by decide +kernel)) (fun _ _ _ _ _ => pg_name (i := 11) scLaw.nd rfl (Or.inl rfl)) (fun _ _ _ _ _ => pts_nil)
          (fun _ _ _ _ _ => pe_call G.gC hr (by rfl) G.mC G.kC G.bC .nil pass0 (pa_cons (pv 2) (pa_cons (pe_lst (pa_cons pe_str (pa_cons pe_str (pa_cons pe_str (pa_cons pe_str (pa_cons pe_str (pa_cons pe_str (pa_cons pe_str (pa_cons pe_str (pa_cons pe_str pa_nil)))))))))) pa_nil))))
        (pss_cons (ps_setLc (i := 4) (own := [("turn", 11)]) (g := gName 11) (tt := tYes) rfl scLaw.nd rfl rfl (sw_true rfl rfl rfl (by decide +kernel)) (pi_range1 (by rfl) T.range (pa_cons pe_int pa_nil))
          (blkOk_by (own := [("turn", 11)]) (N := ["script", "start", "jar", "words", "logs", "seen", "one", "other", "line", "copy", "key", "turn"]) (sc := defScope sLaw) (by decide +kernel)) (fun _ _ _ _ _ => pg_name (i := 11) scLaw.nd rfl (Or.inl rfl)) (fun _ _ _ _ _ => pts_nil)
          (fun _ _ _ _ _ => pe_call G.gL hr (by rfl) G.mL G.kL G.bL .nil pass0 (pa_cons (pv 2) pa_nil)))
        (pss_cons (ps_set (i := 5) scLaw.nd rfl (.inl rfl) (pe_callB (call_reprD hg hu) (by rfl) T.repr (by decide +kernel) (pa_cons (pv 4) pa_nil)))
        (pss_cons (ps_for PassesOwn.never rfl (pi_list (pv 3)) (pg_name (i := 6) scLaw.nd rfl (.inl rfl)) (pss_one (ps_for PassesOwn.never rfl (pi_list (pv 3)) (pg_name (i := 7) scLaw.nd rfl (.inl rfl))
          (pss_cons (ps_if (pt_cmpR op_ne (pe_cmpR (op_ltQ hu) (pe_call G.gW hr (by rfl) G.mW G.kW G.bW .nil pass0 (pa_cons (pv 6) pa_nil)) (pe_call G.gW hr (by rfl) G.mW G.kW G.bW .nil pass0 (pa_cons (pv 7) pa_nil)) (nomark _))
              (pe_call G.gB hr (by rfl) G.mB G.kB G.bB .nil pass0 (pa_cons (pv 6) (pa_cons (pv 7) pa_nil))) (nomark _)) (pss_one (ps_ret pe_bl)) pss_nil)
          (pss_one (ps_if (PW.pt (pw_or (pt_cmpR op_ne (pe_cmpR (op_eqQ hu) (pe_call G.gW hr (by rfl) G.mW G.kW G.bW .nil pass0 (pa_cons (pv 6) pa_nil)) (pe_call G.gW hr (by rfl) G.mW G.kW G.bW .nil pass0 (pa_cons (pv 7) pa_nil)) (nomark _))
              (pe_cmpR op_eq (pv 6) (pv 7) (nomark _)) (nomark _)) (pw_or1 (pt_not (pt_val (pe_callB call_isi (by rfl) T.isi (by decide +kernel) (pa_cons (pe_call G.gW hr (by rfl) G.mW G.kW G.bW .nil pass0 (pa_cons (pv 6) pa_nil)) (pa_cons (pe_bltn (v := .ty "tuple") (by rfl) T.tup (by decide +kernel) rfl) pa_nil))))))))
              (pss_one (ps_ret pe_bl)) pss_nil))))))
        (pss_cons (ps_for PassesOwn.never rfl (pi_list (pv 4)) (pg_name (i := 6) scLaw.nd rfl (.inl rfl)) (pss_one (ps_for PassesOwn.never rfl (pi_list (pv 4)) (pg_name (i := 7) scLaw.nd rfl (.inl rfl))
          (pss_cons (ps_if (pt_cmpR op_ne (pe_cmpR (op_ltQ hu) (pe_call G.gG hr (by rfl) G.mG G.kG G.bG .nil pass0 (pa_cons (pv 6) pa_nil)) (pe_call G.gG hr (by rfl) G.mG G.kG G.bG .nil pass0 (pa_cons (pv 7) pa_nil)) (nomark _))
              (pe_call G.gO hr (by rfl) G.mO G.kO G.bO .nil pass0 (pa_cons (pv 6) (pa_cons (pv 7) pa_nil))) (nomark _)) (pss_one (ps_ret pe_bl)) pss_nil)
          (pss_one (ps_if (PW.pt (pw_or (pt_cmpR op_ne (pe_cmpR (op_eqQ hu) (pe_call G.gG hr (by rfl) G.mG G.kG G.bG .nil pass0 (pa_cons (pv 6) pa_nil)) (pe_call G.gG hr (by rfl) G.mG G.kG G.bG .nil pass0 (pa_cons (pv 7) pa_nil)) (nomark _))
              (pe_cmpR (op_eqQ hu) (pv 6) (pv 7) (nomark _)) (nomark _)) (pw_or1 (pt_not (pt_val (pe_callB call_isi (by rfl) T.isi (by decide +kernel) (pa_cons (pe_call G.gG hr (by rfl) G.mG G.kG G.bG .nil pass0 (pa_cons (pv 6) pa_nil)) (pa_cons (pe_bltn (v := .ty "tuple") (by rfl) T.tup (by decide +kernel) rfl) pa_nil))))))))
              (pss_one (ps_ret pe_bl)) pss_nil))))))
        (pss_cons (ps_setLc (i := 9) (own := [("line", 8)]) (g := gName 8) (tt := tYes) rfl scLaw.nd rfl rfl (sw_true rfl rfl rfl (by decide +kernel)) (pi_list (pe_ix ix_list (pv 4) pe_int (fun _ _ => rfl)))
          (blkOk_by (own := [("line", 8)]) (N := ["script", "start", "jar", "words", "logs", "seen", "one", "other", "line", "copy", "key", "turn"]) (sc := defScope sLaw) (by decide +kernel)) (fun _ _ _ _ _ => pg_name (i := 8) scLaw.nd rfl (Or.inl rfl)) (fun _ _ _ _ _ => pts_nil)
          (fun _ _ _ _ _ => pe_callTy (T := "list") (r := rList K) call_lst (by rfl) T.list (by decide +kernel) (pa_cons (pv 8) pa_nil)))
        (pss_cons (ps_set (i := 10) scLaw.nd rfl (.inl rfl) (pe_call G.gG hr (by rfl) G.mG G.kG G.bG .nil pass0 (pa_cons (pv 9) pa_nil)))
        (pss_cons (ps_for PassesOwn.never rfl (pi_list (pv 9)) (pg_name (i := 8) scLaw.nd rfl (.inl rfl)) (pss_one (ps_expr (pe_bm PySem.F.plainAttrs_list PySem.F.slot_list_append PySem.F.type_list_append mt_append (pv 8) (pa_cons pe_str pa_nil)))))
        (pss_cons (ps_expr (pe_bm PySem.F.plainAttrs_list PySem.F.slot_list_append PySem.F.type_list_append mt_append (pv 9) (pa_cons (pe_lst pa_nil) pa_nil)))
        (pss_one (ps_if (PW.pt (pw_or (pt_cmpR op_ne (pe_callB (call_reprD hg hu) (by rfl) T.repr (by decide +kernel) (pa_cons (pv 4) pa_nil)) (pv 5) (nomark _))
            (pw_or1 (pt_cmpR (op_neQ hu) (pv 10) (pe_call G.gG hr (by rfl) G.mG G.kG G.bG .nil pass0 (pa_cons (pe_ix ix_list (pv 4) pe_int (fun _ _ => rfl)) pa_nil)) (nomark _))))) (pss_one (ps_ret pe_bl)) pss_nil)))))))))))))
      (pss_one (ps_ret (pe_up (op_ltQ hu) (pe_call G.gG hr (by rfl) G.mG G.kG G.bG .nil pass0 (pa_cons (pe_lst pa_nil) pa_nil)) (pe_call G.gG hr (by rfl) G.mG G.kG G.bG .nil pass0 (pa_cons (pe_lst (pa_cons (pe_lst pa_nil) pa_nil)) pa_nil))
        (pe_call G.gG hr (by rfl) G.mG G.kG G.bG .nil pass0 (pa_cons (pe_lst (pa_cons (pe_lst (pa_cons pe_str pa_nil)) pa_nil)) pa_nil)) (pe_call G.gG hr (by rfl) G.mG G.kG G.bG .nil pass0 (pa_cons (pe_lst (pa_cons (pe_lst (pa_cons pe_str pa_nil)) pa_nil)) pa_nil))
        (pe_call G.gG hr (by rfl) G.mG G.kG G.bG .nil pass0 (pa_cons (pe_lst (pa_cons (pe_lst (pa_cons pe_str pa_nil)) pa_nil)) pa_nil))))), ?_⟩
    refine ⟨_, rfl, a, _, rfl, .inl hS, _, _, rfl, _, _, rfl, _, rfl, ?_, ?_, ?_⟩
    · split <;> (try split) <;> omega
    · split <;> (try split) <;> omega
    have hN : (if (if (((ns.map V.int).length : Nat) : Int) < 5 then (((ns.map V.int).length : Nat) : Int) else 5) > 2 then (if (((ns.map V.int).length : Nat) : Int) < 5 then (((ns.map V.int).length : Nat) : Int) else 5) else (2 : Int)).toNat ≤ 5 := by
      split <;> (try split) <;> omega
    refine for_range (lo := 0) (fun i σ H2 => ∃ y1 y2 y3 y4 y5 y6 y7 y8 y9 y10 y11, σ = [some (.ref a), y1, y2, y3, y4, y5, y6, y7, y8, y9, y10, y11] ∧ Same H H2) ⟨none, none, none, none, none, none, none, none, none, none, none, rfl, Same.refl H⟩ ?_ ?_
    · -- a start
      rintro st σ H2 hst ⟨y1, y2, y3, y4, y5, y6, y7, y8, y9, y10, y11, rfl, sm⟩
      refine ⟨_, rfl, _, rfl, a, ns, st, by rw [Int.zero_add]; rfl, sm.seq hS, hlen, hbits, by omega, fun H3 j nj sm3 jj => ?_⟩
      have nj0 : H j = none := sm.free nj
      have sm3' := sm.trans sm3
      -- words
      refine ⟨_, rfl, by decide, by decide, fun W nW => lc_range (lo := 0) (n := 6) (fun i H' => But j H3 H' ∧ Jar H' j ∧ ∃ ws : List Str, H' W = some (.lst (ws.map V.str)) ∧ ws.length = i ∧ ∀ x ∈ ws, Wk x) ⟨but_new nW, jj.same (same_new nW), [], upd_same, rfl, (fun _ z => nomatch z)⟩ ?_ ?_⟩
      · rintro m H8 hm ⟨b8, j8, ws, e8, l8, w8⟩
        have njW : j ≠ W := jj.some nW
        refine ⟨rfl, _, rfl, ?_⟩
        refine ed9 H8 _ ?_
        intro xs9 p9 H9 s9 e9 a9
        have l9 : xs9.length = 9 := a9.len
        refine ⟨j, p9, xs9, rfl, j8.same s9, .inl (.inl e9), lst_not (j8.same s9) e9, by omega, by omega, fun H10 x hx b10 j10 => ?_⟩
        obtain ⟨d, hd, qd⟩ := a9.mem hx
        obtain ⟨u, hu', rfl⟩ := List.mem_map.mp hd
        cases qd
        refine ⟨_, b10 _ _ njW.symm (s9 _ _ e8), by rw [List.length_map]; exact small_lt (by omega), but_mut ((b8.trans (But.of s9)).trans b10) nW, j10.put njW, ws ++ [u], ?_, by rw [List.length_append, l8]; rfl, ?_⟩
        · rw [upd_same, List.map_append]
          rfl
        · intro x hx
          rcases List.mem_append.mp hx with z | z
          · exact w8 x z
          · rw [List.mem_singleton.mp z]
            exact words9_ok u hu'
      rintro H4 ⟨b4, j4, ws, eW, lW, wW⟩
      have njW : j ≠ W := jj.some nW
      have sm4 : Same H H4 := same_but sm3' nj0 b4
      -- logs
      refine ⟨_, rfl, by decide, by decide, fun L nL => lc_range (lo := 0) (n := 8) (fun i H' => But j H4 H' ∧ Jar H' j ∧ ∃ (gs : List V) (lss : List (List (List Str))), H' L = some (.lst gs) ∧ DqAll (wo H' L) gs (lss.map logP) ∧ lss.length = i ∧ ∀ ls ∈ lss, Gk ls)
        ⟨but_new nL, j4.same (same_new nL), [], [], upd_same, .nil, rfl, (fun _ z => nomatch z)⟩ ?_ ?_⟩
      · rintro m H8 hm ⟨b8, j8, gs, lss, e8, q8, l8, g8⟩
        have njL : j ≠ L := j4.some nL
        have gl := q8.len
        rw [List.length_map] at gl
        refine ⟨rfl, _, rfl, j, rfl, j8, fun H9 p9 as9 ls b9 j9 M9 n9 gk => ?_⟩
        have e9 : H9 L = some (.lst gs) := b9 _ _ njL.symm e8
        have np : p9 ≠ L := (ne_of_none e8 n9).symm
        refine ⟨gs, e9, by rw [gl, l8]; exact small_lt (by omega), but_mut (b8.trans b9) nL, j9.put njL, gs ++ [.ref p9], lss ++ [ls], upd_same, ?_, by rw [List.length_append, l8]; rfl, ?_⟩
        · rw [wo_upd, List.map_append]
          refine (q8.but (wo_jar njL j8) (wo_but b9)).app (.one ?_)
          have M10 : MadeAt H8 (wo H9 L) p9 as9 ls := by
            refine ⟨by rw [wo_ne np]; exact M9.at_, M9.len, fun i b hb => ?_, M9.nd, M9.ne, M9.new⟩
            obtain ⟨u, h1, h2⟩ := M9.line i b hb
            refine ⟨u, h1, ?_⟩
            rw [wo_ne (fun z => by
              have := M9.new b (List.mem_of_getElem? hb)
              rw [z, e8] at this
              cases this)]
            exact h2
          exact M10.dq
        · intro ls' hls
          rcases List.mem_append.mp hls with z | z
          · exact g8 ls' z
          · rw [List.mem_singleton.mp z]
            exact gk
      rintro H5 ⟨b5, j5, gs, lss, eL, qLw, lL, gL⟩
      have njL : j ≠ L := j4.some nL
      have qL : DqAll H5 gs (lss.map logP) := qLw.same wo_sub
      have gl : gs.length = 8 := by
        have := qL.len
        rw [List.length_map, lL] at this
        exact this
      have sm5 : Same H H5 := same_but sm4 nj0 b5
      have eW5 : H5 W = some (.lst (ws.map V.str)) := b5 _ _ njW.symm eW
      have dL : Dq H5 (.ref L) (.list (lss.map logP)) := .lst eL qL
      have fL := (logs_fine lss gL).list
      rw [lL] at fL
      have shL : (PyData.list (lss.map logP)).shown.length ≤ 16777216 := by
        have h1 := shown_wt (.list (lss.map logP))
        have h2 := fL.w
        omega
      -- seen
      refine ⟨_, rfl, .ref L, _, rfl, dL, fL.s, Nat.le_trans fL.p (by decide), shL, ?_⟩
      clear b4 b5 eW qLw nW nL sm4 sm3' sm3
      have hpw : ∀ (i : Nat) (x : V), (ws.map V.str)[i]? = some x → ∃ u, x = V.str u ∧ Wk u := by
        intro i x hx
        rw [List.getElem?_map] at hx
        cases z : ws[i]? with
        | none =>
          rw [z] at hx
          cases hx
        | some u =>
          rw [z] at hx
          exact ⟨u, (Option.some.inj hx).symm, wW u (List.mem_of_getElem? z)⟩
      have hpl : ∀ (i : Nat) (x : V), gs[i]? = some x → ∃ ls, Dq H5 x (logP ls) ∧ Gk ls ∧ lss[i]? = some ls := by
        intro i x hx
        obtain ⟨d, h1, h2⟩ := qL.at hx
        rw [List.getElem?_map] at h1
        cases z : lss[i]? with
        | none =>
          rw [z] at h1
          cases h1
        | some ls =>
          rw [z] at h1
          cases h1
          exact ⟨ls, h2, gL ls (List.mem_of_getElem? z), rfl⟩
      -- the words compared
      refine ⟨_, rfl, W, rfl, ⟨_, .inl (.inl eW5)⟩, for_list (K := K) (a := W) (xs := ws.map V.str) (fun i σ H' => ∃ y6 y7 y8 y9 y10 y11, σ = [some (.ref a), some (.int (0 + (st : Int))), some (.ref j), some (.ref W), some (.ref L), some (.str (PyData.list (lss.map logP)).shown), y6, y7, y8, y9, y10, y11] ∧ Same H5 H')
        ⟨_, _, _, _, _, _, rfl, Same.refl _⟩ (fun i σ H' _ ⟨_, _, _, _, _, _, _, s⟩ => s.seq (.inl (.inl eW5))) ?_ ?_⟩
      · rintro i x σ H6 hx ⟨y6, y7, y8, y9, y10, y11, rfl, s6⟩
        obtain ⟨u, rfl, hu1⟩ := hpw i x hx
        refine ⟨_, rfl, W, rfl, ⟨_, .inl (.inl (s6 _ _ eW5))⟩, for_list (K := K) (a := W) (xs := ws.map V.str) (fun i σ H' => ∃ y7 y8 y9 y10 y11, σ = [some (.ref a), some (.int (0 + (st : Int))), some (.ref j), some (.ref W), some (.ref L), some (.str (PyData.list (lss.map logP)).shown), some (.str u), y7, y8, y9, y10, y11] ∧ Same H5 H')
          ⟨_, _, _, _, _, rfl, s6⟩ (fun i σ H' _ ⟨_, _, _, _, _, _, s⟩ => s.seq (.inl (.inl eW5))) ?_ (fun σ H' ⟨y7, y8, y9, y10, y11, e, s⟩ => ⟨_, y7, y8, y9, y10, y11, e, s⟩)⟩
        rintro m z σ H7 hz ⟨y7, y8, y9, y10, y11, rfl, s7⟩
        obtain ⟨t, rfl, ht1⟩ := hpw m z hz
        have d1 := shaped_wkey hu1
        have d2 := shaped_wkey ht1
        refine ⟨_, rfl, u, rfl, hu1, fun H8 v8 s8 q8 => ⟨_, rfl, t, rfl, ht1, fun H9 v9 s9 q9 => ⟨_, _, q8.same s9, q9, alike_wkey u t, (fun z => by unfold wkeyP at z; cases z), by omega, _, rfl, _, rfl, u, t, rfl, hu1, ht1, rfl, ?_⟩⟩⟩
        rw [lt_wkey, decide_eq_true rfl]
        refine ⟨_, rfl, iteF ?_⟩
        refine ⟨_, rfl, u, rfl, hu1, fun H10 v10 s10 q10 => ⟨_, rfl, t, rfl, ht1, fun H11 v11 s11 q11 => ⟨_, _, q10.same s11, q11, d1.1, d2.1, _, rfl, _, rfl, rfl, rfl, ?_⟩⟩⟩
        rw [dec_str', eqv_wkey]
        refine ⟨_, rfl, ?_⟩
        rw [show (!decide (V.bl (if false = true then !decide (u = t) else decide (u = t)) = V.bl (decide (u = t)))) = false by simp]
        refine iteF ⟨_, rfl, u, rfl, hu1, fun H12 v12 s12 q12 => ?_⟩
        obtain ⟨ty, ki⟩ := tup_ty (K := K) q12
        exact ⟨v12, .ty "tuple", _, _, _, rfl, .ty _, ty, ki, _, rfl, iteF ⟨_, _, _, _, _, rfl, (((s7.trans (s8.trans s9)).trans s10).trans s11).trans s12⟩⟩
      rintro σ H6 ⟨y6, y7, y8, y9, y10, y11, rfl, s6⟩
      -- the logs compared
      refine ⟨_, rfl, L, rfl, ⟨_, .inl (.inl (s6 _ _ eL))⟩, for_list (K := K) (a := L) (xs := gs) (fun i σ H' => ∃ y6 y7 y8 y9 y10 y11, σ = [some (.ref a), some (.int (0 + (st : Int))), some (.ref j), some (.ref W), some (.ref L), some (.str (PyData.list (lss.map logP)).shown), y6, y7, y8, y9, y10, y11] ∧ Same H5 H')
        ⟨_, _, _, _, _, _, rfl, s6⟩ (fun i σ H' _ ⟨_, _, _, _, _, _, _, s⟩ => s.seq (.inl (.inl eL))) ?_ ?_⟩
      · rintro i x σ H6 hx ⟨y6, y7, y8, y9, y10, y11, rfl, s6⟩
        obtain ⟨u, hux, gu, _⟩ := hpl i x hx
        refine ⟨_, rfl, L, rfl, ⟨_, .inl (.inl (s6 _ _ eL))⟩, for_list (K := K) (a := L) (xs := gs) (fun i σ H' => ∃ y7 y8 y9 y10 y11, σ = [some (.ref a), some (.int (0 + (st : Int))), some (.ref j), some (.ref W), some (.ref L), some (.str (PyData.list (lss.map logP)).shown), some x, y7, y8, y9, y10, y11] ∧ Same H5 H')
          ⟨_, _, _, _, _, rfl, s6⟩ (fun i σ H' _ ⟨_, _, _, _, _, _, s⟩ => s.seq (.inl (.inl eL))) ?_ (fun σ H' ⟨y7, y8, y9, y10, y11, e, s⟩ => ⟨_, y7, y8, y9, y10, y11, e, s⟩)⟩
        rintro m z σ H7 hz ⟨y7, y8, y9, y10, y11, rfl, s7⟩
        obtain ⟨t, htz, gt, _⟩ := hpl m z hz
        have d1 := shaped_lkey gu
        have d2 := shaped_lkey gt
        refine ⟨_, rfl, x, u, rfl, hux.same s7, gu, fun H8 v8 s8 q8 => ⟨_, rfl, z, t, rfl, htz.same (s7.trans s8), gt, fun H9 v9 s9 q9 => ⟨_, _, q8.same s9, q9, alike_lkey u t, (fun z => by unfold lkeyP at z; cases z), by omega, _, rfl, _, rfl, x, z, u, t, rfl, hux.same ((s7.trans s8).trans s9), htz.same ((s7.trans s8).trans s9), gu, gt, fun H10 s10 => ⟨rfl, ?_⟩⟩⟩⟩
        rw [lt_lkey, decide_eq_true rfl]
        refine ⟨_, rfl, iteF ?_⟩
        have s710 := ((s7.trans s8).trans s9).trans s10
        have c1 := shaped_log gu
        have c2 := shaped_log gt
        refine ⟨_, rfl, x, u, rfl, hux.same s710, gu, fun H11 v11 s11 q11 => ⟨_, rfl, z, t, rfl, htz.same (s710.trans s11), gt, fun H12 v12 s12 q12 => ⟨_, _, q11.same s12, q12, d1.1, d2.1, _, rfl, _, rfl, logP u, logP t, hux.same ((s710.trans s11).trans s12), htz.same ((s710.trans s11).trans s12), c1.1, c2.1, rfl, ?_⟩⟩⟩
        rw [eqv_lkey, eqv_log]
        refine ⟨_, rfl, ?_⟩
        rw [show (!decide (V.bl (if false = true then !decide (u = t) else decide (u = t)) = V.bl (if false = true then !decide (u = t) else decide (u = t)))) = false by simp]
        refine iteF ⟨_, rfl, x, u, rfl, hux.same ((s710.trans s11).trans s12), gu, fun H13 v13 s13 q13 => ?_⟩
        obtain ⟨ty, ki⟩ := tup_ty (K := K) q13
        exact ⟨v13, .ty "tuple", _, _, _, rfl, .ty _, ty, ki, _, rfl, iteF ⟨_, _, _, _, _, rfl, ((s710.trans s11).trans s12).trans s13⟩⟩
      rintro σ H7 ⟨y6, y7, y8, y9, y10, y11, rfl, s7⟩
      -- copy
      obtain ⟨g0, hg0⟩ : ∃ g0, gs[0]? = some g0 := ⟨gs[0], List.getElem?_eq_getElem (by omega)⟩
      obtain ⟨ls0, qg0, gk0, hl0⟩ := hpl 0 g0 hg0
      obtain ⟨b0, xs0, rfl, eb0, qb0⟩ := log_at qg0
      have xl0 : xs0.length = ls0.length := by rw [qb0.len, List.length_map]
      have kl0 := gk0.1
      refine ⟨_, rfl, L, gs, _, _, rfl, rfl, .inl (.inl (s7 _ _ eL)), atI_nat (j := 0) hg0, b0, rfl, ⟨xs0, .inl (.inl (s7 _ _ eb0))⟩, fun C nC => ?_⟩
      refine lc_list (K := K) (a := b0) (xs := xs0) (fun i H' => Same H7 H' ∧ ∃ as : List Addr, MadeAt H7 H' C as (ls0.take i) ∧ as.length = i) ⟨same_new nC, [], ⟨upd_same, rfl, fun i a h => by simp at h, List.nodup_nil, (fun z => nomatch z), (fun _ z => nomatch z)⟩, rfl⟩
        (fun i H' _ ⟨s, _⟩ => (s7.trans s).seq (.inl (.inl eb0))) ?_ ?_
      · rintro i y H8 hy ⟨s8, as, M, la⟩
        obtain ⟨ws', b, hws, rfl, hb⟩ := item_at qb0 hy
        have hi : i < xs0.length := (List.getElem?_eq_some_iff.mp hy).1
        refine ⟨rfl, _, rfl, b, _, rfl, .inl (.inl (s8 _ _ (s7 _ _ hb))), fun l nl => ⟨_, by rw [upd_ne (ne_of_none M.at_ nl)]; exact M.at_, by rw [List.length_map]; exact small_lt (by omega), ?_⟩⟩
        have nl7 : H7 l = none := s8.free nl
        refine ⟨same_mut (same_mut s8 nl7) nC, as ++ [l], ?_, by rw [List.length_append, la]; rfl⟩
        rw [List.take_add_one, hws]
        exact M.add nl nl7
      rintro H8 ⟨s8, as, M8, la⟩
      rw [xl0, List.take_length] at M8
      have s58 : Same H5 H8 := s7.trans s8
      -- key
      refine ⟨_, rfl, .ref C, ls0, rfl, M8.dq, gk0, fun H9 vk s9 qk => ?_⟩
      have M9 : MadeAt H7 H9 C as ls0 := by
        refine ⟨s9 _ _ M8.at_, M8.len, fun i b hb => ?_, M8.nd, M8.ne, M8.new⟩
        obtain ⟨u, h1, h2⟩ := M8.line i b hb
        exact ⟨u, h1, s9 _ _ h2⟩
      -- line.append('zz')
      refine ⟨_, rfl, C, rfl, ⟨_, .inl (.inl M9.at_)⟩, for_list (K := K) (a := C) (xs := as.map V.ref) (fun i σ H' => ∃ y6 y7 y8 y11, σ = [some (.ref a), some (.int (0 + (st : Int))), some (.ref j), some (.ref W), some (.ref L), some (.str (PyData.list (lss.map logP)).shown), y6, y7, y8, some (.ref C), some vk, y11] ∧
          Same H7 H' ∧ TupS H9 H' ∧ ∃ wss, MadeAt H7 H' C as wss ∧ ∀ m, i ≤ m → ∀ ws, wss[m]? = some ws → ws.length ≤ 5)
        ⟨_, _, _, _, rfl, s8.trans s9, TupS.refl _, ls0, M9, fun m _ ws h => (gk0.2 ws (List.mem_of_getElem? h)).1⟩ (fun i σ H' _ ⟨_, _, _, _, _, _, _, _, M, _⟩ => .inl (.inl M.at_)) ?_ ?_⟩
      · rintro i x σ H10 hx ⟨y6, y7, y8, y11, rfl, s10, t10, wss, M10, l10⟩
        obtain ⟨b, hb, rfl⟩ : ∃ b, as[i]? = some b ∧ x = .ref b := by
          rw [List.getElem?_map] at hx
          cases z : as[i]? with
          | none =>
            rw [z] at hx
            cases hx
          | some u =>
            rw [z] at hx
            exact ⟨u, rfl, (Option.some.inj hx).symm⟩
        obtain ⟨u, h1, h2⟩ := M10.line i b hb
        have h5 := l10 i (Nat.le_refl _) u h1
        refine ⟨_, rfl, .inl ⟨rfl, _, .inl (.inl h2)⟩, b, _, _, rfl, rfl, h2, by rw [List.length_map]; exact small_lt (by omega), ?_⟩
        refine ⟨y6, y7, _, y11, rfl, same_mut s10 (M10.new b (List.mem_of_getElem? hb)), t10.trans (TupS.put h2), wss.set i (u ++ [("zz" : Str)]), M10.put hb h1, fun m hm ws' hw => ?_⟩
        rw [List.getElem?_set_ne (by omega)] at hw
        exact l10 m (by omega) ws' hw
      rintro σ H10 ⟨y6, y7, y8, y11, rfl, s10, t10, wss, M10, _⟩
      -- copy.append([])
      have al : as.length ≤ 5 := by omega
      refine ⟨_, rfl, .inl ⟨rfl, _, .inl (.inl M10.at_)⟩, Nat.zero_le _, fun e ne => ?_⟩
      have eC : (upd H10 e (.lst [])) C = some (.lst (as.map V.ref)) := by
        rw [upd_ne (ne_of_none M10.at_ ne)]
        exact M10.at_
      refine ⟨C, _, _, rfl, rfl, eC, by rw [List.length_map]; exact small_lt (by omega), ?_⟩
      have sE : Same H7 (upd (upd H10 e (.lst [])) C (.lst (as.map V.ref ++ [.ref e]))) := same_mut (s10.trans (same_new ne)) nC
      have tE : TupS H9 (upd (upd H10 e (.lst [])) C (.lst (as.map V.ref ++ [.ref e]))) := (t10.trans (TupS.of (same_new ne))).trans (TupS.put eC)
      generalize upd (upd H10 e (.lst [])) C (.lst (as.map V.ref ++ [.ref e])) = H11 at sE tE
      have s11 : Same H5 H11 := s7.trans sE
      refine ⟨_, rfl, .ref L, _, rfl, dL.same s11, fL.s, Nat.le_trans fL.p (by decide), shL, _, rfl, rfl, ?_⟩
      rw [decide_eq_true rfl]
      refine ⟨_, rfl, iteF ?_⟩
      refine ⟨_, rfl, _, rfl, L, gs, _, _, rfl, rfl, .inl (.inl (s11 _ _ eL)), atI_nat (j := 0) hg0, .ref b0, ls0, rfl, qg0.same s11, gk0, fun H12 v12 s12 q12 => ?_⟩
      have sk := (shaped_lkey gk0).1
      refine ⟨_, _, (Dq.tups tE _ _ (tup_lkey ls0) qk).same s12, q12, sk, sk, ?_⟩
      rw [eqv_lkey, decide_eq_true rfl]
      exact ⟨_, rfl, iteF ⟨_, _, _, _, _, _, _, _, _, _, _, rfl, (sm5.trans s11).trans s12⟩⟩
    · rintro σ H2 ⟨y1, y2, y3, y4, y5, y6, y7, y8, y9, y10, y11, rfl, sm⟩
      clear sm hN
      obtain ⟨g1, g2, g3, g4, g5⟩ := five_ok
      obtain ⟨l1, l2, l3, l4⟩ := five_lt
      dsimp only
      refine up_start ?_
      refine call1 (ed_lst (ds := ([] : List (List Str)).map lineP) ed_nil (by decide) H2 _ fun w1 H3 s3 q3 => ⟨w1, [], rfl, q3, g1, fun H4 v1 s4 k1 => ?_⟩)
      refine call1 (ed_lst (ds := ([[]] : List (List Str)).map lineP) (ed_cons (ed_lst ed_nil (by decide)) ed_nil) (by decide) H4 _ fun w2 H5 s5 q5 => ⟨w2, [[]], rfl, q5, g2, fun H6 v2 s6 k2 => ?_⟩)
      refine ⟨_, _, k1.same (s5.trans s6), k2, alike_lkey _ _, (fun z => by unfold lkeyP at z; cases z), by have := (shaped_lkey g1).2; omega, ?_⟩
      rw [lt_lkey, l1]
      refine ⟨rfl, ?_⟩
      refine call1 (ed_lst (ds := ([["a"]] : List (List Str)).map lineP) (ed_cons (ed_lst (ed_cons ed_str ed_nil) (by decide)) ed_nil) (by decide) H6 _ fun w3 H7 s7 q7 => ⟨w3, [["a"]], rfl, q7, g3, fun H8 v3 s8 k3 => ?_⟩)
      refine ⟨_, _, k2.same (s7.trans s8), k3, alike_lkey _ _, (fun z => by unfold lkeyP at z; cases z), by have := (shaped_lkey g2).2; omega, ?_⟩
      rw [lt_lkey, l2]
      refine ⟨rfl, ?_⟩
      refine call1 (ed_lst (ds := ([["b"]] : List (List Str)).map lineP) (ed_cons (ed_lst (ed_cons ed_str ed_nil) (by decide)) ed_nil) (by decide) H8 _ fun w4 H9 s9 q9 => ⟨w4, [["b"]], rfl, q9, g4, fun H10 v4 s10 k4 => ?_⟩)
      refine ⟨_, _, k3.same (s9.trans s10), k4, alike_lkey _ _, (fun z => by unfold lkeyP at z; cases z), by have := (shaped_lkey g3).2; omega, ?_⟩
      rw [lt_lkey, l3]
      refine ⟨rfl, ?_⟩
      refine call1 (ed_lst (ds := ([["aa"]] : List (List Str)).map lineP) (ed_cons (ed_lst (ed_cons ed_str ed_nil) (by decide)) ed_nil) (by decide) H10 _ fun w5 H11 s11 q11 => ⟨w5, [["aa"]], rfl, q11, g5, fun H12 v5 s12 k5 => ?_⟩)
      refine ⟨_, _, k4.same (s11.trans s12), k5, alike_lkey _ _, (fun z => by unfold lkeyP at z; cases z), by have := (shaped_lkey g4).2; omega, ?_⟩
      rw [lt_lkey, l4]
      exact q _
end
end Bb
namespace Bb
open PySem PySem.Spec PyProof.Rows L2
theorem FnG.mono {P : Program} {w : World} {K : PySem.W.Frag} {mg : Str → Option Value} {base : Heap} {CX : CXT} {j k : Nat} {f : Addr} {fd : FuncData} {ps : List Str} {sp : Sp} (F : FnG P w K mg base CX j f fd ps sp) (h : j ≤ k) : FnG P w K mg base CX k f fd ps sp :=
  ⟨F.len, fun A outer s H args us vs Q E hg hr => F.go A outer s H args us vs Q E hg (hr.mono h)⟩
theorem all_mk {l : PySem.W.OpenLaw} {w : World} {K : PySem.W.Frag} {h : Heap} {mg : Str → Option Value} {fa f0 f1 f2 f3 f4 f5 f6 f7 f8 f9 : Addr} (X : K.In h) (G : h.Ns mainGlobals mg) (hfa : mg "law" = some (.ref fa))
    {od0 an0 od1 an1 od2 an2 od3 an3 od4 an4 od5 an5 od6 an6 od7 an7 od8 an8 od9 an9 : Option Addr} {sl0 sl1 sl2 sl3 sl4 sl5 sl6 sl7 sl8 sl9 : Array (Option Value)} {oc0 kV0 dc0 pm0 cd0 ct0 oc1 kV1 dc1 pm1 cd1 ct1 oc2 kV2 dc2 pm2 cd2 ct2 oc3 kV3 dc3 pm3 cd3 ct3 oc4 kV4 dc4 pm4 cd4 ct4 oc5 kV5 dc5 pm5 cd5 ct5 oc6 kV6 dc6 pm6 cd6 ct6 oc7 kV7 dc7 pm7 cd7 ct7 oc8 kV8 dc8 pm8 cd8 ct8 oc9 kV9 dc9 pm9 cd9 ct9 : Value} 
    (a0 : PySem.W.nsIn K mainGlobals "word_key" = some (some (.ref f0))) (l0 : K.lookup f0 = some ⟨oc0, od0, .func (PySem.W.fnOf "word_key" "word_key" (defArgs sWordKey) (defBody sWordKey) (defScope sWordKey) .none kV0 dc0 pm0 an0 cd0 ct0), sl0⟩) (c0 : PySem.W.codeIn K cd0 "word_key" = true) (k0 : PySem.W.keepIn K (.ref f0) = true)
    (a1 : PySem.W.nsIn K mainGlobals "log_key" = some (some (.ref f1))) (l1 : K.lookup f1 = some ⟨oc1, od1, .func (PySem.W.fnOf "log_key" "log_key" (defArgs sLogKey) (defBody sLogKey) (defScope sLogKey) .none kV1 dc1 pm1 an1 cd1 ct1), sl1⟩) (c1 : PySem.W.codeIn K cd1 "log_key" = true) (k1 : PySem.W.keepIn K (.ref f1) = true)
    (a2 : PySem.W.nsIn K mainGlobals "_law_jar" = some (some (.ref f2))) (l2 : K.lookup f2 = some ⟨oc2, od2, .func (PySem.W.fnOf "_law_jar" "_law_jar" (defArgs sJar) (defBody sJar) (defScope sJar) .none kV2 dc2 pm2 an2 cd2 ct2), sl2⟩) (c2 : PySem.W.codeIn K cd2 "_law_jar" = true) (k2 : PySem.W.keepIn K (.ref f2) = true)
    (a3 : PySem.W.nsIn K mainGlobals "_law_draw" = some (some (.ref f3))) (l3 : K.lookup f3 = some ⟨oc3, od3, .func (PySem.W.fnOf "_law_draw" "_law_draw" (defArgs sDraw) (defBody sDraw) (defScope sDraw) .none kV3 dc3 pm3 an3 cd3 ct3), sl3⟩) (c3 : PySem.W.codeIn K cd3 "_law_draw" = true) (k3 : PySem.W.keepIn K (.ref f3) = true)
    (a4 : PySem.W.nsIn K mainGlobals "_law_choose" = some (some (.ref f4))) (l4 : K.lookup f4 = some ⟨oc4, od4, .func (PySem.W.fnOf "_law_choose" "_law_choose" (defArgs sChoose) (defBody sChoose) (defScope sChoose) .none kV4 dc4 pm4 an4 cd4 ct4), sl4⟩) (c4 : PySem.W.codeIn K cd4 "_law_choose" = true) (k4 : PySem.W.keepIn K (.ref f4) = true)
    (a5 : PySem.W.nsIn K mainGlobals "_law_word_before" = some (some (.ref f5))) (l5 : K.lookup f5 = some ⟨oc5, od5, .func (PySem.W.fnOf "_law_word_before" "_law_word_before" (defArgs sWordBefore) (defBody sWordBefore) (defScope sWordBefore) .none kV5 dc5 pm5 an5 cd5 ct5), sl5⟩) (c5 : PySem.W.codeIn K cd5 "_law_word_before" = true) (k5 : PySem.W.keepIn K (.ref f5) = true)
    (a6 : PySem.W.nsIn K mainGlobals "_law_sizes" = some (some (.ref f6))) (l6 : K.lookup f6 = some ⟨oc6, od6, .func (PySem.W.fnOf "_law_sizes" "_law_sizes" (defArgs sSizes) (defBody sSizes) (defScope sSizes) .none kV6 dc6 pm6 an6 cd6 ct6), sl6⟩) (c6 : PySem.W.codeIn K cd6 "_law_sizes" = true) (k6 : PySem.W.keepIn K (.ref f6) = true)
    (a7 : PySem.W.nsIn K mainGlobals "_law_log_before" = some (some (.ref f7))) (l7 : K.lookup f7 = some ⟨oc7, od7, .func (PySem.W.fnOf "_law_log_before" "_law_log_before" (defArgs sLogBefore) (defBody sLogBefore) (defScope sLogBefore) .none kV7 dc7 pm7 an7 cd7 ct7), sl7⟩) (c7 : PySem.W.codeIn K cd7 "_law_log_before" = true) (k7 : PySem.W.keepIn K (.ref f7) = true)
    (a8 : PySem.W.nsIn K mainGlobals "_law_log" = some (some (.ref f8))) (l8 : K.lookup f8 = some ⟨oc8, od8, .func (PySem.W.fnOf "_law_log" "_law_log" (defArgs sMakeLog) (defBody sMakeLog) (defScope sMakeLog) .none kV8 dc8 pm8 an8 cd8 ct8), sl8⟩) (c8 : PySem.W.codeIn K cd8 "_law_log" = true) (k8 : PySem.W.keepIn K (.ref f8) = true)
    (a9 : PySem.W.nsIn K mainGlobals "law" = some (some (.ref f9))) (l9 : K.lookup f9 = some ⟨oc9, od9, .func (PySem.W.fnOf "law" "law" (defArgs sLaw) (defBody sLaw) (defScope sLaw) .none kV9 dc9 pm9 an9 cd9 ct9), sl9⟩) (c9 : PySem.W.codeIn K cd9 "law" = true) (k9 : PySem.W.keepIn K (.ref f9) = true)
    (z0 : PySem.W.nsIn K mainGlobals "int" = some none) (z1 : PySem.W.nsIn K mainGlobals "len" = some none) (z2 : PySem.W.nsIn K mainGlobals "sum" = some none) (z3 : PySem.W.nsIn K mainGlobals "tuple" = some none) (z4 : PySem.W.nsIn K mainGlobals "zip" = some none) (z5 : PySem.W.nsIn K mainGlobals "range" = some none) (z6 : PySem.W.nsIn K mainGlobals "max" = some none) (z7 : PySem.W.nsIn K mainGlobals "min" = some none) (z8 : PySem.W.nsIn K mainGlobals "isinstance" = some none) (z9 : PySem.W.nsIn K mainGlobals "list" = some none) (z10 : PySem.W.nsIn K mainGlobals "repr" = some none) :
    ∃ fd : FuncData, (∀ (s : Shared) (v : Value), BindsTo s fd ⟨[v], []⟩ [("script", v)]) ∧ ∀ base : Heap, K.In base → base.Ns mainGlobals mg → FnG l.prog w K mg base CX0 4 fa fd ["script"] (spLaw K) := by
  have e := hfa.symm.trans (PySem.W.mg_of X G a9)
  cases e
  have F0 := fun_mk (st := sWordKey) l0 c0 k0
  have b0 := F0.binds (ps := ["word"]) fun _ _ _ _ _ _ us hl => match us, hl with | [_], _ => rfl
  have m0 := PySem.W.mg_of X G a0
  have F1 := fun_mk (st := sLogKey) l1 c1 k1
  have b1 := F1.binds (ps := ["log"]) fun _ _ _ _ _ _ us hl => match us, hl with | [_], _ => rfl
  have m1 := PySem.W.mg_of X G a1
  have F2 := fun_mk (st := sJar) l2 c2 k2
  have b2 := F2.binds (ps := ["script", "start"]) fun _ _ _ _ _ _ us hl => match us, hl with | [_, _], _ => rfl
  have m2 := PySem.W.mg_of X G a2
  have F3 := fun_mk (st := sDraw) l3 c3 k3
  have b3 := F3.binds (ps := ["jar", "many"]) fun _ _ _ _ _ _ us hl => match us, hl with | [_, _], _ => rfl
  have m3 := PySem.W.mg_of X G a3
  have F4 := fun_mk (st := sChoose) l4 c4 k4
  have b4 := F4.binds (ps := ["jar", "things"]) fun _ _ _ _ _ _ us hl => match us, hl with | [_, _], _ => rfl
  have m4 := PySem.W.mg_of X G a4
  have F5 := fun_mk (st := sWordBefore) l5 c5 k5
  have b5 := F5.binds (ps := ["one", "other"]) fun _ _ _ _ _ _ us hl => match us, hl with | [_, _], _ => rfl
  have m5 := PySem.W.mg_of X G a5
  have F6 := fun_mk (st := sSizes) l6 c6 k6
  have b6 := F6.binds (ps := ["log"]) fun _ _ _ _ _ _ us hl => match us, hl with | [_], _ => rfl
  have m6 := PySem.W.mg_of X G a6
  have F7 := fun_mk (st := sLogBefore) l7 c7 k7
  have b7 := F7.binds (ps := ["one", "other"]) fun _ _ _ _ _ _ us hl => match us, hl with | [_, _], _ => rfl
  have m7 := PySem.W.mg_of X G a7
  have F8 := fun_mk (st := sMakeLog) l8 c8 k8
  have b8 := F8.binds (ps := ["jar"]) fun _ _ _ _ _ _ us hl => match us, hl with | [_], _ => rfl
  have m8 := PySem.W.mg_of X G a8
  have F9 := fun_mk (st := sLaw) l9 c9 k9
  have n_int := PySem.W.mg_none_of X G z0
  have n_len := PySem.W.mg_none_of X G z1
  have n_sum := PySem.W.mg_none_of X G z2
  have n_tuple := PySem.W.mg_none_of X G z3
  have n_zip := PySem.W.mg_none_of X G z4
  have n_range := PySem.W.mg_none_of X G z5
  have n_max := PySem.W.mg_none_of X G z6
  have n_min := PySem.W.mg_none_of X G z7
  have n_isinstance := PySem.W.mg_none_of X G z8
  have n_list := PySem.W.mg_none_of X G z9
  have n_repr := PySem.W.mg_none_of X G z10
  refine ⟨PySem.W.fnOf "law" "law" (defArgs sLaw) (defBody sLaw) (defScope sLaw) .none kV9 dc9 pm9 an9 cd9 ct9, fun s v => .of_eq rfl, fun base _ _ => ?_⟩
  have TK1 : TK mg := ⟨n_len, n_sum, n_tuple, n_zip⟩
  have TJ1 : TJ mg := ⟨n_int, n_len⟩
  have gJ : FnOk l.prog w K mg base CX0 1 f2 _ ["script", "start"] (spJar K) := ok_jar F2 TJ1
  have gD : FnOk l.prog w K mg base CX0 1 f3 _ ["jar", "many"] spDraw := ok_draw F3 TJ1
  have gC : FnOk l.prog w K mg base CX0 2 f4 _ ["jar", "things"] (spChoose K) := ok_choose F4 TJ1 F3 b3 m3
  have gL : FnOk l.prog w K mg base CX0 3 f8 _ ["jar"] spMakeLog := ok_makeLog (k := 0) F8 n_range (gD.mono (by decide)) F3.kp b3 m3 gC F4.kp b4 m4
  have gW : FnOk l.prog w K mg base CX0 1 f0 _ ["word"] spWordKey := ok_wordKey F0 TK1
  have gG : FnOk l.prog w K mg base CX0 1 f1 _ ["log"] spLogKey := ok_logKey F1 TK1
  have gB : FnOk l.prog w K mg base CX0 1 f5 _ ["one", "other"] spWordBefore := ok_wordBefore F5 TK1
  have gO : FnOk l.prog w K mg base CX0 2 f7 _ ["one", "other"] spLogBefore := ok_logBefore F7 TK1 F6 b6 m6
  have H3 : Helpers l.prog w K mg base 3 f2 f4 f8 f0 f1 f5 f7 _ _ _ _ _ _ _ :=
    ⟨gJ.mono (by decide), gC.mono (by decide), gL, gW.mono (by decide), gG.mono (by decide), gB.mono (by decide), gO.mono (by decide), b2, b4, b8, b0, b1, b5, b7,
    F2.kp, F4.kp, F8.kp, F0.kp, F1.kp, F5.kp, F7.kp, m2, m4, m8, m0, m1, m5, m7⟩
  exact ok_law F9 H3 ⟨n_range, n_max, n_min, n_len, n_isinstance, n_tuple, n_list, n_repr⟩
end Bb
open PySem PySem.W PyProof.Rows
set_option maxRecDepth 100000 in
set_option maxHeartbeats 0 in
theorem PySem.Challenge.cw_blackbars_k02_order_of_words_and_logs_holds : PySem.Challenge.rw_blackbars_k02_order_of_words_and_logs.Holds := by
  w_on; o_law; k_head; (case hw => w_witness2)
  k_fill
  refine Bb.walkG (l := PySem.Challenge.rw_blackbars_k02_order_of_words_and_logs) (n := 63) (k := 4) (x := "script") (sp := fun w => Bb.spLaw _) rfl (by decide) rfl ⟨rfl, by decide, by decide⟩ (fun w h Y => PySem.W.kIn_of Y) ?F (fun _ _ a ns hl hb _ hS => ⟨a, ns, rfl, hS, hl, hb, fun _ => rfl⟩)
  case F =>
    intro w mg fa h KX G hmg
    refine' Bb.all_mk KX G hmg ?a0 ?l0 ?c0 ?k0 ?a1 ?l1 ?c1 ?k1 ?a2 ?l2 ?c2 ?k2 ?a3 ?l3 ?c3 ?k3 ?a4 ?l4 ?c4 ?k4 ?a5 ?l5 ?c5 ?k5 ?a6 ?l6 ?c6 ?k6 ?a7 ?l7 ?c7 ?k7 ?a8 ?l8 ?c8 ?k8 ?a9 ?l9 ?c9 ?k9 ?z0 ?z1 ?z2 ?z3 ?z4 ?z5 ?z6 ?z7 ?z8 ?z9 ?z10
    (case a0 => k_is)
    (case l0 => k_is)
    (case c0 => k_is)
    (case k0 => k_is)
    (case a1 => k_is)
    (case l1 => k_is)
    (case c1 => k_is)
    (case k1 => k_is)
    (case a2 => k_is)
    (case l2 => k_is)
    (case c2 => k_is)
    (case k2 => k_is)
    (case a3 => k_is)
    (case l3 => k_is)
    (case c3 => k_is)
    (case k3 => k_is)
    (case a4 => k_is)
    (case l4 => k_is)
    (case c4 => k_is)
    (case k4 => k_is)
    (case a5 => k_is)
    (case l5 => k_is)
    (case c5 => k_is)
    (case k5 => k_is)
    (case a6 => k_is)
    (case l6 => k_is)
    (case c6 => k_is)
    (case k6 => k_is)
    (case a7 => k_is)
    (case l7 => k_is)
    (case c7 => k_is)
    (case k7 => k_is)
    (case a8 => k_is)
    (case l8 => k_is)
    (case c8 => k_is)
    (case k8 => k_is)
    (case a9 => k_is)
    (case l9 => k_is)
    (case c9 => k_is)
    (case k9 => k_is)
    (case z0 => k_is)
    (case z1 => k_is)
    (case z2 => k_is)
    (case z3 => k_is)
    (case z4 => k_is)
    (case z5 => k_is)
    (case z6 => k_is)
    (case z7 => k_is)
    (case z8 => k_is)
    (case z9 => k_is)
    (case z10 => k_is)
