import PyProof.Rows.All
import Wide.All
import OpenK.AllK
import Wide.FinOn
import HandS.ForMost
import HandS.StrMore
import Wide.Txt
import HandS.IsInst
import HandS.Wide
import HandS.ReplaceLit
import HandS.ReplaceList
import HandS.TupLe
import HandS.Walk
import HandS.EndBits
import PySem.Challenge.RW_blackbars_k01_words_lines_and_logs
set_option Elab.async false
set_option linter.all false
set_option maxRecDepth 100000
/-! own rules that no program is named in: great ints, repr of data, a text put ahead of a replaced one -/
namespace Bb
open PySem PySem.Spec PyProof.Rows L2

/-! ### great ints -/
def MulB (i j : Int) : Prop := ∃ a b : Nat, i.natAbs < 2 ^ a ∧ j.natAbs < 2 ^ b ∧ 0 < a ∧ 0 < b ∧ a + b ≤ 100000000
theorem MulB.ok {i j : Int} (h : MulB i j) : IntMulOk i j := by
  obtain ⟨a, b, ha, hb, h0, h1, h⟩ := h
  have x := intBits_le ha
  have y := intBits_le hb
  have e : bitsLine = 134217728 := by decide
  unfold IntMulOk
  intro z
  rw [Bool.and_eq_true] at z
  have z2 := z.2
  unfold Builtin.Int.intTooBig at z2
  have z3 := of_decide_eq_true z2
  rw [e] at z3
  omega
def PowB (i j : Int) : Prop := j = 2 ∧ ∃ a : Nat, i.natAbs < 2 ^ a ∧ a ≤ 50000000
section
variable {X : Cx}
theorem op_mulB : OpR X (binaryOp .Mult) (rI MulB fun i j => .int (i * j)) := opI fun _ _ _ _ _ _ _ hc q => mul_int q hc.ok
theorem op_sqB : OpR X (binaryOp .Pow) (rI PowB fun i j => .int (i ^ j.toNat)) := opI fun i j _ _ _ _ _ hc q => by
  obtain ⟨rfl, a, ha, hb⟩ := hc
  have x := intBits_le ha
  exact pow_int (by decide) (by omega) q
end

/-! ### data of the abstract heap, the empty dict among them -/
mutual
inductive Dq (H : Hp) : V → PyData → Prop
  | non : Dq H .non .none
  | bl (b : Bool) : Dq H (.bl b) (.bool b)
  | int (i : Int) : Dq H (.int i) (.int i)
  | str (x : Str) : Dq H (.str x) (.str x)
  | lst {a : Addr} {xs : List V} {ds : List PyData} : H a = some (.lst xs) → DqAll H xs ds → Dq H (.ref a) (.list ds)
  | tup {a : Addr} {xs : List V} {ds : List PyData} : H a = some (.tup xs) → DqAll H xs ds → Dq H (.ref a) (.tuple ds)
  | dic {a : Addr} : H a = some (.dK []) → Dq H (.ref a) (.dict [])
inductive DqAll (H : Hp) : List V → List PyData → Prop
  | nil : DqAll H [] []
  | cons {v : V} {vs : List V} {d : PyData} {ds : List PyData} : Dq H v d → DqAll H vs ds → DqAll H (v :: vs) (d :: ds)
end
section
variable {X : Cx} {pins : List (Addr × Obj)} {σ : L2.St} {H : Hp} {s : Shared}
theorem dict_nil {a : Addr} (I : Inv X pins σ H s) (e : H a = some (.dK [])) : ∃ (o : Obj) (es : Array DictEntry) (n : Nat), s.heap.get? a = some o ∧ o.cls = .type "dict" ∧ o.data = .dict es n ∧ es.toList = [] ∧ (a == sysModules) = false := by
  obtain ⟨_, hn, vs, kv, o, es, ep, h1, h2, h3, h4, h5, _⟩ := (show ObjOk X.prog X.w H s.heap a (.dK []) from I.hok a _ e)
  cases kv
  have hz : es.toList = [] := by
    cases hq : es.toList with
    | nil => rfl
    | cons x r =>
      rw [hq] at h5
      cases h5
  exact ⟨o, es, ep, h1, h2.1, h3, hz, hn⟩
mutual
theorem Dq.reads (I : Inv X pins σ H s) : ∀ (d : PyData) (v : V) (u : Value), Dq H v d → RelV v u → ∃ as, Reads s.heap u d as
  | .none, _, _, h, r => by
    cases h
    cases r
    exact ⟨_, Reads.none⟩
  | .bool b, _, _, h, r => by
    cases h
    cases r
    exact ⟨_, Reads.bool b⟩
  | .int i, _, _, h, r => by
    cases h
    obtain ⟨t, rfl⟩ := r
    exact ⟨_, Reads.int i t⟩
  | .str x, _, _, h, r => by
    cases h
    obtain ⟨t, rfl⟩ := r
    exact ⟨_, Reads.str x t⟩
  | .list ds, _, _, h, r => by
    cases h with
    | lst hs ha =>
      cases r
      obtain ⟨its, rv, ⟨o, n, ho, hc, _, hd⟩, _⟩ := I.list (.inl (.inl hs))
      obtain ⟨as, hr⟩ := Dq.readsAll I ds _ its ha rv
      exact ⟨_, Reads.list ho hc hd hr⟩
  | .tuple ds, _, _, h, r => by
    cases h with
    | tup hs ha =>
      cases r
      obtain ⟨its, rv, ⟨o, ho, hc, n, hd⟩, _⟩ := I.tuple (.inl (.inl hs))
      obtain ⟨as, hr⟩ := Dq.readsAll I ds _ its ha rv
      exact ⟨_, Reads.tuple ho hc hd hr⟩
  | .dict kvs, _, _, h, r => by
    cases h with
    | dic e =>
      cases r
      obtain ⟨o, es, n, h1, h2, h3, hz, _⟩ := dict_nil I e
      refine ⟨_, Reads.dict h1 h2 h3 (as := []) (bs := []) ?_ ?_⟩
      · rw [hz]
        exact ReadsAll.nil
      · rw [hz]
        exact ReadsAll.nil
theorem Dq.readsAll (I : Inv X pins σ H s) : ∀ (ds : List PyData) (vs : List V) (us : List Value), DqAll H vs ds → Vals vs us → ∃ as, ReadsAll s.heap us ds as
  | [], _, _, h, r => by
    cases h
    cases r
    exact ⟨_, ReadsAll.nil⟩
  | d :: ds, _, _, h, r => by
    cases h with
    | cons h1 h2 =>
      cases r with
      | cons r1 r2 =>
        obtain ⟨as, q1⟩ := Dq.reads I d _ _ h1 r1
        obtain ⟨bs, q2⟩ := Dq.readsAll I ds _ _ h2 r2
        exact ⟨_, ReadsAll.cons q1 q2⟩
end
theorem dictText_none : dictText [] = ("{}" : Str) := by decide +kernel
mutual
/-- what repr makes of data within other data -/
theorem Dq.reprK (I : Inv X pins σ H s) : ∀ (d : PyData) (v : V) (u : Value), Dq H v d → RelV v u → d.showable = true → d.shown.length ≤ sizeLine → ∃ bs, ReadAtMost s.heap d.depth bs ∧ ReprK X.prog X.w bs s.heap d.depth u d.shown
  | .none, _, _, h, r, _, _ => by
    cases h
    cases r
    refine ⟨[], (fun _ q => nomatch q), ?_⟩
    rw [PyData.shown]
    exact .of_is ReprIs.none _ _ _
  | .bool b, _, _, h, r, _, _ => by
    cases h
    cases r
    refine ⟨[], (fun _ q => nomatch q), ?_⟩
    rw [PyData.shown]
    exact .of_is (ReprIs.bool b) _ _ _
  | .int i, _, _, h, r, hs, _ => by
    cases h
    obtain ⟨t, rfl⟩ := r
    refine ⟨[], (fun _ q => nomatch q), ?_⟩
    rw [PyData.shown]
    exact .of_is (ReprIs.int t (by simpa [PyData.showable] using hs)) _ _ _
  | .str x, _, _, h, r, _, hz => by
    cases h
    obtain ⟨t, rfl⟩ := r
    refine ⟨[], (fun _ q => nomatch q), ?_⟩
    rw [PyData.shown] at hz ⊢
    exact .of_is (ReprIs.str x t hz) _ _ _
  | .list ds, v, u, h, r, hs, hz => by
    obtain ⟨as, hr⟩ := Dq.reads I _ _ _ h r
    rw [PyData.shown] at hz ⊢
    rw [PyData.depth]
    cases hr with
    | list h1 h2 h3 h4 =>
      rename_i a o vs n as'
      cases h with
      | lst e ha =>
        obtain ⟨its, rv, ⟨o', n', ho', hc', _, hd'⟩, _⟩ := I.list (.inl (.inl e))
        cases r
        rw [h1] at ho'
        cases ho'
        rw [h3] at hd'
        cases hd'
        obtain ⟨bs, hb, hk⟩ := Dq.reprAllK I ds _ _ ha rv (by simpa [PyData.showable] using hs) (fun t ht => Nat.le_trans (listText_mem_le ht) hz)
        have rr : Reads s.heap (.ref a) (.list ds) _ := .list h1 h2 h3 h4
        have hna : a ∉ bs := not_mem_of_deeper rr (by simp only [PyData.depth]; omega) hb
        refine ⟨a :: bs, ReadAtMost.cons rr (by simp only [PyData.depth]; omega) hb, ?_⟩
        cases its with
        | nil =>
          have hh : PyData.shownAll ds = [] := List.length_eq_zero_iff.mp (by simpa using hk.length_eq)
          rw [hh, listText_nil]
          exact ReprK.listEmpty h1 h2 h3
        | cons x l => exact ReprK.list h1 h2 h3 hna (by simpa using hk.length_eq) (fun i y q => hk.item i y (by simpa using q))
  | .tuple ds, v, u, h, r, hs, hz => by
    obtain ⟨as, hr⟩ := Dq.reads I _ _ _ h r
    rw [PyData.shown] at hz ⊢
    rw [PyData.depth]
    cases hr with
    | tuple h1 h2 h3 h4 =>
      rename_i a o vs n
      cases h with
      | tup e ha =>
        obtain ⟨its, rv, ⟨o', ho', hc', n', hd'⟩, _⟩ := I.tuple (.inl (.inl e))
        cases r
        rw [h1] at ho'
        cases ho'
        rw [h3] at hd'
        cases hd'
        obtain ⟨bs, hb, hk⟩ := Dq.reprAllK I ds _ _ ha rv (by simpa [PyData.showable] using hs) (fun t ht => Nat.le_trans (tupleText_mem_le ht) hz)
        have rr : Reads s.heap (.ref a) (.tuple ds) _ := .tuple h1 h2 h3 h4
        have hna : a ∉ bs := not_mem_of_deeper rr (by simp only [PyData.depth]; omega) hb
        refine ⟨a :: bs, ReadAtMost.cons rr (by simp only [PyData.depth]; omega) hb, ?_⟩
        exact ReprK.tuple h1 h2 h3 hna hk
  | .dict kvs, v, u, h, r, hs, hz => by
    cases h with
    | dic e =>
      rename_i a
      cases r
      obtain ⟨o, es, n, h1, h2, h3, hq, hsys⟩ := dict_nil I e
      obtain ⟨as, hr⟩ := Dq.reads I _ _ _ (Dq.dic e) rfl
      refine ⟨[a], ReadAtMost.cons hr (by simp [PyData.depth]) (n := 0) (fun _ q => nomatch q), ?_⟩
      rw [PyData.shown, PyData.shownKv, PyData.depth]
      refine ReprK.dict (as := []) h1 h2 h3 hsys (fun q => nomatch q) ?_
      rw [hq]
      exact ReprEntriesK.of_two [] [] [] .nil .nil
theorem Dq.reprAllK (I : Inv X pins σ H s) : ∀ (ds : List PyData) (vs : List V) (us : List Value), DqAll H vs ds → Vals vs us → PyData.showableAll ds = true → (∀ t ∈ PyData.shownAll ds, t.length ≤ sizeLine) →
    ∃ bs, ReadAtMost s.heap (PyData.depthAll ds) bs ∧ ReprAllK X.prog X.w bs s.heap (PyData.depthAll ds) us (PyData.shownAll ds)
  | [], _, _, h, r, _, _ => by
    cases h
    cases r
    refine ⟨[], (fun _ q => nomatch q), ?_⟩
    rw [PyData.shownAll]
    exact .nil
  | d :: ds, _, _, h, r, hs, hz => by
    cases h with
    | cons h1 h2 =>
      cases r with
      | cons r1 r2 =>
        rw [PyData.showableAll, Bool.and_eq_true] at hs
        rw [PyData.shownAll] at hz
        obtain ⟨b1, m1, k1⟩ := Dq.reprK I d _ _ h1 r1 hs.1 (hz _ (List.mem_cons_self ..))
        obtain ⟨b2, m2, k2⟩ := Dq.reprAllK I ds _ _ h2 r2 hs.2 (fun t ht => hz t (List.mem_cons_of_mem _ ht))
        rw [PyData.depthAll, PyData.shownAll]
        exact ⟨b1 ++ b2, (m1.mono (Nat.le_max_left _ _)).append (m2.mono (Nat.le_max_right _ _)),
          .cons ((k1.more fun b hb => List.mem_append_left _ hb).level_le (Nat.le_max_left _ _)) (k2.more_le (fun b hb => List.mem_append_right _ hb) (Nat.le_max_right _ _))⟩
end
end
section
variable {X : Cx}
/-- repr of data: at most 60 deep -/
def rRepr : List V → Hp → VK → Prop := fun xs H Q => ∃ v d, xs = [v] ∧ Dq H v d ∧ d.showable = true ∧ d.depth ≤ 60 ∧ d.shown.length ≤ 16777216 ∧ Q (.str d.shown) H
theorem call_reprD (hg : X.A.guards = some []) (hu : X.A.units + 64 < cLine) : CallR X (.builtin "repr") rRepr := by
  intro pins s σ H xs us Q I r h
  obtain ⟨v, d, rfl, hd, hs, hdp, hsz, q⟩ := h
  obtain ⟨u, rfl, ru⟩ := vals1 r
  have hz : d.shown.length ≤ sizeLine := by rw [sizeLine_eq]; exact hsz
  have fin : ∀ (h' : Heap) (w tk : Tok), (∀ b o, s.heap.get? b = some o → h'.get? b = some o) → EP X pins σ Q (.str d.shown w) { s with heap := h', toks := tk } := fun h' w tk k => ⟨.str d.shown, H, I.kept k, ⟨w, rfl⟩, q⟩
  have fin0 : ∀ (w tk : Tok), EP X pins σ Q (.str d.shown w) { s with toks := tk } := fun w tk => ⟨.str d.shown, H, I.tok tk, ⟨w, rfl⟩, q⟩
  cases d with
  | none =>
    cases hd
    cases ru
    rw [PyData.shown] at fin0
    exact PySem.P.repr_of_none (fin0 _ _)
  | bool b =>
    cases hd
    cases ru
    rw [PyData.shown] at fin0
    exact PySem.P.repr_of_bool (fin0 _ _)
  | int i =>
    cases hd
    obtain ⟨t, rfl⟩ := ru
    rw [PyData.shown] at fin0
    exact PySem.P.repr_of_int (by simpa [PyData.showable] using hs) (fin0 _ _)
  | str x =>
    cases hd
    obtain ⟨t, rfl⟩ := ru
    rw [PyData.shown] at fin0 hz
    exact PySem.P.repr_of_str (fin0 _ _) hz
  | list ds =>
    cases hd with
    | lst e ha =>
      cases ru
      obtain ⟨its, rv, ⟨o, n, h1, h2, _, h3⟩, _⟩ := I.list (.inl (.inl e))
      rw [PyData.shown] at fin fin0 hz
      rw [PyData.depth] at hdp
      obtain ⟨bs, hb, hk⟩ := Dq.reprAllK I ds _ _ ha rv (by simpa [PyData.showable] using hs) (fun t ht => Nat.le_trans (listText_mem_le ht) hz)
      obtain ⟨as, hr⟩ := Dq.reads I _ _ _ (Dq.lst e ha) rfl
      have hna : _ ∉ bs := not_mem_of_deeper hr (by simp only [PyData.depth]; omega) hb
      refine call_repr_slot (T := "list") (idr := "list.__repr__") (by omega) ⟨o, h1, h2⟩ F.slot_list_repr.toG ?_
      cases its with
      | nil =>
        have hh : PyData.shownAll ds = [] := List.length_eq_zero_iff.mp (by simpa using hk.length_eq)
        rw [hh, listText_nil] at fin0
        exact call_list_repr_empty ⟨o, h1, h2⟩ h1 h3 ⟨_, _, rfl, fin0 _ _⟩
      | cons x l =>
        exact call_list_reprK h1 h2 h3 hna (by simpa using hk.length_eq) (fun i y q => hk.item i y (by simpa using q)) hg (fun b _ => Clear.nil b) (by show X.A.units + 1 + _ < _; omega) (fun _ _ q => q) (fun h' u tk k => ⟨_, _, rfl, fin h' u tk k⟩) hz
  | tuple ds =>
    cases hd with
    | tup e ha =>
      cases ru
      obtain ⟨its, rv, ⟨o, h1, h2, n, h3⟩, _⟩ := I.tuple (.inl (.inl e))
      rw [PyData.shown] at fin hz
      rw [PyData.depth] at hdp
      obtain ⟨bs, hb, hk⟩ := Dq.reprAllK I ds _ _ ha rv (by simpa [PyData.showable] using hs) (fun t ht => Nat.le_trans (tupleText_mem_le ht) hz)
      obtain ⟨as, hr⟩ := Dq.reads I _ _ _ (Dq.tup e ha) rfl
      have hna : _ ∉ bs := not_mem_of_deeper hr (by simp only [PyData.depth]; omega) hb
      refine call_repr_slot (T := "tuple") (idr := "tuple.__repr__") (by omega) ⟨o, h1, h2⟩ F.slot_tuple_repr ?_
      exact call_tuple_reprK h1 h2 h3 hna hk hg (fun b _ => Clear.nil b) (by show X.A.units + 1 + _ < _; omega) (fun _ _ q => q) (fun h' u tk k => ⟨_, _, rfl, fin h' u tk k⟩) hz
  | dict kvs =>
    cases hd with
    | dic e =>
      cases ru
      obtain ⟨o, es, n, h1, h2, h3, hq, hsys⟩ := dict_nil I e
      rw [PyData.shown, PyData.shownKv] at fin hz
      refine call_repr_slot (T := "dict") (idr := "dict.__repr__") (by omega) ⟨o, h1, h2⟩ F.slot_dict_repr ?_
      refine call_dict_reprK (as := []) (d := 0) h1 h2 h3 hsys (fun q => nomatch q) ?_ hg (fun b _ => Clear.nil b) (by show X.A.units + 1 + _ < _; omega) (fun _ _ q => q) (fun h' u tk k => ⟨_, _, rfl, fin h' u tk k⟩) hz
      rw [hq]
      exact ReprEntriesK.of_two [] [] [] .nil .nil
end
end Bb
/-! promises of defs that show data (repr): kept where no repr is under way -/
namespace Bb
open PySem PySem.Spec PyProof.Rows L2
section
variable {P : Program} {w : World} {K : PySem.W.Frag} {mg : Str → Option Value} {base : Heap} {CX : CXT} {k : Nat} {f : Addr} {fd : FuncData} {ps : List Str} {sp : Sp}
variable (P w K mg base CX k f fd ps sp) in
structure FnG : Prop where
  len : ∀ vs H Q E, sp vs H Q E → vs.length = ps.length
  go : ∀ (A : Around) (outer : List Env) (s : Shared) (H : Hp) (args : Args) (us : List Value) (vs : List V) (Q : VK) (E : XK), A.guards = some [] → Room k A → Env0 P w K mg base A outer s H → BindsTo s fd args (ps.zip us) → Vals vs us →
    sp vs H Q E → codeAny (model P w) A (.call (.ref f) args) (CR CX outer P w H s Q E) s
theorem okG {x qual : Str} {st : Stmt} {N : List Str} (F : Fun K x qual st f fd) (S : FnScope N ps (defScope st)) (len : ∀ vs H Q E, sp vs H Q E → vs.length = ps.length)
    (hb : ∀ (cdv : Value) (A : Around) (outer : List Env) (s : Shared) (H : Hp) (vs : List V) (Q : VK) (E : XK), A.guards = some [] → Room k (A.deeper (envOfC qual (defScope st) s.heap.objs.size f cdv)) → sp vs H Q E →
      ∃ t, PSs (cxOf CX0 P w K mg base N qual (defScope st) f cdv A outer s H E).nox (defBody st) t ∧ t { nx := fun _ H' => Q .non H', rt := Q } (start N vs) H) : FnG P w K mg base CX0 (k + 1) f fd ps sp := by
  obtain ⟨oc, od, kV, doc, pm, an, cdv, ct, osl, rfl, lk, hcd⟩ := F.ex
  constructor
  · exact len
  intro A outer s H args us vs Q E hg hr e0 hbd rv hsp
  have hl := len _ _ _ _ hsp
  have kin : K.In s.heap := e0.mod.kin.keeps fun b o q => (e0.bs b o q).1
  have nol : s.heap.NoLimit := e0.mod.nolimit.keeps fun b o q => (e0.bs b o q).1
  have kinds : ∀ y ∈ ps.zip us, (defScope st).names.lookup y.1 = some .local ∨ ((defScope st).names.lookup y.1 = some .cell ∧ ((cellsFrom (s.heap.objs.size + 1) (defScope st).names []).lookup y.1).isSome = true) := by
    rintro ⟨n, v⟩ hy
    cases S.par n (List.of_mem_zip hy).1 with
    | inl q => exact Or.inl q
    | inr q => exact Or.inr ⟨q, PySem.W.cellsFrom_some _ _ _ (Or.inl q)⟩
  apply codeAny_call_function hr.depth (kin _ _ lk) rfl S.co S.gen rfl (PySem.W.codeRec_of kin hcd) (hbd _ _ _ _ ?_)
  apply wpAny_newFunctionEnv_cells S.kind kinds
  rintro env rfl s1 ic
  refine ⟨nol.keeps ic.toInCall.keep, codeAny_func ?_⟩
  obtain ⟨t, ht, hq⟩ := hb cdv A outer s H vs Q E hg (hr.deeper _) hsp
  have J : Inv (cxOf CX0 P w K mg base N qual (defScope st) f cdv A outer s H E) [] (start N vs) H s1 := inv_start S hr.hd e0 hl rv ic
  refine wpAny_mono (ht.nox.run [] s1 (start N vs) H _ J hq) (fun fl s' hs => ?_) (fun _ _ q => q)
  cases fl with
  | ret u =>
    obtain ⟨v, σ', H', I, r, q⟩ := hs
    exact ⟨v, H', I.os, I.bare, I.base, I.hok, r, q⟩
  | next =>
    obtain ⟨σ', H', I, q⟩ := hs
    exact ⟨V.non, H', I.os, I.bare, I.base, I.hok, rfl, q⟩
  | brk => exact hs.elim fun _ q => q.elim fun _ q => q.2.elim
  | cont => exact hs.elim fun _ q => q.elim fun _ q => q.2.elim
end
section
variable {X : Cx} {CX : CXT} {k : Nat} {f : Addr} {fd : FuncData} {ps : List Str} {sp : Sp} {dvs : List V} {ds : List Value} {E : XK} {x : Str} {p pos : Pos} {e : Expr} {es : List Expr} {t : TA}
theorem pe_callG (F : FnG X.prog X.w X.K X.mg X.base CX k f fd ps sp) (gd : X.A.guards = some []) (hr : Room k X.A) (hg : Gl X x) (hm : X.mg x = some (.ref f)) (hk : PySem.W.keepIn X.K (.ref f) = true) (hb : Binds X.K fd ps ds) (hd : Vals dvs ds) (hx : Passes CX X E)
    (ha : PA X (e :: es) t) (hdb : (x == ("__debug__" : Str)) = false := by decide) (he : starEach (e :: es) X.env = (false, eval e X.env) :: starEach es X.env := by rfl) (hpl : (backTo pos (starEach es X.env)).any (·.1) = false := by rfl) :
    PE X (.Call (.Name x p) (e :: es) [] pos) (tCall sp dvs E t) := by
  constructor
  intro pins s σ H Q I h
  apply wpAny_Call_Name_kw (ld_glob I hg hm ?_ hdb)
  apply PySem.W.callWith_K (h₀ := X.base) I.ok.mod.kin hk ?_ he hpl
  apply thn (ha.run pos pins s σ H _ I h)
  rintro us s1 ⟨vs, H1, I1, r, q⟩
  refine ⟨I1.kIn, ?_⟩
  have r2 : Vals (vs ++ dvs) (us ++ ds) := r.append hd
  have hl : (us ++ ds).length = ps.length := r2.length ▸ F.len _ _ _ _ q
  refine wpAny_call (codeAny_mono (F.go X.A X.stack s1 H1 ⟨us, []⟩ (us ++ ds) (vs ++ dvs) Q E gd hr I1.env0 (hb s1 us I1.kIn hl) r2 q) fun r s' hq => ?_)
  match r, hq with
  | .error e, hq => exact hx pins σ H1 s1 e s' I1 hq
  | .ok (.ret u), hq => exact I1.after hq
  | .ok .next, hq => exact hq.elim
  | .ok .brk, hq => exact hq.elim
  | .ok .cont, hq => exact hq.elim
end

/-! ### the end of a law row: the law's own promise where no repr is under way -/
section
open PySem.W
theorem law_goes {P : Program} {w : World} {K : PySem.W.Frag} {mg mb : Str → Option Value} {k : Nat} {fa a : Addr} {fd : FuncData} {x : Str} {sp : Sp} {s₁ : Shared} {vs : List Value} {ns : List Int}
    (KX : K.In s₁.heap) (hns : s₁.heap.Ns mainGlobals mg) (hb : s₁.heap.Ns builtinsNs mb) (hbb : ∀ x : Str, x ≠ "__name__" → mb x = bootBuiltins x) (hlim : s₁.heap.NoLimit) (hg : s₁.gens = #[])
    (ha : s₁.heap.get? a = some { cls := .type "list", data := .seq vs.toArray }) (hi : IntsAre vs ns) (hl : ns.length ≤ sizeLine) (hr : Room k callerA)
    (F : ∀ base : Heap, K.In base → base.Ns mainGlobals mg → FnG P w K mg base CX0 k fa fd [x] sp) (hbind : ∀ (s : Shared) (u : Value), BindsTo s fd ⟨[u], []⟩ [(x, u)])
    (hsp : ∀ H : Hp, Only H → SqL K H a (ns.map V.int) → sp [.ref a] H (fun v _ => v = .bl true) fun _ _ _ => False) :
    codeAny (model P w) callerA (.call (.ref fa) ⟨[.ref a], []⟩) (fun r s' => r = .ok (.ret (.bool true)) ∧ OldK s₁.heap s'.heap ∧ s'.os = s₁.os ∧ AllBare s'.gens) s₁ := by
  have rv := vals_ints hi
  have main : ∀ H : Hp, Only H → SqL K H a (ns.map V.int) → HOk P w H s₁.heap → (∀ b, H b ≠ none → b = a) → (H a ≠ none → K.lookup a = none) →
      codeAny (model P w) callerA (.call (.ref fa) ⟨[.ref a], []⟩) (fun r s' => r = .ok (.ret (.bool true)) ∧ OldK s₁.heap s'.heap ∧ s'.os = s₁.os ∧ AllBare s'.gens) s₁ := by
    intro H only seq hok onlyA freeK
    have notA : ∀ {b : Addr} {o : Obj}, s₁.heap.get? b = some o → o.data ≠ .seq vs.toArray 0 → H b = none := by
      intro b o q d
      cases z : H b with
      | none => rfl
      | some u =>
        exfalso
        have hba : b = a := onlyA b (by rw [z]; exact fun y => nomatch y)
        rw [hba, ha] at q
        cases q
        exact d rfl
    have ns' : ∀ {b : Addr} {m : Str → Option Value}, s₁.heap.Ns b m → (hidT s₁.heap H).Ns b m := by
      rintro b m ⟨o, es, ep, q, d, r⟩
      exact ⟨o, es, ep, hidT_get q (notA q (by rw [d]; exact fun y => nomatch y)), d, r⟩
    have kb : K.In (hidT s₁.heap H) := by
      intro b o q
      apply hidT_get (KX b o q)
      cases z : H b with
      | none => rfl
      | some u =>
        exfalso
        have hba : b = a := onlyA b (by rw [z]; exact fun y => nomatch y)
        have hn := freeK (by rw [← hba, z]; exact fun y => nomatch y)
        rw [hba, hn] at q
        cases q
    obtain ⟨mc, l1, l2⟩ := hlim
    have M : Mod K mg (hidT s₁.heap H) := ⟨kb, ns' hns, ⟨mb, ns' hb, hbb⟩, ⟨mc, ns' l1, l2⟩⟩
    have e0 : Env0 P w K mg (hidT s₁.heap H) callerA [] s₁ H := ⟨rfl, M, fun b o q => of_hidT q, Nat.le_of_eq (hidT_size _ _), trivial, fun b q => (nomatch (show b ∈ ([] : List Addr) from q)), hok, .of_eq hg⟩
    refine codeAny_mono ((F _ kb (ns' hns)).go callerA [] s₁ H ⟨[.ref a], []⟩ [.ref a] [.ref a] _ _ rfl hr e0 (hbind s₁ (.ref a)) (.cons rfl .nil) (hsp H only seq)) fun r s' h => ?_
    match r, h with
    | .error e, h => exact h.elim
    | .ok .next, h => exact h.elim
    | .ok .brk, h => exact h.elim
    | .ok .cont, h => exact h.elim
    | .ok (.ret u), h =>
      obtain ⟨v, H', os, bare, un, hok', r', q⟩ := h
      have qv : v = .bl true := q
      rw [qv] at r'
      have hu : u = Value.bool true := r'
      subst hu
      refine ⟨rfl, OldK.of_keep fun b o q => ?_, os, bare⟩
      rcases only b with z | ⟨ob, xs, z⟩
      · exact un.keep b o q z (fun y => (nomatch (show b ∈ ([] : List Addr) from y))) (fun y => nomatch y)
      · have g1 := (hok b _ z).1
        have g2 := (hok' b _ (un.frzs b ob _ z)).1
        rw [q] at g1
        cases g1
        exact g2
  have rl : (ns.map V.int).length ≤ sizeLine := by
    rw [List.length_map]
    exact hl
  cases hk : K.lookup a with
  | some o =>
    have q := KX a o hk
    rw [ha] at q
    cases q
    exact main (fun _ => none) (fun _ => Or.inl rfl) (Or.inr ⟨_, vs.toArray, _, hk, rfl, rfl, rfl, by rw [List.size_toArray, hi.length]; exact hl, by simpa using rv⟩) (fun b u z => nomatch (show (none : Option HO) = some u from z)) (fun b z => absurd rfl z) (fun z => absurd rfl z)
  | none =>
    have at1 : ∀ b u, (fun b => if b = a then some (HO.frz { cls := .type "list", data := .seq vs.toArray } (.lst (ns.map V.int))) else none) b = some u → b = a ∧ u = HO.frz { cls := .type "list", data := .seq vs.toArray } (.lst (ns.map V.int)) := by
      intro b u z
      by_cases hb : b = a
      · simp [hb] at z
        exact ⟨hb, z.symm⟩
      · simp [hb] at z
    refine main (fun b => if b = a then some (.frz { cls := .type "list", data := .seq vs.toArray } (.lst (ns.map V.int))) else none) (fun b => ?_) (Or.inl (Or.inr ⟨{ cls := .type "list", data := .seq vs.toArray }, if_pos rfl⟩)) (fun b u z => ?_) (fun b z => ?_) (fun _ => hk)
    · by_cases hb : b = a
      · exact Or.inr ⟨_, _, if_pos hb⟩
      · exact Or.inl (if_neg hb)
    · obtain ⟨rfl, rfl⟩ := at1 b u z
      exact ⟨ha, rl, vs, _, rv, ha⟩
    · cases hq : (fun b => if b = a then some (HO.frz { cls := .type "list", data := .seq vs.toArray } (.lst (ns.map V.int))) else none) b with
      | none => exact absurd hq z
      | some u => exact (at1 b u hq).1
theorem walkG {l : OpenLaw} {n k : Nat} {q : Program} {loose : List Str} {XP : (Str → Option Value) → Heap → Prop} {YP : World → Heap → Prop} {d : DefRec} {K : Params → Frag} {sp : World → Sp} {x : Str}
    (hn : l.most = some n) (hn2 : n ≤ sizeLine) (hdf : d.params.defaults = []) (hr : Room k callerA) (hY : ∀ (w : World) (h : Heap), YP w h → (K w.params).In h)
    (F : ∀ (w : World) (mg : Str → Option Value) (fa : Addr) (h : Heap), (K w.params).In h → h.Ns mainGlobals mg → mg d.name = some (.ref fa) →
      ∃ fd : FuncData, (∀ (s : Shared) (u : Value), BindsTo s fd ⟨[u], []⟩ [(x, u)]) ∧ ∀ base : Heap, (K w.params).In base → base.Ns mainGlobals mg → FnG l.prog w (K w.params) mg base CX0 k fa fd [x] (sp w))
    (hsp : ∀ (w : World) (H : Hp) (a : Addr) (ns : List Int), ns.length ≤ n → (∀ z ∈ ns, Builtin.Int.intBits z ≤ 1048576) → Only H → SqL (K w.params) H a (ns.map V.int) → sp w [.ref a] H (fun v _ => v = .bl true) fun _ _ _ => False) :
    WalkO q loose XP YP l.row.toRowW d [] (fun f vs => PySem.call f vs) := by
  apply Att.attach_callB hn hdf
  intro w s₀ s₁ mg mb fa o pm cd doc a vs ns G Y ho hd hcd hmg hobj hints hlen hbits hg
  have KX := hY w _ Y
  obtain ⟨fd, hb, hF⟩ := F w mg fa _ KX G.T.g hmg
  exact law_goes KX G.T.g G.T.b G.T.builtins G.T.nolimit hg hobj hints (Nat.le_trans hlen hn2) hr hF hb (fun H h1 h2 => hsp w H a ns hlen hbits h1 h2)
end
end Bb
/-! the text by places -/
namespace Bb
open PySem PySem.Spec PyProof.Rows L2
def topS (i : Nat) : Stmt := PySem.Challenge.pw_blackbars_k01_words_lines_and_logs.main.body.getD i (.Pass ⟨0, 0, 0, 0⟩)
abbrev sMade : Stmt := topS 3
abbrev sIsWord : Stmt := topS 4
abbrev sIsShown : Stmt := topS 5
abbrev sIsLine : Stmt := topS 6
abbrev sIsLog : Stmt := topS 7
abbrev sJar : Stmt := topS 9
abbrev sDraw : Stmt := topS 10
abbrev sChoose : Stmt := topS 11
abbrev sWordDue : Stmt := topS 12
abbrev sShownDue : Stmt := topS 13
abbrev sLineDue : Stmt := topS 14
abbrev sLogDue : Stmt := topS 15
abbrev sAny : Stmt := topS 16
abbrev sBent : Stmt := topS 17
abbrev sRight : Stmt := topS 18
abbrev sLaw : Stmt := topS 19
theorem scJar : FnScope ["script", "start", "mixed", "entry", "digits"] ["script", "start"] (defScope sJar) := ⟨rfl, rfl, rfl, by decide +kernel, rfl, by decide +kernel, by decide +kernel⟩
theorem scDraw : FnScope ["jar", "many", "found"] ["jar", "many"] (defScope sDraw) := ⟨rfl, rfl, rfl, by decide +kernel, rfl, by decide +kernel, by decide +kernel⟩
theorem scChoose : FnScope ["jar", "things"] ["jar", "things"] (defScope sChoose) := ⟨rfl, rfl, rfl, by decide +kernel, rfl, by decide +kernel, by decide +kernel⟩
end Bb
/-! the law's jar of draws -/
namespace Bb
open PySem PySem.Spec PyProof.Rows L2
/-! ### heaps: all but the jar stays -/
def But (j : Addr) (H H' : Hp) : Prop := ∀ b o, b ≠ j → H b = some o → H' b = some o
theorem But.refl (j : Addr) (H : Hp) : But j H H := fun _ _ _ h => h
theorem But.trans {j : Addr} {H H1 H2 : Hp} (a : But j H H1) (b : But j H1 H2) : But j H H2 := fun c o n h => b c o n (a c o n h)
theorem But.of {j : Addr} {H H' : Hp} (a : Same H H') : But j H H' := fun c o _ h => a c o h
theorem But.upd {j : Addr} {H : Hp} {o : HO} : But j H (upd H j o) := fun c u n h => by
  rw [upd_ne n]
  exact h
theorem same_new {H : Hp} {p : Addr} {o : HO} (h : H p = none) : Same H (upd H p o) := fun b x e => by
  rw [upd_ne (ne_of_none e h)]
  exact e
/-- new things may change -/
theorem same_mut {H H' : Hp} {p : Addr} {o : HO} (e : Same H H') (h : H p = none) : Same H (upd H' p o) := fun a u ha => by
  rw [upd_ne (ne_of_none ha h)]
  exact e a u ha
def jarL (D M : Int) : List (Key × V) := [(.inr "digits", .int D), (.inr "mixed", .int M)]
def Jar (H : Hp) (j : Addr) : Prop := ∃ D M : Int, H j = some (.dK (jarL D M)) ∧ 0 ≤ M ∧ M < 2147483648
theorem dm : ¬ (("digits" : Str) = "mixed") := by decide +kernel
theorem md : ¬ (("mixed" : Str) = "digits") := by decide +kernel
theorem jar_d (D M : Int) : valV (jarL D M) (.inr "digits" : Key) = some (.int D) := by
  unfold jarL
  exact valV_pos rfl
theorem jar_m (D M : Int) : valV (jarL D M) (.inr "mixed" : Key) = some (.int M) := by
  unfold valV jarL
  simp [List.find?_cons, dm]
theorem jar_pd (D M E : Int) : putK (jarL D M) (.inr "digits" : Key) (.int E) = jarL E M := by
  unfold putK jarL
  simp [md]
theorem jar_pm (D M E : Int) : putK (jarL D M) (.inr "mixed" : Key) (.int E) = jarL D E := by
  unfold putK jarL
  simp [dm]
theorem jar_mk (D M : Int) : mergeK [] [((.inr "digits" : Key), V.int D), (.inr "mixed", .int M)] = jarL D M := by
  unfold mergeK jarL putK
  simp [dm]
theorem get_d {H : Hp} {j : Addr} {D M : Int} (h : H j = some (.dK (jarL D M))) : DGet H j (.str "digits") (some (.int D)) := .inl ⟨_, .inr "digits", .inl h, rfl, (jar_d D M).symm⟩
theorem get_m {H : Hp} {j : Addr} {D M : Int} (h : H j = some (.dK (jarL D M))) : DGet H j (.str "mixed") (some (.int M)) := .inl ⟨_, .inr "mixed", .inl h, rfl, (jar_m D M).symm⟩
theorem put_d {H : Hp} {j : Addr} {D M : Int} (E : Int) (h : H j = some (.dK (jarL D M))) : DPut H j (.str "digits") (.int E) (upd H j (.dK (jarL E M))) := .inl ⟨_, .inr "digits", h, rfl, by show 2 < sizeLine; decide, by rw [jar_pd]⟩
theorem put_m {H : Hp} {j : Addr} {D M : Int} (E : Int) (h : H j = some (.dK (jarL D M))) : DPut H j (.str "mixed") (.int E) (upd H j (.dK (jarL D E))) := .inl ⟨_, .inr "mixed", h, rfl, by show 2 < sizeLine; decide, by rw [jar_pm]⟩

/-! ### sizes -/
theorem nat_lt_of_bits {z : Int} (h : Builtin.Int.intBits z ≤ 1048576) : ∃ n : Nat, 0 < n ∧ n ≤ 1048577 ∧ z.natAbs < 2 ^ n := by
  refine ⟨z.natAbs.log2 + 1, Nat.succ_pos _, ?_, ?_⟩
  · unfold Builtin.Int.intBits at h
    split at h
    · rename_i q
      have : z = 0 := by simpa using q
      subst this
      decide
    · omega
  · exact Nat.lt_log2_self
theorem mix_bits {m e : Int} (h0 : 0 ≤ m) (h1 : m < 2147483648) (he : Builtin.Int.intBits e ≤ 1048576) : MulB e e ∧ PowB (m * 60089 + e * e + 29) 2 := by
  obtain ⟨n, n0, n1, hn⟩ := nat_lt_of_bits he
  refine ⟨⟨n, n, hn, hn, n0, n0, by omega⟩, rfl, n + n + 64, ?_, by omega⟩
  have hs : (e * e).natAbs < 2 ^ (n + n) := wide_lt hn hn
  have hm : (m * 60089).natAbs < 2 ^ 48 := by omega
  have h64 : (2 : Nat) ^ (n + n + 64) = 2 ^ (n + n) * 2 ^ 64 := Nat.pow_add 2 (n + n) 64
  have hp : 1 ≤ (2 : Nat) ^ (n + n) := Nat.one_le_two_pow
  rw [h64]
  have e1 : (2 : Nat) ^ 48 = 281474976710656 := by decide
  have e2 : (2 : Nat) ^ 64 = 18446744073709551616 := by decide
  rw [e2]
  rw [e1] at hm
  generalize (2 : Nat) ^ (n + n) = w at hs hp ⊢
  omega
section
variable {P : Program} {w : World} {K : PySem.W.Frag} {mg : Str → Option Value} {base : Heap}
structure TJ (mg : Str → Option Value) : Prop where
  int : mg "int" = none
  len : mg "len" = none
/-! ### _law_jar -/
def spJar (K : PySem.W.Frag) : Sp := fun vs H Q _ => ∃ (a : Addr) (ns : List Int) (st : Nat), vs = [.ref a, .int (st : Int)] ∧ SqL K H a (ns.map V.int) ∧ ns.length ≤ 63 ∧ (∀ z ∈ ns, Builtin.Int.intBits z ≤ 1048576) ∧ st ≤ 1000 ∧
  ∀ H' p, H p = none → Same H H' → Jar H' p → Q (.ref p) H'
theorem ok_jar {f : Addr} {fd : FuncData} {k : Nat} (F : Fun K "_law_jar" "_law_jar" sJar f fd) (T : TJ mg) : FnOk P w K mg base CX0 (k + 1) f fd ["script", "start"] (spJar K) := by
  refine F.ok scJar (fun vs H Q E h => ?_) (fun cdv A outer s H vs Q E hr h => ?_)
  · obtain ⟨a, ns, st, rfl, _⟩ := h
    rfl
  · obtain ⟨a, ns, st, rfl, hS, hlen, hbits, hst, q⟩ := h
    refine ⟨_, pss_cons (ps_set (i := 2) scJar.nd rfl (.inl rfl) (pe_op op_add pe_int (pe_op op_mul (pv 1) pe_int)))
      (pss_cons (ps_for PassesOwn.never rfl (pi_list (pv 0)) (pg_name (i := 3) scJar.nd rfl (.inl rfl))
        (pss_one (ps_set (i := 2) scJar.nd rfl (.inl rfl) (pe_op op_add (pe_op op_mod (pe_callTy call_int1 (by rfl) T.int (by decide +kernel)
          (pa_cons (pe_op op_sqB (pe_op op_add (pe_op op_add (pe_op op_mul (pv 2) pe_int) (pe_op op_mulB (pv 3) (pv 3))) pe_int) pe_int) pa_nil)) pe_int) pe_int))))
      (pss_cons (ps_set (i := 4) scJar.nd rfl (.inl rfl) (pe_ifExp (PW.pt (pw_and (pt_cmpR op_lt (pv 1) (pe_callB call_len_seq (by rfl) T.len PySem.boot_len (pa_cons (pv 0) pa_nil)) (nomark _))
          (pw_and1 (pt_cmpR op_ge (pe_ix ix_list (pv 0) (pv 1) (fun _ _ => rfl)) (pe_op op_pow pe_int pe_int) (nomark _)))))
          (pe_op op_sub (pe_ix ix_list (pv 0) (pv 1) (fun _ _ => rfl)) (pe_op op_pow pe_int pe_int)) pe_int))
      (pss_one (ps_ret (pe_disp (pps_cons pe_str (pv 4) (pps_cons pe_str (pv 2) pps_nil)) (by rfl) (by rfl) (fun z => by cases z) (by decide)))))), ?_⟩
    refine ⟨_, rfl, _, _, rfl, rfl, .inl ⟨by omega, by omega⟩, _, _, rfl, rfl, ?_⟩
    refine ⟨.ref a, rfl, a, rfl, ⟨_, hS⟩, for_list (K := K) (a := a) (xs := ns.map V.int) (fun i σ H2 => ∃ (m : Int) (e : Option V), σ = [some (.ref a), some (.int st), some (.int m), e, none] ∧ H2 = H ∧ 0 ≤ m ∧ m < 2147483648)
      ⟨_, none, rfl, rfl, by omega, by omega⟩ (fun i σ H2 _ ⟨_, _, _, e, _⟩ => e ▸ hS) ?_ ?_⟩
    · rintro i y σ H2 hi ⟨m, e, rfl, rfl, m0, m1⟩
      obtain ⟨z, hz, rfl⟩ : ∃ z, z ∈ ns ∧ y = V.int z := by
        rw [List.getElem?_map] at hi
        cases e : ns[i]? with
        | none =>
          rw [e] at hi
          cases hi
        | some z =>
          rw [e] at hi
          exact ⟨z, List.mem_of_getElem? e, (Option.some.inj hi).symm⟩
      obtain ⟨h1, h2⟩ := mix_bits m0 m1 (hbits z hz)
      refine ⟨_, rfl, _, _, rfl, rfl, .inl ⟨by omega, by omega⟩, _, rfl, _, rfl, _, _, rfl, rfl, h1, _, _, rfl, rfl, _, _, rfl, rfl, _, _, rfl, rfl, h2, .inl ⟨_, rfl, _, _, rfl, rfl, (by show (0 : Int) < 2147483423; decide), _, _, rfl, rfl, ?_⟩⟩
      refine ⟨_, _, rfl, rfl, ?_, ?_⟩
      · have := Int.emod_nonneg ((m * 60089 + z * z + 29) ^ (2 : Int).toNat) (show (2147483423 : Int) ≠ 0 by decide)
        omega
      · have := Int.emod_lt_of_pos ((m * 60089 + z * z + 29) ^ (2 : Int).toNat) (show (0 : Int) < 2147483423 by decide)
        omega
    · rintro σ H2 ⟨m, e, rfl, rfl, m0, m1⟩
      have fin : ∀ (D : Int), tRet (tDisp [(tC (.str "digits"), tVar 4), (tC (.str "mixed"), tVar 2)]) { nx := fun _ H' => Q .non H', rt := Q } [some (.ref a), some (.int st), some (.int m), e, some (.int D)] H2 := by
        intro D p np
        refine ⟨_, rfl, _, rfl, upd_same, [((.inr "digits" : Key), V.int D), (.inr "mixed", .int m)], rfl, by show 2 ≤ 15; decide, ?_⟩
        rw [jar_mk]
        exact q _ p np (same_mut (same_new np) np) ⟨D, m, upd_same, m0, m1⟩
      refine ⟨_, rfl, _, rfl, a, _, rfl, .inl hS, _, _, rfl, rfl, _, rfl, ite2 (fun c => ?_) (fun c => ?_)⟩
      · have hb : st < ns.length := by
          have := of_decide_eq_true c
          rw [List.length_map] at this
          omega
        have hx : atI (ns.map V.int) (st : Int) = some (.int ns[st]) := by
          apply atI_nat
          rw [List.getElem?_map, List.getElem?_eq_getElem hb]
          rfl
        refine ⟨_, rfl, _, rfl, a, _, _, _, rfl, rfl, hS, hx, _, _, rfl, rfl, ⟨by decide, by decide, by decide⟩, _, _, rfl, rfl, _, rfl, ite2 (fun _ => ?_) (fun _ => ?_)⟩
        · exact ⟨_, rfl, _, rfl, a, _, _, _, rfl, rfl, hS, hx, _, _, rfl, rfl, ⟨by decide, by decide, by decide⟩, _, _, rfl, rfl, fin _⟩
        · exact fin _
      · exact iteF (fin _)
/-! ### _law_draw -/
def spDraw : Sp := fun vs H Q _ => ∃ (j : Addr) (n : Int), vs = [.ref j, .int n] ∧ Jar H j ∧ 0 < n ∧ n < 1073741824 ∧ ∀ H' (r : Nat), (r : Int) < n → But j H H' → Jar H' j → Q (.int r) H'
theorem ok_draw {f : Addr} {fd : FuncData} {k : Nat} (F : Fun K "_law_draw" "_law_draw" sDraw f fd) (T : TJ mg) : FnOk P w K mg base CX0 (k + 1) f fd ["jar", "many"] spDraw := by
  refine F.ok scDraw (fun vs H Q E h => ?_) (fun cdv A outer s H vs Q E hr h => ?_)
  · obtain ⟨j, n, rfl, _⟩ := h
    rfl
  · obtain ⟨j, n, rfl, ⟨D, M, hj, m0, m1⟩, n0, n1, q⟩ := h
    have hu := hu_of hr
    refine ⟨_, pss_cons (ps_if (pt_cmpR op_ge (pe_dget hu (pv 0) pe_str (fun _ _ => rfl)) (pv 1) (nomark _))
        (pss_cons (ps_set (i := 2) scDraw.nd rfl (.inl rfl) (pe_op op_mod (pe_callTy call_int1 (by rfl) T.int (by decide +kernel) (pa_cons (pe_dget hu (pv 0) pe_str (fun _ _ => rfl)) pa_nil)) (pv 1)))
        (pss_cons (ps_dput hu (pv 0) pe_str (pe_op op_fdivN (pe_dget hu (pv 0) pe_str (fun _ _ => rfl)) (pv 1)) rfl)
        (pss_one (ps_ret (pv 2))))) pss_nil)
      (pss_cons (ps_dput hu (pv 0) pe_str (pe_op op_mod (pe_callTy call_int1 (by rfl) T.int (by decide +kernel) (pa_cons (pe_op op_add (pe_op op_mul (pe_dget hu (pv 0) pe_str (fun _ _ => rfl)) pe_int) pe_int) pa_nil)) pe_int) rfl)
      (pss_one (ps_ret (pe_op op_mod (pe_op op_fdiv (pe_op op_mod (pe_callTy call_int1 (by rfl) T.int (by decide +kernel) (pa_cons (pe_op op_pow
          (pe_op op_mod (pe_callTy call_int1 (by rfl) T.int (by decide +kernel) (pa_cons (pe_op op_pow (pe_dget hu (pv 0) pe_str (fun _ _ => rfl)) pe_int) pa_nil)) pe_int) pe_int) pa_nil)) pe_int) pe_int) (pv 1))))), ?_⟩
    refine ⟨_, rfl, j, _, rfl, get_d hj, _, rfl, _, _, rfl, rfl, _, rfl, ite2 (fun _ => ?_) (fun _ => ?_)⟩
    · refine ⟨_, rfl, j, _, rfl, get_d hj, .inl ⟨_, rfl, _, rfl, _, _, rfl, rfl, n0, ?_⟩⟩
      refine ⟨_, rfl, j, _, rfl, get_d hj, _, rfl, _, _, rfl, rfl, ⟨by omega, by omega⟩, _, rfl, j, _, rfl, put_d _ hj, _, rfl, ?_⟩
      have r0 := Int.emod_nonneg D (show n ≠ 0 by omega)
      have r1 := Int.emod_lt_of_pos D n0
      obtain ⟨r, hr⟩ := Int.eq_ofNat_of_zero_le r0
      rw [hr] at r1
      show Q (V.int (D % n)) _
      rw [hr]
      exact q _ r r1 But.upd ⟨_, M, upd_same, m0, m1⟩
    · have g0 := Int.emod_nonneg (M * 39373 + 4481) (show (2147483647 : Int) ≠ 0 by decide)
      have g1 := Int.emod_lt_of_pos (M * 39373 + 4481) (show (0 : Int) < 2147483647 by decide)
      generalize hg : (M * 39373 + 4481) % 2147483647 = G at g0 g1
      refine ⟨_, rfl, j, _, rfl, get_m hj, _, _, rfl, rfl, .inl ⟨by omega, by omega⟩, _, _, rfl, rfl, .inl ⟨_, rfl, _, _, rfl, rfl, (by show (0 : Int) < 2147483647; decide), _, rfl, j, _, rfl, put_m _ hj, ?_⟩⟩
      rw [hg]
      have hj2 : (upd H j (.dK (jarL D G))) j = some (.dK (jarL D G)) := upd_same
      have a0 := Int.emod_nonneg (G ^ (2 : Int).toNat) (show (2147483353 : Int) ≠ 0 by decide)
      have a1 := Int.emod_lt_of_pos (G ^ (2 : Int).toNat) (show (0 : Int) < 2147483353 by decide)
      refine ⟨_, rfl, j, _, rfl, get_m hj2, _, _, rfl, rfl, ⟨by decide, by decide, by omega⟩, .inl ⟨_, rfl, _, _, rfl, rfl, (by show (0 : Int) < 2147483353; decide), _, _, rfl, rfl, ⟨by decide, by decide, by omega⟩, .inl ⟨_, rfl, ?_⟩⟩⟩
      refine ⟨_, _, rfl, rfl, (by show (0 : Int) < 1000000093; decide), _, _, rfl, rfl, ⟨by decide, by decide⟩, _, rfl, _, _, rfl, rfl, n0, ?_⟩
      have r0 := Int.emod_nonneg ((G ^ (2 : Int).toNat % 2147483353) ^ (3 : Int).toNat % 1000000093 / 23) (show n ≠ 0 by omega)
      have r1 := Int.emod_lt_of_pos ((G ^ (2 : Int).toNat % 2147483353) ^ (3 : Int).toNat % 1000000093 / 23) n0
      obtain ⟨r, hr⟩ := Int.eq_ofNat_of_zero_le r0
      rw [hr] at r1
      show Q (V.int ((G ^ (2 : Int).toNat % 2147483353) ^ (3 : Int).toNat % 1000000093 / 23 % n)) _
      rw [hr]
      exact q _ r r1 But.upd ⟨_, G, upd_same, g0, by omega⟩
/-! ### _law_choose -/
def spChoose (K : PySem.W.Frag) : Sp := fun vs H Q _ => ∃ (j a : Addr) (xs : List V), vs = [.ref j, .ref a] ∧ Jar H j ∧ SqL K H a xs ∧ a ≠ j ∧ 0 < xs.length ∧ xs.length < 1000 ∧ ∀ H' x, x ∈ xs → But j H H' → Jar H' j → Q x H'
theorem seq_but {j a : Addr} {xs : List V} {H H' : Hp} (n : a ≠ j) (e : But j H H') (h : SqL K H a xs) : SqL K H' a xs := by
  rcases h with (h | ⟨o, h⟩) | h
  · exact .inl (.inl (e _ _ n h))
  · exact .inl (.inr ⟨o, e _ _ n h⟩)
  · exact .inr h
theorem ok_choose {f fD : Addr} {fd fdD : FuncData} {k : Nat} (F : Fun K "_law_choose" "_law_choose" sChoose f fd) (T : TJ mg) (FD : Fun K "_law_draw" "_law_draw" sDraw fD fdD) (bD : Binds K fdD ["jar", "many"] []) (gD : mg "_law_draw" = some (.ref fD)) :
    FnOk P w K mg base CX0 (k + 2) f fd ["jar", "things"] (spChoose K) := by
  have GD : FnOk P w K mg base CX0 (k + 1) fD fdD ["jar", "many"] spDraw := ok_draw FD T
  refine F.ok scChoose (fun vs H Q E h => ?_) (fun cdv A outer s H vs Q E hr h => ?_)
  · obtain ⟨j, a, xs, rfl, _⟩ := h
    rfl
  · obtain ⟨j, a, xs, rfl, hj, hS, ne, l0, l1, q⟩ := h
    refine ⟨_, pss_one (ps_ret (pe_ix ix_list (pv 1) (pe_call GD hr (by rfl) gD FD.kp bD .nil pass0 (pa_cons (pv 0) (pa_cons (pe_callB call_len_seq (by rfl) T.len PySem.boot_len (pa_cons (pv 1) pa_nil)) pa_nil))) (fun _ _ => rfl))), ?_⟩
    refine ⟨_, rfl, _, rfl, _, rfl, a, xs, rfl, .inl hS, j, _, rfl, hj, by omega, by omega, fun H' r hr b hj' => ?_⟩
    have hb : r < xs.length := by omega
    exact ⟨a, xs, _, xs[r], rfl, rfl, seq_but ne b hS, atI_nat (by rw [List.getElem?_eq_getElem hb]), q H' _ (List.getElem_mem hb) b hj'⟩
end
end Bb
/-! data: what stays, types, sizes; a list compared with an empty one; a text put ahead of a replaced one -/
namespace Bb
open PySem PySem.Spec PyProof.Rows L2
mutual
theorem Dq.stay {H H' : Hp} (h : ∀ a o, H a = some o → (o = .dK [] ∨ (∃ xs, o = .lst xs) ∨ ∃ xs, o = .tup xs) → H' a = some o) : ∀ (d : PyData) (v : V), Dq H v d → Dq H' v d
  | .none, _, q => by
    cases q
    exact .non
  | .bool b, _, q => by
    cases q
    exact .bl b
  | .int i, _, q => by
    cases q
    exact .int i
  | .str x, _, q => by
    cases q
    exact .str x
  | .list ds, _, q => by
    cases q with
    | lst e ha => exact .lst (h _ _ e (.inr (.inl ⟨_, rfl⟩))) (DqAll.stay h ds _ ha)
  | .tuple ds, _, q => by
    cases q with
    | tup e ha => exact .tup (h _ _ e (.inr (.inr ⟨_, rfl⟩))) (DqAll.stay h ds _ ha)
  | .dict kvs, _, q => by
    cases q with
    | dic e => exact .dic (h _ _ e (.inl rfl))
theorem DqAll.stay {H H' : Hp} (h : ∀ a o, H a = some o → (o = .dK [] ∨ (∃ xs, o = .lst xs) ∨ ∃ xs, o = .tup xs) → H' a = some o) : ∀ (ds : List PyData) (vs : List V), DqAll H vs ds → DqAll H' vs ds
  | [], _, q => by
    cases q
    exact .nil
  | d :: ds, _, q => by
    cases q with
    | cons a b => exact .cons (Dq.stay h d _ a) (DqAll.stay h ds _ b)
end
section
variable {H H' : Hp} {j p : Addr} {v : V} {vs : List V} {d : PyData} {ds : List PyData} {o : HO}
theorem Dq.same (e : Same H H') (q : Dq H v d) : Dq H' v d := Dq.stay (fun a o h _ => e a o h) d v q
theorem DqAll.same (e : Same H H') (q : DqAll H vs ds) : DqAll H' vs ds := DqAll.stay (fun a o h _ => e a o h) ds vs q
theorem jar_not {D M : Int} (hj : H j = some (.dK (jarL D M))) {a : Addr} {o : HO} (h : H a = some o) (k : o = .dK [] ∨ (∃ xs, o = .lst xs) ∨ ∃ xs, o = .tup xs) : a ≠ j := by
  rintro rfl
  rw [hj] at h
  cases h
  rcases k with k | ⟨_, k⟩ | ⟨_, k⟩
  · cases k
  · cases k
  · cases k
theorem Dq.but (hj : Jar H j) (e : But j H H') (q : Dq H v d) : Dq H' v d := by
  obtain ⟨D, M, hj, _⟩ := hj
  exact Dq.stay (fun a o h k => e a o (jar_not hj h k) h) d v q
theorem DqAll.but (hj : Jar H j) (e : But j H H') (q : DqAll H vs ds) : DqAll H' vs ds := by
  obtain ⟨D, M, hj, _⟩ := hj
  exact DqAll.stay (fun a o h k => e a o (jar_not hj h k) h) ds vs q
theorem lst_not (hj : Jar H j) {a : Addr} {xs : List V} (h : H a = some (.lst xs)) : a ≠ j := by
  obtain ⟨D, M, hj, _⟩ := hj
  exact jar_not hj h (.inr (.inl ⟨_, rfl⟩))
theorem Jar.same (e : Same H H') (h : Jar H j) : Jar H' j := by
  obtain ⟨D, M, hj, r⟩ := h
  exact ⟨D, M, e _ _ hj, r⟩
theorem Jar.some (h : Jar H j) (n : H p = none) : j ≠ p := by
  obtain ⟨D, M, hj, _⟩ := h
  exact ne_of_none hj n
theorem DqAll.len : ∀ {vs : List V} {ds : List PyData}, DqAll H vs ds → vs.length = ds.length
  | [], _, q => by
    cases q
    rfl
  | _ :: _, _, q => by
    cases q with
    | cons _ b =>
      rw [List.length_cons, List.length_cons, DqAll.len b]
theorem DqAll.at : ∀ {vs : List V} {ds : List PyData} {i : Nat} {v : V}, DqAll H vs ds → vs[i]? = some v → ∃ d, ds[i]? = some d ∧ Dq H v d
  | [], _, _, _, _, e => by simp at e
  | _ :: _, _, 0, _, q, e => by
    cases q with
    | cons a b =>
      cases e
      exact ⟨_, rfl, a⟩
  | _ :: _, _, i + 1, _, q, e => by
    cases q with
    | cons a b =>
      obtain ⟨d, h1, h2⟩ := DqAll.at (i := i) b e
      exact ⟨d, h1, h2⟩
theorem DqAll.take : ∀ {vs : List V} {ds : List PyData} (n : Nat), DqAll H vs ds → DqAll H (vs.take n) (ds.take n)
  | _, _, 0, _ => .nil
  | [], _, n + 1, q => by
    cases q
    exact .nil
  | _ :: _, _, n + 1, q => by
    cases q with
    | cons a b => exact .cons a (DqAll.take n b)
theorem DqAll.drop : ∀ {vs : List V} {ds : List PyData} (n : Nat), DqAll H vs ds → DqAll H (vs.drop n) (ds.drop n)
  | _, _, 0, q => q
  | [], _, n + 1, q => by
    cases q
    exact .nil
  | _ :: _, _, n + 1, q => by
    cases q with
    | cons a b => exact DqAll.drop n b
theorem DqAll.app : ∀ {vs ws : List V} {ds es : List PyData}, DqAll H vs ds → DqAll H ws es → DqAll H (vs ++ ws) (ds ++ es)
  | [], _, _, _, q, r => by
    cases q
    exact r
  | _ :: _, _, _, _, q, r => by
    cases q with
    | cons a b => exact .cons a (DqAll.app b r)
theorem DqAll.one (q : Dq H v d) : DqAll H [v] [d] := .cons q .nil
/-! ### types -/
def isS : PyData → Bool
  | .str _ => true
  | _ => false
def isL : PyData → Bool
  | .list _ => true
  | _ => false
theorem Dq.tyS {K : PySem.W.Frag} (q : Dq H v d) : ∃ t, TyX K H v (.type t) ∧ PySem.W.kitOne K (.type t) (.type "str") = some (isS d) := by
  cases q with
  | non => exact ⟨_, .base .non, kit_ty (by decide +kernel)⟩
  | bl b => exact ⟨_, .base (.bl b), kit_ty (by show _ = some false; decide +kernel)⟩
  | int i => exact ⟨_, .base (.int i), kit_ty (by show _ = some false; decide +kernel)⟩
  | str x => exact ⟨_, .base (.str x), kit_ty (by show _ = some true; decide +kernel)⟩
  | lst e _ => exact ⟨_, .base (.lst e), kit_ty (by show _ = some false; decide +kernel)⟩
  | tup e _ => exact ⟨_, .base (.tup e), kit_ty (by show _ = some false; decide +kernel)⟩
  | dic e => exact ⟨_, .base (.dK e), kit_ty (by decide +kernel)⟩
theorem Dq.tyL {K : PySem.W.Frag} (q : Dq H v d) : ∃ t, TyX K H v (.type t) ∧ PySem.W.kitOne K (.type t) (.type "list") = some (isL d) := by
  cases q with
  | non => exact ⟨_, .base .non, kit_ty (by decide +kernel)⟩
  | bl b => exact ⟨_, .base (.bl b), kit_ty (by show _ = some false; decide +kernel)⟩
  | int i => exact ⟨_, .base (.int i), kit_ty (by show _ = some false; decide +kernel)⟩
  | str x => exact ⟨_, .base (.str x), kit_ty (by show _ = some false; decide +kernel)⟩
  | lst e _ => exact ⟨_, .base (.lst e), kit_ty (by show _ = some true; decide +kernel)⟩
  | tup e _ => exact ⟨_, .base (.tup e), kit_ty (by show _ = some false; decide +kernel)⟩
  | dic e => exact ⟨_, .base (.dK e), kit_ty (by decide +kernel)⟩
end
/-! ### sizes -/
mutual
def wt : PyData → Nat
  | .none => 10
  | .bool _ => 10
  | .int i => 10 + (toString i : Str).length
  | .str x => 10 + x.length + (reprText x).length
  | .list ds => 10 + wtAll ds
  | .tuple ds => 10 + wtAll ds
  | .dict kvs => 10 + (PyData.shown (.dict kvs)).length
def wtAll : List PyData → Nat
  | [] => 0
  | d :: ds => wt d + wtAll ds
end
theorem wtAll_app : ∀ (a b : List PyData), wtAll (a ++ b) = wtAll a + wtAll b
  | [], b => by simp [wtAll]
  | x :: r, b => by
    rw [List.cons_append, wtAll, wtAll, wtAll_app r b]
    omega
theorem wtAll_take (a : List PyData) (n : Nat) : wtAll (a.take n) ≤ wtAll a := by
  have h := wtAll_app (a.take n) (a.drop n)
  rw [List.take_append_drop] at h
  omega
theorem wtAll_drop (a : List PyData) (n : Nat) : wtAll (a.drop n) ≤ wtAll a := by
  have h := wtAll_app (a.take n) (a.drop n)
  rw [List.take_append_drop] at h
  omega
theorem wt_at : ∀ {a : List PyData} {i : Nat} {d : PyData}, a[i]? = some d → wt d ≤ wtAll a
  | [], _, _, h => by simp at h
  | x :: r, 0, d, h => by
    have e : x = d := by simpa using h
    rw [wtAll, e]
    omega
  | x :: r, i + 1, d, h => by
    have := wt_at (a := r) (i := i) (d := d) (by simpa using h)
    rw [wtAll]
    omega
theorem wt_ten (d : PyData) : 10 ≤ wt d := by
  cases d <;> simp only [wt] <;> omega
theorem wt_len : ∀ a : List PyData, 10 * a.length ≤ wtAll a
  | [] => Nat.zero_le _
  | x :: r => by
    have h1 := wt_len r
    have h2 := wt_ten x
    rw [List.length_cons, wtAll]
    omega
theorem shownAll_len : ∀ ds : List PyData, (PyData.shownAll ds).length = ds.length
  | [] => by simp [PyData.shownAll]
  | d :: ds => by simp [PyData.shownAll, shownAll_len ds]
mutual
theorem shown_wt : ∀ d : PyData, d.shown.length + 2 ≤ wt d
  | .none => by
    rw [PyData.shown, wt]
    decide +kernel
  | .bool b => by
    rw [PyData.shown, wt]
    cases b <;> decide +kernel
  | .int i => by
    rw [PyData.shown, wt]
    omega
  | .str x => by
    rw [PyData.shown, wt]
    omega
  | .list ds => by
    have h := shownAll_wt ds
    have h2 := listText_len_le (PyData.shownAll ds)
    rw [shownAll_len] at h2
    rw [PyData.shown, wt]
    omega
  | .tuple ds => by
    have h := shownAll_wt ds
    have h2 := tupleText_len_le (PyData.shownAll ds)
    rw [shownAll_len] at h2
    rw [PyData.shown, wt]
    omega
  | .dict kvs => by
    rw [wt]
    omega
theorem shownAll_wt : ∀ ds : List PyData, ((PyData.shownAll ds).map (·.length)).sum + 2 * ds.length ≤ wtAll ds
  | [] => by simp [PyData.shownAll, wtAll]
  | d :: ds => by
    have h1 := shown_wt d
    have h2 := shownAll_wt ds
    rw [PyData.shownAll, wtAll, List.map_cons, List.sum_cons, List.length_cons]
    omega
end
/-- what is shown without a stop: not deeper than m, not larger than n -/
structure Fine (n m : Nat) (d : PyData) : Prop where
  w : wt d ≤ n
  p : d.depth ≤ m
  s : d.showable = true
structure FineA (n m : Nat) (ds : List PyData) : Prop where
  w : wtAll ds ≤ n
  p : PyData.depthAll ds ≤ m
  s : PyData.showableAll ds = true
section
variable {n m n' m' : Nat} {d : PyData} {ds es : List PyData}
theorem Fine.mono (h : Fine n m d) (a : n ≤ n') (b : m ≤ m') : Fine n' m' d := ⟨Nat.le_trans h.w a, Nat.le_trans h.p b, h.s⟩
theorem FineA.mono (h : FineA n m ds) (a : n ≤ n') (b : m ≤ m') : FineA n' m' ds := ⟨Nat.le_trans h.w a, Nat.le_trans h.p b, h.s⟩
theorem FineA.nil : FineA n m [] := ⟨by simp [wtAll], by simp [PyData.depthAll], by simp [PyData.showableAll]⟩
theorem FineA.cons (a : Fine n m d) (b : FineA n' m ds) : FineA (n + n') m (d :: ds) := by
  refine ⟨?_, ?_, ?_⟩
  · rw [wtAll]
    exact Nat.add_le_add a.w b.w
  · rw [PyData.depthAll]
    exact Nat.max_le.mpr ⟨a.p, b.p⟩
  · rw [PyData.showableAll, a.s, b.s]
    rfl
theorem FineA.app : ∀ {ds : List PyData}, FineA n m ds → FineA n' m es → FineA (n + n') m (ds ++ es) := by
  intro ds a b
  refine ⟨?_, ?_, ?_⟩
  · rw [wtAll_app]
    exact Nat.add_le_add a.w b.w
  · have h : ∀ (xs : List PyData), PyData.depthAll xs ≤ m → PyData.depthAll (xs ++ es) ≤ m := by
      intro xs
      induction xs with
      | nil => exact fun _ => b.p
      | cons x r ih =>
        intro q
        rw [PyData.depthAll] at q
        rw [List.cons_append, PyData.depthAll]
        exact Nat.max_le.mpr ⟨(Nat.max_le.mp q).1, ih (Nat.max_le.mp q).2⟩
    exact h ds a.p
  · have h : ∀ (xs : List PyData), PyData.showableAll xs = true → PyData.showableAll (xs ++ es) = true := by
      intro xs
      induction xs with
      | nil => exact fun _ => b.s
      | cons x r ih =>
        intro q
        rw [PyData.showableAll, Bool.and_eq_true] at q
        rw [List.cons_append, PyData.showableAll, q.1, ih q.2]
        rfl
    exact h ds a.s
theorem FineA.take (k : Nat) (h : FineA n m ds) : FineA n m (ds.take k) := by
  refine ⟨Nat.le_trans (wtAll_take ds k) h.w, ?_, ?_⟩
  · have g : ∀ (xs : List PyData) (k : Nat), PyData.depthAll xs ≤ m → PyData.depthAll (xs.take k) ≤ m := by
      intro xs
      induction xs with
      | nil => intro k q; simpa using q
      | cons x r ih =>
        intro k q
        cases k with
        | zero => simp [PyData.depthAll]
        | succ k =>
          rw [PyData.depthAll] at q
          rw [List.take_succ_cons, PyData.depthAll]
          exact Nat.max_le.mpr ⟨(Nat.max_le.mp q).1, ih k (Nat.max_le.mp q).2⟩
    exact g ds k h.p
  · have g : ∀ (xs : List PyData) (k : Nat), PyData.showableAll xs = true → PyData.showableAll (xs.take k) = true := by
      intro xs
      induction xs with
      | nil => intro k q; simpa using q
      | cons x r ih =>
        intro k q
        cases k with
        | zero => simp [PyData.showableAll]
        | succ k =>
          rw [PyData.showableAll, Bool.and_eq_true] at q
          rw [List.take_succ_cons, PyData.showableAll, q.1, ih k q.2]
          rfl
    exact g ds k h.s
theorem FineA.drop (k : Nat) (h : FineA n m ds) : FineA n m (ds.drop k) := by
  refine ⟨Nat.le_trans (wtAll_drop ds k) h.w, ?_, ?_⟩
  · have g : ∀ (xs : List PyData) (k : Nat), PyData.depthAll xs ≤ m → PyData.depthAll (xs.drop k) ≤ m := by
      intro xs
      induction xs with
      | nil => intro k q; simpa using q
      | cons x r ih =>
        intro k q
        cases k with
        | zero => exact q
        | succ k =>
          rw [PyData.depthAll] at q
          exact ih k (Nat.max_le.mp q).2
    exact g ds k h.p
  · have g : ∀ (xs : List PyData) (k : Nat), PyData.showableAll xs = true → PyData.showableAll (xs.drop k) = true := by
      intro xs
      induction xs with
      | nil => intro k q; simpa using q
      | cons x r ih =>
        intro k q
        cases k with
        | zero => exact q
        | succ k =>
          rw [PyData.showableAll, Bool.and_eq_true] at q
          exact ih k q.2
    exact g ds k h.s
theorem FineA.at {i : Nat} (h : FineA n m ds) (e : ds[i]? = some d) : Fine n m d := by
  refine ⟨Nat.le_trans (wt_at e) h.w, ?_, ?_⟩
  · exact Nat.le_trans (by
      have g : ∀ (xs : List PyData) (i : Nat), xs[i]? = some d → d.depth ≤ PyData.depthAll xs := by
        intro xs
        induction xs with
        | nil => intro i q; simp at q
        | cons x r ih =>
          intro i q
          rw [PyData.depthAll]
          cases i with
          | zero =>
            have : x = d := by simpa using q
            rw [this]
            exact Nat.le_max_left _ _
          | succ i => exact Nat.le_trans (ih i (by simpa using q)) (Nat.le_max_right _ _)
      exact g ds i e) h.p
  · have g : ∀ (xs : List PyData) (i : Nat), PyData.showableAll xs = true → xs[i]? = some d → d.showable = true := by
      intro xs
      induction xs with
      | nil => intro i _ q; simp at q
      | cons x r ih =>
        intro i z q
        rw [PyData.showableAll, Bool.and_eq_true] at z
        cases i with
        | zero =>
          have : x = d := by simpa using q
          rw [← this]
          exact z.1
        | succ i => exact ih i z.2 (by simpa using q)
    exact g ds i h.s e
theorem FineA.list (h : FineA n m ds) : Fine (n + 10) (m + 1) (.list ds) := by
  refine ⟨?_, ?_, ?_⟩
  · rw [wt]
    have := h.w
    omega
  · rw [PyData.depth]
    exact Nat.succ_le_succ h.p
  · rw [PyData.showable]
    exact h.s
theorem FineA.tuple (h : FineA n m ds) : Fine (n + 10) (m + 1) (.tuple ds) := by
  refine ⟨?_, ?_, ?_⟩
  · rw [wt]
    have := h.w
    omega
  · rw [PyData.depth]
    exact Nat.succ_le_succ h.p
  · rw [PyData.showable]
    exact h.s
theorem Fine.items (h : Fine n m (.list ds)) : FineA n (m - 1) ds ∧ 1 ≤ m := by
  obtain ⟨a, b, c⟩ := h
  rw [wt] at a
  rw [PyData.depth] at b
  rw [PyData.showable] at c
  exact ⟨⟨by omega, by omega, c⟩, by omega⟩
theorem FineA.len (h : FineA n m ds) : 10 * ds.length ≤ n := Nat.le_trans (wt_len ds) h.w
end
section
variable {X : Cx}
/-- a list compared with an empty one -/
def rEqE (K : PySem.W.Frag) : R2 := fun x y H Q => ∃ (a b : Addr) (xs : List V), x = .ref a ∧ y = .ref b ∧ SqL K H a xs ∧ SqL K H b [] ∧ Q (.bl xs.isEmpty) H
theorem op_eqE (hu : X.A.units + 64 < cLine) : OpR X (compareOp .Eq) (rEqE X.K) := by
  rintro pins s σ H x y v u Q I rx ry ⟨a, b, xs, rfl, rfl, ha, hb, q⟩
  cases rx
  cases ry
  obtain ⟨i1, r1, l1, _⟩ := I.list ha
  obtain ⟨i2, r2, l2, _⟩ := I.list hb
  cases r2
  have hl1 : s.heap.IsList a i1.toArray := by
    obtain ⟨o, n, h1, h2, h3, h4⟩ := l1
    exact ⟨o, h1, h2, n, h4⟩
  have hl2 : s.heap.IsList b #[] := by
    obtain ⟨o, n, h1, h2, h3, h4⟩ := l2
    exact ⟨o, h1, h2, n, h4⟩
  cases r1 with
  | nil =>
    exact SeqAt.eq_listAt (e := fun _ => true) hl1 hl2 rfl (by omega) (fun j h => absurd h (Nat.not_lt_zero _)) ⟨.bl true, H, I, rfl, q⟩
  | cons r t =>
    exact SeqAt.eq_list_lengthsAt hl1 hl2 (by simp) (by omega) ⟨.bl false, H, I, rfl, q⟩
/-- 'c' + e.replace('y', 'z') -/
theorem pe_addRepl {o : Expr} {to : TE} {c y z : Str} {j k l : Nat} {cp c0 c1 apos pos pos' : Pos} (ho : PE X o to) (hyz : (y == z) = false := by decide)
    (hst : starEach [.Constant (.str y) j c0, .Constant (.str z) k c1] X.env = [(false, eval (.Constant (.str y) j c0) X.env), (false, eval (.Constant (.str z) k c1) X.env)] := by rfl)
    (hbase : attributeBase o "replace" X.env (eval o X.env) = eval o X.env := by rfl) (hline : (apos.endLine == pos.line) = true := by rfl) :
    PE X (.BinOp (.Constant (.str c) l cp) .Add (.Call (.Attribute o "replace" apos) [.Constant (.str y) j c0, .Constant (.str z) k c1] [] pos) pos')
      (fun σ H Q => CwR.tReplC to y z σ H fun v H1 => ∃ x, v = .str x ∧ c.length + x.length ≤ sizeLine ∧ Q (.str (c ++ x)) H1) := by
  constructor
  intro pins s σ H Q I h
  apply wpAny_BinOp
  apply Calls.Constant_str
  have I1 := I.tok (s.toks + 1)
  have R := CwR.pet_replC (X := X) ho hyz hst hbase hline
  refine thn (R pins { s with toks := s.toks + 1 } σ H _ (Nat.le_add_left 1 s.toks) I1 h) ?_
  rintro u s2 ⟨v, H2, I2, r2, x, rfl, hl, q⟩
  exact op_add_str pins s2 σ H2 (.str c) (.str x) _ u Q I2 ⟨_, rfl⟩ r2 ⟨c, x, rfl, rfl, hl, q⟩
end
end Bb
/-! words, lines and logs: the program's answers and the law's own -/
namespace Bb
open PySem PySem.Spec PyProof.Rows L2
theorem scMade : FnScope ["characters", "value"] ["characters", "value"] (defScope sMade) := ⟨rfl, rfl, rfl, by decide +kernel, rfl, by decide +kernel, by decide +kernel⟩
theorem scIsWord : FnScope ["value"] ["value"] (defScope sIsWord) := ⟨rfl, rfl, rfl, by decide +kernel, rfl, by decide +kernel, by decide +kernel⟩
theorem scIsShown : FnScope ["value"] ["value"] (defScope sIsShown) := ⟨rfl, rfl, rfl, by decide +kernel, rfl, by decide +kernel, by decide +kernel⟩
theorem scIsLine : FnScope ["value", "word"] ["value"] (defScope sIsLine) := ⟨rfl, rfl, rfl, by decide +kernel, rfl, by decide +kernel, by decide +kernel⟩
theorem scIsLog : FnScope ["value", "line"] ["value"] (defScope sIsLog) := ⟨rfl, rfl, rfl, by decide +kernel, rfl, by decide +kernel, by decide +kernel⟩
theorem scWordDue : FnScope ["thing", "sign"] ["thing"] (defScope sWordDue) := ⟨rfl, rfl, rfl, by decide +kernel, rfl, by decide +kernel, by decide +kernel⟩
theorem scShownDue : FnScope ["thing"] ["thing"] (defScope sShownDue) := ⟨rfl, rfl, rfl, by decide +kernel, rfl, by decide +kernel, by decide +kernel⟩
theorem scLineDue : FnScope ["thing", "word"] ["thing"] (defScope sLineDue) := ⟨rfl, rfl, rfl, by decide +kernel, rfl, by decide +kernel, by decide +kernel⟩
theorem scLogDue : FnScope ["thing", "line"] ["thing"] (defScope sLogDue) := ⟨rfl, rfl, rfl, by decide +kernel, rfl, by decide +kernel, by decide +kernel⟩
/-! ### what is asked -/
def chs : Str := "-0123456789abcdefghijklmnopqrstuvwxyz"
def shs : Str := "*-0123456789abcdefghijklmnopqrstuvwxyz"
def madeS (cs x : Str) : Bool := (!decide (x = Str.ofString "")) && x.cps.toList.all fun c => decide (c ∈ cs.cps.toList)
def madeD (cs : Str) : PyData → Bool
  | .str x => madeS cs x
  | _ => false
def lineD : PyData → Bool
  | .list ds => ds.all (madeD chs)
  | _ => false
def logD : PyData → Bool
  | .list ds => ds.all lineD
  | _ => false
theorem tl_inj {x y : Str} (h : TL.tl x = TL.tl y) : x = y := TL.ext_tl h
/-! ### strip -/
theorem take_all (g : Nat → Bool) : ∀ l : List Nat, l.all g = true → l.takeWhile g = l
  | [], _ => rfl
  | c :: l, h => by
    rw [List.all_cons, Bool.and_eq_true] at h
    rw [List.takeWhile_cons, if_pos h.1, take_all g l h.2]
theorem take_some (g : Nat → Bool) : ∀ l : List Nat, l.all g = false → ∃ c r, g c = false ∧ l.drop (l.takeWhile g).length = c :: r ∧ (l.takeWhile g).length + (r.length + 1) = l.length
  | [], h => by cases h
  | c :: l, h => by
    cases e : g c with
    | false =>
      refine ⟨c, l, e, ?_, ?_⟩
      · rw [List.takeWhile_cons, e]
        rfl
      · rw [List.takeWhile_cons, e]
        simp
    | true =>
      rw [List.all_cons, e, Bool.true_and] at h
      obtain ⟨d, r, h1, h2, h3⟩ := take_some g l h
      refine ⟨d, r, h1, ?_, ?_⟩
      · rw [List.takeWhile_cons, e]
        exact h2
      · rw [List.takeWhile_cons, e]
        simp only [if_true, List.length_cons]
        omega
theorem take_back (g : Nat → Bool) {c : Nat} (hc : g c = false) : ∀ r : List Nat, ((r ++ [c]).takeWhile g).length ≤ r.length
  | [] => by
    rw [List.nil_append, List.takeWhile_cons, hc]
    exact Nat.le_refl _
  | d :: r => by
    rw [List.cons_append, List.takeWhile_cons]
    cases g d with
    | false => exact Nat.zero_le _
    | true => exact Nat.succ_le_succ (take_back g hc r)
theorem strip_empty (cs x : Str) : decide (Txt.stripChars x cs = Str.ofString "") = x.cps.toList.all fun c => decide (c ∈ cs.cps.toList) := by
  have eg : (fun c => decide (c ∈ cs.cps.toList)) = cs.cps.contains := by
    funext c
    rw [Bool.eq_iff_iff, decide_eq_true_iff, Array.contains_iff_mem, Array.mem_toList_iff]
  rw [eg]
  unfold Txt.stripChars
  rw [stripBy_eq]
  generalize cs.cps.contains = g
  have et : TL.tl (W.stripped g true true x) = ((TL.tl x).drop ((TL.tl x).takeWhile g).length).take ((x.length - (((TL.tl x).drop ((TL.tl x).takeWhile g).length).reverse.takeWhile g).length) - ((TL.tl x).takeWhile g).length) := TL.tl_strSub x _ _
  rw [Bool.eq_iff_iff, decide_eq_true_iff]
  have e0 : W.stripped g true true x = Str.ofString "" ↔ TL.tl (W.stripped g true true x) = [] := by
    constructor
    · intro h
      rw [h]
      decide +kernel
    · intro h
      apply tl_inj
      rw [h]
      decide +kernel
  change W.stripped g true true x = Str.ofString "" ↔ (TL.tl x).all g = true
  rw [e0, et]
  cases ha : (TL.tl x).all g with
  | true =>
    rw [take_all g _ ha, List.drop_length]
    simp
  | false =>
    obtain ⟨c, r, h1, h2, h3⟩ := take_some g _ ha
    rw [h2, List.reverse_cons]
    have h4 := take_back g h1 r.reverse
    rw [List.length_reverse] at h4
    rw [TL.len_tl]
    have h5 : 1 ≤ (TL.tl x).length - ((r.reverse ++ [c]).takeWhile g).length - ((TL.tl x).takeWhile g).length := by omega
    generalize (TL.tl x).length - ((r.reverse ++ [c]).takeWhile g).length - ((TL.tl x).takeWhile g).length = m at h5
    cases m with
    | zero => omega
    | succ m => simp
structure TM (mg : Str → Option Value) : Prop where
  isi : mg "isinstance" = none
  str : mg "str" = none
  list : mg "list" = none
  all : mg "all" = none
  ch : ∃ t, mg "CHARACTERS" = some (.str chs t)
  sh : ∃ t, mg "SHOWN_CHARACTERS" = some (.str shs t)
section
variable {P : Program} {w : World} {K : PySem.W.Frag} {mg : Str → Option Value} {base : Heap}
/-- a promise of one value that tells by a bool -/
def lenOk (d : PyData) : Prop := ∀ x, d = .str x → x.length ≤ 2000000
def wtOk (d : PyData) : Prop := wt d ≤ 1000000
theorem lenOk_of {d : PyData} (h : wt d ≤ 1000000) : lenOk d := by
  rintro x rfl
  rw [wt] at h
  omega
def spTell (C : PyData → Prop) (g : PyData → Bool) : Sp := fun vs H Q _ => ∃ (v : V) (d : PyData), vs = [v] ∧ Dq H v d ∧ C d ∧ ∀ H', Same H H' → Q (.bl (g d)) H'
def spMade : Sp := fun vs H Q _ => ∃ (cs : Str) (v : V) (d : PyData), vs = [.str cs, v] ∧ Dq H v d ∧ lenOk d ∧ ∀ H', Same H H' → Q (.bl (madeD cs d)) H'
theorem isS_shape {H : Hp} {v : V} {d : PyData} (q : Dq H v d) (h : isS d = true) : ∃ x, v = .str x ∧ d = .str x := by
  cases q with
  | str x => exact ⟨x, rfl, rfl⟩
  | _ => cases h
theorem isL_shape {H : Hp} {v : V} {d : PyData} (q : Dq H v d) (h : isL d = true) : ∃ a xs ds, v = .ref a ∧ d = .list ds ∧ H a = some (.lst xs) ∧ DqAll H xs ds := by
  cases q with
  | lst e ha => exact ⟨_, _, _, rfl, rfl, e, ha⟩
  | _ => cases h
theorem madeD_no {cs : Str} {d : PyData} (h : isS d = false) : madeD cs d = false := by
  cases d with
  | str x => cases h
  | _ => rfl
theorem lineD_no {d : PyData} (h : isL d = false) : lineD d = false := by
  cases d with
  | list x => cases h
  | _ => rfl
theorem logD_no {d : PyData} (h : isL d = false) : logD d = false := by
  cases d with
  | list x => cases h
  | _ => rfl
theorem str_wt {x : Str} (h : lenOk (.str x)) : x.length ≤ 2000000 := h x rfl
theorem dec_str (x y : Str) : decide ((V.str x) = V.str y) = decide (x = y) := by
  by_cases h : x = y
  · rw [h, decide_eq_true rfl, decide_eq_true rfl]
  · rw [decide_eq_false h, decide_eq_false (fun q => h (V.str.inj q))]
theorem ok_made {f : Addr} {fd : FuncData} {k : Nat} (F : Fun K "_is_made_of" "_is_made_of" sMade f fd) (T : TM mg) : FnOk P w K mg base CX0 (k + 1) f fd ["characters", "value"] spMade := by
  refine F.ok scMade (fun vs H Q E h => ?_) (fun cdv A outer s H vs Q E hr h => ?_)
  · obtain ⟨cs, v, d, rfl, _⟩ := h
    rfl
  · obtain ⟨cs, v, d, rfl, hd, hw, q⟩ := h
    refine ⟨_, (pss_one (ps_ret (pe_and (pe_callB call_isi (by rfl) T.isi (by decide +kernel) (pa_cons (pv 1) (pa_cons (pe_bltn (v := .ty "str") (by rfl) T.str (by decide +kernel) rfl) pa_nil))) (pe_and (pe_cmpR op_ne (pv 1) pe_str (nomark _)) (pe_one (pe_cmpR op_eq (pe_bm PySem.F.plainAttrs_str PySem.F.slot_str_strip PySem.F.type_str_strip mt_stripChars (pv 1) (pa_cons (pv 0) pa_nil)) pe_str (nomark _))))))), ?_⟩
    have q0 := q H (Same.refl H)
    obtain ⟨t, ty, ki⟩ := hd.tyS (K := K)
    refine ⟨_, rfl, v, .ty "str", _, _, _, rfl, .ty _, ty, ki, _, rfl, ite2 (fun h => ?_) (fun h => ?_)⟩
    · obtain ⟨x, rfl, rfl⟩ := isS_shape hd h
      have hxs : x.length ≤ sizeLine := by have := str_wt hw; rw [sizeLine_eq]; omega
      have em : madeD cs (.str x) = ((!decide (x = Str.ofString "")) && decide (Txt.stripChars x cs = Str.ofString "")) := by
        rw [strip_empty]
        rfl
      rw [em] at q0
      refine ⟨_, rfl, rfl, _, rfl, ite2 (fun h2 => ?_) (fun h2 => ?_)⟩
      · rw [dec_str] at h2
        rw [h2, Bool.true_and] at q0
        refine ⟨_, rfl, rfl, _, rfl, x, cs, rfl, rfl, hxs, rfl, ?_⟩
        rw [dec_str]
        exact q0
      · rw [dec_str] at h2
        rw [Bool.eq_false_iff.mpr h2, Bool.false_and] at q0
        exact q0
    · rw [madeD_no (Bool.eq_false_iff.mpr h)] at q0
      exact q0
theorem ok_isWord {f fM : Addr} {fd fdM : FuncData} {k : Nat} (F : Fun K "is_word" "is_word" sIsWord f fd) (T : TM mg) (FM : Fun K "_is_made_of" "_is_made_of" sMade fM fdM) (bM : Binds K fdM ["characters", "value"] []) (gM : mg "_is_made_of" = some (.ref fM)) :
    FnOk P w K mg base CX0 (k + 2) f fd ["value"] (spTell lenOk (madeD chs)) := by
  have GM : FnOk P w K mg base CX0 (k + 1) fM fdM ["characters", "value"] spMade := ok_made FM T
  refine F.ok scIsWord (fun vs H Q E h => ?_) (fun cdv A outer s H vs Q E hr h => ?_)
  · obtain ⟨v, d, rfl, _⟩ := h
    rfl
  · obtain ⟨v, d, rfl, hd, hw, q⟩ := h
    obtain ⟨t, gC⟩ := T.ch
    refine ⟨_, pss_one (ps_ret (pe_call GM hr (by rfl) gM FM.kp bM .nil pass0 (pa_cons (pe_glob (v := .str chs) (by rfl) gC ⟨_, rfl⟩) (pa_cons (pv 0) pa_nil)))), ?_⟩
    exact ⟨_, rfl, chs, v, d, rfl, hd, hw, q⟩
theorem ok_isShown {f fM : Addr} {fd fdM : FuncData} {k : Nat} (F : Fun K "is_shown" "is_shown" sIsShown f fd) (T : TM mg) (FM : Fun K "_is_made_of" "_is_made_of" sMade fM fdM) (bM : Binds K fdM ["characters", "value"] []) (gM : mg "_is_made_of" = some (.ref fM)) :
    FnOk P w K mg base CX0 (k + 2) f fd ["value"] (spTell lenOk (madeD shs)) := by
  have GM : FnOk P w K mg base CX0 (k + 1) fM fdM ["characters", "value"] spMade := ok_made FM T
  refine F.ok scIsShown (fun vs H Q E h => ?_) (fun cdv A outer s H vs Q E hr h => ?_)
  · obtain ⟨v, d, rfl, _⟩ := h
    rfl
  · obtain ⟨v, d, rfl, hd, hw, q⟩ := h
    obtain ⟨t, gC⟩ := T.sh
    refine ⟨_, pss_one (ps_ret (pe_call GM hr (by rfl) gM FM.kp bM .nil pass0 (pa_cons (pe_glob (v := .str shs) (by rfl) gC ⟨_, rfl⟩) (pa_cons (pv 0) pa_nil)))), ?_⟩
    exact ⟨_, rfl, shs, v, d, rfl, hd, hw, q⟩
theorem all_take {g : PyData → Bool} {ds : List PyData} (h : wtAll ds ≤ 1000000) : (ds.map fun d => V.bl (g d)).length < sizeLine := by
  rw [List.length_map, sizeLine_eq]
  have := wt_len ds
  omega
theorem ok_isLine {f fW : Addr} {fd fdW : FuncData} {k : Nat} (F : Fun K "is_line" "is_line" sIsLine f fd) (T : TM mg) (GW : FnOk P w K mg base CX0 (k + 1) fW fdW ["value"] (spTell lenOk (madeD chs))) (kW : PySem.W.keepIn K (.ref fW) = true) (bW : Binds K fdW ["value"] []) (gW : mg "is_word" = some (.ref fW)) :
    FnOk P w K mg base CX0 (k + 2) f fd ["value"] (spTell wtOk lineD) := by
  refine F.ok scIsLine (fun vs H Q E h => ?_) (fun cdv A outer s H vs Q E hr h => ?_)
  · obtain ⟨v, d, rfl, _⟩ := h
    rfl
  · obtain ⟨v, d, rfl, hd, hw, q⟩ := h
    refine ⟨_, pss_one (ps_ret (pe_and (pe_callB call_isi (by rfl) T.isi (by decide +kernel) (pa_cons (pv 0) (pa_cons (pe_bltn (v := .ty "list") (by rfl) T.list (by decide +kernel) rfl) pa_nil)))
      (pe_one (pe_callB (cr_all rfl) (by rfl) T.all (by decide +kernel) (pa_cons
        (pe_lc (own := [("word", 1)]) (g := gName 1) (tt := tYes) rfl scIsLine.nd (pi_list (pv 0)) (blkOk_by (own := [("word", 1)]) (N := ["value", "word"]) (sc := defScope sIsLine) (by decide +kernel))
          (fun _ _ _ _ _ => pg_name (i := 1) scIsLine.nd rfl (Or.inl rfl)) (fun _ _ _ _ _ => pts_nil) (fun _ _ _ _ _ => pe_call GW hr (by rfl) gW kW bW .nil pass0 (pa_cons (pv 1) pa_nil))) pa_nil))))), ?_⟩
    obtain ⟨t, ty, ki⟩ := hd.tyL (K := K)
    refine ⟨_, rfl, v, .ty "list", _, _, _, rfl, .ty _, ty, ki, _, rfl, ite2 (fun h => ?_) (fun h => ?_)⟩
    · obtain ⟨a, xs, ds, rfl, rfl, ea, ha⟩ := isL_shape hd h
      rw [wtOk, wt] at hw
      refine ⟨_, rfl, a, rfl, ⟨xs, .inl (.inl ea)⟩, fun D nD => lc_list (K := K) (a := a) (xs := xs) (fun i H' => Same H H' ∧ H' D = some (.lst ((ds.take i).map fun d => V.bl (madeD chs d)))) ⟨same_new nD, upd_same⟩
        (fun i H1 _ ⟨sm, _⟩ => sm.seq (.inl (.inl ea))) ?_ ?_⟩
      · rintro i y H1 hi ⟨sm, eD⟩
        obtain ⟨d, hid, hd1⟩ := ha.at hi
        refine ⟨rfl, y, rfl, y, d, rfl, hd1.same sm, lenOk_of (by have := wt_at hid; omega), fun H2 sm2 => ⟨_, sm2 _ _ eD, ?_, same_mut (sm.trans sm2) nD, ?_⟩⟩
        · exact all_take (Nat.le_trans (wtAll_take ds i) (by omega))
        · rw [upd_same, List.take_add_one, hid, List.map_append]
          rfl
      · rintro H1 ⟨sm, eD⟩
        have e9 : ds.take xs.length = ds := List.take_of_length_le (by rw [ha.len]; exact Nat.le_refl _)
        rw [e9] at eD
        refine ⟨D, ds.map (madeD chs), rfl, .inl (.inl (by rw [eD, List.map_map]; rfl)), ?_⟩
        have := q H1 sm
        rw [show lineD (.list ds) = (ds.map (madeD chs)).all id by
          show ds.all (madeD chs) = _
          rw [List.all_map]
          rfl] at this
        exact this
    · have := q H (Same.refl H)
      rw [lineD_no (Bool.eq_false_iff.mpr h)] at this
      exact this
theorem ok_isLog {f fW : Addr} {fd fdW : FuncData} {k : Nat} (F : Fun K "is_log" "is_log" sIsLog f fd) (T : TM mg) (GW : FnOk P w K mg base CX0 (k + 1) fW fdW ["value"] (spTell wtOk lineD)) (kW : PySem.W.keepIn K (.ref fW) = true) (bW : Binds K fdW ["value"] []) (gW : mg "is_line" = some (.ref fW)) :
    FnOk P w K mg base CX0 (k + 2) f fd ["value"] (spTell wtOk logD) := by
  refine F.ok scIsLog (fun vs H Q E h => ?_) (fun cdv A outer s H vs Q E hr h => ?_)
  · obtain ⟨v, d, rfl, _⟩ := h
    rfl
  · obtain ⟨v, d, rfl, hd, hw, q⟩ := h
    refine ⟨_, pss_one (ps_ret (pe_and (pe_callB call_isi (by rfl) T.isi (by decide +kernel) (pa_cons (pv 0) (pa_cons (pe_bltn (v := .ty "list") (by rfl) T.list (by decide +kernel) rfl) pa_nil)))
      (pe_one (pe_callB (cr_all rfl) (by rfl) T.all (by decide +kernel) (pa_cons
        (pe_lc (own := [("line", 1)]) (g := gName 1) (tt := tYes) rfl scIsLog.nd (pi_list (pv 0)) (blkOk_by (own := [("line", 1)]) (N := ["value", "line"]) (sc := defScope sIsLog) (by decide +kernel))
          (fun _ _ _ _ _ => pg_name (i := 1) scIsLog.nd rfl (Or.inl rfl)) (fun _ _ _ _ _ => pts_nil) (fun _ _ _ _ _ => pe_call GW hr (by rfl) gW kW bW .nil pass0 (pa_cons (pv 1) pa_nil))) pa_nil))))), ?_⟩
    obtain ⟨t, ty, ki⟩ := hd.tyL (K := K)
    refine ⟨_, rfl, v, .ty "list", _, _, _, rfl, .ty _, ty, ki, _, rfl, ite2 (fun h => ?_) (fun h => ?_)⟩
    · obtain ⟨a, xs, ds, rfl, rfl, ea, ha⟩ := isL_shape hd h
      rw [wtOk, wt] at hw
      refine ⟨_, rfl, a, rfl, ⟨xs, .inl (.inl ea)⟩, fun D nD => lc_list (K := K) (a := a) (xs := xs) (fun i H' => Same H H' ∧ H' D = some (.lst ((ds.take i).map fun d => V.bl (lineD d)))) ⟨same_new nD, upd_same⟩
        (fun i H1 _ ⟨sm, _⟩ => sm.seq (.inl (.inl ea))) ?_ ?_⟩
      · rintro i y H1 hi ⟨sm, eD⟩
        obtain ⟨d, hid, hd1⟩ := ha.at hi
        refine ⟨rfl, y, rfl, y, d, rfl, hd1.same sm, (by have := wt_at hid; show wt d ≤ 1000000; omega), fun H2 sm2 => ⟨_, sm2 _ _ eD, ?_, same_mut (sm.trans sm2) nD, ?_⟩⟩
        · exact all_take (Nat.le_trans (wtAll_take ds i) (by omega))
        · rw [upd_same, List.take_add_one, hid, List.map_append]
          rfl
      · rintro H1 ⟨sm, eD⟩
        have e9 : ds.take xs.length = ds := List.take_of_length_le (by rw [ha.len]; exact Nat.le_refl _)
        rw [e9] at eD
        refine ⟨D, ds.map lineD, rfl, .inl (.inl (by rw [eD, List.map_map]; rfl)), ?_⟩
        have := q H1 sm
        rw [show logD (.list ds) = (ds.map lineD).all id by
          show ds.all lineD = _
          rw [List.all_map]
          rfl] at this
        exact this
    · have := q H (Same.refl H)
      rw [logD_no (Bool.eq_false_iff.mpr h)] at this
      exact this
/-! ### the law's own readings -/
theorem filter_take_succ {α : Type} {p : α → Bool} {l : List α} {i : Nat} {x : α} (h : l[i]? = some x) : (l.take (i + 1)).filter p = (l.take i).filter p ++ (if p x then [x] else []) := by
  rw [List.take_add_one, h, List.filter_append]
  cases e : p x <;> simp [e]
theorem isEmpty_filter {α : Type} {p : α → Bool} (l : List α) : (l.filter fun x => !p x).isEmpty = l.all p := by
  induction l with
  | nil => rfl
  | cons x r ih =>
    rw [List.filter_cons, List.all_cons]
    cases e : p x
    · rfl
    · simpa using ih
theorem ok_wordDue {f : Addr} {fd : FuncData} {k : Nat} (F : Fun K "_law_word_due" "_law_word_due" sWordDue f fd) (T : TM mg) : FnOk P w K mg base CX0 (k + 1) f fd ["thing"] (spTell lenOk (madeD chs)) := by
  refine F.ok scWordDue (fun vs H Q E h => ?_) (fun cdv A outer s H vs Q E hr h => ?_)
  · obtain ⟨v, d, rfl, _⟩ := h
    rfl
  · obtain ⟨v, d, rfl, hd, hw, q⟩ := h
    have hu := hr.units
    refine ⟨_, pss_cons (ps_if (PW.pt (pw_or (pt_not (pt_val (pe_callB call_isi (by rfl) T.isi (by decide +kernel) (pa_cons (pv 0) (pa_cons (pe_bltn (v := .ty "str") (by rfl) T.str (by decide +kernel) rfl) pa_nil))))) (pw_or1 (pt_cmpR op_eq (pv 0) pe_str (nomark _)))))
        (pss_one (ps_ret pe_bl)) pss_nil)
      (pss_one (ps_ret (pe_cmpR (op_eqE hu) (pe_lc (own := [("sign", 1)]) (g := gName 1) rfl scWordDue.nd (pi_str (pv 0)) (blkOk_by (own := [("sign", 1)]) (N := ["thing", "sign"]) (sc := defScope sWordDue) (by decide +kernel))
          (fun _ _ _ _ _ => pg_name (i := 1) scWordDue.nd rfl (Or.inl rfl)) (fun _ _ _ _ _ => pts_one (pt_cmpR op_notIn_sign (pv 1) pe_str (by rfl))) (fun _ _ _ _ _ => pv 1)) (pe_lst pa_nil) (nomark _)))), ?_⟩
    obtain ⟨t, ty, ki⟩ := hd.tyS (K := K)
    refine ⟨_, rfl, v, .ty "str", _, _, _, rfl, .ty _, ty, ki, _, rfl, ?_⟩
    cases hS : isS d with
    | false =>
      refine iteT (iteT ?_)
      have := q H (Same.refl H)
      rw [madeD_no hS] at this
      exact this
    | true =>
      obtain ⟨x, rfl, rfl⟩ := isS_shape hd hS
      refine iteF ⟨_, rfl, rfl, _, rfl, ?_⟩
      rw [dec_str]
      by_cases h2 : x = Str.ofString ""
      · rw [decide_eq_true h2]
        refine iteT ?_
        have := q H (Same.refl H)
        rw [show madeD chs (.str x) = false by
          show ((!decide (x = Str.ofString "")) && _) = _
          rw [decide_eq_true h2]
          rfl] at this
        exact this
      · rw [decide_eq_false h2]
        refine iteF ?_
        refine ⟨_, rfl, x, rfl, fun D nD => lc_it walk_str (fun i H' => Same H H' ∧ H' D = some (.lst (((x.cps.toList.take i).filter fun c => !decide (c ∈ chs.cps.toList)).map fun c => V.str ⟨#[c]⟩))) ⟨same_new nD, upd_same⟩ (fun _ _ _ _ => trivial) ?_ ?_⟩
        · rintro i y H1 H2 hi ⟨sm, eD⟩ ⟨rfl, c, hc, rfl⟩
          have hc' : x.cps.toList[i]? = some c := by
            rw [Array.getElem?_toList]
            exact hc
          refine ⟨rfl, _, rfl, c, chs, rfl, rfl, _, rfl, ?_⟩
          have step := filter_take_succ (p := fun c => !decide (c ∈ chs.cps.toList)) hc'
          cases e : (!decide (c ∈ chs.cps.toList)) with
          | true =>
            rw [e] at step
            refine iteT ⟨_, rfl, _, eD, ?_, same_mut sm nD, ?_⟩
            · rw [List.length_map]
              have l1 := List.length_filter_le (fun c => !decide (c ∈ chs.cps.toList)) (x.cps.toList.take i)
              have l2 : (x.cps.toList.take i).length ≤ i := by
                rw [List.length_take]
                exact Nat.min_le_left _ _
              have := str_wt hw
              have h9 : x.cps.size = x.length := rfl
              rw [sizeLine_eq]
              omega
            · rw [upd_same, step, List.map_append]
              rfl
          | false =>
            rw [e] at step
            refine iteF ⟨sm, ?_⟩
            rw [eD, step]
            simp
        · rintro H1 ⟨sm, eD⟩
          have e9 : x.cps.toList.take x.cps.size = x.cps.toList := List.take_of_length_le (by rw [Array.length_toList]; exact Nat.le_refl _)
          rw [e9] at eD
          refine ⟨Nat.zero_le _, fun p np => ⟨D, p, _, rfl, rfl, (same_new np).seq (.inl (.inl eD)), .inl (.inl upd_same), ?_⟩⟩
          have := q (upd H1 p (.lst [])) (sm.trans (same_new np))
          rw [show madeD chs (.str x) = ((x.cps.toList.filter fun c => !decide (c ∈ chs.cps.toList)).map fun c => V.str ⟨#[c]⟩).isEmpty by
            show ((!decide (x = Str.ofString "")) && _) = _
            rw [decide_eq_false h2, List.isEmpty_map, isEmpty_filter]
            rfl] at this
          exact this
/-! a star replaced -/
def unstar (c : Nat) : Nat := if c = 42 then 97 else c
theorem repl_star (l : List Nat) : PySem.StrLaws.replL [42] [97] l = l.map unstar := by
  induction l with
  | nil => exact PySem.StrLaws.replL_nil
  | cons c r ih =>
    by_cases h : c = 42
    · rw [PySem.StrLaws.replL_hit (by simp) (by simp [h])]
      show [97] ++ PySem.StrLaws.replL [42] [97] r = _
      rw [ih, List.map_cons, unstar, if_pos h]
      rfl
    · rw [PySem.StrLaws.replL_miss (by simpa using h), ih, List.map_cons, unstar, if_neg h]
theorem star_list (x : Str) : (Txt.replace x (Str.ofString "*") (Str.ofString "a")).cps.toList = x.cps.toList.map unstar := by
  rw [PySem.StrLaws.replace_list (by decide +kernel)]
  exact repl_star x.cps.toList
theorem chs_list : shs.cps.toList = 42 :: chs.cps.toList := by decide +kernel
theorem a_in : 97 ∈ chs.cps.toList := by decide +kernel
theorem star_in (c : Nat) : decide (unstar c ∈ chs.cps.toList) = decide (c ∈ shs.cps.toList) := by
  rw [chs_list]
  unfold unstar
  by_cases h : c = 42
  · rw [if_pos h, decide_eq_true a_in, decide_eq_true (by rw [h]; exact List.mem_cons_self ..)]
  · rw [if_neg h]
    by_cases g : c ∈ chs.cps.toList
    · rw [decide_eq_true g, decide_eq_true (List.mem_cons_of_mem _ g)]
    · rw [decide_eq_false g, decide_eq_false (fun q => by
        rcases List.mem_cons.mp q with q | q
        · exact h q
        · exact g q)]
theorem made_star {x : Str} (h : ¬ x = Str.ofString "") : madeS chs (Str.ofString "a" ++ Txt.replace x (Str.ofString "*") (Str.ofString "a")) = madeS shs x := by
  have hl : (Str.ofString "a" ++ Txt.replace x (Str.ofString "*") (Str.ofString "a")).cps.toList = 97 :: x.cps.toList.map unstar := by
    show ((Str.ofString "a").cps ++ (Txt.replace x (Str.ofString "*") (Str.ofString "a")).cps).toList = _
    rw [Array.toList_append, star_list]
    rfl
  have hn : ¬ (Str.ofString "a" ++ Txt.replace x (Str.ofString "*") (Str.ofString "a")) = Str.ofString "" := by
    intro q
    rw [q] at hl
    cases hl
  unfold madeS
  rw [decide_eq_false h, decide_eq_false hn, hl, List.all_cons, decide_eq_true a_in, List.all_map]
  simp only [Bool.not_false, Bool.true_and]
  congr 1
  funext c
  exact star_in c
theorem star_len (x : Str) : (Txt.replace x (Str.ofString "*") (Str.ofString "a")).length = x.length := by
  show (Txt.replace x (Str.ofString "*") (Str.ofString "a")).cps.size = x.cps.size
  rw [← Array.length_toList, star_list, List.length_map, Array.length_toList]
theorem ok_shownDue {f fW : Addr} {fd fdW : FuncData} {k : Nat} (F : Fun K "_law_shown_due" "_law_shown_due" sShownDue f fd) (T : TM mg) (FW : Fun K "_law_word_due" "_law_word_due" sWordDue fW fdW) (bW : Binds K fdW ["thing"] []) (gW : mg "_law_word_due" = some (.ref fW)) :
    FnOk P w K mg base CX0 (k + 2) f fd ["thing"] (spTell wtOk (madeD shs)) := by
  have GW : FnOk P w K mg base CX0 (k + 1) fW fdW ["thing"] (spTell lenOk (madeD chs)) := ok_wordDue FW T
  refine F.ok scShownDue (fun vs H Q E h => ?_) (fun cdv A outer s H vs Q E hr h => ?_)
  · obtain ⟨v, d, rfl, _⟩ := h
    rfl
  · obtain ⟨v, d, rfl, hd, hw, q⟩ := h
    refine ⟨_, pss_one (ps_ret (pe_and (pe_callB call_isi (by rfl) T.isi (by decide +kernel) (pa_cons (pv 0) (pa_cons (pe_bltn (v := .ty "str") (by rfl) T.str (by decide +kernel) rfl) pa_nil)))
      (pe_and (pe_cmpR op_ne (pv 0) pe_str (nomark _)) (pe_one (pe_call GW hr (by rfl) gW FW.kp bW .nil pass0 (pa_cons (pe_addRepl (pv 0)) pa_nil)))))), ?_⟩
    obtain ⟨t, ty, ki⟩ := hd.tyS (K := K)
    refine ⟨_, rfl, v, .ty "str", _, _, _, rfl, .ty _, ty, ki, _, rfl, ite2 (fun h => ?_) (fun h => ?_)⟩
    · obtain ⟨x, rfl, rfl⟩ := isS_shape hd h
      have hx := str_wt (lenOk_of hw)
      refine ⟨_, rfl, rfl, _, rfl, ite2 (fun h2 => ?_) (fun h2 => ?_)⟩
      · rw [dec_str] at h2
        have h3 : ¬ x = Str.ofString "" := by simpa using h2
        have hone : (Str.ofString "a").length = 1 := rfl
        refine ⟨_, rfl, x, rfl, ?_, _, rfl, ?_, _, .str _, rfl, .str _, ?_, fun H' sm => ?_⟩
        · rw [hone]
          omega
        · rw [star_len, hone, sizeLine_eq]
          omega
        · rintro y hy
          cases hy
          rw [strLen_append, star_len, hone]
          rw [wtOk, wt] at hw
          omega
        · have := q H' sm
          rw [show madeD shs (.str x) = madeS shs x from rfl, ← made_star h3] at this
          exact this
      · rw [dec_str] at h2
        have := q H (Same.refl H)
        rw [show madeD shs (.str x) = false by
          show ((!decide (x = Str.ofString "")) && _) = _
          rw [Bool.eq_false_iff.mpr h2, Bool.false_and]] at this
        exact this
    · have := q H (Same.refl H)
      rw [madeD_no (Bool.eq_false_iff.mpr h)] at this
      exact this
theorem ok_lineDue {f fW : Addr} {fd fdW : FuncData} {k : Nat} (F : Fun K "_law_line_due" "_law_line_due" sLineDue f fd) (T : TM mg) (GW : FnOk P w K mg base CX0 (k + 1) fW fdW ["thing"] (spTell lenOk (madeD chs))) (kW : PySem.W.keepIn K (.ref fW) = true) (bW : Binds K fdW ["thing"] []) (gW : mg "_law_word_due" = some (.ref fW)) :
    FnOk P w K mg base CX0 (k + 2) f fd ["thing"] (spTell wtOk lineD) := by
  refine F.ok scLineDue (fun vs H Q E h => ?_) (fun cdv A outer s H vs Q E hr h => ?_)
  · obtain ⟨v, d, rfl, _⟩ := h
    rfl
  · obtain ⟨v, d, rfl, hd, hw, q⟩ := h
    have hu := hr.units
    refine ⟨_, pss_one (ps_ret (pe_and (pe_callB call_isi (by rfl) T.isi (by decide +kernel) (pa_cons (pv 0) (pa_cons (pe_bltn (v := .ty "list") (by rfl) T.list (by decide +kernel) rfl) pa_nil)))
      (pe_one (pe_cmpR (op_eqE hu) (pe_lc (own := [("word", 1)]) (g := gName 1) rfl scLineDue.nd (pi_list (pv 0)) (blkOk_by (own := [("word", 1)]) (N := ["thing", "word"]) (sc := defScope sLineDue) (by decide +kernel))
          (fun _ _ _ _ _ => pg_name (i := 1) scLineDue.nd rfl (Or.inl rfl)) (fun _ _ _ _ _ => pts_one (pt_not (pt_val (pe_call GW hr (by rfl) gW kW bW .nil pass0 (pa_cons (pv 1) pa_nil))))) (fun _ _ _ _ _ => pv 1)) (pe_lst pa_nil) (nomark _))))), ?_⟩
    obtain ⟨t, ty, ki⟩ := hd.tyL (K := K)
    refine ⟨_, rfl, v, .ty "list", _, _, _, rfl, .ty _, ty, ki, _, rfl, ite2 (fun h => ?_) (fun h => ?_)⟩
    · obtain ⟨a, xs, ds, rfl, rfl, ea, ha⟩ := isL_shape hd h
      rw [wtOk, wt] at hw
      refine ⟨_, rfl, a, rfl, ⟨xs, .inl (.inl ea)⟩, fun D nD => lc_list (K := K) (a := a) (xs := xs) (fun i H' => Same H H' ∧ ∃ acc : List V, H' D = some (.lst acc) ∧ acc.length ≤ i ∧ acc.isEmpty = (ds.take i).all (madeD chs)) ⟨same_new nD, [], upd_same, Nat.le_refl _, rfl⟩
        (fun i H1 _ ⟨sm, _⟩ => sm.seq (.inl (.inl ea))) ?_ ?_⟩
      · rintro i y H1 hi ⟨sm, acc, eD, la, em⟩
        obtain ⟨d, hid, hd1⟩ := ha.at hi
        have hil : i < xs.length := (List.getElem?_eq_some_iff.mp hi).1
        have hln := wt_len ds
        rw [← ha.len] at hln
        refine ⟨rfl, y, rfl, y, d, rfl, hd1.same sm, lenOk_of (by have := wt_at hid; omega), fun H2 sm2 => ⟨_, rfl, ?_⟩⟩
        have step : (ds.take (i + 1)).all (madeD chs) = ((ds.take i).all (madeD chs) && madeD chs d) := by
          rw [List.take_add_one, hid, List.all_append]
          simp
        cases e : madeD chs d with
        | true =>
          rw [e, Bool.and_true] at step
          exact iteF ⟨sm.trans sm2, acc, sm2 _ _ eD, by omega, by rw [em, step]⟩
        | false =>
          rw [e, Bool.and_false] at step
          refine iteT ⟨_, rfl, acc, sm2 _ _ eD, by rw [sizeLine_eq]; omega, same_mut (sm.trans sm2) nD, acc ++ [y], upd_same, by rw [List.length_append]; exact Nat.succ_le_succ la, ?_⟩
          rw [step]
          cases acc <;> rfl
      · rintro H1 ⟨sm, acc, eD, la, em⟩
        have e9 : ds.take xs.length = ds := List.take_of_length_le (by rw [ha.len]; exact Nat.le_refl _)
        rw [e9] at em
        refine ⟨Nat.zero_le _, fun p np => ⟨D, p, _, rfl, rfl, (same_new np).seq (.inl (.inl eD)), .inl (.inl upd_same), ?_⟩⟩
        rw [em]
        exact q (upd H1 p (.lst [])) (sm.trans (same_new np))
    · have := q H (Same.refl H)
      rw [lineD_no (Bool.eq_false_iff.mpr h)] at this
      exact this
theorem ok_logDue {f fW : Addr} {fd fdW : FuncData} {k : Nat} (F : Fun K "_law_log_due" "_law_log_due" sLogDue f fd) (T : TM mg) (GW : FnOk P w K mg base CX0 (k + 1) fW fdW ["thing"] (spTell wtOk lineD)) (kW : PySem.W.keepIn K (.ref fW) = true) (bW : Binds K fdW ["thing"] []) (gW : mg "_law_line_due" = some (.ref fW)) :
    FnOk P w K mg base CX0 (k + 2) f fd ["thing"] (spTell wtOk logD) := by
  refine F.ok scLogDue (fun vs H Q E h => ?_) (fun cdv A outer s H vs Q E hr h => ?_)
  · obtain ⟨v, d, rfl, _⟩ := h
    rfl
  · obtain ⟨v, d, rfl, hd, hw, q⟩ := h
    have hu := hr.units
    refine ⟨_, pss_one (ps_ret (pe_and (pe_callB call_isi (by rfl) T.isi (by decide +kernel) (pa_cons (pv 0) (pa_cons (pe_bltn (v := .ty "list") (by rfl) T.list (by decide +kernel) rfl) pa_nil)))
      (pe_one (pe_cmpR (op_eqE hu) (pe_lc (own := [("line", 1)]) (g := gName 1) rfl scLogDue.nd (pi_list (pv 0)) (blkOk_by (own := [("line", 1)]) (N := ["thing", "line"]) (sc := defScope sLogDue) (by decide +kernel))
          (fun _ _ _ _ _ => pg_name (i := 1) scLogDue.nd rfl (Or.inl rfl)) (fun _ _ _ _ _ => pts_one (pt_not (pt_val (pe_call GW hr (by rfl) gW kW bW .nil pass0 (pa_cons (pv 1) pa_nil))))) (fun _ _ _ _ _ => pv 1)) (pe_lst pa_nil) (nomark _))))), ?_⟩
    obtain ⟨t, ty, ki⟩ := hd.tyL (K := K)
    refine ⟨_, rfl, v, .ty "list", _, _, _, rfl, .ty _, ty, ki, _, rfl, ite2 (fun h => ?_) (fun h => ?_)⟩
    · obtain ⟨a, xs, ds, rfl, rfl, ea, ha⟩ := isL_shape hd h
      rw [wtOk, wt] at hw
      refine ⟨_, rfl, a, rfl, ⟨xs, .inl (.inl ea)⟩, fun D nD => lc_list (K := K) (a := a) (xs := xs) (fun i H' => Same H H' ∧ ∃ acc : List V, H' D = some (.lst acc) ∧ acc.length ≤ i ∧ acc.isEmpty = (ds.take i).all lineD) ⟨same_new nD, [], upd_same, Nat.le_refl _, rfl⟩
        (fun i H1 _ ⟨sm, _⟩ => sm.seq (.inl (.inl ea))) ?_ ?_⟩
      · rintro i y H1 hi ⟨sm, acc, eD, la, em⟩
        obtain ⟨d, hid, hd1⟩ := ha.at hi
        have hil : i < xs.length := (List.getElem?_eq_some_iff.mp hi).1
        have hln := wt_len ds
        rw [← ha.len] at hln
        refine ⟨rfl, y, rfl, y, d, rfl, hd1.same sm, (by have := wt_at hid; show wt d ≤ 1000000; omega), fun H2 sm2 => ⟨_, rfl, ?_⟩⟩
        have step : (ds.take (i + 1)).all lineD = ((ds.take i).all lineD && lineD d) := by
          rw [List.take_add_one, hid, List.all_append]
          simp
        cases e : lineD d with
        | true =>
          rw [e, Bool.and_true] at step
          exact iteF ⟨sm.trans sm2, acc, sm2 _ _ eD, by omega, by rw [em, step]⟩
        | false =>
          rw [e, Bool.and_false] at step
          refine iteT ⟨_, rfl, acc, sm2 _ _ eD, by rw [sizeLine_eq]; omega, same_mut (sm.trans sm2) nD, acc ++ [y], upd_same, by rw [List.length_append]; exact Nat.succ_le_succ la, ?_⟩
          rw [step]
          cases acc <;> rfl
      · rintro H1 ⟨sm, acc, eD, la, em⟩
        have e9 : ds.take xs.length = ds := List.take_of_length_le (by rw [ha.len]; exact Nat.le_refl _)
        rw [e9] at em
        refine ⟨Nat.zero_le _, fun p np => ⟨D, p, _, rfl, rfl, (same_new np).seq (.inl (.inl eD)), .inl (.inl upd_same), ?_⟩⟩
        rw [em]
        exact q (upd H1 p (.lst [])) (sm.trans (same_new np))
    · have := q H (Same.refl H)
      rw [logD_no (Bool.eq_false_iff.mpr h)] at this
      exact this
end
end Bb
/-! drawn values and bent ones -/
namespace Bb
open PySem PySem.Spec PyProof.Rows L2
theorem scAny : FnScope ["jar", "some"] ["jar"] (defScope sAny) := ⟨rfl, rfl, rfl, by decide +kernel, rfl, by decide +kernel, by decide +kernel⟩
theorem scBent : FnScope ["jar", "thing", "at", "pick"] ["jar", "thing"] (defScope sBent) := ⟨rfl, rfl, rfl, by decide +kernel, rfl, by decide +kernel, by decide +kernel⟩
/-! ### a text several times -/
def manyS (n : Nat) (x : Str) : Str := ⟨(List.replicate n x.cps).foldl (· ++ ·) #[]⟩
theorem many_size (x : Array Nat) : ∀ (n : Nat) (acc : Array Nat), ((List.replicate n x).foldl (· ++ ·) acc).size = acc.size + n * x.size
  | 0, acc => by simp
  | n + 1, acc => by
    rw [List.replicate_succ, List.foldl_cons, many_size x n, Array.size_append, Nat.succ_mul]
    omega
theorem many_len (n : Nat) (x : Str) : (manyS n x).length = n * x.length := by
  show ((List.replicate n x.cps).foldl (· ++ ·) #[]).size = n * x.cps.size
  rw [many_size]
  simp
theorem op_mulS {X : Cx} : OpR X (binaryOp .Mult) (fun x y H Q => ∃ (z : Str) (n : Nat), x = .str z ∧ y = .int (n : Int) ∧ 2 ≤ n ∧ n ≤ 1000 ∧ 1 ≤ z.length ∧ z.length ≤ 1000 ∧ Q (.str (manyS n z)) H) := by
  rintro pins s σ H x y v u Q I rx ry ⟨z, n, rfl, rfl, n2, n3, z1, z2, q⟩
  obtain ⟨t, rfl⟩ := rx
  obtain ⟨t', rfl⟩ := ry
  have hp : z.length * n ≤ 1000 * 1000 := Nat.mul_le_mul z2 n3
  have hn1 : ¬ ((n : Int) < 1) := by omega
  have hn2 : (((n : Int) == 1) || (z.length == 0)) = false := by
    rw [Bool.or_eq_false_iff]
    exact ⟨beq_eq_false_iff_ne.mpr (by omega), beq_eq_false_iff_ne.mpr (by omega)⟩
  refine PySem.P.mul_str ?_ ?_ ?_ ?_
  · rw [decide_eq_false (by omega), decide_eq_false (by omega)]
    rfl
  · intro _ _ h
    have h1 : (2 ^ 63 - 1 : Int) / (n : Int) < (z.length : Int) := h
    have h2 : (2 ^ 63 - 1 : Int) < (z.length : Int) * (n : Int) := (Int.ediv_lt_iff_lt_mul (by omega)).mp h1
    have h3 : (z.length : Int) * (n : Int) = ((z.length * n : Nat) : Int) := by simp
    rw [h3] at h2
    omega
  · intro _ _
    unfold PySem.Builtin.Str.tooLong
    rw [Int.toNat_natCast]
    first
      | exact decide_eq_false (by rw [sizeLine_eq]; omega)
      | (simp; rw [sizeLine_eq]; omega)
  · rw [if_neg hn1, hn2, if_neg Bool.false_ne_true]
    have hl := many_len n z
    have hc := Nat.mul_comm n z.length
    refine ⟨?_, ?_⟩
    · rw [Int.toNat_natCast]
      show (manyS n z).length ≤ sizeLine
      rw [hl, hc, sizeLine_eq]
      omega
    · exact ⟨.str (manyS n z), H, I.tok _, ⟨_, by rw [Int.toNat_natCast]; rfl⟩, q⟩
/-! ### displays of data -/
def EvD (te : TE) (σ : L2.St) (d : PyData) : Prop := ∀ (H : Hp) (Q : VK), (∀ v H', Same H H' → Dq H' v d → Q v H') → te σ H Q
def EvDA (ta : TA) (σ : L2.St) (ds : List PyData) : Prop := ∀ (H : Hp) (Q : List V → Hp → Prop), (∀ vs H', Same H H' → DqAll H' vs ds → Q vs H') → ta σ H Q
section
variable {σ : L2.St} {te : TE} {ta : TA} {d : PyData} {ds : List PyData}
theorem ed_non : EvD (tC .non) σ .none := fun H Q q => q _ H (Same.refl H) .non
theorem ed_bl {b : Bool} : EvD (tC (.bl b)) σ (.bool b) := fun H Q q => q _ H (Same.refl H) (.bl b)
theorem ed_int {i : Int} : EvD (tC (.int i)) σ (.int i) := fun H Q q => q _ H (Same.refl H) (.int i)
theorem ed_str {x : Str} : EvD (tC (.str x)) σ (.str x) := fun H Q q => q _ H (Same.refl H) (.str x)
theorem ed_neg {i : Int} : EvD (tUn (rU fun i => .int (-i)) (tC (.int i))) σ (.int (-i)) := fun H Q q => ⟨i, rfl, q _ H (Same.refl H) (.int _)⟩
theorem ed_pow {i j : Int} (h : CPow i j) : EvD (tOp (rI CPow fun i j => .int (i ^ j.toNat)) (tC (.int i)) (tC (.int j))) σ (.int (i ^ j.toNat)) := fun H Q q => ⟨i, j, rfl, rfl, h, q _ H (Same.refl H) (.int _)⟩
theorem ed_many {z : Str} {n : Nat} (h1 : 2 ≤ n) (h2 : n ≤ 1000) (h3 : 1 ≤ z.length) (h4 : z.length ≤ 1000) :
    EvD (tOp (fun x y H Q => ∃ (z : Str) (n : Nat), x = .str z ∧ y = .int (n : Int) ∧ 2 ≤ n ∧ n ≤ 1000 ∧ 1 ≤ z.length ∧ z.length ≤ 1000 ∧ Q (.str (manyS n z)) H) (tC (.str z)) (tC (.int n))) σ (.str (manyS n z)) :=
  fun H Q q => ⟨z, n, rfl, rfl, h1, h2, h3, h4, q _ H (Same.refl H) (.str _)⟩
theorem ed_dict : EvD tDNewK σ (.dict []) := fun H Q q p np => q _ _ (same_new np) (.dic upd_same)
theorem ed_nil : EvDA tNil σ [] := fun H Q q => q [] H (Same.refl H) .nil
theorem ed_cons (h : EvD te σ d) (t : EvDA ta σ ds) : EvDA (tCons te ta) σ (d :: ds) := fun H Q q =>
  h H _ fun v H1 s1 q1 => t H1 _ fun vs H2 s2 q2 => q _ H2 (s1.trans s2) (.cons (q1.same s2) q2)
theorem ed_lst (h : EvDA ta σ ds) (hl : ds.length ≤ 1000) : EvD (tLst ta) σ (.list ds) := fun H Q q =>
  h H _ fun vs H1 s1 q1 => ⟨by rw [q1.len, sizeLine_eq]; omega, fun p np => q _ _ (s1.trans (same_new np)) (.lst upd_same (q1.same (same_new np)))⟩
theorem ed_tup (h : EvDA ta σ ds) (hl : ds.length ≤ 1000) : EvD (tTup ta) σ (.tuple ds) := fun H Q q =>
  h H _ fun vs H1 s1 q1 => ⟨by rw [q1.len, sizeLine_eq]; omega, fun p np => q _ _ (s1.trans (same_new np)) (.tup upd_same (q1.same (same_new np)))⟩
end
theorem seq_set {te : TE} {i : Nat} {t2 : TS} {D : Ends} {σ : L2.St} {H : Hp} (h : te σ H fun v H1 => t2 D (σ.set i (some v)) H1) : tSeq (tAsg te (gName i)) t2 D σ H := h
/-! ### _law_any -/
def any1 : List PyData := [.none, .bool true, .bool false, .int 0, .int 1, .int (-1), .int (10 ^ (59 : Int).toNat), .str "", .str "a", .str "A", .str "a b", .str "*", .str "a*", .str "**-", .str "a\n", .str "_", .str "a.b"]
def any2 : List PyData := [.tuple [], .tuple [.str "a"], .list [.str "a"], .list [], .dict [], .list [.list []], .list [.list [.str "a"], .list []], .list [.tuple [.str "a"]], .list [.str "a", .str "*"], .str (manyS 300 "-")]
theorem any_fine : ∀ d ∈ any1 ++ any2, wt d ≤ 700 ∧ d.depth ≤ 3 ∧ d.showable = true := by decide +kernel
def spAny : Sp := fun vs H Q _ => ∃ j : Addr, vs = [.ref j] ∧ Jar H j ∧ ∀ H' v d, But j H H' → Jar H' j → Dq H' v d → Fine 700 3 d → Q v H'
section
variable {P : Program} {w : World} {K : PySem.W.Frag} {mg : Str → Option Value} {base : Heap}
theorem DqAll.mem {H : Hp} : ∀ {vs : List V} {ds : List PyData} {v : V}, DqAll H vs ds → v ∈ vs → ∃ d, d ∈ ds ∧ Dq H v d
  | [], _, _, _, h => nomatch h
  | _ :: _, _, _, q, h => by
    cases q with
    | cons a b =>
      rcases List.mem_cons.mp h with e | e
      · subst e
        exact ⟨_, List.mem_cons_self .., a⟩
      · obtain ⟨d, h1, h2⟩ := DqAll.mem b e
        exact ⟨d, List.mem_cons_of_mem _ h1, h2⟩
set_option maxHeartbeats 4000000 in
theorem ok_any {f fC : Addr} {fd fdC : FuncData} {k : Nat} (F : Fun K "_law_any" "_law_any" sAny f fd) (GC : FnOk P w K mg base CX0 (k + 1) fC fdC ["jar", "things"] (spChoose K)) (kC : PySem.W.keepIn K (.ref fC) = true) (bC : Binds K fdC ["jar", "things"] []) (gC : mg "_law_choose" = some (.ref fC)) :
    FnOk P w K mg base CX0 (k + 2) f fd ["jar"] spAny := by
  refine F.ok scAny (fun vs H Q E h => ?_) (fun cdv A outer s H vs Q E hr h => ?_)
  · obtain ⟨j, rfl, _⟩ := h
    rfl
  · obtain ⟨j, rfl, hj, q⟩ := h
    refine ⟨_, pss_cons (ps_set (i := 1) scAny.nd rfl (.inl rfl) (pe_lst (pa_cons pe_non (pa_cons pe_bl (pa_cons pe_bl (pa_cons pe_int (pa_cons pe_int (pa_cons (pe_un un_neg pe_int) (pa_cons (pe_op op_pow pe_int pe_int)
        (pa_cons pe_str (pa_cons pe_str (pa_cons pe_str (pa_cons pe_str (pa_cons pe_str (pa_cons pe_str (pa_cons pe_str (pa_cons pe_str (pa_cons pe_str (pa_cons pe_str pa_nil)))))))))))))))))))
      (pss_one (ps_ret (pe_call GC hr (by rfl) gC kC bC .nil pass0 (pa_cons (pv 0) (pa_cons (pe_op op_cat (pv 1) (pe_lst
        (pa_cons (pe_tup pa_nil) (pa_cons (pe_tup (pa_cons pe_str pa_nil)) (pa_cons (pe_lst (pa_cons pe_str pa_nil)) (pa_cons (pe_lst pa_nil) (pa_cons pe_dnewK (pa_cons (pe_lst (pa_cons (pe_lst pa_nil) pa_nil))
        (pa_cons (pe_lst (pa_cons (pe_lst (pa_cons pe_str pa_nil)) (pa_cons (pe_lst pa_nil) pa_nil))) (pa_cons (pe_lst (pa_cons (pe_tup (pa_cons pe_str pa_nil)) pa_nil)) (pa_cons (pe_lst (pa_cons pe_str (pa_cons pe_str pa_nil)))
        (pa_cons (pe_op op_mulS pe_str pe_int) pa_nil)))))))))))) pa_nil))))), ?_⟩
    refine seq_set (ed_lst (ds := any1) (ed_cons ed_non (ed_cons ed_bl (ed_cons ed_bl (ed_cons ed_int (ed_cons ed_int (ed_cons ed_neg (ed_cons (ed_pow ⟨by decide, by decide, by decide⟩)
      (ed_cons ed_str (ed_cons ed_str (ed_cons ed_str (ed_cons ed_str (ed_cons ed_str (ed_cons ed_str (ed_cons ed_str (ed_cons ed_str (ed_cons ed_str (ed_cons ed_str ed_nil))))))))))))))))) (by decide) H _ ?_)
    intro v1 H1 s1 q1
    cases q1 with
    | lst e1 a1 =>
      rename_i p1 xs1
      refine ⟨_, rfl, _, rfl, ?_⟩
      refine ed_lst (ds := any2) (ed_cons (ed_tup ed_nil (by decide)) (ed_cons (ed_tup (ed_cons ed_str ed_nil) (by decide)) (ed_cons (ed_lst (ed_cons ed_str ed_nil) (by decide)) (ed_cons (ed_lst ed_nil (by decide)) (ed_cons ed_dict
        (ed_cons (ed_lst (ed_cons (ed_lst ed_nil (by decide)) ed_nil) (by decide)) (ed_cons (ed_lst (ed_cons (ed_lst (ed_cons ed_str ed_nil) (by decide)) (ed_cons (ed_lst ed_nil (by decide)) ed_nil)) (by decide))
        (ed_cons (ed_lst (ed_cons (ed_tup (ed_cons ed_str ed_nil) (by decide)) ed_nil) (by decide)) (ed_cons (ed_lst (ed_cons ed_str (ed_cons ed_str ed_nil)) (by decide))
        (ed_cons (ed_many (by decide) (by decide) (by decide +kernel) (by decide +kernel)) ed_nil)))))))))) (by decide) H1 _ ?_
      intro v2 H2 s2 q2
      cases q2 with
      | lst e2 a2 =>
        rename_i p2 xs2
        have l1 : xs1.length = 17 := a1.len
        have l2 : xs2.length = 10 := a2.len
        refine ⟨p1, p2, xs1, xs2, rfl, rfl, s2 _ _ e1, e2, by rw [l1, l2]; decide, fun p np => ?_⟩
        have s3 := same_new (o := .lst (xs1 ++ xs2)) np
        have hj3 : Jar (upd H2 p (.lst (xs1 ++ xs2))) j := hj.same ((s1.trans s2).trans s3)
        have all : DqAll (upd H2 p (.lst (xs1 ++ xs2))) (xs1 ++ xs2) (any1 ++ any2) := (((a1.same s2).app a2).same s3)
        refine ⟨j, p, xs1 ++ xs2, rfl, hj3, .inl (.inl upd_same), lst_not hj3 upd_same, by rw [List.length_append, l1, l2]; decide, by rw [List.length_append, l1, l2]; decide, fun H' x hx b hj' => ?_⟩
        obtain ⟨d, hd, qd⟩ := all.mem hx
        obtain ⟨w1, w2, w3⟩ := any_fine d hd
        exact q H' x d ((But.of ((s1.trans s2).trans s3)).trans b) hj' (qd.but hj3 b) ⟨w1, w2, w3⟩
end
end Bb
/-! logs bent -/
namespace Bb
open PySem PySem.Spec PyProof.Rows L2
theorem cut_hi {xs : List V} {n : Nat} (h : n ≤ xs.length) : cutV xs none (some (n : Int)) = xs.take n := by
  unfold cutV
  rw [HT.sIx_none, HT.sIx_nat, Nat.min_eq_left h, List.drop_zero, Nat.sub_zero]
theorem cut_lo {xs : List V} {n : Nat} (h : n ≤ xs.length) : cutV xs (some (n : Int)) none = xs.drop n := by
  unfold cutV
  rw [HT.sIx_none, HT.sIx_nat, Nat.min_eq_left h]
  exact List.take_of_length_le (by rw [List.length_drop]; exact Nat.le_refl _)
theorem cut_lo1 {xs : List V} {n : Nat} (h : n ≤ xs.length) : cutV xs (some ((n : Int) + 1)) none = xs.drop (n + 1) := by
  have e : (n : Int) + 1 = ((n + 1 : Nat) : Int) := by omega
  unfold cutV
  rw [e, HT.sIx_none, HT.sIx_nat]
  by_cases q : n + 1 ≤ xs.length
  · rw [Nat.min_eq_left q]
    exact List.take_of_length_le (by rw [List.length_drop]; exact Nat.le_refl _)
  · have e2 : xs.length = n := by omega
    rw [Nat.min_eq_right (by omega), List.drop_of_length_le (Nat.le_refl _), List.drop_of_length_le (by omega), List.take_nil]
theorem wt_parts {ds : List PyData} {i : Nat} {d : PyData} (h : ds[i]? = some d) : wtAll ds = wtAll (ds.take i) + wt d + wtAll (ds.drop (i + 1)) := by
  have hi : i < ds.length := (List.getElem?_eq_some_iff.mp h).1
  have e : ds.drop i = d :: ds.drop (i + 1) := by
    rw [List.drop_eq_getElem_cons hi]
    rw [(List.getElem?_eq_some_iff.mp h).2]
  have h1 := wtAll_app (ds.take i) (ds.drop i)
  rw [List.take_append_drop, e, wtAll] at h1
  omega
/-- what a bent thing is like -/
structure Bent (ds : List PyData) (d : PyData) : Prop where
  w : wt d ≤ wtAll ds + 1000
  p : d.depth ≤ PyData.depthAll ds + 6
  s : d.showable = true
theorem fineA_self {ds : List PyData} (h : PyData.showableAll ds = true) : FineA (wtAll ds) (PyData.depthAll ds) ds := ⟨Nat.le_refl _, Nat.le_refl _, h⟩
theorem bent_list {ds es : List PyData} (n : Nat) (hn : n ≤ wtAll ds + 990) (h : FineA n (PyData.depthAll ds + 5) es) : Bent ds (.list es) := by
  obtain ⟨a, b, c⟩ := h.list
  exact ⟨by omega, b, c⟩
def spBent (n : Nat) : Sp := fun vs H Q _ => ∃ (j a : Addr) (xs : List V) (ds : List PyData), vs = [.ref j, .ref a] ∧ Jar H j ∧ H a = some (.lst xs) ∧ DqAll H xs ds ∧ PyData.showableAll ds = true ∧ PyData.depthAll ds < n ∧ wtAll ds ≤ 100000 ∧
  ∀ H' v d, But j H H' → Jar H' j → Dq H' v d → Bent ds d → Q v H'
section
variable {P : Program} {w : World} {K : PySem.W.Frag} {mg : Str → Option Value} {base : Heap}
structure TB (K : PySem.W.Frag) (mg : Str → Option Value) (fD fA fB : Addr) : Prop where
  kD : PySem.W.keepIn K (.ref fD) = true
  gD : mg "_law_draw" = some (.ref fD)
  kA : PySem.W.keepIn K (.ref fA) = true
  gA : mg "_law_any" = some (.ref fA)
  kB : PySem.W.keepIn K (.ref fB) = true
  gB : mg "_law_bent" = some (.ref fB)
  len : mg "len" = none
  tup : mg "tuple" = none
  isi : mg "isinstance" = none
  list : mg "list" = none
theorem but_new {j p : Addr} {H : Hp} {o : HO} (h : H p = none) : But j H (upd H p o) := But.of (same_new h)
set_option maxHeartbeats 4000000 in
theorem ok_bent {f fD fA : Addr} {fd fdD fdA : FuncData} {k : Nat} (F : Fun K "_law_bent" "_law_bent" sBent f fd) (T : TB K mg fD fA f)
    (GD : FnOk P w K mg base CX0 (k + 3) fD fdD ["jar", "many"] spDraw) (bD : Binds K fdD ["jar", "many"] []) (GA : FnOk P w K mg base CX0 (k + 3) fA fdA ["jar"] spAny) (bA : Binds K fdA ["jar"] []) (bB : Binds K fd ["jar", "thing"] []) :
    ∀ n : Nat, FnOk P w K mg base CX0 (n + k + 4) f fd ["jar", "thing"] (spBent n) := by
  intro n
  induction n with
  | zero =>
    refine FnOk.imp (F.ok (k := 0 + k + 3) (sp := fun _ _ _ _ => False) scBent (fun vs H Q E h => h.elim) (fun cdv A outer s H vs Q E hr h => h.elim)) ?_
    rintro vs H Q E ⟨j, a, xs, ds, rfl, _, _, _, _, h, _⟩
    exact absurd h (Nat.not_lt_zero _)
  | succ n ih =>
    refine F.ok scBent (fun vs H Q E h => ?_) (fun cdv A outer s H vs Q E hr h => ?_)
    · obtain ⟨j, a, xs, ds, rfl, _⟩ := h
      rfl
    · obtain ⟨j, a, xs, ds, rfl, hj, ea, ha, hsh, hdp, hwt, q⟩ := h
      have hr3 : Room (k + 3) _ := hr.mono (by omega)
      have xl := ha.len
      have xw := wt_len ds
      refine ⟨_, pss_cons (ps_par (i := 2) (j := 3) (by rfl) scBent.nd rfl rfl (by decide) rfl rfl (pa_cons (pe_call GD hr3 (by rfl) T.gD T.kD bD .nil pass0 (pa_cons (pv 0) (pa_cons (pe_op op_add (pe_callB call_len_seq (by rfl) T.len PySem.boot_len (pa_cons (pv 1) pa_nil)) pe_int) pa_nil)))
            (pa_cons (pe_call GD hr3 (by rfl) T.gD T.kD bD .nil pass0 (pa_cons (pv 0) (pa_cons pe_int pa_nil))) pa_nil)) (by rfl))
        (pss_cons (ps_if (pt_cmpR op_eq (pv 3) pe_int (nomark _)) (pss_one (ps_ret (pe_callTy call_tuple_of (by rfl) T.tup (by decide +kernel) (pa_cons (pv 1) pa_nil)))) pss_nil)
        (pss_cons (ps_if (pt_cmpR op_eq (pv 3) pe_int (nomark _)) (pss_one (ps_ret (pe_op op_cat (pe_slice sl_list (pv 1) po_none (po_some (pv 2))) (pe_slice sl_list (pv 1) (po_some (pe_op op_add (pv 2) pe_int)) po_none)))) pss_nil)
        (pss_cons (ps_if (pt_cmpR op_eq (pv 3) pe_int (nomark _)) (pss_one (ps_ret (pe_op op_cat (pe_op op_cat (pe_slice sl_list (pv 1) po_none (po_some (pv 2))) (pe_lst (pa_cons (pe_call GA hr3 (by rfl) T.gA T.kA bA .nil pass0 (pa_cons (pv 0) pa_nil)) pa_nil)))
            (pe_slice sl_list (pv 1) (po_some (pv 2)) po_none)))) pss_nil)
        (pss_cons (ps_if (PW.pt (pw_and (pt_cmpR op_lt (pv 2) (pe_callB call_len_seq (by rfl) T.len PySem.boot_len (pa_cons (pv 1) pa_nil)) (nomark _))
            (pw_and (pt_val (pe_callB call_isi (by rfl) T.isi (by decide +kernel) (pa_cons (pe_ix ix_list (pv 1) (pv 2) (fun _ _ => rfl)) (pa_cons (pe_bltn (v := .ty "list") (by rfl) T.list (by decide +kernel) rfl) pa_nil))))
            (pw_and1 (pt_cmpR op_gt (pv 3) pe_int (nomark _))))))
            (pss_one (ps_ret (pe_op op_cat (pe_op op_cat (pe_slice sl_list (pv 1) po_none (po_some (pv 2))) (pe_lst (pa_cons (pe_call ih (hr.mono (by omega)) (by rfl) T.gB T.kB bB .nil pass0 (pa_cons (pv 0) (pa_cons (pe_ix ix_list (pv 1) (pv 2) (fun _ _ => rfl)) pa_nil))) pa_nil)))
              (pe_slice sl_list (pv 1) (po_some (pe_op op_add (pv 2) pe_int)) po_none)))) pss_nil)
        (pss_one (ps_ret (pe_op op_cat (pe_op op_cat (pe_slice sl_list (pv 1) po_none (po_some (pv 2))) (pe_lst (pa_cons (pe_call GA hr3 (by rfl) T.gA T.kA bA .nil pass0 (pa_cons (pv 0) pa_nil)) pa_nil)))
            (pe_slice sl_list (pv 1) (po_some (pe_op op_add (pv 2) pe_int)) po_none)))))))), ?_⟩
      -- at, pick
      refine ⟨_, rfl, _, rfl, a, xs, rfl, .inl (.inl (.inl ea)), _, _, rfl, rfl, j, _, rfl, hj, by omega, by omega, fun H1 at_ hat b1 j1 => ?_⟩
      refine ⟨_, rfl, j, _, rfl, j1, by decide, by decide, fun H2 pick hp b2 j2 => ⟨_, _, rfl, ?_⟩⟩
      have b12 := b1.trans b2
      have nja := lst_not hj ea
      have ea2 : H2 a = some (.lst xs) := b12 _ _ nja ea
      have ha2 : DqAll H2 xs ds := ha.but hj b12
      have hal : at_ ≤ xs.length := by omega
      clear b1 b2 j1 hat
      have fs := fineA_self hsh
      refine ⟨_, rfl, rfl, _, rfl, ite2 (fun _ => ?_) (fun _ => ?_)⟩
      · -- tuple(thing)
        refine ⟨_, rfl, a, xs, rfl, .inl ⟨.inl (.inl ea2), fun l nl => ?_⟩⟩
        obtain ⟨t1, t2, t3⟩ := fs.tuple
        exact q _ _ (.tuple ds) (b12.trans (but_new nl)) (j2.same (same_new nl)) (.tup upd_same (ha2.same (same_new nl))) ⟨by omega, by omega, t3⟩
      refine ⟨_, rfl, rfl, _, rfl, ite2 (fun _ => ?_) (fun _ => ?_)⟩
      · -- one left out
        refine ⟨_, rfl, _, rfl, _, rfl, a, xs, rfl, .inl (.inl ea2), fun p1 n1 => ?_⟩
        rw [cut_hi hal]
        have s1 := same_new (o := .lst (xs.take at_)) n1
        refine ⟨_, rfl, _, rfl, _, _, rfl, rfl, _, rfl, a, xs, rfl, .inl (.inl (s1 _ _ ea2)), fun p2 n2 => ?_⟩
        rw [cut_lo1 hal]
        have s2 := same_new (o := .lst (xs.drop (at_ + 1))) n2
        refine ⟨p1, p2, _, _, rfl, rfl, s2 _ _ upd_same, upd_same, ?_, fun p3 n3 => ?_⟩
        · rw [List.length_take, List.length_drop, sizeLine_eq]
          omega
        have s3 := same_new (o := .lst (xs.take at_ ++ xs.drop (at_ + 1))) n3
        have s123 := (s1.trans s2).trans s3
        refine q _ _ (.list (ds.take at_ ++ ds.drop (at_ + 1))) (b12.trans (But.of s123)) (j2.same s123) (.lst upd_same (((ha2.same s123).take at_).app ((ha2.same s123).drop (at_ + 1)))) ?_
        refine bent_list (wtAll (ds.take at_) + wtAll (ds.drop (at_ + 1))) ?_ ?_
        · have h1 := wtAll_app (ds.take (at_ + 1)) (ds.drop (at_ + 1))
          have h2 := wtAll_take (ds.take (at_ + 1)) at_
          rw [List.take_append_drop] at h1
          rw [List.take_take, Nat.min_eq_left (by omega)] at h2
          omega
        · exact ((fineA_self (ds := ds.take at_) (fs.take at_).s).mono (Nat.le_refl _) (Nat.le_trans (fs.take at_).p (by omega))).app ((fineA_self (ds := ds.drop (at_ + 1)) (fs.drop (at_ + 1)).s).mono (Nat.le_refl _) (Nat.le_trans (fs.drop (at_ + 1)).p (by omega)))
      refine ⟨_, rfl, rfl, _, rfl, ite2 (fun _ => ?_) (fun _ => ?_)⟩
      · -- one put in
        refine ⟨_, rfl, _, rfl, _, rfl, a, xs, rfl, .inl (.inl ea2), fun p1 n1 => ?_⟩
        rw [cut_hi hal]
        have s1 := same_new (o := .lst (xs.take at_)) n1
        have x1 : (upd H2 p1 (.lst (xs.take at_))) p1 = some (.lst (xs.take at_)) := upd_same
        refine ⟨_, rfl, j, rfl, j2.same s1, fun H3 v d b3 j3 qd hf => ?_⟩
        have y1 : H3 p1 = some (.lst (xs.take at_)) := b3 _ _ (lst_not (j2.same s1) x1) x1
        have y0 : H3 a = some (.lst xs) := b3 _ _ (lst_not j2 ea2) (s1 _ _ ea2)
        have ya : DqAll H3 xs ds := ((ha2.same s1).but (j2.same s1) b3)
        refine ⟨by show 1 ≤ sizeLine; decide, fun p2 n2 => ?_⟩
        have s2 := same_new (o := .lst [v]) n2
        refine ⟨p1, p2, _, _, rfl, rfl, s2 _ _ y1, upd_same, ?_, fun p3 n3 => ?_⟩
        · rw [List.length_take, sizeLine_eq]
          show min at_ xs.length + 1 ≤ _
          omega
        have s3 := same_new (o := .lst (xs.take at_ ++ [v])) n3
        refine ⟨_, rfl, _, rfl, _, rfl, a, xs, rfl, .inl (.inl (s3 _ _ (s2 _ _ y0))), fun p4 n4 => ?_⟩
        rw [cut_lo hal]
        have s4 := same_new (o := .lst (xs.drop at_)) n4
        refine ⟨p3, p4, _, _, rfl, rfl, s4 _ _ upd_same, upd_same, ?_, fun p5 n5 => ?_⟩
        · rw [List.length_append, List.length_take, List.length_drop, sizeLine_eq]
          show min at_ xs.length + 1 + _ ≤ _
          omega
        have s5 := same_new (o := .lst (xs.take at_ ++ [v] ++ xs.drop at_)) n5
        have s25 := ((s2.trans s3).trans s4).trans s5
        refine q _ _ (.list (ds.take at_ ++ [d] ++ ds.drop at_)) (((b12.trans (But.of s1)).trans b3).trans (But.of s25)) (j3.same s25)
          (.lst upd_same ((((ya.same s25).take at_).app (.one (qd.same s25))).app ((ya.same s25).drop at_))) ?_
        refine bent_list (wtAll (ds.take at_) + (700 + 0) + wtAll (ds.drop at_)) ?_ ?_
        · have h1 := wtAll_app (ds.take at_) (ds.drop at_)
          rw [List.take_append_drop] at h1
          omega
        · exact (((fineA_self (ds := ds.take at_) (fs.take at_).s).mono (Nat.le_refl _) (Nat.le_trans (fs.take at_).p (by omega))).app (FineA.cons (hf.mono (Nat.le_refl 700) (by omega)) FineA.nil)).app ((fineA_self (ds := ds.drop at_) (fs.drop at_).s).mono (Nat.le_refl _) (Nat.le_trans (fs.drop at_).p (by omega)))
      have rest : tRet (tOp rCat (tOp rCat (tSl (rSlL K) (tVar 1) tNoPart (tPart (tVar 2))) (tLst (tCons (tCall spAny [] E0 (tCons (tVar 0) tNil)) tNil))) (tSl (rSlL K) (tVar 1) (tPart (tOp (rI0 fun i j => .int (i + j)) (tVar 2) (tC (.int 1)))) tNoPart))
          { nx := fun _ H' => Q .non H', rt := Q } [some (.ref j), some (.ref a), some (.int at_), some (.int pick)] H2 := by
        refine ⟨_, rfl, _, rfl, _, rfl, a, xs, rfl, .inl (.inl ea2), fun p1 n1 => ?_⟩
        rw [cut_hi hal]
        have s1 := same_new (o := .lst (xs.take at_)) n1
        have x1 : (upd H2 p1 (.lst (xs.take at_))) p1 = some (.lst (xs.take at_)) := upd_same
        refine ⟨_, rfl, j, rfl, j2.same s1, fun H3 v d b3 j3 qd hf => ?_⟩
        have y1 : H3 p1 = some (.lst (xs.take at_)) := b3 _ _ (lst_not (j2.same s1) x1) x1
        have y0 : H3 a = some (.lst xs) := b3 _ _ (lst_not j2 ea2) (s1 _ _ ea2)
        have ya : DqAll H3 xs ds := ((ha2.same s1).but (j2.same s1) b3)
        refine ⟨by show 1 ≤ sizeLine; decide, fun p2 n2 => ?_⟩
        have s2 := same_new (o := .lst [v]) n2
        refine ⟨p1, p2, _, _, rfl, rfl, s2 _ _ y1, upd_same, ?_, fun p3 n3 => ?_⟩
        · rw [List.length_take, sizeLine_eq]
          show min at_ xs.length + 1 ≤ _
          omega
        have s3 := same_new (o := .lst (xs.take at_ ++ [v])) n3
        refine ⟨_, rfl, _, rfl, _, _, rfl, rfl, _, rfl, a, xs, rfl, .inl (.inl (s3 _ _ (s2 _ _ y0))), fun p4 n4 => ?_⟩
        rw [cut_lo1 hal]
        have s4 := same_new (o := .lst (xs.drop (at_ + 1))) n4
        refine ⟨p3, p4, _, _, rfl, rfl, s4 _ _ upd_same, upd_same, ?_, fun p5 n5 => ?_⟩
        · rw [List.length_append, List.length_take, List.length_drop, sizeLine_eq]
          show min at_ xs.length + 1 + _ ≤ _
          omega
        have s5 := same_new (o := .lst (xs.take at_ ++ [v] ++ xs.drop (at_ + 1))) n5
        have s25 := ((s2.trans s3).trans s4).trans s5
        refine q _ _ (.list (ds.take at_ ++ [d] ++ ds.drop (at_ + 1))) (((b12.trans (But.of s1)).trans b3).trans (But.of s25)) (j3.same s25)
          (.lst upd_same ((((ya.same s25).take at_).app (.one (qd.same s25))).app ((ya.same s25).drop (at_ + 1)))) ?_
        refine bent_list (wtAll (ds.take at_) + (700 + 0) + wtAll (ds.drop (at_ + 1))) ?_ ?_
        · have h1 := wtAll_app (ds.take (at_ + 1)) (ds.drop (at_ + 1))
          have h2 := wtAll_take (ds.take (at_ + 1)) at_
          rw [List.take_append_drop] at h1
          rw [List.take_take, Nat.min_eq_left (by omega)] at h2
          omega
        · exact (((fineA_self (ds := ds.take at_) (fs.take at_).s).mono (Nat.le_refl _) (Nat.le_trans (fs.take at_).p (by omega))).app (FineA.cons (hf.mono (Nat.le_refl 700) (by omega)) FineA.nil)).app ((fineA_self (ds := ds.drop (at_ + 1)) (fs.drop (at_ + 1)).s).mono (Nat.le_refl _) (Nat.le_trans (fs.drop (at_ + 1)).p (by omega)))
      -- a part bent
      refine ⟨_, rfl, _, rfl, a, xs, rfl, .inl (.inl (.inl ea2)), _, _, rfl, rfl, _, rfl, ite2 (fun c => ?_) (fun c => iteF rest)⟩
      have hlt : at_ < xs.length := by
        have := of_decide_eq_true c
        omega
      have hx : xs[at_]? = some xs[at_] := List.getElem?_eq_getElem hlt
      obtain ⟨dx, hdi, hqx⟩ := ha2.at hx
      obtain ⟨t, ty, ki⟩ := hqx.tyL (K := K)
      have hfx := fs.at hdi
      refine ⟨_, rfl, _, rfl, a, xs, _, _, rfl, rfl, .inl (.inl ea2), atI_nat hx, _, .ty "list", _, _, _, rfl, .ty _, ty, ki, _, rfl, ite2 (fun c2 => ?_) (fun c2 => iteF rest)⟩
      refine ⟨_, rfl, _, _, rfl, rfl, _, rfl, ite2 (fun c3 => ?_) (fun c3 => rest)⟩
      · obtain ⟨b', xs', ds', exb, rfl, eb, hb⟩ := isL_shape hqx c2
        rw [exb] at hx
        have hpb := hfx.p
        have hwb := hfx.w
        have hsb := hfx.s
        rw [PyData.showable] at hsb
        refine ⟨_, rfl, _, rfl, _, rfl, a, xs, rfl, .inl (.inl ea2), fun p1 n1 => ?_⟩
        rw [cut_hi hal]
        have s1 := same_new (o := .lst (xs.take at_)) n1
        have x1 : (upd H2 p1 (.lst (xs.take at_))) p1 = some (.lst (xs.take at_)) := upd_same
        refine ⟨_, rfl, _, rfl, _, rfl, a, xs, _, _, rfl, rfl, .inl (.inl (s1 _ _ ea2)), atI_nat hx, j, b', xs', ds', rfl, j2.same s1, s1 _ _ eb, (hb.same s1), hsb, ?_, ?_, fun H3 v d b3 j3 qd hf => ?_⟩
        · rw [PyData.depth] at hpb
          omega
        · rw [wt] at hwb
          omega
        have y1 : H3 p1 = some (.lst (xs.take at_)) := b3 _ _ (lst_not (j2.same s1) x1) x1
        have y0 : H3 a = some (.lst xs) := b3 _ _ (lst_not j2 ea2) (s1 _ _ ea2)
        have ya : DqAll H3 xs ds := ((ha2.same s1).but (j2.same s1) b3)
        refine ⟨by show 1 ≤ sizeLine; decide, fun p2 n2 => ?_⟩
        have s2 := same_new (o := .lst [v]) n2
        refine ⟨p1, p2, _, _, rfl, rfl, s2 _ _ y1, upd_same, ?_, fun p3 n3 => ?_⟩
        · rw [List.length_take, sizeLine_eq]
          show min at_ xs.length + 1 ≤ _
          omega
        have s3 := same_new (o := .lst (xs.take at_ ++ [v])) n3
        refine ⟨_, rfl, _, rfl, _, _, rfl, rfl, _, rfl, a, xs, rfl, .inl (.inl (s3 _ _ (s2 _ _ y0))), fun p4 n4 => ?_⟩
        rw [cut_lo1 hal]
        have s4 := same_new (o := .lst (xs.drop (at_ + 1))) n4
        refine ⟨p3, p4, _, _, rfl, rfl, s4 _ _ upd_same, upd_same, ?_, fun p5 n5 => ?_⟩
        · rw [List.length_append, List.length_take, List.length_drop, sizeLine_eq]
          show min at_ xs.length + 1 + _ ≤ _
          omega
        have s5 := same_new (o := .lst (xs.take at_ ++ [v] ++ xs.drop (at_ + 1))) n5
        have s25 := ((s2.trans s3).trans s4).trans s5
        refine q _ _ (.list (ds.take at_ ++ [d] ++ ds.drop (at_ + 1))) (((b12.trans (But.of s1)).trans b3).trans (But.of s25)) (j3.same s25)
          (.lst upd_same ((((ya.same s25).take at_).app (.one (qd.same s25))).app ((ya.same s25).drop (at_ + 1)))) ?_
        refine bent_list (wtAll (ds.take at_) + ((wtAll ds' + 1000) + 0) + wtAll (ds.drop (at_ + 1))) ?_ ?_
        · have h1 := wt_parts hdi
          rw [wt] at h1
          omega
        · exact (((fineA_self (ds := ds.take at_) (fs.take at_).s).mono (Nat.le_refl _) (Nat.le_trans (fs.take at_).p (by omega))).app (FineA.cons ⟨hf.w, (by have := hf.p; rw [PyData.depth] at hpb; omega), hf.s⟩ FineA.nil)).app ((fineA_self (ds := ds.drop (at_ + 1)) (fs.drop (at_ + 1)).s).mono (Nat.le_refl _) (Nat.le_trans (fs.drop (at_ + 1)).p (by omega)))
end
end Bb
/-! the law itself -/
namespace Bb
open PySem PySem.Spec PyProof.Rows L2
theorem scRight : FnScope ["thing", "seen", "due", "told"] ["thing"] (defScope sRight) := ⟨rfl, rfl, rfl, by decide +kernel, rfl, by decide +kernel, by decide +kernel⟩
theorem scLaw : FnScope ["script", "start", "jar", "turn", "log", "step", "bent", "thing", "sign", "place"] ["script"] (defScope sLaw) := ⟨rfl, rfl, rfl, by decide +kernel, rfl, by decide +kernel, by decide +kernel⟩
/-- the eight readers and their places -/
structure Readers (P : Program) (w : World) (K : PySem.W.Frag) (mg : Str → Option Value) (base : Heap) (k : Nat) (fw fs fl fo gw gs gl go : Addr) (dw ds dl do_ ew es el eo : FuncData) : Prop where
  cw : FnOk P w K mg base CX0 k fw dw ["value"] (spTell lenOk (madeD chs))
  cs : FnOk P w K mg base CX0 k fs ds ["value"] (spTell lenOk (madeD shs))
  cl : FnOk P w K mg base CX0 k fl dl ["value"] (spTell wtOk lineD)
  co : FnOk P w K mg base CX0 k fo do_ ["value"] (spTell wtOk logD)
  cw' : FnOk P w K mg base CX0 k gw ew ["thing"] (spTell lenOk (madeD chs))
  cs' : FnOk P w K mg base CX0 k gs es ["thing"] (spTell wtOk (madeD shs))
  cl' : FnOk P w K mg base CX0 k gl el ["thing"] (spTell wtOk lineD)
  co' : FnOk P w K mg base CX0 k go eo ["thing"] (spTell wtOk logD)
  bw : Binds K dw ["value"] []
  bs : Binds K ds ["value"] []
  bl : Binds K dl ["value"] []
  bo : Binds K do_ ["value"] []
  bw' : Binds K ew ["thing"] []
  bs' : Binds K es ["thing"] []
  bl' : Binds K el ["thing"] []
  bo' : Binds K eo ["thing"] []
  kw : PySem.W.keepIn K (.ref fw) = true
  ks : PySem.W.keepIn K (.ref fs) = true
  kl : PySem.W.keepIn K (.ref fl) = true
  ko : PySem.W.keepIn K (.ref fo) = true
  kw' : PySem.W.keepIn K (.ref gw) = true
  ks' : PySem.W.keepIn K (.ref gs) = true
  kl' : PySem.W.keepIn K (.ref gl) = true
  ko' : PySem.W.keepIn K (.ref go) = true
  mw : mg "is_word" = some (.ref fw)
  ms : mg "is_shown" = some (.ref fs)
  ml : mg "is_line" = some (.ref fl)
  mo : mg "is_log" = some (.ref fo)
  mw' : mg "_law_word_due" = some (.ref gw)
  ms' : mg "_law_shown_due" = some (.ref gs)
  ml' : mg "_law_line_due" = some (.ref gl)
  mo' : mg "_law_log_due" = some (.ref go)
section
variable {P : Program} {w : World} {K : PySem.W.Frag} {mg : Str → Option Value} {base : Heap} {fw fs fl fo gw gs gl go : Addr} {dw ds dl do_ ew es el eo : FuncData}
def spRight : Sp := fun vs H Q _ => ∃ (v : V) (d : PyData), vs = [v] ∧ Dq H v d ∧ wt d ≤ 500000 ∧ d.depth ≤ 50 ∧ d.showable = true ∧ ∀ H', Same H H' → Q (.bl true) H'
theorem shown_ok {d : PyData} (h : wt d ≤ 500000) : d.shown.length ≤ 16777216 := by
  have := shown_wt d
  omega
def four (d : PyData) : PyData := .list [.bool (madeD chs d), .bool (madeD shs d), .bool (lineD d), .bool (logD d)]
theorem four_fine (d : PyData) : (four d).showable = true ∧ (four d).depth ≤ 60 ∧ (four d).shown.length ≤ 16777216 := by
  refine ⟨by simp [four, PyData.showable, PyData.showableAll], by simp [four, PyData.depth, PyData.depthAll], shown_ok ?_⟩
  simp [four, wt, wtAll]
theorem four_at {H : Hp} {p : Addr} {d : PyData} (h : H p = some (.lst [.bl (madeD chs d), .bl (madeD shs d), .bl (lineD d), .bl (logD d)])) : Dq H (.ref p) (four d) :=
  .lst h (.cons (.bl _) (.cons (.bl _) (.cons (.bl _) (.cons (.bl _) .nil))))
theorem ok_right {f : Addr} {fd : FuncData} {k : Nat} (F : Fun K "_law_right" "_law_right" sRight f fd) (R : Readers P w K mg base k fw fs fl fo gw gs gl go dw ds dl do_ ew es el eo) (mr : mg "repr" = none) : FnG P w K mg base CX0 (k + 1) f fd ["thing"] spRight := by
  refine okG F scRight (fun vs H Q E h => ?_) (fun cdv A outer s H vs Q E hg hr h => ?_)
  · obtain ⟨v, d, rfl, _⟩ := h
    rfl
  · obtain ⟨v, d, rfl, hd, hw, hp, hs, q⟩ := h
    have hu := hr.units
    have hw1 : wt d ≤ 1000000 := by omega
    refine ⟨_, pss_cons (ps_set (i := 1) scRight.nd rfl (.inl rfl) (pe_callB (call_reprD hg hu) (by rfl) mr (by decide +kernel) (pa_cons (pv 0) pa_nil)))
      (pss_cons (ps_set (i := 2) scRight.nd rfl (.inl rfl) (pe_lst (pa_cons (pe_call R.cw' hr (by rfl) R.mw' R.kw' R.bw' .nil pass0 (pa_cons (pv 0) pa_nil)) (pa_cons (pe_call R.cs' hr (by rfl) R.ms' R.ks' R.bs' .nil pass0 (pa_cons (pv 0) pa_nil))
        (pa_cons (pe_call R.cl' hr (by rfl) R.ml' R.kl' R.bl' .nil pass0 (pa_cons (pv 0) pa_nil)) (pa_cons (pe_call R.co' hr (by rfl) R.mo' R.ko' R.bo' .nil pass0 (pa_cons (pv 0) pa_nil)) pa_nil))))))
      (pss_cons (ps_set (i := 3) scRight.nd rfl (.inl rfl) (pe_lst (pa_cons (pe_call R.cw hr (by rfl) R.mw R.kw R.bw .nil pass0 (pa_cons (pv 0) pa_nil)) (pa_cons (pe_call R.cs hr (by rfl) R.ms R.ks R.bs .nil pass0 (pa_cons (pv 0) pa_nil))
        (pa_cons (pe_call R.cl hr (by rfl) R.ml R.kl R.bl .nil pass0 (pa_cons (pv 0) pa_nil)) (pa_cons (pe_call R.co hr (by rfl) R.mo R.ko R.bo .nil pass0 (pa_cons (pv 0) pa_nil)) pa_nil))))))
      (pss_one (ps_ret (pe_and (pe_cmpR op_eq (pe_callB (call_reprD hg hu) (by rfl) mr (by decide +kernel) (pa_cons (pv 3) pa_nil)) (pe_callB (call_reprD hg hu) (by rfl) mr (by decide +kernel) (pa_cons (pv 2) pa_nil)) (nomark _))
        (pe_one (pe_cmpR op_eq (pe_callB (call_reprD hg hu) (by rfl) mr (by decide +kernel) (pa_cons (pv 0) pa_nil)) (pv 1) (nomark _)))))))), ?_⟩
    refine ⟨_, rfl, v, d, rfl, hd, hs, by omega, shown_ok hw, ?_⟩
    refine ⟨_, rfl, v, d, rfl, hd, lenOk_of hw1, fun H1 s1 => ⟨_, rfl, v, d, rfl, hd.same s1, hw1, fun H2 s2 => ⟨_, rfl, v, d, rfl, hd.same (s1.trans s2), hw1, fun H3 s3 => ⟨_, rfl, v, d, rfl, hd.same ((s1.trans s2).trans s3), hw1, fun H4 s4 => ?_⟩⟩⟩⟩
    have s14 := ((s1.trans s2).trans s3).trans s4
    refine ⟨by show 4 ≤ sizeLine; decide, fun p np => ?_⟩
    have s5 := same_new (o := .lst [.bl (madeD chs d), .bl (madeD shs d), .bl (lineD d), .bl (logD d)]) np
    have e5 : (upd H4 p (.lst [.bl (madeD chs d), .bl (madeD shs d), .bl (lineD d), .bl (logD d)])) p = some (.lst [.bl (madeD chs d), .bl (madeD shs d), .bl (lineD d), .bl (logD d)]) := upd_same
    refine ⟨_, rfl, v, d, rfl, hd.same (s14.trans s5), lenOk_of hw1, fun H6 s6 => ⟨_, rfl, v, d, rfl, hd.same ((s14.trans s5).trans s6), lenOk_of hw1, fun H7 s7 => ⟨_, rfl, v, d, rfl, hd.same (((s14.trans s5).trans s6).trans s7), hw1,
      fun H8 s8 => ⟨_, rfl, v, d, rfl, hd.same ((((s14.trans s5).trans s6).trans s7).trans s8), hw1, fun H9 s9 => ?_⟩⟩⟩⟩
    have s69 := ((s6.trans s7).trans s8).trans s9
    refine ⟨by show 4 ≤ sizeLine; decide, fun p2 np2 => ?_⟩
    have s10 := same_new (o := .lst [.bl (madeD chs d), .bl (madeD shs d), .bl (lineD d), .bl (logD d)]) np2
    have all := ((s14.trans s5).trans s69).trans s10
    obtain ⟨f1, f2, f3⟩ := four_fine d
    refine ⟨_, rfl, .ref p2, four d, rfl, four_at upd_same, f1, f2, f3, _, rfl, .ref p, four d, rfl, four_at (s10 _ _ (s69 _ _ e5)), f1, f2, f3, rfl, ?_⟩
    rw [decide_eq_true rfl]
    refine ⟨true, rfl, iteT ⟨_, rfl, v, d, rfl, hd.same all, hs, by omega, shown_ok hw, _, rfl, rfl, ?_⟩⟩
    rw [decide_eq_true rfl]
    exact q _ all
end
end Bb
/-! the law's loops -/
namespace Bb
open PySem PySem.Spec PyProof.Rows L2
/-! ### all but one list -/
def wo (H : Hp) (L : Addr) : Hp := fun b => if b = L then none else H b
section
variable {H H' : Hp} {L j p : Addr} {o : HO}
theorem wo_ne (h : p ≠ L) : wo H L p = H p := by
  unfold wo
  rw [if_neg h]
theorem wo_some {b : Addr} {o : HO} (h : wo H L b = some o) : b ≠ L ∧ H b = some o := by
  unfold wo at h
  by_cases e : b = L
  · rw [if_pos e] at h
    cases h
  · rw [if_neg e] at h
    exact ⟨e, h⟩
theorem wo_upd : wo (upd H L o) L = wo H L := by
  funext b
  unfold wo
  by_cases e : b = L
  · rw [if_pos e, if_pos e]
  · rw [if_neg e, if_neg e, upd_ne e]
theorem wo_sub : Same (wo H L) H := fun b o h => (wo_some h).2
theorem wo_but (h : But j H H') : But j (wo H L) (wo H' L) := fun b o n q => by
  obtain ⟨h1, h2⟩ := wo_some q
  rw [wo_ne h1]
  exact h b o n h2
theorem wo_jar (n : j ≠ L) (h : Jar H j) : Jar (wo H L) j := by
  obtain ⟨D, M, hj, r⟩ := h
  exact ⟨D, M, by rw [wo_ne n]; exact hj, r⟩
theorem same_but {H1 : Hp} (s : Same H H1) (n : H j = none) (b : But j H1 H') : Same H H' := fun c o h => b c o (ne_of_none h n) (s c o h)
theorem but_mut (b : But j H H') (n : H p = none) : But j H (upd H' p o) := fun c u m h => by
  rw [upd_ne (ne_of_none h n)]
  exact b c u m h
theorem Jar.put (h : Jar H j) (n : j ≠ p) : Jar (upd H p o) j := by
  obtain ⟨D, M, hj, r⟩ := h
  exact ⟨D, M, by rw [upd_ne n]; exact hj, r⟩
end
/-! ### lines of drawn words -/
def words4 : List Str := ["a", "user-", "7", manyS 40 "a"]
theorem words4_fine : ∀ x ∈ words4, wt (.str x) ≤ 95 := by decide +kernel
theorem dq_strs (H : Hp) : ∀ ws : List Str, DqAll H (ws.map V.str) (ws.map PyData.str)
  | [] => .nil
  | x :: r => .cons (.str x) (dq_strs H r)
theorem strs_fine : ∀ ws : List Str, (∀ x ∈ ws, x ∈ words4) → FineA (95 * ws.length) 0 (ws.map PyData.str)
  | [], _ => FineA.nil
  | x :: r, h => by
    have h1 : Fine 95 0 (.str x) := ⟨words4_fine x (h x (List.mem_cons_self ..)), by simp [PyData.depth], by simp [PyData.showable]⟩
    have h2 := FineA.cons h1 (strs_fine r fun y hy => h y (List.mem_cons_of_mem _ hy))
    exact h2.mono (by rw [List.length_cons]; omega) (Nat.le_refl _)
theorem line_fine {ws : List Str} (h : ∀ x ∈ ws, x ∈ words4) (hl : ws.length ≤ 3) : Fine 300 1 (.list (ws.map PyData.str)) := (strs_fine ws h).list.mono (by omega) (Nat.le_refl _)
theorem FineA.one {n m : Nat} {d : PyData} (h : Fine n m d) : FineA n m [d] := (FineA.cons h (FineA.nil (n := 0))).mono (Nat.le_refl _) (Nat.le_refl _)
theorem Bent.fine {ds : List PyData} {d : PyData} (h : Bent ds d) (w : wtAll ds ≤ 900) (p : PyData.depthAll ds ≤ 1) : Fine 2000 7 d := ⟨by have := h.w; omega, by have := h.p; omega, h.s⟩
/-! ### signs -/
def sg1 : Str := "abcdefghijklmnopqrstuvwxyz0123456789-"
def sg2 : Str := " !\"#$&'()+,./:;<=>?@ABCDEFGHIJKLMNOPQRSTUVWXYZ[\\]^_`{|}~\n\t"
def one (c : Nat) : Str := ⟨#[c]⟩
theorem sg1_ok : ∀ c ∈ sg1.cps.toList, madeS chs (one c) = true ∧ madeS chs (("ab" : Str) ++ one c ++ ("7" : Str)) = true ∧ madeS shs (("*" : Str) ++ one c) = true := by decide +kernel
theorem sg2_ok : ∀ c ∈ sg2.cps.toList, madeS chs (one c) = false ∧ madeS chs (("a" : Str) ++ one c ++ ("b" : Str)) = false ∧ madeS shs (("*" : Str) ++ one c) = false ∧ madeS chs (("a" : Str) ++ one c) = false ∧ wt (.list [.str (("a" : Str) ++ one c)]) ≤ 1000 := by decide +kernel
theorem lenOk_str {x : Str} (h : x.length ≤ 2000000) : lenOk (.str x) := by
  rintro y hy
  cases hy
  exact h
def two : PyData := .list [.str "a"]
def lots : List PyData := (List.replicate 40 [PyData.list [.str "a"], .list []]).flatten
theorem lots_ok : wt (.list lots) ≤ 100000 ∧ logD (.list lots) = true := by decide +kernel
theorem fifty_ok : wt (.list (List.replicate 51 (.str "a"))) ≤ 100000 ∧ lineD (.list (List.replicate 51 (.str "a"))) = true := by decide +kernel
theorem dq_rep {H : Hp} {xs : List V} {ds : List PyData} (h : DqAll H xs ds) : ∀ n : Nat, DqAll H (List.replicate n xs).flatten (List.replicate n ds).flatten
  | 0 => .nil
  | n + 1 => by
    rw [List.replicate_succ, List.replicate_succ, List.flatten_cons, List.flatten_cons]
    exact h.app (dq_rep h n)
structure TL (mg : Str → Option Value) : Prop where
  range : mg "range" = none
  max : mg "max" = none
  min : mg "min" = none
  len : mg "len" = none
  isi : mg "isinstance" = none
  list : mg "list" = none
structure Helpers (P : Program) (w : World) (K : PySem.W.Frag) (mg : Str → Option Value) (base : Heap) (k : Nat) (fJ fD fC fA fB fR : Addr) (dJ dD dC dA dB dR : FuncData) : Prop where
  gJ : FnOk P w K mg base CX0 k fJ dJ ["script", "start"] (spJar K)
  gD : FnOk P w K mg base CX0 k fD dD ["jar", "many"] spDraw
  gC : FnOk P w K mg base CX0 k fC dC ["jar", "things"] (spChoose K)
  gA : FnOk P w K mg base CX0 k fA dA ["jar"] spAny
  gB : FnOk P w K mg base CX0 k fB dB ["jar", "thing"] (spBent 20)
  gR : FnG P w K mg base CX0 k fR dR ["thing"] spRight
  bJ : Binds K dJ ["script", "start"] []
  bD : Binds K dD ["jar", "many"] []
  bC : Binds K dC ["jar", "things"] []
  bA : Binds K dA ["jar"] []
  bB : Binds K dB ["jar", "thing"] []
  bR : Binds K dR ["thing"] []
  kJ : PySem.W.keepIn K (.ref fJ) = true
  kD : PySem.W.keepIn K (.ref fD) = true
  kC : PySem.W.keepIn K (.ref fC) = true
  kA : PySem.W.keepIn K (.ref fA) = true
  kB : PySem.W.keepIn K (.ref fB) = true
  kR : PySem.W.keepIn K (.ref fR) = true
  mJ : mg "_law_jar" = some (.ref fJ)
  mD : mg "_law_draw" = some (.ref fD)
  mC : mg "_law_choose" = some (.ref fC)
  mA : mg "_law_any" = some (.ref fA)
  mB : mg "_law_bent" = some (.ref fB)
  mR : mg "_law_right" = some (.ref fR)
section
variable {P : Program} {w : World} {K : PySem.W.Frag} {mg : Str → Option Value} {base : Heap} {fw fs fl fo gw gs gl go : Addr} {dw ds dl do_ ew es el eo : FuncData} {fJ fD fC fA fB fR : Addr} {dJ dD dC dA dB dR : FuncData}
def spLaw (K : PySem.W.Frag) : Sp := fun vs H Q _ => ∃ (a : Addr) (ns : List Int), vs = [.ref a] ∧ SqL K H a (ns.map V.int) ∧ ns.length ≤ 63 ∧ (∀ z ∈ ns, Builtin.Int.intBits z ≤ 1048576) ∧ ∀ H', Q (.bl true) H'
set_option maxHeartbeats 8000000 in
theorem ok_law {f : Addr} {fd : FuncData} {k : Nat} (F : Fun K "law" "law" sLaw f fd) (R : Readers P w K mg base k fw fs fl fo gw gs gl go dw ds dl do_ ew es el eo) (G : Helpers P w K mg base k fJ fD fC fA fB fR dJ dD dC dA dB dR) (T : TL mg) :
    FnG P w K mg base CX0 (k + 1) f fd ["script"] (spLaw K) := by
  refine okG F scLaw (fun vs H Q E h => ?_) (fun cdv A outer s H vs Q E hg hr h => ?_)
  · obtain ⟨a, ns, rfl, _⟩ := h
    rfl
  · obtain ⟨a, ns, rfl, hS, hlen, hbits, q⟩ := h
    refine ⟨_, pss_cons (ps_for PassesOwn.never rfl (pi_range1 (by rfl) T.range (pa_cons (pe_callB (call_max2 rfl) (by rfl) T.max (by decide +kernel) (pa_cons pe_int (pa_cons (pe_callB (call_min2 rfl) (by rfl) T.min (by decide +kernel)
          (pa_cons pe_int (pa_cons (pe_callB call_len_seq (by rfl) T.len PySem.boot_len (pa_cons (pv 0) pa_nil)) pa_nil))) pa_nil))) pa_nil)) (pg_name (i := 1) scLaw.nd rfl (.inl rfl))
        (pss_cons (ps_set (i := 2) scLaw.nd rfl (.inr rfl) (pe_call G.gJ hr (by rfl) G.mJ G.kJ G.bJ .nil pass0 (pa_cons (pv 0) (pa_cons (pv 1) pa_nil))))
        (pss_one (ps_for PassesOwn.never rfl (pi_range1 (by rfl) T.range (pa_cons pe_int pa_nil)) (pg_name (i := 3) scLaw.nd rfl (.inl rfl))
          (pss_cons (ps_set (i := 4) scLaw.nd rfl (.inl rfl) (pe_lst pa_nil))
          (pss_cons (ps_for PassesOwn.never rfl (pi_range1 (by rfl) T.range (pa_cons (pe_call G.gD hr (by rfl) G.mD G.kD G.bD .nil pass0 (pa_cons (pv 2) (pa_cons pe_int pa_nil))) pa_nil)) (pg_name (i := 5) scLaw.nd rfl (.inl rfl))
            (pss_one (ps_expr (pe_bm PySem.F.plainAttrs_list PySem.F.slot_list_append PySem.F.type_list_append mt_append (pv 4) (pa_cons
              (pe_lc (own := [("place", 9)]) (g := gName 9) (tt := tYes) rfl scLaw.nd (pi_range1 (by rfl) T.range (pa_cons (pe_call G.gD hr (by rfl) G.mD G.kD G.bD .nil pass0 (pa_cons (pv 2) (pa_cons pe_int pa_nil))) pa_nil))
                (blkOk_by (own := [("place", 9)]) (N := ["script", "start", "jar", "turn", "log", "step", "bent", "thing", "sign", "place"]) (sc := defScope sLaw) (by decide +kernel)) (fun _ _ _ _ _ => pg_name (i := 9) scLaw.nd rfl (Or.inl rfl)) (fun _ _ _ _ _ => pts_nil)
                (fun _ _ _ _ _ => pe_call G.gC hr (by rfl) G.mC G.kC G.bC .nil pass0 (pa_cons (pv 2) (pa_cons (pe_lst (pa_cons pe_str (pa_cons pe_str (pa_cons pe_str (pa_cons (pe_op op_mulS pe_str pe_int) pa_nil))))) pa_nil)))) pa_nil)))))
          (pss_cons (ps_set (i := 6) scLaw.nd rfl (.inl rfl) (pe_call G.gB hr (by rfl) G.mB G.kB G.bB .nil pass0 (pa_cons (pv 2) (pa_cons (pv 4) pa_nil))))
          (pss_cons (ps_for PassesOwn.never rfl (pi_list (pe_lst (pa_cons (pv 4) (pa_cons (pv 6) (pa_cons (pe_call G.gB hr (by rfl) G.mB G.kB G.bB .nil pass0 (pa_cons (pv 2) (pa_cons (pv 4) pa_nil))) (pa_cons (pe_call G.gA hr (by rfl) G.mA G.kA G.bA .nil pass0 (pa_cons (pv 2) pa_nil))
              (pa_cons (pe_lst (pa_cons pe_str pa_nil)) (pa_cons (pe_lst (pa_cons (pe_lst (pa_cons pe_str (pa_cons pe_str pa_nil))) (pa_cons (pe_lst (pa_cons pe_str pa_nil)) pa_nil))) pa_nil)))))))) (pg_name (i := 7) scLaw.nd rfl (.inl rfl))
            (pss_one (ps_if (pt_not (pt_val (pe_callG G.gR hg hr (by rfl) G.mR G.kR G.bR .nil pass0 (pa_cons (pv 7) pa_nil)))) (pss_one (ps_ret pe_bl)) pss_nil)))
          (pss_one (ps_if (PW.pt (pw_and (pt_val (pe_callB call_isi (by rfl) T.isi (by decide +kernel) (pa_cons (pv 6) (pa_cons (pe_bltn (v := .ty "list") (by rfl) T.list (by decide +kernel) rfl) pa_nil))))
              (pw_and1 (pt_not (pt_val (pe_callG G.gR hg hr (by rfl) G.mR G.kR G.bR .nil pass0 (pa_cons (pe_call G.gB hr (by rfl) G.mB G.kB G.bB .nil pass0 (pa_cons (pv 2) (pa_cons (pv 6) pa_nil))) pa_nil)))))))
            (pss_one (ps_ret pe_bl)) pss_nil))))))))))
      (pss_cons (ps_for PassesOwn.never rfl (pi_str pe_str) (pg_name (i := 8) scLaw.nd rfl (.inl rfl))
        (pss_one (ps_if (PW.pt (pw_or (pt_not (pt_val (pe_call R.cw hr (by rfl) R.mw R.kw R.bw .nil pass0 (pa_cons (pv 8) pa_nil)))) (pw_or (pt_not (pt_val (pe_call R.cw hr (by rfl) R.mw R.kw R.bw .nil pass0 (pa_cons (pe_op op_add_str (pe_op op_add_str pe_str (pv 8)) pe_str) pa_nil))))
            (pw_or1 (pt_not (pt_val (pe_call R.cs hr (by rfl) R.ms R.ks R.bs .nil pass0 (pa_cons (pe_op op_add_str pe_str (pv 8)) pa_nil)))))))) (pss_one (ps_ret pe_bl)) pss_nil)))
      (pss_cons (ps_for PassesOwn.never rfl (pi_str pe_str) (pg_name (i := 8) scLaw.nd rfl (.inl rfl))
        (pss_one (ps_if (PW.pt (pw_or (pt_val (pe_call R.cw hr (by rfl) R.mw R.kw R.bw .nil pass0 (pa_cons (pv 8) pa_nil))) (pw_or (pt_val (pe_call R.cw hr (by rfl) R.mw R.kw R.bw .nil pass0 (pa_cons (pe_op op_add_str (pe_op op_add_str pe_str (pv 8)) pe_str) pa_nil)))
            (pw_or (pt_val (pe_call R.cs hr (by rfl) R.ms R.ks R.bs .nil pass0 (pa_cons (pe_op op_add_str pe_str (pv 8)) pa_nil))) (pw_or1 (pt_val (pe_call R.cl hr (by rfl) R.ml R.kl R.bl .nil pass0 (pa_cons (pe_lst (pa_cons (pe_op op_add_str pe_str (pv 8)) pa_nil)) pa_nil)))))))) (pss_one (ps_ret pe_bl)) pss_nil)))
      (pss_cons (ps_if (PW.pt (pw_or (pt_cmpR op_isnot_bl (pe_call R.cl hr (by rfl) R.ml R.kl R.bl .nil pass0 (pa_cons (pe_op op_rep (pe_lst (pa_cons pe_str pa_nil)) pe_int) pa_nil)) pe_bl (nomark _))
          (pw_or1 (pt_cmpR op_isnot_bl (pe_call R.co hr (by rfl) R.mo R.ko R.bo .nil pass0 (pa_cons (pe_op op_rep (pe_lst (pa_cons (pe_lst (pa_cons pe_str pa_nil)) (pa_cons (pe_lst pa_nil) pa_nil))) pe_int) pa_nil)) pe_bl (nomark _))))) (pss_one (ps_ret pe_bl)) pss_nil)
      (pss_one (ps_ret (pe_and (pe_cmpR op_is_bl (pe_call R.cw hr (by rfl) R.mw R.kw R.bw .nil pass0 (pa_cons pe_str pa_nil)) pe_bl (nomark _)) (pe_and (pe_cmpR op_is_bl (pe_call R.cs hr (by rfl) R.ms R.ks R.bs .nil pass0 (pa_cons pe_str pa_nil)) pe_bl (nomark _))
        (pe_and (pe_cmpR op_is_bl (pe_call R.co hr (by rfl) R.mo R.ko R.bo .nil pass0 (pa_cons (pe_lst pa_nil) pa_nil)) pe_bl (nomark _)) (pe_one (pe_cmpR op_is_bl (pe_call R.cl hr (by rfl) R.ml R.kl R.bl .nil pass0 (pa_cons (pe_lst pa_nil) pa_nil)) pe_bl (nomark _))))))))))), ?_⟩
    refine ⟨_, rfl, a, _, rfl, .inl hS, _, _, rfl, _, _, rfl, _, rfl, ?_, ?_, ?_⟩
    · split <;> (try split) <;> omega
    · split <;> (try split) <;> omega
    have hN : (if (if (((ns.map V.int).length : Nat) : Int) < 5 then (((ns.map V.int).length : Nat) : Int) else 5) > 2 then (if (((ns.map V.int).length : Nat) : Int) < 5 then (((ns.map V.int).length : Nat) : Int) else 5) else (2 : Int)).toNat ≤ 5 := by
      split <;> (try split) <;> omega
    refine for_range (lo := 0) (fun i σ H2 => ∃ y1 y2 y3 y4 y5 y6 y7 y8 y9, σ = [some (.ref a), y1, y2, y3, y4, y5, y6, y7, y8, y9] ∧ Same H H2) ⟨none, none, none, none, none, none, none, none, none, rfl, Same.refl H⟩ ?_ ?_
    · -- a start
      rintro st σ H2 hst ⟨y1, y2, y3, y4, y5, y6, y7, y8, y9, rfl, sm⟩
      refine ⟨_, rfl, _, rfl, a, ns, st, by rw [Int.zero_add]; rfl, sm.seq hS, hlen, hbits, by omega, fun H3 j nj sm3 jj => ?_⟩
      have nj0 : H j = none := sm.free nj
      have sm3' := sm.trans sm3
      refine ⟨_, rfl, by decide, by decide, for_range (lo := 0) (n := 8) (fun i σ H' => ∃ y3 y4 y5 y6 y7 y8 y9, σ = [some (.ref a), some (.int (0 + (st : Int))), some (.ref j), y3, y4, y5, y6, y7, y8, y9] ∧ Same H H' ∧ Jar H' j)
        ⟨y3, y4, y5, y6, y7, y8, y9, rfl, sm3', jj⟩ ?_ (fun σ H' ⟨y3, y4, y5, y6, y7, y8, y9, e, s4, _⟩ => ⟨_, _, _, _, _, _, _, _, _, e, s4⟩)⟩
      rintro tn σ H4 htn ⟨y3, y4, y5, y6, y7, y8, y9, rfl, sm4, j4⟩
      -- log = []
      refine ⟨Nat.zero_le _, fun L nL => ?_⟩
      have nL0 : H L = none := sm4.free nL
      have njL : j ≠ L := j4.some nL
      have s5 := same_new (o := .lst []) nL
      -- the lines
      refine ⟨_, rfl, j, _, rfl, j4.same s5, by decide, by decide, fun H5 r hr4 b5 j5 => ⟨_, rfl, by omega, by omega, ?_⟩⟩
      have e5 : H5 L = some (.lst []) := b5 _ _ njL.symm upd_same
      have sm5 : Same H H5 := same_but (sm4.trans s5) nj0 b5
      refine for_range (lo := 0) (fun i σ H' => ∃ y5 y6 y7 y8 y9, σ = [some (.ref a), some (.int (0 + (st : Int))), some (.ref j), some (.int (0 + (tn : Int))), some (.ref L), y5, y6, y7, y8, y9] ∧ Same H H' ∧ Jar H' j ∧
        ∃ xs ds, H' L = some (.lst xs) ∧ DqAll (wo H' L) xs ds ∧ FineA (300 * i) 1 ds) ⟨y5, y6, y7, y8, y9, rfl, sm5, j5, [], [], e5, .nil, FineA.nil⟩ ?_ ?_
      · rintro i σ H6 hi ⟨y5, y6, y7, y8, y9, rfl, sm6, j6, xs, ds, e6, q6, f6⟩
        refine ⟨_, rfl, .inl ⟨rfl, _, .inl (.inl e6)⟩, ?_⟩
        refine ⟨_, rfl, j, _, rfl, j6, by decide, by decide, fun H7 r2 hr2 b7 j7 => ⟨_, rfl, by omega, by omega, fun D nD => ?_⟩⟩
        have e7 : H7 L = some (.lst xs) := b7 _ _ njL.symm e6
        have nDL : D ≠ L := (ne_of_none e7 nD).symm
        have njD : j ≠ D := j7.some nD
        have sm7 : Same H H7 := same_but sm6 nj0 b7
        have nD0 : H D = none := sm7.free nD
        refine lc_range (lo := 0) (fun i H' => But j H7 H' ∧ Jar H' j ∧ ∃ ws : List Str, H' D = some (.lst (ws.map V.str)) ∧ ws.length = i ∧ ∀ x ∈ ws, x ∈ words4) ⟨but_new nD, j7.same (same_new nD), [], upd_same, rfl, fun _ z => nomatch z⟩ ?_ ?_
        · rintro m H8 hm ⟨b8, j8, ws, e8, l8, w8⟩
          refine ⟨rfl, _, rfl, ?_⟩
          refine ed_lst (ds := words4.map PyData.str) (ed_cons ed_str (ed_cons ed_str (ed_cons ed_str (ed_cons (ed_many (by decide) (by decide) (by decide +kernel) (by decide +kernel)) ed_nil)))) (by decide) H8 _ ?_
          intro v9 H9 s9 q9
          cases q9 with
          | lst e9 a9 =>
            rename_i p9 xs9
            have l9 : xs9.length = 4 := a9.len
            refine ⟨j, p9, xs9, rfl, j8.same s9, .inl (.inl e9), lst_not (j8.same s9) e9, by omega, by omega, fun H10 x hx b10 j10 => ?_⟩
            obtain ⟨d, hd, qd⟩ := a9.mem hx
            obtain ⟨u, hu, rfl⟩ := List.mem_map.mp hd
            cases qd
            refine ⟨_, b10 _ _ njD.symm (s9 _ _ e8), ?_, ?_⟩
            · rw [List.length_map, sizeLine_eq]
              omega
            · refine ⟨but_mut ((b8.trans (But.of s9)).trans b10) nD, j10.put njD, ws ++ [u], ?_, ?_, ?_⟩
              · rw [upd_same, List.map_append]
                rfl
              · rw [List.length_append, l8]
                rfl
              · intro x hx
                rcases List.mem_append.mp hx with z | z
                · exact w8 x z
                · rw [List.mem_singleton.mp z]
                  exact hu
        · rintro H8 ⟨b8, j8, ws, e8, l8, w8⟩
          have e8L : H8 L = some (.lst xs) := b8 _ _ njL.symm e7
          have hx := q6.len
          have hw6 := f6.len
          refine ⟨L, _, _, rfl, rfl, e8L, by rw [sizeLine_eq]; omega, ?_⟩
          have sm8 : Same H H8 := same_but sm7 nj0 b8
          refine ⟨_, y6, y7, y8, y9, rfl, same_mut sm8 nL0, j8.put njL, xs ++ [.ref D], ds ++ [.list (ws.map PyData.str)], upd_same, ?_, ?_⟩
          · rw [wo_upd]
            exact (q6.but (wo_jar njL j6) (wo_but (b7.trans b8))).app (.one (.lst (by rw [wo_ne nDL]; exact e8) (dq_strs _ ws)))
          · exact (f6.app (FineA.one (line_fine w8 (by omega)))).mono (by omega) (Nat.le_refl _)
      · rintro σ H6 ⟨y5, y6, y7, y8, y9, rfl, sm6, j6, xs, ds, e6, q6w, f6⟩
        have q6 : DqAll H6 xs ds := q6w.same wo_sub
        have w6 : wtAll ds ≤ 900 := Nat.le_trans f6.w (by omega)
        have p6 := f6.p
        -- bent
        refine ⟨_, rfl, _, rfl, j, L, xs, ds, rfl, j6, e6, q6, f6.s, by omega, by omega, fun H7 vb db b7 j7 qb fb => ?_⟩
        have sm7 : Same H H7 := same_but sm6 nj0 b7
        have fine6 : Fine 2000 7 (.list ds) := (⟨w6, p6, f6.s⟩ : FineA 900 1 ds).list.mono (by omega) (by omega)
        -- the six
        refine ⟨_, rfl, _, rfl, _, rfl, _, rfl, j, L, xs, ds, rfl, j7, b7 _ _ njL.symm e6, q6.but j6 b7, f6.s, by omega, by omega, fun H8 v3 d3 b8 j8 q8 fb3 => ?_⟩
        refine ⟨_, rfl, j, rfl, j8, fun H9 v4 d4 b9 j9 q9 f9 => ?_⟩
        refine ed_lst (ds := [.str "a"]) (ed_cons ed_str ed_nil) (by decide) H9 _ fun v5 H10 s10 q10 => ?_
        refine ed_lst (ds := [.list [.str "a", .str "b"], .list [.str "7"]]) (ed_cons (ed_lst (ed_cons ed_str (ed_cons ed_str ed_nil)) (by decide)) (ed_cons (ed_lst (ed_cons ed_str ed_nil) (by decide)) ed_nil)) (by decide) H10 _ fun v6 H11 s11 q11 => ?_
        refine ⟨by show 6 ≤ sizeLine; decide, fun p np => ?_⟩
        have s12 := same_new (o := .lst [.ref L, vb, v3, v4, v5, v6]) np
        have s9 := (s10.trans s11).trans s12
        have b79 : But j H7 (upd H11 p (.lst [.ref L, vb, v3, v4, v5, v6])) := (b8.trans b9).trans (But.of s9)
        have six : DqAll (upd H11 p (.lst [.ref L, vb, v3, v4, v5, v6])) [.ref L, vb, v3, v4, v5, v6] [.list ds, db, d3, d4, .list [.str "a"], .list [.list [.str "a", .str "b"], .list [.str "7"]]] :=
          .cons (Dq.but j6 (b7.trans b79) (.lst e6 q6)) (.cons (qb.but j7 b79) (.cons (q8.but j8 (b9.trans (But.of s9))) (.cons (q9.same s9) (.cons (q10.same (s11.trans s12)) (.cons (q11.same s12) .nil)))))
        have fines : ∀ d ∈ [PyData.list ds, db, d3, d4, .list [.str "a"], .list [.list [.str "a", .str "b"], .list [.str "7"]]], Fine 2000 7 d := by
          intro d hd
          simp only [List.mem_cons, List.not_mem_nil, or_false] at hd
          rcases hd with rfl | rfl | rfl | rfl | rfl | rfl
          · exact fine6
          · exact fb.fine w6 p6
          · exact fb3.fine w6 p6
          · exact f9.mono (by decide) (by decide)
          · exact ⟨by decide +kernel, by decide, by decide⟩
          · exact ⟨by decide +kernel, by decide, by decide⟩
        have e12 : (upd H11 p (.lst [.ref L, vb, v3, v4, v5, v6])) p = some (.lst [.ref L, vb, v3, v4, v5, v6]) := upd_same
        have sm12 : Same H (upd H11 p (.lst [.ref L, vb, v3, v4, v5, v6])) := same_but sm7 nj0 b79
        have j12 : Jar (upd H11 p (.lst [.ref L, vb, v3, v4, v5, v6])) j := j9.same s9
        generalize upd H11 p (.lst [.ref L, vb, v3, v4, v5, v6]) = H12 at six e12 sm12 j12 b79
        refine ⟨p, rfl, ⟨_, .inl (.inl e12)⟩, for_list (K := K) (a := p) (xs := [.ref L, vb, v3, v4, v5, v6]) (fun i σ H' => ∃ y7 y8 y9, σ = [some (.ref a), some (.int (0 + (st : Int))), some (.ref j), some (.int (0 + (tn : Int))), some (.ref L), y5, some vb, y7, y8, y9] ∧ Same H12 H')
          ⟨y7, y8, y9, rfl, Same.refl _⟩ (fun i σ H' _ ⟨_, _, _, _, s⟩ => s.seq (.inl (.inl e12))) ?_ ?_⟩
        · rintro i x σ H' hi ⟨y7, y8, y9, rfl, s⟩
          obtain ⟨d, hd, qd⟩ := six.at hi
          have fd := fines d (List.mem_of_getElem? hd)
          refine ⟨_, rfl, x, d, rfl, qd.same s, Nat.le_trans fd.w (by decide), Nat.le_trans fd.p (by decide), fd.s, fun H'' s2 => ⟨_, rfl, iteF ⟨_, y8, y9, rfl, s.trans s2⟩⟩⟩
        · rintro σ H' ⟨y7, y8, y9, rfl, s⟩
          have smE : Same H H' := sm12.trans s
          have jE : Jar H' j := j12.same s
          have qE : Dq H' vb db := (qb.but j7 b79).same s
          obtain ⟨t, ty, ki⟩ := qE.tyL (K := K)
          refine ⟨_, rfl, vb, .ty "list", _, _, _, rfl, .ty _, ty, ki, _, rfl, ite2 (fun c => ?_) (fun c => iteF ⟨_, _, _, _, _, _, _, rfl, smE, jE⟩)⟩
          obtain ⟨b', xs', ds', rfl, rfl, eb, hb⟩ := isL_shape qE c
          have wb := fb.w
          have pb := fb.p
          have sb := fb.s
          rw [wt] at wb
          rw [PyData.depth] at pb
          rw [PyData.showable] at sb
          refine ⟨_, rfl, _, rfl, j, b', xs', ds', rfl, jE, eb, hb, sb, by omega, by omega, fun H13 v d b13 j13 q13 f13 => ?_⟩
          have w13 := f13.w
          have p13 := f13.p
          exact ⟨v, d, rfl, q13, by omega, by omega, f13.s, fun H14 s14 => ⟨_, rfl, iteF ⟨_, _, _, _, _, _, _, rfl, (same_but smE nj0 b13).trans s14, j13.same s14⟩⟩⟩
    · rintro σ H2 ⟨y1, y2, y3, y4, y5, y6, y7, y8, y9, rfl, sm⟩
      -- the signs of words
      refine ⟨sg1, rfl, for_it walk_str (fun i σ H' => ∃ y8, σ = [some (.ref a), y1, y2, y3, y4, y5, y6, y7, y8, y9] ∧ Same H H') ⟨y8, rfl, sm⟩ (fun _ _ _ _ _ => trivial) ?_ ?_⟩
      · rintro i x σ H3 H4 hi ⟨y8, rfl, s3⟩ ⟨rfl, c, hc, rfl⟩
        have hm : c ∈ sg1.cps.toList := List.mem_of_getElem? (i := i) (by rw [Array.getElem?_toList]; exact hc)
        obtain ⟨t1, t2, t3⟩ := sg1_ok c hm
        have l1 : (one c).length = 1 := rfl
        refine ⟨_, rfl, .str (one c), .str (one c), rfl, .str _, lenOk_str (by rw [l1]; decide), fun H5 s5 => ⟨_, rfl, ?_⟩⟩
        rw [show madeD chs (.str (one c)) = true from t1]
        refine iteF ⟨_, rfl, _, _, rfl, rfl, by rw [sizeLine_eq]; show 2 + 1 ≤ 16777216; decide, _, _, rfl, rfl, by rw [strLen_append, sizeLine_eq]; show 2 + 1 + 1 ≤ 16777216; decide, _, .str _, rfl, .str _, lenOk_str (by rw [strLen_append, strLen_append]; show 2 + 1 + 1 ≤ 2000000; decide), fun H6 s6 => ⟨_, rfl, ?_⟩⟩
        rw [show madeD chs (.str (("ab" : Str) ++ (⟨#[c]⟩ : Str) ++ ("7" : Str))) = true from t2]
        refine iteF ⟨_, rfl, _, _, rfl, rfl, by rw [sizeLine_eq]; show 1 + 1 ≤ 16777216; decide, _, .str _, rfl, .str _, lenOk_str (by rw [strLen_append]; show 1 + 1 ≤ 2000000; decide), fun H7 s7 => ⟨_, rfl, ?_⟩⟩
        rw [show madeD shs (.str (("*" : Str) ++ (⟨#[c]⟩ : Str))) = true from t3]
        exact iteF ⟨_, rfl, ((s3.trans s5).trans s6).trans s7⟩
      · rintro σ H3 ⟨y8, rfl, s3⟩
        -- other signs
        refine ⟨sg2, rfl, for_it walk_str (fun i σ H' => ∃ y8, σ = [some (.ref a), y1, y2, y3, y4, y5, y6, y7, y8, y9] ∧ Same H H') ⟨y8, rfl, s3⟩ (fun _ _ _ _ _ => trivial) ?_ ?_⟩
        · rintro i x σ H4 H5 hi ⟨y8, rfl, s4⟩ ⟨rfl, c, hc, rfl⟩
          have hm : c ∈ sg2.cps.toList := List.mem_of_getElem? (i := i) (by rw [Array.getElem?_toList]; exact hc)
          obtain ⟨t1, t2, t3, t4, t5⟩ := sg2_ok c hm
          have l1 : (one c).length = 1 := rfl
          refine ⟨_, rfl, .str (one c), .str (one c), rfl, .str _, lenOk_str (by rw [l1]; decide), fun H6 s6 => ⟨_, rfl, ?_⟩⟩
          rw [show madeD chs (.str (one c)) = false from t1]
          refine iteF ⟨_, rfl, _, _, rfl, rfl, by rw [sizeLine_eq]; show 1 + 1 ≤ 16777216; decide, _, _, rfl, rfl, by rw [strLen_append, sizeLine_eq]; show 1 + 1 + 1 ≤ 16777216; decide, _, .str _, rfl, .str _, lenOk_str (by rw [strLen_append, strLen_append]; show 1 + 1 + 1 ≤ 2000000; decide), fun H7 s7 => ⟨_, rfl, ?_⟩⟩
          rw [show madeD chs (.str (("a" : Str) ++ (⟨#[c]⟩ : Str) ++ ("b" : Str))) = false from t2]
          refine iteF ⟨_, rfl, _, _, rfl, rfl, by rw [sizeLine_eq]; show 1 + 1 ≤ 16777216; decide, _, .str _, rfl, .str _, lenOk_str (by rw [strLen_append]; show 1 + 1 ≤ 2000000; decide), fun H8 s8 => ⟨_, rfl, ?_⟩⟩
          rw [show madeD shs (.str (("*" : Str) ++ (⟨#[c]⟩ : Str))) = false from t3]
          refine iteF ⟨_, rfl, _, _, rfl, rfl, by rw [sizeLine_eq]; show 1 + 1 ≤ 16777216; decide, by show 1 ≤ sizeLine; decide, fun p np => ?_⟩
          have s9 := same_new (o := .lst [.str (("a" : Str) ++ one c)]) np
          refine ⟨.ref p, .list [.str (("a" : Str) ++ one c)], rfl, .lst upd_same (.one (.str _)), Nat.le_trans t5 (by decide), fun H9 s10 => ⟨_, rfl, ?_⟩⟩
          rw [show lineD (.list [.str (("a" : Str) ++ one c)]) = false by
            show (madeS chs (("a" : Str) ++ one c) && true) = false
            rw [t4]
            rfl]
          exact iteF ⟨_, rfl, ((((s4.trans s6).trans s7).trans s8).trans s9).trans s10⟩
        · rintro σ H4 ⟨y8, rfl, s4⟩
          -- many of them
          obtain ⟨f1, f2⟩ := fifty_ok
          obtain ⟨g1, g2⟩ := lots_ok
          refine ⟨by show 1 ≤ sizeLine; decide, fun p np => ?_⟩
          refine ⟨p, 51, _, rfl, rfl, upd_same, by decide, by decide, by show 51 ≤ sizeLine; decide, fun p2 np2 => ?_⟩
          refine ⟨.ref p2, .list (List.replicate 51 (.str "a")), rfl, .lst upd_same (dq_rep (.one (.str "a")) 51), Nat.le_trans f1 (by decide), fun H5 s5 => ?_⟩
          rw [f2]
          refine ⟨true, true, rfl, rfl, _, rfl, iteF ?_⟩
          refine ⟨by show 1 ≤ sizeLine; decide, fun p3 np3 => ⟨Nat.zero_le _, fun p4 np4 => ⟨by show 2 ≤ sizeLine; decide, fun p5 np5 => ⟨p5, 40, _, rfl, rfl, upd_same, by decide, by decide, by show 2 * 40 ≤ sizeLine; decide, fun p6 np6 => ?_⟩⟩⟩⟩
          have s34 := same_new (o := .lst []) np4
          have s45 := same_new (o := .lst [.ref p3, .ref p4]) np5
          have s56 := same_new (o := .lst (List.replicate (40 : Int).toNat [V.ref p3, V.ref p4]).flatten) np6
          have base : DqAll _ [V.ref p3, V.ref p4] [PyData.list [.str "a"], .list []] := .cons ((Dq.lst upd_same (.one (.str "a"))).same ((s34.trans s45).trans s56)) (.one ((Dq.lst upd_same .nil).same (s45.trans s56)))
          refine ⟨.ref p6, .list lots, rfl, .lst upd_same (dq_rep base 40), Nat.le_trans g1 (by decide), fun H6 s6 => ?_⟩
          rw [g2]
          refine ⟨true, true, rfl, rfl, _, rfl, iteF ?_⟩
          -- the end
          refine ⟨.str "*", .str "*", rfl, .str _, lenOk_str (by decide +kernel), fun H7 s7 => ?_⟩
          rw [show madeD chs (.str "*") = false by decide +kernel]
          refine ⟨false, false, rfl, rfl, true, rfl, iteT ⟨.str "*", .str "*", rfl, .str _, lenOk_str (by decide +kernel), fun H8 s8 => ?_⟩⟩
          rw [show madeD shs (.str "*") = true by decide +kernel]
          refine ⟨true, true, rfl, rfl, true, rfl, iteT ⟨Nat.zero_le _, fun p7 np7 => ⟨.ref p7, .list [], rfl, .lst upd_same .nil, by show wt (.list []) ≤ 1000000; decide +kernel, fun H9 s9 => ?_⟩⟩⟩
          refine ⟨true, true, rfl, rfl, true, rfl, iteT ⟨Nat.zero_le _, fun p8 np8 => ⟨.ref p8, .list [], rfl, .lst upd_same .nil, by show wt (.list []) ≤ 1000000; decide +kernel, fun H10 s10 => ⟨true, true, rfl, rfl, ?_⟩⟩⟩⟩
          exact q H10
end
end Bb
namespace Bb
open PySem PySem.Spec PyProof.Rows L2
theorem FnG.mono {P : Program} {w : World} {K : PySem.W.Frag} {mg : Str → Option Value} {base : Heap} {CX : CXT} {j k : Nat} {f : Addr} {fd : FuncData} {ps : List Str} {sp : Sp} (F : FnG P w K mg base CX j f fd ps sp) (h : j ≤ k) : FnG P w K mg base CX k f fd ps sp :=
  ⟨F.len, fun A outer s H args us vs Q E hg hr => F.go A outer s H args us vs Q E hg (hr.mono h)⟩
theorem all_mk {l : PySem.W.OpenLaw} {w : World} {K : PySem.W.Frag} {h : Heap} {mg : Str → Option Value} {fa f0 f1 f2 f3 f4 f5 f6 f7 f8 f9 f10 f11 f12 f13 f14 f15 : Addr} (X : K.In h) (G : h.Ns mainGlobals mg) (hfa : mg "law" = some (.ref fa))
    {od0 an0 od1 an1 od2 an2 od3 an3 od4 an4 od5 an5 od6 an6 od7 an7 od8 an8 od9 an9 od10 an10 od11 an11 od12 an12 od13 an13 od14 an14 od15 an15 : Option Addr} {sl0 sl1 sl2 sl3 sl4 sl5 sl6 sl7 sl8 sl9 sl10 sl11 sl12 sl13 sl14 sl15 : Array (Option Value)} {oc0 kV0 dc0 pm0 cd0 ct0 oc1 kV1 dc1 pm1 cd1 ct1 oc2 kV2 dc2 pm2 cd2 ct2 oc3 kV3 dc3 pm3 cd3 ct3 oc4 kV4 dc4 pm4 cd4 ct4 oc5 kV5 dc5 pm5 cd5 ct5 oc6 kV6 dc6 pm6 cd6 ct6 oc7 kV7 dc7 pm7 cd7 ct7 oc8 kV8 dc8 pm8 cd8 ct8 oc9 kV9 dc9 pm9 cd9 ct9 oc10 kV10 dc10 pm10 cd10 ct10 oc11 kV11 dc11 pm11 cd11 ct11 oc12 kV12 dc12 pm12 cd12 ct12 oc13 kV13 dc13 pm13 cd13 ct13 oc14 kV14 dc14 pm14 cd14 ct14 oc15 kV15 dc15 pm15 cd15 ct15 : Value} {t1 t2 : Tok}
    (a0 : PySem.W.nsIn K mainGlobals "_is_made_of" = some (some (.ref f0))) (l0 : K.lookup f0 = some ⟨oc0, od0, .func (PySem.W.fnOf "_is_made_of" "_is_made_of" (defArgs sMade) (defBody sMade) (defScope sMade) .none kV0 dc0 pm0 an0 cd0 ct0), sl0⟩) (c0 : PySem.W.codeIn K cd0 "_is_made_of" = true) (k0 : PySem.W.keepIn K (.ref f0) = true)
    (a1 : PySem.W.nsIn K mainGlobals "is_word" = some (some (.ref f1))) (l1 : K.lookup f1 = some ⟨oc1, od1, .func (PySem.W.fnOf "is_word" "is_word" (defArgs sIsWord) (defBody sIsWord) (defScope sIsWord) .none kV1 dc1 pm1 an1 cd1 ct1), sl1⟩) (c1 : PySem.W.codeIn K cd1 "is_word" = true) (k1 : PySem.W.keepIn K (.ref f1) = true)
    (a2 : PySem.W.nsIn K mainGlobals "is_shown" = some (some (.ref f2))) (l2 : K.lookup f2 = some ⟨oc2, od2, .func (PySem.W.fnOf "is_shown" "is_shown" (defArgs sIsShown) (defBody sIsShown) (defScope sIsShown) .none kV2 dc2 pm2 an2 cd2 ct2), sl2⟩) (c2 : PySem.W.codeIn K cd2 "is_shown" = true) (k2 : PySem.W.keepIn K (.ref f2) = true)
    (a3 : PySem.W.nsIn K mainGlobals "is_line" = some (some (.ref f3))) (l3 : K.lookup f3 = some ⟨oc3, od3, .func (PySem.W.fnOf "is_line" "is_line" (defArgs sIsLine) (defBody sIsLine) (defScope sIsLine) .none kV3 dc3 pm3 an3 cd3 ct3), sl3⟩) (c3 : PySem.W.codeIn K cd3 "is_line" = true) (k3 : PySem.W.keepIn K (.ref f3) = true)
    (a4 : PySem.W.nsIn K mainGlobals "is_log" = some (some (.ref f4))) (l4 : K.lookup f4 = some ⟨oc4, od4, .func (PySem.W.fnOf "is_log" "is_log" (defArgs sIsLog) (defBody sIsLog) (defScope sIsLog) .none kV4 dc4 pm4 an4 cd4 ct4), sl4⟩) (c4 : PySem.W.codeIn K cd4 "is_log" = true) (k4 : PySem.W.keepIn K (.ref f4) = true)
    (a5 : PySem.W.nsIn K mainGlobals "_law_jar" = some (some (.ref f5))) (l5 : K.lookup f5 = some ⟨oc5, od5, .func (PySem.W.fnOf "_law_jar" "_law_jar" (defArgs sJar) (defBody sJar) (defScope sJar) .none kV5 dc5 pm5 an5 cd5 ct5), sl5⟩) (c5 : PySem.W.codeIn K cd5 "_law_jar" = true) (k5 : PySem.W.keepIn K (.ref f5) = true)
    (a6 : PySem.W.nsIn K mainGlobals "_law_draw" = some (some (.ref f6))) (l6 : K.lookup f6 = some ⟨oc6, od6, .func (PySem.W.fnOf "_law_draw" "_law_draw" (defArgs sDraw) (defBody sDraw) (defScope sDraw) .none kV6 dc6 pm6 an6 cd6 ct6), sl6⟩) (c6 : PySem.W.codeIn K cd6 "_law_draw" = true) (k6 : PySem.W.keepIn K (.ref f6) = true)
    (a7 : PySem.W.nsIn K mainGlobals "_law_choose" = some (some (.ref f7))) (l7 : K.lookup f7 = some ⟨oc7, od7, .func (PySem.W.fnOf "_law_choose" "_law_choose" (defArgs sChoose) (defBody sChoose) (defScope sChoose) .none kV7 dc7 pm7 an7 cd7 ct7), sl7⟩) (c7 : PySem.W.codeIn K cd7 "_law_choose" = true) (k7 : PySem.W.keepIn K (.ref f7) = true)
    (a8 : PySem.W.nsIn K mainGlobals "_law_word_due" = some (some (.ref f8))) (l8 : K.lookup f8 = some ⟨oc8, od8, .func (PySem.W.fnOf "_law_word_due" "_law_word_due" (defArgs sWordDue) (defBody sWordDue) (defScope sWordDue) .none kV8 dc8 pm8 an8 cd8 ct8), sl8⟩) (c8 : PySem.W.codeIn K cd8 "_law_word_due" = true) (k8 : PySem.W.keepIn K (.ref f8) = true)
    (a9 : PySem.W.nsIn K mainGlobals "_law_shown_due" = some (some (.ref f9))) (l9 : K.lookup f9 = some ⟨oc9, od9, .func (PySem.W.fnOf "_law_shown_due" "_law_shown_due" (defArgs sShownDue) (defBody sShownDue) (defScope sShownDue) .none kV9 dc9 pm9 an9 cd9 ct9), sl9⟩) (c9 : PySem.W.codeIn K cd9 "_law_shown_due" = true) (k9 : PySem.W.keepIn K (.ref f9) = true)
    (a10 : PySem.W.nsIn K mainGlobals "_law_line_due" = some (some (.ref f10))) (l10 : K.lookup f10 = some ⟨oc10, od10, .func (PySem.W.fnOf "_law_line_due" "_law_line_due" (defArgs sLineDue) (defBody sLineDue) (defScope sLineDue) .none kV10 dc10 pm10 an10 cd10 ct10), sl10⟩) (c10 : PySem.W.codeIn K cd10 "_law_line_due" = true) (k10 : PySem.W.keepIn K (.ref f10) = true)
    (a11 : PySem.W.nsIn K mainGlobals "_law_log_due" = some (some (.ref f11))) (l11 : K.lookup f11 = some ⟨oc11, od11, .func (PySem.W.fnOf "_law_log_due" "_law_log_due" (defArgs sLogDue) (defBody sLogDue) (defScope sLogDue) .none kV11 dc11 pm11 an11 cd11 ct11), sl11⟩) (c11 : PySem.W.codeIn K cd11 "_law_log_due" = true) (k11 : PySem.W.keepIn K (.ref f11) = true)
    (a12 : PySem.W.nsIn K mainGlobals "_law_any" = some (some (.ref f12))) (l12 : K.lookup f12 = some ⟨oc12, od12, .func (PySem.W.fnOf "_law_any" "_law_any" (defArgs sAny) (defBody sAny) (defScope sAny) .none kV12 dc12 pm12 an12 cd12 ct12), sl12⟩) (c12 : PySem.W.codeIn K cd12 "_law_any" = true) (k12 : PySem.W.keepIn K (.ref f12) = true)
    (a13 : PySem.W.nsIn K mainGlobals "_law_bent" = some (some (.ref f13))) (l13 : K.lookup f13 = some ⟨oc13, od13, .func (PySem.W.fnOf "_law_bent" "_law_bent" (defArgs sBent) (defBody sBent) (defScope sBent) .none kV13 dc13 pm13 an13 cd13 ct13), sl13⟩) (c13 : PySem.W.codeIn K cd13 "_law_bent" = true) (k13 : PySem.W.keepIn K (.ref f13) = true)
    (a14 : PySem.W.nsIn K mainGlobals "_law_right" = some (some (.ref f14))) (l14 : K.lookup f14 = some ⟨oc14, od14, .func (PySem.W.fnOf "_law_right" "_law_right" (defArgs sRight) (defBody sRight) (defScope sRight) .none kV14 dc14 pm14 an14 cd14 ct14), sl14⟩) (c14 : PySem.W.codeIn K cd14 "_law_right" = true) (k14 : PySem.W.keepIn K (.ref f14) = true)
    (a15 : PySem.W.nsIn K mainGlobals "law" = some (some (.ref f15))) (l15 : K.lookup f15 = some ⟨oc15, od15, .func (PySem.W.fnOf "law" "law" (defArgs sLaw) (defBody sLaw) (defScope sLaw) .none kV15 dc15 pm15 an15 cd15 ct15), sl15⟩) (c15 : PySem.W.codeIn K cd15 "law" = true) (k15 : PySem.W.keepIn K (.ref f15) = true)
    (h1 : PySem.W.nsIn K mainGlobals "CHARACTERS" = some (some (.str chs t1))) (h2 : PySem.W.nsIn K mainGlobals "SHOWN_CHARACTERS" = some (some (.str shs t2)))
    (z0 : PySem.W.nsIn K mainGlobals "isinstance" = some none) (z1 : PySem.W.nsIn K mainGlobals "str" = some none) (z2 : PySem.W.nsIn K mainGlobals "list" = some none) (z3 : PySem.W.nsIn K mainGlobals "all" = some none) (z4 : PySem.W.nsIn K mainGlobals "int" = some none) (z5 : PySem.W.nsIn K mainGlobals "len" = some none) (z6 : PySem.W.nsIn K mainGlobals "tuple" = some none) (z7 : PySem.W.nsIn K mainGlobals "repr" = some none) (z8 : PySem.W.nsIn K mainGlobals "range" = some none) (z9 : PySem.W.nsIn K mainGlobals "max" = some none) (z10 : PySem.W.nsIn K mainGlobals "min" = some none) :
    ∃ fd : FuncData, (∀ (s : Shared) (v : Value), BindsTo s fd ⟨[v], []⟩ [("script", v)]) ∧ ∀ base : Heap, K.In base → base.Ns mainGlobals mg → FnG l.prog w K mg base CX0 25 fa fd ["script"] (spLaw K) := by
  have e := hfa.symm.trans (PySem.W.mg_of X G a15)
  cases e
  have F0 := fun_mk (st := sMade) l0 c0 k0
  have b0 := F0.binds (ps := ["characters", "value"]) fun _ _ _ _ _ _ us hl => match us, hl with | [_, _], _ => rfl
  have m0 := PySem.W.mg_of X G a0
  have F1 := fun_mk (st := sIsWord) l1 c1 k1
  have b1 := F1.binds (ps := ["value"]) fun _ _ _ _ _ _ us hl => match us, hl with | [_], _ => rfl
  have m1 := PySem.W.mg_of X G a1
  have F2 := fun_mk (st := sIsShown) l2 c2 k2
  have b2 := F2.binds (ps := ["value"]) fun _ _ _ _ _ _ us hl => match us, hl with | [_], _ => rfl
  have m2 := PySem.W.mg_of X G a2
  have F3 := fun_mk (st := sIsLine) l3 c3 k3
  have b3 := F3.binds (ps := ["value"]) fun _ _ _ _ _ _ us hl => match us, hl with | [_], _ => rfl
  have m3 := PySem.W.mg_of X G a3
  have F4 := fun_mk (st := sIsLog) l4 c4 k4
  have b4 := F4.binds (ps := ["value"]) fun _ _ _ _ _ _ us hl => match us, hl with | [_], _ => rfl
  have m4 := PySem.W.mg_of X G a4
  have F5 := fun_mk (st := sJar) l5 c5 k5
  have b5 := F5.binds (ps := ["script", "start"]) fun _ _ _ _ _ _ us hl => match us, hl with | [_, _], _ => rfl
  have m5 := PySem.W.mg_of X G a5
  have F6 := fun_mk (st := sDraw) l6 c6 k6
  have b6 := F6.binds (ps := ["jar", "many"]) fun _ _ _ _ _ _ us hl => match us, hl with | [_, _], _ => rfl
  have m6 := PySem.W.mg_of X G a6
  have F7 := fun_mk (st := sChoose) l7 c7 k7
  have b7 := F7.binds (ps := ["jar", "things"]) fun _ _ _ _ _ _ us hl => match us, hl with | [_, _], _ => rfl
  have m7 := PySem.W.mg_of X G a7
  have F8 := fun_mk (st := sWordDue) l8 c8 k8
  have b8 := F8.binds (ps := ["thing"]) fun _ _ _ _ _ _ us hl => match us, hl with | [_], _ => rfl
  have m8 := PySem.W.mg_of X G a8
  have F9 := fun_mk (st := sShownDue) l9 c9 k9
  have b9 := F9.binds (ps := ["thing"]) fun _ _ _ _ _ _ us hl => match us, hl with | [_], _ => rfl
  have m9 := PySem.W.mg_of X G a9
  have F10 := fun_mk (st := sLineDue) l10 c10 k10
  have b10 := F10.binds (ps := ["thing"]) fun _ _ _ _ _ _ us hl => match us, hl with | [_], _ => rfl
  have m10 := PySem.W.mg_of X G a10
  have F11 := fun_mk (st := sLogDue) l11 c11 k11
  have b11 := F11.binds (ps := ["thing"]) fun _ _ _ _ _ _ us hl => match us, hl with | [_], _ => rfl
  have m11 := PySem.W.mg_of X G a11
  have F12 := fun_mk (st := sAny) l12 c12 k12
  have b12 := F12.binds (ps := ["jar"]) fun _ _ _ _ _ _ us hl => match us, hl with | [_], _ => rfl
  have m12 := PySem.W.mg_of X G a12
  have F13 := fun_mk (st := sBent) l13 c13 k13
  have b13 := F13.binds (ps := ["jar", "thing"]) fun _ _ _ _ _ _ us hl => match us, hl with | [_, _], _ => rfl
  have m13 := PySem.W.mg_of X G a13
  have F14 := fun_mk (st := sRight) l14 c14 k14
  have b14 := F14.binds (ps := ["thing"]) fun _ _ _ _ _ _ us hl => match us, hl with | [_], _ => rfl
  have m14 := PySem.W.mg_of X G a14
  have F15 := fun_mk (st := sLaw) l15 c15 k15
  have n_isinstance := PySem.W.mg_none_of X G z0
  have n_str := PySem.W.mg_none_of X G z1
  have n_list := PySem.W.mg_none_of X G z2
  have n_all := PySem.W.mg_none_of X G z3
  have n_int := PySem.W.mg_none_of X G z4
  have n_len := PySem.W.mg_none_of X G z5
  have n_tuple := PySem.W.mg_none_of X G z6
  have n_repr := PySem.W.mg_none_of X G z7
  have n_range := PySem.W.mg_none_of X G z8
  have n_max := PySem.W.mg_none_of X G z9
  have n_min := PySem.W.mg_none_of X G z10
  have TM1 : TM mg := ⟨n_isinstance, n_str, n_list, n_all, ⟨_, PySem.W.mg_of X G h1⟩, ⟨_, PySem.W.mg_of X G h2⟩⟩
  have TJ1 : TJ mg := ⟨n_int, n_len⟩
  refine ⟨PySem.W.fnOf "law" "law" (defArgs sLaw) (defBody sLaw) (defScope sLaw) .none kV15 dc15 pm15 an15 cd15 ct15, fun s v => .of_eq rfl, fun base _ _ => ?_⟩
  have gW : FnOk l.prog w K mg base CX0 2 f1 _ ["value"] (spTell lenOk (madeD chs)) := ok_isWord F1 TM1 F0 b0 m0
  have gS : FnOk l.prog w K mg base CX0 2 f2 _ ["value"] (spTell lenOk (madeD shs)) := ok_isShown F2 TM1 F0 b0 m0
  have gLn : FnOk l.prog w K mg base CX0 3 f3 _ ["value"] (spTell wtOk lineD) := ok_isLine F3 TM1 gW F1.kp b1 m1
  have gLg : FnOk l.prog w K mg base CX0 4 f4 _ ["value"] (spTell wtOk logD) := ok_isLog F4 TM1 gLn F3.kp b3 m3
  have gWD : FnOk l.prog w K mg base CX0 1 f8 _ ["thing"] (spTell lenOk (madeD chs)) := ok_wordDue F8 TM1
  have gSD : FnOk l.prog w K mg base CX0 2 f9 _ ["thing"] (spTell wtOk (madeD shs)) := ok_shownDue F9 TM1 F8 b8 m8
  have gLD : FnOk l.prog w K mg base CX0 2 f10 _ ["thing"] (spTell wtOk lineD) := ok_lineDue F10 TM1 gWD F8.kp b8 m8
  have gGD : FnOk l.prog w K mg base CX0 3 f11 _ ["thing"] (spTell wtOk logD) := ok_logDue F11 TM1 gLD F10.kp b10 m10
  have gJ : FnOk l.prog w K mg base CX0 1 f5 _ ["script", "start"] (spJar K) := ok_jar F5 TJ1
  have gD : FnOk l.prog w K mg base CX0 1 f6 _ ["jar", "many"] spDraw := ok_draw F6 TJ1
  have gC : FnOk l.prog w K mg base CX0 2 f7 _ ["jar", "things"] (spChoose K) := ok_choose F7 TJ1 F6 b6 m6
  have gA : FnOk l.prog w K mg base CX0 3 f12 _ ["jar"] spAny := ok_any F12 gC F7.kp b7 m7
  have gB : FnOk l.prog w K mg base CX0 24 f13 _ ["jar", "thing"] (spBent 20) := ok_bent (k := 0) F13 ⟨F6.kp, m6, F12.kp, m12, F13.kp, m13, n_len, n_tuple, n_isinstance, n_list⟩ (gD.mono (by decide)) b6 gA b12 b13 20
  have R4 : Readers l.prog w K mg base 4 f1 f2 f3 f4 f8 f9 f10 f11 _ _ _ _ _ _ _ _ := ⟨gW.mono (by decide), gS.mono (by decide), gLn.mono (by decide), gLg, gWD.mono (by decide), gSD.mono (by decide), gLD.mono (by decide), gGD.mono (by decide),
    b1, b2, b3, b4, b8, b9, b10, b11, F1.kp, F2.kp, F3.kp, F4.kp, F8.kp, F9.kp, F10.kp, F11.kp, m1, m2, m3, m4, m8, m9, m10, m11⟩
  have gR : FnG l.prog w K mg base CX0 5 f14 _ ["thing"] spRight := ok_right F14 R4 n_repr
  have R24 : Readers l.prog w K mg base 24 f1 f2 f3 f4 f8 f9 f10 f11 _ _ _ _ _ _ _ _ := ⟨gW.mono (by decide), gS.mono (by decide), gLn.mono (by decide), gLg.mono (by decide), gWD.mono (by decide), gSD.mono (by decide), gLD.mono (by decide), gGD.mono (by decide),
    b1, b2, b3, b4, b8, b9, b10, b11, F1.kp, F2.kp, F3.kp, F4.kp, F8.kp, F9.kp, F10.kp, F11.kp, m1, m2, m3, m4, m8, m9, m10, m11⟩
  have H24 : Helpers l.prog w K mg base 24 f5 f6 f7 f12 f13 f14 _ _ _ _ _ _ := ⟨gJ.mono (by decide), gD.mono (by decide), gC.mono (by decide), gA.mono (by decide), gB, gR.mono (by decide), b5, b6, b7, b12, b13, b14,
    F5.kp, F6.kp, F7.kp, F12.kp, F13.kp, F14.kp, m5, m6, m7, m12, m13, m14⟩
  exact ok_law F15 R24 H24 ⟨n_range, n_max, n_min, n_len, n_isinstance, n_list⟩
end Bb
open PySem PySem.W PyProof.Rows
set_option maxRecDepth 100000 in
set_option maxHeartbeats 0 in
theorem PySem.Challenge.cw_blackbars_k01_words_lines_and_logs_holds : PySem.Challenge.rw_blackbars_k01_words_lines_and_logs.Holds := by
  w_on; o_law; k_head; (case hw => w_witness2)
  k_fill
  refine Bb.walkG (l := PySem.Challenge.rw_blackbars_k01_words_lines_and_logs) (n := 63) (k := 25) (x := "script") (sp := fun w => Bb.spLaw _) rfl (by decide) rfl ⟨rfl, by decide, by decide⟩ (fun w h Y => PySem.W.kIn_of Y) ?F (fun _ _ a ns hl hb _ hS => ⟨a, ns, rfl, hS, hl, hb, fun _ => rfl⟩)
  case F =>
    intro w mg fa h KX G hmg
    refine' Bb.all_mk KX G hmg ?a0 ?l0 ?c0 ?k0 ?a1 ?l1 ?c1 ?k1 ?a2 ?l2 ?c2 ?k2 ?a3 ?l3 ?c3 ?k3 ?a4 ?l4 ?c4 ?k4 ?a5 ?l5 ?c5 ?k5 ?a6 ?l6 ?c6 ?k6 ?a7 ?l7 ?c7 ?k7 ?a8 ?l8 ?c8 ?k8 ?a9 ?l9 ?c9 ?k9 ?a10 ?l10 ?c10 ?k10 ?a11 ?l11 ?c11 ?k11 ?a12 ?l12 ?c12 ?k12 ?a13 ?l13 ?c13 ?k13 ?a14 ?l14 ?c14 ?k14 ?a15 ?l15 ?c15 ?k15 ?h1 ?h2 ?z0 ?z1 ?z2 ?z3 ?z4 ?z5 ?z6 ?z7 ?z8 ?z9 ?z10
    (case a0 => k_is)
    (case l0 => k_is)
    (case c0 => k_is)
    (case k0 => k_is)
    (case a1 => k_is)
    (case l1 => k_is)
    (case c1 => k_is)
    (case k1 => k_is)
    (case a2 => k_is)
    (case l2 => k_is)
    (case c2 => k_is)
    (case k2 => k_is)
    (case a3 => k_is)
    (case l3 => k_is)
    (case c3 => k_is)
    (case k3 => k_is)
    (case a4 => k_is)
    (case l4 => k_is)
    (case c4 => k_is)
    (case k4 => k_is)
    (case a5 => k_is)
    (case l5 => k_is)
    (case c5 => k_is)
    (case k5 => k_is)
    (case a6 => k_is)
    (case l6 => k_is)
    (case c6 => k_is)
    (case k6 => k_is)
    (case a7 => k_is)
    (case l7 => k_is)
    (case c7 => k_is)
    (case k7 => k_is)
    (case a8 => k_is)
    (case l8 => k_is)
    (case c8 => k_is)
    (case k8 => k_is)
    (case a9 => k_is)
    (case l9 => k_is)
    (case c9 => k_is)
    (case k9 => k_is)
    (case a10 => k_is)
    (case l10 => k_is)
    (case c10 => k_is)
    (case k10 => k_is)
    (case a11 => k_is)
    (case l11 => k_is)
    (case c11 => k_is)
    (case k11 => k_is)
    (case a12 => k_is)
    (case l12 => k_is)
    (case c12 => k_is)
    (case k12 => k_is)
    (case a13 => k_is)
    (case l13 => k_is)
    (case c13 => k_is)
    (case k13 => k_is)
    (case a14 => k_is)
    (case l14 => k_is)
    (case c14 => k_is)
    (case k14 => k_is)
    (case a15 => k_is)
    (case l15 => k_is)
    (case c15 => k_is)
    (case k15 => k_is)
    (case h1 => k_is)
    (case h2 => k_is)
    (case z0 => k_is)
    (case z1 => k_is)
    (case z2 => k_is)
    (case z3 => k_is)
    (case z4 => k_is)
    (case z5 => k_is)
    (case z6 => k_is)
    (case z7 => k_is)
    (case z8 => k_is)
    (case z9 => k_is)
    (case z10 => k_is)
