import PyProof.Rows.All
import Wide.All
import OpenK.AllK
import Wide.FinOn
import HandS.ForMost
import HandS.IsInst
import HandS.WideBits
import HandS.Wide
import HandS.Walk
import HandS.EndBits
import PyProof.ReprRoads
import PyProof.ReprLen
import HandS.Ends
import HandS.ForExc
import HandS.ExcInit
import HandS.ExcField
import HandS.ExcIs
import HandS.Style
import HandS.FStr
import HandS.Text
import KE.IntTextText
import PySem.Challenge.RW_groupsteps_k14_window_texts
set_option Elab.async false
set_option maxRecDepth 100000
set_option linter.all false
/-! Calls whose surroundings hold no running repr: a promise that may use it (FnG), and repr of data. -/
namespace G
open PySem PySem.Spec PyProof.Rows L2

/-- a def keeps its promise wherever no repr is under way -/
structure FnG (P : Program) (w : World) (K : PySem.W.Frag) (mg : Str → Option Value) (bs : Heap)
    (CX : CXT) (k : Nat) (f : Addr) (fd : FuncData) (ps : List Str) (sp : Sp) : Prop where
  lenG : ∀ vs H Q E, sp vs H Q E → vs.length = ps.length
  runG : ∀ (A : Around) (ou : List Env) (st : Shared) (H : Hp) (ar : Args) (ys : List Value)
    (xs : List V) (Q : VK) (E : XK), A.guards = some [] → Room k A →
    Env0 P w K mg bs A ou st H → BindsTo st fd ar (ps.zip ys) → Vals xs ys → sp xs H Q E →
    codeAny (model P w) A (.call (.ref f) ar) (CR CX ou P w H st Q E) st

variable {P : Program} {w : World} {K : PySem.W.Frag} {mg : Str → Option Value} {bs : Heap}

theorem FnG.of {CX : CXT} {k : Nat} {f : Addr} {fd : FuncData} {ps : List Str} {sp : Sp}
    (F : FnOk P w K mg bs CX k f fd ps sp) : FnG P w K mg bs CX k f fd ps sp :=
  ⟨F.len, fun A ou st H ar ys xs Q E _ => F.run A ou st H ar ys xs Q E⟩
theorem FnG.mono {CX : CXT} {j k : Nat} {f : Addr} {fd : FuncData} {ps : List Str} {sp : Sp}
    (F : FnG P w K mg bs CX j f fd ps sp) (h : j ≤ k) : FnG P w K mg bs CX k f fd ps sp :=
  ⟨F.lenG, fun A ou st H ar ys xs Q E g r => F.runG A ou st H ar ys xs Q E g (r.mono h)⟩

/-- a def of the text, by its body, which may use that no repr is under way -/
theorem fn_ofG {CX : CXT} {k : Nat} {f : Addr} {nm ql : Str} {prm : Arguments} {bd : List Stmt}
    {sc : Scope} {dV kV dc pm cv ct oc : Value} {an od : Option Addr} {sl : Array (Option Value)}
    {N ps : List Str} {sp : Sp}
    (lk : K.lookup f = some ⟨oc, od, .func (PySem.W.fnOf nm ql prm bd sc dV kV dc pm an cv ct), sl⟩)
    (hc : PySem.W.codeIn K cv ql = true) (S : FnScope N ps sc)
    (ln : ∀ vs H Q E, sp vs H Q E → vs.length = ps.length)
    (hb : ∀ (A : Around) (ou : List Env) (st : Shared) (H : Hp) (xs : List V) (Q : VK) (E : XK),
      A.guards = some [] → Room k (A.deeper (envOfC ql sc st.heap.objs.size f cv)) → sp xs H Q E →
      ∃ t, PSs (cxOf CX P w K mg bs N ql sc f cv A ou st H E) bd t ∧
        t { nx := fun _ J => Q .non J, rt := Q } (start N xs) H) :
    FnG P w K mg bs CX (k + 1) f (PySem.W.fnOf nm ql prm bd sc dV kV dc pm an cv ct) ps sp := by
  refine ⟨ln, fun A ou st H ar ys xs Q E gd rm ev bt vl pr => ?_⟩
  have len := ln xs H Q E pr
  have old : ∀ b o, bs.get? b = some o → st.heap.get? b = some o := fun b o z => (ev.bs b o z).1
  have inK : K.In st.heap := ev.mod.kin.keeps old
  have nl : st.heap.NoLimit := ev.mod.nolimit.keeps old
  have knd : ∀ y ∈ ps.zip ys, sc.names.lookup y.1 = some .local ∨
      (sc.names.lookup y.1 = some .cell ∧
        ((cellsFrom (st.heap.objs.size + 1) sc.names []).lookup y.1).isSome = true) := by
    rintro ⟨n, v⟩ hy
    rcases S.par n (List.of_mem_zip hy).1 with z | z
    · exact .inl z
    · exact .inr ⟨z, PySem.W.cellsFrom_some _ _ _ (.inl z)⟩
  refine codeAny_call_function rm.depth (inK _ _ lk) rfl S.co S.gen rfl
    (PySem.W.codeRec_of inK hc) (bt _ _ _ _ ?_)
  refine wpAny_newFunctionEnv_cells S.kind knd fun en hen st1 ic => ?_
  subst hen
  refine ⟨nl.keeps ic.toInCall.keep, codeAny_func ?_⟩
  obtain ⟨t, pt, rd⟩ := hb A ou st H xs Q E gd (rm.deeper _) pr
  have J : Inv (cxOf CX P w K mg bs N ql sc f cv A ou st H E) [] (start N xs) H st1 :=
    inv_start S rm.hd ev len vl ic
  refine wpAny_mono (pt.run [] st1 (start N xs) H _ J rd) (fun fl st2 z => ?_) fun _ _ z => z
  cases fl with
  | ret u =>
    obtain ⟨v, σ2, H2, J2, rv, q⟩ := z
    exact ⟨v, H2, J2.os, J2.bare, J2.base, J2.hok, rv, q⟩
  | next =>
    obtain ⟨σ2, H2, J2, q⟩ := z
    exact ⟨V.non, H2, J2.os, J2.bare, J2.base, J2.hok, rfl, q⟩
  | brk =>
    obtain ⟨_, _, _, q⟩ := z
    exact q.elim
  | cont =>
    obtain ⟨_, _, _, q⟩ := z
    exact q.elim

theorem okG {x ql : Str} {st : Stmt} {f : Addr} {fd : FuncData} {N ps : List Str} {k : Nat} {sp : Sp}
    (F : Fun K x ql st f fd) (S : FnScope N ps (defScope st))
    (ln : ∀ vs H Q E, sp vs H Q E → vs.length = ps.length)
    (hb : ∀ (cv : Value) (A : Around) (ou : List Env) (s : Shared) (H : Hp) (vs : List V) (Q : VK)
      (E : XK), A.guards = some [] →
      Room k (A.deeper (envOfC ql (defScope st) s.heap.objs.size f cv)) → sp vs H Q E →
      ∃ t, PSs (cxOf CX0 P w K mg bs N ql (defScope st) f cv A ou s H E).nox (defBody st) t ∧
        t { nx := fun _ J => Q .non J, rt := Q } (start N vs) H) :
    FnG P w K mg bs CX0 (k + 1) f fd ps sp := by
  obtain ⟨oc, od, kV, doc, pm, an, cdv, ct, osl, rfl, lk, hcd⟩ := F.ex
  refine fn_ofG lk hcd S ln fun A ou s H vs Q E gd rm pr => ?_
  obtain ⟨t, p, rd⟩ := hb cdv A ou s H vs Q E gd rm pr
  exact ⟨t, p.nox, rd⟩

section
variable {X : Cx} {CX : CXT} {k : Nat} {f : Addr} {fd : FuncData} {ps : List Str} {sp : Sp}
  {dvs : List V} {ds : List Value} {E : XK} {x : Str} {p pos : Pos} {e : Expr} {es : List Expr} {t : TA}
/-- f(..) of such a def -/
theorem pe_callG (F : FnG X.prog X.w X.K X.mg X.base CX k f fd ps sp) (gd : X.A.guards = some [])
    (rm : Room k X.A) (hg : Gl X x) (hm : X.mg x = some (.ref f))
    (hk : PySem.W.keepIn X.K (.ref f) = true) (hb : Binds X.K fd ps ds) (hd : Vals dvs ds)
    (hx : Passes CX X E) (ha : PA X (e :: es) t)
    (n1 : (x == ("__debug__" : Str)) = false := by decide)
    (n2 : starEach (e :: es) X.env = (false, eval e X.env) :: starEach es X.env := by rfl)
    (n3 : (backTo pos (starEach es X.env)).any (·.1) = false := by rfl) :
    PE X (.Call (.Name x p) (e :: es) [] pos) (tCall sp dvs E t) := by
  refine ⟨fun pins s σ H Q J hw => ?_⟩
  refine wpAny_Call_Name_kw (ld_glob J hg hm ?_ n1)
  refine PySem.W.callWith_K (h₀ := X.base) J.ok.mod.kin hk (thn (ha.run pos pins s σ H _ J hw)
    fun ys s1 ⟨xs, H1, J1, r1, q1⟩ => ⟨J1.kIn, ?_⟩) n2 n3
  have r2 : Vals (xs ++ dvs) (ys ++ ds) := r1.append hd
  have hl : (ys ++ ds).length = ps.length := by
    rw [← r2.length]
    exact F.lenG _ _ _ _ q1
  refine wpAny_call (codeAny_mono (F.runG X.A X.stack s1 H1 ⟨ys, []⟩ (ys ++ ds) (xs ++ dvs) Q E
    gd rm J1.env0 (hb s1 ys J1.kIn hl) r2 q1) fun r s2 z => ?_)
  cases r with
  | error er => exact hx pins σ H1 s1 er s2 J1 z
  | ok fl =>
    cases fl with
    | ret u => exact J1.after z
    | next => exact z.elim
    | brk => exact z.elim
    | cont => exact z.elim
end

section
variable {X : Cx}
/-- what repr gives of a value: its data, and whether it can be shown -/
def rRepr (K : PySem.W.Frag) : List V → Hp → VK → Prop := fun xs H Q =>
  ∃ (v : V) (d : PyData), xs = [v] ∧ Dp K H v d ∧ d.showable = true ∧ d.hasDict = false ∧
    d.depth ≤ 60 ∧ d.shown.length ≤ sizeLine ∧ Q (.str d.shown) H
theorem call_reprD (gd : X.A.guards = some []) (hu : X.A.units + 64 < cLine) :
    CallR X (.builtin "repr") (rRepr X.K) := by
  intro pins s σ H xs us Q I r h
  obtain ⟨v, d, rfl, hd, hs, hn, hp, hz, q⟩ := h
  obtain ⟨u, rfl, rv⟩ := vals1 r
  obtain ⟨as, R⟩ := Dp.reads I d v u hd rv
  cases R with
  | none => exact PySem.P.repr_of_none ⟨.str _, H, I.tok _, ⟨_, rfl⟩, q⟩
  | bool b => exact PySem.P.repr_of_bool ⟨.str _, H, I.tok _, ⟨_, rfl⟩, q⟩
  | int i t =>
    have hi : i.natAbs.log2 < 1920 := by simpa [PyData.showable] using hs
    exact PySem.P.repr_of_int hi ⟨.str _, H, I.tok _, ⟨_, rfl⟩, q⟩
  | str y t => exact PySem.P.repr_of_str ⟨.str _, H, I.tok _, ⟨_, rfl⟩, q⟩ hz
  | list h1 h2 h3 h4 =>
    exact repr_of_reads' (.list h1 h2 h3 h4) hs (PyData.noDict_hsm hn) gd (by omega)
      (fun _ _ e => e) (fun h' u tk k => ⟨.str _, H, I.kept k, ⟨_, rfl⟩, q⟩) hz
  | tuple h1 h2 h3 h4 =>
    exact repr_of_reads' (.tuple h1 h2 h3 h4) hs (PyData.noDict_hsm hn) gd (by omega)
      (fun _ _ e => e) (fun h' u tk k => ⟨.str _, H, I.kept k, ⟨_, rfl⟩, q⟩) hz
  | dict h1 h2 h3 h4 h5 => simp [PyData.hasDict] at hn
end
end G
/-! Data in the heap: none, bools, ints, texts, lists, tuples, dicts; their repr. -/
namespace G
open PySem PySem.Spec PyProof.Rows L2

def kD : Key → PyData
  | .inl i => .int i
  | .inr x => .str x
mutual
inductive Da (H : Hp) : V → PyData → Prop
  | non : Da H .non .none
  | bl (b : Bool) : Da H (.bl b) (.bool b)
  | int (i : Int) : Da H (.int i) (.int i)
  | str (x : Str) : Da H (.str x) (.str x)
  | lst {a : Addr} {xs : List V} {ds : List PyData} : a ≠ sysModules → H a = some (.lst xs) →
      DaAll H xs ds → Da H (.ref a) (.list ds)
  | tup {a : Addr} {xs : List V} {ds : List PyData} : H a = some (.tup xs) →
      DaAll H xs ds → Da H (.ref a) (.tuple ds)
  | dic {a : Addr} {kvs : List (Key × V)} {ds : List PyData} : H a = some (.dK kvs) →
      DaAll H (kvs.map (·.2)) ds → Da H (.ref a) (.dict ((kvs.map fun p => kD p.1).zip ds))
inductive DaAll (H : Hp) : List V → List PyData → Prop
  | nil : DaAll H [] []
  | cons {v : V} {vs : List V} {d : PyData} {ds : List PyData} : Da H v d → DaAll H vs ds →
      DaAll H (v :: vs) (d :: ds)
end
mutual
theorem Da.mono {H H' : Hp} (e : Same H H') {v : V} {d : PyData} : Da H v d → Da H' v d
  | .non => .non
  | .bl b => .bl b
  | .int i => .int i
  | .str x => .str x
  | .lst n h t => .lst n (e _ _ h) (DaAll.mono e t)
  | .tup h t => .tup (e _ _ h) (DaAll.mono e t)
  | .dic h t => .dic (e _ _ h) (DaAll.mono e t)
theorem DaAll.mono {H H' : Hp} (e : Same H H') {vs : List V} {ds : List PyData} :
    DaAll H vs ds → DaAll H' vs ds
  | .nil => .nil
  | .cons h t => .cons (Da.mono e h) (DaAll.mono e t)
end
theorem DaAll.len {H : Hp} : ∀ {vs : List V} {ds : List PyData}, DaAll H vs ds → vs.length = ds.length
  | _, _, .nil => rfl
  | _, _, .cons _ t => by simp [DaAll.len t]

theorem pairs_reads {P : Program} {w : World} {h : Heap} : ∀ {es : List DictEntry} {kvs : List (Key × V)}
    {vs : List (Key × Value)}, Pairs (mixKind P w) es vs → KV kvs vs →
    ReadsAll h (es.map (·.key)) (kvs.map fun p => kD p.1) [] ∧ Vals (kvs.map (·.2)) (es.map (·.val))
  | _, _, _, .nil, r => by cases r; exact ⟨.nil, .nil⟩
  | _, _, _, .cons (e := e) k1 k2 t, r => by
    cases r with
    | cons r1 r2 =>
      obtain ⟨q1, q2⟩ := pairs_reads (h := h) t r2
      obtain ⟨e1, e2⟩ := r1
      refine ⟨?_, .cons (show L2.RelV _ e.val by rw [k2]; exact e2) q2⟩
      rw [← e1] at k1
      have sh := keyIs_shape (show keyIs _ e.key = true from k1)
      simp only [List.map_cons]
      rcases sh with ⟨i, tk, z1, z2⟩ | ⟨x, tk, z1, z2⟩
      · rw [z1, z2]
        exact ReadsAll.cons (as := []) (bs := []) (.int i tk) q1
      · rw [z1, z2]
        exact ReadsAll.cons (as := []) (bs := []) (.str x tk) q1

section
variable {X : Cx} {pins : List (Addr × Obj)} {σ : L2.St} {H : Hp} {s : Shared}
mutual
theorem Da.reads (I : Inv X pins σ H s) {v : V} {d : PyData} {u : Value} :
    Da H v d → RelV v u → ∃ as, Reads s.heap u d as ∧ sysModules ∉ as
  | .non, r => by
    obtain rfl : u = Value.none := r
    exact ⟨_, .none, by simp⟩
  | .bl b, r => by
    obtain rfl : u = Value.bool b := r
    exact ⟨_, .bool b, by simp⟩
  | .int i, r => by
    obtain ⟨t, rfl⟩ := r
    exact ⟨_, .int i t, by simp⟩
  | .str x, r => by
    obtain ⟨t, rfl⟩ := r
    exact ⟨_, .str x t, by simp⟩
  | .lst (a := a) (xs := xs) n h t, r => by
    obtain rfl : u = Value.ref a := r
    obtain ⟨_, its, m, rv, ho⟩ := (show ObjOk X.prog X.w H s.heap a (.lst xs) from I.hok a _ h)
    obtain ⟨as, q, z⟩ := DaAll.reads I t rv
    refine ⟨_, .list (vs := its.toArray) ho rfl rfl (by simpa using q), ?_⟩
    intro hm
    rcases List.mem_cons.mp hm with e | e
    · exact n e.symm
    · exact z e
  | .tup (a := a) (xs := xs) h t, r => by
    obtain rfl : u = Value.ref a := r
    obtain ⟨_, its, rv, o, ho, hc, m, hd⟩ := (show ObjOk X.prog X.w H s.heap a (.tup xs) from I.hok a _ h)
    obtain ⟨as, q, z⟩ := DaAll.reads I t rv
    exact ⟨_, .tuple (vs := its.toArray) ho hc hd (by simpa using q), z⟩
  | .dic (a := a) (kvs := kvs) (ds := ds) h t, r => by
    obtain rfl : u = Value.ref a := r
    obtain ⟨_, ns, vs, kv, o, es, ep, ho, ex, hd, _, pr, _⟩ :=
      (show ObjOk X.prog X.w H s.heap a (.dK kvs) from I.hok a _ h)
    obtain ⟨q1, q2⟩ := pairs_reads (h := s.heap) pr kv
    obtain ⟨as, q3, z⟩ := DaAll.reads I t q2
    have hl := t.len
    have hl2 : (kvs.map fun p => kD p.1).length = ds.length := by simpa using hl
    have e1 : ((kvs.map fun p => kD p.1).zip ds).map (·.1) = kvs.map fun p => kD p.1 :=
      List.map_fst_zip (by omega)
    have e2 : ((kvs.map fun p => kD p.1).zip ds).map (·.2) = ds := List.map_snd_zip (by omega)
    refine ⟨_, .dict ho ex.1 hd (by rw [e1]; exact q1) (by rw [e2]; exact q3), ?_⟩
    intro hm
    rcases List.mem_cons.mp (show sysModules ∈ a :: ([] ++ as) by simpa using hm) with e | e
    · rw [← e] at ns
      simp at ns
    · exact z (by simpa using e)
theorem DaAll.reads (I : Inv X pins σ H s) {vs : List V} {ds : List PyData} {us : List Value} :
    DaAll H vs ds → Vals vs us → ∃ as, ReadsAll s.heap us ds as ∧ sysModules ∉ as
  | .nil, r => by
    cases r
    exact ⟨_, .nil, by simp⟩
  | .cons h t, r => by
    cases r with
    | cons r1 r2 =>
      obtain ⟨as, q1, z1⟩ := Da.reads I h r1
      obtain ⟨bs, q2, z2⟩ := DaAll.reads I t r2
      exact ⟨_, .cons q1 q2, by simp [z1, z2]⟩
end
end

/-- data that can be shown, and not too long -/
def OkD (d : PyData) : Prop :=
  d.showable = true ∧ d.leavesShort 600 = true ∧ d.weight ≤ 20000 ∧ d.depth ≤ 60
theorem OkD.size {d : PyData} (h : OkD d) : d.shown.length ≤ sizeLine := by
  have q := PyData.shown_le 600 (by decide) d h.2.1
  have e := h.2.2.1
  have e2 : (600 + 2) * d.weight ≤ 602 * 20000 := Nat.mul_le_mul (by decide) e
  rw [sizeLine_eq]
  omega

section
variable {X : Cx}
def rRep : List V → Hp → VK → Prop := fun xs H Q =>
  ∃ (v : V) (d : PyData), xs = [v] ∧ Da H v d ∧ OkD d ∧ Q (.str d.shown) H
theorem call_rep (gd : X.A.guards = some []) (hu : X.A.units + 64 < cLine) :
    CallR X (.builtin "repr") rRep := by
  intro pins s σ H xs us Q I r h
  obtain ⟨v, d, rfl, hd, ok, q⟩ := h
  obtain ⟨u, rfl, rv⟩ := vals1 r
  obtain ⟨as, R, nm⟩ := hd.reads I rv
  have hz := ok.size
  have hp := ok.2.2.2
  have hs := ok.1
  cases R with
  | none => exact PySem.P.repr_of_none ⟨.str _, H, I.tok _, ⟨_, rfl⟩, q⟩
  | bool b => exact PySem.P.repr_of_bool ⟨.str _, H, I.tok _, ⟨_, rfl⟩, q⟩
  | int i t =>
    have hi : i.natAbs.log2 < 1920 := by simpa [PyData.showable] using hs
    exact PySem.P.repr_of_int hi ⟨.str _, H, I.tok _, ⟨_, rfl⟩, q⟩
  | str y t => exact PySem.P.repr_of_str ⟨.str _, H, I.tok _, ⟨_, rfl⟩, q⟩ hz
  | list h1 h2 h3 h4 =>
    exact repr_of_reads' (.list h1 h2 h3 h4) hs (fun _ => nm) gd (by omega)
      (fun _ _ e => e) (fun h' u tk k => ⟨.str _, H, I.kept k, ⟨_, rfl⟩, q⟩) hz
  | tuple h1 h2 h3 h4 =>
    exact repr_of_reads' (.tuple h1 h2 h3 h4) hs (fun _ => nm) gd (by omega)
      (fun _ _ e => e) (fun h' u tk k => ⟨.str _, H, I.kept k, ⟨_, rfl⟩, q⟩) hz
  | dict h1 h2 h3 h4 h5 =>
    exact repr_of_reads' (.dict h1 h2 h3 h4 h5) hs (fun _ => nm) gd (by omega)
      (fun _ _ e => e) (fun h' u tk k => ⟨.str _, H, I.kept k, ⟨_, rfl⟩, q⟩) hz

/-- a list display, its place not that of sys.modules -/
def tLstS (t : TA) : TE := fun σ H Q => t σ H fun xs H1 => xs.length ≤ sizeLine ∧
  ∀ p, H1 p = none → p ≠ sysModules → Q (.ref p) (upd H1 p (.lst xs))
theorem pe_lstS {es : List Expr} {t : TA} {pos : Pos} (h : PA X es t) : PE X (.List es pos) (tLstS t) := by
  refine ⟨fun pins s σ H Q I hq => ?_⟩
  refine wpAny_List_spliced (thn (h.run pos pins s σ H _ I hq) fun us s1 ⟨xs, H1, I1, r, z, q⟩ =>
    ⟨by rw [← r.length]; exact z, ?_⟩)
  have fr : H1 s1.heap.objs.size = none := I1.hok.fresh (Nat.le_refl _)
  refine ⟨.ref s1.heap.objs.size, upd H1 s1.heap.objs.size (.lst xs), I1.laid (t' := s1.toks)
    (fun b u e => Heap.get?_push_of_some _ e) (Nat.le_refl _) ?_, rfl, q _ fr (Nat.ne_of_gt I1.big)⟩
  exact ⟨z, us, 0, r, Heap.get?_push_size _ rfl⟩

/-- isinstance(x, T) for data and a built-in T -/
def tyD : PyData → String
  | .none => "NoneType"
  | .bool _ => "bool"
  | .int _ => "int"
  | .str _ => "str"
  | .list _ => "list"
  | .tuple _ => "tuple"
  | .dict _ => "dict"
theorem Da.ty {K : PySem.W.Frag} {H : Hp} {v : V} {d : PyData} (h : Da H v d) :
    TyX K H v (.type (tyD d)) := by
  cases h with
  | non => exact .base .non
  | bl b => exact .base (.bl b)
  | int i => exact .base (.int i)
  | str x => exact .base (.str x)
  | lst n h t => exact .base (.lst h)
  | tup h t => exact .base (.tup h)
  | dic h t => exact .base (.dK h)
end

/-- the heap without what stands at r -/
def hide (r : Addr) (H : Hp) : Hp := fun q => if q = r then none else H q
theorem hide_same (r : Addr) (H : Hp) : Same (hide r H) H := fun b o e => by
  unfold hide at e
  split at e
  · cases e
  · exact e
theorem hide_get {r b : Addr} {H : Hp} {o : HO} (n : b ≠ r) (h : H b = some o) : hide r H b = some o := by
  unfold hide
  rw [if_neg n]
  exact h
end G
/-! The end of a row from a law's promise that may use that no repr is under way. -/
namespace G
open PySem PySem.Spec PyProof.Rows L2

theorem law_callG {P : Program} {w : World} {K : PySem.W.Frag} {mg mb : Str → Option Value} {k : Nat}
    {f a : Addr} {fd : FuncData} {x : Str} {sp : Sp} {st : Shared} {us : List Value} {ns : List Int}
    (inK : K.In st.heap) (hg : st.heap.Ns mainGlobals mg) (hb : st.heap.Ns builtinsNs mb)
    (bb : ∀ y : Str, y ≠ "__name__" → mb y = bootBuiltins y) (nl : st.heap.NoLimit)
    (gn : st.gens = #[])
    (ho : st.heap.get? a = some { cls := .type "list", data := .seq us.toArray }) (hi : IntsAre us ns)
    (hl : ns.length ≤ sizeLine) (rm : Room k callerA)
    (F : ∀ bs : Heap, K.In bs → bs.Ns mainGlobals mg → FnG P w K mg bs CX0 k f fd [x] sp)
    (bind : ∀ (s : Shared) (u : Value), BindsTo s fd ⟨[u], []⟩ [(x, u)])
    (hsp : ∀ H : Hp, Only H → SqL K H a (ns.map V.int) →
      sp [.ref a] H (fun v _ => v = .bl true) fun _ _ _ => False) :
    codeAny (model P w) callerA (.call (.ref f) ⟨[.ref a], []⟩)
      (fun r s' => r = .ok (.ret (.bool true)) ∧ OldK st.heap s'.heap ∧ s'.os = st.os ∧
        AllBare s'.gens) st := by
  have vls := vals_ints hi
  have len := hi.length
  have main : ∀ H : Hp, Only H → SqL K H a (ns.map V.int) → HOk P w H st.heap →
      (∀ b, H b ≠ none → b = a) → (H a ≠ none → K.lookup a = none) →
      codeAny (model P w) callerA (.call (.ref f) ⟨[.ref a], []⟩)
        (fun r s' => r = .ok (.ret (.bool true)) ∧ OldK st.heap s'.heap ∧ s'.os = st.os ∧
          AllBare s'.gens) st := by
    intro H only sq hok at_a noK
    have dict_free : ∀ {b : Addr} {o : Obj} {es : Array DictEntry} {ep : Nat},
        st.heap.get? b = some o → o.data = .dict es ep → H b = none := by
      intro b o es ep e d
      cases q : H b with
      | none => rfl
      | some z =>
        have e2 : b = a := at_a b (by rw [q]; simp)
        rw [e2, ho] at e
        cases e
        cases (show Data.seq us.toArray _ = Data.dict es ep from d)
    have keepN : ∀ {b : Addr} {m : Str → Option Value}, st.heap.Ns b m →
        (hidT st.heap H).Ns b m := by
      rintro b m ⟨o, es, ep, e, d, r⟩
      exact ⟨o, es, ep, hidT_get e (dict_free e d), d, r⟩
    have inB : K.In (hidT st.heap H) := by
      intro b o e
      refine hidT_get (inK b o e) ?_
      cases q : H b with
      | none => rfl
      | some z =>
        have e2 : b = a := at_a b (by rw [q]; simp)
        subst e2
        rw [noK (by rw [q]; simp)] at e
        cases e
    obtain ⟨mc, n1, n2⟩ := nl
    have md : Mod K mg (hidT st.heap H) := ⟨inB, keepN hg, ⟨mb, keepN hb, bb⟩, mc, keepN n1, n2⟩
    have ev : Env0 P w K mg (hidT st.heap H) callerA [] st H :=
      ⟨rfl, md, fun b o e => of_hidT e, Nat.le_of_eq (hidT_size _ _), trivial,
        fun b z => (by simp [frs] at z), hok, .of_eq gn⟩
    refine codeAny_mono ((F _ inB (keepN hg)).runG callerA [] st H ⟨[.ref a], []⟩ [.ref a] [.ref a]
      _ _ rfl rm ev (bind st (.ref a)) (.cons rfl .nil) (hsp H only sq)) fun r s2 z => ?_
    cases r with
    | error e => exact z.elim
    | ok fl =>
      cases fl with
      | next => exact z.elim
      | brk => exact z.elim
      | cont => exact z.elim
      | ret u =>
        obtain ⟨v, H2, os, bare, un, hok2, rv, q⟩ := z
        have qv : v = .bl true := q
        subst qv
        obtain rfl : u = Value.bool true := rv
        refine ⟨rfl, OldK.of_keep fun b o e => ?_, os, bare⟩
        cases q2 : H b with
        | none => exact un.keep b o e q2 (fun z => by simp [frs] at z) (by simp)
        | some z =>
          rcases only b with y | ⟨ob, xs, y⟩
          · rw [q2] at y
            cases y
          · obtain ⟨m1, _⟩ := hok b _ y
            obtain ⟨m2, _⟩ := hok2 b _ (un.frzs b ob _ y)
            rw [e] at m1
            cases m1
            exact m2
  cases hk : K.lookup a with
  | some o =>
    have e := inK a o hk
    rw [ho] at e
    cases e
    refine main (fun _ => none) (fun _ => .inl rfl) (.inr ⟨_, us.toArray, _, hk, rfl, rfl, rfl, ?_, ?_⟩)
      (fun b u z => nomatch (show (none : Option HO) = some u from z)) (fun b z => absurd rfl z)
      fun z => absurd rfl z
    · rw [List.size_toArray, len]
      exact hl
    · simpa using vls
  | none =>
    refine main (fun b => if b = a then some (.frz { cls := .type "list", data := .seq us.toArray }
      (.lst (ns.map V.int))) else none) (fun b => ?_) (.inl (.inr ⟨_, if_pos rfl⟩)) (fun b u z => ?_)
      (fun b z => ?_) fun _ => hk
    · by_cases e : b = a
      · exact .inr ⟨_, _, if_pos e⟩
      · exact .inl (if_neg e)
    · by_cases e : b = a
      · have z2 := (if_pos e).symm.trans z
        cases z2
        subst e
        exact ⟨ho, by rw [List.length_map]; exact hl, us, _, vls, ho⟩
      · have z2 := (if_neg e).symm.trans z
        cases z2
    · by_cases e : b = a
      · exact e
      · exact absurd (if_neg e) z

/-- the goal that the head leaves -/
theorem walk_ofG {l : PySem.W.OpenLaw} {n k : Nat} {q : Program} {loose : List Str}
    {XP : (Str → Option Value) → Heap → Prop} {YP : World → Heap → Prop} {d : DefRec}
    {K : Params → PySem.W.Frag} {sp : World → Sp} {x : Str} (hn : l.most = some n) (n2 : n ≤ sizeLine)
    (hd : d.params.defaults = []) (rm : Room k callerA)
    (hY : ∀ (w : World) (h : Heap), YP w h → (K w.params).In h)
    (F : ∀ (w : World) (mg : Str → Option Value) (fa : Addr) (h : Heap), (K w.params).In h →
      h.Ns mainGlobals mg → mg d.name = some (.ref fa) →
      ∃ fd : FuncData, (∀ (s : Shared) (u : Value), BindsTo s fd ⟨[u], []⟩ [(x, u)]) ∧
        ∀ bs : Heap, (K w.params).In bs → bs.Ns mainGlobals mg →
          FnG l.prog w (K w.params) mg bs CX0 k fa fd [x] (sp w))
    (hsp : ∀ (w : World) (H : Hp) (a : Addr) (ns : List Int), ns.length ≤ n → Only H →
      SqL (K w.params) H a (ns.map V.int) →
      sp w [.ref a] H (fun v _ => v = .bl true) fun _ _ _ => False) :
    PySem.W.WalkO q loose XP YP l.row.toRowW d [] (fun f vs => PySem.call f vs) := by
  refine Att.attach_call hn hd
    fun w s0 s1 mg mb fa o pm cd doc a us ns Gr Y _ _ _ hmg hobj hints hlen gn => ?_
  have inK := hY w _ Y
  obtain ⟨fd, hb, hF⟩ := F w mg fa _ inK Gr.T.g hmg
  exact law_callG inK Gr.T.g Gr.T.b Gr.T.builtins Gr.T.nolimit gn hobj hints
    (Nat.le_trans hlen n2) rm hF hb fun H hO hS => hsp w H a ns hlen hO hS
end G
/-! What the laws' texts have in common: the drawn numbers, heaps that grow, data that can be shown. -/
namespace G
open PySem PySem.Spec PyProof.Rows L2

def Rng (H : Hp) (r : Addr) : Prop :=
  ∃ a b : Int, H r = some (.lst [.int a, .int b]) ∧ 0 ≤ a ∧ 0 ≤ b ∧ b < 2147483587
/-- all but what stands at r is kept -/
def Ext (r : Addr) (H H' : Hp) : Prop := ∀ q o, q ≠ r → H q = some o → H' q = some o
theorem Ext.refl (r : Addr) (H : Hp) : Ext r H H := fun _ _ _ h => h
theorem Ext.trans {r : Addr} {H H1 H2 : Hp} (a : Ext r H H1) (b : Ext r H1 H2) : Ext r H H2 :=
  fun q o n h => b q o n (a q o n h)
theorem Ext.new {r p : Addr} {H : Hp} {o : HO} (h : H p = Option.none) : Ext r H (upd H p o) :=
  fun q u _ e => by rw [upd_ne (ne_of_none e h)]; exact e
theorem Ext.at {r : Addr} {H : Hp} {o : HO} : Ext r H (upd H r o) :=
  fun q u n e => by rw [upd_ne n]; exact e
theorem Ext.of {r : Addr} {H H' : Hp} (h : Same H H') : Ext r H H' := fun q o _ e => h q o e
theorem Ext.none {r p : Addr} {H H' : Hp} (e : Ext r H H') (n : p ≠ r) (h : H' p = Option.none) : H p = Option.none := by
  cases z : H p with
  | none => rfl
  | some o =>
    rw [e p o n z] at h
    cases h
theorem Rng.same {r : Addr} {H H' : Hp} (R : Rng H r) (s : Same H H') : Rng H' r := by
  obtain ⟨a, b, e, z⟩ := R
  exact ⟨a, b, s _ _ e, z⟩
theorem Rng.new {r p : Addr} {H : Hp} {o : HO} (R : Rng H r) (h : H p = Option.none) : Rng (upd H p o) r := by
  obtain ⟨a, b, e, z⟩ := R
  exact ⟨a, b, by rw [upd_ne (ne_of_none e h)]; exact e, z⟩
theorem Rng.put {r p : Addr} {H : Hp} {o : HO} (R : Rng H r) (h : p ≠ r) : Rng (upd H p o) r := by
  obtain ⟨a, b, e, z⟩ := R
  exact ⟨a, b, by rw [upd_ne h.symm]; exact e, z⟩
theorem Rng.free {r p : Addr} {H : Hp} (R : Rng H r) (h : H p = Option.none) : r ≠ p := by
  obtain ⟨a, b, e, z⟩ := R
  exact ne_of_none e h
theorem Rng.ne {r p : Addr} {H : Hp} {o : HO} (R : Rng H r) (h : H p = some o) (n : ∀ a b, o ≠ .lst [.int a, .int b]) : p ≠ r := by
  obtain ⟨a, b, e, z⟩ := R
  exact ne_of h e (n a b)
theorem new_same {p : Addr} {J : Hp} {o : HO} (h : J p = none) : Same J (upd J p o) :=
  fun b u e => by rw [upd_ne (ne_of_none e h)]; exact e

def spRng (K : PySem.W.Frag) : Sp := fun vs H Q _ => ∃ (a : Addr) (ns : List Int) (k : Int),
  vs = [.ref a, .int k] ∧ SqL K H a (ns.map V.int) ∧ 0 ≤ k ∧ k ≤ 1000 ∧
  ∀ r H', H r = none → Same H H' → Rng H' r → Q (.ref r) H'
def spDraw : Sp := fun vs H Q _ => ∃ (r : Addr) (m : Int), vs = [.ref r, .int m] ∧ Rng H r ∧ 0 < m ∧
  m.natAbs < 2 ^ 250 ∧ ∀ (d : Int) (H' : Hp), Ext r H H' → Rng H' r → 0 ≤ d → d < m → Q (.int d) H'
def spChoice (K : PySem.W.Frag) : Sp := fun vs H Q _ => ∃ (r l : Addr) (xs : List V),
  vs = [.ref r, .ref l] ∧ Rng H r ∧ SqL K H l xs ∧ l ≠ r ∧ 0 < xs.length ∧ xs.length ≤ 1000 ∧
  ∀ (v : V) (H' : Hp), Ext r H H' → Rng H' r → v ∈ xs → Q v H'
theorem Ext.sqL {K : PySem.W.Frag} {r a : Addr} {H H' : Hp} {xs : List V} (e : Ext r H H') (n : a ≠ r)
    (h : SqL K H a xs) : SqL K H' a xs := by
  rcases h with (h | ⟨o, h⟩) | h
  · exact .inl (.inl (e _ _ n h))
  · exact .inl (.inr ⟨o, e _ _ n h⟩)
  · exact .inr h
theorem sq_ext {K : PySem.W.Frag} {r a : Addr} {J0 J : Hp} {xs : List V} (h : SqL K J0 a xs) (n : J0 r = none)
    (e : Ext r J0 J) : SqL K J a xs := by
  rcases h with (h | ⟨o, h⟩) | h
  · exact .inl (.inl (e _ _ (ne_of_none h n) h))
  · exact .inl (.inr ⟨o, e _ _ (ne_of_none h n) h⟩)
  · exact .inr h
theorem at_in {α : Type} {xs : List α} {i : Int} {v : α} (h0 : 0 ≤ i)
    (h : xs[i.toNat]? = some v) : atI xs i = some v := by
  have e : i = ((i.toNat : Nat) : Int) := by omega
  rw [e]
  exact atI_nat h
theorem at_mem {α : Type} {xs : List α} {i : Int} (h0 : 0 ≤ i) (h1 : i < xs.length) :
    ∃ c, atI xs i = some c ∧ c ∈ xs := by
  have h2 : i.toNat < xs.length := by omega
  exact ⟨xs[i.toNat], at_in h0 (by simp [h2]), List.getElem_mem _⟩
theorem yesT {σ : L2.St} {H : Hp} {a b : Hp → Prop} (h : a H) :
    tYes σ H fun k J => if k = true then a J else b J := by
  show if true = true then a H else b H
  exact iteT h
theorem take_next {α : Type} {l : List α} {i : Nat} {c : α} (h : l[i]? = some c) :
    l.take (i + 1) = l.take i ++ [c] := by
  rw [List.take_add_one, h]
  rfl
def okB (d : PyData) : Bool :=
  d.showable && d.leavesShort 600 && decide (d.weight ≤ 20000) && decide (d.depth ≤ 60)
theorem okd {d : PyData} (h : okB d = true) : OkD d := by
  simp only [okB, Bool.and_eq_true, decide_eq_true_eq] at h
  exact ⟨h.1.1.1, h.1.1.2, h.1.2, h.2⟩

section
variable {X : Cx} {CX : CXT} {k : Nat} {f : Addr} {fd : FuncData} {ps ks : List Str} {sp : Sp} {E : XK}
  {x : Str} {p pos : Pos} {kws : List Keyword} {tk : TA}
/-- f(k = v, ..), keywords alone: o puts their values in the parameters' order -/
theorem pe_callKw {m : Nat} (oV : List V → List V) (o : List Value → List Value)
    (F : FnOk X.prog X.w X.K X.mg X.base CX k f fd ps sp) (rm : Room k X.A)
    (hg : Gl X x) (hm : X.mg x = some (.ref f)) (hk : PySem.W.keepIn X.K (.ref f) = true)
    (bt : ∀ (s : Shared) (ws : List Value), ws.length = m → BindsTo s fd ⟨[], ks.zip ws⟩ (ps.zip (o ws)))
    (rel : ∀ (zs : List V) (ws : List Value), zs.length = m → Vals zs ws → Vals (oV zs) (o ws)) (hx : Passes CX X E)
    (hkw : PK X kws tk)
    (a1 : (backToKw pos (keywordEach kws X.env)).all (·.1.isSome) = true := by rfl)
    (a2 : (backToKw pos (keywordEach kws X.env)).filterMap (·.1) = ks := by rfl)
    (n1 : (x == ("__debug__" : Str)) = false := by decide)
    (n3 : ((backTo pos (starEach [] X.env)).any (·.1) || (backToKw pos (keywordEach kws X.env)).any (·.1.isNone)) = false := by rfl) :
    PE X (.Call (.Name x p) [] kws pos) (fun σ H Q => tk σ H fun zs H1 => zs.length = m ∧ sp (oV zs) H1 Q E) := by
  refine ⟨fun pins s σ H Q J hw => ?_⟩
  refine wpAny_Call_Name_kw (ld_glob J hg hm ?_ n1)
  refine PySem.W.callWith_KW0 (h₀ := X.base) J.ok.mod.kin hk a1 (thn (hkw.run pos pins s σ H _ J hw)
    fun ws s1 ⟨zs, H1, J1, r1, l1, q1⟩ => ⟨J1.kIn, ?_⟩) n3
  rw [a2]
  have r2 := rel zs ws l1 r1
  refine wpAny_call (codeAny_mono (F.run X.A X.stack s1 H1 ⟨[], ks.zip ws⟩ (o ws) (oV zs) Q E
    rm J1.env0 (bt s1 ws (by rw [← r1.length]; exact l1)) r2 q1) fun r s2 z => ?_)
  cases r with
  | error er => exact hx pins σ H1 s1 er s2 J1 z
  | ok fl =>
    cases fl with
    | ret u => exact J1.after z
    | next => exact z.elim
    | brk => exact z.elim
    | cont => exact z.elim
end
end G
set_option maxHeartbeats 2000000
/-! Errors of the program's own that have fields: made, raised, caught, asked for their class. -/
namespace G
open PySem PySem.Spec PyProof.Rows PySem.Calls PySem.W L2

theorem findObj_dat {K : Frag} {C : Addr} {od : Option Obj} {nm : Str} {a g : Value} (h0 : (clsIn K C).isSome = true)
    (h1 : findIn K (.ref C) nm = some (some a)) (h2 : specialIn K a "__get__" = some (some g))
    (h3 : takesIn K a = some true) : findObj K C od nm = some (.bind g a) := by
  obtain ⟨cd, hc⟩ := Option.isSome_iff_exists.mp h0
  simp [findObj, hc, h1, h2, h3]

section
variable {prog : Program} {w : World} {A : Around} {E : Value → Shared → Prop} {s : Shared} {K : Frag} {x D : Addr} {ox : Obj} {od : Option Obj}
/-- the class of an error that has its fields -/
theorem cls_exc {Q : Option Value → Shared → Prop} (C : ExcC K D) (inK : K.In s.heap) (I : InstAt s.heap x ox D od)
    (h : Q (some (.ref D)) { s with toks := s.toks + 1 }) : wpAny (model prog w) A (getAttr? (.ref x) "__class__") Q E s := by
  have cs : (clsIn K D).isSome = true := by obtain ⟨cd, hc, _⟩ := any_some C.hd; rw [hc]; rfl
  have found : findObj K D od "__class__" = some (.bind (.builtin "getset_descriptor.__get__") (.builtin "object.__class__")) :=
    findObj_dat cs C.ha C.hn C.ht
  obtain ⟨hp, g, d, t, os⟩ := s
  have ty := I.type (M := model prog w)
  have l1 := looks_findIn (M := model prog w) inK C.hg
  have l2 := looks_findIn (M := model prog w) inK C.hk
  have l3 := looks_find (M := model prog w) inK I found
  have sb : Looks (model prog w) hp (isInstance (.ref x) (.type "BaseException")) true := ty.andThen (looks_subIn inK C.hs)
  have n0 : (false && onTheHeap (Value.builtin "BaseException.__getattribute__")) = false := rfl
  have n2 : (Value.builtin "BaseException.__getattribute__" == Value.builtin "object.__getattribute__") = false := by decide +kernel
  have n1 : (onTheHeap (Value.ref D) && Value.builtin "BaseException.__getattribute__" == Value.builtin "object.__getattribute__") = false := by
    rw [n2]; rfl
  unfold getAttr? getAttrBy? getAttrBy
  refine wpAny_bind (wpAny_mkText (wpAny_bind (wpAny_attempt (wpAny_holding (wpAny_bind (ty.at (wpAny_bind (l1.at ?_))))))))
  show wpAny _ _ (if (onTheHeap (Value.ref D) &&
    Value.builtin "BaseException.__getattribute__" == Value.builtin "object.__getattribute__") = true then _ else _) _ _ _
  rw [n1, if_neg Bool.false_ne_true]
  unfold getAttrByItsOwn hookBefore
  refine wpAny_bind ?_
  rw [if_pos (show onTheHeap (Value.ref D) = true from rfl)]
  refine l2.at (wpAny_bind (wpAny_attempt (wpAny_holding ?_)))
  unfold callGetattribute
  rw [n0, if_neg Bool.false_ne_true]
  unfold boundAndCalled
  rw [PySem.F.excAttr_ValueError.ga.bind (.ref x)]
  refine wpAny_bind (wpAny_pure ?_)
  show wpAny _ _ (call (.builtin "BaseException.__getattribute__")
    [.ref x, .str "__class__" t]) _ _ _
  refine wpAny_call (codeAny_call_builtin PySem.F.excAttr_ValueError.ga.plain
    PySem.F.entry_bexc_ga ?_)
  refine @check_slot (model prog w) _ _ ⟨hp, g, d, t + 1, os⟩ "BaseException.__getattribute__" "BaseException"
    "__getattribute__" (.ref x) [.str "__class__" t] [] _ (by decide +kernel) (by decide +kernel) sb
    (PySem.F.args_bexc_ga (.ref x) (.str "__class__" t)) ?_
  unfold Builtin.«object.__getattribute__»
  refine wpAny_bind (wpAny_of_eq (a := ((Value.ref x : Value), [Value.str "__class__" t]))
    (by first | rfl | (simp only [slotArgs]; rfl)) ?_)
  refine wpAny_bind (wpAny_pure (wpAny_bind (ty.at (wpAny_bind (l3.at ?_)))))
  show wpAny _ _ (holding [Value.builtin "object.__class__"] (call (.builtin "getset_descriptor.__get__")
    [.builtin "object.__class__", .ref x, .ref D]) >>= ret) _ _ _
  refine wpAny_bind (wpAny_holding (wpAny_call (class_get (s := ⟨hp, g, d, t + 1, os⟩) (ox := ox)
    (od := od) inK I C.hm ?_)))
  refine wpAny_pure ?_
  show wpAny _ _ (handedOut (.ref D)) _ _ _
  rw [handedOut_of (v := .ref D) rfl]
  first
    | exact wpAny_pure (wpAny_pure h)
    | exact wpAny_pure h
    | exact wpAny_pure (wpAny_bind (wpAny_pure (wpAny_pure h)))
theorem kit_exc (C : ExcC K D) : KitX K (.ref x) (.ref D) (fun h => InstAt h x ox D od) where
  ty := fun _ _ _ I => I.type
  it := fun _ _ inK _ => by
    obtain ⟨cd, hc, _⟩ := any_some C.hd
    unfold clsIn at hc
    split at hc
    · rename_i hob
      intro A' Q' E' s' k q
      unfold isType loadHead
      exact wpAny_bind (wpAny_loadPart (k _ _ (inK _ _ hob)) (wpAny_pure q))
    · cases hc
  ne := fun h tp dd its n sl inK htp => by
    obtain ⟨cd, hc, _⟩ := any_some C.hd
    refine Bool.eq_false_iff.mpr fun q => ?_
    have e : D = tp := Value.ref.inj (beq_iff_eq.mp q)
    subst e
    unfold clsIn at hc
    split at hc
    · rename_i hob
      have z := (inK _ _ hob).symm.trans htp
      cases z
    · cases hc
  ca := fun inK I k => cls_exc C inK I k
end
/-- isinstance(e, c), e the error that the suite holds, its dict at dd -/
theorem call_isX {X : Cx} {a D dd : Addr} {oe : Obj} {pn : List (Addr × Obj)} (C : ExcC X.K D)
    (hz : Zc (.ref D) (some dd) oe) (hf : ∃ vs, oe.data = .fields vs) :
    CallR (X.suite a ((a, oe) :: pn)) (.builtin "isinstance") (fun xs H Q => (∃ fs, H dd = some (.xd fs)) ∧ rIsE X.K D a xs H Q) := by
  intro pins s σ H xs us Q I r h
  obtain ⟨⟨fs, hx⟩, c, cv, b, rfl, hcv, e, q⟩ := h
  obtain ⟨u1, u2, rfl, r1, r2⟩ := vals2 r
  obtain rfl : u1 = Value.ref a := r1
  have ec := hcv _ r2
  subst ec
  obtain ⟨hget, _⟩ := I.pin (a, oe) (List.mem_append.mpr (.inl List.mem_cons_self))
  obtain ⟨vs, hv⟩ := hf
  obtain ⟨mA, ⟨od, es, ep, hod, _⟩, _⟩ := (show ObjOk X.prog X.w H s.heap dd (.xd fs) from I.hok dd _ hx)
  have J : InstAt s.heap a oe D (some od) := by
    obtain ⟨oc, odi, oda, osl⟩ := oe
    obtain ⟨h1, h2⟩ := hz
    dsimp only at h1 h2 hv
    subst h1 h2 hv
    exact ⟨hget, rfl, rfl, hod⟩
  exact kia_one (kit_exc C) I.kIn J e (fun z => nomatch z)
    fun tk => ⟨.bl b, H, I.kept (t' := tk) fun _ _ z => z, rfl, q⟩

/-- an error's own __init__ that keeps one field -/
def spIni (C : Addr) (f : Str) : Sp := fun vs H Q _ => ∃ (a : Addr) (v : V), vs = [.ref a, v] ∧ H a = some (exo a C none) ∧
  ∀ dx, H dx = none → dx ≠ a → Q .non (upd (upd H dx (exd dx [(f, v)])) a (exo a C (some dx)))
/-- what is known of such a class -/
structure XCls (P : Program) (w : World) (K : PySem.W.Frag) (mg : Str → Option Value) (bs : Heap) (nm : Str) (C : Addr) (f : Str) (p : Str) : Prop where
  oex : OexC K C
  xf : XfC K C
  exc : ExcC K C
  no : PySem.W.findIn K (.ref C) f = some none
  gC : mg nm = some (.ref C)
  ini : ∃ (fI : Addr) (fd : FuncData), PySem.W.findIn K (.ref C) "__init__" = some (some (.ref fI)) ∧
    PySem.W.typeIn K (.ref fI) = some (.type "function") ∧ FnOk P w K mg bs CX0 1 fI fd ["self", p] (spIni C f) ∧ Binds K fd ["self", p] []
/-- what the making of such an error comes to -/
theorem made_go {C : Addr} {f : Str} {v : V} {H : Hp} {R : XK} (h : ∀ d, H d = none → R (.ref C) (some d) (upd H d (.xd [(f, v)]))) :
    [v].length ≤ 1000 ∧ ∀ a, H a = none → spIni C f (.ref a :: ([v] ++ [])) (upd H a (exo a C none))
      (fun u H2 => u = .non ∧ ∃ (d : Addr) (fs : List (Str × V)), H2 a = some (exo a C (some d)) ∧ H2 d = some (exd d fs) ∧ H d = none ∧
        R (.ref C) (some d) (upd (del H2 a) d (.xd fs))) (fun _ _ _ => False) := by
  refine ⟨(by show 1 ≤ 1000; decide), fun a ha => ⟨a, v, rfl, upd_same, fun dx hdx ne => ⟨rfl, dx, [(f, v)], upd_same, ?_, ?_, ?_⟩⟩⟩
  · rw [upd_ne ne, upd_same]
  · rw [upd_ne ne] at hdx
    exact hdx
  · have hd : H dx = none := by
      rw [upd_ne ne] at hdx
      exact hdx
    have e : upd (del (upd (upd (upd H a (exo a C none)) dx (exd dx [(f, v)])) a (exo a C (some dx))) a) dx (.xd [(f, v)]) = upd H dx (.xd [(f, v)]) := by
      funext b
      by_cases h1 : b = dx
      · rw [h1, upd_same, upd_same]
      · rw [upd_ne h1, upd_ne h1]
        by_cases h2 : b = a
        · rw [h2, del_same, ha]
        · rw [del_ne h2, upd_ne h2, upd_ne h1, upd_ne h2]
    rw [e]
    exact h dx hd
/-- raise C(e) -/
theorem ps_raiseC {X : Cx} {W : WX} {nm : Str} {C : Addr} {f p : Str} {e : Expr} {te : TE} {np pos pos2 : Pos} (hc : X.calm = true)
    (T : XCls X.prog X.w X.K X.mg X.base nm C f p) (hr : Room 2 X.A) (tk : Takes X W) (hg : Gl X nm) (he : PE X e te)
    (hdb : (nm == ("__debug__" : Str)) = false := by decide) (hs : starEach [e] X.env = (false, eval e X.env) :: starEach [] X.env := by rfl) :
    PS X (.Raise (some (.Call (.Name nm np) [e] [] pos)) none pos2)
      (fun _ σ H => tMkO C (spIni C f) [] (tCons te tNil) σ H fun cls d H' => W cls d σ H') := by
  obtain ⟨fI, fd, h1, h2, h3, h4⟩ := T.ini
  exact ps_raise (pos := pos2) hc tk (pmk_oex (pos := pos) (p := np) T.oex h1 h2 h3 hr h4 .nil (fun _ _ _ _ _ _ _ h => h.elim) hg T.gC (pa_cons he pa_nil hs) hdb hs)
/-- the __init__ of such a class: self.f = p -/
theorem ok_ini {P : Program} {w : World} {K : PySem.W.Frag} {mg : Str → Option Value} {bs : Heap} {ql p f : Str} {st : Stmt} {fI C : Addr} {fd : FuncData}
    {q1 q2 q3 q4 : Pos} (F : Fun K "__init__" ql st fI fd) (S : FnScope ["self", p] ["self", p] (defScope st)) (T : OexC K C)
    (no : PySem.W.findIn K (.ref C) f = some none)
    (hb : defBody st = [.Assign [.Attribute (.Name "self" q1) f q2] (.Name p q3) q4])
    (h1 : (defScope st).names.lookup ("self" : Str) = some .local) (h2 : (defScope st).names.lookup p = some .local)
    (n1 : (p == ("__debug__" : Str)) = false) (n2 : (p == ("__classdict__" : Str)) = false) :
    FnOk P w K mg bs CX0 1 fI fd ["self", p] (spIni C f) := by
  refine F.ok S (fun vs H Q E h => ?_) (fun cdv A outer s H vs Q E hr h => ?_)
  · obtain ⟨a, v, rfl, _⟩ := h
    rfl
  · obtain ⟨a, v, rfl, ha, q⟩ := h
    rw [hb]
    refine ⟨_, pss_one (ps_ost (pe_var (i := 0) rfl (.inl h1) (by decide) (by decide)) (pe_var (i := 1) rfl (.inl h2) n1 n2)), ?_⟩
    exact ⟨_, rfl, _, rfl, a, C, rfl, T, no, .inl ⟨ha, fun dx hd ne => q dx hd ne⟩⟩

/-- as okG, for a def that errors may leave -/
theorem okGX {P : Program} {w : World} {K : PySem.W.Frag} {mg : Str → Option Value} {bs : Heap} {x ql : Str} {st : Stmt} {f : Addr} {fd : FuncData} {N ps : List Str} {k : Nat} {sp : Sp}
    (F : Fun K x ql st f fd) (S : FnScope N ps (defScope st)) (ln : ∀ vs H Q E, sp vs H Q E → vs.length = ps.length)
    (hb : ∀ (cv : Value) (A : Around) (ou : List Env) (s : Shared) (H : Hp) (vs : List V) (Q : VK) (E : XK), A.guards = some [] →
      Room k (A.deeper (envOfC ql (defScope st) s.heap.objs.size f cv)) → sp vs H Q E →
      ∃ t, PSs (cxOf (L2.CX P w) P w K mg bs N ql (defScope st) f cv A ou s H E) (defBody st) t ∧
        t { nx := fun _ J => Q .non J, rt := Q } (start N vs) H) : FnG P w K mg bs (L2.CX P w) (k + 1) f fd ps sp := by
  obtain ⟨oc, od, kV, doc, pm, an, cdv, ct, osl, rfl, lk, hcd⟩ := F.ex
  exact fn_ofG lk hcd S ln fun A ou s H vs Q E gd rm pr => hb cdv A ou s H vs Q E gd rm pr
end G
set_option maxHeartbeats 2000000
namespace G
open PySem PySem.Spec PyProof.Rows PySem.Calls PySem.W L2
section
variable {X : Cx}
/-- s[::-1] of a text: some text of no more signs, all of them its own -/
def tRevS (te : TE) : TE := fun σ H Q => te σ H fun x H1 => ∃ z : Str, x = .str z ∧ z.length ≤ sizeLine ∧
  ∀ y : Str, y.length ≤ z.length → (∀ c ∈ y.cps.toList, c ∈ z.cps.toList) → Q (.str y) H1
theorem pe_revS {e : Expr} {te : TE} {k : Nat} {p1 p2 p3 pos : Pos} (he : PE X e te) :
    PE X (.Subscript e (.Slice none none (some (.UnaryOp .USub (.Constant (.int 1) k p1) p2)) p3) pos) (tRevS te) := by
  refine ⟨fun pins s σ H Q I h => ?_⟩
  refine Subscript_ (thn (he.run pins s σ H _ I h) fun v s1 ⟨x, H1, I1, r1, q1⟩ => ?_)
  obtain ⟨z, ex, hz, q⟩ := q1
  subst ex
  obtain ⟨tz, rfl⟩ := r1
  have stp : PO X (some (.UnaryOp .USub (.Constant (.int 1) k p1) p2)) (tPart (tUn (rU fun i => .int (-i)) (tC (.int 1)))) :=
    po_some (pe_un un_neg pe_int)
  refine wpAny_Slice (thn (po_none.run pins s1 σ H1 (fun o J => o = none ∧ J = H1) I1 ⟨rfl, rfl⟩)
    fun vl s2 ⟨l, H2, I2, pl, el, e2⟩ => ?_)
  subst el e2
  refine thn (po_none.run pins s2 σ H2 (fun o J => o = none ∧ J = H2) I2 ⟨rfl, rfl⟩)
    fun vu s3 ⟨u, H3, I3, pu, eu, e3⟩ => ?_
  subst eu e3
  refine thn (stp.run pins s3 σ H3 (fun o J => o = some (-1) ∧ J = H3) I3 ⟨1, rfl, -1, rfl, rfl, rfl⟩)
    fun vs s4 ⟨o, H4, I4, ps, eo, e4⟩ => ?_
  subst eo e4
  obtain ⟨l', rfl, el⟩ := IsPart.raw pl
  obtain ⟨u', rfl, eu⟩ := IsPart.raw pu
  obtain ⟨st', rfl, es⟩ := IsPart.raw ps
  have I5 : Inv X pins σ H4 { s4 with heap := s4.heap.push { cls := .type "slice", data := .fields #[partValue l', partValue u', partValue st'] } } :=
    I4.kept (t' := s4.toks) fun b ob q => Heap.get?_push_of_some _ q
  show wpAny (model X.prog X.w) X.A (subscriptTail e (.Slice none none (some (.UnaryOp .USub (.Constant (.int 1) k p1) p2)) p3)
    (.str z tz) (.ref s4.heap.objs.size)) (EP X pins σ Q) X.xe
    { s4 with heap := s4.heap.push { cls := .type "slice", data := .fields #[partValue l', partValue u', partValue st'] } }
  refine tail_any (ops := [.str z tz, .ref s4.heap.objs.size]) (typeIs_str _ _ _) F.slot_str_getitem.lookup ?_ (by with_unfolding_all rfl)
  refine wpAny_getItem_str_slice (l := l') (u := u') (st := st') ⟨_, Heap.get?_push_size _ rfl, rfl, rfl⟩ (by rw [es]; rfl) ?_
  have pk : (slicePicked z l' u' st').length ≤ z.length := by
    unfold slicePicked Builtin.Str.strSliceIndices
    rw [el, eu, es]
    exact sliceRange_length_le _ _ _ _ (fun h => absurd h (by decide)) (fun _ => ⟨by show (z.length : Int) - 1 ≤ _; omega, by show (-1 : Int) ≤ -1; omega⟩)
  have ly : (⟨((slicePicked z l' u' st').filterMap (z.cps[·]?)).toArray⟩ : Str).length ≤ z.length := by
    show (List.toArray _).size ≤ _
    rw [List.size_toArray]
    exact Nat.le_trans (List.length_filterMap_le _ _) pk
  have cy : ∀ c ∈ (⟨((slicePicked z l' u' st').filterMap (z.cps[·]?)).toArray⟩ : Str).cps.toList, c ∈ z.cps.toList := by
    intro c hc
    have hc2 : c ∈ (slicePicked z l' u' st').filterMap (z.cps[·]?) := by simpa using hc
    obtain ⟨i, _, hi⟩ := List.mem_filterMap.mp hc2
    rw [← Array.getElem?_toList] at hi
    exact List.mem_of_getElem? hi
  have qy := q _ ly cy
  unfold sliceMade
  rw [es]
  show Made.post (if (((some (-1 : Int)).getD 1 == 1) && _) = true then _ else _) _ _
  rw [show ((some (-1 : Int)).getD 1 == 1) = false from rfl, Bool.false_and, if_neg Bool.false_ne_true]
  exact ⟨Nat.le_trans ly hz, .str _, H4, I5.tok _, ⟨_, rfl⟩, qy⟩
end
end G
namespace N4
open PySem L2 G
abbrev Wn := Int × Option Int
abbrev DIG : Str := "0123456789"
abbrev DOT : Str := ".."
def dig (c : Nat) : Bool := decide (c ∈ DIG.cps.toList)
theorem digL : DIG.cps.toList = [48, 49, 50, 51, 52, 53, 54, 55, 56, 57] := by decide +kernel
theorem dig_iff (c : Nat) : dig c = true ↔ 48 ≤ c ∧ c ≤ 57 := by
  unfold dig
  rw [decide_eq_true_eq, digL]
  simp only [List.mem_cons, List.not_mem_nil, or_false]
  omega
def hd0 (z : Str) : Bool := decide (z.cps.toList.head? = some 48)
/-- a number as it is written -/
def canon (z : Str) : Bool := !decide (z = "") && (z.cps.toList.all dig && (decide (z = "0") || !hd0 z))
def val (z : Str) : Int := (NumText.digitsVal z.cps.toList : Nat)
theorem val_nn (z : Str) : 0 ≤ val z := by unfold val; omega
theorem empL : ("" : Str).cps.toList = [] := by decide +kernel
theorem zeroL : ("0" : Str).cps.toList = [48] := by decide +kernel
theorem dotL : DOT.cps.toList = [46, 46] := by decide +kernel
theorem dotLen : DOT.length = 2 := by decide +kernel
theorem canon_parts {z : Str} (h : canon z = true) : NumText.AllDigits z.cps.toList ∧ z.cps.toList ≠ [] ∧ (z = "0" ∨ hd0 z = false) := by
  unfold canon at h
  simp only [Bool.and_eq_true, Bool.or_eq_true, Bool.not_eq_true', decide_eq_true_eq, decide_eq_false_iff_not] at h
  obtain ⟨h1, h2, h3⟩ := h
  refine ⟨fun c hc => ?_, fun e => h1 (TL.ext_tl (by rw [show TL.tl z = [] from e]; exact empL.symm)), h3⟩
  have := List.all_eq_true.mp h2 c hc
  exact (dig_iff c).mp this
theorem canon_int {z : Str} (h : canon z = true) (hl : z.length ≤ 640) : intText? z = some (val z) := by
  obtain ⟨h1, h2, _⟩ := canon_parts h
  exact PySem.intText_digits h1 h2 (Nat.le_trans hl (by decide))
theorem numL_val' {cs : List Nat} (h : NumText.AllDigits cs) (h2 : cs ≠ []) (h3 : cs.length = 1 ∨ ∃ c r, cs = c :: r ∧ 49 ≤ c) : TL.numL (NumText.digitsVal cs) = cs := by
  unfold TL.numL
  obtain ⟨n, hn⟩ : ∃ n, cs.length = n + 1 := by
    cases cs with
    | nil => exact absurd rfl h2
    | cons c r => exact ⟨r.length, rfl⟩
  rw [NumText.toDigits_digitsVal n cs hn h (h3.elim (fun e => .inl (by omega)) .inr), List.map_map]
  have e : cs.map (Char.toNat ∘ Char.ofNat) = cs.map id := by
    apply List.map_congr_left
    intro c hc
    have r := h c hc
    have : ∀ d : Nat, d < 58 → (Char.ofNat d).toNat = d := by decide
    exact this c (by omega)
  rw [e, List.map_id]
theorem canon_str {z : Str} (h : canon z = true) : (Str.ofString (toString (val z)) : Str) = z := by
  obtain ⟨h1, h2, h3⟩ := canon_parts h
  apply TL.ext_tl
  unfold val
  rw [TL.tl_num]
  refine numL_val' h1 h2 ?_
  rcases h3 with rfl | h3
  · left
    rw [zeroL]
    rfl
  · cases e : z.cps.toList with
    | nil => exact absurd e h2
    | cons c r =>
      right
      refine ⟨c, r, rfl, ?_⟩
      have r1 := h1 c (by rw [e]; simp)
      unfold hd0 at h3
      rw [e] at h3
      have : ¬ c = 48 := by simpa using h3
      omega
theorem numL_head : ∀ n : Nat, 0 < n → ∃ c r, TL.numL n = c :: r ∧ 49 ≤ c := by
  intro n
  induction n using Nat.strongRecOn with
  | _ n ih =>
    intro hn
    by_cases h : n < 10
    · exact ⟨48 + n, [], TL.numL_lt h, by omega⟩
    · obtain ⟨c, r, e, hc⟩ := ih (n / 10) (by omega) (by omega)
      exact ⟨c, r ++ [48 + n % 10], by rw [TL.numL_step (by omega), e]; rfl, hc⟩
theorem canon_num (n : Nat) : canon (Str.ofString (toString (n : Int))) = true := by
  have e := TL.tl_num n
  unfold canon
  have e1 : ¬ (Str.ofString (toString (n : Int)) = ("" : Str)) := by
    intro z
    have := congrArg TL.tl z
    rw [e] at this
    exact TL.numL_ne n (this.trans empL)
  have e2 : (Str.ofString (toString (n : Int))).cps.toList.all dig = true := by
    rw [show (Str.ofString (toString (n : Int))).cps.toList = TL.numL n from e]
    exact List.all_eq_true.mpr fun c hc => (dig_iff c).mpr (TL.numL_digits n c hc)
  rw [decide_eq_false e1, e2]
  simp only [Bool.not_false, Bool.true_and, Bool.or_eq_true, decide_eq_true_eq, Bool.not_eq_true']
  by_cases h0 : n = 0
  · left
    subst h0
    decide +kernel
  · right
    obtain ⟨c, r, e3, hc⟩ := numL_head n (by omega)
    unfold hd0
    rw [show (Str.ofString (toString (n : Int))).cps.toList = TL.numL n from e, e3]
    simp
    omega
theorem val_num (n : Nat) : val (Str.ofString (toString (n : Int))) = n := by
  unfold val
  rw [show (Str.ofString (toString (n : Int))).cps.toList = TL.numL n from TL.tl_num n, TL.numL_val]
/-- the text of an int -/
def tx (i : Int) : Str := Str.ofString (toString i)
theorem canon_tx {i : Int} (h : 0 ≤ i) : canon (tx i) = true := by
  have e : i = ((i.toNat : Nat) : Int) := by omega
  unfold tx
  rw [e]
  exact canon_num _
theorem val_tx {i : Int} (h : 0 ≤ i) : val (tx i) = i := by
  have e : i = ((i.toNat : Nat) : Int) := by omega
  unfold tx
  rw [e]
  exact val_num _
theorem tx_val {z : Str} (h : canon z = true) : tx (val z) = z := canon_str h
theorem fold_lt : ∀ (cs : List Nat) (acc : Nat), NumText.AllDigits cs → cs.foldl (fun acc c => acc * 10 + (c - 48)) acc < (acc + 1) * 10 ^ cs.length
  | [], acc, _ => by simp
  | c :: r, acc, h => by
    have hc := h c (by simp)
    have ih := fold_lt r (acc * 10 + (c - 48)) fun x hx => h x (by simp [hx])
    rw [List.foldl_cons, List.length_cons, Nat.pow_succ]
    refine Nat.lt_of_lt_of_le ih ?_
    have e : (acc + 1) * (10 ^ r.length * 10) = ((acc + 1) * 10) * 10 ^ r.length := by
      rw [Nat.mul_comm (10 ^ r.length) 10, Nat.mul_assoc]
    rw [e]
    exact Nat.mul_le_mul_right _ (by omega)
theorem val_lt {z : Str} (h : canon z = true) {n : Nat} (hl : z.length ≤ n) : (val z).natAbs < 10 ^ n := by
  have q := fold_lt z.cps.toList 0 (canon_parts h).1
  have e : z.cps.toList.length = z.length := by simp [Str.length]
  rw [e, Nat.zero_add, Nat.one_mul] at q
  unfold val
  have : (NumText.digitsVal z.cps.toList) < 10 ^ z.length := q
  exact Nat.lt_of_lt_of_le (by simpa using this) (Nat.pow_le_pow_right (by decide) hl)
theorem tx_len {i : Int} (h0 : 0 ≤ i) (h : i.natAbs < 10 ^ 130) : (tx i).length ≤ 130 := by
  have e : i = ((i.toNat : Nat) : Int) := by omega
  unfold tx
  rw [e, TL.len_tl, TL.tl_num]
  exact TL.numL_len (by decide) (by omega)
theorem tx_free {i : Int} (h : 0 ≤ i) : 46 ∉ TL.tl (tx i) := by
  have e : i = ((i.toNat : Nat) : Int) := by omega
  unfold tx
  rw [e, TL.tl_num]
  exact TL.numL_free (.inl (by decide))

def pB (z : Str) : Str := (Txt.partition z DOT).1
def pS (z : Str) : Str := (Txt.partition z DOT).2.1
def pA (z : Str) : Str := (Txt.partition z DOT).2.2
/-- what a text is read as -/
def readW (z : Str) : Option Wn :=
  if pS z = "" ∨ canon (pB z) = false then none
  else if pA z = "" then some (val (pB z), none)
  else if canon (pA z) = false ∨ val (pA z) < val (pB z) then none
  else some (val (pB z), some (val (pA z)))
def hT : Option Int → Str
  | none => ""
  | some x => tx x
def fmtW (w : Wn) : Str := tx w.1 ++ DOT ++ hT w.2
theorem app_nil (z : Str) : z ++ ("" : Str) = z := TL.ext_tl (by rw [TL.tl_append, show TL.tl ("" : Str) = [] from empL, List.append_nil])
theorem nil_app (z : Str) : (Str.empty : Str) ++ z = z := TL.ext_tl (by rw [TL.tl_append]; rfl)
theorem tx_ne {i : Int} (h : 0 ≤ i) : tx i ≠ "" := by
  intro e
  have c := (canon_parts (canon_tx h)).2.1
  rw [e] at c
  exact c empL
theorem part_fmt {w : Wn} (h0 : 0 ≤ w.1) : Txt.partition (fmtW w) DOT = (tx w.1, DOT, hT w.2) :=
  TL.partition_app (s := 46) (S := [46]) dotL (tx_free h0)
theorem dot_ne : ¬ (DOT = ("" : Str)) := by decide +kernel
theorem read_fmt {w : Wn} (h0 : 0 ≤ w.1) (h1 : ∀ x, w.2 = some x → w.1 ≤ x) : readW (fmtW w) = some w := by
  unfold readW pS pB pA
  rw [part_fmt h0]
  simp only [canon_tx h0, dot_ne, false_or, Bool.true_eq_false, if_false, val_tx h0]
  obtain ⟨l, o⟩ := w
  cases o with
  | none => simp [hT]
  | some x =>
    have hx : 0 ≤ x := Int.le_trans h0 (h1 x rfl)
    have e1 : ¬ (tx x = "") := tx_ne hx
    have e2 : ¬ x < l := by have : l ≤ x := h1 x rfl; omega
    show (if tx x = "" then _ else if canon (tx x) = false ∨ val (tx x) < l then none else some (l, some (val (tx x)))) = _
    rw [if_neg e1, canon_tx hx, val_tx hx]
    simp [e2]
/-- the text is cut at the first two dots -/
theorem part_cases (z : Str) : (Txt.find z DOT = -1 ∧ pS z = "" ∧ pB z = z) ∨
    ∃ i : Nat, Txt.find z DOT = (i : Int) ∧ pS z = DOT ∧ pB z = cutS z none (some (i : Int)) ∧ pA z = cutS z (some ((i : Int) + 2)) none ∧ z = pB z ++ DOT ++ pA z := by
  rcases PyProof.Rows.partition_whole z DOT with ⟨e, hn⟩ | ⟨i, e, hi, hn⟩
  · left
    rcases PyProof.Rows.find_whole z DOT with ⟨f, _⟩ | ⟨j, _, hj, _⟩
    · exact ⟨f, by unfold pS; rw [e]; rfl, by unfold pB; rw [e]⟩
    · exact absurd hj (hn j)
  · right
    rcases PyProof.Rows.find_whole z DOT with ⟨_, hf⟩ | ⟨j, f, hj, hjn⟩
    · exact absurd hi (hf i)
    · have ij : i = j := by
        by_cases h1 : i < j
        · exact absurd hi (hjn i h1)
        · by_cases h2 : j < i
          · exact absurd hj (hn j h2)
          · omega
      subst ij
      have hb : i + 2 ≤ z.length := by have := hi.1; rw [dotLen] at this; exact this
      have lz := TL.len_tl z
      refine ⟨i, f, by unfold pS; rw [e], ?_, ?_, ?_⟩
      · unfold pB
        rw [e]
        apply TL.ext_tl
        rw [TL.tl_strSub]
        show _ = (List.toArray _).toList
        rw [HT.sIx_none, HT.sIx_nat]
        simp only [List.drop_zero, Nat.sub_zero]
        rw [show min i z.length = i by omega]
      · unfold pA
        rw [e, dotLen]
        apply TL.ext_tl
        rw [TL.tl_strSub_end]
        show _ = (List.toArray _).toList
        rw [HT.sIx_none, show ((i : Int) + 2) = ((i + 2 : Nat) : Int) by omega, HT.sIx_nat, show min (i + 2) z.length = i + 2 by omega]
        rw [List.take_of_length_le (by rw [List.length_drop, lz]; exact Nat.le_refl _)]
      · have q := StrLaws.sub_cat z DOT (a := 0) (Nat.zero_le i) hi
        unfold pB pA
        rw [e]
        show z = Builtin.Str.strSub z 0 i ++ DOT ++ Builtin.Str.strSub z (i + DOT.length) z.length
        rw [q]
        apply TL.ext_tl
        rw [TL.tl_strSub_end]
        rfl
theorem fmt_read {z : Str} {w : Wn} (h : readW z = some w) : fmtW w = z ∧ 0 ≤ w.1 ∧ ∀ x, w.2 = some x → w.1 ≤ x := by
  unfold readW at h
  by_cases c1 : pS z = "" ∨ canon (pB z) = false
  · rw [if_pos c1] at h
    cases h
  · rw [if_neg c1] at h
    have c2 : canon (pB z) = true := by
      cases q : canon (pB z) with
      | true => rfl
      | false => exact absurd (.inr q) c1
    rcases part_cases z with ⟨_, e, _⟩ | ⟨i, _, _, _, _, ez⟩
    · exact absurd (.inl e) c1
    · by_cases c3 : pA z = ""
      · rw [if_pos c3] at h
        cases h
        refine ⟨?_, val_nn _, fun x e => by cases e⟩
        unfold fmtW
        show tx (val (pB z)) ++ DOT ++ "" = z
        rw [tx_val c2]
        rw [c3] at ez
        exact ez.symm
      · rw [if_neg c3] at h
        by_cases c4 : canon (pA z) = false ∨ val (pA z) < val (pB z)
        · rw [if_pos c4] at h
          cases h
        · rw [if_neg c4] at h
          cases h
          have c5 : canon (pA z) = true := by
            cases q : canon (pA z) with
            | true => rfl
            | false => exact absurd (.inl q) c4
          refine ⟨?_, val_nn _, fun x e => ?_⟩
          · unfold fmtW
            show tx (val (pB z)) ++ DOT ++ tx (val (pA z)) = z
            rw [tx_val c2, tx_val c5]
            exact ez.symm
          · cases e
            show val (pB z) ≤ val (pA z)
            have : ¬ val (pA z) < val (pB z) := fun q => c4 (.inr q)
            omega
end N4
namespace N4
open PySem L2 G
def tp (i : Nat) : Stmt :=
  PySem.Challenge.pw_groupsteps_k14_window_texts.main.body.getD i (.Pass ⟨0, 0, 0, 0⟩)
abbrev sIniW : Stmt := inClass (tp 2) 0
abbrev sIniT : Stmt := inClass (tp 3) 0
abbrev sIsVer : Stmt := tp 6
abbrev sVT : Stmt := tp 7
abbrev sIsWin : Stmt := tp 9
abbrev sReqWin : Stmt := tp 10
abbrev sFmt : Stmt := tp 11
abbrev sParse : Stmt := tp 12
abbrev sRng : Stmt := tp 14
abbrev sDraw : Stmt := tp 15
abbrev sChoice : Stmt := tp 16
abbrev sText : Stmt := tp 17
abbrev sNumb : Stmt := tp 18
abbrev sRead : Stmt := tp 19
abbrev sWindow : Stmt := tp 20
abbrev sChanged : Stmt := tp 21
abbrev sFormatted : Stmt := tp 22
abbrev sParsed : Stmt := tp 23
abbrev sString : Stmt := tp 24
abbrev sLaw : Stmt := tp 25
structure Txt (mg : Str → Option Value) : Prop where
  len : mg "len" = none
  abs : mg "abs" = none
  max : mg "max" = none
  min : mg "min" = none
  divmod : mg "divmod" = none
  isi : mg "isinstance" = none
  tuple : mg "tuple" = none
  str : mg "str" = none
  int : mg "int" = none
  bool : mg "bool" = none
  all : mg "all" = none
  range : mg "range" = none
  repr : mg "repr" = none
  dgs : ∃ t : Tok, mg "DIGITS" = some (.str DIG t)
def hV : Option Int → V
  | none => .non
  | some x => .int x
def hD : Option Int → PyData
  | none => .none
  | some x => .int x
def WinAt (H : Hp) (t : Addr) (w : Wn) : Prop := H t = some (.tup [.int w.1, hV w.2])
def wD (w : Wn) : PyData := .tuple [.int w.1, hD w.2]
/-- a right window with bounds below 10 ^ 130 -/
def Wk (w : Wn) : Prop := 0 ≤ w.1 ∧ w.1.natAbs < 10 ^ 130 ∧ ∀ x, w.2 = some x → w.1 ≤ x ∧ x.natAbs < 10 ^ 130
theorem hDa {H : Hp} : ∀ h : Option Int, Da H (hV h) (hD h)
  | none => .non
  | some x => .int x
theorem WinAt.da {H : Hp} {t : Addr} {w : Wn} (h : WinAt H t w) : Da H (.ref t) (wD w) :=
  .tup h (.cons (.int _) (.cons (hDa _) .nil))
def verB : PyData → Bool
  | .int i => decide (0 ≤ i)
  | _ => false
def isNone : PyData → Bool
  | .none => true
  | _ => false
def geB : PyData → PyData → Bool
  | .int h, .int l => decide (h ≥ l)
  | _, _ => false
def winB : PyData → Bool
  | .tuple [lo, hi] => verB lo && (isNone hi || (verB hi && geB hi lo))
  | _ => false

def isTuple : PyData → Bool
  | .tuple _ => true
  | _ => false
def isInt : PyData → Bool
  | .int _ => true
  | .bool _ => true
  | _ => false
def isBool : PyData → Bool
  | .bool _ => true
  | _ => false
def isList : PyData → Bool
  | .list _ => true
  | _ => false

def isStr : PyData → Bool
  | .str _ => true
  | _ => false
theorem kTuple {K : PySem.W.Frag} : ∀ d : PyData,
    PySem.W.kitOne K (.type (tyD d)) (.type "tuple") = some (isTuple d)
  | .none => kit_ty (a := "NoneType") (b := "tuple") (r := false) (by decide +kernel)
  | .bool _ => kit_ty (a := "bool") (b := "tuple") (r := false) (by decide +kernel)
  | .int _ => kit_ty (a := "int") (b := "tuple") (r := false) (by decide +kernel)
  | .str _ => kit_ty (a := "str") (b := "tuple") (r := false) (by decide +kernel)
  | .list _ => kit_ty (a := "list") (b := "tuple") (r := false) (by decide +kernel)
  | .tuple _ => kit_ty (a := "tuple") (b := "tuple") (r := true) (by decide +kernel)
  | .dict _ => kit_ty (a := "dict") (b := "tuple") (r := false) (by decide +kernel)
theorem kInt {K : PySem.W.Frag} : ∀ d : PyData,
    PySem.W.kitOne K (.type (tyD d)) (.type "int") = some (isInt d)
  | .none => kit_ty (a := "NoneType") (b := "int") (r := false) (by decide +kernel)
  | .bool _ => kit_ty (a := "bool") (b := "int") (r := true) (by decide +kernel)
  | .int _ => kit_ty (a := "int") (b := "int") (r := true) (by decide +kernel)
  | .str _ => kit_ty (a := "str") (b := "int") (r := false) (by decide +kernel)
  | .list _ => kit_ty (a := "list") (b := "int") (r := false) (by decide +kernel)
  | .tuple _ => kit_ty (a := "tuple") (b := "int") (r := false) (by decide +kernel)
  | .dict _ => kit_ty (a := "dict") (b := "int") (r := false) (by decide +kernel)
theorem kBool {K : PySem.W.Frag} : ∀ d : PyData,
    PySem.W.kitOne K (.type (tyD d)) (.type "bool") = some (isBool d)
  | .none => kit_ty (a := "NoneType") (b := "bool") (r := false) (by decide +kernel)
  | .bool _ => kit_ty (a := "bool") (b := "bool") (r := true) (by decide +kernel)
  | .int _ => kit_ty (a := "int") (b := "bool") (r := false) (by decide +kernel)
  | .str _ => kit_ty (a := "str") (b := "bool") (r := false) (by decide +kernel)
  | .list _ => kit_ty (a := "list") (b := "bool") (r := false) (by decide +kernel)
  | .tuple _ => kit_ty (a := "tuple") (b := "bool") (r := false) (by decide +kernel)
  | .dict _ => kit_ty (a := "dict") (b := "bool") (r := false) (by decide +kernel)
theorem kStr {K : PySem.W.Frag} : ∀ d : PyData,
    PySem.W.kitOne K (.type (tyD d)) (.type "str") = some (isStr d)
  | .none => kit_ty (a := "NoneType") (b := "str") (r := false) (by decide +kernel)
  | .bool _ => kit_ty (a := "bool") (b := "str") (r := false) (by decide +kernel)
  | .int _ => kit_ty (a := "int") (b := "str") (r := false) (by decide +kernel)
  | .str _ => kit_ty (a := "str") (b := "str") (r := true) (by decide +kernel)
  | .list _ => kit_ty (a := "list") (b := "str") (r := false) (by decide +kernel)
  | .tuple _ => kit_ty (a := "tuple") (b := "str") (r := false) (by decide +kernel)
  | .dict _ => kit_ty (a := "dict") (b := "str") (r := false) (by decide +kernel)

theorem winB_inv {d : PyData} (h : winB d = true) : ∃ w : Wn, d = wD w ∧ 0 ≤ w.1 ∧ ∀ x, w.2 = some x → w.1 ≤ x := by
  unfold winB at h
  split at h
  · rename_i lo hi
    simp only [Bool.and_eq_true, Bool.or_eq_true] at h
    obtain ⟨h1, h2⟩ := h
    cases lo with
    | int l =>
      have l0 : 0 ≤ l := by simpa [verB] using h1
      cases hi with
      | none => exact ⟨(l, none), rfl, l0, fun x e => by cases e⟩
      | int z =>
        have h3 : verB (.int z) = true ∧ geB (.int z) (.int l) = true := by simpa [isNone] using h2
        have h4 : l ≤ z := by simpa [geB] using h3.2
        exact ⟨(l, some z), rfl, l0, fun x e => by cases e; exact h4⟩
      | _ => simp [isNone, verB] at h2
    | _ => simp [verB] at h1
  · cases h
theorem win_wD {w : Wn} (h0 : 0 ≤ w.1) (h1 : ∀ x, w.2 = some x → w.1 ≤ x) : winB (wD w) = true := by
  obtain ⟨l, o⟩ := w
  cases o with
  | none =>
    have e : 0 ≤ l := h0
    simp [wD, winB, verB, hD, isNone, e]
  | some x =>
    have e1 : 0 ≤ l := h0
    have e2 : l ≤ x := h1 x rfl
    have e3 : 0 ≤ x := by omega
    simp [wD, winB, verB, hD, isNone, geB, e1, e2, e3]
theorem win_at {H : Hp} {v : V} {w : Wn} (h : Da H v (wD w)) : ∃ t, v = .ref t ∧ WinAt H t w := by
  obtain ⟨l, o⟩ := w
  unfold wD at h
  cases h with
  | @tup a xs _ ha t =>
    cases t with
    | cons h1 t =>
      cases t with
      | cons h2 t =>
        cases t
        cases h1
        refine ⟨a, rfl, ?_⟩
        cases o with
        | none => cases h2; exact ha
        | some x => cases h2; exact ha
def spB (b : PyData → Bool) : Sp := fun vs H Q _ => ∃ (v : V) (d : PyData),
  vs = [v] ∧ Da H v d ∧ Q (.bl (b d)) H
def TOk (n : Nat) (z : Str) : Prop := z.length ≤ n ∧ ∀ c ∈ z.cps.toList, c < 1114112
def spVT : Sp := fun vs H Q _ => ∃ z : Str, vs = [.str z] ∧ z.length ≤ 1000 ∧ ∀ H', Same H H' → Q (.bl (canon z)) H'
/-- the error of a class with one field -/
def Err (E : XK) (C : Addr) (f : Str) (v : V) (H : Hp) : Prop := ∀ d, H d = none → E (.ref C) (some d) (upd H d (.xd [(f, v)]))
def spReqX (C : Addr) : Sp := fun vs H Q E => ∃ (v : V) (d : PyData), vs = [v] ∧ Da H v d ∧ (winB d = true → Q .non H) ∧
  (winB d = false → Err E C "value" v H)
def spFmt (C : Addr) : Sp := fun vs H Q E => ∃ (v : V) (d : PyData), vs = [v] ∧ Da H v d ∧ (∀ w, d = wD w → winB d = true → Wk w ∧ Q (.str (fmtW w)) H) ∧
  (winB d = false → Err E C "value" v H)
def spParse (C : Addr) : Sp := fun vs H Q E => ∃ (v : V) (d : PyData), vs = [v] ∧ Da H v d ∧
  (∀ z, d = .str z → z.length ≤ 600 ∧ (∀ w, readW z = some w → ∀ t H', Same H H' → H t = none → WinAt H' t w → Q (.ref t) H') ∧
    (readW z = none → ∀ H', Same H H' → Err E C "line" (.int 1) H')) ∧
  (isStr d = false → Err E C "line" (.int 0) H)

section
variable {P : Program} {w : World} {K : PySem.W.Frag} {mg : Str → Option Value} {base : Heap}
theorem scR : FnScope ["_law_script", "_law_k", "_law_cell"] ["_law_script", "_law_k"]
    (defScope sRng) :=
  ⟨rfl, rfl, rfl, by decide +kernel, rfl, by decide +kernel, by decide +kernel⟩
theorem ok_rng {f : Addr} {fd : FuncData} (F : Fun K "_law_rng" "_law_rng" sRng f fd) (T : Txt mg) :
    FnOk P w K mg base CX0 1 f fd ["_law_script", "_law_k"] (spRng K) := by
  refine F.ok scR (fun vs H Q E h => ?_) (fun cdv A outer s H vs Q E hr h => ?_)
  · obtain ⟨a, ns, k, rfl, _⟩ := h
    rfl
  · obtain ⟨a, ns, k, rfl, hS, k0, k1, q⟩ := h
    refine ⟨_, pss_cons (ps_set (i := 2) scR.nd rfl (Or.inl rfl)
        (pe_ifExp (pt_cmpR op_lt (pv 1) (pe_callB call_len_seq (by rfl) T.len PySem.boot_len (pa_cons (pv 0) pa_nil)) (nomark _))
          (pe_callB call_abs (by rfl) T.abs (by decide +kernel) (pa_cons (pe_ix ix_list (pv 0) (pv 1) (fun _ _ => rfl)) pa_nil)) pe_int))
      (pss_one (ps_ret (pe_lst (pa_cons
        (pe_callB (call_max2 rfl) (by rfl) T.max (by decide +kernel) (pa_cons pe_int (pa_cons (pe_op op_sub (pv 2) (pe_op op_pow pe_int pe_int)) pa_nil)))
        (pa_cons (pe_op op_add (pe_op op_mod (pe_op op_pow (pe_op op_add (pe_op op_add (pe_op op_mod (pv 2) pe_int) (pe_op op_mul pe_int (pv 1))) pe_int) pe_int) pe_int) pe_int) pa_nil))))), ?_⟩
    refine ⟨_, rfl, _, rfl, a, _, rfl, .inl hS, _, _, rfl, rfl, _, rfl, ?_⟩
    have fin : ∀ c : Int, 0 ≤ c → ∀ (x y : Int), x = (if c - 10 ^ (18 : Int).toNat > 0 then c - 10 ^ (18 : Int).toNat else 0) →
        y = (c % 2147483543 + 101 * k + 7) ^ (2 : Int).toNat % 2147483497 + 1 → 0 ≤ x ∧ 0 ≤ y ∧ y < 2147483587 := by
      intro c hc x y hx hy
      have e1 := Int.emod_nonneg ((c % 2147483543 + 101 * k + 7) ^ (2 : Int).toNat) (by decide : (2147483497 : Int) ≠ 0)
      have e2 := Int.emod_lt_of_pos ((c % 2147483543 + 101 * k + 7) ^ (2 : Int).toNat) (by decide : (0 : Int) < 2147483497)
      refine ⟨?_, by omega, by omega⟩
      rw [hx]
      split <;> omega
    have tail : ∀ c : Int, 0 ≤ c → ∀ p, H p = none → ∀ (x y : Int), 0 ≤ x ∧ 0 ≤ y ∧ y < 2147483587 → Q (.ref p) (upd H p (.lst [.int x, .int y])) := by
      intro c hc p hp x y hxy
      exact q p _ hp (fun b o e => by rw [upd_ne (ne_of_none e hp)]; exact e) ⟨x, y, upd_same, hxy⟩
    have bnd : ∀ c : Int, (c % 2147483543 + 101 * k + 7).natAbs < 2 ^ 64 := fun c => by
      have e1 := Int.emod_nonneg c (by decide : (2147483543 : Int) ≠ 0)
      have e2 := Int.emod_lt_of_pos c (by decide : (0 : Int) < 2147483543)
      omega
    refine ite2 (fun hlt => ?_) (fun _ => ?_)
    · have hlt' : k < (ns.map V.int).length := of_decide_eq_true hlt
      have hk : k = ((k.toNat : Nat) : Int) := by omega
      have hk2 : k.toNat < ns.length := by rw [List.length_map] at hlt'; omega
      refine ⟨_, rfl, _, rfl, a, _, _, .int (ns[k.toNat]), rfl, rfl, hS, at_in k0 (by simp [hk2]), _, rfl, ?_⟩
      have hc : (0 : Int) ≤ if ns[k.toNat] < 0 then -ns[k.toNat] else ns[k.toNat] := by split <;> omega
      generalize (if ns[k.toNat] < 0 then -ns[k.toNat] else ns[k.toNat]) = c at hc
      refine ⟨_, rfl, _, _, rfl, rfl, ⟨by decide, by decide, by decide⟩, _, _, rfl, rfl, _, _, rfl, ?_⟩
      refine ⟨_, rfl, _, _, rfl, rfl, (by show (0 : Int) < 2147483543; decide), _, rfl, _, _, rfl, rfl, .inl ⟨by decide, by decide⟩, _, _, rfl, rfl, _, _, rfl, rfl, _, _, rfl, rfl, ⟨by decide, by decide, bnd c⟩, _, _, rfl, rfl, (by show (0 : Int) < 2147483497; decide), _, _, rfl, rfl, (by show 2 ≤ sizeLine; decide), fun p hp => ?_⟩
      exact tail c hc p hp _ _ (fin c hc _ _ rfl rfl)
    · refine ⟨_, rfl, _, _, rfl, rfl, ⟨by decide, by decide, by decide⟩, _, _, rfl, rfl, _, _, rfl, ?_⟩
      refine ⟨_, rfl, _, _, rfl, rfl, (by show (0 : Int) < 2147483543; decide), _, rfl, _, _, rfl, rfl, .inl ⟨by decide, by decide⟩, _, _, rfl, rfl, _, _, rfl, rfl, _, _, rfl, rfl, ⟨by decide, by decide, bnd 0⟩, _, _, rfl, rfl, (by show (0 : Int) < 2147483497; decide), _, _, rfl, rfl, (by show 2 ≤ sizeLine; decide), fun p hp => ?_⟩
      exact tail 0 (by decide) p hp _ _ (fin 0 (by decide) _ _ rfl rfl)

theorem scD : FnScope ["_law_rng_here", "_law_many", "_law_digit"] ["_law_rng_here", "_law_many"]
    (defScope sDraw) :=
  ⟨rfl, rfl, rfl, by decide +kernel, rfl, by decide +kernel, by decide +kernel⟩
theorem ok_draw {f : Addr} {fd : FuncData} (F : Fun K "_law_draw" "_law_draw" sDraw f fd) (T : Txt mg) :
    FnOk P w K mg base CX0 1 f fd ["_law_rng_here", "_law_many"] spDraw := by
  refine F.ok scD (fun vs H Q E h => ?_) (fun cdv A outer s H vs Q E hr h => ?_)
  · obtain ⟨r, m, rfl, _⟩ := h
    rfl
  · obtain ⟨r, m, rfl, R, m0, m1, q⟩ := h
    have R' := R
    obtain ⟨a, b, hL, a0, b0, b1⟩ := R
    refine ⟨_, pss_cons (ps_if (pt_cmpR op_gt (pe_ix ix_list (pv 0) pe_int (fun _ _ => rfl)) pe_int (nomark _))
        (pss_cons (ps_asg (pe_callB call_divmodW (by rfl) T.divmod (by decide +kernel) (pa_cons (pe_ix ix_list (pv 0) pe_int (fun _ _ => rfl)) (pa_cons (pv 1) pa_nil)))
            (pg_tup rfl (pgs_cons (pg_sub (pv 0) pe_int set_list) (pgs_cons (pg_name (i := 2) scD.nd rfl (Or.inl rfl)) pgs_nil))))
          (pss_one (ps_ret (pv 2)))) pss_nil)
      (pss_cons (ps_asg (pe_op op_mod (pe_op op_add (pe_op op_mul (pe_ix ix_list (pv 0) pe_int (fun _ _ => rfl)) pe_int) pe_int) pe_int) (pg_sub (pv 0) pe_int set_list))
        (pss_one (ps_ret (pe_op op_mod (pe_op op_fdiv (pe_op op_mod (pe_op op_mul (pe_ix ix_list (pv 0) pe_int (fun _ _ => rfl)) (pe_ix ix_list (pv 0) pe_int (fun _ _ => rfl))) pe_int) pe_int) (pv 1))))), ?_⟩
    refine ⟨_, rfl, r, _, _, _, rfl, rfl, SqL.of hL, rfl, _, _, rfl, rfl, _, rfl, ?_⟩
    refine ite2 (fun hgt => ?_) (fun _ => ?_)
    · refine ⟨_, rfl, r, _, _, _, rfl, rfl, SqL.of hL, rfl, _, rfl, _, _, rfl, ⟨m0, PyProof.noPylong_of_log2 (Nat.lt_of_lt_of_le (PySem.Flt.log2_lt_of (by decide) m1) (by decide))⟩, fun p hp => ?_⟩
      have nrp : r ≠ p := ne_of_none hL hp
      refine ⟨p, _, rfl, SqT.of upd_same, rfl, ?_⟩
      refine ⟨_, _, rfl, _, rfl, r, _, _, _, rfl, rfl, (by rw [upd_ne nrp]; exact hL), rfl, ?_⟩
      refine ⟨_, _, rfl, rfl, _, rfl, ?_⟩
      refine q _ _ ((Ext.new hp).trans Ext.at) ⟨_, _, upd_same, Int.ediv_nonneg a0 (by omega), b0, b1⟩ (Int.emod_nonneg _ (by omega)) (Int.emod_lt_of_pos _ m0)
    · refine ⟨_, rfl, r, _, _, _, rfl, rfl, SqL.of hL, rfl, _, _, rfl, rfl, .inr ⟨by decide, by decide⟩, _, _, rfl, rfl, _, _, rfl, rfl, (by show (0 : Int) < 2147483587; decide), ?_⟩
      refine ⟨_, rfl, r, _, _, _, rfl, rfl, hL, rfl, ?_⟩
      have c0 := Int.emod_nonneg (b * 48271 + 10007) (by decide : (2147483587 : Int) ≠ 0)
      have c1 := Int.emod_lt_of_pos (b * 48271 + 10007) (by decide : (0 : Int) < 2147483587)
      refine ⟨_, rfl, r, _, _, _, rfl, rfl, SqL.of upd_same, rfl, _, rfl, r, _, _, _, rfl, rfl, SqL.of upd_same, rfl, _, _, rfl, rfl, .inl ⟨Int.lt_of_lt_of_le (by decide) c0, Int.lt_trans c1 (by decide)⟩, _, _, rfl, rfl, (by show (0 : Int) < 2147483549; decide), _, _, rfl, rfl, ⟨by decide, by decide⟩, _, rfl, _, _, rfl, rfl, m0, ?_⟩
      exact q _ _ Ext.at ⟨_, _, upd_same, a0, c0, c1⟩ (Int.emod_nonneg _ (by omega)) (Int.emod_lt_of_pos _ m0)

theorem scC : FnScope ["_law_rng_here", "_law_options"] ["_law_rng_here", "_law_options"]
    (defScope sChoice) :=
  ⟨rfl, rfl, rfl, by decide +kernel, rfl, by decide +kernel, by decide +kernel⟩
theorem ok_choice {f fD : Addr} {fd fdD : FuncData} (F : Fun K "_law_choice" "_law_choice" sChoice f fd) (T : Txt mg)
    (D : Fun K "_law_draw" "_law_draw" sDraw fD fdD) (bD : Binds K fdD ["_law_rng_here", "_law_many"] []) (gD : mg "_law_draw" = some (.ref fD)) :
    FnOk P w K mg base CX0 2 f fd ["_law_rng_here", "_law_options"] (spChoice K) := by
  refine F.ok scC (fun vs H Q E h => ?_) (fun cdv A outer s H vs Q E hr h => ?_)
  · obtain ⟨r, l, xs, rfl, _⟩ := h
    rfl
  · obtain ⟨r, l, xs, rfl, R, hl, nl, x0, x1, q⟩ := h
    refine ⟨_, pss_one (ps_ret (pe_ix ix_list (pv 1) (pe_call (ok_draw D T) hr (by rfl) gD D.kp bD .nil pass0 (pa_cons (pv 0) (pa_cons (pe_callB call_len_seq (by rfl) T.len PySem.boot_len (pa_cons (pv 1) pa_nil)) pa_nil))) (fun _ _ => rfl))), ?_⟩
    refine ⟨_, rfl, _, rfl, _, rfl, l, _, rfl, .inl hl, r, _, rfl, R, by omega, by omega, fun d H' E' R' d0 d1 => ?_⟩
    have hd : d = ((d.toNat : Nat) : Int) := by omega
    have hd2 : d.toNat < xs.length := by omega
    refine ⟨l, _, _, xs[d.toNat], rfl, rfl, E'.sqL nl hl, at_in d0 (by simp [hd2]), ?_⟩
    exact q _ _ E' R' (List.getElem_mem _)

theorem scV : FnScope ["value"] ["value"] (defScope sIsVer) :=
  ⟨rfl, rfl, rfl, by decide +kernel, rfl, by decide +kernel, by decide +kernel⟩
theorem ok_ver {f : Addr} {fd : FuncData} (F : Fun K "is_version" "is_version" sIsVer f fd) (T : Txt mg) :
    FnOk P w K mg base CX0 1 f fd ["value"] (spB verB) := by
  refine F.ok scV (fun vs H Q E h => ?_) (fun cdv A outer s H vs Q E hr h => ?_)
  · obtain ⟨v, d, rfl, _⟩ := h
    rfl
  · obtain ⟨v, d, rfl, hd, q0⟩ := h
    refine ⟨_, pss_one (ps_ret (pe_and (pe_callB call_isi (by rfl) T.isi (by decide +kernel) (pa_cons (pv 0) (pa_cons (pe_bltn (v := .ty "int") (by rfl) T.int (by decide +kernel) rfl) pa_nil)))
      (pe_and (pe_not (pe_callB call_isi (by rfl) T.isi (by decide +kernel) (pa_cons (pv 0) (pa_cons (pe_bltn (v := .ty "bool") (by rfl) T.bool (by decide +kernel) rfl) pa_nil))))
        (pe_one (pe_cmpR op_ge (pv 0) pe_int (nomark _)))))), ?_⟩
    have ty := hd.ty (K := K)
    refine ⟨_, rfl, _, _, _, _, _, rfl, .ty _, ty, kInt d, _, rfl, ?_⟩
    cases hd with
    | int i => exact iteT ⟨_, rfl, _, _, _, _, _, rfl, .ty _, ty, kBool _, _, rfl, _, rfl, iteT ⟨_, rfl, _, _, rfl, rfl, q0⟩⟩
    | bl b => exact iteT ⟨_, rfl, _, _, _, _, _, rfl, .ty _, ty, kBool _, _, rfl, _, rfl, iteF q0⟩
    | non => exact iteF q0
    | str i => exact iteF q0
    | lst n h t => exact iteF q0
    | tup h t => exact iteF q0
    | dic h t => exact iteF q0


theorem scW : FnScope ["value", "low", "high"] ["value"] (defScope sIsWin) :=
  ⟨rfl, rfl, rfl, by decide +kernel, rfl, by decide +kernel, by decide +kernel⟩
theorem ok_win {f f1 : Addr} {fd fd1 : FuncData} (F : Fun K "is_window" "is_window" sIsWin f fd) (T : Txt mg)
    (F1 : Fun K "is_version" "is_version" sIsVer f1 fd1) (b1 : Binds K fd1 ["value"] []) (g1 : mg "is_version" = some (.ref f1)) :
    FnOk P w K mg base CX0 2 f fd ["value"] (spB winB) := by
  have G1 : FnOk P w K mg base CX0 1 f1 fd1 ["value"] (spB verB) := ok_ver F1 T
  refine F.ok scW (fun vs H Q E h => ?_) (fun cdv A outer s H vs Q E hr h => ?_)
  · obtain ⟨v, d, rfl, _⟩ := h
    rfl
  · obtain ⟨v, d, rfl, hd, q⟩ := h
    refine ⟨_, pss_cons (ps_if (PW.pt (pw_or (pt_not (pt_val (pe_callB call_isi (by rfl) T.isi (by decide +kernel) (pa_cons (pv 0) (pa_cons (pe_bltn (v := .ty "tuple") (by rfl) T.tuple (by decide +kernel) rfl) pa_nil)))))
          (pw_or1 (pt_cmpR op_ne (pe_callB call_len_seq (by rfl) T.len PySem.boot_len (pa_cons (pv 0) pa_nil)) pe_int (nomark _)))))
        (pss_one (ps_ret pe_bl)) pss_nil)
      (pss_cons (ps_asg (pv 0) (pg_tup rfl (pgs_cons (pg_name (i := 1) scW.nd rfl (Or.inl rfl)) (pgs_cons (pg_name (i := 2) scW.nd rfl (Or.inl rfl)) pgs_nil))))
      (pss_cons (ps_if (pt_not (pt_val (pe_call G1 hr (by rfl) g1 F1.kp b1 .nil pass0 (pa_cons (pv 1) pa_nil)))) (pss_one (ps_ret pe_bl)) pss_nil)
      (pss_one (ps_ret (pe_or (pe_cmp (pc_isN (pv 2))) (pe_one (pe_and (pe_call G1 hr (by rfl) g1 F1.kp b1 .nil pass0 (pa_cons (pv 2) pa_nil)) (pe_one (pe_cmpR op_ge (pv 2) (pv 1) (nomark _)))))))))), ?_⟩
    have ty := hd.ty (K := K)
    refine ⟨_, rfl, _, _, _, _, _, rfl, .ty _, ty, kTuple d, _, rfl, ?_⟩
    cases hd with
    | @tup a xs ds h t =>
      refine iteF ?_
      refine ⟨_, rfl, a, _, rfl, .inr (SqT.of h), rfl, _, rfl, ?_⟩
      match xs, ds, t with
      | [x, y], [dx, dy], .cons hx (.cons hy .nil) =>
        refine iteF ?_
        refine ⟨_, rfl, a, _, rfl, SqT.of h, rfl, _, _, rfl, _, _, rfl, rfl, ?_⟩
        refine ⟨_, rfl, x, dx, rfl, hx, _, rfl, ?_⟩
        cases hb : verB dx with
        | false =>
          have e : winB (.tuple [dx, dy]) = false := by simp [winB, hb]
          rw [e] at q
          exact iteT q
        | true =>
          refine iteF ?_
          refine ⟨_, rfl, _, rfl, ?_⟩
          cases hx with
          | int l =>
            cases hy with
            | non => exact iteT (by simpa [winB, hb, isNone] using q)
            | int z =>
              refine iteF ?_
              refine ⟨_, rfl, _, _, rfl, .int z, _, rfl, ?_⟩
              cases hz : verB (.int z) with
              | false =>
                have e : winB (.tuple [.int l, .int z]) = false := by simp [winB, hz, isNone]
                rw [e] at q
                exact iteF q
              | true =>
                refine iteT ⟨_, rfl, _, rfl, _, _, rfl, rfl, ?_⟩
                have e : winB (.tuple [.int l, .int z]) = decide (z ≥ l) := by simp [winB, hb, hz, isNone, geB]
                rw [e] at q
                exact q
            | bl z => exact iteF ⟨_, rfl, _, _, rfl, .bl z, _, rfl, iteF (by simpa [winB, verB, isNone] using q)⟩
            | str z => exact iteF ⟨_, rfl, _, _, rfl, .str z, _, rfl, iteF (by simpa [winB, verB, isNone] using q)⟩
            | lst n2 h2 t2 => exact iteF ⟨_, rfl, _, _, rfl, .lst n2 h2 t2, _, rfl, iteF (by simpa [winB, verB, isNone] using q)⟩
            | tup h2 t2 => exact iteF ⟨_, rfl, _, _, rfl, .tup h2 t2, _, rfl, iteF (by simpa [winB, verB, isNone] using q)⟩
            | dic h2 t2 => exact iteF ⟨_, rfl, _, _, rfl, .dic h2 t2, _, rfl, iteF (by simpa [winB, verB, isNone] using q)⟩
          | _ => simp [verB] at hb
      | [], [], .nil => exact iteT q
      | [x], [dx], .cons hx .nil => exact iteT q
      | x :: y :: z :: r, dx :: dy :: dz :: dr, .cons hx (.cons hy (.cons hz t)) =>
        have e : decide (V.int ((x :: y :: z :: r).length : Nat) = V.int 2) = false := by
          apply decide_eq_false
          intro z
          have := V.int.inj z
          simp only [List.length_cons] at this
          omega
        rw [e]
        exact iteT q
    | int i => exact iteT q
    | bl b => exact iteT q
    | non => exact iteT q
    | str i => exact iteT q
    | lst n h t => exact iteT q
    | dic h t => exact iteT q


theorem scVT : FnScope ["text", "digit"] ["text"] (defScope sVT) :=
  ⟨rfl, rfl, rfl, by decide +kernel, rfl, by decide +kernel, by decide +kernel⟩
theorem dec_str (x y : Str) : decide (V.str x = V.str y) = decide (x = y) := by
  by_cases h : x = y
  · rw [h]; simp
  · rw [decide_eq_false h, decide_eq_false (fun z => h (V.str.inj z))]
theorem first_sign {z : Str} (h : z ≠ "") : ∃ c, z.cps.toList.head? = some c ∧ atI z.cps.toList 0 = some c := by
  cases e : z.cps.toList with
  | nil => exact absurd (TL.ext_tl (e.trans empL.symm)) h
  | cons c r => exact ⟨c, rfl, at_in (by decide) (by simp)⟩
theorem sign0 (c : Nat) : decide ((⟨#[c]⟩ : Str) = "0") = decide (c = 48) := by
  by_cases h : c = 48
  · subst h
    decide +kernel
  · rw [decide_eq_false h]
    apply decide_eq_false
    intro e
    have e2 := congrArg TL.tl e
    have e3 : [c] = [48] := e2.trans zeroL
    exact h (List.cons.inj e3).1
theorem ok_vt {f : Addr} {fd : FuncData} (F : Fun K "is_version_text" "is_version_text" sVT f fd) (T : Txt mg) :
    FnOk P w K mg base CX0 1 f fd ["text"] spVT := by
  obtain ⟨tD, gDg⟩ := T.dgs
  refine F.ok scVT (fun vs H Q E h => ?_) (fun cdv A outer s H vs Q E hr h => ?_)
  · obtain ⟨z, rfl, _⟩ := h
    rfl
  · obtain ⟨z, rfl, hz, q⟩ := h
    refine ⟨_, pss_cons (ps_if (PW.pt (pw_or (pt_cmpR op_eq (pv 0) pe_str (nomark _)) (pw_or1 (pt_not (pt_val (pe_callB (cr_all rfl) (by rfl) T.all (by decide +kernel) (pa_cons
          (pe_lc (own := [("digit", 1)]) (g := gName 1) (tt := tYes) rfl scVT.nd (pi_str (pv 0)) (blkOk_by (own := [("digit", 1)]) (N := ["text", "digit"]) (sc := defScope sVT) (by decide +kernel))
            (fun _ _ _ _ _ => pg_name (i := 1) scVT.nd rfl (Or.inl rfl)) (fun _ _ _ _ _ => pts_nil) (fun _ _ _ _ _ => pe_cmpR op_in_sign (pv 1) (pe_glob (v := .str DIG) rfl gDg ⟨_, rfl⟩) (by rfl))) pa_nil)))))))
        (pss_one (ps_ret pe_bl)) pss_nil)
      (pss_one (ps_ret (pe_or (pe_cmpR op_eq (pv 0) pe_str (nomark _)) (pe_one (pe_cmpR op_ne (pe_ix ix_str (pv 0) pe_int (fun _ _ => rfl)) pe_str (nomark _)))))), ?_⟩
    refine ⟨_, rfl, rfl, _, rfl, ?_⟩
    rw [dec_str]
    by_cases e0 : z = ""
    · rw [decide_eq_true e0]
      refine iteT ?_
      have e : canon z = false := by simp [canon, e0]
      have q0 := q H (Same.refl H)
      rw [e] at q0
      exact q0
    rw [decide_eq_false e0]
    refine iteF ?_
    refine ⟨_, rfl, z, rfl, fun D hD => lc_it walk_str
      (fun i J => Same H J ∧ J D = some (.lst (((z.cps.toList.take i).map dig).map V.bl)))
      ⟨new_same hD, upd_same⟩ (fun _ _ _ _ => trivial) ?_ ?_⟩
    · rintro i x J J' hi ⟨s1, l1⟩ ⟨rfl, c, hc, rfl⟩
      refine ⟨rfl, yesT ⟨_, rfl, c, _, rfl, rfl, _, l1, ?_, ?_, ?_⟩⟩
      · have e2 : z.cps.size ≤ 1000 := hz
        simp only [List.length_map, List.length_take, Array.length_toList]
        rw [sizeLine_eq]
        omega
      · intro b o e
        rw [upd_ne (ne_of_none e hD)]
        exact s1 b o e
      · rw [upd_same, take_next (c := c) (by simpa using hc)]
        simp [dig]
    · rintro J ⟨s1, l1⟩
      refine ⟨D, _, rfl, SqL.of l1, _, rfl, ?_⟩
      have ea : ((z.cps.toList.take z.cps.size).map dig).all id = z.cps.toList.all dig := by
        rw [List.take_of_length_le (by simp)]
        simp
      rw [ea]
      have q1 := q J s1
      cases hb : z.cps.toList.all dig with
      | false =>
        refine iteT ?_
        have e : canon z = false := by simp [canon, hb]
        rw [e] at q1
        exact q1
      | true =>
        refine iteF ?_
        refine ⟨_, rfl, rfl, _, rfl, ?_⟩
        rw [dec_str]
        by_cases e1 : z = "0"
        · rw [decide_eq_true e1]
          refine iteT ?_
          have e : canon z = true := by
            unfold canon
            rw [decide_eq_false e0, hb, decide_eq_true e1]
            rfl
          rw [e] at q1
          exact q1
        · rw [decide_eq_false e1]
          refine iteF ?_
          obtain ⟨c, h1, h2⟩ := first_sign e0
          refine ⟨_, rfl, z, _, c, rfl, rfl, Nat.le_trans hz (by decide), h2, rfl, ?_⟩
          have e : canon z = !decide (V.str ⟨#[c]⟩ = V.str "0") := by
            rw [dec_str, sign0]
            unfold canon hd0
            rw [decide_eq_false e0, hb, decide_eq_false e1, h1]
            simp
          rw [e] at q1
          exact q1

theorem scRW : FnScope ["value"] ["value"] (defScope sReqWin) :=
  ⟨rfl, rfl, rfl, by decide +kernel, rfl, by decide +kernel, by decide +kernel⟩
theorem ok_reqX {f f1 C : Addr} {fd fd1 : FuncData} (F : Fun K "require_window" "require_window" sReqWin f fd)
    (G1 : FnOk P w K mg base CX0 2 f1 fd1 ["value"] (spB winB)) (k1 : PySem.W.keepIn K (.ref f1) = true) (b1 : Binds K fd1 ["value"] []) (g1 : mg "is_window" = some (.ref f1))
    (TW : XCls P w K mg base "InvalidWindow" C "value" "value") :
    FnOk P w K mg base (L2.CX P w) 3 f fd ["value"] (spReqX C) := by
  refine F.okX scRW (fun vs H Q E h => ?_) (fun cdv A outer s H vs Q E hr h => ?_)
  · obtain ⟨v, d, rfl, _⟩ := h
    rfl
  · obtain ⟨v, d, rfl, hd, q1, q2⟩ := h
    refine ⟨_, pss_one (ps_if (pt_not (pt_val (pe_call G1 hr (by rfl) g1 k1 b1 .nil pass0 (pa_cons (pv 0) pa_nil))))
      (pss_one (ps_raiseC rfl TW hr (takes_of rfl rfl rfl rfl) (by rfl) (pv 0))) pss_nil), ?_⟩
    refine ⟨_, rfl, v, d, rfl, hd, _, rfl, ?_⟩
    cases hb : winB d with
    | true => exact iteF (q1 hb)
    | false => exact iteT ⟨_, rfl, made_go (q2 hb)⟩

theorem lg_ok {i : Int} (h : i.natAbs < 10 ^ 130) : i.natAbs.log2 < 1920 :=
  Nat.lt_trans (PySem.Flt.log2_lt_of (by decide) (Nat.lt_trans h (by decide +kernel : 10 ^ 130 < 2 ^ 450))) (by decide)
theorem scFm : FnScope ["window", "low", "high"] ["window"] (defScope sFmt) :=
  ⟨rfl, rfl, rfl, by decide +kernel, rfl, by decide +kernel, by decide +kernel⟩
theorem len3 {a b c : Str} (h1 : a.length ≤ 200) (h2 : b.length ≤ 200) (h3 : c.length ≤ 200) : (a ++ b ++ c).length ≤ sizeLine := by
  rw [strLen_append, strLen_append, sizeLine_eq]
  omega
theorem ok_fmt {f f1 C : Addr} {fd fd1 : FuncData} (F : Fun K "format_window" "format_window" sFmt f fd)
    (G1 : FnOk P w K mg base (L2.CX P w) 3 f1 fd1 ["value"] (spReqX C)) (k1 : PySem.W.keepIn K (.ref f1) = true) (b1 : Binds K fd1 ["value"] []) (g1 : mg "require_window" = some (.ref f1)) :
    FnOk P w K mg base (L2.CX P w) 4 f fd ["window"] (spFmt C) := by
  refine F.okX scFm (fun vs H Q E h => ?_) (fun cdv A outer s H vs Q E hr h => ?_)
  · obtain ⟨v, d, rfl, _⟩ := h
    rfl
  · obtain ⟨v, d, rfl, hd, q1, q2⟩ := h
    refine ⟨_, pss_cons (ps_expr (pe_call G1 hr (by rfl) g1 k1 b1 .nil (passes_call (E := E) (takes_of rfl rfl rfl rfl) (fun _ _ _ _ h => h)) (pa_cons (pv 0) pa_nil)))
      (pss_cons (ps_asg (pv 0) (pg_tup rfl (pgs_cons (pg_name (i := 1) scFm.nd rfl (Or.inl rfl)) (pgs_cons (pg_name (i := 2) scFm.nd rfl (Or.inl rfl)) pgs_nil))))
      (pss_cons (ps_if (pt_cmp (pc_isN (pv 2))) (pss_one (ps_ret (pe_joined (.cons (pe_fmt (pv 1)) (.cons pe_str .nil))))) pss_nil)
      (pss_one (ps_ret (pe_joined (.cons (pe_fmt (pv 1)) (.cons pe_str (.cons (pe_fmt (pv 2)) .nil)))))))), ?_⟩
    refine ⟨_, rfl, v, d, rfl, hd, fun hb => ?_, q2⟩
    obtain ⟨ww, rfl, w0, w1⟩ := winB_inv hb
    obtain ⟨wk, qq⟩ := q1 ww rfl hb
    obtain ⟨t, rfl, ht⟩ := win_at hd
    refine ⟨_, rfl, t, _, rfl, SqT.of ht, rfl, _, _, rfl, _, _, rfl, rfl, ?_⟩
    obtain ⟨l, o⟩ := ww
    have a1 : (tx l).length ≤ 200 := Nat.le_trans (tx_len wk.1 wk.2.1) (by decide)
    have a0 : (Str.empty : Str).length ≤ 200 := by decide
    have a2 : DOT.length ≤ 200 := by decide +kernel
    have a3 : (Str.empty ++ tx l : Str).length ≤ 200 := by rw [nil_app]; exact a1
    have b1 : (Str.empty ++ tx l : Str).length ≤ sizeLine := Nat.le_trans a3 (by decide)
    have b2 : (Str.empty ++ tx l ++ DOT : Str).length ≤ sizeLine := by rw [strLen_append, sizeLine_eq]; omega
    refine ⟨_, rfl, _, rfl, ?_⟩
    cases o with
    | none =>
      refine iteT ⟨_, rfl, .inr ⟨l, rfl, lg_ok wk.2.1, _, rfl, b1, _, rfl, b2, ?_⟩⟩
      have e : (Str.empty ++ tx l ++ DOT : Str) = fmtW (l, none) := by
        rw [nil_app]
        exact (app_nil _).symm
      show Q (.str (Str.empty ++ tx l ++ DOT)) H
      rw [e]
      exact qq
    | some x =>
      have wx := wk.2.2 x rfl
      have c1 : (tx x).length ≤ 200 := Nat.le_trans (tx_len (Int.le_trans wk.1 wx.1) wx.2) (by decide)
      refine iteF ⟨_, rfl, .inr ⟨l, rfl, lg_ok wk.2.1, _, rfl, b1, _, rfl, b2, _, rfl, .inr ⟨x, rfl, lg_ok wx.2, _, rfl, len3 a3 a2 c1, ?_⟩⟩⟩
      have e : (Str.empty ++ tx l ++ DOT ++ tx x : Str) = fmtW (l, some x) := by
        rw [nil_app]
        rfl
      show Q (.str (Str.empty ++ tx l ++ DOT ++ tx x)) H
      rw [e]
      exact qq

theorem scPa : FnScope ["text", "low_text", "dots", "high_text"] ["text"] (defScope sParse) :=
  ⟨rfl, rfl, rfl, by decide +kernel, rfl, by decide +kernel, by decide +kernel⟩
theorem part_len (z : Str) : (pB z).length ≤ z.length ∧ (pA z).length ≤ z.length := by
  rcases part_cases z with ⟨_, e, e2⟩ | ⟨i, _, _, _, _, ez⟩
  · refine ⟨by rw [e2]; exact Nat.le_refl _, ?_⟩
    rcases PyProof.Rows.partition_whole z DOT with ⟨e3, _⟩ | ⟨j, e3, _, _⟩
    · unfold pA
      rw [e3]
      exact Nat.zero_le _
    · unfold pS at e
      rw [e3] at e
      exact absurd e dot_ne
  · have h := congrArg Str.length ez
    rw [strLen_append, strLen_append] at h
    omega
theorem ok_parse {f f1 C : Addr} {fd fd1 : FuncData} (F : Fun K "parse_window" "parse_window" sParse f fd) (T : Txt mg)
    (G1 : FnOk P w K mg base CX0 1 f1 fd1 ["text"] spVT) (k1 : PySem.W.keepIn K (.ref f1) = true) (b1 : Binds K fd1 ["text"] []) (g1 : mg "is_version_text" = some (.ref f1))
    (TT : XCls P w K mg base "InvalidText" C "line" "line") :
    FnOk P w K mg base (L2.CX P w) 3 f fd ["text"] (spParse C) := by
  refine F.okX scPa (fun vs H Q E h => ?_) (fun cdv A outer s H vs Q E hr h => ?_)
  · obtain ⟨v, d, rfl, _⟩ := h
    rfl
  · obtain ⟨v, d, rfl, hd, q1, q2⟩ := h
    have hr1 : Room 1 _ := hr.mono (by decide)
    refine ⟨_, pss_cons (ps_if (pt_not (pt_val (pe_callB call_isi (by rfl) T.isi (by decide +kernel) (pa_cons (pv 0) (pa_cons (pe_bltn (v := .ty "str") (by rfl) T.str (by decide +kernel) rfl) pa_nil)))))
        (pss_one (ps_raiseC rfl TT hr (takes_of rfl rfl rfl rfl) (by rfl) pe_int)) pss_nil)
      (pss_cons (ps_asg (pe_partition (pv 0) pe_str) (pg_tup rfl (pgs_cons (pg_name (i := 1) scPa.nd rfl (Or.inl rfl)) (pgs_cons (pg_name (i := 2) scPa.nd rfl (Or.inl rfl)) (pgs_cons (pg_name (i := 3) scPa.nd rfl (Or.inl rfl)) pgs_nil)))))
      (pss_cons (ps_if (PW.pt (pw_or (pt_cmpR op_eq (pv 2) pe_str (nomark _)) (pw_or1 (pt_not (pt_val (pe_call G1 hr1 (by rfl) g1 k1 b1 .nil pass0 (pa_cons (pv 1) pa_nil)))))))
        (pss_one (ps_raiseC rfl TT hr (takes_of rfl rfl rfl rfl) (by rfl) pe_int)) pss_nil)
      (pss_cons (ps_if (pt_cmpR op_eq (pv 3) pe_str (nomark _)) (pss_one (ps_ret (pe_tup (pa_cons (pe_callTy call_int_str (by rfl) T.int (by decide +kernel) (pa_cons (pv 1) pa_nil)) (pa_cons pe_non pa_nil))))) pss_nil)
      (pss_cons (ps_if (PW.pt (pw_or (pt_not (pt_val (pe_call G1 hr1 (by rfl) g1 k1 b1 .nil pass0 (pa_cons (pv 3) pa_nil))))
          (pw_or1 (pt_cmpR op_lt (pe_callTy call_int_str (by rfl) T.int (by decide +kernel) (pa_cons (pv 3) pa_nil)) (pe_callTy call_int_str (by rfl) T.int (by decide +kernel) (pa_cons (pv 1) pa_nil)) (nomark _)))))
        (pss_one (ps_raiseC rfl TT hr (takes_of rfl rfl rfl rfl) (by rfl) pe_int)) pss_nil)
      (pss_one (ps_ret (pe_tup (pa_cons (pe_callTy call_int_str (by rfl) T.int (by decide +kernel) (pa_cons (pv 1) pa_nil)) (pa_cons (pe_callTy call_int_str (by rfl) T.int (by decide +kernel) (pa_cons (pv 3) pa_nil)) pa_nil))))))))), ?_⟩
    have ty := hd.ty (K := K)
    refine ⟨_, rfl, _, _, _, _, _, rfl, .ty _, ty, kStr d, _, rfl, ?_⟩
    have no : isStr d = false → Err E C "line" (.int 0) H := q2
    cases hd with
    | str z =>
      refine iteF ?_
      obtain ⟨hl, qs, qn⟩ := q1 z rfl
      have pl := part_len z
      refine ⟨_, rfl, ⟨_, rfl⟩, z, DOT, rfl, rfl, by decide +kernel, Nat.le_trans hl (by decide), fun p hp => ?_⟩
      refine ⟨p, _, rfl, SqT.of upd_same, rfl, _, _, rfl, _, _, rfl, _, _, rfl, rfl, ?_⟩
      have S1 : Same H (upd H p (.tup [.str (pB z), .str (pS z), .str (pA z)])) := new_same hp
      obtain ⟨J1, e1⟩ : ∃ J, upd H p (.tup [.str (pB z), .str (pS z), .str (pA z)]) = J := ⟨_, rfl⟩
      have e1' : upd H p (.tup [.str (PySem.Txt.partition z DOT).1, .str (PySem.Txt.partition z DOT).2.1, .str (PySem.Txt.partition z DOT).2.2]) = J1 := e1
      rw [e1] at S1
      rw [e1']
      refine ⟨_, rfl, rfl, _, rfl, ?_⟩
      rw [dec_str]
      show if decide (pS z = "") = true then _ else _
      by_cases c1 : pS z = ""
      · rw [decide_eq_true c1]
        have e : readW z = none := by unfold readW; rw [if_pos (.inl c1)]
        exact iteT (iteT (made_go (qn e J1 S1)))
      · rw [decide_eq_false c1]
        refine iteF ⟨_, rfl, pB z, rfl, by omega, fun J2 S2 => ⟨_, rfl, ?_⟩⟩
        have S02 := S1.trans S2
        cases c2 : canon (pB z) with
        | false =>
          have e : readW z = none := by unfold readW; rw [if_pos (.inr c2)]
          exact iteT (made_go (qn e J2 S02))
        | true =>
          have n1 : ¬ (pS z = "" ∨ canon (pB z) = false) := by
            rintro (h | h)
            · exact c1 h
            · rw [c2] at h; cases h
          have i1 := canon_int c2 (by omega)
          refine iteF ⟨_, rfl, rfl, _, rfl, ?_⟩
          rw [dec_str]
          show if decide (pA z = "") = true then _ else _
          by_cases c3 : pA z = ""
          · rw [decide_eq_true c3]
            refine iteT ⟨_, rfl, _, _, rfl, i1, by show (pB z).length ≤ 640; omega, (by show 2 ≤ sizeLine; decide), fun t ht => ?_⟩
            have e : readW z = some (val (pB z), none) := by unfold readW; rw [if_neg n1, if_pos c3]
            exact qs _ e t _ (S02.trans (new_same ht)) (S02.free ht) upd_same
          · rw [decide_eq_false c3]
            refine iteF ⟨_, rfl, pA z, rfl, by omega, fun J3 S3 => ⟨_, rfl, ?_⟩⟩
            have S03 := S02.trans S3
            cases c4 : canon (pA z) with
            | false =>
              have e : readW z = none := by unfold readW; rw [if_neg n1, if_neg c3, if_pos (.inl c4)]
              exact iteT (iteT (made_go (qn e J3 S03)))
            | true =>
              have i2 := canon_int c4 (by omega)
              refine iteF ⟨_, rfl, _, _, rfl, i2, by show (pA z).length ≤ 640; omega, _, rfl, _, _, rfl, i1, by show (pB z).length ≤ 640; omega, _, _, rfl, rfl, _, rfl, ?_⟩
              by_cases c5 : val (pA z) < val (pB z)
              · rw [decide_eq_true c5]
                have e : readW z = none := by unfold readW; rw [if_neg n1, if_neg c3, if_pos (.inr c5)]
                exact iteT (made_go (qn e J3 S03))
              · rw [decide_eq_false c5]
                have n2 : ¬ (canon (pA z) = false ∨ val (pA z) < val (pB z)) := by
                  rintro (h | h)
                  · rw [c4] at h; cases h
                  · exact c5 h
                refine iteF ⟨_, rfl, _, _, rfl, i1, by show (pB z).length ≤ 640; omega, _, rfl, _, _, rfl, i2, by show (pA z).length ≤ 640; omega, (by show 2 ≤ sizeLine; decide), fun t ht => ?_⟩
                have e : readW z = some (val (pB z), some (val (pA z))) := by unfold readW; rw [if_neg n1, if_neg c3, if_neg n2]
                exact qs _ e t _ (S03.trans (new_same ht)) (S03.free ht) upd_same
    | non => exact iteT (made_go (no rfl))
    | bl b => exact iteT (made_go (no rfl))
    | int i => exact iteT (made_go (no rfl))
    | lst n h t => exact iteT (made_go (no rfl))
    | tup h t => exact iteT (made_go (no rfl))
    | dic h t => exact iteT (made_go (no rfl))
end
end N4
namespace N4
open PySem L2 G
def spTx : Sp := fun vs H Q _ => ∃ (t : Addr) (w : Wn), vs = [.ref t] ∧ WinAt H t w ∧ Wk w ∧ Q (.str (fmtW w)) H
def numO (z : Str) : Option Int := if canon z = true then some (val z) else none
def spNumb : Sp := fun vs H Q _ => ∃ z : Str, vs = [.str z] ∧ TOk 600 z ∧ ∀ H', Same H H' → Q (hV (numO z)) H'
def spRead : Sp := fun vs H Q _ => ∃ z : Str, vs = [.str z] ∧ TOk 600 z ∧ (∀ H', Same H H' → readW z = none → Q .non H') ∧
  ∀ w t H', Same H H' → readW z = some w → WinAt H' t w → Q (.ref t) H'
def spWind : Sp := fun vs H Q _ => ∃ r : Addr, vs = [.ref r] ∧ Rng H r ∧ ∀ (t : Addr) (w : Wn) (H' : Hp), Ext r H H' → Rng H' r → WinAt H' t w → Wk w →
  (fmtW w).length ≤ 120 → Q (.ref t) H'
def spChgd : Sp := fun vs H Q _ => ∃ (r : Addr) (z : Str) (n : Nat), vs = [.ref r, .str z] ∧ Rng H r ∧ TOk n z ∧ n ≤ 500 ∧
  ∀ (y : Str) (H' : Hp), Ext r H H' → Rng H' r → TOk (n + 1) y → Q (.str y) H'
theorem TOk.app {n m : Nat} {a b : Str} (x : TOk n a) (y : TOk m b) : TOk (n + m) (a ++ b) := by
  refine ⟨by rw [strLen_append]; exact Nat.add_le_add x.1 y.1, fun c hc => ?_⟩
  have e : (a ++ b).cps.toList = a.cps.toList ++ b.cps.toList := TL.tl_append a b
  rw [e] at hc
  exact (List.mem_append.mp hc).elim (x.2 c) (y.2 c)
theorem TOk.mono {n m : Nat} {a : Str} (x : TOk n a) (h : n ≤ m) : TOk m a := ⟨Nat.le_trans x.1 h, x.2⟩
theorem cut_mem {a : Str} {lo hi : Option Int} {c : Nat} (hc : c ∈ (cutS a lo hi).cps.toList) : c ∈ a.cps.toList := by
  have h : c ∈ (a.cps.toList.drop (HT.sIx a.length 0 lo)).take (HT.sIx a.length a.length hi - HT.sIx a.length 0 lo) := by
    simpa [cutS] using hc
  exact List.mem_of_mem_drop (List.mem_of_mem_take h)
theorem cut_len (a : Str) (lo hi : Option Int) : (cutS a lo hi).length ≤ a.length := by
  show (List.toArray _).size ≤ _
  rw [List.size_toArray, List.length_take, List.length_drop]
  have e2 : a.cps.toList.length = a.length := by simp [Str.length]
  omega
theorem TOk.cut {n : Nat} {a : Str} (x : TOk n a) (lo hi : Option Int) : TOk n (cutS a lo hi) :=
  ⟨Nat.le_trans (cut_len a lo hi) x.1, fun c hc => x.2 c (cut_mem hc)⟩
theorem TOk.one {c : Nat} (h : c < 1114112) : TOk 1 ⟨#[c]⟩ := ⟨Nat.le_refl _, fun d hd => by
  have e : d = c := by simpa using hd
  rw [e]
  exact h⟩
theorem cut_split (z : Str) (i : Nat) : (cutS z none (some (i : Int))).length + (cutS z (some (i : Int)) none).length ≤ z.length := by
  show (List.toArray _).size + (List.toArray _).size ≤ _
  rw [List.size_toArray, List.size_toArray, List.length_take, List.length_drop, List.length_take, List.length_drop, HT.sIx_none, HT.sIx_nat, HT.sIx_none]
  have e2 : z.cps.toList.length = z.length := by simp [Str.length]
  rw [HT.sIx_nat]
  omega
theorem cut_drop (z : Str) (i : Nat) : (cutS z none (some (i : Int))).length + (cutS z (some ((i : Int) + 1)) none).length ≤ z.length := by
  show (List.toArray _).size + (List.toArray _).size ≤ _
  rw [List.size_toArray, List.size_toArray, List.length_take, List.length_drop, List.length_take, List.length_drop, HT.sIx_none, HT.sIx_nat, HT.sIx_none]
  have e2 : z.cps.toList.length = z.length := by simp [Str.length]
  rw [show ((i : Int) + 1) = ((i + 1 : Nat) : Int) by omega, HT.sIx_nat]
  omega
abbrev SGN : Str := "0019.. -+_,:a\n"
theorem sgnOk : ∀ c ∈ SGN.cps.toList, c < 1114112 := by decide +kernel
theorem sgnLen : SGN.cps.toList.length = 14 := by decide +kernel
theorem numO_rw {z : Str} (h : canon z = true) : numO z = some (val z) := by unfold numO; rw [if_pos h]
theorem numO_no {z : Str} (h : canon z = false) : numO z = none := by unfold numO; rw [h]; rfl
theorem join_rev_len (x : Str) : (Txt.join DOT (PySem.Txt.split x DOT).reverse).length = x.length := by
  have h := PySem.StrLaws.join_split x DOT
  have e1 : (Txt.join DOT (PySem.Txt.split x DOT)).length = x.length := by rw [TL.join_eq, h]
  have a : ∀ ps : List Str, (Txt.join DOT ps).length = (ps.map (·.length)).sum + (ps.length - 1) * DOT.length := fun ps => PySem.size_glued DOT ps
  rw [a] at e1 ⊢
  rw [List.map_reverse, List.sum_reverse, List.length_reverse]
  exact e1
theorem join_mem {c : Nat} (sep : Str) : ∀ ps : List Str, c ∈ (Str.join sep ps).cps.toList → (∃ p ∈ ps, c ∈ p.cps.toList) ∨ c ∈ sep.cps.toList
  | [], h => by cases (show c ∈ ([] : List Nat) from h)
  | [p], h => .inl ⟨p, by simp, h⟩
  | p :: q :: r, h => by
    have e : (Str.join sep (p :: q :: r)).cps.toList = (p.cps.toList ++ sep.cps.toList) ++ (Str.join sep (q :: r)).cps.toList := by
      show TL.tl (p ++ sep ++ Str.join sep (q :: r)) = _
      rw [TL.tl_append, TL.tl_append]
    rw [e] at h
    rcases List.mem_append.mp h with h | h
    · rcases List.mem_append.mp h with h | h
      · exact .inl ⟨p, by simp, h⟩
      · exact .inr h
    · rcases join_mem sep (q :: r) h with ⟨x, hx, hc⟩ | h
      · exact .inl ⟨x, by simp only [List.mem_cons] at hx ⊢; exact .inr hx, hc⟩
      · exact .inr h
theorem mem_join {c : Nat} (sep : Str) : ∀ (ps : List Str) (p : Str), p ∈ ps → c ∈ p.cps.toList → c ∈ (Str.join sep ps).cps.toList
  | [], _, h, _ => by cases h
  | [q], p, h, hc => by rw [List.mem_singleton.mp h] at hc; exact hc
  | q :: s :: r, p, h, hc => by
    have e : (Str.join sep (q :: s :: r)).cps.toList = (q.cps.toList ++ sep.cps.toList) ++ (Str.join sep (s :: r)).cps.toList := by
      show TL.tl (q ++ sep ++ Str.join sep (s :: r)) = _
      rw [TL.tl_append, TL.tl_append]
    rw [e]
    rcases List.mem_cons.mp h with rfl | h
    · exact List.mem_append.mpr (.inl (List.mem_append.mpr (.inl hc)))
    · exact List.mem_append.mpr (.inr (mem_join sep (s :: r) p h hc))
theorem join_rev_ok {n : Nat} {x : Str} (h : TOk n x) : TOk n (Txt.join DOT (PySem.Txt.split x DOT).reverse) := by
  refine ⟨by rw [join_rev_len]; exact h.1, fun c hc => ?_⟩
  rw [TL.join_eq] at hc
  rcases join_mem DOT _ hc with ⟨p, hp, hcp⟩ | h2
  · have q := mem_join DOT (PySem.Txt.split x DOT) p (List.mem_reverse.mp hp) hcp
    rw [PySem.StrLaws.join_split] at q
    exact h.2 c q
  · rw [dotL] at h2
    simp at h2
    omega
theorem split_sum {x : Str} (h : x.length ≤ 600) : ((PySem.Txt.split x DOT).reverse.map (·.length)).sum + (PySem.Txt.split x DOT).reverse.length * DOT.length ≤ 16777216 := by
  have e := join_rev_len x
  have a := PySem.size_glued DOT (PySem.Txt.split x DOT).reverse
  rw [show (Txt.join DOT (PySem.Txt.split x DOT).reverse).length = _ from a] at e
  rw [dotLen] at e ⊢
  omega

section
variable {P : Program} {w : World} {K : PySem.W.Frag} {mg : Str → Option Value} {base : Heap}
theorem scTx : FnScope ["_law_window_here"] ["_law_window_here"] (defScope sText) :=
  ⟨rfl, rfl, rfl, by decide +kernel, rfl, by decide +kernel, by decide +kernel⟩
theorem ok_text {f : Addr} {fd : FuncData} (F : Fun K "_law_text" "_law_text" sText f fd) (T : Txt mg) :
    FnOk P w K mg base CX0 1 f fd ["_law_window_here"] spTx := by
  refine F.ok scTx (fun vs H Q E h => ?_) (fun cdv A outer s H vs Q E hr h => ?_)
  · obtain ⟨t, w, rfl, _⟩ := h
    rfl
  · obtain ⟨t, ⟨l, o⟩, rfl, ht, wk, q⟩ := h
    refine ⟨_, pss_one (ps_ret (pe_op op_add_str (pe_op op_add_str (pe_callTy call_str_int (by rfl) T.str (by decide +kernel) (pa_cons (pe_ix ix_tup (pv 0) pe_int (fun _ _ => rfl)) pa_nil)) pe_str)
      (pe_ifExp (pt_cmp (pc_isN (pe_ix ix_tup (pv 0) pe_int (fun _ _ => rfl)))) pe_str (pe_callTy call_str_int (by rfl) T.str (by decide +kernel) (pa_cons (pe_ix ix_tup (pv 0) pe_int (fun _ _ => rfl)) pa_nil))))), ?_⟩
    have a1 : (tx l).length ≤ 200 := Nat.le_trans (tx_len wk.1 wk.2.1) (by decide)
    have a2 : DOT.length = 2 := dotLen
    have a3 : (tx l ++ DOT : Str).length ≤ 202 := by rw [strLen_append]; omega
    refine ⟨_, rfl, t, _, _, _, rfl, rfl, SqT.of ht, rfl, _, rfl, lg_ok wk.2.1, _, _, rfl, rfl, by show (tx l).length + DOT.length ≤ _; rw [sizeLine_eq]; omega, ?_⟩
    refine ⟨_, rfl, t, _, _, _, rfl, rfl, SqT.of ht, rfl, _, rfl, ?_⟩
    cases o with
    | none => exact iteT ⟨_, _, rfl, rfl, by show (tx l ++ DOT : Str).length + 0 ≤ _; rw [sizeLine_eq]; omega, q⟩
    | some x =>
      have wx := wk.2.2 x rfl
      have c1 : (tx x).length ≤ 200 := Nat.le_trans (tx_len (Int.le_trans wk.1 wx.1) wx.2) (by decide)
      exact iteF ⟨_, rfl, t, _, _, _, rfl, rfl, SqT.of ht, rfl, _, rfl, lg_ok wx.2, _, _, rfl, rfl, by show (tx l ++ DOT : Str).length + (tx x).length ≤ _; rw [sizeLine_eq]; omega, q⟩

theorem scNu : FnScope ["_law_word", "_law_sign"] ["_law_word"] (defScope sNumb) :=
  ⟨rfl, rfl, rfl, by decide +kernel, rfl, by decide +kernel, by decide +kernel⟩
def ndig (c : Nat) : Bool := !decide (c ∈ DIG.cps.toList)
theorem dpStr {K : PySem.W.Frag} {H : Hp} : ∀ l : List Nat,
    DpAll K H (l.map fun c => V.str ⟨#[c]⟩) (l.map fun c => PyData.str ⟨#[c]⟩)
  | [] => .nil
  | c :: l => .cons (.str _) (dpStr l)
theorem shStr : ∀ l : List Nat, (∀ c ∈ l, c < 1114112) → PyData.canLayAll0 (l.map fun c => PyData.str ⟨#[c]⟩) = true
  | [], _ => rfl
  | c :: l, h => by
    have h1 := h c (by simp)
    have h2 := shStr l fun x hx => h x (by simp [hx])
    simp [PyData.canLayAll0, PyData.canLay0, PyData.strOk, h2, h1]
theorem dpZero : ∀ l : List Nat, PyData.depthAll (l.map fun c => PyData.str ⟨#[c]⟩) = 0
  | [] => rfl
  | c :: l => by simp [PyData.depthAll, PyData.depth, dpZero l]
theorem eqvNil (l : List Nat) : PyData.eqv (.list (l.map fun c => PyData.str ⟨#[c]⟩)) (.list []) = l.isEmpty := by
  cases l <;> simp [PyData.eqv, PyData.eqvAll]
theorem filt (l : List Nat) : (l.filter ndig).isEmpty = l.all dig := by
  induction l with
  | nil => rfl
  | cons c l ih =>
    by_cases h : c ∈ DIG.cps.toList
    · have e1 : ndig c = false := by simp only [ndig, h, decide_true, Bool.not_true]
      have e2 : dig c = true := by simp only [dig, h, decide_true]
      rw [List.filter_cons_of_neg (by rw [e1]; decide), ih, List.all_cons, e2, Bool.true_and]
    · have e1 : ndig c = true := by simp only [ndig, h, decide_false, Bool.not_false]
      have e2 : dig c = false := by simp only [dig, h, decide_false]
      rw [List.filter_cons_of_pos e1, List.all_cons, e2, Bool.false_and]
      rfl
theorem ok_numb {f : Addr} {fd : FuncData} (F : Fun K "_law_number" "_law_number" sNumb f fd) (T : Txt mg) :
    FnOk P w K mg base CX0 1 f fd ["_law_word"] spNumb := by
  refine F.ok scNu (fun vs H Q E h => ?_) (fun cdv A outer s H vs Q E hr h => ?_)
  · obtain ⟨z, rfl, _⟩ := h
    rfl
  · obtain ⟨z, rfl, tz, q⟩ := h
    refine ⟨_, pss_cons (ps_if (PW.pt (pw_or (pt_cmpR op_eq (pv 0) pe_str (nomark _))
        (pw_or (pt_cmpR (op_neD hr.units) (pe_lc (own := [("_law_sign", 1)]) (g := gName 1) rfl scNu.nd (pi_str (pv 0)) (blkOk_by (own := [("_law_sign", 1)]) (N := ["_law_word", "_law_sign"]) (sc := defScope sNumb) (by decide +kernel))
            (fun _ _ _ _ _ => pg_name (i := 1) scNu.nd rfl (Or.inl rfl)) (fun _ _ _ _ _ => pts_one (pt_cmpR op_notIn_sign (pv 1) pe_str (by rfl))) (fun _ _ _ _ _ => pv 1)) (pe_lst pa_nil) (nomark _))
          (pw_or1 (PW.pt (pw_and (pt_cmpR op_eq (pe_ix ix_str (pv 0) pe_int (fun _ _ => rfl)) pe_str (nomark _)) (pw_and1 (pt_cmpR op_ne (pv 0) pe_str (nomark _)))))))))
        (pss_one (ps_ret pe_non)) pss_nil)
      (pss_one (ps_ret (pe_callTy call_int_str (by rfl) T.int (by decide +kernel) (pa_cons (pv 0) pa_nil)))), ?_⟩
    refine ⟨_, rfl, rfl, _, rfl, ?_⟩
    rw [dec_str]
    by_cases e0 : z = ""
    · rw [decide_eq_true e0]
      have e : canon z = false := by simp [canon, e0]
      have q0 := q H (Same.refl H)
      rw [numO_no e] at q0
      exact iteT (iteT q0)
    rw [decide_eq_false e0]
    refine iteF ?_
    refine ⟨_, rfl, z, rfl, fun D hD => lc_it walk_str
      (fun i J => Same H J ∧ J D = some (.lst (((z.cps.toList.take i).filter ndig).map fun c => V.str ⟨#[c]⟩)))
      ⟨new_same hD, upd_same⟩ (fun _ _ _ _ => trivial) ?_ ?_⟩
    · rintro i x J J' hi ⟨s1, l1⟩ ⟨rfl, c, hc, rfl⟩
      have hc' : z.cps.toList[i]? = some c := by simpa using hc
      refine ⟨rfl, _, rfl, c, _, rfl, rfl, _, rfl, ?_⟩
      refine ite2 (fun hn => ?_) (fun hn => ?_)
      · refine ⟨_, rfl, _, l1, ?_, ?_, ?_⟩
        · have e2 : z.cps.size ≤ 600 := tz.1
          have e3 := List.length_filter_le ndig (z.cps.toList.take i)
          have e4 : (z.cps.toList.take i).length ≤ z.cps.size := by simp; omega
          rw [List.length_map, sizeLine_eq]
          omega
        · intro b o e
          rw [upd_ne (ne_of_none e hD)]
          exact s1 b o e
        · rw [upd_same, take_next hc', List.filter_append, List.filter_cons_of_pos (show ndig c = true from hn), List.filter_nil, List.map_append]
          rfl
      · refine ⟨s1, ?_⟩
        rw [l1, take_next hc', List.filter_append, List.filter_cons_of_neg (show ¬ ndig c = true from hn), List.filter_nil, List.append_nil]
    · rintro J ⟨s1, l1⟩
      rw [List.take_of_length_le (by simp)] at l1
      refine ⟨Nat.zero_le _, fun p hp => ?_⟩
      have npD : D ≠ p := ne_of_none l1 hp
      refine ⟨_, _, .lst (SqL.of (by rw [upd_ne npD]; exact l1)) (dpStr _), .lst (SqL.of upd_same) .nil, ?_, by decide +kernel, _, rfl, ?_⟩
      · unfold PySem.SeqAt.shaped
        rw [Bool.and_eq_true]
        refine ⟨?_, decide_eq_true (by simp only [PyData.depth, dpZero]; decide)⟩
        simp only [PyData.canLay0]
        exact shStr _ fun c hc => tz.2 c (List.mem_filter.mp hc).1
      rw [eqvNil, filt]
      have q1 := q _ (s1.trans (new_same (o := .lst []) hp))
      cases hb : z.cps.toList.all dig with
      | false =>
        have e : canon z = false := by simp [canon, hb]
        rw [numO_no e] at q1
        exact iteT (iteT q1)
      | true =>
        refine iteF ?_
        obtain ⟨c, h1, h2⟩ := first_sign e0
        refine ⟨_, rfl, z, _, c, rfl, rfl, Nat.le_trans tz.1 (by decide), h2, rfl, _, rfl, ?_⟩
        rw [dec_str, sign0]
        by_cases e1 : c = 48
        · rw [decide_eq_true e1]
          refine iteT ⟨_, rfl, rfl, _, rfl, ?_⟩
          rw [dec_str]
          by_cases e2 : z = "0"
          · rw [decide_eq_true e2]
            have e : canon z = true := by
              unfold canon
              rw [decide_eq_false e0, hb, decide_eq_true e2]
              rfl
            rw [numO_rw e] at q1
            exact iteF ⟨_, rfl, _, _, rfl, canon_int e (Nat.le_trans tz.1 (by decide)), Nat.le_trans tz.1 (by decide), q1⟩
          · rw [decide_eq_false e2]
            have e : canon z = false := by
              unfold canon hd0
              rw [decide_eq_false e0, hb, decide_eq_false e2, h1, e1]
              simp
            rw [numO_no e] at q1
            exact iteT q1
        · rw [decide_eq_false e1]
          have e : canon z = true := by
            unfold canon hd0
            rw [decide_eq_false e0, hb, h1]
            simp [e1]
          rw [numO_rw e] at q1
          exact iteF (iteF ⟨_, rfl, _, _, rfl, canon_int e (Nat.le_trans tz.1 (by decide)), Nat.le_trans tz.1 (by decide), q1⟩)
end
end N4
namespace N4
open PySem L2 G
theorem e55 : (10 : Int) ^ (55 : Int).toNat = 10000000000000000000000000000000000000000000000000000000 := by decide +kernel
theorem e54 : (10 : Int) ^ (54 : Int).toNat = 1000000000000000000000000000000000000000000000000000000 := by decide +kernel
theorem tx_len57 {i : Int} (h0 : 0 ≤ i) (h : i.natAbs < 10 ^ 57) : (tx i).length ≤ 57 := by
  have e : i = ((i.toNat : Nat) : Int) := by omega
  unfold tx
  rw [e, TL.len_tl, TL.tl_num]
  exact TL.numL_len (by decide) (by omega)
theorem lt_dec (i : Nat) : decide (((i : Nat) : Int) < 0) = false := decide_eq_false (by omega)
section
variable {P : Program} {w : World} {K : PySem.W.Frag} {mg : Str → Option Value} {base : Heap}
theorem scRd : FnScope ["_law_text_here", "_law_at", "_law_low", "_law_rest", "_law_high"] ["_law_text_here"] (defScope sRead) :=
  ⟨rfl, rfl, rfl, by decide +kernel, rfl, by decide +kernel, by decide +kernel⟩
theorem ok_read {f fN : Addr} {fd fdN : FuncData} (F : Fun K "_law_read" "_law_read" sRead f fd)
    (GN : FnOk P w K mg base CX0 1 fN fdN ["_law_word"] spNumb) (kN : PySem.W.keepIn K (.ref fN) = true) (bN : Binds K fdN ["_law_word"] []) (gN : mg "_law_number" = some (.ref fN)) :
    FnOk P w K mg base CX0 2 f fd ["_law_text_here"] spRead := by
  refine F.ok scRd (fun vs H Q E h => ?_) (fun cdv A outer s H vs Q E hrN h => ?_)
  · obtain ⟨z, rfl, _⟩ := h
    rfl
  · obtain ⟨z, rfl, tz, q1, q2⟩ := h
    refine ⟨_, pss_cons (ps_set (i := 1) scRd.nd rfl (Or.inl rfl) (pe_m1 PySem.F.slot_str_find PySem.F.type_str_find mt_find (pv 0) pe_str))
      (pss_cons (ps_if (pt_cmpR op_lt (pv 1) pe_int (nomark _)) (pss_one (ps_ret pe_non)) pss_nil)
      (pss_cons (ps_par (by rfl) scRd.nd (i := 2) (j := 3) rfl rfl (by decide) rfl rfl (pa_cons (pe_call GN hrN (by rfl) gN kN bN .nil pass0 (pa_cons (pe_slice sl_str (pv 0) po_none (po_some (pv 1))) pa_nil)) (pa_cons (pe_slice sl_str (pv 0) (po_some (pe_op op_add (pv 1) pe_int)) po_none) pa_nil)) (by rfl))
      (pss_cons (ps_set (i := 4) scRd.nd rfl (Or.inl rfl) (pe_ifExp (pt_cmpR op_eq (pv 3) pe_str (nomark _)) pe_non (pe_call GN hrN (by rfl) gN kN bN .nil pass0 (pa_cons (pv 3) pa_nil))))
      (pss_cons (ps_if (PW.pt (pw_or (pt_cmp (pc_isN (pv 2))) (pw_or1 (PW.pt (pw_and (pt_cmpR op_ne (pv 3) pe_str (nomark _)) (pw_and1 (PW.pt (pw_or (pt_cmp (pc_isN (pv 4))) (pw_or1 (pt_cmpR op_lt (pv 4) (pv 2) (nomark _))))))))))) (pss_one (ps_ret pe_non)) pss_nil)
      (pss_one (ps_ret (pe_tup (pa_cons (pv 2) (pa_cons (pv 4) pa_nil))))))))), ?_⟩
    have zl : z.length ≤ sizeLine := Nat.le_trans tz.1 (by decide)
    refine ⟨_, rfl, ⟨_, rfl⟩, z, DOT, rfl, rfl, ?_⟩
    refine ⟨_, rfl, _, _, rfl, rfl, _, rfl, ?_⟩
    rcases part_cases z with ⟨ef, es, _⟩ | ⟨i, ef, es, eb, ea, ez⟩
    · rw [ef]
      have e : readW z = none := by unfold readW; rw [if_pos (.inl es)]
      exact iteT (q1 H (Same.refl H) e)
    · rw [ef, lt_dec]
      refine iteF ?_
      have ns : ¬ (pS z = "") := by rw [es]; exact dot_ne
      refine ⟨_, rfl, _, rfl, _, rfl, z, rfl, zl, ?_⟩
      rw [← eb]
      have tb : TOk 600 (pB z) := by rw [eb]; exact tz.cut _ _
      have ta : TOk 600 (pA z) := by rw [ea]; exact tz.cut _ _
      refine ⟨pB z, rfl, tb, fun J1 S1 => ?_⟩
      refine ⟨_, rfl, _, rfl, _, _, rfl, rfl, _, rfl, z, rfl, zl, ?_⟩
      rw [← ea]
      refine ⟨_, _, rfl, ?_⟩
      refine ⟨_, rfl, rfl, _, rfl, ?_⟩
      rw [dec_str]
      by_cases c3 : pA z = ""
      · rw [decide_eq_true c3]
        refine iteT ?_
        cases c2 : canon (pB z) with
        | false =>
          rw [numO_no c2]
          have e : readW z = none := by unfold readW; rw [if_pos (.inr c2)]
          exact ⟨_, rfl, _, rfl, iteT (iteT (q1 J1 S1 e))⟩
        | true =>
          rw [numO_rw c2]
          have n1 : ¬ (pS z = "" ∨ canon (pB z) = false) := by
            rintro (h | h)
            · exact ns h
            · rw [c2] at h; cases h
          have e : readW z = some (val (pB z), none) := by unfold readW; rw [if_neg n1, if_pos c3]
          refine ⟨_, rfl, _, rfl, iteF ?_⟩
          refine ⟨_, rfl, rfl, _, rfl, ?_⟩
          rw [dec_str, decide_eq_true c3]
          refine iteF (iteF ⟨_, rfl, _, rfl, (by show 2 ≤ sizeLine; decide), fun t ht => ?_⟩)
          exact q2 _ t _ (S1.trans (new_same ht)) e upd_same
      · rw [decide_eq_false c3]
        refine iteF ⟨_, rfl, pA z, rfl, ta, fun J2 S2 => ?_⟩
        have S02 := S1.trans S2
        cases c2 : canon (pB z) with
        | false =>
          rw [numO_no c2]
          have e : readW z = none := by unfold readW; rw [if_pos (.inr c2)]
          exact ⟨_, rfl, _, rfl, iteT (iteT (q1 J2 S02 e))⟩
        | true =>
          rw [numO_rw c2]
          have n1 : ¬ (pS z = "" ∨ canon (pB z) = false) := by
            rintro (h | h)
            · exact ns h
            · rw [c2] at h; cases h
          refine ⟨_, rfl, _, rfl, iteF ?_⟩
          refine ⟨_, rfl, rfl, _, rfl, ?_⟩
          rw [dec_str, decide_eq_false c3]
          refine iteT ?_
          cases c4 : canon (pA z) with
          | false =>
            rw [numO_no c4]
            have e : readW z = none := by unfold readW; rw [if_neg n1, if_neg c3, if_pos (.inl c4)]
            exact ⟨_, rfl, _, rfl, iteT (iteT (q1 J2 S02 e))⟩
          | true =>
            rw [numO_rw c4]
            refine ⟨_, rfl, _, rfl, iteF ⟨_, rfl, _, rfl, _, _, rfl, rfl, _, rfl, ?_⟩⟩
            by_cases c5 : val (pA z) < val (pB z)
            · rw [decide_eq_true c5]
              have e : readW z = none := by unfold readW; rw [if_neg n1, if_neg c3, if_pos (.inr c5)]
              exact iteT (q1 J2 S02 e)
            · rw [decide_eq_false c5]
              have n2 : ¬ (canon (pA z) = false ∨ val (pA z) < val (pB z)) := by
                rintro (h | h)
                · rw [c4] at h; cases h
                · exact c5 h
              have e : readW z = some (val (pB z), some (val (pA z))) := by unfold readW; rw [if_neg n1, if_neg c3, if_neg n2]
              refine iteF ⟨_, rfl, _, rfl, (by show 2 ≤ sizeLine; decide), fun t ht => ?_⟩
              exact q2 _ t _ (S02.trans (new_same ht)) e upd_same

theorem scWi : FnScope ["_law_rng_here", "_law_low"] ["_law_rng_here"] (defScope sWindow) :=
  ⟨rfl, rfl, rfl, by decide +kernel, rfl, by decide +kernel, by decide +kernel⟩
theorem ok_wind {f fD : Addr} {fd fdD : FuncData} (F : Fun K "_law_window" "_law_window" sWindow f fd)
    (GD : FnOk P w K mg base CX0 1 fD fdD ["_law_rng_here", "_law_many"] spDraw) (kD : PySem.W.keepIn K (.ref fD) = true) (bD : Binds K fdD ["_law_rng_here", "_law_many"] []) (gD : mg "_law_draw" = some (.ref fD)) :
    FnOk P w K mg base CX0 2 f fd ["_law_rng_here"] spWind := by
  refine F.ok scWi (fun vs H Q E h => ?_) (fun cdv A outer s H vs Q E hrD h => ?_)
  · obtain ⟨r, rfl, _⟩ := h
    rfl
  · obtain ⟨r, rfl, R, q⟩ := h
    refine ⟨_, pss_cons (ps_set (i := 1) scWi.nd rfl (Or.inl rfl) (pe_ix ix_list (pe_lst (pa_cons pe_int (pa_cons (pe_call GD hrD (by rfl) gD kD bD .nil pass0 (pa_cons (pv 0) (pa_cons pe_int pa_nil))) (pa_cons (pe_call GD hrD (by rfl) gD kD bD .nil pass0 (pa_cons (pv 0) (pa_cons (pe_op op_pow pe_int pe_int) pa_nil))) pa_nil)))) (pe_call GD hrD (by rfl) gD kD bD .nil pass0 (pa_cons (pv 0) (pa_cons pe_int pa_nil))) (fun _ _ => rfl)))
      (pss_one (ps_ret (pe_tup (pa_cons (pv 1) (pa_cons (pe_ix ix_list (pe_lst (pa_cons pe_non (pa_cons (pv 1) (pa_cons (pe_op op_add (pe_op op_add (pv 1) pe_int) (pe_call GD hrD (by rfl) gD kD bD .nil pass0 (pa_cons (pv 0) (pa_cons pe_int pa_nil)))) (pa_cons (pe_op op_add (pv 1) (pe_call GD hrD (by rfl) gD kD bD .nil pass0 (pa_cons (pv 0) (pa_cons (pe_op op_pow pe_int pe_int) pa_nil)))) pa_nil))))) (pe_call GD hrD (by rfl) gD kD bD .nil pass0 (pa_cons (pv 0) (pa_cons pe_int pa_nil))) (fun _ _ => rfl)) pa_nil))))), ?_⟩
    refine ⟨_, rfl, r, _, rfl, R, by decide, by decide, fun d1 H1 E1 R1 a0 a1 => ?_⟩
    refine ⟨_, rfl, _, _, rfl, rfl, ⟨by decide, by decide, by decide⟩, r, _, rfl, R1, by rw [e55]; decide, by rw [e55]; decide, fun d2 H2 E2 R2 b0 b1 => ?_⟩
    rw [e55] at b1
    refine ⟨(by show 3 ≤ sizeLine; decide), fun p hp => ?_⟩
    refine ⟨_, rfl, r, _, rfl, R2.new hp, by decide, by decide, fun d3 H3 E3 R3 f0 f1 => ?_⟩
    have k3 := E3 _ _ (R2.free hp).symm upd_same
    obtain ⟨v, hv, hm⟩ := at_mem (xs := [V.int 0, V.int d1, V.int d2]) f0 (by show d3 < 3; omega)
    obtain ⟨l, rfl, l0, l1⟩ : ∃ x : Int, v = .int x ∧ 0 ≤ x ∧ x < 10000000000000000000000000000000000000000000000000000000 := by
      simp only [List.mem_cons, List.not_mem_nil, or_false] at hm
      rcases hm with rfl | rfl | rfl
      all_goals exact ⟨_, rfl, by omega, by omega⟩
    refine ⟨p, _, _, _, rfl, rfl, SqL.of k3, hv, ?_⟩
    refine ⟨_, rfl, _, rfl, _, rfl, _, _, rfl, rfl, _, rfl, r, _, rfl, R3, by decide, by decide, fun d4 H4 E4 R4 g0 g1 => ?_⟩
    refine ⟨_, _, rfl, rfl, _, rfl, _, rfl, _, _, rfl, rfl, ⟨by decide, by decide, by decide⟩, r, _, rfl, R4, by rw [e54]; decide, by rw [e54]; decide, fun d5 H5 E5 R5 m0 m1 => ?_⟩
    rw [e54] at m1
    refine ⟨_, _, rfl, rfl, (by show 4 ≤ sizeLine; decide), fun p6 hp6 => ?_⟩
    refine ⟨_, rfl, r, _, rfl, R5.new hp6, by decide, by decide, fun d7 H7 E7 R7 n0 n1 => ?_⟩
    have k7 := E7 _ _ (R5.free hp6).symm upd_same
    obtain ⟨x, hx, hmx⟩ := at_mem (xs := [V.non, V.int l, V.int (l + 1 + d4), V.int (l + d5)]) n0 (by show d7 < 4; omega)
    obtain ⟨o, rfl, ho⟩ : ∃ o : Option Int, x = hV o ∧ ∀ y, o = some y → l ≤ y ∧ y < 100000000000000000000000000000000000000000000000000000000 := by
      simp only [List.mem_cons, List.not_mem_nil, or_false] at hmx
      rcases hmx with rfl | rfl | rfl | rfl
      · exact ⟨none, rfl, fun y e => by cases e⟩
      · exact ⟨some l, rfl, fun y e => by cases e; omega⟩
      · exact ⟨some (l + 1 + d4), rfl, fun y e => by cases e; omega⟩
      · exact ⟨some (l + d5), rfl, fun y e => by cases e; omega⟩
    refine ⟨p6, _, _, _, rfl, rfl, SqL.of k7, hx, (by show 2 ≤ sizeLine; decide), fun t ht => ?_⟩
    refine q t (l, o) _ ((((((((E1.trans E2).trans (Ext.new hp)).trans E3).trans E4).trans E5).trans (Ext.new hp6)).trans E7).trans (Ext.new ht)) (R7.new ht) upd_same
      ⟨l0, by show l.natAbs < 10 ^ 130; omega, fun y e => ⟨(ho y e).1, by have := ho y e; omega⟩⟩ ?_
    have t1 : (tx l).length ≤ 57 := tx_len57 l0 (by omega)
    unfold fmtW
    rw [strLen_append, strLen_append, dotLen]
    cases o with
    | none =>
      have : (hT none).length = 0 := by decide +kernel
      show (tx l).length + 2 + (hT none).length ≤ 120
      omega
    | some y =>
      have hy := ho y rfl
      have t2 : (tx y).length ≤ 57 := tx_len57 (by omega) (by omega)
      show (tx l).length + 2 + (tx y).length ≤ 120
      omega

theorem scCh : FnScope ["_law_rng_here", "_law_text_here", "_law_at", "_law_sign", "_law_way"] ["_law_rng_here", "_law_text_here"] (defScope sChanged) :=
  ⟨rfl, rfl, rfl, by decide +kernel, rfl, by decide +kernel, by decide +kernel⟩
theorem ok_chgd {f fD : Addr} {fd fdD : FuncData} (F : Fun K "_law_changed" "_law_changed" sChanged f fd) (T : Txt mg)
    (GD : FnOk P w K mg base CX0 1 fD fdD ["_law_rng_here", "_law_many"] spDraw) (kD : PySem.W.keepIn K (.ref fD) = true) (bD : Binds K fdD ["_law_rng_here", "_law_many"] []) (gD : mg "_law_draw" = some (.ref fD)) :
    FnOk P w K mg base CX0 2 f fd ["_law_rng_here", "_law_text_here"] spChgd := by
  refine F.ok scCh (fun vs H Q E h => ?_) (fun cdv A outer s H vs Q E hrD h => ?_)
  · obtain ⟨r, z, n, rfl, _⟩ := h
    rfl
  · obtain ⟨r, z, n, rfl, R, tz, hn, q⟩ := h
    refine ⟨_, pss_cons (ps_par3 (by rfl) scCh.nd (i := 2) (j := 3) (l := 4) rfl rfl rfl (by decide) (by decide) (by decide) rfl rfl rfl
        (pa_cons (pe_call GD hrD (by rfl) gD kD bD .nil pass0 (pa_cons (pv 0) (pa_cons (pe_op op_add (pe_callB call_len_str (by rfl) T.len PySem.boot_len (pa_cons (pv 1) pa_nil)) pe_int) pa_nil))) (pa_cons (pe_ix ix_str pe_str (pe_call GD hrD (by rfl) gD kD bD .nil pass0 (pa_cons (pv 0) (pa_cons pe_int pa_nil))) (fun _ _ => rfl)) (pa_cons (pe_call GD hrD (by rfl) gD kD bD .nil pass0 (pa_cons (pv 0) (pa_cons pe_int pa_nil))) pa_nil))) (by rfl))
      (pss_cons (ps_if (pt_cmpR op_eq (pv 4) pe_int (nomark _)) (pss_one (ps_ret (pe_op op_add_str (pe_op op_add_str (pe_slice sl_str (pv 1) po_none (po_some (pv 2))) (pv 3)) (pe_slice sl_str (pv 1) (po_some (pv 2)) po_none)))) pss_nil)
      (pss_cons (ps_if (pt_cmpR op_eq (pv 4) pe_int (nomark _)) (pss_one (ps_ret (pe_op op_add_str (pe_op op_add_str (pe_slice sl_str (pv 1) po_none (po_some (pv 2))) (pv 3)) (pe_slice sl_str (pv 1) (po_some (pe_op op_add (pv 2) pe_int)) po_none)))) pss_nil)
      (pss_cons (ps_if (pt_cmpR op_eq (pv 4) pe_int (nomark _)) (pss_one (ps_ret (pe_op op_add_str (pe_slice sl_str (pv 1) po_none (po_some (pv 2))) (pe_slice sl_str (pv 1) (po_some (pe_op op_add (pv 2) pe_int)) po_none)))) pss_nil)
      (pss_cons (ps_if (pt_cmpR op_eq (pv 4) pe_int (nomark _)) (pss_one (ps_ret (pe_op op_add_str pe_str (pv 1)))) pss_nil)
      (pss_one (ps_ret (pe_ifExp (pt_cmpR op_eq (pv 4) pe_int (nomark _)) (pe_revS (pv 1)) (pe_join pe_str (pe_revL (pe_split (pv 1) pe_str)))))))))), ?_⟩
    have zl : z.length ≤ sizeLine := Nat.le_trans tz.1 (Nat.le_trans hn (by decide))
    have zn := tz.1
    refine ⟨_, rfl, _, rfl, _, rfl, zl, _, _, rfl, rfl, r, _, rfl, R, by omega, by omega, fun d1 H1 E1 R1 a0 a1 => ?_⟩
    refine ⟨_, rfl, r, _, rfl, R1, by decide, by decide, fun d2 H2 E2 R2 b0 b1 => ?_⟩
    obtain ⟨c, hc, hm⟩ := at_mem (xs := SGN.cps.toList) b0 (by rw [sgnLen]; exact b1)
    refine ⟨_, _, c, rfl, rfl, by decide +kernel, hc, ?_⟩
    refine ⟨_, rfl, r, _, rfl, R2, by decide, by decide, fun d3 H3 E3 R3 f0 f1 => ?_⟩
    refine ⟨_, _, _, rfl, ?_⟩
    have ex := (E1.trans E2).trans E3
    have c1 := TOk.one (sgnOk c hm)
    obtain ⟨i, rfl⟩ : ∃ i : Nat, d1 = (i : Int) := ⟨d1.toNat, by omega⟩
    have s1 := cut_split z i
    have s2 := cut_drop z i
    have t1 := tz.cut none (some (i : Int))
    have t2 := tz.cut (some (i : Int)) none
    have t3 := tz.cut (some ((i : Int) + 1)) none
    have l1 := c1.1
    refine ⟨_, rfl, rfl, _, rfl, ?_⟩
    refine ite2 (fun _ => ?_) (fun _ => ?_)
    · refine ⟨_, rfl, _, rfl, _, rfl, z, rfl, zl, _, rfl, _, _, rfl, rfl, by rw [sizeLine_eq]; omega, _, rfl, _, rfl, _, rfl, z, rfl, zl, _, _, rfl, rfl, by rw [strLen_append, sizeLine_eq]; omega, ?_⟩
      exact q _ _ ex R3 ⟨by rw [strLen_append, strLen_append]; omega, ((t1.app c1).app t2).2⟩
    refine ⟨_, rfl, rfl, _, rfl, ?_⟩
    refine ite2 (fun _ => ?_) (fun _ => ?_)
    · refine ⟨_, rfl, _, rfl, _, rfl, z, rfl, zl, _, rfl, _, _, rfl, rfl, by rw [sizeLine_eq]; omega, _, rfl, _, rfl, _, _, rfl, rfl, _, rfl, z, rfl, zl, _, _, rfl, rfl, by rw [strLen_append, sizeLine_eq]; omega, ?_⟩
      exact q _ _ ex R3 ⟨by rw [strLen_append, strLen_append]; omega, ((t1.app c1).app t3).2⟩
    refine ⟨_, rfl, rfl, _, rfl, ?_⟩
    refine ite2 (fun _ => ?_) (fun _ => ?_)
    · refine ⟨_, rfl, _, rfl, _, rfl, z, rfl, zl, _, rfl, _, rfl, _, _, rfl, rfl, _, rfl, z, rfl, zl, _, _, rfl, rfl, by rw [sizeLine_eq]; omega, ?_⟩
      exact q _ _ ex R3 ⟨by rw [strLen_append]; omega, (t1.app t3).2⟩
    refine ⟨_, rfl, rfl, _, rfl, ?_⟩
    refine ite2 (fun _ => ?_) (fun _ => ?_)
    · have z0 : TOk 1 ("0" : Str) := ⟨by decide +kernel, by decide +kernel⟩
      have z1 : ("0" : Str).length = 1 := by decide +kernel
      refine ⟨_, rfl, _, _, rfl, rfl, by rw [sizeLine_eq]; omega, ?_⟩
      exact q _ _ ex R3 ⟨by rw [strLen_append]; omega, (z0.app tz).2⟩
    refine ⟨_, rfl, rfl, _, rfl, ?_⟩
    refine ite2 (fun _ => ?_) (fun _ => ?_)
    · exact ⟨_, rfl, z, rfl, zl, fun y hy hcy => q y _ ex R3 ⟨by omega, fun c hc => tz.2 c (hcy c hc)⟩⟩
    · refine ⟨⟨_, rfl⟩, _, rfl, ⟨_, rfl⟩, z, DOT, rfl, rfl, by decide +kernel, by rw [sizeLine_eq]; omega, fun p hp => ?_⟩
      refine ⟨p, _, rfl, SqL.of upd_same, fun p2 hp2 => ?_⟩
      refine ⟨DOT, p2, (PySem.Txt.split z DOT).reverse, rfl, rfl, .inl (SqL.of ?_), split_sum (by omega), ?_⟩
      · rw [upd_same, List.map_reverse]
      · exact q _ _ ((ex.trans (Ext.new hp)).trans (Ext.new hp2)) ((R3.new hp).new hp2) ((join_rev_ok tz).mono (Nat.le_succ _))
end
end N4
namespace N4
open PySem L2 G
theorem call_isQ {X : Cx} {a : Addr} {oe : Obj} {cls : Value} {d : Option Addr} {pn : List (Addr × Obj)} (hz : Zc cls d oe) (hf : ∃ vs, oe.data = .fields vs) :
    CallR (X.suite a ((a, oe) :: pn)) (.builtin "isinstance") (fun xs H Q => ∃ D dd, cls = .ref D ∧ d = some dd ∧ ExcC X.K D ∧ (∃ fs, H dd = some (.xd fs)) ∧ rIsE X.K D a xs H Q) := by
  intro pins s σ H xs us Q I r h
  obtain ⟨D, dd, rfl, rfl, C, h⟩ := h
  exact call_isX C hz hf pins s σ H xs us Q I r h
def txt2 (a : Str) (d : PyData) : PyData := .list [.str a, d]
def spForm : Sp := fun vs H Q _ => ∃ (v : V) (d : PyData), vs = [v] ∧ Da H v d ∧ OkD d ∧
  (∀ w, d = wD w → winB d = true → Wk w ∧ ∀ p H', Same H H' → Da H' (.ref p) (txt2 "text" (.str (fmtW w))) → Q (.ref p) H') ∧
  (winB d = false → ∀ p H', Same H H' → Da H' (.ref p) (txt2 "window" (.str d.shown)) → Q (.ref p) H')
def spPars : Sp := fun vs H Q _ => ∃ (v : V) (d : PyData), vs = [v] ∧ Da H v d ∧
  (∀ z, d = .str z → z.length ≤ 600 ∧ (∀ w, readW z = some w → ∀ p H', Same H H' → Da H' (.ref p) (txt2 "window" (wD w)) → Q (.ref p) H') ∧
    (readW z = none → ∀ p H', Same H H' → Da H' (.ref p) (txt2 "line" (.int 1)) → Q (.ref p) H')) ∧
  (isStr d = false → ∀ p H', Same H H' → Da H' (.ref p) (txt2 "line" (.int 0)) → Q (.ref p) H')
/-- how the two classes stand to each other and to their base -/
structure Two (K : PySem.W.Frag) (mg : Str → Option Value) (CG CW CT : Addr) : Prop where
  gG : mg "GroupError" = some (.ref CG)
  eW : PySem.W.exmOne K (.ref CW) (.ref CG) = some true
  eT : PySem.W.exmOne K (.ref CT) (.ref CG) = some true
  ww : PySem.W.kitOne K (.ref CW) (.ref CW) = some true
  wt : PySem.W.kitOne K (.ref CW) (.ref CT) = some false
  tt : PySem.W.kitOne K (.ref CT) (.ref CT) = some true
  tw : PySem.W.kitOne K (.ref CT) (.ref CW) = some false

section
variable {P : Program} {w : World} {K : PySem.W.Frag} {mg : Str → Option Value} {base : Heap}
theorem scFo : FnScope ["_law_value", "_law_told", "e"] ["_law_value"] (defScope sFormatted) :=
  ⟨rfl, rfl, rfl, by decide +kernel, rfl, by decide +kernel, by decide +kernel⟩
theorem ok_form {f fF CG CW CT : Addr} {fd fdF : FuncData} (F : Fun K "_law_formatted" "_law_formatted" sFormatted f fd) (T : Txt mg) (T2 : Two K mg CG CW CT)
    (TW : XCls P w K mg base "InvalidWindow" CW "value" "value") (TT : XCls P w K mg base "InvalidText" CT "line" "line")
    (GF : FnOk P w K mg base (L2.CX P w) 4 fF fdF ["window"] (spFmt CW)) (kF : PySem.W.keepIn K (.ref fF) = true) (bF : Binds K fdF ["window"] []) (gF : mg "format_window" = some (.ref fF)) :
    FnG P w K mg base CX0 5 f fd ["_law_value"] spForm := by
  refine okG F scFo (fun vs H Q E h => ?_) (fun cdv A outer s H vs Q E gd hr h => ?_)
  · obtain ⟨v, d, rfl, _⟩ := h
    rfl
  · obtain ⟨v, d, rfl, hd, okd, q1, q2⟩ := h
    refine ⟨_, pss_cons (ps_set (i := 1) scFo.nd rfl (Or.inl rfl) (pe_lstS (pa_cons pe_str pa_nil)))
      (pss_cons (ps_try_as (i := 2) (Wout := fun _ _ _ _ => False) (tb := fun W => tAsg (tLstS (tCons (tC (.str "text")) (tCons (tCallS (spFmt CW) (WE W) (tCons (tVar 0) tNil)) tNil))) (gName 1)) rfl rfl scFo.nd rfl rfl ⟨rfl, by decide, Or.inl T2.gG⟩ takes0
          (fun W pn xe tk _ => pss_one (ps_set (i := 1) scFo.nd rfl (Or.inl rfl) (by exact (pe_lstS (pa_cons pe_str (pa_cons (pe_callS GF hr rfl gF kF bF (fun σ => passAt tk σ) (by exact (pa_cons (pv 0) pa_nil))) pa_nil))))))
          (fun a oe cls d pn hz hf => pss_one (ps_if (PW.pt (pw_and (pt_val (pe_callB (call_isQ hz hf) (by rfl) T.isi (by decide +kernel) (pa_cons (pv 2) (pa_cons (pe_glob (v := .ref CW) rfl TW.gC rfl) pa_nil))))
              (pw_and1 (pt_not (pt_val (pe_callB (call_isQ hz hf) (by rfl) T.isi (by decide +kernel) (pa_cons (pv 2) (pa_cons (pe_glob (v := .ref CT) rfl TT.gC rfl) pa_nil))))))))
            (pss_one (ps_set (i := 1) scFo.nd rfl (Or.inl rfl) (pe_lstS (pa_cons pe_str (pa_cons (pe_callB (call_rep gd hr.units) (by rfl) T.repr (by decide +kernel) (pa_cons (pe_xf TW.xf TW.no hz hf (pv 2)) pa_nil)) pa_nil))))) pss_nil)))
      (pss_one (ps_ret (pv 1)))), ?_⟩
    refine ⟨(by show 1 ≤ sizeLine; decide), fun p0 hp0 np0 => ?_⟩
    have S0 := new_same (o := .lst [V.str "other"]) hp0
    have hd0 := hd.mono S0
    refine ⟨_, rfl, v, d, rfl, hd0, fun w ew hb => ?_, fun hb => ?_⟩
    · obtain ⟨wk, q1'⟩ := q1 w ew hb
      refine ⟨wk, (by show 2 ≤ sizeLine; decide), fun p1 hp1 np1 => ?_⟩
      exact ⟨_, rfl, q1' p1 _ (S0.trans (new_same hp1)) (.lst np1 upd_same (.cons (.str _) (.cons (.str _) .nil)))⟩
    · intro dx hdx
      have S1 := S0.trans (new_same (o := .xd [("value", v)]) hdx)
      refine ⟨true, T2.eW, fun _ a ha => ?_, fun z => Bool.noConfusion z⟩
      refine ⟨_, rfl, CW, dx, rfl, rfl, TW.exc, ⟨_, upd_same⟩, .ref CW, .ref CW, true, rfl, fun u h => h, T2.ww, _, rfl, iteT ?_⟩
      refine ⟨_, rfl, CW, dx, rfl, rfl, TW.exc, ⟨_, upd_same⟩, .ref CT, .ref CT, false, rfl, fun u h => h, T2.wt, _, rfl, iteT ?_⟩
      refine ⟨_, rfl, rfl, rfl, dx, _, v, rfl, upd_same, rfl, _, d, rfl, hd.mono S1, okd, (by show 2 ≤ sizeLine; decide), fun p2 hp2 np2 => ?_⟩
      exact ⟨_, rfl, q2 hb p2 _ (S1.trans (new_same hp2)) (.lst np2 upd_same (.cons (.str _) (.cons (.str _) .nil)))⟩
theorem scPd : FnScope ["_law_value", "_law_told", "e"] ["_law_value"] (defScope sParsed) :=
  ⟨rfl, rfl, rfl, by decide +kernel, rfl, by decide +kernel, by decide +kernel⟩
theorem ok_pars {f fP CG CW CT : Addr} {fd fdP : FuncData} (F : Fun K "_law_parsed" "_law_parsed" sParsed f fd) (T : Txt mg) (T2 : Two K mg CG CW CT)
    (TW : XCls P w K mg base "InvalidWindow" CW "value" "value") (TT : XCls P w K mg base "InvalidText" CT "line" "line")
    (GP : FnOk P w K mg base (L2.CX P w) 3 fP fdP ["text"] (spParse CT)) (kP : PySem.W.keepIn K (.ref fP) = true) (bP : Binds K fdP ["text"] []) (gP : mg "parse_window" = some (.ref fP)) :
    FnOk P w K mg base CX0 4 f fd ["_law_value"] spPars := by
  refine F.ok scPd (fun vs H Q E h => ?_) (fun cdv A outer s H vs Q E hr h => ?_)
  · obtain ⟨v, d, rfl, _⟩ := h
    rfl
  · obtain ⟨v, d, rfl, hd, q1, q2⟩ := h
    refine ⟨_, pss_cons (ps_set (i := 1) scPd.nd rfl (Or.inl rfl) (pe_lstS (pa_cons pe_str pa_nil)))
      (pss_cons (ps_try_as (i := 2) (Wout := fun _ _ _ _ => False) (tb := fun W => tAsg (tLstS (tCons (tC (.str "window")) (tCons (tCallS (spParse CT) (WE W) (tCons (tVar 0) tNil)) tNil))) (gName 1)) rfl rfl scPd.nd rfl rfl ⟨rfl, by decide, Or.inl T2.gG⟩ takes0
          (fun W pn xe tk _ => pss_one (ps_set (i := 1) scPd.nd rfl (Or.inl rfl) (by exact (pe_lstS (pa_cons pe_str (pa_cons (pe_callS GP hr rfl gP kP bP (fun σ => passAt tk σ) (by exact (pa_cons (pv 0) pa_nil))) pa_nil))))))
          (fun a oe cls d pn hz hf => pss_one (ps_if (PW.pt (pw_and (pt_val (pe_callB (call_isQ hz hf) (by rfl) T.isi (by decide +kernel) (pa_cons (pv 2) (pa_cons (pe_glob (v := .ref CT) rfl TT.gC rfl) pa_nil))))
              (pw_and1 (pt_not (pt_val (pe_callB (call_isQ hz hf) (by rfl) T.isi (by decide +kernel) (pa_cons (pv 2) (pa_cons (pe_glob (v := .ref CW) rfl TW.gC rfl) pa_nil))))))))
            (pss_one (ps_set (i := 1) scPd.nd rfl (Or.inl rfl) (pe_lstS (pa_cons pe_str (pa_cons (pe_xf TT.xf TT.no hz hf (pv 2)) pa_nil))))) pss_nil)))
      (pss_one (ps_ret (pv 1)))), ?_⟩
    refine ⟨(by show 1 ≤ sizeLine; decide), fun p0 hp0 np0 => ?_⟩
    have S0 := new_same (o := .lst [V.str "other"]) hp0
    have hd0 := hd.mono S0
    obtain ⟨J0, e0⟩ : ∃ J, upd H p0 (.lst [V.str "other"]) = J := ⟨_, rfl⟩
    rw [e0] at S0 hd0
    rw [e0]
    -- what follows an error
    have bad : ∀ (n : Int) (J : Hp), Same H J → (∀ p H', Same H H' → Da H' (.ref p) (txt2 "line" (.int n)) → Q (.ref p) H') →
        ∀ dx, J dx = none → ∀ a, (upd J dx (.xd [("line", .int n)])) a = none → ∀ p2, (upd J dx (.xd [("line", .int n)])) p2 = none → p2 ≠ sysModules →
        Q (.ref p2) (upd (upd J dx (.xd [("line", .int n)])) p2 (.lst [.str "line", .int n])) := by
      intro n J SJ qq dx hdx a ha p2 hp2 np2
      exact qq p2 _ ((SJ.trans (new_same hdx)).trans (new_same hp2)) (.lst np2 upd_same (.cons (.str _) (.cons (.int _) .nil)))
    refine ⟨_, rfl, v, d, rfl, hd0, fun z ez => ?_, fun hb => ?_⟩
    · obtain ⟨hl, qs, qn⟩ := q1 z ez
      refine ⟨hl, fun w hw t J1 S1 ht wt => ?_, fun hw J1 S1 => ?_⟩
      · refine ⟨(by show 2 ≤ sizeLine; decide), fun p1 hp1 np1 => ?_⟩
        have wt2 : WinAt (upd J1 p1 (.lst [.str "window", .ref t])) t w := new_same hp1 _ _ wt
        exact ⟨_, rfl, qs w hw p1 _ ((S0.trans S1).trans (new_same hp1)) (.lst np1 upd_same (.cons (.str _) (.cons wt2.da .nil)))⟩
      · intro dx hdx
        refine ⟨true, T2.eT, fun _ a ha => ?_, fun z => Bool.noConfusion z⟩
        refine ⟨_, rfl, CT, dx, rfl, rfl, TT.exc, ⟨_, upd_same⟩, .ref CT, .ref CT, true, rfl, fun u h => h, T2.tt, _, rfl, iteT ?_⟩
        refine ⟨_, rfl, CT, dx, rfl, rfl, TT.exc, ⟨_, upd_same⟩, .ref CW, .ref CW, false, rfl, fun u h => h, T2.tw, _, rfl, iteT ?_⟩
        refine ⟨_, rfl, rfl, rfl, dx, _, .int 1, rfl, upd_same, rfl, (by show 2 ≤ sizeLine; decide), fun p2 hp2 np2 => ?_⟩
        exact ⟨_, rfl, bad 1 J1 (S0.trans S1) (qn hw) dx hdx a ha p2 hp2 np2⟩
    · intro dx hdx
      refine ⟨true, T2.eT, fun _ a ha => ?_, fun z => Bool.noConfusion z⟩
      refine ⟨_, rfl, CT, dx, rfl, rfl, TT.exc, ⟨_, upd_same⟩, .ref CT, .ref CT, true, rfl, fun u h => h, T2.tt, _, rfl, iteT ?_⟩
      refine ⟨_, rfl, CT, dx, rfl, rfl, TT.exc, ⟨_, upd_same⟩, .ref CW, .ref CW, false, rfl, fun u h => h, T2.tw, _, rfl, iteT ?_⟩
      refine ⟨_, rfl, rfl, rfl, dx, _, .int 0, rfl, upd_same, rfl, (by show 2 ≤ sizeLine; decide), fun p2 hp2 np2 => ?_⟩
      exact ⟨_, rfl, bad 0 J0 S0 (q2 hb) dx hdx a ha p2 hp2 np2⟩
end
end N4
namespace N4
open PySem L2 G
theorem mk {H : Hp} {p : Addr} {o : HO} (h : H p = none) : ∃ J : Hp, upd H p o = J ∧ Same H J ∧ J p = some o := ⟨_, rfl, new_same h, upd_same⟩
theorem read_wk {z : Str} {w : Wn} (h : readW z = some w) (hl : z.length ≤ 130) : Wk w := by
  have f := fmt_read h
  have pl := part_len z
  unfold readW at h
  by_cases c1 : pS z = "" ∨ canon (pB z) = false
  · rw [if_pos c1] at h
    cases h
  · rw [if_neg c1] at h
    have c2 : canon (pB z) = true := by
      cases q : canon (pB z) with
      | true => rfl
      | false => exact absurd (.inr q) c1
    have v1 : (val (pB z)).natAbs < 10 ^ 130 := val_lt c2 (by omega)
    by_cases c3 : pA z = ""
    · rw [if_pos c3] at h
      cases h
      exact ⟨f.2.1, v1, fun x e => by cases e⟩
    · rw [if_neg c3] at h
      by_cases c4 : canon (pA z) = false ∨ val (pA z) < val (pB z)
      · rw [if_pos c4] at h
        cases h
      · rw [if_neg c4] at h
        cases h
        have c5 : canon (pA z) = true := by
          cases q : canon (pA z) with
          | true => rfl
          | false => exact absurd (.inl q) c4
        exact ⟨f.2.1, v1, fun x e => by cases e; exact ⟨f.2.2 _ rfl, val_lt c5 (by omega)⟩⟩
def Sml (d : PyData) : Prop := d.showable = true ∧ d.leavesShort 600 = true ∧ d.weight ≤ 600 ∧ d.depth = 0
theorem smlInt {i : Int} (h0 : 0 ≤ i) (t : i.natAbs < 10 ^ 130) : Sml (.int i) := by
  have lg : i.natAbs.log2 < 450 := PySem.Flt.log2_lt_of (by decide) (Nat.lt_trans t (by decide +kernel))
  refine ⟨?_, ?_, ?_, rfl⟩
  · simp only [PyData.showable, decide_eq_true_eq]
    omega
  · simp only [PyData.leavesShort, decide_eq_true_eq]
    show (tx i).length ≤ 600
    have := tx_len h0 t
    omega
  · simp only [PyData.weight]
    split <;> omega
theorem smlH {w : Wn} (k : Wk w) : Sml (hD w.2) := by
  obtain ⟨l, o⟩ := w
  cases o with
  | none => exact ⟨rfl, rfl, Nat.zero_le _, rfl⟩
  | some x =>
    have h := k.2.2 x rfl
    exact smlInt (Int.le_trans k.1 h.1) h.2
theorem okW {w : Wn} (k : Wk w) : OkD (txt2 "window" (wD w)) := by
  obtain ⟨x1, x2, x3, x4⟩ := smlInt k.1 k.2.1
  obtain ⟨y1, y2, y3, y4⟩ := smlH k
  have s2 : (PyData.str "window").leavesShort 600 = true := by decide +kernel
  have s3 : (PyData.str "window").weight = 6 := by decide +kernel
  refine ⟨?_, ?_, ?_, ?_⟩
  · simp [txt2, wD, PyData.showable, PyData.showableAll] at x1 y1 ⊢
    exact ⟨x1, y1⟩
  · show PyData.leavesShortAll 600 [.str "window", wD w] = true
    have e : (wD w).leavesShort 600 = true := by
      show PyData.leavesShortAll 600 [.int w.1, hD w.2] = true
      rw [PyData.leavesShortAll, x2, PyData.leavesShortAll, y2]
      rfl
    rw [PyData.leavesShortAll, s2, PyData.leavesShortAll, e]
    rfl
  · show PyData.weightAll [.str "window", wD w] ≤ 20000
    have e : (wD w).weight ≤ 1300 := by
      show PyData.weightAll [.int w.1, hD w.2] ≤ 1300
      rw [PyData.weightAll, PyData.weightAll, PyData.weightAll]
      omega
    rw [PyData.weightAll, PyData.weightAll, PyData.weightAll, s3]
    omega
  · show PyData.depthAll [.str "window", wD w] + 1 ≤ 60
    have e : (wD w).depth = 1 := by
      show PyData.depthAll [.int w.1, hD w.2] + 1 = 1
      rw [PyData.depthAll, PyData.depthAll, PyData.depthAll, x4, y4]
      rfl
    rw [PyData.depthAll, PyData.depthAll, PyData.depthAll, e]
    decide
mutual
theorem Da.dp {K : PySem.W.Frag} {H : Hp} {v : V} {d : PyData} : Da H v d → d.hasDict = false → Dp K H v d
  | .non, _ => .non
  | .bl b, _ => .bl b
  | .int i, _ => .int i
  | .str x, _ => .str x
  | .lst _ h t, e => .lst (SqL.of h) (DaAll.dp t (by simpa [PyData.hasDict] using e))
  | .tup h t, e => .tup (SqT.of h) (DaAll.dp t (by simpa [PyData.hasDict] using e))
  | .dic _ _, e => by simp [PyData.hasDict] at e
theorem DaAll.dp {K : PySem.W.Frag} {H : Hp} {vs : List V} {ds : List PyData} : DaAll H vs ds → PyData.hasDictAll ds = false → DpAll K H vs ds
  | .nil, _ => .nil
  | .cons h t, e => by
    simp only [PyData.hasDictAll, Bool.or_eq_false_iff] at e
    exact .cons (Da.dp h e.1) (DaAll.dp t e.2)
end
def sOk (z : Str) : Bool := z.cps.toList.all fun c => decide (c < 1114112)
theorem lay2 {a z : Str} (h1 : PyData.strOk a = true) (h2 : sOk z = true) : (txt2 a (.str z)).canLay0 = true := by
  have e : PyData.strOk z = true := by
    simp only [PyData.strOk]
    rw [Array.all_eq_true_iff_forall_mem]
    intro c hc
    have := List.all_eq_true.mp h2 c (Array.mem_toList_iff.mpr hc)
    simpa using this
  simp [txt2, PyData.canLay0, PyData.canLayAll0, h1, e]
theorem sh2 {a z : Str} (h1 : PyData.strOk a = true) (h2 : sOk z = true) : PySem.SeqAt.shaped (txt2 a (.str z)) = true := by
  unfold PySem.SeqAt.shaped
  rw [lay2 h1 h2]
  rfl
theorem eq2 {a z : Str} (h1 : PyData.strOk a = true) (h2 : sOk z = true) : PyData.eqv (txt2 a (.str z)) (txt2 a (.str z)) = true :=
  PySem.SeqAt.eqv_refl _ (lay2 h1 h2)
theorem layD (w : Wn) : (wD w).canLay0 = true := by
  obtain ⟨l, o⟩ := w
  cases o <;> rfl
theorem shD (w : Wn) : PySem.SeqAt.shaped (wD w) = true := by
  obtain ⟨l, o⟩ := w
  cases o <;> rfl
theorem tx_ok {i : Int} (h : 0 ≤ i) : sOk (tx i) = true := by
  have q := (canon_parts (canon_tx h)).1
  exact List.all_eq_true.mpr fun c hc => by
    have := q c hc
    exact decide_eq_true (by omega)
theorem app_ok {a b : Str} (h1 : sOk a = true) (h2 : sOk b = true) : sOk (a ++ b) = true := by
  unfold sOk at *
  rw [show (a ++ b).cps.toList = a.cps.toList ++ b.cps.toList from TL.tl_append a b, List.all_append, h1, h2]
  rfl
theorem fmt_ok {w : Wn} (k : Wk w) : sOk (fmtW w) = true := by
  obtain ⟨l, o⟩ := w
  unfold fmtW
  refine app_ok (app_ok (tx_ok k.1) (by decide +kernel)) ?_
  cases o with
  | none =>
    show sOk ("" : Str) = true
    decide +kernel
  | some x => exact tx_ok (Int.le_trans k.1 (k.2.2 x rfl).1)
theorem wk_win {w : Wn} (k : Wk w) : winB (wD w) = true := win_wD k.1 fun x e => (k.2.2 x e).1
theorem wk_read {w : Wn} (k : Wk w) : readW (fmtW w) = some w := read_fmt k.1 fun x e => (k.2.2 x e).1
theorem fmt_len {w : Wn} (k : Wk w) : (fmtW w).length ≤ 300 := by
  obtain ⟨l, o⟩ := w
  unfold fmtW
  rw [strLen_append, strLen_append, dotLen]
  have h1 : (tx l).length ≤ 130 := tx_len k.1 k.2.1
  cases o with
  | none =>
    have : (hT none).length = 0 := by decide +kernel
    show (tx l).length + 2 + (hT none).length ≤ 300
    omega
  | some x =>
    have hx := k.2.2 x rfl
    have h2 := tx_len (Int.le_trans k.1 hx.1) hx.2
    show (tx l).length + 2 + (tx x).length ≤ 300
    omega
def spStrR : Sp := fun vs H Q _ => ∃ z : Str, vs = [.str z] ∧ TOk 130 z ∧ ∀ H', Same H H' → Q (.bl true) H'
def spLaw (K : PySem.W.Frag) : Sp := fun vs H Q _ => ∃ (a : Addr) (ns : List Int), vs = [.ref a] ∧
  SqL K H a (ns.map V.int) ∧ ns.length ≤ 63 ∧ ∀ H', Q (.bl true) H'
theorem e60 : (10 : Int) ^ (60 : Int).toNat = 1000000000000000000000000000000000000000000000000000000000000 := by decide +kernel

section
variable {P : Program} {w : World} {K : PySem.W.Frag} {mg : Str → Option Value} {base : Heap}
theorem scSr : FnScope ["_law_text_here", "_law_found", "_law_due"] ["_law_text_here"] (defScope sString) :=
  ⟨rfl, rfl, rfl, by decide +kernel, rfl, by decide +kernel, by decide +kernel⟩
theorem ok_strR {f fR fP fF CW : Addr} {fd fdR fdP fdF : FuncData} (F : Fun K "_law_string_right" "_law_string_right" sString f fd) (T : Txt mg)
    (GR : FnOk P w K mg base CX0 2 fR fdR ["_law_text_here"] spRead) (kR : PySem.W.keepIn K (.ref fR) = true) (bR : Binds K fdR ["_law_text_here"] []) (gR : mg "_law_read" = some (.ref fR))
    (GP : FnOk P w K mg base CX0 4 fP fdP ["_law_value"] spPars) (kP : PySem.W.keepIn K (.ref fP) = true) (bP : Binds K fdP ["_law_value"] []) (gP : mg "_law_parsed" = some (.ref fP))
    (GF : FnOk P w K mg base (L2.CX P w) 4 fF fdF ["window"] (spFmt CW)) (kF : PySem.W.keepIn K (.ref fF) = true) (bF : Binds K fdF ["window"] []) (gF : mg "format_window" = some (.ref fF)) :
    FnG P w K mg base CX0 5 f fd ["_law_text_here"] spStrR := by
  refine okG F scSr (fun vs H Q E h => ?_) (fun cdv A outer s H vs Q E gd hr h => ?_)
  · obtain ⟨z, rfl, _⟩ := h
    rfl
  · obtain ⟨z, rfl, tz, q⟩ := h
    have hrR : Room 2 _ := hr.mono (by decide)
    have hrP : Room 4 _ := hr
    refine ⟨_, pss_cons (ps_set (i := 1) scSr.nd rfl (Or.inl rfl) (pe_call GR hrR (by rfl) gR kR bR .nil pass0 (pa_cons (pv 0) pa_nil)))
      (pss_cons (ps_set (i := 2) scSr.nd rfl (Or.inl rfl) (pe_ifExp (pt_cmp (pc_isN (pv 1))) (pe_lstS (pa_cons pe_str (pa_cons pe_int pa_nil))) (pe_lstS (pa_cons pe_str (pa_cons (pv 1) pa_nil)))))
      (pss_cons (ps_if (pt_cmpR op_ne (pe_callB (call_rep gd hr.units) (by rfl) T.repr (by decide +kernel) (pa_cons (pe_call GP hrP (by rfl) gP kP bP .nil pass0 (pa_cons (pv 0) pa_nil)) pa_nil)) (pe_callB (call_rep gd hr.units) (by rfl) T.repr (by decide +kernel) (pa_cons (pv 2) pa_nil)) (nomark _)) (pss_one (ps_ret pe_bl)) pss_nil)
      (pss_one (ps_ret (pe_or (pe_cmp (pc_isN (pv 1))) (pe_one (pe_cmpR op_eq (pe_call GF hr (by rfl) gF kF bF .nil passL (pa_cons (pv 1) pa_nil)) (pv 0) (nomark _)))))))), ?_⟩
    have tz6 : TOk 600 z := tz.mono (by decide)
    refine ⟨_, rfl, z, rfl, tz6, fun J1 S1 hn => ?_, fun w t J1 S1 hs wt => ?_⟩
    · refine ⟨_, rfl, _, rfl, iteT ?_⟩
      refine ⟨(by show 2 ≤ sizeLine; decide), fun p2 hp2 np2 => ?_⟩
      obtain ⟨J2, j2, S2, k2⟩ := mk (o := .lst [V.str "line", V.int 1]) hp2
      rw [j2]
      refine ⟨_, rfl, _, _, rfl, .str z, fun y ey => ?_, fun h => by cases h⟩
      cases ey
      refine ⟨tz6.1, fun w hw => (by rw [hn] at hw; cases hw), fun _ p J3 S3 d3 => ?_⟩
      have ok1 : OkD (txt2 "line" (.int 1)) := okd (by decide +kernel)
      refine ⟨_, _, rfl, d3, ok1, _, rfl, _, txt2 "line" (.int 1), rfl, .lst np2 (S3 _ _ k2) (.cons (.str _) (.cons (.int _) .nil)), ok1, rfl, _, rfl, ?_⟩
      rw [decide_eq_true rfl]
      refine iteF ?_
      exact ⟨_, rfl, _, rfl, iteT (q J3 ((S1.trans S2).trans S3))⟩
    · refine ⟨_, rfl, _, rfl, iteF ?_⟩
      refine ⟨_, rfl, (by show 2 ≤ sizeLine; decide), fun p2 hp2 np2 => ?_⟩
      obtain ⟨J2, j2, S2, k2⟩ := mk (o := .lst [V.str "window", V.ref t]) hp2
      rw [j2]
      have wk : Wk w := read_wk hs tz.1
      refine ⟨_, rfl, _, _, rfl, .str z, fun y ey => ?_, fun h => by cases h⟩
      cases ey
      refine ⟨tz6.1, fun w' hw' => ?_, fun h => by rw [hs] at h; cases h⟩
      rw [hs] at hw'
      cases hw'
      intro p J3 S3 d3
      have wt3 : WinAt J3 t w := S3 _ _ (S2 _ _ wt)
      refine ⟨_, _, rfl, d3, okW wk, _, rfl, _, txt2 "window" (wD w), rfl, .lst np2 (S3 _ _ k2) (.cons (.str _) (.cons wt3.da .nil)), okW wk, rfl, _, rfl, ?_⟩
      rw [decide_eq_true rfl]
      refine iteF ?_
      refine ⟨_, rfl, _, rfl, iteF ?_⟩
      refine ⟨_, rfl, _, _, rfl, wt3.da, fun w2 e2 hb => ?_, fun hb => by rw [wk_win wk] at hb; cases hb⟩
      have ew : w2 = w := by
        have := e2
        obtain ⟨l, o⟩ := w
        obtain ⟨l2, o2⟩ := w2
        simp only [wD] at this
        cases o <;> cases o2 <;> simp [hD] at this <;> simp [this]
      subst ew
      refine ⟨wk, _, rfl, rfl, ?_⟩
      rw [(fmt_read hs).1, decide_eq_true rfl]
      exact q J3 ((S1.trans S2).trans S3)
end
end N4
namespace N4
open PySem L2 G
theorem wD_inj {a b : Wn} (h : wD a = wD b) : a = b := by
  obtain ⟨l, o⟩ := a
  obtain ⟨l2, o2⟩ := b
  simp only [wD] at h
  cases o <;> cases o2 <;> simp [hD] at h <;> simp [h]
theorem nd_wD (w : Wn) : (wD w).hasDict = false := by
  obtain ⟨l, o⟩ := w
  cases o <;> rfl
theorem okWD {w : Wn} (k : Wk w) : OkD (wD w) := by
  obtain ⟨x1, x2, x3, x4⟩ := smlInt k.1 k.2.1
  obtain ⟨y1, y2, y3, y4⟩ := smlH k
  refine ⟨?_, ?_, ?_, ?_⟩
  · show PyData.showableAll [.int w.1, hD w.2] = true
    rw [PyData.showableAll, x1, PyData.showableAll, y1]
    rfl
  · show PyData.leavesShortAll 600 [.int w.1, hD w.2] = true
    rw [PyData.leavesShortAll, x2, PyData.leavesShortAll, y2]
    rfl
  · show PyData.weightAll [.int w.1, hD w.2] ≤ 20000
    rw [PyData.weightAll, PyData.weightAll, PyData.weightAll]
    omega
  · show PyData.depthAll [.int w.1, hD w.2] + 1 ≤ 60
    rw [PyData.depthAll, PyData.depthAll, PyData.depthAll, x4, y4]
    decide
theorem fmt_tok {w : Wn} (k : Wk w) (h : (fmtW w).length ≤ 120) : TOk 120 (fmtW w) :=
  ⟨h, fun c hc => by
    have := List.all_eq_true.mp (fmt_ok k) c hc
    simpa using this⟩
theorem line_lay (n : Int) : (txt2 "line" (.int n)).canLay0 = true := by
  have e : PyData.strOk ("line" : Str) = true := by decide +kernel
  simp [txt2, PyData.canLay0, PyData.canLayAll0, e]
theorem line_sh (n : Int) : PySem.SeqAt.shaped (txt2 "line" (.int n)) = true := by
  unfold PySem.SeqAt.shaped
  rw [line_lay]
  rfl
theorem line_eq (n : Int) : PyData.eqv (txt2 "line" (.int n)) (txt2 "line" (.int n)) = true := PySem.SeqAt.eqv_refl _ (line_lay n)

section
variable {P : Program} {w : World} {K : PySem.W.Frag} {mg : Str → Option Value} {base : Heap}
theorem scL : FnScope ["_law_script", "_law_k", "_law_rng_here", "_law_turn", "_law_window_here", "_law_text_here", "_law_change", "_law_value", "_law_odd", "_law_wrong"] ["_law_script"] (defScope sLaw) :=
  ⟨rfl, rfl, rfl, by decide +kernel, rfl, by decide +kernel, by decide +kernel⟩
theorem ok_law {f fG fD fW fX fF fP fH fS fM fN CW CT : Addr} {fd fdG fdD fdW fdX fdF fdP fdH fdS fdM fdN : FuncData} (F : Fun K "law" "law" sLaw f fd) (T : Txt mg)
    (GG : FnOk P w K mg base CX0 1 fG fdG ["_law_script", "_law_k"] (spRng K)) (kG : PySem.W.keepIn K (.ref fG) = true) (bG : Binds K fdG ["_law_script", "_law_k"] []) (gG : mg "_law_rng" = some (.ref fG))
    (GD : FnOk P w K mg base CX0 1 fD fdD ["_law_rng_here", "_law_many"] spDraw) (kD : PySem.W.keepIn K (.ref fD) = true) (bD : Binds K fdD ["_law_rng_here", "_law_many"] []) (gD : mg "_law_draw" = some (.ref fD))
    (GW : FnOk P w K mg base CX0 2 fW fdW ["_law_rng_here"] spWind) (kW : PySem.W.keepIn K (.ref fW) = true) (bW : Binds K fdW ["_law_rng_here"] []) (gW : mg "_law_window" = some (.ref fW))
    (GX : FnOk P w K mg base CX0 1 fX fdX ["_law_window_here"] spTx) (kX : PySem.W.keepIn K (.ref fX) = true) (bX : Binds K fdX ["_law_window_here"] []) (gX : mg "_law_text" = some (.ref fX))
    (GF : FnG P w K mg base CX0 5 fF fdF ["_law_value"] spForm) (kF : PySem.W.keepIn K (.ref fF) = true) (bF : Binds K fdF ["_law_value"] []) (gF : mg "_law_formatted" = some (.ref fF))
    (GP : FnOk P w K mg base CX0 4 fP fdP ["_law_value"] spPars) (kP : PySem.W.keepIn K (.ref fP) = true) (bP : Binds K fdP ["_law_value"] []) (gP : mg "_law_parsed" = some (.ref fP))
    (GH : FnOk P w K mg base CX0 2 fH fdH ["_law_rng_here", "_law_text_here"] spChgd) (kH : PySem.W.keepIn K (.ref fH) = true) (bH : Binds K fdH ["_law_rng_here", "_law_text_here"] []) (gH : mg "_law_changed" = some (.ref fH))
    (GS : FnG P w K mg base CX0 5 fS fdS ["_law_text_here"] spStrR) (kS : PySem.W.keepIn K (.ref fS) = true) (bS : Binds K fdS ["_law_text_here"] []) (gS : mg "_law_string_right" = some (.ref fS))
    (GM : FnOk P w K mg base (L2.CX P w) 4 fM fdM ["window"] (spFmt CW)) (kM : PySem.W.keepIn K (.ref fM) = true) (bM : Binds K fdM ["window"] []) (gM : mg "format_window" = some (.ref fM))
    (GN : FnOk P w K mg base (L2.CX P w) 3 fN fdN ["text"] (spParse CT)) (kN : PySem.W.keepIn K (.ref fN) = true) (bN : Binds K fdN ["text"] []) (gN : mg "parse_window" = some (.ref fN)) :
    FnG P w K mg base CX0 6 f fd ["_law_script"] (spLaw K) := by
  refine okG F scL (fun vs H Q E h => ?_) (fun cdv A outer s H vs Q E gd hr h => ?_)
  · obtain ⟨a, ns, rfl, _⟩ := h
    rfl
  · obtain ⟨a, ns, rfl, hS, hlen, q⟩ := h
    have hrG : Room 1 _ := hr.mono (by decide)
    have hrD : Room 1 _ := hr.mono (by decide)
    have hrX : Room 1 _ := hr.mono (by decide)
    have hrW : Room 2 _ := hr.mono (by decide)
    have hrH : Room 2 _ := hr.mono (by decide)
    have hrP : Room 4 _ := hr.mono (by decide)
    have hrM : Room 4 _ := hr.mono (by decide)
    have hrN : Room 3 _ := hr.mono (by decide)
    refine ⟨_, pss_cons (ps_for PassesOwn.never rfl (pi_range1 (by rfl) T.range (pa_cons
          (pe_callB (call_max2 rfl) (by rfl) T.max (by decide +kernel) (pa_cons pe_int (pa_cons
            (pe_callB (call_min2 rfl) (by rfl) T.min (by decide +kernel) (pa_cons pe_int (pa_cons (pe_callB call_len_seq (by rfl) T.len PySem.boot_len (pa_cons (pv 0) pa_nil)) pa_nil))) pa_nil))) pa_nil))
        (pg_name (i := 1) scL.nd rfl (Or.inl rfl))
        (pss_cons (ps_set (i := 2) scL.nd rfl (Or.inl rfl) (pe_call GG hrG (by rfl) gG kG bG .nil pass0 (pa_cons (pv 0) (pa_cons (pv 1) pa_nil))))
        (pss_cons (ps_for PassesOwn.never rfl (pi_range1 (by rfl) T.range (pa_cons pe_int pa_nil)) (pg_name (i := 3) scL.nd rfl (Or.inl rfl))
          (pss_cons (ps_set (i := 4) scL.nd rfl (Or.inl rfl) (pe_call GW hrW (by rfl) gW kW bW .nil pass0 (pa_cons (pv 2) pa_nil)))
          (pss_cons (ps_set (i := 5) scL.nd rfl (Or.inl rfl) (pe_call GX hrX (by rfl) gX kX bX .nil pass0 (pa_cons (pv 4) pa_nil)))
          (pss_cons (ps_if (PW.pt (pw_or (pt_cmpR (op_neD hr.units) (pe_callG GF gd hr (by rfl) gF kF bF .nil pass0 (pa_cons (pv 4) pa_nil)) (pe_lst (pa_cons pe_str (pa_cons (pv 5) pa_nil))) (nomark _))
              (pw_or1 (pt_cmpR op_ne (pe_callB (call_rep gd hr.units) (by rfl) T.repr (by decide +kernel) (pa_cons (pe_call GP hrP (by rfl) gP kP bP .nil pass0 (pa_cons (pv 5) pa_nil)) pa_nil)) (pe_callB (call_rep gd hr.units) (by rfl) T.repr (by decide +kernel) (pa_cons (pe_lstS (pa_cons pe_str (pa_cons (pv 4) pa_nil))) pa_nil)) (nomark _))))) (pss_one (ps_ret pe_bl)) pss_nil)
          (pss_cons (ps_for PassesOwn.never rfl (pi_range1 (by rfl) T.range (pa_cons (pe_op op_add pe_int (pe_call GD hrD (by rfl) gD kD bD .nil pass0 (pa_cons (pv 2) (pa_cons pe_int pa_nil)))) pa_nil)) (pg_name (i := 6) scL.nd rfl (Or.inl rfl))
            (pss_one (ps_set (i := 5) scL.nd rfl (Or.inl rfl) (pe_call GH hrH (by rfl) gH kH bH .nil pass0 (pa_cons (pv 2) (pa_cons (pv 5) pa_nil))))))
          (pss_one (ps_if (pt_not (pt_val (pe_callG GS gd hr (by rfl) gS kS bS .nil pass0 (pa_cons (pv 5) pa_nil)))) (pss_one (ps_ret pe_bl)) pss_nil)))))))
        (pss_cons (ps_for PassesOwn.never rfl (pi_list (pe_lst (pa_cons (pe_tup (pa_cons (pe_op op_sub (pe_op op_pow pe_int pe_int) pe_int) (pa_cons pe_non pa_nil))) (pa_cons (pe_tup (pa_cons pe_int (pa_cons (pe_op op_sub (pe_op op_pow pe_int pe_int) pe_int) pa_nil))) pa_nil)))) (pg_name (i := 4) scL.nd rfl (Or.inl rfl))
          (pss_one (ps_if (PW.pt (pw_or (pt_cmpR op_ne (pe_call GM hrM (by rfl) gM kM bM .nil passL (pa_cons (pv 4) pa_nil)) (pe_call GX hrX (by rfl) gX kX bX .nil pass0 (pa_cons (pv 4) pa_nil)) (nomark _))
              (pw_or1 (pt_cmpR (op_neD hr.units) (pe_call GN hrN (by rfl) gN kN bN .nil passL (pa_cons (pe_call GX hrX (by rfl) gX kX bX .nil pass0 (pa_cons (pv 4) pa_nil)) pa_nil)) (pv 4) (nomark _))))) (pss_one (ps_ret pe_bl)) pss_nil)))
        (pss_cons (ps_for PassesOwn.never rfl (pi_list (pe_lst (pa_cons pe_non (pa_cons pe_int (pa_cons pe_bl (pa_cons (pe_tup pa_nil) (pa_cons (pe_lstS pa_nil) (pa_cons pe_dnewK (pa_cons (pe_lstS (pa_cons (pe_tup (pa_cons pe_int (pa_cons pe_int pa_nil))) pa_nil)) (pa_cons (pe_tup (pa_cons pe_str pa_nil)) (pa_cons (pe_tup (pa_cons pe_int (pa_cons pe_int pa_nil))) pa_nil))))))))))) (pg_name (i := 7) scL.nd rfl (Or.inl rfl))
          (pss_one (ps_if (pt_cmpR (op_neD hr.units) (pe_call GP hrP (by rfl) gP kP bP .nil pass0 (pa_cons (pv 7) pa_nil)) (pe_lst (pa_cons pe_str (pa_cons pe_int pa_nil))) (nomark _)) (pss_one (ps_ret pe_bl)) pss_nil)))
        (pss_cons (ps_set (i := 8) scL.nd rfl (Or.inl rfl) (pe_lst (pa_cons pe_non (pa_cons pe_int (pa_cons pe_str (pa_cons (pe_lstS (pa_cons pe_int (pa_cons pe_int pa_nil))) (pa_cons (pe_tup (pa_cons pe_int pa_nil)) (pa_cons (pe_tup (pa_cons pe_int (pa_cons pe_int (pa_cons pe_int pa_nil)))) (pa_cons (pe_tup (pa_cons pe_int (pa_cons pe_int pa_nil))) (pa_cons (pe_tup (pa_cons pe_bl (pa_cons pe_int pa_nil))) (pa_cons (pe_tup (pa_cons pe_int (pa_cons pe_bl pa_nil))) (pa_cons (pe_tup (pa_cons (pe_un un_neg pe_int) (pa_cons pe_int pa_nil))) (pa_cons (pe_tup (pa_cons pe_int (pa_cons pe_str pa_nil))) (pa_cons pe_dnewK (pa_cons (pe_tup pa_nil) pa_nil)))))))))))))))
        (pss_cons (ps_for PassesOwn.never rfl (pi_list (pv 8)) (pg_name (i := 7) scL.nd rfl (Or.inl rfl))
          (pss_one (ps_if (pt_cmpR (op_neD hr.units) (pe_callG GF gd hr (by rfl) gF kF bF .nil pass0 (pa_cons (pv 7) pa_nil)) (pe_lst (pa_cons pe_str (pa_cons (pe_callB (call_rep gd hr.units) (by rfl) T.repr (by decide +kernel) (pa_cons (pv 7) pa_nil)) pa_nil))) (nomark _)) (pss_one (ps_ret pe_bl)) pss_nil)))
        (pss_cons (ps_set (i := 9) scL.nd rfl (Or.inl rfl) (pe_lst (pa_cons pe_str (pa_cons pe_str (pa_cons pe_str (pa_cons pe_str (pa_cons pe_str (pa_cons pe_str (pa_cons pe_str (pa_cons pe_str (pa_cons pe_str (pa_cons pe_str (pa_cons pe_str (pa_cons pe_str pa_nil))))))))))))))
        (pss_one (ps_for PassesOwn.never rfl (pi_list (pe_op op_cat (pv 9) (pe_lst (pa_cons pe_str (pa_cons pe_str pa_nil))))) (pg_name (i := 5) scL.nd rfl (Or.inl rfl))
          (pss_one (ps_if (pt_cmpR (op_neD hr.units) (pe_call GP hrP (by rfl) gP kP bP .nil pass0 (pa_cons (pv 5) pa_nil)) (pe_lst (pa_cons pe_str (pa_cons pe_int pa_nil))) (nomark _)) (pss_one (ps_ret pe_bl)) pss_nil))))))))))))
      (pss_one (ps_ret pe_bl)), ?_⟩
    have hN : ∀ L : Int, 0 ≤ L → 0 ≤ (if (if L < 8 then L else 8) > 1 then (if L < 8 then L else 8) else 1) ∧
        (if (if L < 8 then L else 8) > 1 then (if L < 8 then L else 8) else 1) ≤ 10 := by
      intro L hL
      by_cases h1 : L < 8
      · rw [if_pos h1]
        split <;> omega
      · rw [if_neg h1]
        decide
    have hN2 := hN ((ns.map V.int).length : Nat) (by omega)
    refine ⟨_, rfl, a, _, rfl, .inl hS, _, _, rfl, _, _, rfl, _, rfl, by omega, by omega, ?_⟩
    generalize (if (if ((ns.map V.int).length : Int) < 8 then ((ns.map V.int).length : Int) else 8) > 1 then (if ((ns.map V.int).length : Int) < 8 then ((ns.map V.int).length : Int) else 8) else 1) = n at hN2
    refine for_range (lo := 0) (n := n.toNat) (fun i σ J => ∃ c1 c2 c3 c4 c5 c6 c7 c8 c9, σ = [some (.ref a), c1, c2, c3, c4, c5, c6, c7, c8, c9] ∧ SqL K J a (ns.map V.int)) ⟨_, _, _, _, _, _, _, _, _, rfl, hS⟩ ?_ ?_
    · rintro i σ J0 hi ⟨c1, c2, c3, c4, c5, c6, c7, c8, c9, rfl, hS0⟩
      refine ⟨_, rfl, _, rfl, a, ns, _, rfl, hS0, by omega, by omega, fun r J1 fr S1 R1 => ?_⟩
      refine ⟨_, rfl, by decide, by decide, ?_⟩
      refine for_range (lo := 0) (n := 6) (fun i σ J => ∃ k c3 c4 c5 c6 c7 c8 c9, σ = [some (.ref a), k, some (.ref r), c3, c4, c5, c6, c7, c8, c9] ∧ Ext r J0 J ∧ Rng J r)
        ⟨_, _, _, _, _, _, _, _, rfl, fun b o _ h => S1 b o h, R1⟩ ?_ ?_
      · rintro j σ J2 hj ⟨k, c3, c4, c5, c6, c7, c8, c9, rfl, E2, R2⟩
        refine ⟨_, rfl, r, rfl, R2, fun t w J3 E3 R3 wt wk fl => ?_⟩
        refine ⟨_, rfl, t, w, rfl, wt, wk, ?_⟩
        refine ⟨_, rfl, _, wD w, rfl, wt.da, okWD wk, fun w2 e2 hb => ?_, fun hb => by rw [wk_win wk] at hb; cases hb⟩
        obtain rfl := wD_inj e2
        refine ⟨wk, fun p4 J4 S4 d4 => ?_⟩
        refine ⟨_, rfl, (by show 2 ≤ sizeLine; decide), fun p5 hp5 => ?_⟩
        obtain ⟨J5, j5, S5, k5⟩ := mk (o := .lst [V.str "text", V.str (fmtW w)]) hp5
        rw [j5]
        have ok5 := fmt_ok wk
        refine ⟨_, txt2 "text" (.str (fmtW w)), Da.dp (d4.mono S5) rfl, .lst (SqL.of k5) (.cons (.str _) (.cons (.str _) .nil)), sh2 (by decide +kernel) ok5, sh2 (by decide +kernel) ok5, _, rfl, ?_⟩
        rw [eq2 (by decide +kernel) ok5]
        refine iteF ?_
        refine ⟨_, rfl, _, _, rfl, .str _, fun y ey => ?_, fun h => by cases h⟩
        cases ey
        refine ⟨by omega, fun w2 hw2 p6 J6 S6 d6 => ?_, fun h => by rw [wk_read wk] at h; cases h⟩
        rw [wk_read wk] at hw2
        cases hw2
        refine ⟨_, _, rfl, d6, okW wk, ?_⟩
        refine ⟨_, rfl, (by show 2 ≤ sizeLine; decide), fun p7 hp7 np7 => ?_⟩
        obtain ⟨J7, j7, S7, k7⟩ := mk (o := .lst [V.str "window", V.ref t]) hp7
        rw [j7]
        have S37 : Same J3 J7 := ((S4.trans S5).trans S6).trans S7
        have wt7 : WinAt J7 t w := S37 _ _ wt
        refine ⟨_, txt2 "window" (wD w), rfl, .lst np7 k7 (.cons (.str _) (.cons wt7.da .nil)), okW wk, rfl, _, rfl, ?_⟩
        rw [decide_eq_true rfl]
        refine iteF ?_
        have R7 := R3.same S37
        refine ⟨_, rfl, r, _, rfl, R7, by decide, by decide, fun d8 J8 E8 R8 a0 a1 => ?_⟩
        refine ⟨_, _, rfl, rfl, _, rfl, by omega, by omega, ?_⟩
        have E28 : Ext r J0 J8 := ((E2.trans E3).trans (Ext.of S37)).trans E8
        refine for_range (lo := 0) (n := (1 + d8).toNat) (fun i σ J => ∃ k c3 c4 c6 c7 c8 c9 z, σ = [some (.ref a), k, some (.ref r), c3, c4, some (.str z), c6, c7, c8, c9] ∧ TOk (120 + i) z ∧ Ext r J0 J ∧ Rng J r)
          ⟨_, _, _, _, _, _, _, _, rfl, fmt_tok wk fl, E28, R8⟩ ?_ ?_
        · rintro m σ J9 hm ⟨k, c3, c4, c6, c7, c8, c9, z, rfl, tz, E9, R9⟩
          refine ⟨_, rfl, _, rfl, r, z, 120 + m, rfl, R9, tz, by omega, fun y J10 E10 R10 ty => ?_⟩
          exact ⟨_, _, _, _, _, _, _, _, rfl, ty, E9.trans E10, R10⟩
        · rintro σ J9 ⟨k, c3, c4, c6, c7, c8, c9, z, rfl, tz, E9, R9⟩
          refine ⟨_, rfl, z, rfl, tz.mono (by omega), fun J10 S10 => ?_⟩
          exact ⟨_, rfl, iteF ⟨_, _, _, _, _, _, _, _, rfl, E9.trans (Ext.of S10), R9.same S10⟩⟩
      rintro σ J2 ⟨k, c3, c4, c5, c6, c7, c8, c9, rfl, E2, R2⟩
      -- the two greatest windows
      refine ⟨_, _, rfl, rfl, ⟨by decide, by decide, by decide⟩, _, _, rfl, rfl, (by show 2 ≤ sizeLine; decide), fun t1 ht1 => ?_⟩
      obtain ⟨Jt, jt, St, kt⟩ := mk (o := .tup [V.int ((10 : Int) ^ (60 : Int).toNat - 1), V.non]) ht1
      rw [jt]
      refine ⟨_, _, rfl, rfl, ⟨by decide, by decide, by decide⟩, _, _, rfl, rfl, (by show 2 ≤ sizeLine; decide), fun t2 ht2 => ?_⟩
      obtain ⟨Ju, ju, Su, ku⟩ := mk (o := .tup [V.int 0, V.int ((10 : Int) ^ (60 : Int).toNat - 1)]) ht2
      rw [ju]
      refine ⟨(by show 2 ≤ sizeLine; decide), fun pv0 hpv0 => ?_⟩
      obtain ⟨Jv, jv, Sv, kv⟩ := mk (o := .lst [V.ref t1, V.ref t2]) hpv0
      rw [jv]
      have S2v : Same J2 Jv := (St.trans Su).trans Sv
      have wins : ∀ x ∈ [V.ref t1, V.ref t2], ∃ t w, x = .ref t ∧ WinAt Jv t w ∧ Wk w := by
        refine List.forall_mem_cons.2 ⟨⟨t1, ((10 : Int) ^ (60 : Int).toNat - 1, none), rfl, (Su.trans Sv) _ _ kt, ?_⟩, List.forall_mem_cons.2 ⟨⟨t2, (0, some ((10 : Int) ^ (60 : Int).toNat - 1)), rfl, Sv _ _ ku, ?_⟩, fun v hv => by cases hv⟩⟩
        · rw [e60]
          exact ⟨by decide, by decide, fun x e => by cases e⟩
        · rw [e60]
          exact ⟨by decide, by decide, fun x e => by cases e; exact ⟨by decide, by decide⟩⟩
      refine ⟨pv0, rfl, ⟨_, SqL.of kv⟩, ?_⟩
      refine for_list (K := K) (a := pv0) (xs := [V.ref t1, V.ref t2]) (fun i σ J => ∃ k c3 c4 c5 c6 c7 c8 c9, σ = [some (.ref a), k, some (.ref r), c3, c4, c5, c6, c7, c8, c9] ∧ Same Jv J)
        ⟨_, _, _, _, _, _, _, _, rfl, Same.refl _⟩ (fun i σ J _ ⟨_, _, _, _, _, _, _, _, _, e⟩ => SqL.of (e _ _ kv)) ?_ ?_
      · rintro m x σ J hx ⟨k, c3, c4, c5, c6, c7, c8, c9, rfl, SJ⟩
        obtain ⟨t, w, rfl, wt0, wk⟩ := wins x (List.mem_of_getElem? hx)
        have wt : WinAt J t w := SJ _ _ wt0
        refine ⟨_, rfl, _, wD w, rfl, wt.da, fun w2 e2 hb => ?_, fun hb => by rw [wk_win wk] at hb; cases hb⟩
        obtain rfl := wD_inj e2
        refine ⟨wk, _, rfl, t, w, rfl, wt, wk, rfl, _, rfl, ?_⟩
        rw [decide_eq_true rfl]
        refine iteF ?_
        refine ⟨_, rfl, t, w, rfl, wt, wk, _, _, rfl, .str _, fun y ey => ?_, fun h => by cases h⟩
        cases ey
        refine ⟨Nat.le_trans (fmt_len wk) (by decide), fun w2 hw2 t3 J3 S3 ht3 wt3 => ?_, fun h => by rw [wk_read wk] at h; cases h⟩
        rw [wk_read wk] at hw2
        cases hw2
        have wt4 : WinAt J3 t w := S3 _ _ wt
        refine ⟨_, rfl, wD w, wD w, Da.dp wt3.da (nd_wD w), Da.dp wt4.da (nd_wD w), shD w, shD w, _, rfl, ?_⟩
        rw [PySem.SeqAt.eqv_refl _ (layD w)]
        exact iteF ⟨_, _, _, _, _, _, _, _, rfl, SJ.trans S3⟩
      rintro σ JA ⟨k, c3, c4, c5, c6, c7, c8, c9, rfl, SA0⟩
      -- values that are no texts
      refine ⟨(by show 0 ≤ sizeLine; decide), fun pa1 hpa1 => ?_⟩
      obtain ⟨Ja1, ja1, Sa1, ka1⟩ := mk (o := .tup ([] : List V)) hpa1
      rw [ja1]
      have da1 : Da Ja1 (.ref pa1) (.tuple []) := Da.tup ka1 .nil
      refine ⟨(by show 0 ≤ sizeLine; decide), fun pa2 hpa2 npa2 => ?_⟩
      obtain ⟨Ja2, ja2, Sa2, ka2⟩ := mk (o := .lst ([] : List V)) hpa2
      rw [ja2]
      have da2 : Da Ja2 (.ref pa2) (.list []) := Da.lst npa2 ka2 .nil
      refine fun pa3 hpa3 => ?_
      obtain ⟨Ja3, ja3, Sa3, ka3⟩ := mk (o := .dK ([] : List (Key × V))) hpa3
      rw [ja3]
      have da3 : Da Ja3 (.ref pa3) (.dict []) := Da.dic ka3 .nil
      refine ⟨(by show 2 ≤ sizeLine; decide), fun pa4 hpa4 => ?_⟩
      obtain ⟨Ja4, ja4, Sa4, ka4⟩ := mk (o := .tup ([.int 0, .int 1] : List V)) hpa4
      rw [ja4]
      have da4 : Da Ja4 (.ref pa4) (.tuple [.int 0, .int 1]) := Da.tup ka4 (.cons (.int _) (.cons (.int _) .nil))
      refine ⟨(by show 1 ≤ sizeLine; decide), fun pa5 hpa5 npa5 => ?_⟩
      obtain ⟨Ja5, ja5, Sa5, ka5⟩ := mk (o := .lst ([.ref pa4] : List V)) hpa5
      rw [ja5]
      have da5 : Da Ja5 (.ref pa5) (.list [.tuple [.int 0, .int 1]]) := Da.lst npa5 ka5 (.cons (da4.mono (Sa5)) .nil)
      refine ⟨(by show 1 ≤ sizeLine; decide), fun pa6 hpa6 => ?_⟩
      obtain ⟨Ja6, ja6, Sa6, ka6⟩ := mk (o := .tup ([.str "0..1"] : List V)) hpa6
      rw [ja6]
      have da6 : Da Ja6 (.ref pa6) (.tuple [.str "0..1"]) := Da.tup ka6 (.cons (.str _) .nil)
      refine ⟨(by show 2 ≤ sizeLine; decide), fun pa7 hpa7 => ?_⟩
      obtain ⟨Ja7, ja7, Sa7, ka7⟩ := mk (o := .tup ([.int 0, .int 1] : List V)) hpa7
      rw [ja7]
      have da7 : Da Ja7 (.ref pa7) (.tuple [.int 0, .int 1]) := Da.tup ka7 (.cons (.int _) (.cons (.int _) .nil))
      refine ⟨(by show 9 ≤ sizeLine; decide), fun pa8 hpa8 => ?_⟩
      obtain ⟨Ja8, ja8, Sa8, ka8⟩ := mk (o := .lst ([.non, .int 0, .bl true, .ref pa1, .ref pa2, .ref pa3, .ref pa5, .ref pa6, .ref pa7] : List V)) hpa8
      rw [ja8]
      have SAA : Same JA Ja8 := Sa1.trans (Sa2.trans (Sa3.trans (Sa4.trans (Sa5.trans (Sa6.trans (Sa7.trans (Sa8)))))))
      have mA : ∀ x ∈ ([.non, .int 0, .bl true, .ref pa1, .ref pa2, .ref pa3, .ref pa5, .ref pa6, .ref pa7] : List V), ∃ d, Da Ja8 x d ∧ isStr d = false := (List.forall_mem_cons.2 ⟨⟨.none, .non, rfl⟩,
      (List.forall_mem_cons.2 ⟨⟨.int 0, .int _, rfl⟩,
      (List.forall_mem_cons.2 ⟨⟨.bool true, .bl _, rfl⟩,
      (List.forall_mem_cons.2 ⟨⟨.tuple [], da1.mono (Sa2.trans (Sa3.trans (Sa4.trans (Sa5.trans (Sa6.trans (Sa7.trans (Sa8))))))), rfl⟩,
      (List.forall_mem_cons.2 ⟨⟨.list [], da2.mono (Sa3.trans (Sa4.trans (Sa5.trans (Sa6.trans (Sa7.trans (Sa8)))))), rfl⟩,
      (List.forall_mem_cons.2 ⟨⟨.dict [], da3.mono (Sa4.trans (Sa5.trans (Sa6.trans (Sa7.trans (Sa8))))), rfl⟩,
      (List.forall_mem_cons.2 ⟨⟨.list [.tuple [.int 0, .int 1]], da5.mono (Sa6.trans (Sa7.trans (Sa8))), rfl⟩,
      (List.forall_mem_cons.2 ⟨⟨.tuple [.str "0..1"], da6.mono (Sa7.trans (Sa8)), rfl⟩,
      (List.forall_mem_cons.2 ⟨⟨.tuple [.int 0, .int 1], da7.mono (Sa8), rfl⟩,
      (fun v hv => by cases hv)⟩)⟩)⟩)⟩)⟩)⟩)⟩)⟩)⟩)
      refine ⟨pa8, rfl, ⟨_, SqL.of ka8⟩, ?_⟩
      refine for_list (K := K) (a := pa8) (xs := ([.non, .int 0, .bl true, .ref pa1, .ref pa2, .ref pa3, .ref pa5, .ref pa6, .ref pa7] : List V)) (fun i σ J => ∃ k c3 c4 c5 c6 c7 c8 c9, σ = [some (.ref a), k, some (.ref r), c3, c4, c5, c6, c7, c8, c9] ∧ Same Ja8 J)
        ⟨_, _, _, _, _, _, _, _, rfl, Same.refl _⟩ (fun i σ J _ ⟨_, _, _, _, _, _, _, _, _, e⟩ => SqL.of (e _ _ ka8)) ?_ ?_
      · rintro m x σ J hx ⟨k, c3, c4, c5, c6, c7, c8, c9, rfl, SJ⟩
        obtain ⟨d, hd, hs⟩ := mA x (List.mem_of_getElem? hx)
        refine ⟨_, rfl, x, d, rfl, hd.mono SJ, fun z ez => (by rw [ez] at hs; cases hs), fun _ p3 J3 S3 d3 => ?_⟩
        refine ⟨(by show 2 ≤ sizeLine; decide), fun p4 hp4 => ?_⟩
        obtain ⟨J4, j4, S4, k4⟩ := mk (o := .lst [V.str "line", V.int 0]) hp4
        rw [j4]
        refine ⟨_, txt2 "line" (.int 0), Da.dp (d3.mono S4) rfl, .lst (SqL.of k4) (.cons (.str _) (.cons (.int _) .nil)), line_sh 0, line_sh 0, _, rfl, ?_⟩
        rw [line_eq]
        exact iteF ⟨_, _, _, _, _, _, _, _, rfl, (SJ.trans S3).trans S4⟩
      rintro σ JB ⟨k, c3, c4, c5, c6, c7, c8, c9, rfl, SB0⟩
      -- values that are no windows
      refine ⟨(by show 2 ≤ sizeLine; decide), fun pb1 hpb1 npb1 => ?_⟩
      obtain ⟨Jb1, jb1, Sb1, kb1⟩ := mk (o := .lst ([.int 0, .int 1] : List V)) hpb1
      rw [jb1]
      have db1 : Da Jb1 (.ref pb1) (.list [.int 0, .int 1]) := Da.lst npb1 kb1 (.cons (.int _) (.cons (.int _) .nil))
      refine ⟨(by show 1 ≤ sizeLine; decide), fun pb2 hpb2 => ?_⟩
      obtain ⟨Jb2, jb2, Sb2, kb2⟩ := mk (o := .tup ([.int 0] : List V)) hpb2
      rw [jb2]
      have db2 : Da Jb2 (.ref pb2) (.tuple [.int 0]) := Da.tup kb2 (.cons (.int _) .nil)
      refine ⟨(by show 3 ≤ sizeLine; decide), fun pb3 hpb3 => ?_⟩
      obtain ⟨Jb3, jb3, Sb3, kb3⟩ := mk (o := .tup ([.int 0, .int 1, .int 2] : List V)) hpb3
      rw [jb3]
      have db3 : Da Jb3 (.ref pb3) (.tuple [.int 0, .int 1, .int 2]) := Da.tup kb3 (.cons (.int _) (.cons (.int _) (.cons (.int _) .nil)))
      refine ⟨(by show 2 ≤ sizeLine; decide), fun pb4 hpb4 => ?_⟩
      obtain ⟨Jb4, jb4, Sb4, kb4⟩ := mk (o := .tup ([.int 1, .int 0] : List V)) hpb4
      rw [jb4]
      have db4 : Da Jb4 (.ref pb4) (.tuple [.int 1, .int 0]) := Da.tup kb4 (.cons (.int _) (.cons (.int _) .nil))
      refine ⟨(by show 2 ≤ sizeLine; decide), fun pb5 hpb5 => ?_⟩
      obtain ⟨Jb5, jb5, Sb5, kb5⟩ := mk (o := .tup ([.bl true, .int 1] : List V)) hpb5
      rw [jb5]
      have db5 : Da Jb5 (.ref pb5) (.tuple [.bool true, .int 1]) := Da.tup kb5 (.cons (.bl _) (.cons (.int _) .nil))
      refine ⟨(by show 2 ≤ sizeLine; decide), fun pb6 hpb6 => ?_⟩
      obtain ⟨Jb6, jb6, Sb6, kb6⟩ := mk (o := .tup ([.int 0, .bl true] : List V)) hpb6
      rw [jb6]
      have db6 : Da Jb6 (.ref pb6) (.tuple [.int 0, .bool true]) := Da.tup kb6 (.cons (.int _) (.cons (.bl _) .nil))
      refine ⟨_, rfl, ?_⟩
      refine ⟨(by show 2 ≤ sizeLine; decide), fun pb7 hpb7 => ?_⟩
      obtain ⟨Jb7, jb7, Sb7, kb7⟩ := mk (o := .tup ([.int (-1), .int 1] : List V)) hpb7
      rw [jb7]
      have db7 : Da Jb7 (.ref pb7) (.tuple [.int (-1), .int 1]) := Da.tup kb7 (.cons (.int _) (.cons (.int _) .nil))
      refine ⟨(by show 2 ≤ sizeLine; decide), fun pb8 hpb8 => ?_⟩
      obtain ⟨Jb8, jb8, Sb8, kb8⟩ := mk (o := .tup ([.int 0, .str "1"] : List V)) hpb8
      rw [jb8]
      have db8 : Da Jb8 (.ref pb8) (.tuple [.int 0, .str "1"]) := Da.tup kb8 (.cons (.int _) (.cons (.str _) .nil))
      refine fun pb9 hpb9 => ?_
      obtain ⟨Jb9, jb9, Sb9, kb9⟩ := mk (o := .dK ([] : List (Key × V))) hpb9
      rw [jb9]
      have db9 : Da Jb9 (.ref pb9) (.dict []) := Da.dic kb9 .nil
      refine ⟨(by show 0 ≤ sizeLine; decide), fun pb10 hpb10 => ?_⟩
      obtain ⟨Jb10, jb10, Sb10, kb10⟩ := mk (o := .tup ([] : List V)) hpb10
      rw [jb10]
      have db10 : Da Jb10 (.ref pb10) (.tuple []) := Da.tup kb10 .nil
      refine ⟨(by show 13 ≤ sizeLine; decide), fun pb11 hpb11 => ?_⟩
      obtain ⟨Jb11, jb11, Sb11, kb11⟩ := mk (o := .lst ([.non, .int 0, .str "0..1", .ref pb1, .ref pb2, .ref pb3, .ref pb4, .ref pb5, .ref pb6, .ref pb7, .ref pb8, .ref pb9, .ref pb10] : List V)) hpb11
      rw [jb11]
      have SBB : Same JB Jb11 := Sb1.trans (Sb2.trans (Sb3.trans (Sb4.trans (Sb5.trans (Sb6.trans (Sb7.trans (Sb8.trans (Sb9.trans (Sb10.trans (Sb11))))))))))
      have mB : ∀ x ∈ ([.non, .int 0, .str "0..1", .ref pb1, .ref pb2, .ref pb3, .ref pb4, .ref pb5, .ref pb6, .ref pb7, .ref pb8, .ref pb9, .ref pb10] : List V), ∃ d, Da Jb11 x d ∧ OkD d ∧ winB d = false ∧ sOk d.shown = true := (List.forall_mem_cons.2 ⟨⟨.none, .non, okd (by decide +kernel), by decide +kernel, by decide +kernel⟩,
      (List.forall_mem_cons.2 ⟨⟨.int 0, .int _, okd (by decide +kernel), by decide +kernel, by decide +kernel⟩,
      (List.forall_mem_cons.2 ⟨⟨.str "0..1", .str _, okd (by decide +kernel), by decide +kernel, by decide +kernel⟩,
      (List.forall_mem_cons.2 ⟨⟨.list [.int 0, .int 1], db1.mono (Sb2.trans (Sb3.trans (Sb4.trans (Sb5.trans (Sb6.trans (Sb7.trans (Sb8.trans (Sb9.trans (Sb10.trans (Sb11)))))))))), okd (by decide +kernel), by decide +kernel, by decide +kernel⟩,
      (List.forall_mem_cons.2 ⟨⟨.tuple [.int 0], db2.mono (Sb3.trans (Sb4.trans (Sb5.trans (Sb6.trans (Sb7.trans (Sb8.trans (Sb9.trans (Sb10.trans (Sb11))))))))), okd (by decide +kernel), by decide +kernel, by decide +kernel⟩,
      (List.forall_mem_cons.2 ⟨⟨.tuple [.int 0, .int 1, .int 2], db3.mono (Sb4.trans (Sb5.trans (Sb6.trans (Sb7.trans (Sb8.trans (Sb9.trans (Sb10.trans (Sb11)))))))), okd (by decide +kernel), by decide +kernel, by decide +kernel⟩,
      (List.forall_mem_cons.2 ⟨⟨.tuple [.int 1, .int 0], db4.mono (Sb5.trans (Sb6.trans (Sb7.trans (Sb8.trans (Sb9.trans (Sb10.trans (Sb11))))))), okd (by decide +kernel), by decide +kernel, by decide +kernel⟩,
      (List.forall_mem_cons.2 ⟨⟨.tuple [.bool true, .int 1], db5.mono (Sb6.trans (Sb7.trans (Sb8.trans (Sb9.trans (Sb10.trans (Sb11)))))), okd (by decide +kernel), by decide +kernel, by decide +kernel⟩,
      (List.forall_mem_cons.2 ⟨⟨.tuple [.int 0, .bool true], db6.mono (Sb7.trans (Sb8.trans (Sb9.trans (Sb10.trans (Sb11))))), okd (by decide +kernel), by decide +kernel, by decide +kernel⟩,
      (List.forall_mem_cons.2 ⟨⟨.tuple [.int (-1), .int 1], db7.mono (Sb8.trans (Sb9.trans (Sb10.trans (Sb11)))), okd (by decide +kernel), by decide +kernel, by decide +kernel⟩,
      (List.forall_mem_cons.2 ⟨⟨.tuple [.int 0, .str "1"], db8.mono (Sb9.trans (Sb10.trans (Sb11))), okd (by decide +kernel), by decide +kernel, by decide +kernel⟩,
      (List.forall_mem_cons.2 ⟨⟨.dict [], db9.mono (Sb10.trans (Sb11)), okd (by decide +kernel), by decide +kernel, by decide +kernel⟩,
      (List.forall_mem_cons.2 ⟨⟨.tuple [], db10.mono (Sb11), okd (by decide +kernel), by decide +kernel, by decide +kernel⟩,
      (fun v hv => by cases hv)⟩)⟩)⟩)⟩)⟩)⟩)⟩)⟩)⟩)⟩)⟩)⟩)⟩)
      refine ⟨_, rfl, pb11, rfl, ⟨_, SqL.of kb11⟩, ?_⟩
      refine for_list (K := K) (a := pb11) (xs := ([.non, .int 0, .str "0..1", .ref pb1, .ref pb2, .ref pb3, .ref pb4, .ref pb5, .ref pb6, .ref pb7, .ref pb8, .ref pb9, .ref pb10] : List V)) (fun i σ J => ∃ k c3 c4 c5 c6 c7 c8 c9, σ = [some (.ref a), k, some (.ref r), c3, c4, c5, c6, c7, c8, c9] ∧ Same Jb11 J)
        ⟨_, _, _, _, _, _, _, _, rfl, Same.refl _⟩ (fun i σ J _ ⟨_, _, _, _, _, _, _, _, _, e⟩ => SqL.of (e _ _ kb11)) ?_ ?_
      · rintro m x σ J hx ⟨k, c3, c4, c5, c6, c7, c8, c9, rfl, SJ⟩
        obtain ⟨d, hd, okd', hw, hs⟩ := mB x (List.mem_of_getElem? hx)
        have hdJ := hd.mono SJ
        refine ⟨_, rfl, x, d, rfl, hdJ, okd', fun w _ hb => (by rw [hw] at hb; cases hb), fun _ p3 J3 S3 d3 => ?_⟩
        refine ⟨_, rfl, _, d, rfl, hdJ.mono S3, okd', (by show 2 ≤ sizeLine; decide), fun p4 hp4 => ?_⟩
        obtain ⟨J4, j4, S4, k4⟩ := mk (o := .lst [V.str "window", V.str d.shown]) hp4
        rw [j4]
        refine ⟨_, txt2 "window" (.str d.shown), Da.dp (d3.mono S4) rfl, .lst (SqL.of k4) (.cons (.str _) (.cons (.str _) .nil)), sh2 (by decide +kernel) hs, sh2 (by decide +kernel) hs, _, rfl, ?_⟩
        rw [eq2 (by decide +kernel) hs]
        exact iteF ⟨_, _, _, _, _, _, _, _, rfl, (SJ.trans S3).trans S4⟩
      rintro σ JW ⟨k, c3, c4, c5, c6, c7, c8, c9, rfl, SW0⟩
      -- texts that are wrong
      refine ⟨(by show 12 ≤ sizeLine; decide), fun pw1 hpw1 => ?_⟩
      obtain ⟨Jw1, jw1, Sw1, kw1⟩ := mk (o := .lst ([.str "", .str ".", .str "..", .str "...", .str "..1", .str "1.", .str "0...", .str "1..2..3", .str "0..0 ", .str " 0..0", .str "0..0\n", .str "00..1"] : List V)) hpw1
      rw [jw1]
      have SWW : Same JW Jw1 := Sw1
      have mW : ∀ x ∈ ([.str "", .str ".", .str "..", .str "...", .str "..1", .str "1.", .str "0...", .str "1..2..3", .str "0..0 ", .str " 0..0", .str "0..0\n", .str "00..1"] : List V), ∃ z : Str, x = .str z ∧ z.length ≤ 600 ∧ readW z = none := (List.forall_mem_cons.2 ⟨⟨_, rfl, by decide +kernel, by decide +kernel⟩,
      (List.forall_mem_cons.2 ⟨⟨_, rfl, by decide +kernel, by decide +kernel⟩,
      (List.forall_mem_cons.2 ⟨⟨_, rfl, by decide +kernel, by decide +kernel⟩,
      (List.forall_mem_cons.2 ⟨⟨_, rfl, by decide +kernel, by decide +kernel⟩,
      (List.forall_mem_cons.2 ⟨⟨_, rfl, by decide +kernel, by decide +kernel⟩,
      (List.forall_mem_cons.2 ⟨⟨_, rfl, by decide +kernel, by decide +kernel⟩,
      (List.forall_mem_cons.2 ⟨⟨_, rfl, by decide +kernel, by decide +kernel⟩,
      (List.forall_mem_cons.2 ⟨⟨_, rfl, by decide +kernel, by decide +kernel⟩,
      (List.forall_mem_cons.2 ⟨⟨_, rfl, by decide +kernel, by decide +kernel⟩,
      (List.forall_mem_cons.2 ⟨⟨_, rfl, by decide +kernel, by decide +kernel⟩,
      (List.forall_mem_cons.2 ⟨⟨_, rfl, by decide +kernel, by decide +kernel⟩,
      (List.forall_mem_cons.2 ⟨⟨_, rfl, by decide +kernel, by decide +kernel⟩,
      (fun v hv => by cases hv)⟩)⟩)⟩)⟩)⟩)⟩)⟩)⟩)⟩)⟩)⟩)⟩)
      refine ⟨_, rfl, ?_⟩
      refine ⟨(by show 2 ≤ sizeLine; decide), fun px1 hpx1 => ?_⟩
      obtain ⟨Jx1, jx1, Sx1, kx1⟩ := mk (o := .lst ([.str "0..01", .str "5..4"] : List V)) hpx1
      rw [jx1]
      have mW2 : ∀ x ∈ ([.str "0..01", .str "5..4"] : List V), ∃ z : Str, x = .str z ∧ z.length ≤ 600 ∧ readW z = none := (List.forall_mem_cons.2 ⟨⟨_, rfl, by decide +kernel, by decide +kernel⟩,
      (List.forall_mem_cons.2 ⟨⟨_, rfl, by decide +kernel, by decide +kernel⟩,
      (fun v hv => by cases hv)⟩)⟩)
      refine ⟨pw1, px1, _, _, rfl, rfl, (Sx1) _ _ kw1, kx1, (by show 14 ≤ sizeLine; decide), fun pz hpz => ?_⟩
      obtain ⟨Jz, jz, Sz, kz⟩ := mk (o := .lst (([.str "", .str ".", .str "..", .str "...", .str "..1", .str "1.", .str "0...", .str "1..2..3", .str "0..0 ", .str " 0..0", .str "0..0\n", .str "00..1"] : List V) ++ ([.str "0..01", .str "5..4"] : List V))) hpz
      rw [jz]
      refine ⟨pz, rfl, ⟨_, SqL.of kz⟩, ?_⟩
      refine for_list (K := K) (a := pz) (xs := (([.str "", .str ".", .str "..", .str "...", .str "..1", .str "1.", .str "0...", .str "1..2..3", .str "0..0 ", .str " 0..0", .str "0..0\n", .str "00..1"] : List V) ++ ([.str "0..01", .str "5..4"] : List V))) (fun i σ J => ∃ k c3 c4 c5 c6 c7 c8 c9, σ = [some (.ref a), k, some (.ref r), c3, c4, c5, c6, c7, c8, c9] ∧ Same Jz J)
        ⟨_, _, _, _, _, _, _, _, rfl, Same.refl _⟩ (fun i σ J _ ⟨_, _, _, _, _, _, _, _, _, e⟩ => SqL.of (e _ _ kz)) ?_ ?_
      · rintro m x σ J hx ⟨k, c3, c4, c5, c6, c7, c8, c9, rfl, SJ⟩
        obtain ⟨z, rfl, hl, hz⟩ := (List.mem_append.mp (List.mem_of_getElem? hx)).elim (mW x) (mW2 x)
        refine ⟨_, rfl, _, _, rfl, .str z, fun y ey => ?_, fun h => by cases h⟩
        cases ey
        refine ⟨hl, fun w hw => (by rw [hz] at hw; cases hw), fun _ p3 J3 S3 d3 => ?_⟩
        refine ⟨(by show 2 ≤ sizeLine; decide), fun p4 hp4 => ?_⟩
        obtain ⟨J4, j4, S4, k4⟩ := mk (o := .lst [V.str "line", V.int 1]) hp4
        rw [j4]
        refine ⟨_, txt2 "line" (.int 1), Da.dp (d3.mono S4) rfl, .lst (SqL.of k4) (.cons (.str _) (.cons (.int _) .nil)), line_sh 1, line_sh 1, _, rfl, ?_⟩
        rw [line_eq]
        exact iteF ⟨_, _, _, _, _, _, _, _, rfl, (SJ.trans S3).trans S4⟩
      rintro σ JE ⟨k, c3, c4, c5, c6, c7, c8, c9, rfl, SE0⟩
      have Sall : Same J2 JE := S2v.trans (SA0.trans (SAA.trans (SB0.trans (SBB.trans (SW0.trans (SWW.trans (Sx1.trans (Sz.trans SE0))))))))
      exact ⟨_, _, _, _, _, _, _, _, _, rfl, sq_ext hS0 fr (E2.trans (Ext.of Sall))⟩
    · rintro σ J ⟨c1, c2, c3, c4, c5, c6, c7, c8, c9, rfl, _⟩
      exact q J
end
end N4
namespace N4
open PySem L2 G

theorem scIW : FnScope ["self", "value"] ["self", "value"] (defScope sIniW) :=
  ⟨rfl, rfl, rfl, by decide +kernel, rfl, by decide +kernel, by decide +kernel⟩
theorem scIT : FnScope ["self", "line"] ["self", "line"] (defScope sIniT) :=
  ⟨rfl, rfl, rfl, by decide +kernel, rfl, by decide +kernel, by decide +kernel⟩
theorem all_mk {l : PySem.W.OpenLaw} {w : World} {K : PySem.W.Frag} {h : Heap} {mg : Str → Option Value}
    {fa f1 f2 f3 f4 f5 f6 f7 f8 f9 f10 f11 f12 f13 f14 f15 f16 f17 : Addr} {t1 : Tok} (X : K.In h) (gl : h.Ns mainGlobals mg) (hfa : mg "law" = some (.ref fa))
    {od1 an1 od2 an2 od3 an3 od4 an4 od5 an5 od6 an6 od7 an7 od8 an8 od9 an9 od10 an10 od11 an11 od12 an12 od13 an13 od14 an14 od15 an15 od16 an16 od17 an17 : Option Addr} {sl1 sl2 sl3 sl4 sl5 sl6 sl7 sl8 sl9 sl10 sl11 sl12 sl13 sl14 sl15 sl16 sl17 : Array (Option Value)}
    {oc1 kV1 dc1 pm1 cd1 ct1 oc2 kV2 dc2 pm2 cd2 ct2 oc3 kV3 dc3 pm3 cd3 ct3 oc4 kV4 dc4 pm4 cd4 ct4 oc5 kV5 dc5 pm5 cd5 ct5 oc6 kV6 dc6 pm6 cd6 ct6 oc7 kV7 dc7 pm7 cd7 ct7 oc8 kV8 dc8 pm8 cd8 ct8 oc9 kV9 dc9 pm9 cd9 ct9 oc10 kV10 dc10 pm10 cd10 ct10 oc11 kV11 dc11 pm11 cd11 ct11 oc12 kV12 dc12 pm12 cd12 ct12 oc13 kV13 dc13 pm13 cd13 ct13 oc14 kV14 dc14 pm14 cd14 ct14 oc15 kV15 dc15 pm15 cd15 ct15 oc16 kV16 dc16 pm16 cd16 ct16 oc17 kV17 dc17 pm17 cd17 ct17 : Value}
    (a1 : PySem.W.nsIn K mainGlobals "is_version" = some (some (.ref f1)))
    (l1 : K.lookup f1 = some ⟨oc1, od1, .func (PySem.W.fnOf "is_version" "is_version" (defArgs sIsVer) (defBody sIsVer) (defScope sIsVer) .none kV1 dc1 pm1 an1 cd1 ct1), sl1⟩)
    (c1 : PySem.W.codeIn K cd1 "is_version" = true) (k1 : PySem.W.keepIn K (.ref f1) = true)
    (a2 : PySem.W.nsIn K mainGlobals "is_version_text" = some (some (.ref f2)))
    (l2 : K.lookup f2 = some ⟨oc2, od2, .func (PySem.W.fnOf "is_version_text" "is_version_text" (defArgs sVT) (defBody sVT) (defScope sVT) .none kV2 dc2 pm2 an2 cd2 ct2), sl2⟩)
    (c2 : PySem.W.codeIn K cd2 "is_version_text" = true) (k2 : PySem.W.keepIn K (.ref f2) = true)
    (a3 : PySem.W.nsIn K mainGlobals "is_window" = some (some (.ref f3)))
    (l3 : K.lookup f3 = some ⟨oc3, od3, .func (PySem.W.fnOf "is_window" "is_window" (defArgs sIsWin) (defBody sIsWin) (defScope sIsWin) .none kV3 dc3 pm3 an3 cd3 ct3), sl3⟩)
    (c3 : PySem.W.codeIn K cd3 "is_window" = true) (k3 : PySem.W.keepIn K (.ref f3) = true)
    (a4 : PySem.W.nsIn K mainGlobals "require_window" = some (some (.ref f4)))
    (l4 : K.lookup f4 = some ⟨oc4, od4, .func (PySem.W.fnOf "require_window" "require_window" (defArgs sReqWin) (defBody sReqWin) (defScope sReqWin) .none kV4 dc4 pm4 an4 cd4 ct4), sl4⟩)
    (c4 : PySem.W.codeIn K cd4 "require_window" = true) (k4 : PySem.W.keepIn K (.ref f4) = true)
    (a5 : PySem.W.nsIn K mainGlobals "format_window" = some (some (.ref f5)))
    (l5 : K.lookup f5 = some ⟨oc5, od5, .func (PySem.W.fnOf "format_window" "format_window" (defArgs sFmt) (defBody sFmt) (defScope sFmt) .none kV5 dc5 pm5 an5 cd5 ct5), sl5⟩)
    (c5 : PySem.W.codeIn K cd5 "format_window" = true) (k5 : PySem.W.keepIn K (.ref f5) = true)
    (a6 : PySem.W.nsIn K mainGlobals "parse_window" = some (some (.ref f6)))
    (l6 : K.lookup f6 = some ⟨oc6, od6, .func (PySem.W.fnOf "parse_window" "parse_window" (defArgs sParse) (defBody sParse) (defScope sParse) .none kV6 dc6 pm6 an6 cd6 ct6), sl6⟩)
    (c6 : PySem.W.codeIn K cd6 "parse_window" = true) (k6 : PySem.W.keepIn K (.ref f6) = true)
    (a7 : PySem.W.nsIn K mainGlobals "_law_rng" = some (some (.ref f7)))
    (l7 : K.lookup f7 = some ⟨oc7, od7, .func (PySem.W.fnOf "_law_rng" "_law_rng" (defArgs sRng) (defBody sRng) (defScope sRng) .none kV7 dc7 pm7 an7 cd7 ct7), sl7⟩)
    (c7 : PySem.W.codeIn K cd7 "_law_rng" = true) (k7 : PySem.W.keepIn K (.ref f7) = true)
    (a8 : PySem.W.nsIn K mainGlobals "_law_draw" = some (some (.ref f8)))
    (l8 : K.lookup f8 = some ⟨oc8, od8, .func (PySem.W.fnOf "_law_draw" "_law_draw" (defArgs sDraw) (defBody sDraw) (defScope sDraw) .none kV8 dc8 pm8 an8 cd8 ct8), sl8⟩)
    (c8 : PySem.W.codeIn K cd8 "_law_draw" = true) (k8 : PySem.W.keepIn K (.ref f8) = true)
    (a9 : PySem.W.nsIn K mainGlobals "_law_text" = some (some (.ref f9)))
    (l9 : K.lookup f9 = some ⟨oc9, od9, .func (PySem.W.fnOf "_law_text" "_law_text" (defArgs sText) (defBody sText) (defScope sText) .none kV9 dc9 pm9 an9 cd9 ct9), sl9⟩)
    (c9 : PySem.W.codeIn K cd9 "_law_text" = true) (k9 : PySem.W.keepIn K (.ref f9) = true)
    (a10 : PySem.W.nsIn K mainGlobals "_law_number" = some (some (.ref f10)))
    (l10 : K.lookup f10 = some ⟨oc10, od10, .func (PySem.W.fnOf "_law_number" "_law_number" (defArgs sNumb) (defBody sNumb) (defScope sNumb) .none kV10 dc10 pm10 an10 cd10 ct10), sl10⟩)
    (c10 : PySem.W.codeIn K cd10 "_law_number" = true) (k10 : PySem.W.keepIn K (.ref f10) = true)
    (a11 : PySem.W.nsIn K mainGlobals "_law_read" = some (some (.ref f11)))
    (l11 : K.lookup f11 = some ⟨oc11, od11, .func (PySem.W.fnOf "_law_read" "_law_read" (defArgs sRead) (defBody sRead) (defScope sRead) .none kV11 dc11 pm11 an11 cd11 ct11), sl11⟩)
    (c11 : PySem.W.codeIn K cd11 "_law_read" = true) (k11 : PySem.W.keepIn K (.ref f11) = true)
    (a12 : PySem.W.nsIn K mainGlobals "_law_window" = some (some (.ref f12)))
    (l12 : K.lookup f12 = some ⟨oc12, od12, .func (PySem.W.fnOf "_law_window" "_law_window" (defArgs sWindow) (defBody sWindow) (defScope sWindow) .none kV12 dc12 pm12 an12 cd12 ct12), sl12⟩)
    (c12 : PySem.W.codeIn K cd12 "_law_window" = true) (k12 : PySem.W.keepIn K (.ref f12) = true)
    (a13 : PySem.W.nsIn K mainGlobals "_law_changed" = some (some (.ref f13)))
    (l13 : K.lookup f13 = some ⟨oc13, od13, .func (PySem.W.fnOf "_law_changed" "_law_changed" (defArgs sChanged) (defBody sChanged) (defScope sChanged) .none kV13 dc13 pm13 an13 cd13 ct13), sl13⟩)
    (c13 : PySem.W.codeIn K cd13 "_law_changed" = true) (k13 : PySem.W.keepIn K (.ref f13) = true)
    (a14 : PySem.W.nsIn K mainGlobals "_law_formatted" = some (some (.ref f14)))
    (l14 : K.lookup f14 = some ⟨oc14, od14, .func (PySem.W.fnOf "_law_formatted" "_law_formatted" (defArgs sFormatted) (defBody sFormatted) (defScope sFormatted) .none kV14 dc14 pm14 an14 cd14 ct14), sl14⟩)
    (c14 : PySem.W.codeIn K cd14 "_law_formatted" = true) (k14 : PySem.W.keepIn K (.ref f14) = true)
    (a15 : PySem.W.nsIn K mainGlobals "_law_parsed" = some (some (.ref f15)))
    (l15 : K.lookup f15 = some ⟨oc15, od15, .func (PySem.W.fnOf "_law_parsed" "_law_parsed" (defArgs sParsed) (defBody sParsed) (defScope sParsed) .none kV15 dc15 pm15 an15 cd15 ct15), sl15⟩)
    (c15 : PySem.W.codeIn K cd15 "_law_parsed" = true) (k15 : PySem.W.keepIn K (.ref f15) = true)
    (a16 : PySem.W.nsIn K mainGlobals "_law_string_right" = some (some (.ref f16)))
    (l16 : K.lookup f16 = some ⟨oc16, od16, .func (PySem.W.fnOf "_law_string_right" "_law_string_right" (defArgs sString) (defBody sString) (defScope sString) .none kV16 dc16 pm16 an16 cd16 ct16), sl16⟩)
    (c16 : PySem.W.codeIn K cd16 "_law_string_right" = true) (k16 : PySem.W.keepIn K (.ref f16) = true)
    (a17 : PySem.W.nsIn K mainGlobals "law" = some (some (.ref f17)))
    (l17 : K.lookup f17 = some ⟨oc17, od17, .func (PySem.W.fnOf "law" "law" (defArgs sLaw) (defBody sLaw) (defScope sLaw) .none kV17 dc17 pm17 an17 cd17 ct17), sl17⟩)
    (c17 : PySem.W.codeIn K cd17 "law" = true) (k17 : PySem.W.keepIn K (.ref f17) = true)
    (y1 : PySem.W.nsIn K mainGlobals "DIGITS" = some (some (.str DIG t1)))
    {CG CW CT fIW fIT : Addr}
    (aG : PySem.W.nsIn K mainGlobals "GroupError" = some (some (.ref CG)))
    (gB : PySem.W.subIn K (.ref CG) (.type "BaseException") = some true)
    (gH : PySem.W.hasDictIn K CG = true)
    (gT : PySem.W.typeIn K (.ref CG) = some (.type "type"))
    {nmW qW : Str} {NW : Addr} {bsW : List Value} {snW : List Str} {subW : List Value} {abW : Bool} {colW : Option Bool} {ddW : Option Addr} {m0W m1W m2W m3W m5W : Option Value}
    {odIW anIW : Option Addr} {slIW : Array (Option Value)} {ocIW kVIW dcIW pmIW cdIW ctIW : Value}
    (aW : PySem.W.nsIn K mainGlobals "InvalidWindow" = some (some (.ref CW)))
    (xW : K.lookup CW = some (excClassObj nmW qW CW NW bsW [.ref CG, .type "ValueError", .type "Exception", .type "BaseException", .type "object"] true snW subW abW colW ddW m0W m1W m2W m3W m5W "ValueError.__new__"))
    (saW : PySem.W.findIn K (.ref CW) "__setattr__" = some (some (.builtin "object.__setattr__")))
    (exW : PySem.W.subIn K (.ref CW) (.type "BaseException") = some true)
    (tyW : PySem.W.typeIn K (.ref CW) = some (.type "type"))
    (kcW : PySem.W.keepIn K (.ref CW) = true)
    (gaW : PySem.W.findIn K (.ref CW) "__getattribute__" = some (some (.builtin "BaseException.__getattribute__")))
    (ggW : PySem.W.findIn K (.ref CW) "__getattr__" = some none)
    (hdW : PySem.W.hasDictIn K CW = true)
    (haW : PySem.W.findIn K (.ref CW) "__class__" = some (some (.builtin "object.__class__")))
    (hmW : PySem.W.mroIn K CW (.type "object") = some true)
    (noW : PySem.W.findIn K (.ref CW) "value" = some none)
    (inW : PySem.W.findIn K (.ref CW) "__init__" = some (some (.ref fIW)))
    (tiW : PySem.W.typeIn K (.ref fIW) = some (.type "function"))
    (liW : K.lookup fIW = some ⟨ocIW, odIW, .func (PySem.W.fnOf "__init__" "InvalidWindow.__init__" (defArgs sIniW) (defBody sIniW) (defScope sIniW) .none kVIW dcIW pmIW anIW cdIW ctIW), slIW⟩)
    (ciW : PySem.W.codeIn K cdIW "InvalidWindow.__init__" = true)
    (kiW : PySem.W.keepIn K (.ref fIW) = true)
    (sbW : PySem.W.subIn K (.ref CW) (.ref CG) = some true)
    {nmT qT : Str} {NT : Addr} {bsT : List Value} {snT : List Str} {subT : List Value} {abT : Bool} {colT : Option Bool} {ddT : Option Addr} {m0T m1T m2T m3T m5T : Option Value}
    {odIT anIT : Option Addr} {slIT : Array (Option Value)} {ocIT kVIT dcIT pmIT cdIT ctIT : Value}
    (aT : PySem.W.nsIn K mainGlobals "InvalidText" = some (some (.ref CT)))
    (xT : K.lookup CT = some (excClassObj nmT qT CT NT bsT [.ref CG, .type "ValueError", .type "Exception", .type "BaseException", .type "object"] true snT subT abT colT ddT m0T m1T m2T m3T m5T "ValueError.__new__"))
    (saT : PySem.W.findIn K (.ref CT) "__setattr__" = some (some (.builtin "object.__setattr__")))
    (exT : PySem.W.subIn K (.ref CT) (.type "BaseException") = some true)
    (tyT : PySem.W.typeIn K (.ref CT) = some (.type "type"))
    (kcT : PySem.W.keepIn K (.ref CT) = true)
    (gaT : PySem.W.findIn K (.ref CT) "__getattribute__" = some (some (.builtin "BaseException.__getattribute__")))
    (ggT : PySem.W.findIn K (.ref CT) "__getattr__" = some none)
    (hdT : PySem.W.hasDictIn K CT = true)
    (haT : PySem.W.findIn K (.ref CT) "__class__" = some (some (.builtin "object.__class__")))
    (hmT : PySem.W.mroIn K CT (.type "object") = some true)
    (noT : PySem.W.findIn K (.ref CT) "line" = some none)
    (inT : PySem.W.findIn K (.ref CT) "__init__" = some (some (.ref fIT)))
    (tiT : PySem.W.typeIn K (.ref fIT) = some (.type "function"))
    (liT : K.lookup fIT = some ⟨ocIT, odIT, .func (PySem.W.fnOf "__init__" "InvalidText.__init__" (defArgs sIniT) (defBody sIniT) (defScope sIniT) .none kVIT dcIT pmIT anIT cdIT ctIT), slIT⟩)
    (ciT : PySem.W.codeIn K cdIT "InvalidText.__init__" = true)
    (kiT : PySem.W.keepIn K (.ref fIT) = true)
    (sbT : PySem.W.subIn K (.ref CT) (.ref CG) = some true)
    (hn : PySem.W.specialIn K (.builtin "object.__class__") "__get__" = some (some (.builtin "getset_descriptor.__get__")))
    (ht : PySem.W.takesIn K (.builtin "object.__class__") = some true)
    (ktWW : PySem.W.kitOne K (.ref CW) (.ref CW) = some true)
    (ktWT : PySem.W.kitOne K (.ref CW) (.ref CT) = some false)
    (ktTT : PySem.W.kitOne K (.ref CT) (.ref CT) = some true)
    (ktTW : PySem.W.kitOne K (.ref CT) (.ref CW) = some false)
    (zlen : PySem.W.nsIn K mainGlobals "len" = some none)
    (zabs : PySem.W.nsIn K mainGlobals "abs" = some none)
    (zmax : PySem.W.nsIn K mainGlobals "max" = some none)
    (zmin : PySem.W.nsIn K mainGlobals "min" = some none)
    (zdivmod : PySem.W.nsIn K mainGlobals "divmod" = some none)
    (zisi : PySem.W.nsIn K mainGlobals "isinstance" = some none)
    (ztuple : PySem.W.nsIn K mainGlobals "tuple" = some none)
    (zstr : PySem.W.nsIn K mainGlobals "str" = some none)
    (zint : PySem.W.nsIn K mainGlobals "int" = some none)
    (zbool : PySem.W.nsIn K mainGlobals "bool" = some none)
    (zall : PySem.W.nsIn K mainGlobals "all" = some none)
    (zrange : PySem.W.nsIn K mainGlobals "range" = some none)
    (zrepr : PySem.W.nsIn K mainGlobals "repr" = some none)
    : ∃ fd : FuncData, (∀ (s : Shared) (v : Value), BindsTo s fd ⟨[v], []⟩ [("_law_script", v)]) ∧
      ∀ bs : Heap, K.In bs → bs.Ns mainGlobals mg → FnG l.prog w K mg bs CX0 6 fa fd ["_law_script"] (spLaw K) := by
  have e := hfa.symm.trans (PySem.W.mg_of X gl a17)
  cases e
  have T : Txt mg := ⟨PySem.W.mg_none_of X gl zlen, PySem.W.mg_none_of X gl zabs, PySem.W.mg_none_of X gl zmax, PySem.W.mg_none_of X gl zmin, PySem.W.mg_none_of X gl zdivmod, PySem.W.mg_none_of X gl zisi, PySem.W.mg_none_of X gl ztuple, PySem.W.mg_none_of X gl zstr, PySem.W.mg_none_of X gl zint, PySem.W.mg_none_of X gl zbool, PySem.W.mg_none_of X gl zall, PySem.W.mg_none_of X gl zrange, PySem.W.mg_none_of X gl zrepr, ⟨_, PySem.W.mg_of X gl y1⟩⟩
  have gy1 := PySem.W.mg_of X gl y1
  have F1 := fun_mk (st := sIsVer) l1 c1 k1
  have b1 := F1.binds (ps := ["value"]) fun _ _ _ _ _ _ us hl => match us, hl with | [_], _ => rfl
  have g1 := PySem.W.mg_of X gl a1
  have F2 := fun_mk (st := sVT) l2 c2 k2
  have b2 := F2.binds (ps := ["text"]) fun _ _ _ _ _ _ us hl => match us, hl with | [_], _ => rfl
  have g2 := PySem.W.mg_of X gl a2
  have F3 := fun_mk (st := sIsWin) l3 c3 k3
  have b3 := F3.binds (ps := ["value"]) fun _ _ _ _ _ _ us hl => match us, hl with | [_], _ => rfl
  have g3 := PySem.W.mg_of X gl a3
  have F4 := fun_mk (st := sReqWin) l4 c4 k4
  have b4 := F4.binds (ps := ["value"]) fun _ _ _ _ _ _ us hl => match us, hl with | [_], _ => rfl
  have g4 := PySem.W.mg_of X gl a4
  have F5 := fun_mk (st := sFmt) l5 c5 k5
  have b5 := F5.binds (ps := ["window"]) fun _ _ _ _ _ _ us hl => match us, hl with | [_], _ => rfl
  have g5 := PySem.W.mg_of X gl a5
  have F6 := fun_mk (st := sParse) l6 c6 k6
  have b6 := F6.binds (ps := ["text"]) fun _ _ _ _ _ _ us hl => match us, hl with | [_], _ => rfl
  have g6 := PySem.W.mg_of X gl a6
  have F7 := fun_mk (st := sRng) l7 c7 k7
  have b7 := F7.binds (ps := ["_law_script", "_law_k"]) fun _ _ _ _ _ _ us hl => match us, hl with | [_, _], _ => rfl
  have g7 := PySem.W.mg_of X gl a7
  have F8 := fun_mk (st := sDraw) l8 c8 k8
  have b8 := F8.binds (ps := ["_law_rng_here", "_law_many"]) fun _ _ _ _ _ _ us hl => match us, hl with | [_, _], _ => rfl
  have g8 := PySem.W.mg_of X gl a8
  have F9 := fun_mk (st := sText) l9 c9 k9
  have b9 := F9.binds (ps := ["_law_window_here"]) fun _ _ _ _ _ _ us hl => match us, hl with | [_], _ => rfl
  have g9 := PySem.W.mg_of X gl a9
  have F10 := fun_mk (st := sNumb) l10 c10 k10
  have b10 := F10.binds (ps := ["_law_word"]) fun _ _ _ _ _ _ us hl => match us, hl with | [_], _ => rfl
  have g10 := PySem.W.mg_of X gl a10
  have F11 := fun_mk (st := sRead) l11 c11 k11
  have b11 := F11.binds (ps := ["_law_text_here"]) fun _ _ _ _ _ _ us hl => match us, hl with | [_], _ => rfl
  have g11 := PySem.W.mg_of X gl a11
  have F12 := fun_mk (st := sWindow) l12 c12 k12
  have b12 := F12.binds (ps := ["_law_rng_here"]) fun _ _ _ _ _ _ us hl => match us, hl with | [_], _ => rfl
  have g12 := PySem.W.mg_of X gl a12
  have F13 := fun_mk (st := sChanged) l13 c13 k13
  have b13 := F13.binds (ps := ["_law_rng_here", "_law_text_here"]) fun _ _ _ _ _ _ us hl => match us, hl with | [_, _], _ => rfl
  have g13 := PySem.W.mg_of X gl a13
  have F14 := fun_mk (st := sFormatted) l14 c14 k14
  have b14 := F14.binds (ps := ["_law_value"]) fun _ _ _ _ _ _ us hl => match us, hl with | [_], _ => rfl
  have g14 := PySem.W.mg_of X gl a14
  have F15 := fun_mk (st := sParsed) l15 c15 k15
  have b15 := F15.binds (ps := ["_law_value"]) fun _ _ _ _ _ _ us hl => match us, hl with | [_], _ => rfl
  have g15 := PySem.W.mg_of X gl a15
  have F16 := fun_mk (st := sString) l16 c16 k16
  have b16 := F16.binds (ps := ["_law_text_here"]) fun _ _ _ _ _ _ us hl => match us, hl with | [_], _ => rfl
  have g16 := PySem.W.mg_of X gl a16
  refine ⟨PySem.W.fnOf "law" "law" (defArgs sLaw) (defBody sLaw) (defScope sLaw) .none kV17 dc17 pm17 an17 cd17 ct17, fun s v => .of_eq rfl, fun bs _ _ => ?_⟩
  have FL := fun_mk (st := sLaw) l17 c17 k17
  have oeW : OexC K CW := ⟨⟨nmW, qW, NW, bsW, _, snW, subW, abW, colW, ddW, m0W, m1W, m2W, m3W, m5W, xW, rfl⟩, saW, exW, tyW, kcW⟩
  have FIW := fun_mk (st := sIniW) liW ciW kiW
  have bIW := FIW.binds (ps := ["self", "value"]) fun _ _ _ _ _ _ us hl => match us, hl with | [_, _], _ => rfl
  have XW : XCls l.prog w K mg bs "InvalidWindow" CW "value" "value" := ⟨oeW, ⟨gaW, ggW, exW, hdW⟩, ⟨gaW, ggW, exW, hdW, haW, hn, ht, hmW⟩, noW, PySem.W.mg_of X gl aW,
    fIW, _, inW, tiW, ok_ini FIW scIW oeW noW rfl rfl rfl (by decide) (by decide), bIW⟩
  have oeT : OexC K CT := ⟨⟨nmT, qT, NT, bsT, _, snT, subT, abT, colT, ddT, m0T, m1T, m2T, m3T, m5T, xT, rfl⟩, saT, exT, tyT, kcT⟩
  have FIT := fun_mk (st := sIniT) liT ciT kiT
  have bIT := FIT.binds (ps := ["self", "line"]) fun _ _ _ _ _ _ us hl => match us, hl with | [_, _], _ => rfl
  have XT : XCls l.prog w K mg bs "InvalidText" CT "line" "line" := ⟨oeT, ⟨gaT, ggT, exT, hdT⟩, ⟨gaT, ggT, exT, hdT, haT, hn, ht, hmT⟩, noT, PySem.W.mg_of X gl aT,
    fIT, _, inT, tiT, ok_ini FIT scIT oeT noT rfl rfl rfl (by decide) (by decide), bIT⟩
  have T2 : Two K mg CG CW CT := ⟨PySem.W.mg_of X gl aG, PySem.W.exm_ref gB gH gT sbW, PySem.W.exm_ref gB gH gT sbT, ktWW, ktWT, ktTT, ktTW⟩
  have O1 := ok_ver (P := l.prog) (w := w) (base := bs) F1 T
  have O2 := ok_vt (P := l.prog) (w := w) (base := bs) F2 T
  have O3 := ok_win (P := l.prog) (w := w) (base := bs) F3 T F1 b1 g1
  have O4 := ok_reqX (P := l.prog) (w := w) (base := bs) F4 O3 F3.kp b3 g3 XW
  have O5 := ok_fmt (P := l.prog) (w := w) (base := bs) F5 O4 F4.kp b4 g4
  have O6 := ok_parse (P := l.prog) (w := w) (base := bs) F6 T O2 F2.kp b2 g2 XT
  have O7 := ok_rng (P := l.prog) (w := w) (base := bs) F7 T
  have O8 := ok_draw (P := l.prog) (w := w) (base := bs) F8 T
  have O9 := ok_text (P := l.prog) (w := w) (base := bs) F9 T
  have O10 := ok_numb (P := l.prog) (w := w) (base := bs) F10 T
  have O11 := ok_read (P := l.prog) (w := w) (base := bs) F11 O10 F10.kp b10 g10
  have O12 := ok_wind (P := l.prog) (w := w) (base := bs) F12 O8 F8.kp b8 g8
  have O13 := ok_chgd (P := l.prog) (w := w) (base := bs) F13 T O8 F8.kp b8 g8
  have O14 := ok_form (P := l.prog) (w := w) (base := bs) F14 T T2 XW XT O5 F5.kp b5 g5
  have O15 := ok_pars (P := l.prog) (w := w) (base := bs) F15 T T2 XW XT O6 F6.kp b6 g6
  have O16 := ok_strR (P := l.prog) (w := w) (base := bs) F16 T O11 F11.kp b11 g11 O15 F15.kp b15 g15 O5 F5.kp b5 g5
  exact ok_law FL T O7 F7.kp b7 g7 O8 F8.kp b8 g8 O12 F12.kp b12 g12 O9 F9.kp b9 g9 O14 F14.kp b14 g14 O15 F15.kp b15 g15 O13 F13.kp b13 g13 O16 F16.kp b16 g16 O5 F5.kp b5 g5 O6 F6.kp b6 g6
theorem walk {l : PySem.W.OpenLaw} {q : Program} {loose : List Str} {XP : (Str → Option Value) → Heap → Prop} {YP : World → Heap → Prop} {d : DefRec} {K : Params → PySem.W.Frag}
    (hn : l.most = some 63) (hdf : d.params.defaults = []) (hY : ∀ (w : World) (h : Heap), YP w h → (K w.params).In h)
    (F : ∀ (w : World) (mg : Str → Option Value) (fa : Addr) (h : Heap), (K w.params).In h → h.Ns mainGlobals mg → mg d.name = some (.ref fa) →
      ∃ fd : FuncData, (∀ (s : Shared) (u : Value), BindsTo s fd ⟨[u], []⟩ [("_law_script", u)]) ∧
        ∀ bs : Heap, (K w.params).In bs → bs.Ns mainGlobals mg → FnG l.prog w (K w.params) mg bs CX0 6 fa fd ["_law_script"] (spLaw (K w.params))) :
    PySem.W.WalkO q loose XP YP l.row.toRowW d [] (fun f vs => PySem.call f vs) :=
  walk_ofG (n := 63) (k := 6) (x := "_law_script") (sp := fun w => spLaw (K w.params)) hn (by decide) hdf ⟨rfl, by decide, by decide⟩ hY F
    (fun _ _ a ns hl _ hS => ⟨a, ns, rfl, hS, hl, fun _ => rfl⟩)
end N4

open PySem PySem.W PyProof.Rows in
set_option maxRecDepth 100000 in
set_option maxHeartbeats 0 in
theorem PySem.Challenge.cw_groupsteps_k14_window_texts_holds : PySem.Challenge.rw_groupsteps_k14_window_texts.Holds := by
  w_on; o_law; k_head; (case hw => w_witness2)
  k_fill
  refine N4.walk (l := PySem.Challenge.rw_groupsteps_k14_window_texts) rfl rfl (fun w h Y => PySem.W.kIn_of Y) ?F
  case F =>
    intro w mg fa h KX gl hmg
    refine' N4.all_mk KX gl hmg ?a1 ?l1 ?c1 ?k1 ?a2 ?l2 ?c2 ?k2 ?a3 ?l3 ?c3 ?k3 ?a4 ?l4 ?c4 ?k4 ?a5 ?l5 ?c5 ?k5 ?a6 ?l6 ?c6 ?k6 ?a7 ?l7 ?c7 ?k7 ?a8 ?l8 ?c8 ?k8 ?a9 ?l9 ?c9 ?k9 ?a10 ?l10 ?c10 ?k10 ?a11 ?l11 ?c11 ?k11 ?a12 ?l12 ?c12 ?k12 ?a13 ?l13 ?c13 ?k13 ?a14 ?l14 ?c14 ?k14 ?a15 ?l15 ?c15 ?k15 ?a16 ?l16 ?c16 ?k16 ?a17 ?l17 ?c17 ?k17 ?y1 ?aG ?gB ?gH ?gT ?aW ?xW ?saW ?exW ?tyW ?kcW ?gaW ?ggW ?hdW ?haW ?hmW ?noW ?inW ?tiW ?liW ?ciW ?kiW ?sbW ?aT ?xT ?saT ?exT ?tyT ?kcT ?gaT ?ggT ?hdT ?haT ?hmT ?noT ?inT ?tiT ?liT ?ciT ?kiT ?sbT ?hn ?ht ?ktWW ?ktWT ?ktTT ?ktTW ?zlen ?zabs ?zmax ?zmin ?zdivmod ?zisi ?ztuple ?zstr ?zint ?zbool ?zall ?zrange ?zrepr
    (case a1 => k_is)
    (case l1 => k_is)
    (case c1 => k_is)
    (case k1 => k_is)
    (case a2 => k_is)
    (case l2 => k_is)
    (case c2 => k_is)
    (case k2 => k_is)
    (case a3 => k_is)
    (case l3 => k_is)
    (case c3 => k_is)
    (case k3 => k_is)
    (case a4 => k_is)
    (case l4 => k_is)
    (case c4 => k_is)
    (case k4 => k_is)
    (case a5 => k_is)
    (case l5 => k_is)
    (case c5 => k_is)
    (case k5 => k_is)
    (case a6 => k_is)
    (case l6 => k_is)
    (case c6 => k_is)
    (case k6 => k_is)
    (case a7 => k_is)
    (case l7 => k_is)
    (case c7 => k_is)
    (case k7 => k_is)
    (case a8 => k_is)
    (case l8 => k_is)
    (case c8 => k_is)
    (case k8 => k_is)
    (case a9 => k_is)
    (case l9 => k_is)
    (case c9 => k_is)
    (case k9 => k_is)
    (case a10 => k_is)
    (case l10 => k_is)
    (case c10 => k_is)
    (case k10 => k_is)
    (case a11 => k_is)
    (case l11 => k_is)
    (case c11 => k_is)
    (case k11 => k_is)
    (case a12 => k_is)
    (case l12 => k_is)
    (case c12 => k_is)
    (case k12 => k_is)
    (case a13 => k_is)
    (case l13 => k_is)
    (case c13 => k_is)
    (case k13 => k_is)
    (case a14 => k_is)
    (case l14 => k_is)
    (case c14 => k_is)
    (case k14 => k_is)
    (case a15 => k_is)
    (case l15 => k_is)
    (case c15 => k_is)
    (case k15 => k_is)
    (case a16 => k_is)
    (case l16 => k_is)
    (case c16 => k_is)
    (case k16 => k_is)
    (case a17 => k_is)
    (case l17 => k_is)
    (case c17 => k_is)
    (case k17 => k_is)
    (case y1 => k_is)
    (case aG => k_is)
    (case gB => k_is)
    (case gH => k_is)
    (case gT => k_is)
    (case aW => k_is)
    (case xW => k_is)
    (case saW => k_is)
    (case exW => k_is)
    (case tyW => k_is)
    (case kcW => k_is)
    (case gaW => k_is)
    (case ggW => k_is)
    (case hdW => k_is)
    (case haW => k_is)
    (case hmW => k_is)
    (case noW => k_is)
    (case inW => k_is)
    (case tiW => k_is)
    (case liW => k_is)
    (case ciW => k_is)
    (case kiW => k_is)
    (case sbW => first | rfl | k_is)
    (case aT => k_is)
    (case xT => k_is)
    (case saT => k_is)
    (case exT => k_is)
    (case tyT => k_is)
    (case kcT => k_is)
    (case gaT => k_is)
    (case ggT => k_is)
    (case hdT => k_is)
    (case haT => k_is)
    (case hmT => k_is)
    (case noT => k_is)
    (case inT => k_is)
    (case tiT => k_is)
    (case liT => k_is)
    (case ciT => k_is)
    (case kiT => k_is)
    (case sbT => first | rfl | k_is)
    (case hn => k_is)
    (case ht => k_is)
    (case ktWW => first | rfl | k_is)
    (case ktWT => first | rfl | k_is)
    (case ktTT => first | rfl | k_is)
    (case ktTW => first | rfl | k_is)
    (case zlen => k_is)
    (case zabs => k_is)
    (case zmax => k_is)
    (case zmin => k_is)
    (case zdivmod => k_is)
    (case zisi => k_is)
    (case ztuple => k_is)
    (case zstr => k_is)
    (case zint => k_is)
    (case zbool => k_is)
    (case zall => k_is)
    (case zrange => k_is)
    (case zrepr => k_is)
