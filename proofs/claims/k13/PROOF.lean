import PyProof.Rows.All
import Wide.All
import OpenK.AllK
import Wide.FinOn
import HandS.ForMost
import HandS.IsInst
import HandS.WideBits
import HandS.Wide
import HandS.Walk
import HandS.EndBits
import PyProof.ReprRoads
import PyProof.ReprLen
import HandS.Ends
import HandS.Style
import PySem.Challenge.RW_groupsteps_k13_whole_rising_lists
set_option Elab.async false
set_option maxRecDepth 100000
set_option linter.all false
/-! Calls whose surroundings hold no running repr: a promise that may use it (FnG), and repr of data. -/
namespace G
open PySem PySem.Spec PyProof.Rows L2

/-- a def keeps its promise wherever no repr is under way -/
structure FnG (P : Program) (w : World) (K : PySem.W.Frag) (mg : Str → Option Value) (bs : Heap)
    (CX : CXT) (k : Nat) (f : Addr) (fd : FuncData) (ps : List Str) (sp : Sp) : Prop where
  lenG : ∀ vs H Q E, sp vs H Q E → vs.length = ps.length
  runG : ∀ (A : Around) (ou : List Env) (st : Shared) (H : Hp) (ar : Args) (ys : List Value)
    (xs : List V) (Q : VK) (E : XK), A.guards = some [] → Room k A →
    Env0 P w K mg bs A ou st H → BindsTo st fd ar (ps.zip ys) → Vals xs ys → sp xs H Q E →
    codeAny (model P w) A (.call (.ref f) ar) (CR CX ou P w H st Q E) st

variable {P : Program} {w : World} {K : PySem.W.Frag} {mg : Str → Option Value} {bs : Heap}

theorem FnG.of {CX : CXT} {k : Nat} {f : Addr} {fd : FuncData} {ps : List Str} {sp : Sp}
    (F : FnOk P w K mg bs CX k f fd ps sp) : FnG P w K mg bs CX k f fd ps sp :=
  ⟨F.len, fun A ou st H ar ys xs Q E _ => F.run A ou st H ar ys xs Q E⟩
theorem FnG.mono {CX : CXT} {j k : Nat} {f : Addr} {fd : FuncData} {ps : List Str} {sp : Sp}
    (F : FnG P w K mg bs CX j f fd ps sp) (h : j ≤ k) : FnG P w K mg bs CX k f fd ps sp :=
  ⟨F.lenG, fun A ou st H ar ys xs Q E g r => F.runG A ou st H ar ys xs Q E g (r.mono h)⟩

/-- a def of the text, by its body, which may use that no repr is under way -/
theorem fn_ofG {CX : CXT} {k : Nat} {f : Addr} {nm ql : Str} {prm : Arguments} {bd : List Stmt}
    {sc : Scope} {dV kV dc pm cv ct oc : Value} {an od : Option Addr} {sl : Array (Option Value)}
    {N ps : List Str} {sp : Sp}
    (lk : K.lookup f = some ⟨oc, od, .func (PySem.W.fnOf nm ql prm bd sc dV kV dc pm an cv ct), sl⟩)
    (hc : PySem.W.codeIn K cv ql = true) (S : FnScope N ps sc)
    (ln : ∀ vs H Q E, sp vs H Q E → vs.length = ps.length)
    (hb : ∀ (A : Around) (ou : List Env) (st : Shared) (H : Hp) (xs : List V) (Q : VK) (E : XK),
      A.guards = some [] → Room k (A.deeper (envOfC ql sc st.heap.objs.size f cv)) → sp xs H Q E →
      ∃ t, PSs (cxOf CX P w K mg bs N ql sc f cv A ou st H E) bd t ∧
        t { nx := fun _ J => Q .non J, rt := Q } (start N xs) H) :
    FnG P w K mg bs CX (k + 1) f (PySem.W.fnOf nm ql prm bd sc dV kV dc pm an cv ct) ps sp := by
  refine ⟨ln, fun A ou st H ar ys xs Q E gd rm ev bt vl pr => ?_⟩
  have len := ln xs H Q E pr
  have old : ∀ b o, bs.get? b = some o → st.heap.get? b = some o := fun b o z => (ev.bs b o z).1
  have inK : K.In st.heap := ev.mod.kin.keeps old
  have nl : st.heap.NoLimit := ev.mod.nolimit.keeps old
  have knd : ∀ y ∈ ps.zip ys, sc.names.lookup y.1 = some .local ∨
      (sc.names.lookup y.1 = some .cell ∧
        ((cellsFrom (st.heap.objs.size + 1) sc.names []).lookup y.1).isSome = true) := by
    rintro ⟨n, v⟩ hy
    rcases S.par n (List.of_mem_zip hy).1 with z | z
    · exact .inl z
    · exact .inr ⟨z, PySem.W.cellsFrom_some _ _ _ (.inl z)⟩
  refine codeAny_call_function rm.depth (inK _ _ lk) rfl S.co S.gen rfl
    (PySem.W.codeRec_of inK hc) (bt _ _ _ _ ?_)
  refine wpAny_newFunctionEnv_cells S.kind knd fun en hen st1 ic => ?_
  subst hen
  refine ⟨nl.keeps ic.toInCall.keep, codeAny_func ?_⟩
  obtain ⟨t, pt, rd⟩ := hb A ou st H xs Q E gd (rm.deeper _) pr
  have J : Inv (cxOf CX P w K mg bs N ql sc f cv A ou st H E) [] (start N xs) H st1 :=
    inv_start S rm.hd ev len vl ic
  refine wpAny_mono (pt.run [] st1 (start N xs) H _ J rd) (fun fl st2 z => ?_) fun _ _ z => z
  cases fl with
  | ret u =>
    obtain ⟨v, σ2, H2, J2, rv, q⟩ := z
    exact ⟨v, H2, J2.os, J2.bare, J2.base, J2.hok, rv, q⟩
  | next =>
    obtain ⟨σ2, H2, J2, q⟩ := z
    exact ⟨V.non, H2, J2.os, J2.bare, J2.base, J2.hok, rfl, q⟩
  | brk =>
    obtain ⟨_, _, _, q⟩ := z
    exact q.elim
  | cont =>
    obtain ⟨_, _, _, q⟩ := z
    exact q.elim

theorem okG {x ql : Str} {st : Stmt} {f : Addr} {fd : FuncData} {N ps : List Str} {k : Nat} {sp : Sp}
    (F : Fun K x ql st f fd) (S : FnScope N ps (defScope st))
    (ln : ∀ vs H Q E, sp vs H Q E → vs.length = ps.length)
    (hb : ∀ (cv : Value) (A : Around) (ou : List Env) (s : Shared) (H : Hp) (vs : List V) (Q : VK)
      (E : XK), A.guards = some [] →
      Room k (A.deeper (envOfC ql (defScope st) s.heap.objs.size f cv)) → sp vs H Q E →
      ∃ t, PSs (cxOf CX0 P w K mg bs N ql (defScope st) f cv A ou s H E).nox (defBody st) t ∧
        t { nx := fun _ J => Q .non J, rt := Q } (start N vs) H) :
    FnG P w K mg bs CX0 (k + 1) f fd ps sp := by
  obtain ⟨oc, od, kV, doc, pm, an, cdv, ct, osl, rfl, lk, hcd⟩ := F.ex
  refine fn_ofG lk hcd S ln fun A ou s H vs Q E gd rm pr => ?_
  obtain ⟨t, p, rd⟩ := hb cdv A ou s H vs Q E gd rm pr
  exact ⟨t, p.nox, rd⟩

section
variable {X : Cx} {CX : CXT} {k : Nat} {f : Addr} {fd : FuncData} {ps : List Str} {sp : Sp}
  {dvs : List V} {ds : List Value} {E : XK} {x : Str} {p pos : Pos} {e : Expr} {es : List Expr} {t : TA}
/-- f(..) of such a def -/
theorem pe_callG (F : FnG X.prog X.w X.K X.mg X.base CX k f fd ps sp) (gd : X.A.guards = some [])
    (rm : Room k X.A) (hg : Gl X x) (hm : X.mg x = some (.ref f))
    (hk : PySem.W.keepIn X.K (.ref f) = true) (hb : Binds X.K fd ps ds) (hd : Vals dvs ds)
    (hx : Passes CX X E) (ha : PA X (e :: es) t)
    (n1 : (x == ("__debug__" : Str)) = false := by decide)
    (n2 : starEach (e :: es) X.env = (false, eval e X.env) :: starEach es X.env := by rfl)
    (n3 : (backTo pos (starEach es X.env)).any (·.1) = false := by rfl) :
    PE X (.Call (.Name x p) (e :: es) [] pos) (tCall sp dvs E t) := by
  refine ⟨fun pins s σ H Q J hw => ?_⟩
  refine wpAny_Call_Name_kw (ld_glob J hg hm ?_ n1)
  refine PySem.W.callWith_K (h₀ := X.base) J.ok.mod.kin hk (thn (ha.run pos pins s σ H _ J hw)
    fun ys s1 ⟨xs, H1, J1, r1, q1⟩ => ⟨J1.kIn, ?_⟩) n2 n3
  have r2 : Vals (xs ++ dvs) (ys ++ ds) := r1.append hd
  have hl : (ys ++ ds).length = ps.length := by
    rw [← r2.length]
    exact F.lenG _ _ _ _ q1
  refine wpAny_call (codeAny_mono (F.runG X.A X.stack s1 H1 ⟨ys, []⟩ (ys ++ ds) (xs ++ dvs) Q E
    gd rm J1.env0 (hb s1 ys J1.kIn hl) r2 q1) fun r s2 z => ?_)
  cases r with
  | error er => exact hx pins σ H1 s1 er s2 J1 z
  | ok fl =>
    cases fl with
    | ret u => exact J1.after z
    | next => exact z.elim
    | brk => exact z.elim
    | cont => exact z.elim
end

section
variable {X : Cx}
/-- what repr gives of a value: its data, and whether it can be shown -/
def rRepr (K : PySem.W.Frag) : List V → Hp → VK → Prop := fun xs H Q =>
  ∃ (v : V) (d : PyData), xs = [v] ∧ Dp K H v d ∧ d.showable = true ∧ d.hasDict = false ∧
    d.depth ≤ 60 ∧ d.shown.length ≤ sizeLine ∧ Q (.str d.shown) H
theorem call_reprD (gd : X.A.guards = some []) (hu : X.A.units + 64 < cLine) :
    CallR X (.builtin "repr") (rRepr X.K) := by
  intro pins s σ H xs us Q I r h
  obtain ⟨v, d, rfl, hd, hs, hn, hp, hz, q⟩ := h
  obtain ⟨u, rfl, rv⟩ := vals1 r
  obtain ⟨as, R⟩ := Dp.reads I d v u hd rv
  cases R with
  | none => exact PySem.P.repr_of_none ⟨.str _, H, I.tok _, ⟨_, rfl⟩, q⟩
  | bool b => exact PySem.P.repr_of_bool ⟨.str _, H, I.tok _, ⟨_, rfl⟩, q⟩
  | int i t =>
    have hi : i.natAbs.log2 < 1920 := by simpa [PyData.showable] using hs
    exact PySem.P.repr_of_int hi ⟨.str _, H, I.tok _, ⟨_, rfl⟩, q⟩
  | str y t => exact PySem.P.repr_of_str ⟨.str _, H, I.tok _, ⟨_, rfl⟩, q⟩ hz
  | list h1 h2 h3 h4 =>
    exact repr_of_reads' (.list h1 h2 h3 h4) hs (PyData.noDict_hsm hn) gd (by omega)
      (fun _ _ e => e) (fun h' u tk k => ⟨.str _, H, I.kept k, ⟨_, rfl⟩, q⟩) hz
  | tuple h1 h2 h3 h4 =>
    exact repr_of_reads' (.tuple h1 h2 h3 h4) hs (PyData.noDict_hsm hn) gd (by omega)
      (fun _ _ e => e) (fun h' u tk k => ⟨.str _, H, I.kept k, ⟨_, rfl⟩, q⟩) hz
  | dict h1 h2 h3 h4 h5 => simp [PyData.hasDict] at hn
end
end G
/-! Data in the heap: none, bools, ints, texts, lists, tuples, dicts; their repr. -/
namespace G
open PySem PySem.Spec PyProof.Rows L2

def kD : Key → PyData
  | .inl i => .int i
  | .inr x => .str x
mutual
inductive Da (H : Hp) : V → PyData → Prop
  | non : Da H .non .none
  | bl (b : Bool) : Da H (.bl b) (.bool b)
  | int (i : Int) : Da H (.int i) (.int i)
  | str (x : Str) : Da H (.str x) (.str x)
  | lst {a : Addr} {xs : List V} {ds : List PyData} : a ≠ sysModules → H a = some (.lst xs) →
      DaAll H xs ds → Da H (.ref a) (.list ds)
  | tup {a : Addr} {xs : List V} {ds : List PyData} : H a = some (.tup xs) →
      DaAll H xs ds → Da H (.ref a) (.tuple ds)
  | dic {a : Addr} {kvs : List (Key × V)} {ds : List PyData} : H a = some (.dK kvs) →
      DaAll H (kvs.map (·.2)) ds → Da H (.ref a) (.dict ((kvs.map fun p => kD p.1).zip ds))
inductive DaAll (H : Hp) : List V → List PyData → Prop
  | nil : DaAll H [] []
  | cons {v : V} {vs : List V} {d : PyData} {ds : List PyData} : Da H v d → DaAll H vs ds →
      DaAll H (v :: vs) (d :: ds)
end
mutual
theorem Da.mono {H H' : Hp} (e : Same H H') {v : V} {d : PyData} : Da H v d → Da H' v d
  | .non => .non
  | .bl b => .bl b
  | .int i => .int i
  | .str x => .str x
  | .lst n h t => .lst n (e _ _ h) (DaAll.mono e t)
  | .tup h t => .tup (e _ _ h) (DaAll.mono e t)
  | .dic h t => .dic (e _ _ h) (DaAll.mono e t)
theorem DaAll.mono {H H' : Hp} (e : Same H H') {vs : List V} {ds : List PyData} :
    DaAll H vs ds → DaAll H' vs ds
  | .nil => .nil
  | .cons h t => .cons (Da.mono e h) (DaAll.mono e t)
end
theorem DaAll.len {H : Hp} : ∀ {vs : List V} {ds : List PyData}, DaAll H vs ds → vs.length = ds.length
  | _, _, .nil => rfl
  | _, _, .cons _ t => by simp [DaAll.len t]

theorem pairs_reads {P : Program} {w : World} {h : Heap} : ∀ {es : List DictEntry} {kvs : List (Key × V)}
    {vs : List (Key × Value)}, Pairs (mixKind P w) es vs → KV kvs vs →
    ReadsAll h (es.map (·.key)) (kvs.map fun p => kD p.1) [] ∧ Vals (kvs.map (·.2)) (es.map (·.val))
  | _, _, _, .nil, r => by cases r; exact ⟨.nil, .nil⟩
  | _, _, _, .cons (e := e) k1 k2 t, r => by
    cases r with
    | cons r1 r2 =>
      obtain ⟨q1, q2⟩ := pairs_reads (h := h) t r2
      obtain ⟨e1, e2⟩ := r1
      refine ⟨?_, .cons (show L2.RelV _ e.val by rw [k2]; exact e2) q2⟩
      rw [← e1] at k1
      have sh := keyIs_shape (show keyIs _ e.key = true from k1)
      simp only [List.map_cons]
      rcases sh with ⟨i, tk, z1, z2⟩ | ⟨x, tk, z1, z2⟩
      · rw [z1, z2]
        exact ReadsAll.cons (as := []) (bs := []) (.int i tk) q1
      · rw [z1, z2]
        exact ReadsAll.cons (as := []) (bs := []) (.str x tk) q1

section
variable {X : Cx} {pins : List (Addr × Obj)} {σ : L2.St} {H : Hp} {s : Shared}
mutual
theorem Da.reads (I : Inv X pins σ H s) {v : V} {d : PyData} {u : Value} :
    Da H v d → RelV v u → ∃ as, Reads s.heap u d as ∧ sysModules ∉ as
  | .non, r => by
    obtain rfl : u = Value.none := r
    exact ⟨_, .none, by simp⟩
  | .bl b, r => by
    obtain rfl : u = Value.bool b := r
    exact ⟨_, .bool b, by simp⟩
  | .int i, r => by
    obtain ⟨t, rfl⟩ := r
    exact ⟨_, .int i t, by simp⟩
  | .str x, r => by
    obtain ⟨t, rfl⟩ := r
    exact ⟨_, .str x t, by simp⟩
  | .lst (a := a) (xs := xs) n h t, r => by
    obtain rfl : u = Value.ref a := r
    obtain ⟨_, its, m, rv, ho⟩ := (show ObjOk X.prog X.w H s.heap a (.lst xs) from I.hok a _ h)
    obtain ⟨as, q, z⟩ := DaAll.reads I t rv
    refine ⟨_, .list (vs := its.toArray) ho rfl rfl (by simpa using q), ?_⟩
    intro hm
    rcases List.mem_cons.mp hm with e | e
    · exact n e.symm
    · exact z e
  | .tup (a := a) (xs := xs) h t, r => by
    obtain rfl : u = Value.ref a := r
    obtain ⟨_, its, rv, o, ho, hc, m, hd⟩ := (show ObjOk X.prog X.w H s.heap a (.tup xs) from I.hok a _ h)
    obtain ⟨as, q, z⟩ := DaAll.reads I t rv
    exact ⟨_, .tuple (vs := its.toArray) ho hc hd (by simpa using q), z⟩
  | .dic (a := a) (kvs := kvs) (ds := ds) h t, r => by
    obtain rfl : u = Value.ref a := r
    obtain ⟨_, ns, vs, kv, o, es, ep, ho, ex, hd, _, pr, _⟩ :=
      (show ObjOk X.prog X.w H s.heap a (.dK kvs) from I.hok a _ h)
    obtain ⟨q1, q2⟩ := pairs_reads (h := s.heap) pr kv
    obtain ⟨as, q3, z⟩ := DaAll.reads I t q2
    have hl := t.len
    have hl2 : (kvs.map fun p => kD p.1).length = ds.length := by simpa using hl
    have e1 : ((kvs.map fun p => kD p.1).zip ds).map (·.1) = kvs.map fun p => kD p.1 :=
      List.map_fst_zip (by omega)
    have e2 : ((kvs.map fun p => kD p.1).zip ds).map (·.2) = ds := List.map_snd_zip (by omega)
    refine ⟨_, .dict ho ex.1 hd (by rw [e1]; exact q1) (by rw [e2]; exact q3), ?_⟩
    intro hm
    rcases List.mem_cons.mp (show sysModules ∈ a :: ([] ++ as) by simpa using hm) with e | e
    · rw [← e] at ns
      simp at ns
    · exact z (by simpa using e)
theorem DaAll.reads (I : Inv X pins σ H s) {vs : List V} {ds : List PyData} {us : List Value} :
    DaAll H vs ds → Vals vs us → ∃ as, ReadsAll s.heap us ds as ∧ sysModules ∉ as
  | .nil, r => by
    cases r
    exact ⟨_, .nil, by simp⟩
  | .cons h t, r => by
    cases r with
    | cons r1 r2 =>
      obtain ⟨as, q1, z1⟩ := Da.reads I h r1
      obtain ⟨bs, q2, z2⟩ := DaAll.reads I t r2
      exact ⟨_, .cons q1 q2, by simp [z1, z2]⟩
end
end

/-- data that can be shown, and not too long -/
def OkD (d : PyData) : Prop :=
  d.showable = true ∧ d.leavesShort 600 = true ∧ d.weight ≤ 20000 ∧ d.depth ≤ 60
theorem OkD.size {d : PyData} (h : OkD d) : d.shown.length ≤ sizeLine := by
  have q := PyData.shown_le 600 (by decide) d h.2.1
  have e := h.2.2.1
  have e2 : (600 + 2) * d.weight ≤ 602 * 20000 := Nat.mul_le_mul (by decide) e
  rw [sizeLine_eq]
  omega

section
variable {X : Cx}
def rRep : List V → Hp → VK → Prop := fun xs H Q =>
  ∃ (v : V) (d : PyData), xs = [v] ∧ Da H v d ∧ OkD d ∧ Q (.str d.shown) H
theorem call_rep (gd : X.A.guards = some []) (hu : X.A.units + 64 < cLine) :
    CallR X (.builtin "repr") rRep := by
  intro pins s σ H xs us Q I r h
  obtain ⟨v, d, rfl, hd, ok, q⟩ := h
  obtain ⟨u, rfl, rv⟩ := vals1 r
  obtain ⟨as, R, nm⟩ := hd.reads I rv
  have hz := ok.size
  have hp := ok.2.2.2
  have hs := ok.1
  cases R with
  | none => exact PySem.P.repr_of_none ⟨.str _, H, I.tok _, ⟨_, rfl⟩, q⟩
  | bool b => exact PySem.P.repr_of_bool ⟨.str _, H, I.tok _, ⟨_, rfl⟩, q⟩
  | int i t =>
    have hi : i.natAbs.log2 < 1920 := by simpa [PyData.showable] using hs
    exact PySem.P.repr_of_int hi ⟨.str _, H, I.tok _, ⟨_, rfl⟩, q⟩
  | str y t => exact PySem.P.repr_of_str ⟨.str _, H, I.tok _, ⟨_, rfl⟩, q⟩ hz
  | list h1 h2 h3 h4 =>
    exact repr_of_reads' (.list h1 h2 h3 h4) hs (fun _ => nm) gd (by omega)
      (fun _ _ e => e) (fun h' u tk k => ⟨.str _, H, I.kept k, ⟨_, rfl⟩, q⟩) hz
  | tuple h1 h2 h3 h4 =>
    exact repr_of_reads' (.tuple h1 h2 h3 h4) hs (fun _ => nm) gd (by omega)
      (fun _ _ e => e) (fun h' u tk k => ⟨.str _, H, I.kept k, ⟨_, rfl⟩, q⟩) hz
  | dict h1 h2 h3 h4 h5 =>
    exact repr_of_reads' (.dict h1 h2 h3 h4 h5) hs (fun _ => nm) gd (by omega)
      (fun _ _ e => e) (fun h' u tk k => ⟨.str _, H, I.kept k, ⟨_, rfl⟩, q⟩) hz

/-- a list display, its place not that of sys.modules -/
def tLstS (t : TA) : TE := fun σ H Q => t σ H fun xs H1 => xs.length ≤ sizeLine ∧
  ∀ p, H1 p = none → p ≠ sysModules → Q (.ref p) (upd H1 p (.lst xs))
theorem pe_lstS {es : List Expr} {t : TA} {pos : Pos} (h : PA X es t) : PE X (.List es pos) (tLstS t) := by
  refine ⟨fun pins s σ H Q I hq => ?_⟩
  refine wpAny_List_spliced (thn (h.run pos pins s σ H _ I hq) fun us s1 ⟨xs, H1, I1, r, z, q⟩ =>
    ⟨by rw [← r.length]; exact z, ?_⟩)
  have fr : H1 s1.heap.objs.size = none := I1.hok.fresh (Nat.le_refl _)
  refine ⟨.ref s1.heap.objs.size, upd H1 s1.heap.objs.size (.lst xs), I1.laid (t' := s1.toks)
    (fun b u e => Heap.get?_push_of_some _ e) (Nat.le_refl _) ?_, rfl, q _ fr (Nat.ne_of_gt I1.big)⟩
  exact ⟨z, us, 0, r, Heap.get?_push_size _ rfl⟩

/-- isinstance(x, T) for data and a built-in T -/
def tyD : PyData → String
  | .none => "NoneType"
  | .bool _ => "bool"
  | .int _ => "int"
  | .str _ => "str"
  | .list _ => "list"
  | .tuple _ => "tuple"
  | .dict _ => "dict"
theorem Da.ty {K : PySem.W.Frag} {H : Hp} {v : V} {d : PyData} (h : Da H v d) :
    TyX K H v (.type (tyD d)) := by
  cases h with
  | non => exact .base .non
  | bl b => exact .base (.bl b)
  | int i => exact .base (.int i)
  | str x => exact .base (.str x)
  | lst n h t => exact .base (.lst h)
  | tup h t => exact .base (.tup h)
  | dic h t => exact .base (.dK h)
end

/-- the heap without what stands at r -/
def hide (r : Addr) (H : Hp) : Hp := fun q => if q = r then none else H q
theorem hide_same (r : Addr) (H : Hp) : Same (hide r H) H := fun b o e => by
  unfold hide at e
  split at e
  · cases e
  · exact e
theorem hide_get {r b : Addr} {H : Hp} {o : HO} (n : b ≠ r) (h : H b = some o) : hide r H b = some o := by
  unfold hide
  rw [if_neg n]
  exact h
end G
/-! The end of a row from a law's promise that may use that no repr is under way. -/
namespace G
open PySem PySem.Spec PyProof.Rows L2

theorem law_callG {P : Program} {w : World} {K : PySem.W.Frag} {mg mb : Str → Option Value} {k : Nat}
    {f a : Addr} {fd : FuncData} {x : Str} {sp : Sp} {st : Shared} {us : List Value} {ns : List Int}
    (inK : K.In st.heap) (hg : st.heap.Ns mainGlobals mg) (hb : st.heap.Ns builtinsNs mb)
    (bb : ∀ y : Str, y ≠ "__name__" → mb y = bootBuiltins y) (nl : st.heap.NoLimit)
    (gn : st.gens = #[])
    (ho : st.heap.get? a = some { cls := .type "list", data := .seq us.toArray }) (hi : IntsAre us ns)
    (hl : ns.length ≤ sizeLine) (rm : Room k callerA)
    (F : ∀ bs : Heap, K.In bs → bs.Ns mainGlobals mg → FnG P w K mg bs CX0 k f fd [x] sp)
    (bind : ∀ (s : Shared) (u : Value), BindsTo s fd ⟨[u], []⟩ [(x, u)])
    (hsp : ∀ H : Hp, Only H → SqL K H a (ns.map V.int) →
      sp [.ref a] H (fun v _ => v = .bl true) fun _ _ _ => False) :
    codeAny (model P w) callerA (.call (.ref f) ⟨[.ref a], []⟩)
      (fun r s' => r = .ok (.ret (.bool true)) ∧ OldK st.heap s'.heap ∧ s'.os = st.os ∧
        AllBare s'.gens) st := by
  have vls := vals_ints hi
  have len := hi.length
  have main : ∀ H : Hp, Only H → SqL K H a (ns.map V.int) → HOk P w H st.heap →
      (∀ b, H b ≠ none → b = a) → (H a ≠ none → K.lookup a = none) →
      codeAny (model P w) callerA (.call (.ref f) ⟨[.ref a], []⟩)
        (fun r s' => r = .ok (.ret (.bool true)) ∧ OldK st.heap s'.heap ∧ s'.os = st.os ∧
          AllBare s'.gens) st := by
    intro H only sq hok at_a noK
    have dict_free : ∀ {b : Addr} {o : Obj} {es : Array DictEntry} {ep : Nat},
        st.heap.get? b = some o → o.data = .dict es ep → H b = none := by
      intro b o es ep e d
      cases q : H b with
      | none => rfl
      | some z =>
        have e2 : b = a := at_a b (by rw [q]; simp)
        rw [e2, ho] at e
        cases e
        cases (show Data.seq us.toArray _ = Data.dict es ep from d)
    have keepN : ∀ {b : Addr} {m : Str → Option Value}, st.heap.Ns b m →
        (hidT st.heap H).Ns b m := by
      rintro b m ⟨o, es, ep, e, d, r⟩
      exact ⟨o, es, ep, hidT_get e (dict_free e d), d, r⟩
    have inB : K.In (hidT st.heap H) := by
      intro b o e
      refine hidT_get (inK b o e) ?_
      cases q : H b with
      | none => rfl
      | some z =>
        have e2 : b = a := at_a b (by rw [q]; simp)
        subst e2
        rw [noK (by rw [q]; simp)] at e
        cases e
    obtain ⟨mc, n1, n2⟩ := nl
    have md : Mod K mg (hidT st.heap H) := ⟨inB, keepN hg, ⟨mb, keepN hb, bb⟩, mc, keepN n1, n2⟩
    have ev : Env0 P w K mg (hidT st.heap H) callerA [] st H :=
      ⟨rfl, md, fun b o e => of_hidT e, Nat.le_of_eq (hidT_size _ _), trivial,
        fun b z => (by simp [frs] at z), hok, .of_eq gn⟩
    refine codeAny_mono ((F _ inB (keepN hg)).runG callerA [] st H ⟨[.ref a], []⟩ [.ref a] [.ref a]
      _ _ rfl rm ev (bind st (.ref a)) (.cons rfl .nil) (hsp H only sq)) fun r s2 z => ?_
    cases r with
    | error e => exact z.elim
    | ok fl =>
      cases fl with
      | next => exact z.elim
      | brk => exact z.elim
      | cont => exact z.elim
      | ret u =>
        obtain ⟨v, H2, os, bare, un, hok2, rv, q⟩ := z
        have qv : v = .bl true := q
        subst qv
        obtain rfl : u = Value.bool true := rv
        refine ⟨rfl, OldK.of_keep fun b o e => ?_, os, bare⟩
        cases q2 : H b with
        | none => exact un.keep b o e q2 (fun z => by simp [frs] at z) (by simp)
        | some z =>
          rcases only b with y | ⟨ob, xs, y⟩
          · rw [q2] at y
            cases y
          · obtain ⟨m1, _⟩ := hok b _ y
            obtain ⟨m2, _⟩ := hok2 b _ (un.frzs b ob _ y)
            rw [e] at m1
            cases m1
            exact m2
  cases hk : K.lookup a with
  | some o =>
    have e := inK a o hk
    rw [ho] at e
    cases e
    refine main (fun _ => none) (fun _ => .inl rfl) (.inr ⟨_, us.toArray, _, hk, rfl, rfl, rfl, ?_, ?_⟩)
      (fun b u z => nomatch (show (none : Option HO) = some u from z)) (fun b z => absurd rfl z)
      fun z => absurd rfl z
    · rw [List.size_toArray, len]
      exact hl
    · simpa using vls
  | none =>
    refine main (fun b => if b = a then some (.frz { cls := .type "list", data := .seq us.toArray }
      (.lst (ns.map V.int))) else none) (fun b => ?_) (.inl (.inr ⟨_, if_pos rfl⟩)) (fun b u z => ?_)
      (fun b z => ?_) fun _ => hk
    · by_cases e : b = a
      · exact .inr ⟨_, _, if_pos e⟩
      · exact .inl (if_neg e)
    · by_cases e : b = a
      · have z2 := (if_pos e).symm.trans z
        cases z2
        subst e
        exact ⟨ho, by rw [List.length_map]; exact hl, us, _, vls, ho⟩
      · have z2 := (if_neg e).symm.trans z
        cases z2
    · by_cases e : b = a
      · exact e
      · exact absurd (if_neg e) z

/-- the goal that the head leaves -/
theorem walk_ofG {l : PySem.W.OpenLaw} {n k : Nat} {q : Program} {loose : List Str}
    {XP : (Str → Option Value) → Heap → Prop} {YP : World → Heap → Prop} {d : DefRec}
    {K : Params → PySem.W.Frag} {sp : World → Sp} {x : Str} (hn : l.most = some n) (n2 : n ≤ sizeLine)
    (hd : d.params.defaults = []) (rm : Room k callerA)
    (hY : ∀ (w : World) (h : Heap), YP w h → (K w.params).In h)
    (F : ∀ (w : World) (mg : Str → Option Value) (fa : Addr) (h : Heap), (K w.params).In h →
      h.Ns mainGlobals mg → mg d.name = some (.ref fa) →
      ∃ fd : FuncData, (∀ (s : Shared) (u : Value), BindsTo s fd ⟨[u], []⟩ [(x, u)]) ∧
        ∀ bs : Heap, (K w.params).In bs → bs.Ns mainGlobals mg →
          FnG l.prog w (K w.params) mg bs CX0 k fa fd [x] (sp w))
    (hsp : ∀ (w : World) (H : Hp) (a : Addr) (ns : List Int), ns.length ≤ n → Only H →
      SqL (K w.params) H a (ns.map V.int) →
      sp w [.ref a] H (fun v _ => v = .bl true) fun _ _ _ => False) :
    PySem.W.WalkO q loose XP YP l.row.toRowW d [] (fun f vs => PySem.call f vs) := by
  refine Att.attach_call hn hd
    fun w s0 s1 mg mb fa o pm cd doc a us ns Gr Y _ _ _ hmg hobj hints hlen gn => ?_
  have inK := hY w _ Y
  obtain ⟨fd, hb, hF⟩ := F w mg fa _ inK Gr.T.g hmg
  exact law_callG inK Gr.T.g Gr.T.b Gr.T.builtins Gr.T.nolimit gn hobj hints
    (Nat.le_trans hlen n2) rm hF hb fun H hO hS => hsp w H a ns hlen hO hS
end G
/-! What the laws' texts have in common: the drawn numbers, heaps that grow, data that can be shown. -/
namespace G
open PySem PySem.Spec PyProof.Rows L2

def Rng (H : Hp) (r : Addr) : Prop :=
  ∃ a b : Int, H r = some (.lst [.int a, .int b]) ∧ 0 ≤ a ∧ 0 ≤ b ∧ b < 2147483587
/-- all but what stands at r is kept -/
def Ext (r : Addr) (H H' : Hp) : Prop := ∀ q o, q ≠ r → H q = some o → H' q = some o
theorem Ext.refl (r : Addr) (H : Hp) : Ext r H H := fun _ _ _ h => h
theorem Ext.trans {r : Addr} {H H1 H2 : Hp} (a : Ext r H H1) (b : Ext r H1 H2) : Ext r H H2 :=
  fun q o n h => b q o n (a q o n h)
theorem Ext.new {r p : Addr} {H : Hp} {o : HO} (h : H p = Option.none) : Ext r H (upd H p o) :=
  fun q u _ e => by rw [upd_ne (ne_of_none e h)]; exact e
theorem Ext.at {r : Addr} {H : Hp} {o : HO} : Ext r H (upd H r o) :=
  fun q u n e => by rw [upd_ne n]; exact e
theorem Ext.of {r : Addr} {H H' : Hp} (h : Same H H') : Ext r H H' := fun q o _ e => h q o e
theorem Ext.none {r p : Addr} {H H' : Hp} (e : Ext r H H') (n : p ≠ r) (h : H' p = Option.none) : H p = Option.none := by
  cases z : H p with
  | none => rfl
  | some o =>
    rw [e p o n z] at h
    cases h
theorem Rng.same {r : Addr} {H H' : Hp} (R : Rng H r) (s : Same H H') : Rng H' r := by
  obtain ⟨a, b, e, z⟩ := R
  exact ⟨a, b, s _ _ e, z⟩
theorem Rng.new {r p : Addr} {H : Hp} {o : HO} (R : Rng H r) (h : H p = Option.none) : Rng (upd H p o) r := by
  obtain ⟨a, b, e, z⟩ := R
  exact ⟨a, b, by rw [upd_ne (ne_of_none e h)]; exact e, z⟩
theorem Rng.put {r p : Addr} {H : Hp} {o : HO} (R : Rng H r) (h : p ≠ r) : Rng (upd H p o) r := by
  obtain ⟨a, b, e, z⟩ := R
  exact ⟨a, b, by rw [upd_ne h.symm]; exact e, z⟩
theorem Rng.free {r p : Addr} {H : Hp} (R : Rng H r) (h : H p = Option.none) : r ≠ p := by
  obtain ⟨a, b, e, z⟩ := R
  exact ne_of_none e h
theorem Rng.ne {r p : Addr} {H : Hp} {o : HO} (R : Rng H r) (h : H p = some o) (n : ∀ a b, o ≠ .lst [.int a, .int b]) : p ≠ r := by
  obtain ⟨a, b, e, z⟩ := R
  exact ne_of h e (n a b)
theorem new_same {p : Addr} {J : Hp} {o : HO} (h : J p = none) : Same J (upd J p o) :=
  fun b u e => by rw [upd_ne (ne_of_none e h)]; exact e

def spRng (K : PySem.W.Frag) : Sp := fun vs H Q _ => ∃ (a : Addr) (ns : List Int) (k : Int),
  vs = [.ref a, .int k] ∧ SqL K H a (ns.map V.int) ∧ 0 ≤ k ∧ k ≤ 1000 ∧
  ∀ r H', H r = none → Same H H' → Rng H' r → Q (.ref r) H'
def spDraw : Sp := fun vs H Q _ => ∃ (r : Addr) (m : Int), vs = [.ref r, .int m] ∧ Rng H r ∧ 0 < m ∧
  m.natAbs < 2 ^ 250 ∧ ∀ (d : Int) (H' : Hp), Ext r H H' → Rng H' r → 0 ≤ d → d < m → Q (.int d) H'
def spChoice (K : PySem.W.Frag) : Sp := fun vs H Q _ => ∃ (r l : Addr) (xs : List V),
  vs = [.ref r, .ref l] ∧ Rng H r ∧ SqL K H l xs ∧ l ≠ r ∧ 0 < xs.length ∧ xs.length ≤ 1000 ∧
  ∀ (v : V) (H' : Hp), Ext r H H' → Rng H' r → v ∈ xs → Q v H'
theorem Ext.sqL {K : PySem.W.Frag} {r a : Addr} {H H' : Hp} {xs : List V} (e : Ext r H H') (n : a ≠ r)
    (h : SqL K H a xs) : SqL K H' a xs := by
  rcases h with (h | ⟨o, h⟩) | h
  · exact .inl (.inl (e _ _ n h))
  · exact .inl (.inr ⟨o, e _ _ n h⟩)
  · exact .inr h
theorem sq_ext {K : PySem.W.Frag} {r a : Addr} {J0 J : Hp} {xs : List V} (h : SqL K J0 a xs) (n : J0 r = none)
    (e : Ext r J0 J) : SqL K J a xs := by
  rcases h with (h | ⟨o, h⟩) | h
  · exact .inl (.inl (e _ _ (ne_of_none h n) h))
  · exact .inl (.inr ⟨o, e _ _ (ne_of_none h n) h⟩)
  · exact .inr h
theorem at_in {α : Type} {xs : List α} {i : Int} {v : α} (h0 : 0 ≤ i)
    (h : xs[i.toNat]? = some v) : atI xs i = some v := by
  have e : i = ((i.toNat : Nat) : Int) := by omega
  rw [e]
  exact atI_nat h
theorem at_mem {α : Type} {xs : List α} {i : Int} (h0 : 0 ≤ i) (h1 : i < xs.length) :
    ∃ c, atI xs i = some c ∧ c ∈ xs := by
  have h2 : i.toNat < xs.length := by omega
  exact ⟨xs[i.toNat], at_in h0 (by simp [h2]), List.getElem_mem _⟩
theorem yesT {σ : L2.St} {H : Hp} {a b : Hp → Prop} (h : a H) :
    tYes σ H fun k J => if k = true then a J else b J := by
  show if true = true then a H else b H
  exact iteT h
theorem take_next {α : Type} {l : List α} {i : Nat} {c : α} (h : l[i]? = some c) :
    l.take (i + 1) = l.take i ++ [c] := by
  rw [List.take_add_one, h]
  rfl
def okB (d : PyData) : Bool :=
  d.showable && d.leavesShort 600 && decide (d.weight ≤ 20000) && decide (d.depth ≤ 60)
theorem okd {d : PyData} (h : okB d = true) : OkD d := by
  simp only [okB, Bool.and_eq_true, decide_eq_true_eq] at h
  exact ⟨h.1.1.1, h.1.1.2, h.1.2, h.2⟩

section
variable {X : Cx} {CX : CXT} {k : Nat} {f : Addr} {fd : FuncData} {ps ks : List Str} {sp : Sp} {E : XK}
  {x : Str} {p pos : Pos} {kws : List Keyword} {tk : TA}
/-- f(k = v, ..), keywords alone: o puts their values in the parameters' order -/
theorem pe_callKw {m : Nat} (oV : List V → List V) (o : List Value → List Value)
    (F : FnOk X.prog X.w X.K X.mg X.base CX k f fd ps sp) (rm : Room k X.A)
    (hg : Gl X x) (hm : X.mg x = some (.ref f)) (hk : PySem.W.keepIn X.K (.ref f) = true)
    (bt : ∀ (s : Shared) (ws : List Value), ws.length = m → BindsTo s fd ⟨[], ks.zip ws⟩ (ps.zip (o ws)))
    (rel : ∀ (zs : List V) (ws : List Value), zs.length = m → Vals zs ws → Vals (oV zs) (o ws)) (hx : Passes CX X E)
    (hkw : PK X kws tk)
    (a1 : (backToKw pos (keywordEach kws X.env)).all (·.1.isSome) = true := by rfl)
    (a2 : (backToKw pos (keywordEach kws X.env)).filterMap (·.1) = ks := by rfl)
    (n1 : (x == ("__debug__" : Str)) = false := by decide)
    (n3 : ((backTo pos (starEach [] X.env)).any (·.1) || (backToKw pos (keywordEach kws X.env)).any (·.1.isNone)) = false := by rfl) :
    PE X (.Call (.Name x p) [] kws pos) (fun σ H Q => tk σ H fun zs H1 => zs.length = m ∧ sp (oV zs) H1 Q E) := by
  refine ⟨fun pins s σ H Q J hw => ?_⟩
  refine wpAny_Call_Name_kw (ld_glob J hg hm ?_ n1)
  refine PySem.W.callWith_KW0 (h₀ := X.base) J.ok.mod.kin hk a1 (thn (hkw.run pos pins s σ H _ J hw)
    fun ws s1 ⟨zs, H1, J1, r1, l1, q1⟩ => ⟨J1.kIn, ?_⟩) n3
  rw [a2]
  have r2 := rel zs ws l1 r1
  refine wpAny_call (codeAny_mono (F.run X.A X.stack s1 H1 ⟨[], ks.zip ws⟩ (o ws) (oV zs) Q E
    rm J1.env0 (bt s1 ws (by rw [← r1.length]; exact l1)) r2 q1) fun r s2 z => ?_)
  cases r with
  | error er => exact hx pins σ H1 s1 er s2 J1 z
  | ok fl =>
    cases fl with
    | ret u => exact J1.after z
    | next => exact z.elim
    | brk => exact z.elim
    | cont => exact z.elim
end
end G
namespace N3
open PySem L2 G
def tp (i : Nat) : Stmt :=
  PySem.Challenge.pw_groupsteps_k13_whole_rising_lists.main.body.getD i (.Pass ⟨0, 0, 0, 0⟩)
abbrev sIsVer : Stmt := tp 6
abbrev sReqVer : Stmt := tp 7
abbrev sIsWin : Stmt := tp 9
abbrev sReqWin : Stmt := tp 10
abbrev sReqWins : Stmt := tp 11
abbrev sReach : Stmt := tp 12
abbrev sCont : Stmt := tp 13
abbrev sRises : Stmt := tp 14
abbrev sFall : Stmt := tp 15
abbrev sLeast : Stmt := tp 16
abbrev sRng : Stmt := tp 18
abbrev sDraw : Stmt := tp 19
abbrev sChoice : Stmt := tp 20
abbrev sWins : Stmt := tp 21
abbrev sTop : Stmt := tp 22
abbrev sFalls : Stmt := tp 23
abbrev sFirst : Stmt := tp 24
abbrev sRepl : Stmt := tp 25
abbrev sMoved : Stmt := tp 26
abbrev sRight : Stmt := tp 27
abbrev sLaw : Stmt := tp 28

structure Txt (mg : Str → Option Value) : Prop where
  len : mg "len" = none
  abs : mg "abs" = none
  max : mg "max" = none
  min : mg "min" = none
  divmod : mg "divmod" = none
  isi : mg "isinstance" = none
  tuple : mg "tuple" = none
  list : mg "list" = none
  int : mg "int" = none
  bool : mg "bool" = none
  enum : mg "enumerate" = none
  zip : mg "zip" = none
  range : mg "range" = none
  repr : mg "repr" = none

abbrev Wn := Int × Option Int
def hV : Option Int → V
  | none => .non
  | some x => .int x
def hD : Option Int → PyData
  | none => .none
  | some x => .int x
def WinAt (H : Hp) (t : Addr) (w : Wn) : Prop := H t = some (.tup [.int w.1, hV w.2])
/-- a right window with bounds of at most B -/
def Wok (B : Int) (w : Wn) : Prop := 0 ≤ w.1 ∧ w.1 ≤ B ∧ ∀ x, w.2 = some x → w.1 ≤ x ∧ x ≤ B
theorem Wok.mono {B C : Int} {w : Wn} (h : Wok B w) (e : B ≤ C) : Wok C w :=
  ⟨h.1, Int.le_trans h.2.1 e, fun x hx => ⟨(h.2.2 x hx).1, Int.le_trans (h.2.2 x hx).2 e⟩⟩
def WsAt (H : Hp) (a : Addr) (ts : List Addr) (ws : List Wn) : Prop :=
  H a = some (.lst (ts.map V.ref)) ∧ Paired (WinAt H) ts ws
theorem hDa {H : Hp} : ∀ h : Option Int, Da H (hV h) (hD h)
  | none => .non
  | some x => .int x
theorem WinAt.da {H : Hp} {t : Addr} {w : Wn} (h : WinAt H t w) : Da H (.ref t) (.tuple [.int w.1, hD w.2]) :=
  .tup h (.cons (.int _) (.cons (hDa _) .nil))

def verB : PyData → Bool
  | .int i => decide (0 ≤ i)
  | _ => false
def isNone : PyData → Bool
  | .none => true
  | _ => false
def geB : PyData → PyData → Bool
  | .int h, .int l => decide (h ≥ l)
  | _, _ => false
def winB : PyData → Bool
  | .tuple [lo, hi] => verB lo && (isNone hi || (verB hi && geB hi lo))
  | _ => false
theorem Wok.win {B : Int} {w : Wn} (h : Wok B w) : winB (.tuple [.int w.1, hD w.2]) = true := by
  obtain ⟨l, hh⟩ := w
  obtain ⟨h1, h2, h3⟩ := h
  cases hh with
  | none =>
    have e : 0 ≤ l := h1
    simp [winB, verB, hD, isNone, e]
  | some x =>
    have e := h3 x rfl
    have e1 : 0 ≤ l := h1
    have e2 : l ≤ x := e.1
    have e3 : 0 ≤ x := by omega
    simp [winB, verB, hD, isNone, geB, e1, e2, e3]
def isTuple : PyData → Bool
  | .tuple _ => true
  | _ => false
def isInt : PyData → Bool
  | .int _ => true
  | .bool _ => true
  | _ => false
def isBool : PyData → Bool
  | .bool _ => true
  | _ => false
def isList : PyData → Bool
  | .list _ => true
  | _ => false
theorem kTuple {K : PySem.W.Frag} : ∀ d : PyData,
    PySem.W.kitOne K (.type (tyD d)) (.type "tuple") = some (isTuple d)
  | .none => kit_ty (a := "NoneType") (b := "tuple") (r := false) (by decide +kernel)
  | .bool _ => kit_ty (a := "bool") (b := "tuple") (r := false) (by decide +kernel)
  | .int _ => kit_ty (a := "int") (b := "tuple") (r := false) (by decide +kernel)
  | .str _ => kit_ty (a := "str") (b := "tuple") (r := false) (by decide +kernel)
  | .list _ => kit_ty (a := "list") (b := "tuple") (r := false) (by decide +kernel)
  | .tuple _ => kit_ty (a := "tuple") (b := "tuple") (r := true) (by decide +kernel)
  | .dict _ => kit_ty (a := "dict") (b := "tuple") (r := false) (by decide +kernel)
theorem kInt {K : PySem.W.Frag} : ∀ d : PyData,
    PySem.W.kitOne K (.type (tyD d)) (.type "int") = some (isInt d)
  | .none => kit_ty (a := "NoneType") (b := "int") (r := false) (by decide +kernel)
  | .bool _ => kit_ty (a := "bool") (b := "int") (r := true) (by decide +kernel)
  | .int _ => kit_ty (a := "int") (b := "int") (r := true) (by decide +kernel)
  | .str _ => kit_ty (a := "str") (b := "int") (r := false) (by decide +kernel)
  | .list _ => kit_ty (a := "list") (b := "int") (r := false) (by decide +kernel)
  | .tuple _ => kit_ty (a := "tuple") (b := "int") (r := false) (by decide +kernel)
  | .dict _ => kit_ty (a := "dict") (b := "int") (r := false) (by decide +kernel)
theorem kBool {K : PySem.W.Frag} : ∀ d : PyData,
    PySem.W.kitOne K (.type (tyD d)) (.type "bool") = some (isBool d)
  | .none => kit_ty (a := "NoneType") (b := "bool") (r := false) (by decide +kernel)
  | .bool _ => kit_ty (a := "bool") (b := "bool") (r := true) (by decide +kernel)
  | .int _ => kit_ty (a := "int") (b := "bool") (r := false) (by decide +kernel)
  | .str _ => kit_ty (a := "str") (b := "bool") (r := false) (by decide +kernel)
  | .list _ => kit_ty (a := "list") (b := "bool") (r := false) (by decide +kernel)
  | .tuple _ => kit_ty (a := "tuple") (b := "bool") (r := false) (by decide +kernel)
  | .dict _ => kit_ty (a := "dict") (b := "bool") (r := false) (by decide +kernel)
theorem kList {K : PySem.W.Frag} : ∀ d : PyData,
    PySem.W.kitOne K (.type (tyD d)) (.type "list") = some (isList d)
  | .none => kit_ty (a := "NoneType") (b := "list") (r := false) (by decide +kernel)
  | .bool _ => kit_ty (a := "bool") (b := "list") (r := false) (by decide +kernel)
  | .int _ => kit_ty (a := "int") (b := "list") (r := false) (by decide +kernel)
  | .str _ => kit_ty (a := "str") (b := "list") (r := false) (by decide +kernel)
  | .list _ => kit_ty (a := "list") (b := "list") (r := true) (by decide +kernel)
  | .tuple _ => kit_ty (a := "tuple") (b := "list") (r := false) (by decide +kernel)
  | .dict _ => kit_ty (a := "dict") (b := "list") (r := false) (by decide +kernel)

/-- a question about data, answered by b -/
def spB (b : PyData → Bool) : Sp := fun vs H Q _ => ∃ (v : V) (d : PyData),
  vs = [v] ∧ Da H v d ∧ Q (.bl (b d)) H
/-- a demand on data that is met -/
def spReq (b : PyData → Bool) : Sp := fun vs H Q _ => ∃ (v : V) (d : PyData),
  vs = [v] ∧ Da H v d ∧ b d = true ∧ Q .non H
def reach : Option Int → Int → Bool
  | none, _ => true
  | some x, n => decide (x ≥ n)
def spReach : Sp := fun vs H Q _ => ∃ (h : Option Int) (n : Int), vs = [hV h, .int n] ∧ Q (.bl (reach h n)) H
def contW (w : Wn) (n : Int) : Bool := decide (w.1 ≤ n) && reach w.2 n
def spCont : Sp := fun vs H Q _ => ∃ (t : Addr) (w : Wn) (B n : Int), vs = [.ref t, .int n] ∧ WinAt H t w ∧ Wok B w ∧
  0 ≤ n ∧ Q (.bl (contW w n)) H
def risesW (a b : Wn) : Bool :=
  if b.1 < a.1 then false else match a.2 with
    | none => b.2.isNone
    | some x => reach b.2 x
def spRises : Sp := fun vs H Q _ => ∃ (t u : Addr) (a b : Wn) (B : Int), vs = [.ref t, .ref u] ∧ WinAt H t a ∧ WinAt H u b ∧
  Wok B a ∧ Wok B b ∧ Q (.bl (risesW a b)) H

section
variable {P : Program} {w : World} {K : PySem.W.Frag} {mg : Str → Option Value} {base : Heap}
theorem scR : FnScope ["_law_script", "_law_k", "_law_cell"] ["_law_script", "_law_k"]
    (defScope sRng) :=
  ⟨rfl, rfl, rfl, by decide +kernel, rfl, by decide +kernel, by decide +kernel⟩
theorem ok_rng {f : Addr} {fd : FuncData} (F : Fun K "_law_rng" "_law_rng" sRng f fd) (T : Txt mg) :
    FnOk P w K mg base CX0 1 f fd ["_law_script", "_law_k"] (spRng K) := by
  refine F.ok scR (fun vs H Q E h => ?_) (fun cdv A outer s H vs Q E hr h => ?_)
  · obtain ⟨a, ns, k, rfl, _⟩ := h
    rfl
  · obtain ⟨a, ns, k, rfl, hS, k0, k1, q⟩ := h
    refine ⟨_, pss_cons (ps_set (i := 2) scR.nd rfl (Or.inl rfl)
        (pe_ifExp (pt_cmpR op_lt (pv 1) (pe_callB call_len_seq (by rfl) T.len PySem.boot_len (pa_cons (pv 0) pa_nil)) (nomark _))
          (pe_callB call_abs (by rfl) T.abs (by decide +kernel) (pa_cons (pe_ix ix_list (pv 0) (pv 1) (fun _ _ => rfl)) pa_nil)) pe_int))
      (pss_one (ps_ret (pe_lst (pa_cons
        (pe_callB (call_max2 rfl) (by rfl) T.max (by decide +kernel) (pa_cons pe_int (pa_cons (pe_op op_sub (pv 2) (pe_op op_pow pe_int pe_int)) pa_nil)))
        (pa_cons (pe_op op_add (pe_op op_mod (pe_op op_pow (pe_op op_add (pe_op op_add (pe_op op_mod (pv 2) pe_int) (pe_op op_mul pe_int (pv 1))) pe_int) pe_int) pe_int) pe_int) pa_nil))))), ?_⟩
    refine ⟨_, rfl, _, rfl, a, _, rfl, .inl hS, _, _, rfl, rfl, _, rfl, ?_⟩
    have fin : ∀ c : Int, 0 ≤ c → ∀ (x y : Int), x = (if c - 10 ^ (18 : Int).toNat > 0 then c - 10 ^ (18 : Int).toNat else 0) →
        y = (c % 2147483543 + 101 * k + 7) ^ (2 : Int).toNat % 2147483497 + 1 → 0 ≤ x ∧ 0 ≤ y ∧ y < 2147483587 := by
      intro c hc x y hx hy
      have e1 := Int.emod_nonneg ((c % 2147483543 + 101 * k + 7) ^ (2 : Int).toNat) (by decide : (2147483497 : Int) ≠ 0)
      have e2 := Int.emod_lt_of_pos ((c % 2147483543 + 101 * k + 7) ^ (2 : Int).toNat) (by decide : (0 : Int) < 2147483497)
      refine ⟨?_, by omega, by omega⟩
      rw [hx]
      split <;> omega
    have tail : ∀ c : Int, 0 ≤ c → ∀ p, H p = none → ∀ (x y : Int), 0 ≤ x ∧ 0 ≤ y ∧ y < 2147483587 → Q (.ref p) (upd H p (.lst [.int x, .int y])) := by
      intro c hc p hp x y hxy
      exact q p _ hp (fun b o e => by rw [upd_ne (ne_of_none e hp)]; exact e) ⟨x, y, upd_same, hxy⟩
    have bnd : ∀ c : Int, (c % 2147483543 + 101 * k + 7).natAbs < 2 ^ 64 := fun c => by
      have e1 := Int.emod_nonneg c (by decide : (2147483543 : Int) ≠ 0)
      have e2 := Int.emod_lt_of_pos c (by decide : (0 : Int) < 2147483543)
      omega
    refine ite2 (fun hlt => ?_) (fun _ => ?_)
    · have hlt' : k < (ns.map V.int).length := of_decide_eq_true hlt
      have hk : k = ((k.toNat : Nat) : Int) := by omega
      have hk2 : k.toNat < ns.length := by rw [List.length_map] at hlt'; omega
      refine ⟨_, rfl, _, rfl, a, _, _, .int (ns[k.toNat]), rfl, rfl, hS, at_in k0 (by simp [hk2]), _, rfl, ?_⟩
      have hc : (0 : Int) ≤ if ns[k.toNat] < 0 then -ns[k.toNat] else ns[k.toNat] := by split <;> omega
      generalize (if ns[k.toNat] < 0 then -ns[k.toNat] else ns[k.toNat]) = c at hc
      refine ⟨_, rfl, _, _, rfl, rfl, ⟨by decide, by decide, by decide⟩, _, _, rfl, rfl, _, _, rfl, ?_⟩
      refine ⟨_, rfl, _, _, rfl, rfl, (by show (0 : Int) < 2147483543; decide), _, rfl, _, _, rfl, rfl, .inl ⟨by decide, by decide⟩, _, _, rfl, rfl, _, _, rfl, rfl, _, _, rfl, rfl, ⟨by decide, by decide, bnd c⟩, _, _, rfl, rfl, (by show (0 : Int) < 2147483497; decide), _, _, rfl, rfl, (by show 2 ≤ sizeLine; decide), fun p hp => ?_⟩
      exact tail c hc p hp _ _ (fin c hc _ _ rfl rfl)
    · refine ⟨_, rfl, _, _, rfl, rfl, ⟨by decide, by decide, by decide⟩, _, _, rfl, rfl, _, _, rfl, ?_⟩
      refine ⟨_, rfl, _, _, rfl, rfl, (by show (0 : Int) < 2147483543; decide), _, rfl, _, _, rfl, rfl, .inl ⟨by decide, by decide⟩, _, _, rfl, rfl, _, _, rfl, rfl, _, _, rfl, rfl, ⟨by decide, by decide, bnd 0⟩, _, _, rfl, rfl, (by show (0 : Int) < 2147483497; decide), _, _, rfl, rfl, (by show 2 ≤ sizeLine; decide), fun p hp => ?_⟩
      exact tail 0 (by decide) p hp _ _ (fin 0 (by decide) _ _ rfl rfl)

theorem scD : FnScope ["_law_rng_here", "_law_many", "_law_digit"] ["_law_rng_here", "_law_many"]
    (defScope sDraw) :=
  ⟨rfl, rfl, rfl, by decide +kernel, rfl, by decide +kernel, by decide +kernel⟩
theorem ok_draw {f : Addr} {fd : FuncData} (F : Fun K "_law_draw" "_law_draw" sDraw f fd) (T : Txt mg) :
    FnOk P w K mg base CX0 1 f fd ["_law_rng_here", "_law_many"] spDraw := by
  refine F.ok scD (fun vs H Q E h => ?_) (fun cdv A outer s H vs Q E hr h => ?_)
  · obtain ⟨r, m, rfl, _⟩ := h
    rfl
  · obtain ⟨r, m, rfl, R, m0, m1, q⟩ := h
    have R' := R
    obtain ⟨a, b, hL, a0, b0, b1⟩ := R
    refine ⟨_, pss_cons (ps_if (pt_cmpR op_gt (pe_ix ix_list (pv 0) pe_int (fun _ _ => rfl)) pe_int (nomark _))
        (pss_cons (ps_asg (pe_callB call_divmodW (by rfl) T.divmod (by decide +kernel) (pa_cons (pe_ix ix_list (pv 0) pe_int (fun _ _ => rfl)) (pa_cons (pv 1) pa_nil)))
            (pg_tup rfl (pgs_cons (pg_sub (pv 0) pe_int set_list) (pgs_cons (pg_name (i := 2) scD.nd rfl (Or.inl rfl)) pgs_nil))))
          (pss_one (ps_ret (pv 2)))) pss_nil)
      (pss_cons (ps_asg (pe_op op_mod (pe_op op_add (pe_op op_mul (pe_ix ix_list (pv 0) pe_int (fun _ _ => rfl)) pe_int) pe_int) pe_int) (pg_sub (pv 0) pe_int set_list))
        (pss_one (ps_ret (pe_op op_mod (pe_op op_fdiv (pe_op op_mod (pe_op op_mul (pe_ix ix_list (pv 0) pe_int (fun _ _ => rfl)) (pe_ix ix_list (pv 0) pe_int (fun _ _ => rfl))) pe_int) pe_int) (pv 1))))), ?_⟩
    refine ⟨_, rfl, r, _, _, _, rfl, rfl, SqL.of hL, rfl, _, _, rfl, rfl, _, rfl, ?_⟩
    refine ite2 (fun hgt => ?_) (fun _ => ?_)
    · refine ⟨_, rfl, r, _, _, _, rfl, rfl, SqL.of hL, rfl, _, rfl, _, _, rfl, ⟨m0, PyProof.noPylong_of_log2 (Nat.lt_of_lt_of_le (PySem.Flt.log2_lt_of (by decide) m1) (by decide))⟩, fun p hp => ?_⟩
      have nrp : r ≠ p := ne_of_none hL hp
      refine ⟨p, _, rfl, SqT.of upd_same, rfl, ?_⟩
      refine ⟨_, _, rfl, _, rfl, r, _, _, _, rfl, rfl, (by rw [upd_ne nrp]; exact hL), rfl, ?_⟩
      refine ⟨_, _, rfl, rfl, _, rfl, ?_⟩
      refine q _ _ ((Ext.new hp).trans Ext.at) ⟨_, _, upd_same, Int.ediv_nonneg a0 (by omega), b0, b1⟩ (Int.emod_nonneg _ (by omega)) (Int.emod_lt_of_pos _ m0)
    · refine ⟨_, rfl, r, _, _, _, rfl, rfl, SqL.of hL, rfl, _, _, rfl, rfl, .inr ⟨by decide, by decide⟩, _, _, rfl, rfl, _, _, rfl, rfl, (by show (0 : Int) < 2147483587; decide), ?_⟩
      refine ⟨_, rfl, r, _, _, _, rfl, rfl, hL, rfl, ?_⟩
      have c0 := Int.emod_nonneg (b * 48271 + 10007) (by decide : (2147483587 : Int) ≠ 0)
      have c1 := Int.emod_lt_of_pos (b * 48271 + 10007) (by decide : (0 : Int) < 2147483587)
      refine ⟨_, rfl, r, _, _, _, rfl, rfl, SqL.of upd_same, rfl, _, rfl, r, _, _, _, rfl, rfl, SqL.of upd_same, rfl, _, _, rfl, rfl, .inl ⟨Int.lt_of_lt_of_le (by decide) c0, Int.lt_trans c1 (by decide)⟩, _, _, rfl, rfl, (by show (0 : Int) < 2147483549; decide), _, _, rfl, rfl, ⟨by decide, by decide⟩, _, rfl, _, _, rfl, rfl, m0, ?_⟩
      exact q _ _ Ext.at ⟨_, _, upd_same, a0, c0, c1⟩ (Int.emod_nonneg _ (by omega)) (Int.emod_lt_of_pos _ m0)

theorem scC : FnScope ["_law_rng_here", "_law_options"] ["_law_rng_here", "_law_options"]
    (defScope sChoice) :=
  ⟨rfl, rfl, rfl, by decide +kernel, rfl, by decide +kernel, by decide +kernel⟩
theorem ok_choice {f fD : Addr} {fd fdD : FuncData} (F : Fun K "_law_choice" "_law_choice" sChoice f fd) (T : Txt mg)
    (D : Fun K "_law_draw" "_law_draw" sDraw fD fdD) (bD : Binds K fdD ["_law_rng_here", "_law_many"] []) (gD : mg "_law_draw" = some (.ref fD)) :
    FnOk P w K mg base CX0 2 f fd ["_law_rng_here", "_law_options"] (spChoice K) := by
  refine F.ok scC (fun vs H Q E h => ?_) (fun cdv A outer s H vs Q E hr h => ?_)
  · obtain ⟨r, l, xs, rfl, _⟩ := h
    rfl
  · obtain ⟨r, l, xs, rfl, R, hl, nl, x0, x1, q⟩ := h
    refine ⟨_, pss_one (ps_ret (pe_ix ix_list (pv 1) (pe_call (ok_draw D T) hr (by rfl) gD D.kp bD .nil pass0 (pa_cons (pv 0) (pa_cons (pe_callB call_len_seq (by rfl) T.len PySem.boot_len (pa_cons (pv 1) pa_nil)) pa_nil))) (fun _ _ => rfl))), ?_⟩
    refine ⟨_, rfl, _, rfl, _, rfl, l, _, rfl, .inl hl, r, _, rfl, R, by omega, by omega, fun d H' E' R' d0 d1 => ?_⟩
    have hd : d = ((d.toNat : Nat) : Int) := by omega
    have hd2 : d.toNat < xs.length := by omega
    refine ⟨l, _, _, xs[d.toNat], rfl, rfl, E'.sqL nl hl, at_in d0 (by simp [hd2]), ?_⟩
    exact q _ _ E' R' (List.getElem_mem _)

theorem scV : FnScope ["value"] ["value"] (defScope sIsVer) :=
  ⟨rfl, rfl, rfl, by decide +kernel, rfl, by decide +kernel, by decide +kernel⟩
theorem ok_ver {f : Addr} {fd : FuncData} (F : Fun K "is_version" "is_version" sIsVer f fd) (T : Txt mg) :
    FnOk P w K mg base CX0 1 f fd ["value"] (spB verB) := by
  refine F.ok scV (fun vs H Q E h => ?_) (fun cdv A outer s H vs Q E hr h => ?_)
  · obtain ⟨v, d, rfl, _⟩ := h
    rfl
  · obtain ⟨v, d, rfl, hd, q0⟩ := h
    refine ⟨_, pss_one (ps_ret (pe_and (pe_callB call_isi (by rfl) T.isi (by decide +kernel) (pa_cons (pv 0) (pa_cons (pe_bltn (v := .ty "int") (by rfl) T.int (by decide +kernel) rfl) pa_nil)))
      (pe_and (pe_not (pe_callB call_isi (by rfl) T.isi (by decide +kernel) (pa_cons (pv 0) (pa_cons (pe_bltn (v := .ty "bool") (by rfl) T.bool (by decide +kernel) rfl) pa_nil))))
        (pe_one (pe_cmpR op_ge (pv 0) pe_int (nomark _)))))), ?_⟩
    have ty := hd.ty (K := K)
    refine ⟨_, rfl, _, _, _, _, _, rfl, .ty _, ty, kInt d, _, rfl, ?_⟩
    cases hd with
    | int i => exact iteT ⟨_, rfl, _, _, _, _, _, rfl, .ty _, ty, kBool _, _, rfl, _, rfl, iteT ⟨_, rfl, _, _, rfl, rfl, q0⟩⟩
    | bl b => exact iteT ⟨_, rfl, _, _, _, _, _, rfl, .ty _, ty, kBool _, _, rfl, _, rfl, iteF q0⟩
    | non => exact iteF q0
    | str i => exact iteF q0
    | lst n h t => exact iteF q0
    | tup h t => exact iteF q0
    | dic h t => exact iteF q0

theorem scRV : FnScope ["value"] ["value"] (defScope sReqVer) :=
  ⟨rfl, rfl, rfl, by decide +kernel, rfl, by decide +kernel, by decide +kernel⟩
theorem ok_reqver {f f1 : Addr} {fd fd1 : FuncData} (F : Fun K "require_version" "require_version" sReqVer f fd) (T : Txt mg)
    (F1 : Fun K "is_version" "is_version" sIsVer f1 fd1) (b1 : Binds K fd1 ["value"] []) (g1 : mg "is_version" = some (.ref f1)) :
    FnOk P w K mg base CX0 2 f fd ["value"] (spReq verB) := by
  have G1 : FnOk P w K mg base CX0 1 f1 fd1 ["value"] (spB verB) := ok_ver F1 T
  refine F.ok scRV (fun vs H Q E h => ?_) (fun cdv A outer s H vs Q E hr h => ?_)
  · obtain ⟨v, d, rfl, _⟩ := h
    rfl
  · obtain ⟨v, d, rfl, hd, hb, q⟩ := h
    refine ⟨_, pss_one (ps_if (pt_not (pt_val (pe_call G1 hr (by rfl) g1 F1.kp b1 .nil pass0 (pa_cons (pv 0) pa_nil)))) pss_never pss_nil), ?_⟩
    refine ⟨_, rfl, v, d, rfl, hd, _, rfl, ?_⟩
    rw [hb]
    exact iteF q

theorem scW : FnScope ["value", "low", "high"] ["value"] (defScope sIsWin) :=
  ⟨rfl, rfl, rfl, by decide +kernel, rfl, by decide +kernel, by decide +kernel⟩
theorem ok_win {f f1 : Addr} {fd fd1 : FuncData} (F : Fun K "is_window" "is_window" sIsWin f fd) (T : Txt mg)
    (F1 : Fun K "is_version" "is_version" sIsVer f1 fd1) (b1 : Binds K fd1 ["value"] []) (g1 : mg "is_version" = some (.ref f1)) :
    FnOk P w K mg base CX0 2 f fd ["value"] (spB winB) := by
  have G1 : FnOk P w K mg base CX0 1 f1 fd1 ["value"] (spB verB) := ok_ver F1 T
  refine F.ok scW (fun vs H Q E h => ?_) (fun cdv A outer s H vs Q E hr h => ?_)
  · obtain ⟨v, d, rfl, _⟩ := h
    rfl
  · obtain ⟨v, d, rfl, hd, q⟩ := h
    refine ⟨_, pss_cons (ps_if (PW.pt (pw_or (pt_not (pt_val (pe_callB call_isi (by rfl) T.isi (by decide +kernel) (pa_cons (pv 0) (pa_cons (pe_bltn (v := .ty "tuple") (by rfl) T.tuple (by decide +kernel) rfl) pa_nil)))))
          (pw_or1 (pt_cmpR op_ne (pe_callB call_len_seq (by rfl) T.len PySem.boot_len (pa_cons (pv 0) pa_nil)) pe_int (nomark _)))))
        (pss_one (ps_ret pe_bl)) pss_nil)
      (pss_cons (ps_asg (pv 0) (pg_tup rfl (pgs_cons (pg_name (i := 1) scW.nd rfl (Or.inl rfl)) (pgs_cons (pg_name (i := 2) scW.nd rfl (Or.inl rfl)) pgs_nil))))
      (pss_cons (ps_if (pt_not (pt_val (pe_call G1 hr (by rfl) g1 F1.kp b1 .nil pass0 (pa_cons (pv 1) pa_nil)))) (pss_one (ps_ret pe_bl)) pss_nil)
      (pss_one (ps_ret (pe_or (pe_cmp (pc_isN (pv 2))) (pe_one (pe_and (pe_call G1 hr (by rfl) g1 F1.kp b1 .nil pass0 (pa_cons (pv 2) pa_nil)) (pe_one (pe_cmpR op_ge (pv 2) (pv 1) (nomark _)))))))))), ?_⟩
    have ty := hd.ty (K := K)
    refine ⟨_, rfl, _, _, _, _, _, rfl, .ty _, ty, kTuple d, _, rfl, ?_⟩
    cases hd with
    | @tup a xs ds h t =>
      refine iteF ?_
      refine ⟨_, rfl, a, _, rfl, .inr (SqT.of h), rfl, _, rfl, ?_⟩
      match xs, ds, t with
      | [x, y], [dx, dy], .cons hx (.cons hy .nil) =>
        refine iteF ?_
        refine ⟨_, rfl, a, _, rfl, SqT.of h, rfl, _, _, rfl, _, _, rfl, rfl, ?_⟩
        refine ⟨_, rfl, x, dx, rfl, hx, _, rfl, ?_⟩
        cases hb : verB dx with
        | false =>
          have e : winB (.tuple [dx, dy]) = false := by simp [winB, hb]
          rw [e] at q
          exact iteT q
        | true =>
          refine iteF ?_
          refine ⟨_, rfl, _, rfl, ?_⟩
          cases hx with
          | int l =>
            cases hy with
            | non => exact iteT (by simpa [winB, hb, isNone] using q)
            | int z =>
              refine iteF ?_
              refine ⟨_, rfl, _, _, rfl, .int z, _, rfl, ?_⟩
              cases hz : verB (.int z) with
              | false =>
                have e : winB (.tuple [.int l, .int z]) = false := by simp [winB, hz, isNone]
                rw [e] at q
                exact iteF q
              | true =>
                refine iteT ⟨_, rfl, _, rfl, _, _, rfl, rfl, ?_⟩
                have e : winB (.tuple [.int l, .int z]) = decide (z ≥ l) := by simp [winB, hb, hz, isNone, geB]
                rw [e] at q
                exact q
            | bl z => exact iteF ⟨_, rfl, _, _, rfl, .bl z, _, rfl, iteF (by simpa [winB, verB, isNone] using q)⟩
            | str z => exact iteF ⟨_, rfl, _, _, rfl, .str z, _, rfl, iteF (by simpa [winB, verB, isNone] using q)⟩
            | lst n2 h2 t2 => exact iteF ⟨_, rfl, _, _, rfl, .lst n2 h2 t2, _, rfl, iteF (by simpa [winB, verB, isNone] using q)⟩
            | tup h2 t2 => exact iteF ⟨_, rfl, _, _, rfl, .tup h2 t2, _, rfl, iteF (by simpa [winB, verB, isNone] using q)⟩
            | dic h2 t2 => exact iteF ⟨_, rfl, _, _, rfl, .dic h2 t2, _, rfl, iteF (by simpa [winB, verB, isNone] using q)⟩
          | _ => simp [verB] at hb
      | [], [], .nil => exact iteT q
      | [x], [dx], .cons hx .nil => exact iteT q
      | x :: y :: z :: r, dx :: dy :: dz :: dr, .cons hx (.cons hy (.cons hz t)) =>
        have e : decide (V.int ((x :: y :: z :: r).length : Nat) = V.int 2) = false := by
          apply decide_eq_false
          intro z
          have := V.int.inj z
          simp only [List.length_cons] at this
          omega
        rw [e]
        exact iteT q
    | int i => exact iteT q
    | bl b => exact iteT q
    | non => exact iteT q
    | str i => exact iteT q
    | lst n h t => exact iteT q
    | dic h t => exact iteT q

theorem scRW : FnScope ["value"] ["value"] (defScope sReqWin) :=
  ⟨rfl, rfl, rfl, by decide +kernel, rfl, by decide +kernel, by decide +kernel⟩
theorem ok_reqwin {f f1 : Addr} {fd fd1 : FuncData} (F : Fun K "require_window" "require_window" sReqWin f fd)
    (F1 : Fun K "is_window" "is_window" sIsWin f1 fd1) (G1 : FnOk P w K mg base CX0 2 f1 fd1 ["value"] (spB winB)) (b1 : Binds K fd1 ["value"] []) (g1 : mg "is_window" = some (.ref f1)) :
    FnOk P w K mg base CX0 3 f fd ["value"] (spReq winB) := by
  refine F.ok scRW (fun vs H Q E h => ?_) (fun cdv A outer s H vs Q E hr h => ?_)
  · obtain ⟨v, d, rfl, _⟩ := h
    rfl
  · obtain ⟨v, d, rfl, hd, hb, q⟩ := h
    refine ⟨_, pss_one (ps_if (pt_not (pt_val (pe_call G1 hr (by rfl) g1 F1.kp b1 .nil pass0 (pa_cons (pv 0) pa_nil)))) pss_never pss_nil), ?_⟩
    refine ⟨_, rfl, v, d, rfl, hd, _, rfl, ?_⟩
    rw [hb]
    exact iteF q

theorem scQ : FnScope ["high", "version"] ["high", "version"] (defScope sReach) :=
  ⟨rfl, rfl, rfl, by decide +kernel, rfl, by decide +kernel, by decide +kernel⟩
theorem ok_reach {f : Addr} {fd : FuncData} (F : Fun K "reaches" "reaches" sReach f fd) :
    FnOk P w K mg base CX0 1 f fd ["high", "version"] spReach := by
  refine F.ok scQ (fun vs H Q E h => ?_) (fun cdv A outer s H vs Q E hr h => ?_)
  · obtain ⟨h, n, rfl, _⟩ := h
    rfl
  · obtain ⟨h, n, rfl, q⟩ := h
    refine ⟨_, pss_one (ps_ret (pe_or (pe_cmp (pc_isN (pv 0))) (pe_one (pe_cmpR op_ge (pv 0) (pv 1) (nomark _))))), ?_⟩
    refine ⟨_, rfl, _, rfl, ?_⟩
    cases h with
    | none => exact iteT q
    | some x => exact iteF ⟨_, rfl, _, rfl, _, _, rfl, rfl, q⟩

theorem scK : FnScope ["window", "version", "low", "high"] ["window", "version"] (defScope sCont) :=
  ⟨rfl, rfl, rfl, by decide +kernel, rfl, by decide +kernel, by decide +kernel⟩
theorem ok_cont {f f1 f2 f3 : Addr} {fd fd1 fd2 fd3 : FuncData} (F : Fun K "contains" "contains" sCont f fd)
    (G1 : FnOk P w K mg base CX0 3 f1 fd1 ["value"] (spReq winB)) (k1 : PySem.W.keepIn K (.ref f1) = true) (b1 : Binds K fd1 ["value"] []) (g1 : mg "require_window" = some (.ref f1))
    (G2 : FnOk P w K mg base CX0 2 f2 fd2 ["value"] (spReq verB)) (k2 : PySem.W.keepIn K (.ref f2) = true) (b2 : Binds K fd2 ["value"] []) (g2 : mg "require_version" = some (.ref f2))
    (G3 : FnOk P w K mg base CX0 1 f3 fd3 ["high", "version"] spReach) (k3 : PySem.W.keepIn K (.ref f3) = true) (b3 : Binds K fd3 ["high", "version"] []) (g3 : mg "reaches" = some (.ref f3)) :
    FnOk P w K mg base CX0 4 f fd ["window", "version"] spCont := by
  refine F.ok scK (fun vs H Q E h => ?_) (fun cdv A outer s H vs Q E hr h => ?_)
  · obtain ⟨t, w, B, n, rfl, _⟩ := h
    rfl
  · obtain ⟨t, w, B, n, rfl, hw, ok, n0, q⟩ := h
    have hr1 : Room 1 _ := hr.mono (by decide)
    have hr2 : Room 2 _ := hr.mono (by decide)
    refine ⟨_, pss_cons (ps_expr (pe_call G1 hr (by rfl) g1 k1 b1 .nil pass0 (pa_cons (pv 0) pa_nil)))
      (pss_cons (ps_expr (pe_call G2 hr2 (by rfl) g2 k2 b2 .nil pass0 (pa_cons (pv 1) pa_nil)))
      (pss_cons (ps_asg (pv 0) (pg_tup rfl (pgs_cons (pg_name (i := 2) scK.nd rfl (Or.inl rfl)) (pgs_cons (pg_name (i := 3) scK.nd rfl (Or.inl rfl)) pgs_nil))))
      (pss_one (ps_ret (pe_and (pe_cmpR op_le (pv 2) (pv 1) (nomark _)) (pe_one (pe_call G3 hr1 (by rfl) g3 k3 b3 .nil pass0 (pa_cons (pv 3) (pa_cons (pv 1) pa_nil))))))))), ?_⟩
    refine ⟨_, rfl, _, _, rfl, hw.da, ok.win, ?_⟩
    refine ⟨_, rfl, _, _, rfl, .int n, by simp [verB, n0], ?_⟩
    refine ⟨_, rfl, t, _, rfl, SqT.of hw, rfl, _, _, rfl, _, _, rfl, rfl, ?_⟩
    refine ⟨_, rfl, _, rfl, _, _, rfl, rfl, _, rfl, ?_⟩
    by_cases e : w.1 ≤ n
    · rw [decide_eq_true e]
      refine iteT ⟨_, rfl, _, rfl, w.2, n, rfl, ?_⟩
      have e2 : contW w n = reach w.2 n := by simp [contW, e]
      rw [e2] at q
      exact q
    · rw [decide_eq_false e]
      have e2 : contW w n = false := by simp [contW, e]
      rw [e2] at q
      exact iteF q

theorem scH : FnScope ["first", "second", "first_low", "first_high", "second_low", "second_high"] ["first", "second"] (defScope sRises) :=
  ⟨rfl, rfl, rfl, by decide +kernel, rfl, by decide +kernel, by decide +kernel⟩
theorem ok_rises {f f1 f3 : Addr} {fd fd1 fd3 : FuncData} (F : Fun K "rises" "rises" sRises f fd)
    (G1 : FnOk P w K mg base CX0 3 f1 fd1 ["value"] (spReq winB)) (k1 : PySem.W.keepIn K (.ref f1) = true) (b1 : Binds K fd1 ["value"] []) (g1 : mg "require_window" = some (.ref f1))
    (G3 : FnOk P w K mg base CX0 1 f3 fd3 ["high", "version"] spReach) (k3 : PySem.W.keepIn K (.ref f3) = true) (b3 : Binds K fd3 ["high", "version"] []) (g3 : mg "reaches" = some (.ref f3)) :
    FnOk P w K mg base CX0 4 f fd ["first", "second"] spRises := by
  refine F.ok scH (fun vs H Q E h => ?_) (fun cdv A outer s H vs Q E hr h => ?_)
  · obtain ⟨t, u, a, b, B, rfl, _⟩ := h
    rfl
  · obtain ⟨t, u, a, b, B, rfl, ha, hb, oa, ob, q⟩ := h
    have hr1 : Room 1 _ := hr.mono (by decide)
    refine ⟨_, pss_cons (ps_expr (pe_call G1 hr (by rfl) g1 k1 b1 .nil pass0 (pa_cons (pv 0) pa_nil)))
      (pss_cons (ps_expr (pe_call G1 hr (by rfl) g1 k1 b1 .nil pass0 (pa_cons (pv 1) pa_nil)))
      (pss_cons (ps_asg (pv 0) (pg_tup rfl (pgs_cons (pg_name (i := 2) scH.nd rfl (Or.inl rfl)) (pgs_cons (pg_name (i := 3) scH.nd rfl (Or.inl rfl)) pgs_nil))))
      (pss_cons (ps_asg (pv 1) (pg_tup rfl (pgs_cons (pg_name (i := 4) scH.nd rfl (Or.inl rfl)) (pgs_cons (pg_name (i := 5) scH.nd rfl (Or.inl rfl)) pgs_nil))))
      (pss_cons (ps_if (pt_cmpR op_lt (pv 4) (pv 2) (nomark _)) (pss_one (ps_ret pe_bl)) pss_nil)
      (pss_cons (ps_if (pt_cmp (pc_isN (pv 3))) (pss_one (ps_ret (pe_cmp (pc_isN (pv 5))))) pss_nil)
      (pss_one (ps_ret (pe_call G3 hr1 (by rfl) g3 k3 b3 .nil pass0 (pa_cons (pv 5) (pa_cons (pv 3) pa_nil)))))))))), ?_⟩
    refine ⟨_, rfl, _, _, rfl, ha.da, oa.win, ?_⟩
    refine ⟨_, rfl, _, _, rfl, hb.da, ob.win, ?_⟩
    refine ⟨_, rfl, t, _, rfl, SqT.of ha, rfl, _, _, rfl, _, _, rfl, rfl, ?_⟩
    refine ⟨_, rfl, u, _, rfl, SqT.of hb, rfl, _, _, rfl, _, _, rfl, rfl, ?_⟩
    refine ⟨_, rfl, _, rfl, _, _, rfl, rfl, _, rfl, ?_⟩
    by_cases e : b.1 < a.1
    · rw [decide_eq_true e]
      have e2 : risesW a b = false := by simp [risesW, e]
      rw [e2] at q
      exact iteT q
    · rw [decide_eq_false e]
      refine iteF ?_
      refine ⟨_, rfl, _, rfl, ?_⟩
      obtain ⟨al, ah⟩ := a
      obtain ⟨bl, bh⟩ := b
      cases ah with
      | none =>
        refine iteT ⟨_, rfl, ?_⟩
        have e2 : risesW (al, none) (bl, bh) = decide (hV bh = .non) := by
          have e' : ¬ bl < al := e
          cases bh <;> simp [risesW, e', hV]
        rw [e2] at q
        exact q
      | some x =>
        refine iteF ⟨_, rfl, _, rfl, bh, x, rfl, ?_⟩
        have e2 : risesW (al, some x) (bl, bh) = reach bh x := by
          have e' : ¬ bl < al := e
          simp [risesW, e']
        rw [e2] at q
        exact q
end
end N3
namespace N3
open PySem L2 G
theorem pr_get {α β : Type} {R : α → β → Prop} : ∀ {xs : List α} {ys : List β} {i : Nat} {x : α},
    Paired R xs ys → xs[i]? = some x → ∃ y, ys[i]? = some y ∧ R x y
  | _, _, _, _, .nil, e => by simp at e
  | _, _, 0, _, .cons r _, e => by simp at e; subst e; exact ⟨_, rfl, r⟩
  | _, _, i + 1, x, .cons _ t, e => by
    obtain ⟨y, h1, h2⟩ := pr_get (i := i) (x := x) t (by simpa using e)
    exact ⟨y, by simpa using h1, h2⟩
theorem pr_len {α β : Type} {R : α → β → Prop} {xs : List α} {ys : List β} (h : Paired R xs ys) : xs.length = ys.length :=
  Paired.length h
theorem pr_snoc {α β : Type} {R : α → β → Prop} : ∀ {xs : List α} {ys : List β} {x : α} {y : β},
    Paired R xs ys → R x y → Paired R (xs ++ [x]) (ys ++ [y])
  | _, _, _, _, .nil, r => .cons r .nil
  | _, _, _, _, .cons q t, r => .cons q (pr_snoc t r)
theorem WsAt.same {H H' : Hp} {a : Addr} {ts : List Addr} {ws : List Wn} (h : WsAt H a ts ws) (s : Same H H') : WsAt H' a ts ws :=
  ⟨s _ _ h.1, Paired.mapP h.2 fun _ _ q => s _ _ q⟩
theorem WinAt.ne {H : Hp} {t r : Addr} {w : Wn} (h : WinAt H t w) (R : Rng H r) : t ≠ r :=
  R.ne h fun _ _ z => by cases z
theorem WsAt.ext {H H' : Hp} {a r : Addr} {ts : List Addr} {ws : List Wn} (h : WsAt H a ts ws) (R : Rng H r) (n : a ≠ r) (s : Ext r H H') : WsAt H' a ts ws :=
  ⟨s _ _ n h.1, Paired.mapP h.2 fun _ _ q => s _ _ (q.ne R) q⟩
theorem WsAt.at {H : Hp} {a : Addr} {ts : List Addr} {ws : List Wn} (h : WsAt H a ts ws) {i : Nat} (hi : i < ws.length) :
    ∃ t, (ts.map V.ref)[i]? = some (.ref t) ∧ WinAt H t ws[i] := by
  have hl := pr_len h.2
  have e : ts[i]? = some ts[i] := by simp [hl, hi]
  obtain ⟨w, h1, h2⟩ := pr_get h.2 e
  have e2 : ws[i]? = some ws[i] := by simp [hi]
  rw [e2] at h1
  cases h1
  exact ⟨ts[i], by simp [hl, hi], h2⟩
theorem WsAt.ref {H : Hp} {a : Addr} {ts : List Addr} {ws : List Wn} (h : WsAt H a ts ws) {i : Nat} {x : V} (e : (ts.map V.ref)[i]? = some x) :
    ∃ t w, x = .ref t ∧ ws[i]? = some w ∧ WinAt H t w := by
  rw [List.getElem?_map] at e
  cases q : ts[i]? with
  | none => rw [q] at e; cases e
  | some t =>
    rw [q] at e
    obtain ⟨w, h1, h2⟩ := pr_get h.2 q
    exact ⟨t, w, (Option.some.inj e).symm, h1, h2⟩

/-! ### the first place at which a list of truths is true -/
def at' (bs : List Bool) (k : Nat) : Bool := bs.getD k false
def fIdx (bs : List Bool) : Option Nat := (List.range bs.length).find? (at' bs)
theorem fIdx_some {bs : List Bool} {i : Nat} (h : at' bs i = true) (n : ∀ j < i, at' bs j = false) : fIdx bs = some i := by
  have hi : i < bs.length := by
    by_cases q : i < bs.length
    · exact q
    · rw [at', List.getD_eq_getElem?_getD, List.getElem?_eq_none (by omega)] at h
      cases h
  unfold fIdx
  rw [List.find?_range_eq_some]
  exact ⟨h, by simp [hi], fun j hj => by simp [n j hj]⟩
theorem fIdx_none {bs : List Bool} (n : ∀ j < bs.length, at' bs j = false) : fIdx bs = none := by
  unfold fIdx
  rw [List.find?_eq_none]
  intro j hj
  simp [n j (List.mem_range.mp hj)]
def fV : Option Nat → V
  | none => .non
  | some n => .int n
def fD : Option Nat → PyData
  | none => .none
  | some n => .int n
theorem fDa {H : Hp} : ∀ o : Option Nat, Da H (fV o) (fD o)
  | none => .non
  | some _ => .int _
def falls (ws : List Wn) : List Bool := (ws.zip ws.tail).map fun p => !risesW p.1 p.2
def firstFall (ws : List Wn) : Option Nat := (fIdx (falls ws)).map (· + 1)
theorem falls_len (ws : List Wn) : (falls ws).length = ws.length - 1 := by simp [falls]
theorem falls_at {ws : List Wn} {j : Nat} {x y : Wn} (h1 : ws[j]? = some x) (h2 : ws[j + 1]? = some y) : at' (falls ws) j = !risesW x y := by
  have e : (ws.zip ws.tail)[j]? = some (x, y) := by
    rw [List.getElem?_zip_eq_some]
    refine ⟨h1, ?_⟩
    rw [List.getElem?_tail]
    exact h2
  unfold at' falls
  rw [List.getD_eq_getElem?_getD, List.getElem?_map, e]
  rfl

def spReqWs : Sp := fun vs H Q _ => ∃ (a : Addr) (ts : List Addr) (ws : List Wn) (B : Int), vs = [.ref a] ∧ WsAt H a ts ws ∧
  (∀ w ∈ ws, Wok B w) ∧ ∀ H', Same H H' → Q .non H'
def spFall : Sp := fun vs H Q _ => ∃ (a : Addr) (ts : List Addr) (ws : List Wn) (B : Int), vs = [.ref a] ∧ WsAt H a ts ws ∧
  (∀ w ∈ ws, Wok B w) ∧ ws.length ≤ 1000 ∧ ∀ H', Same H H' → Q (fV (firstFall ws)) H'
def leastW (ws : List Wn) (n : Int) : Option Nat := fIdx (ws.map fun w => reach w.2 n)
def spLeast : Sp := fun vs H Q _ => ∃ (a : Addr) (ts : List Addr) (ws : List Wn) (B n : Int), vs = [.ref a, .int n] ∧ WsAt H a ts ws ∧
  (∀ w ∈ ws, Wok B w) ∧ ws.length ≤ 1000 ∧ firstFall ws = none ∧ 0 ≤ n ∧ ∀ H', Same H H' → Q (fV (leastW ws n)) H'
def topI (w : Wn) : Int := match w.2 with
  | none => 10 ^ (64 : Int).toNat
  | some x => x
def spTop : Sp := fun vs H Q _ => ∃ (t : Addr) (w : Wn), vs = [.ref t] ∧ WinAt H t w ∧ Q (.int (topI w)) H
def fallsW (a b : Wn) : Bool := decide (b.1 < a.1) || decide (topI b < topI a)
def spFalls : Sp := fun vs H Q _ => ∃ (t u : Addr) (a b : Wn), vs = [.ref t, .ref u] ∧ WinAt H t a ∧ WinAt H u b ∧ Q (.bl (fallsW a b)) H
def spFirst (K : PySem.W.Frag) : Sp := fun vs H Q _ => ∃ (a : Addr) (bs : List Bool), vs = [.ref a] ∧ SqL K H a (bs.map V.bl) ∧ bs.length ≤ 1000 ∧
  ∀ H', Same H H' → Q (fV (fIdx bs)) H'
def mv (f : Int) (w : Wn) : Wn := (w.1 + f, w.2.map (· + f))
def spMoved : Sp := fun vs H Q _ => ∃ (a : Addr) (ts : List Addr) (ws : List Wn) (f : Int), vs = [.ref a, .int f] ∧ WsAt H a ts ws ∧ ws.length ≤ 1000 ∧
  ∀ (p : Addr) (us : List Addr) (H' : Hp), H p = none → Same H H' → WsAt H' p us (ws.map (mv f)) → Q (.ref p) H'

section
variable {P : Program} {w : World} {K : PySem.W.Frag} {mg : Str → Option Value} {base : Heap}
theorem scRS : FnScope ["value", "position", "item"] ["value"] (defScope sReqWins) :=
  ⟨rfl, rfl, rfl, by decide +kernel, rfl, by decide +kernel, by decide +kernel⟩
theorem ok_reqws {f f1 : Addr} {fd fd1 : FuncData} (F : Fun K "require_windows" "require_windows" sReqWins f fd) (T : Txt mg)
    (G1 : FnOk P w K mg base CX0 2 f1 fd1 ["value"] (spB winB)) (k1 : PySem.W.keepIn K (.ref f1) = true) (b1 : Binds K fd1 ["value"] []) (g1 : mg "is_window" = some (.ref f1)) :
    FnOk P w K mg base CX0 3 f fd ["value"] spReqWs := by
  refine F.ok scRS (fun vs H Q E h => ?_) (fun cdv A outer s H vs Q E hr h => ?_)
  · obtain ⟨a, ts, ws, B, rfl, _⟩ := h
    rfl
  · obtain ⟨a, ts, ws, B, rfl, hw, ok, q⟩ := h
    refine ⟨_, pss_cons (ps_if (pt_not (pt_val (pe_callB call_isi (by rfl) T.isi (by decide +kernel) (pa_cons (pv 0) (pa_cons (pe_bltn (v := .ty "list") (by rfl) T.list (by decide +kernel) rfl) pa_nil))))) pss_never pss_nil)
      (pss_one (ps_for PassesOwn.never rfl (pi_enum (by rfl) T.enum (pa_cons (pv 0) pa_nil)) (pg_tup rfl (pgs_cons (pg_name (i := 1) scRS.nd rfl (Or.inl rfl)) (pgs_cons (pg_name (i := 2) scRS.nd rfl (Or.inl rfl)) pgs_nil)))
        (pss_one (ps_if (pt_not (pt_val (pe_call G1 hr (by rfl) g1 k1 b1 .nil pass0 (pa_cons (pv 2) pa_nil)))) pss_never pss_nil)))), ?_⟩
    refine ⟨_, rfl, _, _, _, _, _, rfl, .ty _, .base (.lst hw.1), kit_ty (a := "list") (b := "list") (r := true) (by decide +kernel), _, rfl, ?_⟩
    refine iteF ?_
    refine ⟨_, rfl, a, _, rfl, SqL.of hw.1, ?_⟩
    refine for_it walk_enum (fun i σ J => ∃ c1 c2, σ = [some (.ref a), c1, c2] ∧ Same H J) ⟨_, _, rfl, Same.refl _⟩ (fun i σ J _ ⟨_, _, _, e⟩ => SqL.of (e _ _ hw.1)) ?_ ?_
    · rintro i x σ J J' hi ⟨c1, c2, rfl, e⟩ ⟨t, z, y, rfl, ht, rfl, _, hy⟩
      obtain ⟨u, ww, rfl, h1, h2⟩ := hw.ref hy
      refine ⟨t, _, rfl, SqT.of upd_same, rfl, _, _, rfl, _, _, rfl, rfl, ?_⟩
      have e2 := e.trans (new_same (o := .tup [z, .ref u]) ht)
      have h3 : WinAt (upd J t (.tup [z, .ref u])) u ww := e2 _ _ h2
      refine ⟨_, rfl, _, _, rfl, h3.da, _, rfl, ?_⟩
      rw [(ok ww (List.mem_of_getElem? h1)).win]
      exact iteF ⟨_, _, rfl, e2⟩
    · rintro σ J ⟨c1, c2, rfl, e⟩
      exact q J e

theorem scF : FnScope ["windows", "position"] ["windows"] (defScope sFall) :=
  ⟨rfl, rfl, rfl, by decide +kernel, rfl, by decide +kernel, by decide +kernel⟩
theorem ok_fall {f f1 f2 : Addr} {fd fd1 fd2 : FuncData} (F : Fun K "first_falling" "first_falling" sFall f fd) (T : Txt mg)
    (G1 : FnOk P w K mg base CX0 3 f1 fd1 ["value"] spReqWs) (k1 : PySem.W.keepIn K (.ref f1) = true) (b1 : Binds K fd1 ["value"] []) (g1 : mg "require_windows" = some (.ref f1))
    (G2 : FnOk P w K mg base CX0 4 f2 fd2 ["first", "second"] spRises) (k2 : PySem.W.keepIn K (.ref f2) = true) (b2 : Binds K fd2 ["first", "second"] []) (g2 : mg "rises" = some (.ref f2)) :
    FnOk P w K mg base CX0 5 f fd ["windows"] spFall := by
  refine F.ok scF (fun vs H Q E h => ?_) (fun cdv A outer s H vs Q E hr h => ?_)
  · obtain ⟨a, ts, ws, B, rfl, _⟩ := h
    rfl
  · obtain ⟨a, ts, ws, B, rfl, hw, ok, hl, q⟩ := h
    have hr3 : Room 3 _ := hr.mono (by decide)
    refine ⟨_, pss_cons (ps_expr (pe_call G1 hr3 (by rfl) g1 k1 b1 .nil pass0 (pa_cons (pv 0) pa_nil)))
      (pss_cons (ps_for PassesOwn.never rfl (pi_range2 (by rfl) T.range (pa_cons pe_int (pa_cons (pe_callB call_len_seq (by rfl) T.len PySem.boot_len (pa_cons (pv 0) pa_nil)) pa_nil))) (pg_name (i := 1) scF.nd rfl (Or.inl rfl))
        (pss_one (ps_if (pt_not (pt_val (pe_call G2 hr (by rfl) g2 k2 b2 .nil pass0 (pa_cons (pe_ix ix_list (pv 0) (pe_op op_sub (pv 1) pe_int) (fun _ _ => rfl)) (pa_cons (pe_ix ix_list (pv 0) (pv 1) (fun _ _ => rfl)) pa_nil))))) (pss_one (ps_ret (pv 1))) pss_nil)))
      (pss_one (ps_ret pe_non))), ?_⟩
    refine ⟨_, rfl, a, ts, ws, B, rfl, hw, ok, fun H1 S1 => ?_⟩
    have hw1 := hw.same S1
    have hl2 : (ts.map V.ref).length = ws.length := by rw [List.length_map]; exact pr_len hw.2
    refine ⟨_, rfl, a, _, rfl, .inl (SqL.of hw1.1), _, _, rfl, ⟨by decide, by decide, by omega, by omega⟩, ?_⟩
    refine for_range (lo := 1) (n := (((ts.map V.ref).length : Int) - 1).toNat) (fun i σ J => ∃ c1, σ = [some (.ref a), c1] ∧ Same H J ∧ ∀ j < i, at' (falls ws) j = false) ⟨_, rfl, S1, fun _ z => absurd z (Nat.not_lt_zero _)⟩ ?_ ?_
    · rintro i σ J hi ⟨c1, rfl, e, inv⟩
      have hw2 := hw.same e
      have i1 : i + 1 < ws.length := by omega
      obtain ⟨t, et, wt⟩ := hw2.at (i := i) (by omega)
      obtain ⟨u, eu, wu⟩ := hw2.at i1
      refine ⟨_, rfl, _, rfl, _, _, rfl, rfl, a, _, _, .ref t, rfl, rfl, SqL.of hw2.1, at_in (by omega) (by rw [show ((1 + (i : Int)) - 1).toNat = i by omega]; exact et), ?_⟩
      refine ⟨_, rfl, _, rfl, a, _, _, .ref u, rfl, rfl, SqL.of hw2.1, at_in (by omega) (by rw [show (1 + (i : Int)).toNat = i + 1 by omega]; exact eu), ?_⟩
      refine ⟨t, u, _, _, B, rfl, wt, wu, ok _ (List.getElem_mem _), ok _ (List.getElem_mem _), _, rfl, ?_⟩
      have fa := falls_at (ws := ws) (j := i) (x := ws[i]) (y := ws[i + 1]) (by simp) (by simp [i1])
      cases hb : risesW ws[i] ws[i + 1] with
      | true =>
        refine iteF ⟨_, rfl, e, fun j hj => ?_⟩
        by_cases hj2 : j < i
        · exact inv j hj2
        · rw [show j = i by omega, fa, hb]
          rfl
      | false =>
        refine iteT ⟨_, rfl, ?_⟩
        have e2 : firstFall ws = some (i + 1) := by
          unfold firstFall
          rw [fIdx_some (i := i) (by rw [fa, hb]; rfl) inv]
          rfl
        have q2 := q J e
        rw [e2] at q2
        have e3 : (1 + (i : Int)) = ((i + 1 : Nat) : Int) := by omega
        show Q (.int (1 + (i : Int))) J
        rw [e3]
        exact q2
    · rintro σ J ⟨c1, rfl, e, inv⟩
      have e2 : firstFall ws = none := by
        unfold firstFall
        rw [fIdx_none fun j hj => inv j (by rw [falls_len] at hj; omega)]
        rfl
      have q2 := q J e
      rw [e2] at q2
      exact q2

theorem scE : FnScope ["windows", "version", "falling", "position", "window"] ["windows", "version"] (defScope sLeast) :=
  ⟨rfl, rfl, rfl, by decide +kernel, rfl, by decide +kernel, by decide +kernel⟩
theorem ok_least {f f1 f2 f3 : Addr} {fd fd1 fd2 fd3 : FuncData} (F : Fun K "least_reaching" "least_reaching" sLeast f fd) (T : Txt mg)
    (G1 : FnOk P w K mg base CX0 5 f1 fd1 ["windows"] spFall) (k1 : PySem.W.keepIn K (.ref f1) = true) (b1 : Binds K fd1 ["windows"] []) (g1 : mg "first_falling" = some (.ref f1))
    (G2 : FnOk P w K mg base CX0 2 f2 fd2 ["value"] (spReq verB)) (k2 : PySem.W.keepIn K (.ref f2) = true) (b2 : Binds K fd2 ["value"] []) (g2 : mg "require_version" = some (.ref f2))
    (G3 : FnOk P w K mg base CX0 1 f3 fd3 ["high", "version"] spReach) (k3 : PySem.W.keepIn K (.ref f3) = true) (b3 : Binds K fd3 ["high", "version"] []) (g3 : mg "reaches" = some (.ref f3)) :
    FnOk P w K mg base CX0 6 f fd ["windows", "version"] spLeast := by
  refine F.ok scE (fun vs H Q E h => ?_) (fun cdv A outer s H vs Q E hr h => ?_)
  · obtain ⟨a, ts, ws, B, n, rfl, _⟩ := h
    rfl
  · obtain ⟨a, ts, ws, B, n, rfl, hw, ok, hl, ff, n0, q⟩ := h
    have hr2 : Room 2 _ := hr.mono (by decide)
    have hr1 : Room 1 _ := hr.mono (by decide)
    refine ⟨_, pss_cons (ps_set (i := 2) scE.nd rfl (Or.inl rfl) (pe_call G1 hr (by rfl) g1 k1 b1 .nil pass0 (pa_cons (pv 0) pa_nil)))
      (pss_cons (ps_if (pt_cmp (pc_notN (pv 2))) pss_never pss_nil)
      (pss_cons (ps_expr (pe_call G2 hr2 (by rfl) g2 k2 b2 .nil pass0 (pa_cons (pv 1) pa_nil)))
      (pss_cons (ps_for PassesOwn.never rfl (pi_enum (by rfl) T.enum (pa_cons (pv 0) pa_nil)) (pg_tup rfl (pgs_cons (pg_name (i := 3) scE.nd rfl (Or.inl rfl)) (pgs_cons (pg_name (i := 4) scE.nd rfl (Or.inl rfl)) pgs_nil)))
        (pss_one (ps_if (pt_val (pe_call G3 hr1 (by rfl) g3 k3 b3 .nil pass0 (pa_cons (pe_ix ix_tup (pv 4) pe_int (fun _ _ => rfl)) (pa_cons (pv 1) pa_nil)))) (pss_one (ps_ret (pv 3))) pss_nil)))
      (pss_one (ps_ret pe_non))))), ?_⟩
    refine ⟨_, rfl, a, ts, ws, B, rfl, hw, ok, hl, fun H1 S1 => ?_⟩
    rw [ff]
    refine ⟨_, rfl, _, rfl, ?_⟩
    refine iteF ?_
    refine ⟨_, rfl, _, _, rfl, .int n, by simp [verB, n0], ?_⟩
    have hw1 := hw.same S1
    refine ⟨_, rfl, a, _, rfl, SqL.of hw1.1, ?_⟩
    refine for_it walk_enum (fun i σ J => ∃ c1 c2, σ = [some (.ref a), some (.int n), some .non, c1, c2] ∧ Same H J ∧ ∀ j < i, at' (ws.map fun w => reach w.2 n) j = false)
      ⟨_, _, rfl, S1, fun _ z => absurd z (Nat.not_lt_zero _)⟩ (fun i σ J _ ⟨_, _, _, e, _⟩ => SqL.of (e _ _ hw.1)) ?_ ?_
    · rintro i x σ J J' hi ⟨c1, c2, rfl, e, inv⟩ ⟨t, z, y, rfl, ht, rfl, hz, hy⟩
      obtain rfl : z = .int (i : Nat) := (Option.some.inj hz).symm
      obtain ⟨u, ww, rfl, h1, h2⟩ := hw.ref hy
      refine ⟨t, _, rfl, SqT.of upd_same, rfl, _, _, rfl, _, _, rfl, rfl, ?_⟩
      have e2 := e.trans (new_same (o := .tup [.int (i : Nat), .ref u]) ht)
      have h3 : WinAt (upd J t (.tup [.int (i : Nat), .ref u])) u ww := e2 _ _ h2
      refine ⟨_, rfl, u, _, _, _, rfl, rfl, SqT.of h3, rfl, _, rfl, ww.2, n, rfl, _, rfl, ?_⟩
      have fa : at' (ws.map fun w => reach w.2 n) i = reach ww.2 n := by
        unfold at'
        rw [List.getD_eq_getElem?_getD, List.getElem?_map, h1]
        rfl
      cases hb : reach ww.2 n with
      | false =>
        refine iteF ⟨_, _, rfl, e2, fun j hj => ?_⟩
        by_cases hj2 : j < i
        · exact inv j hj2
        · rw [show j = i by omega, fa, hb]
      | true =>
        refine iteT ⟨_, rfl, ?_⟩
        have e3 : leastW ws n = some i := fIdx_some (by rw [fa, hb]) inv
        have q2 := q _ e2
        rw [e3] at q2
        exact q2
    · rintro σ J ⟨c1, c2, rfl, e, inv⟩
      have e3 : leastW ws n = none := fIdx_none fun j hj => inv j (by simpa [pr_len hw.2] using hj)
      have q2 := q J e
      rw [e3] at q2
      exact q2

theorem scTo : FnScope ["_law_one"] ["_law_one"] (defScope sTop) :=
  ⟨rfl, rfl, rfl, by decide +kernel, rfl, by decide +kernel, by decide +kernel⟩
theorem ok_top {f : Addr} {fd : FuncData} (F : Fun K "_law_top" "_law_top" sTop f fd) :
    FnOk P w K mg base CX0 1 f fd ["_law_one"] spTop := by
  refine F.ok scTo (fun vs H Q E h => ?_) (fun cdv A outer s H vs Q E hr h => ?_)
  · obtain ⟨t, w, rfl, _⟩ := h
    rfl
  · obtain ⟨t, ⟨l, h⟩, rfl, hw, q⟩ := h
    refine ⟨_, pss_one (ps_ret (pe_ifExp (pt_cmp (pc_isN (pe_ix ix_tup (pv 0) pe_int (fun _ _ => rfl)))) (pe_op op_pow pe_int pe_int) (pe_ix ix_tup (pv 0) pe_int (fun _ _ => rfl)))), ?_⟩
    refine ⟨_, rfl, t, _, _, _, rfl, rfl, SqT.of hw, rfl, _, rfl, ?_⟩
    cases h with
    | none => exact iteT ⟨_, _, rfl, rfl, ⟨by decide, by decide, by decide⟩, q⟩
    | some x => exact iteF ⟨_, rfl, t, _, _, _, rfl, rfl, SqT.of hw, rfl, q⟩

theorem scFa : FnScope ["_law_one", "_law_other"] ["_law_one", "_law_other"] (defScope sFalls) :=
  ⟨rfl, rfl, rfl, by decide +kernel, rfl, by decide +kernel, by decide +kernel⟩
theorem ok_falls {f f1 : Addr} {fd fd1 : FuncData} (F : Fun K "_law_falls" "_law_falls" sFalls f fd)
    (G1 : FnOk P w K mg base CX0 1 f1 fd1 ["_law_one"] spTop) (k1 : PySem.W.keepIn K (.ref f1) = true) (b1 : Binds K fd1 ["_law_one"] []) (g1 : mg "_law_top" = some (.ref f1)) :
    FnOk P w K mg base CX0 2 f fd ["_law_one", "_law_other"] spFalls := by
  refine F.ok scFa (fun vs H Q E h => ?_) (fun cdv A outer s H vs Q E hr h => ?_)
  · obtain ⟨t, u, a, b, rfl, _⟩ := h
    rfl
  · obtain ⟨t, u, a, b, rfl, ha, hb, q⟩ := h
    refine ⟨_, pss_one (ps_ret (pe_or (pe_cmpR op_lt (pe_ix ix_tup (pv 1) pe_int (fun _ _ => rfl)) (pe_ix ix_tup (pv 0) pe_int (fun _ _ => rfl)) (nomark _))
      (pe_one (pe_cmpR op_lt (pe_call G1 hr (by rfl) g1 k1 b1 .nil pass0 (pa_cons (pv 1) pa_nil)) (pe_call G1 hr (by rfl) g1 k1 b1 .nil pass0 (pa_cons (pv 0) pa_nil)) (nomark _))))), ?_⟩
    refine ⟨_, rfl, u, _, _, _, rfl, rfl, SqT.of hb, rfl, _, rfl, t, _, _, _, rfl, rfl, SqT.of ha, rfl, _, _, rfl, rfl, _, rfl, ?_⟩
    by_cases e : b.1 < a.1
    · rw [decide_eq_true e]
      have e2 : fallsW a b = true := by simp [fallsW, e]
      rw [e2] at q
      exact iteT q
    · rw [decide_eq_false e]
      have e2 : fallsW a b = decide (topI b < topI a) := by simp [fallsW, e]
      rw [e2] at q
      exact iteF ⟨_, rfl, u, b, rfl, hb, _, rfl, t, a, rfl, ha, _, _, rfl, rfl, q⟩
end
end N3
namespace N3
open PySem L2 G
theorem first_at : ∀ l : List Nat, atI ((l.map fun n => V.int (n : Nat)) ++ [V.non]) 0 = some (fV l.head?)
  | [] => rfl
  | n :: l => by
    refine at_in (by decide) ?_
    simp [fV]
theorem fIdx_head (bs : List Bool) : fIdx bs = ((List.range bs.length).filter (at' bs)).head? := by
  rw [List.head?_filter]
  rfl
def wD (w : Wn) : PyData := .tuple [.int w.1, hD w.2]
theorem dpWs {K : PySem.W.Frag} {H : Hp} : ∀ {ts : List Addr} {ws : List Wn}, Paired (WinAt H) ts ws → DpAll K H (ts.map V.ref) (ws.map wD)
  | _, _, .nil => .nil
  | _, _, .cons (b := w) h t => by
    refine .cons (.tup (SqT.of h) (.cons (.int _) (.cons ?_ .nil))) (dpWs t)
    obtain ⟨l, hh⟩ := w
    cases hh with
    | none => exact .non
    | some x => exact .int x
theorem layWs : ∀ ws : List Wn, PyData.canLayAll0 (ws.map wD) = true
  | [] => rfl
  | (l, h) :: ws => by
    have e := layWs ws
    cases h <;> simp [PyData.canLayAll0, wD, PyData.canLay0, hD, e]
theorem dpthWs : ∀ ws : List Wn, PyData.depthAll (ws.map wD) ≤ 1
  | [] => Nat.zero_le _
  | (l, h) :: ws => by
    have e := dpthWs ws
    have e2 : (wD (l, h)).depth = 1 := by cases h <;> rfl
    rw [List.map_cons, PyData.depthAll, e2]
    omega
theorem shWs (ws : List Wn) : PySem.SeqAt.shaped (.list (ws.map wD)) = true := by
  unfold PySem.SeqAt.shaped
  rw [Bool.and_eq_true]
  refine ⟨by simp only [PyData.canLay0]; exact layWs ws, ?_⟩
  have e := dpthWs ws
  exact decide_eq_true (by simp only [PyData.depth]; omega)
theorem eqvNil (l : List PyData) : PyData.eqv (.list l) (.list []) = l.isEmpty := by
  cases l <;> simp [PyData.eqv, PyData.eqvAll]
theorem pr_set {α β : Type} {R : α → β → Prop} {x : α} {y : β} (r : R x y) : ∀ {xs : List α} {ys : List β} (i : Nat),
    Paired R xs ys → Paired R (xs.set i x) (ys.set i y)
  | _, _, _, .nil => .nil
  | _, _, 0, .cons _ t => .cons r t
  | _, _, i + 1, .cons q t => .cons q (pr_set r i t)
theorem WsAt.put {H : Hp} {a t : Addr} {ts : List Addr} {ws : List Wn} {w : Wn} (h : WsAt H a ts ws) (ht : WinAt H t w) (j : Nat) :
    WsAt (upd H a (.lst ((ts.map V.ref).set j (.ref t)))) a (ts.set j t) (ws.set j w) := by
  refine ⟨by rw [upd_same, List.map_set], ?_⟩
  refine pr_set ?_ j (Paired.mapP h.2 fun u v q => ?_)
  · have n : t ≠ a := ne_of ht h.1 (by intro z; cases z)
    show upd _ _ _ _ = _
    rw [upd_ne n]
    exact ht
  · have n : u ≠ a := ne_of q h.1 (by intro z; cases z)
    show upd _ _ _ _ = _
    rw [upd_ne n]
    exact q
theorem mem_set {α : Type} {l : List α} {i : Nat} {x y : α} (h : y ∈ l.set i x) : y = x ∨ y ∈ l := by
  rcases List.mem_or_eq_of_mem_set h with z | z
  · exact .inr z
  · exact .inl z
theorem WsAt.push {H : Hp} {a t : Addr} {ts : List Addr} {ws : List Wn} {w : Wn} (h : WsAt H a ts ws) (ht : WinAt H t w) :
    WsAt (upd H a (.lst (ts.map V.ref ++ [.ref t]))) a (ts ++ [t]) (ws ++ [w]) := by
  refine ⟨by rw [upd_same, List.map_append]; rfl, ?_⟩
  refine pr_snoc (Paired.mapP h.2 fun u v q => ?_) ?_
  · have n : u ≠ a := ne_of q h.1 (by intro z; cases z)
    show upd _ _ _ _ = _
    rw [upd_ne n]
    exact q
  · have n : t ≠ a := ne_of ht h.1 (by intro z; cases z)
    show upd _ _ _ _ = _
    rw [upd_ne n]
    exact ht

def spWins : Sp := fun vs H Q _ => ∃ (r : Addr) (m lo : Int), vs = [.ref r, .int m, .int lo] ∧ Rng H r ∧ 0 ≤ m ∧ m ≤ 41 ∧ 0 ≤ lo ∧ lo ≤ 1 ∧
  ∀ (p : Addr) (ts : List Addr) (ws : List Wn) (H' : Hp), H p = none → p ≠ r → Ext r H H' → Rng H' r → WsAt H' p ts ws →
    (∀ w ∈ ws, Wok 200 w) → ws.length ≤ 41 → Q (.ref p) H'
def spRepl : Sp := fun vs H Q _ => ∃ (r a : Addr) (ts : List Addr) (ws : List Wn) (B : Int), vs = [.ref r, .ref a] ∧ Rng H r ∧ a ≠ r ∧ WsAt H a ts ws ∧
  (∀ w ∈ ws, Wok B w) ∧ 100 ≤ B ∧ ws.length ≤ 41 ∧
  ∀ (p : Addr) (us : List Addr) (vs : List Wn) (H' : Hp), H p = none → p ≠ r → Ext r H H' → Rng H' r → WsAt H' p us vs →
    (∀ w ∈ vs, Wok B w) → vs.length ≤ 41 → Q (.ref p) H'

section
variable {P : Program} {w : World} {K : PySem.W.Frag} {mg : Str → Option Value} {base : Heap}
theorem scFi : FnScope ["_law_flags", "_law_k", "_law_flag"] ["_law_flags"] (defScope sFirst) :=
  ⟨rfl, rfl, rfl, by decide +kernel, rfl, by decide +kernel, by decide +kernel⟩
theorem ok_first {f : Addr} {fd : FuncData} (F : Fun K "_law_first" "_law_first" sFirst f fd) (T : Txt mg) :
    FnOk P w K mg base CX0 1 f fd ["_law_flags"] (spFirst K) := by
  refine F.ok scFi (fun vs H Q E h => ?_) (fun cdv A outer s H vs Q E hr h => ?_)
  · obtain ⟨a, bs, rfl, _⟩ := h
    rfl
  · obtain ⟨a, bs, rfl, hS, hl, q⟩ := h
    refine ⟨_, pss_one (ps_ret (pe_ix ix_list (pe_op op_cat
      (pe_lc (own := [("_law_k", 1), ("_law_flag", 2)]) (g := gTup K 2 (gCons (gName 1) (gCons (gName 2) gNil))) rfl scFi.nd (pi_enum (by rfl) T.enum (pa_cons (pv 0) pa_nil))
        (blkOk_by (own := [("_law_k", 1), ("_law_flag", 2)]) (N := ["_law_flags", "_law_k", "_law_flag"]) (sc := defScope sFirst) (by decide +kernel))
        (fun _ _ _ _ _ => pg_tup rfl (pgs_cons (pg_name (i := 1) scFi.nd rfl (Or.inl rfl)) (pgs_cons (pg_name (i := 2) scFi.nd rfl (Or.inl rfl)) pgs_nil)))
        (fun _ _ _ _ _ => pts_one (pt_val (pv 2))) (fun _ _ _ _ _ => pv 1)) (pe_lst (pa_cons pe_non pa_nil))) pe_int (fun _ _ => rfl))), ?_⟩
    refine ⟨_, rfl, a, _, rfl, hS, fun D hD => ?_⟩
    refine lc_it walk_enum (fun i J => Same H J ∧ J D = some (.lst (((List.range i).filter (at' bs)).map fun n => V.int (n : Nat))))
      ⟨new_same hD, upd_same⟩ (fun i J _ h => h.1.seq hS) ?_ ?_
    · rintro i x J J' hi ⟨S, hJ⟩ ⟨t, z, y, rfl, ht, rfl, hz, hy⟩
      obtain rfl : z = .int (i : Nat) := (Option.some.inj hz).symm
      have hi2 : i < bs.length := by simpa using hi
      obtain rfl : y = .bl bs[i] := by
        have hy2 : (bs.map V.bl)[i]? = some y := hy
        rw [List.getElem?_map] at hy2
        simp [hi2] at hy2
        exact hy2.symm
      have nD : D ≠ t := ne_of_none hJ ht
      have S2 := S.trans (new_same (o := .tup [.int (i : Nat), .bl bs[i]]) ht)
      have hJ2 : (upd J t (.tup [.int (i : Nat), .bl bs[i]])) D = some (.lst (((List.range i).filter (at' bs)).map fun n => V.int (n : Nat))) := by
        rw [upd_ne nD]
        exact hJ
      have ea : at' bs i = bs[i] := by simp [at', hi2]
      refine ⟨t, _, rfl, SqT.of upd_same, rfl, _, _, rfl, _, _, rfl, rfl, rfl, _, rfl, _, rfl, ?_⟩
      refine ite2 (fun hb => ?_) (fun hb => ?_)
      · refine ⟨_, rfl, _, hJ2, ?_, ?_, ?_⟩
        · have e3 := List.length_filter_le (at' bs) (List.range i)
          rw [List.length_range] at e3
          rw [List.length_map, sizeLine_eq]
          omega
        · intro b o e
          rw [upd_ne (ne_of_none e hD)]
          exact S2 b o e
        · rw [upd_same, List.range_succ, List.filter_append, List.filter_cons_of_pos (by rw [ea]; exact hb), List.filter_nil, List.map_append]
          rfl
      · refine ⟨S2, ?_⟩
        rw [hJ2, List.range_succ, List.filter_append, List.filter_cons_of_neg (by rw [ea]; exact hb), List.filter_nil, List.append_nil]
    · rintro J ⟨S, hJ⟩
      rw [List.length_map] at hJ
      refine ⟨(by show 1 ≤ sizeLine; decide), fun p hp => ?_⟩
      have nD : D ≠ p := ne_of_none hJ hp
      refine ⟨D, p, _, _, rfl, rfl, by rw [upd_ne nD]; exact hJ, upd_same, ?_, fun p2 hp2 => ?_⟩
      · have e3 := List.length_filter_le (at' bs) (List.range bs.length)
        rw [List.length_range] at e3
        simp only [List.length_map, List.length_cons, List.length_nil]
        rw [sizeLine_eq]
        omega
      · refine ⟨p2, _, _, _, rfl, rfl, SqL.of upd_same, first_at _, ?_⟩
        rw [← fIdx_head]
        exact q _ ((S.trans (new_same hp)).trans (new_same hp2))

theorem scM : FnScope ["_law_some", "_law_far", "_law_one"] ["_law_some", "_law_far"] (defScope sMoved) :=
  ⟨rfl, rfl, rfl, by decide +kernel, rfl, by decide +kernel, by decide +kernel⟩
theorem ok_moved {f : Addr} {fd : FuncData} (F : Fun K "_law_moved" "_law_moved" sMoved f fd) :
    FnOk P w K mg base CX0 1 f fd ["_law_some", "_law_far"] spMoved := by
  refine F.ok scM (fun vs H Q E h => ?_) (fun cdv A outer s H vs Q E hr h => ?_)
  · obtain ⟨a, ts, ws, f, rfl, _⟩ := h
    rfl
  · obtain ⟨a, ts, ws, f, rfl, hw, hl, q⟩ := h
    refine ⟨_, pss_one (ps_ret (pe_lc (own := [("_law_one", 2)]) (g := gName 2) (tt := tYes) rfl scM.nd (pi_list (pv 0))
        (blkOk_by (own := [("_law_one", 2)]) (N := ["_law_some", "_law_far", "_law_one"]) (sc := defScope sMoved) (by decide +kernel))
        (fun _ _ _ _ _ => pg_name (i := 2) scM.nd rfl (Or.inl rfl)) (fun _ _ _ _ _ => pts_nil)
        (fun _ _ _ _ _ => pe_tup (pa_cons (pe_op op_add (pe_ix (r := rIxT K) ix_tup (pv 2) pe_int (fun _ _ => rfl)) (pv 1))
          (pa_cons (pe_ifExp (pt_cmp (pc_isN (pe_ix (r := rIxT K) ix_tup (pv 2) pe_int (fun _ _ => rfl)))) pe_non (pe_op op_add (pe_ix (r := rIxT K) ix_tup (pv 2) pe_int (fun _ _ => rfl)) (pv 1))) pa_nil))))), ?_⟩
    refine ⟨_, rfl, a, rfl, ⟨_, SqL.of hw.1⟩, fun D hD => ?_⟩
    refine lc_list (K := K) (a := a) (xs := ts.map V.ref) (fun i J => Same H J ∧ ∃ us, WsAt J D us ((ws.take i).map (mv f)))
      ⟨new_same hD, [], upd_same, .nil⟩ (fun i J _ h => SqL.of (h.1 _ _ hw.1)) ?_ ?_
    · rintro i x J hx ⟨S, us, hD1⟩
      obtain ⟨t, ww, rfl, h1, h2⟩ := (hw.same S).ref hx
      refine ⟨rfl, yesT ?_⟩
      refine ⟨_, rfl, t, _, _, _, rfl, rfl, SqT.of h2, rfl, _, rfl, _, _, rfl, rfl, ?_⟩
      refine ⟨_, rfl, t, _, _, _, rfl, rfl, SqT.of h2, rfl, _, rfl, ?_⟩
      have hlen : us.length < sizeLine := by
        have e := pr_len hD1.2
        rw [List.length_map, List.length_take] at e
        rw [sizeLine_eq]
        omega
      have fin : ∀ p, J p = none → ∃ acc, (upd J p (.tup [.int (ww.1 + f), hV (mv f ww).2])) D = some (.lst acc) ∧ acc.length < sizeLine ∧
          Same H (upd (upd J p (.tup [.int (ww.1 + f), hV (mv f ww).2])) D (.lst (acc ++ [.ref p]))) ∧
          ∃ us', WsAt (upd (upd J p (.tup [.int (ww.1 + f), hV (mv f ww).2])) D (.lst (acc ++ [.ref p]))) D us' ((ws.take (i + 1)).map (mv f)) := by
        intro p hp
        have nD : D ≠ p := ne_of_none hD1.1 hp
        have hD2 := hD1.same (new_same (o := .tup [.int (ww.1 + f), hV (mv f ww).2]) hp)
        have hp2 : WinAt (upd J p (.tup [.int (ww.1 + f), hV (mv f ww).2])) p (mv f ww) := upd_same
        refine ⟨_, hD2.1, by rw [List.length_map]; exact hlen, ?_, us ++ [p], ?_⟩
        · intro b o e
          rw [upd_ne (ne_of_none e hD)]
          exact new_same hp _ _ (S b o e)
        · rw [take_next h1, List.map_append]
          exact hD2.push hp2
      obtain ⟨l, h⟩ := ww
      cases h with
      | none => exact iteT ⟨(by show 2 ≤ sizeLine; decide), fun p hp => fin p hp⟩
      | some z => exact iteF ⟨_, rfl, t, _, _, _, rfl, rfl, SqT.of h2, rfl, _, rfl, _, _, rfl, rfl, (by show 2 ≤ sizeLine; decide), fun p hp => fin p hp⟩
    · rintro J ⟨S, us, hD1⟩
      have e : ws.take (ts.map V.ref).length = ws := List.take_of_length_le (by rw [List.length_map, pr_len hw.2]; exact Nat.le_refl _)
      rw [e] at hD1
      exact q D us J hD S hD1

theorem scWs : FnScope ["_law_rng_here", "_law_many", "_law_loose", "_law_low", "_law_high", "_law_found", "_law_k"] ["_law_rng_here", "_law_many", "_law_loose"] (defScope sWins) :=
  ⟨rfl, rfl, rfl, by decide +kernel, rfl, by decide +kernel, by decide +kernel⟩
theorem ok_wins {f fD : Addr} {fd fdD : FuncData} (F : Fun K "_law_windows" "_law_windows" sWins f fd) (T : Txt mg)
    (D : Fun K "_law_draw" "_law_draw" sDraw fD fdD) (bD : Binds K fdD ["_law_rng_here", "_law_many"] []) (gD : mg "_law_draw" = some (.ref fD)) :
    FnOk P w K mg base CX0 2 f fd ["_law_rng_here", "_law_many", "_law_loose"] spWins := by
  have GD : FnOk P w K mg base CX0 1 fD fdD ["_law_rng_here", "_law_many"] spDraw := ok_draw D T
  refine F.ok scWs (fun vs H Q E h => ?_) (fun cdv A outer s H vs Q E hr1 h => ?_)
  · obtain ⟨r, m, lo, rfl, _⟩ := h
    rfl
  · obtain ⟨r, m, lo, rfl, R, m0, m1, lo0, lo1, q⟩ := h
    refine ⟨_, pss_cons (ps_par3 (by rfl) scWs.nd (i := 3) (j := 4) (l := 5) rfl rfl rfl (by decide) (by decide) (by decide) rfl rfl rfl
        (pa_cons pe_int (pa_cons (pe_ix ix_list (pe_lst (pa_cons (pv 2) (pa_cons pe_int (pa_cons pe_int (pa_cons pe_non pa_nil))))) (pe_call GD hr1 (by rfl) gD D.kp bD .nil pass0 (pa_cons (pv 0) (pa_cons pe_int pa_nil))) (fun _ _ => rfl)) (pa_cons (pe_lst pa_nil) pa_nil))) (by rfl))
      (pss_cons (ps_for PassesOwn.never rfl (pi_range1 (by rfl) T.range (pa_cons (pv 1) pa_nil)) (pg_name (i := 6) scWs.nd rfl (Or.inl rfl))
        (pss_cons (ps_expr (pe_bm PySem.F.plainAttrs_list PySem.F.slot_list_append PySem.F.type_list_append mt_append (pv 5) (pa_cons (pe_tup (pa_cons (pv 3) (pa_cons (pv 4) pa_nil))) pa_nil)))
        (pss_cons (ps_set (i := 3) scWs.nd rfl (Or.inl rfl) (pe_op op_add (pv 3) (pe_ix ix_list (pe_lst (pa_cons pe_int (pa_cons pe_int (pa_cons (pe_op op_sub pe_int (pv 2)) (pa_cons pe_int (pa_cons (pe_op op_sub pe_int (pv 2)) pa_nil)))))) (pe_call GD hr1 (by rfl) gD D.kp bD .nil pass0 (pa_cons (pv 0) (pa_cons pe_int pa_nil))) (fun _ _ => rfl))))
        (pss_one (ps_if (pt_cmp (pc_notN (pv 4)))
          (pss_cons (ps_set (i := 4) scWs.nd rfl (Or.inl rfl) (pe_callB (call_max2 rfl) (by rfl) T.max (by decide +kernel) (pa_cons (pe_op op_add (pv 3) (pv 2)) (pa_cons
            (pe_op op_add (pv 4) (pe_ix ix_list (pe_lst (pa_cons (pv 2) (pa_cons pe_int (pa_cons pe_int (pa_cons pe_int pa_nil))))) (pe_call GD hr1 (by rfl) gD D.kp bD .nil pass0 (pa_cons (pv 0) (pa_cons pe_int pa_nil))) (fun _ _ => rfl))) pa_nil))))
          (pss_one (ps_set (i := 4) scWs.nd rfl (Or.inl rfl) (pe_ifExp (pt_cmpR op_eq (pe_call GD hr1 (by rfl) gD D.kp bD .nil pass0 (pa_cons (pv 0) (pa_cons pe_int pa_nil))) pe_int (nomark _)) pe_non (pv 4))))) pss_nil)))))
      (pss_one (ps_ret (pv 5)))), ?_⟩
    refine ⟨_, rfl, (by show 4 ≤ sizeLine; decide), fun p1 hp1 => ?_⟩
    refine ⟨_, rfl, r, _, rfl, R.new hp1, by decide, by decide, fun d1 H1 E1 R1 d0 d2 => ?_⟩
    have k1 := E1 _ _ (R.free hp1).symm upd_same
    obtain ⟨v, hv, hm⟩ := at_mem (xs := [V.int lo, V.int 1, V.int 2, V.non]) d0 (by show d1 < 4; omega)
    obtain ⟨h0, rfl, hb0⟩ : ∃ h : Option Int, v = hV h ∧ ∀ x, h = some x → 0 ≤ x ∧ x ≤ 3 := by
      simp only [List.mem_cons, List.not_mem_nil, or_false] at hm
      rcases hm with rfl | rfl | rfl | rfl
      · exact ⟨some lo, rfl, fun x e => by cases e; omega⟩
      · exact ⟨some 1, rfl, fun x e => by cases e; omega⟩
      · exact ⟨some 2, rfl, fun x e => by cases e; omega⟩
      · exact ⟨none, rfl, fun x e => by cases e⟩
    refine ⟨p1, _, _, _, rfl, rfl, SqL.of k1, hv, ?_⟩
    refine ⟨Nat.zero_le _, fun p hp => ?_⟩
    refine ⟨_, _, _, rfl, ?_⟩
    have npr : p ≠ r := (R1.free hp).symm
    have ex1 : Ext r H H1 := (Ext.new hp1).trans E1
    have hp0 : H p = none := ex1.none npr hp
    refine ⟨_, rfl, _, rfl, by omega, by omega, ?_⟩
    refine for_range (lo := 0) (n := m.toNat) (fun i σ J => ∃ (l : Int) (h : Option Int) (ts : List Addr) (ws : List Wn) (c : Option V),
      σ = [some (.ref r), some (.int m), some (.int lo), some (.int l), some (hV h), some (.ref p), c] ∧ Ext r H J ∧ Rng J r ∧ WsAt J p ts ws ∧
      ws.length = i ∧ (∀ w ∈ ws, Wok 200 w) ∧ 0 ≤ l ∧ l ≤ 2 * i ∧ ∀ x, h = some x → l ≤ x ∧ x ≤ 2 * i + 3)
      ⟨0, h0, [], [], _, rfl, ex1.trans (Ext.new hp), R1.new hp, ⟨upd_same, .nil⟩, rfl, fun _ z => (by cases z), by decide, by decide, fun x e => ⟨(hb0 x e).1, by have := (hb0 x e).2; omega⟩⟩ ?_ ?_
    · rintro i σ J hi ⟨l, h, ts, ws, c, rfl, EJ, RJ, hw, hl, ok, l0, l1, hh⟩
      have hi2 : i < 41 := by omega
      refine ⟨_, rfl, .inl ⟨rfl, _, SqL.of hw.1⟩, ?_⟩
      refine ⟨_, rfl, _, rfl, (by show 2 ≤ sizeLine; decide), fun t ht => ?_⟩
      have hw2 := hw.same (new_same (o := .tup [.int l, hV h]) ht)
      have ht2 : WinAt (upd J t (.tup [.int l, hV h])) t (l, h) := upd_same
      refine ⟨p, _, _, rfl, rfl, hw2.1, ?_, ?_⟩
      · rw [List.length_map, pr_len hw.2, hl, sizeLine_eq]
        omega
      have hw3 := hw2.push ht2
      have ok3 : ∀ w ∈ ws ++ [(l, h)], Wok 200 w := by
        intro w hwm
        rcases List.mem_append.mp hwm with z | z
        · exact ok w z
        · rw [List.mem_singleton.mp z]
          exact ⟨l0, by show l ≤ 200; omega, fun x e => ⟨(hh x e).1, by have := (hh x e).2; omega⟩⟩
      have R3 : Rng (upd (upd J t (.tup [.int l, hV h])) p (.lst (ts.map V.ref ++ [.ref t]))) r := (RJ.new ht).put npr
      have E3 : Ext r H (upd (upd J t (.tup [.int l, hV h])) p (.lst (ts.map V.ref ++ [.ref t]))) := by
        intro b o n e
        rw [upd_ne (ne_of_none e hp0)]
        exact new_same ht _ _ (EJ b o n e)
      have l3 : (ws ++ [(l, h)]).length = i + 1 := by simp [hl]
      obtain ⟨J3, e3⟩ : ∃ J', upd (upd J t (.tup [.int l, hV h])) p (.lst (ts.map V.ref ++ [.ref t])) = J' := ⟨_, rfl⟩
      rw [e3] at hw3 R3 E3
      rw [e3]
      refine ⟨_, rfl, _, rfl, _, _, rfl, rfl, _, rfl, _, _, rfl, rfl, (by show 5 ≤ sizeLine; decide), fun p4 hp4 => ?_⟩
      refine ⟨_, rfl, r, _, rfl, R3.new hp4, by decide, by decide, fun d4 J4 E4 R4 f0 f1 => ?_⟩
      have k4 := E4 _ _ (R3.free hp4).symm upd_same
      obtain ⟨v4, hv4, hm4⟩ := at_mem (xs := [V.int 0, V.int 0, V.int (1 - lo), V.int 1, V.int (2 - lo)]) f0 (by show d4 < 5; omega)
      obtain ⟨s4, rfl, s0, s1⟩ : ∃ x : Int, v4 = .int x ∧ 0 ≤ x ∧ x ≤ 2 := by
        simp only [List.mem_cons, List.not_mem_nil, or_false] at hm4
        rcases hm4 with rfl | rfl | rfl | rfl | rfl
        all_goals exact ⟨_, rfl, by omega, by omega⟩
      refine ⟨p4, _, _, _, rfl, rfl, SqL.of k4, hv4, _, _, rfl, rfl, ?_⟩
      have E4' : Ext r H J4 := (E3.trans (Ext.new hp4)).trans E4
      have hw4 := (hw3.same (new_same (o := .lst [V.int 0, V.int 0, V.int (1 - lo), V.int 1, V.int (2 - lo)]) hp4)).ext (R3.new hp4) npr E4
      refine ⟨_, rfl, _, rfl, ?_⟩
      cases h with
      | none =>
        refine iteF ?_
        exact ⟨l + s4, none, _, _, _, rfl, E4', R4, hw4, l3, ok3, by omega, by omega, fun x e => by cases e⟩
      | some x =>
        have hx := hh x rfl
        refine iteT ?_
        refine ⟨_, rfl, _, rfl, _, _, rfl, rfl, _, rfl, _, rfl, (by show 4 ≤ sizeLine; decide), fun p5 hp5 => ?_⟩
        refine ⟨_, rfl, r, _, rfl, R4.new hp5, by decide, by decide, fun d5 J5 E5 R5 g0 g1 => ?_⟩
        have k5 := E5 _ _ (R4.free hp5).symm upd_same
        obtain ⟨v5, hv5, hm5⟩ := at_mem (xs := [V.int lo, V.int 1, V.int 1, V.int 2]) g0 (by show d5 < 4; omega)
        obtain ⟨s5, rfl, t0, t1⟩ : ∃ x : Int, v5 = .int x ∧ 0 ≤ x ∧ x ≤ 2 := by
          simp only [List.mem_cons, List.not_mem_nil, or_false] at hm5
          rcases hm5 with rfl | rfl | rfl | rfl
          all_goals exact ⟨_, rfl, by omega, by omega⟩
        refine ⟨p5, _, _, _, rfl, rfl, SqL.of k5, hv5, _, _, rfl, rfl, _, _, rfl, ?_⟩
        have E5' : Ext r H J5 := (E4'.trans (Ext.new hp5)).trans E5
        have hw5 := (hw4.same (new_same (o := .lst [V.int lo, V.int 1, V.int 1, V.int 2]) hp5)).ext (R4.new hp5) npr E5
        have mx : ∀ a b : Int, l + s4 + lo = a → x + s5 = b → l + s4 ≤ (if b > a then b else a) ∧ (if b > a then b else a) ≤ 2 * ((i + 1 : Nat) : Int) + 3 := by
          intro a b ea eb
          split <;> omega
        have mx2 := mx _ _ rfl rfl
        generalize (if x + s5 > l + s4 + lo then x + s5 else l + s4 + lo) = y at mx2
        refine ⟨_, rfl, r, _, rfl, R5, by decide, by decide, fun d6 J6 E6 R6 u0 u1 => ?_⟩
        have E6' : Ext r H J6 := E5'.trans E6
        have hw6 := hw5.ext R5 npr E6
        refine ⟨rfl, _, rfl, ?_⟩
        refine ite2 (fun _ => ?_) (fun _ => ?_)
        · exact ⟨l + s4, none, _, _, _, rfl, E6', R6, hw6, l3, ok3, by omega, by omega, fun x e => by cases e⟩
        · exact ⟨_, rfl, l + s4, some y, _, _, _, rfl, E6', R6, hw6, l3, ok3, by omega, by omega, fun x e => by cases e; exact mx2⟩
    · rintro σ J ⟨l, h, ts, ws, c, rfl, EJ, RJ, hw, hl, ok, l0, l1, hh⟩
      exact ⟨_, rfl, q p ts ws J hp0 npr EJ RJ hw ok (by omega)⟩

theorem scRe : FnScope ["_law_rng_here", "_law_some", "_law_found", "_law_turn", "_law_low"] ["_law_rng_here", "_law_some"] (defScope sRepl) :=
  ⟨rfl, rfl, rfl, by decide +kernel, rfl, by decide +kernel, by decide +kernel⟩
theorem ok_repl {f fD : Addr} {fd fdD : FuncData} (F : Fun K "_law_replaced" "_law_replaced" sRepl f fd) (T : Txt mg)
    (D : Fun K "_law_draw" "_law_draw" sDraw fD fdD) (bD : Binds K fdD ["_law_rng_here", "_law_many"] []) (gD : mg "_law_draw" = some (.ref fD)) :
    FnOk P w K mg base CX0 2 f fd ["_law_rng_here", "_law_some"] spRepl := by
  have GD : FnOk P w K mg base CX0 1 fD fdD ["_law_rng_here", "_law_many"] spDraw := ok_draw D T
  refine F.ok scRe (fun vs H Q E h => ?_) (fun cdv A outer s H vs Q E hr1 h => ?_)
  · obtain ⟨r, a, ts, ws, B, rfl, _⟩ := h
    rfl
  · obtain ⟨r, a, ts, ws, B, rfl, R, nar, hw, ok, hB, hl, q⟩ := h
    refine ⟨_, pss_cons (ps_set (i := 2) scRe.nd rfl (Or.inl rfl) (pe_callTy call_list_of (by rfl) T.list (by decide +kernel) (pa_cons (pv 1) pa_nil)))
      (pss_cons (ps_for PassesOwn.never rfl (pi_range1 (by rfl) T.range (pa_cons (pe_op op_mul (pe_call GD hr1 (by rfl) gD D.kp bD .nil pass0 (pa_cons (pv 0) (pa_cons pe_int pa_nil)))
          (pe_callTy call_int1 (by rfl) T.int (by decide +kernel) (pa_cons (pe_cmpR (op_neD hr1.units) (pv 2) (pe_lst pa_nil) (nomark _)) pa_nil))) pa_nil)) (pg_name (i := 3) scRe.nd rfl (Or.inl rfl))
        (pss_cons (ps_set (i := 4) scRe.nd rfl (Or.inl rfl) (pe_call GD hr1 (by rfl) gD D.kp bD .nil pass0 (pa_cons (pv 0) (pa_cons pe_int pa_nil))))
        (pss_one (ps_asg (pe_tup (pa_cons (pv 4) (pa_cons (pe_ix ix_list (pe_lst (pa_cons pe_non (pa_cons (pv 4) (pa_cons (pe_op op_add (pv 4) (pe_call GD hr1 (by rfl) gD D.kp bD .nil pass0 (pa_cons (pv 0) (pa_cons pe_int pa_nil)))) pa_nil)))) (pe_call GD hr1 (by rfl) gD D.kp bD .nil pass0 (pa_cons (pv 0) (pa_cons pe_int pa_nil))) (fun _ _ => rfl)) pa_nil)))
          (pg_sub (pv 2) (pe_call GD hr1 (by rfl) gD D.kp bD .nil pass0 (pa_cons (pv 0) (pa_cons (pe_callB call_len_seq (by rfl) T.len PySem.boot_len (pa_cons (pv 2) pa_nil)) pa_nil))) set_list)))))
      (pss_one (ps_ret (pv 2)))), ?_⟩
    refine ⟨_, rfl, a, _, rfl, .inl (SqL.of hw.1), fun p hp => ?_⟩
    have npr : p ≠ r := (R.free hp).symm
    have hw1 : WsAt (upd H p (.lst (ts.map V.ref))) p ts ws := ⟨upd_same, Paired.mapP hw.2 fun _ _ z => new_same hp _ _ z⟩
    have R1 : Rng (upd H p (.lst (ts.map V.ref))) r := R.new hp
    have E1 : Ext r H (upd H p (.lst (ts.map V.ref))) := Ext.new hp
    obtain ⟨J1, e1⟩ : ∃ J, upd H p (.lst (ts.map V.ref)) = J := ⟨_, rfl⟩
    rw [e1] at hw1 R1 E1
    rw [e1]
    refine ⟨_, rfl, r, _, rfl, R1, by decide, by decide, fun d2 J2 E2 R2 a0 a1 => ?_⟩
    have hw2 := hw1.ext R1 npr E2
    refine ⟨_, rfl, Nat.zero_le _, fun p3 hp3 => ?_⟩
    have np3 : p ≠ p3 := ne_of_none hw2.1 hp3
    have hw3 := hw2.same (new_same (o := .lst []) hp3)
    refine ⟨_, _, .lst (SqL.of hw3.1) (dpWs hw3.2), .lst (SqL.of upd_same) .nil, shWs ws, by decide +kernel, ?_⟩
    rw [eqvNil]
    refine .inr ⟨_, rfl, ?_⟩
    refine ⟨_, _, rfl, rfl, .inr ?_, ?_⟩
    · constructor
      · split <;> decide
      · split <;> decide
    have R3 : Rng (upd J2 p3 (.lst [])) r := R2.new hp3
    have E3 : Ext r H (upd J2 p3 (.lst [])) := (E1.trans E2).trans (Ext.new hp3)
    obtain ⟨J3, e3⟩ : ∃ J, upd J2 p3 (.lst []) = J := ⟨_, rfl⟩
    rw [e3] at hw3 R3 E3
    rw [e3]
    obtain ⟨n, en⟩ : ∃ n : Int, d2 * (if (!(ws.map wD).isEmpty) = true then 1 else 0) = n := ⟨_, rfl⟩
    have hn : 0 ≤ n ∧ n ≤ 2 ∧ (0 < n → 0 < ws.length) := by
      rw [← en]
      cases ws with
      | nil => simp
      | cons x l => simp; omega
    refine ⟨_, rfl, ?_, ?_, ?_⟩
    · show -(2 ^ 62) ≤ d2 * (if (!(ws.map wD).isEmpty) = true then 1 else 0)
      rw [en]; omega
    · show d2 * (if (!(ws.map wD).isEmpty) = true then 1 else 0) < 2 ^ 62
      rw [en]; omega
    show ∃ W, _
    rw [en]
    refine for_range (lo := 0) (n := n.toNat) (fun i σ J => ∃ (ts : List Addr) (vs : List Wn) (c1 c2 : Option V),
      σ = [some (.ref r), some (.ref a), some (.ref p), c1, c2] ∧ Ext r H J ∧ Rng J r ∧ WsAt J p ts vs ∧ vs.length = ws.length ∧ ∀ w ∈ vs, Wok B w)
      ⟨ts, ws, _, _, rfl, E3, R3, hw3, rfl, ok⟩ ?_ ?_
    · rintro i σ J hi ⟨ts, vs, c1, c2, rfl, EJ, RJ, hv, hl2, ok2⟩
      have hpos : 0 < vs.length := by rw [hl2]; exact hn.2.2 (by omega)
      refine ⟨_, rfl, r, _, rfl, RJ, by decide, by decide, fun l J4 E4 R4 l0 l1 => ?_⟩
      have hv4 := hv.ext RJ npr E4
      refine ⟨_, rfl, _, rfl, _, rfl, _, rfl, r, _, rfl, R4, by decide, by decide, fun d5 J5 E5 R5 b0 b1 => ?_⟩
      have hv5 := hv4.ext R4 npr E5
      refine ⟨_, _, rfl, rfl, (by show 3 ≤ sizeLine; decide), fun p6 hp6 => ?_⟩
      refine ⟨_, rfl, r, _, rfl, R5.new hp6, by decide, by decide, fun d7 J7 E7 R7 f0 f1 => ?_⟩
      have k7 := E7 _ _ (R5.free hp6).symm upd_same
      have hv7 := (hv5.same (new_same (o := .lst [V.non, V.int l, V.int (l + d5)]) hp6)).ext (R5.new hp6) npr E7
      obtain ⟨x, hx, hm⟩ := at_mem (xs := [V.non, V.int l, V.int (l + d5)]) f0 (by show d7 < 3; omega)
      obtain ⟨h, rfl, hb⟩ : ∃ h : Option Int, x = hV h ∧ ∀ y, h = some y → l ≤ y ∧ y ≤ 100 := by
        simp only [List.mem_cons, List.not_mem_nil, or_false] at hm
        rcases hm with rfl | rfl | rfl
        · exact ⟨none, rfl, fun y e => by cases e⟩
        · exact ⟨some l, rfl, fun y e => by cases e; omega⟩
        · exact ⟨some (l + d5), rfl, fun y e => by cases e; omega⟩
      refine ⟨p6, _, _, _, rfl, rfl, SqL.of k7, hx, (by show 2 ≤ sizeLine; decide), fun t ht => ?_⟩
      have hv8 := hv7.same (new_same (o := .tup [V.int l, hV h]) ht)
      have ht8 : WinAt (upd J7 t (.tup [V.int l, hV h])) t (l, h) := upd_same
      have R8 : Rng (upd J7 t (.tup [V.int l, hV h])) r := R7.new ht
      refine ⟨_, rfl, _, rfl, _, rfl, p, _, rfl, .inl (SqL.of hv8.1), r, _, rfl, R8, ?_, ?_, fun d9 J9 E9 R9 g0 g1 => ?_⟩
      · rw [List.length_map, pr_len hv8.2]; omega
      · rw [List.length_map, pr_len hv8.2]; omega
      rw [List.length_map, pr_len hv8.2] at g1
      have hv9 := hv8.ext R8 npr E9
      have ht9 : WinAt J9 t (l, h) := E9 _ _ (ht8.ne R8) ht8
      refine ⟨p, _, _, d9.toNat, rfl, rfl, hv9.1, ?_, ?_⟩
      · unfold ixN
        rw [if_pos g0, if_pos (by rw [List.length_map, pr_len hv9.2]; exact g1)]
      · refine ⟨_, _, _, _, rfl, ?_, R9.put npr, hv9.put ht9 d9.toNat, by rw [List.length_set]; exact hl2, fun w hwm => ?_⟩
        · intro b o nb eb
          have hp0 : H p = none := hp
          rw [upd_ne (ne_of_none eb hp0)]
          exact E9 _ _ nb (new_same ht _ _ ((((EJ.trans E4).trans E5).trans (Ext.new hp6)).trans E7 b o nb eb))
        · rcases mem_set hwm with rfl | z
          · exact ⟨l0, by show l ≤ B; omega, fun y e => ⟨(hb y e).1, by have := (hb y e).2; omega⟩⟩
          · exact ok2 w z
    · rintro σ J ⟨ts, vs, c1, c2, rfl, EJ, RJ, hv, hl2, ok2⟩
      exact ⟨_, rfl, q p ts vs J hp npr EJ RJ hv ok2 (by omega)⟩
end
end N3
namespace N3
open PySem L2 G
abbrev BB : Int := 1000000000000000000000000000000000000000000000000000000000000
abbrev NN : Int := 100000000000000000000000000000000000000000000000000000000000000
theorem e64 : (10 : Int) ^ (64 : Int).toNat = 10000000000000000000000000000000000000000000000000000000000000000 := by decide +kernel
theorem e59 : (10 : Int) ^ (59 : Int).toNat = 100000000000000000000000000000000000000000000000000000000000 := by decide +kernel
theorem falls_eq {a b : Wn} (ha : Wok BB a) (hb : Wok BB b) : fallsW a b = !risesW a b := by
  obtain ⟨al, ah⟩ := a
  obtain ⟨bl, bh⟩ := b
  unfold fallsW risesW
  by_cases e : bl < al
  · simp [e]
  · cases ah with
    | none =>
      cases bh with
      | none => simp [e, topI]
      | some y =>
        have h := (hb.2.2 y rfl).2
        have e2 : topI (bl, some y) < topI (al, none) := by
          show y < 10 ^ (64 : Int).toNat
          rw [e64]
          have qb : BB = 1000000000000000000000000000000000000000000000000000000000000 := rfl
          omega
        simp [e, e2]
    | some x =>
      have hx := (ha.2.2 x rfl).2
      cases bh with
      | none =>
        have e2 : ¬ topI (bl, none) < topI (al, some x) := by
          show ¬ (10 : Int) ^ (64 : Int).toNat < x
          rw [e64]
          have qb : BB = 1000000000000000000000000000000000000000000000000000000000000 := rfl
          omega
        simp [e, e2, reach]
      | some y =>
        by_cases e3 : y < x
        · have e4 : ¬ x ≤ y := by omega
          simp [e, topI, reach, e3, e4]
        · have e4 : x ≤ y := by omega
          simp [e, topI, reach, e3, e4]
theorem reach_eq {w : Wn} {n : Int} (h : n ≤ NN) : reach w.2 n = decide (topI w ≥ n) := by
  obtain ⟨l, o⟩ := w
  cases o with
  | none =>
    have e : topI (l, none) ≥ n := by
      show (10 : Int) ^ (64 : Int).toNat ≥ n
      rw [e64]
      have qn : NN = 100000000000000000000000000000000000000000000000000000000000000 := rfl
      omega
    rw [decide_eq_true e]
    rfl
  | some x => rfl
def lfs (ws : List Wn) : List Bool := (ws.zip ws.tail).map fun p => fallsW p.1 p.2
theorem lfs_eq {ws : List Wn} (ok : ∀ w ∈ ws, Wok BB w) : lfs ws = falls ws := by
  unfold lfs falls
  apply List.map_congr_left
  rintro ⟨x, y⟩ h
  have h1 := List.of_mem_zip h
  exact falls_eq (ok x h1.1) (ok y (List.mem_of_mem_tail h1.2))
theorem fIdx_cons (bs : List Bool) : fIdx (false :: bs) = (fIdx bs).map (· + 1) := by
  cases h : fIdx bs with
  | none =>
    refine fIdx_none fun j hj => ?_
    cases j with
    | zero => rfl
    | succ j =>
      have h2 := (List.find?_eq_none.mp h) j (List.mem_range.mpr (by simpa using hj))
      have e : at' (false :: bs) (j + 1) = at' bs j := rfl
      rw [e]
      simpa using h2
  | some i =>
    unfold fIdx at h
    rw [List.find?_range_eq_some] at h
    obtain ⟨h1, h2, h3⟩ := h
    refine fIdx_some (i := i + 1) h1 fun j hj => ?_
    cases j with
    | zero => rfl
    | succ j =>
      have h4 := h3 j (by omega)
      have e : at' (false :: bs) (j + 1) = at' bs j := rfl
      rw [e]
      simpa using h4
theorem fIdx_lt {bs : List Bool} {i : Nat} (h : fIdx bs = some i) : i < bs.length :=
  List.mem_range.mp (List.mem_of_find?_eq_some h)
theorem due_eq {ws : List Wn} (ok : ∀ w ∈ ws, Wok BB w) : fIdx ((false :: lfs ws).take ws.length) = firstFall ws := by
  cases ws with
  | nil => rfl
  | cons w l =>
    have hl : (lfs (w :: l)).length = l.length := by simp [lfs]
    rw [List.take_of_length_le (by simp [hl]), fIdx_cons, lfs_eq ok]
    rfl
theorem fall_le {ws : List Wn} {k : Nat} (h : firstFall ws = some k) : k ≤ ws.length := by
  unfold firstFall at h
  cases e : fIdx (falls ws) with
  | none => rw [e] at h; cases h
  | some i =>
    rw [e] at h
    cases h
    have h2 := fIdx_lt e
    rw [falls_len] at h2
    show i + 1 ≤ _
    omega
/-- small scalars -/
def Sml (d : PyData) : Prop := d.showable = true ∧ d.leavesShort 600 = true ∧ d.weight ≤ 300 ∧ d.depth = 0
theorem smlInt {i : Int} (t : i.natAbs < 10 ^ 61) : Sml (.int i) := by
  have lg : i.natAbs.log2 < 203 := PySem.Flt.log2_lt_of (by decide) (Nat.lt_trans t (by decide))
  refine ⟨?_, ?_, ?_, rfl⟩
  · simp only [PyData.showable, decide_eq_true_eq]
    omega
  · simp only [PyData.leavesShort, decide_eq_true_eq]
    have e := int_text_length_le10 (k := 61) (by decide) t
    show (Str.ofString (toString i)).length ≤ 600
    rw [ofString_length]
    omega
  · simp only [PyData.weight]
    split <;> omega
theorem smlF {o : Option Nat} (h : ∀ k, o = some k → k ≤ 1000) : Sml (fD o) := by
  cases o with
  | none => exact ⟨rfl, rfl, Nat.zero_le _, rfl⟩
  | some k =>
    have h1 := h k rfl
    exact smlInt (by
      have e : ((k : Int)).natAbs = k := by omega
      rw [e]
      exact Nat.lt_of_le_of_lt h1 (by decide))
theorem okL2 {a b : PyData} (x : Sml a) (y : Sml b) : OkD (.list [a, b]) := by
  obtain ⟨x1, x2, x3, x4⟩ := x
  obtain ⟨y1, y2, y3, y4⟩ := y
  refine ⟨by simp [PyData.showable, PyData.showableAll, x1, y1], by simp [PyData.leavesShort, PyData.leavesShortAll, x2, y2], ?_, ?_⟩
  · simp only [PyData.weight, PyData.weightAll]
    omega
  · simp only [PyData.depth, PyData.depthAll, x4, y4]
    decide

/-- a comprehension over a list of windows, each item answered without a change of the heap -/
theorem lc_ws {K : PySem.W.Frag} {a D : Addr} {ts : List Addr} {ws : List Wn} {H0 : Hp} {gt : TG} {tst : TT} {te : TE} {own : List Nat}
    {σ : L2.St} {Qd : Hp → Prop} (hw : WsAt H0 a ts ws) (hl : ws.length ≤ 1000) (hD : H0 D = none) (f : Wn → V)
    (hs : ∀ (t : Addr) (w : Wn) (J : Hp) (R : VK) (Z : Hp → Prop), Same H0 J → w ∈ ws → WinAt J t w → R (f w) J →
      gt (.ref t) (wipe σ own) J fun σ2 J2 => wipe σ2 own = wipe σ own ∧ tst σ2 J2 fun b J3 => if b = true then te σ2 J3 R else Z J3)
    (hd : ∀ J, Same H0 J → J D = some (.lst (ws.map f)) → Qd J) :
    ∃ W : Nat → Nat → Hp → Prop, (∃ m, W 0 m (upd H0 D (.lst []))) ∧ ∀ i m J, W i m J →
      ((Itl K a).stop i J ∧ Qd J) ∨ ((Itl K a).go i J ∧ ∃ Nx : Hp → Prop, (∀ J', Nx J' → ∃ m', m' < m ∧ W (i + 1) m' J') ∧
        ∀ x J', (Itl K a).yld i J x J' → gt x (wipe σ own) J' fun σ2 J2 => wipe σ2 own = wipe σ own ∧ tst σ2 J2 fun b J3 =>
          if b = true then te σ2 J3 fun y J4 => ∃ acc, J4 D = some (.lst acc) ∧ acc.length < sizeLine ∧ Nx (upd J4 D (.lst (acc ++ [y]))) else Nx J3) := by
  refine lc_list (K := K) (a := a) (xs := ts.map V.ref) (fun i J => Same H0 J ∧ J D = some (.lst ((ws.take i).map f)))
    ⟨new_same hD, upd_same⟩ (fun i J _ h => SqL.of (h.1 _ _ hw.1)) ?_ ?_
  · rintro i x J hx ⟨S, hJ⟩
    obtain ⟨t, w, rfl, h1, h2⟩ := (hw.same S).ref hx
    refine hs t w J _ _ S (List.mem_of_getElem? h1) h2 ⟨_, hJ, ?_, ?_, ?_⟩
    · have hi := (List.getElem?_eq_some_iff.mp h1).1
      rw [List.length_map, List.length_take, sizeLine_eq]
      omega
    · intro b o e
      rw [upd_ne (ne_of_none e hD)]
      exact S b o e
    · rw [upd_same, take_next h1, List.map_append]
      rfl
  · rintro J ⟨S, hJ⟩
    rw [List.take_of_length_le (by rw [List.length_map, pr_len hw.2]; exact Nat.le_refl _)] at hJ
    exact hd J S hJ
/-- the same over neighbours: zip(xs, xs[1:]) -/
theorem lc_nb {K : PySem.W.Frag} {a b D : Addr} {ts : List Addr} {ws : List Wn} {H0 : Hp} {gt : TG} {tst : TT} {te : TE} {own : List Nat}
    {σ : L2.St} {Qd : Hp → Prop} (hw : WsAt H0 a ts ws) (hb : H0 b = some (.lst (ts.tail.map V.ref))) (hl : ws.length ≤ 1000) (hD : H0 D = none) (f : Wn → Wn → V)
    (hs : ∀ (T t u : Addr) (x y : Wn) (J : Hp) (R : VK) (Z : Hp → Prop), Same H0 J → x ∈ ws → y ∈ ws → WinAt J t x → WinAt J u y → J T = some (.tup [.ref t, .ref u]) → R (f x y) J →
      gt (.ref T) (wipe σ own) J fun σ2 J2 => wipe σ2 own = wipe σ own ∧ tst σ2 J2 fun b J3 => if b = true then te σ2 J3 R else Z J3)
    (hd : ∀ J, Same H0 J → J D = some (.lst ((ws.zip ws.tail).map fun p => f p.1 p.2)) → Qd J) :
    ∃ W : Nat → Nat → Hp → Prop, (∃ m, W 0 m (upd H0 D (.lst []))) ∧ ∀ i m J, W i m J →
      ((Itz K a b).stop i J ∧ Qd J) ∨ ((Itz K a b).go i J ∧ ∃ Nx : Hp → Prop, (∀ J', Nx J' → ∃ m', m' < m ∧ W (i + 1) m' J') ∧
        ∀ x J', (Itz K a b).yld i J x J' → gt x (wipe σ own) J' fun σ2 J2 => wipe σ2 own = wipe σ own ∧ tst σ2 J2 fun b J3 =>
          if b = true then te σ2 J3 fun y J4 => ∃ acc, J4 D = some (.lst acc) ∧ acc.length < sizeLine ∧ Nx (upd J4 D (.lst (acc ++ [y]))) else Nx J3) := by
  have lt := pr_len hw.2
  have hn : ws.length - 1 = min (ts.map V.ref).length (ts.tail.map V.ref).length := by
    rw [List.length_map, List.length_map, List.length_tail, lt]
    omega
  refine lc_it (walk_zip (xs := ts.map V.ref) (ys := ts.tail.map V.ref) hn) (fun i J => Same H0 J ∧ J D = some (.lst (((ws.zip ws.tail).take i).map fun p => f p.1 p.2)))
    ⟨new_same hD, upd_same⟩ (fun i J _ h => ⟨SqL.of (h.1 _ _ hw.1), SqL.of (h.1 _ _ hb)⟩) ?_ ?_
  · rintro i x J J' hi ⟨S, hJ⟩ ⟨T, z, y, rfl, hT, rfl, hz, hy⟩
    have hz2 : (ts.map V.ref)[i]? = some z := hz
    have hy2 : (ts.tail.map V.ref)[i]? = some y := hy
    have S2 := S.trans (new_same (o := .tup [z, y]) hT)
    obtain ⟨t, w, rfl, h1, h2⟩ := (hw.same S2).ref hz2
    have hy3 : (ts.map V.ref)[i + 1]? = some y := by
      rw [List.getElem?_map] at hy2 ⊢
      rw [List.getElem?_tail] at hy2
      exact hy2
    obtain ⟨u, v, rfl, h3, h4⟩ := (hw.same S2).ref hy3
    have nD : D ≠ T := ne_of_none hJ hT
    have e : (ws.zip ws.tail)[i]? = some (w, v) := by
      rw [List.getElem?_zip_eq_some]
      refine ⟨h1, ?_⟩
      rw [List.getElem?_tail]
      exact h3
    refine hs T t u w v _ _ _ S2 (List.mem_of_getElem? h1) (List.mem_of_getElem? h3) h2 h4 upd_same ⟨_, by rw [upd_ne nD]; exact hJ, ?_, ?_, ?_⟩
    · rw [List.length_map, List.length_take, sizeLine_eq]
      omega
    · intro b o e
      rw [upd_ne (ne_of_none e hD)]
      exact S2 b o e
    · rw [upd_same, take_next e, List.map_append]
      rfl
  · rintro J ⟨S, hJ⟩
    rw [List.take_of_length_le (by simp)] at hJ
    exact hd J S hJ
theorem cut_tail (ts : List Addr) : cutV (ts.map V.ref) (some 1) none = ts.tail.map V.ref := by
  unfold cutV
  rw [HT.sIx_none, show HT.sIx (ts.map V.ref).length 0 (some 1) = min 1 (ts.map V.ref).length from HT.sIx_nat _ _ 1]
  cases ts with
  | nil => rfl
  | cons t l =>
    simp only [List.map_cons, List.length_cons, List.length_map, List.tail_cons]
    have e : min 1 (l.length + 1) = 1 := by omega
    rw [e]
    simp only [List.drop_succ_cons, List.drop_zero]
    apply List.take_of_length_le
    simp
theorem cut_take (xs : List V) (n : Nat) : cutV xs none (some (n : Int)) = xs.take n := by
  unfold cutV
  rw [HT.sIx_nat, HT.sIx_none]
  simp
theorem cut_mid (x : V) (l : List V) (n : Nat) (h : l.length = n - 1) : cutV (x :: l) (some 1) (some (n : Int)) = l := by
  unfold cutV
  rw [HT.sIx_nat, show HT.sIx (x :: l).length 0 (some 1) = min 1 (x :: l).length from HT.sIx_nat _ _ 1]
  simp only [List.length_cons]
  have e : min 1 (l.length + 1) = 1 := by omega
  rw [e]
  simp only [List.drop_succ_cons, List.drop_zero]
  apply List.take_of_length_le
  omega
theorem dpB {K : PySem.W.Frag} {H : Hp} : ∀ bs : List Bool, DpAll K H (bs.map V.bl) (bs.map PyData.bool)
  | [] => .nil
  | b :: bs => .cons (.bl b) (dpB bs)
theorem layB : ∀ bs : List Bool, PyData.canLayAll0 (bs.map PyData.bool) = true
  | [] => rfl
  | b :: bs => by simp [PyData.canLayAll0, PyData.canLay0, layB bs]
theorem dptB : ∀ bs : List Bool, PyData.depthAll (bs.map PyData.bool) = 0
  | [] => rfl
  | b :: bs => by simp [PyData.depthAll, PyData.depth, dptB bs]
theorem shB (bs : List Bool) : PySem.SeqAt.shaped (.list (bs.map PyData.bool)) = true := by
  unfold PySem.SeqAt.shaped
  rw [Bool.and_eq_true]
  refine ⟨by simp only [PyData.canLay0]; exact layB bs, ?_⟩
  exact decide_eq_true (by simp only [PyData.depth, dptB]; decide)
theorem eqB (bs : List Bool) : PyData.eqv (.list (bs.map PyData.bool)) (.list (bs.map PyData.bool)) = true :=
  PySem.SeqAt.eqv_refl _ (by simp only [PyData.canLay0]; exact layB bs)
end N3
namespace N3
open PySem L2 G
abbrev NLZ : List Str := ["_law_rng_here", "_law_some", "_law_kept", "_law_flags", "_law_due", "_law_numbers", "_law_number", "_law_found", "_law_told", "_law_one", "_law_other", "_law_flag"]
def spRight : Sp := fun vs H Q _ => ∃ (r a : Addr) (ts : List Addr) (ws : List Wn), vs = [.ref r, .ref a] ∧ Rng H r ∧ a ≠ r ∧ WsAt H a ts ws ∧
  (∀ w ∈ ws, Wok BB w) ∧ ws.length ≤ 41 ∧ ∀ H' : Hp, Ext r H H' → Rng H' r → Q (.bl true) H'
def swV : List V → List V
  | [x, y] => [y, x]
  | l => l
def sw : List Value → List Value
  | [x, y] => [y, x]
  | l => l
theorem sw_rel (zs : List V) (ws : List Value) (_ : zs.length = 2) (r : Vals zs ws) : Vals (swV zs) (sw ws) := by
  match zs, ws, r with
  | [], _, .nil => exact .nil
  | [_], _, .cons r .nil => exact .cons r .nil
  | [_, _], _, .cons r (.cons q .nil) => exact .cons q (.cons r .nil)
  | _ :: _ :: _ :: _, _, .cons r (.cons q (.cons u t)) => exact .cons r (.cons q (.cons u t))
theorem mk {H : Hp} {p : Addr} {o : HO} (h : H p = none) : ∃ J : Hp, upd H p o = J ∧ Same H J ∧ J p = some o := ⟨_, rfl, new_same h, upd_same⟩
theorem lfs_map (ws : List Wn) : (ws.zip ws.tail).map (fun p => V.bl (fallsW p.1 p.2)) = (lfs ws).map V.bl := by
  simp [lfs]
theorem lfs_len (ws : List Wn) : (lfs ws).length = ws.length - 1 := by simp [lfs]
theorem rise_map {ws : List Wn} (ok : ∀ w ∈ ws, Wok BB w) : (ws.zip ws.tail).map (fun p => V.bl (risesW p.1 p.2)) = ((lfs ws).map not).map V.bl := by
  unfold lfs
  rw [List.map_map, List.map_map]
  apply List.map_congr_left
  rintro ⟨x, y⟩ h
  have h1 := List.of_mem_zip h
  simp [falls_eq (ok x h1.1) (ok y (List.mem_of_mem_tail h1.2))]
theorem bl_map {α : Type} (l : List α) (f : α → Bool) : l.map (fun w => V.bl (f w)) = (l.map f).map V.bl := by simp

section
variable {P : Program} {w : World} {K : PySem.W.Frag} {mg : Str → Option Value} {base : Heap}
theorem scZ : FnScope NLZ ["_law_rng_here", "_law_some"] (defScope sRight) :=
  ⟨rfl, rfl, rfl, by decide +kernel, rfl, by decide +kernel, by decide +kernel⟩
theorem ok_right {f fD fA fI fT fF fR fC fL : Addr} {fd fdD fdA fdI fdT fdF fdR fdC fdL : FuncData} (F : Fun K "_law_list_right" "_law_list_right" sRight f fd) (T : Txt mg)
    (GD : FnOk P w K mg base CX0 1 fD fdD ["_law_rng_here", "_law_many"] spDraw) (kD : PySem.W.keepIn K (.ref fD) = true) (bD : Binds K fdD ["_law_rng_here", "_law_many"] []) (gD : mg "_law_draw" = some (.ref fD))
    (GA : FnOk P w K mg base CX0 2 fA fdA ["_law_one", "_law_other"] spFalls) (kA : PySem.W.keepIn K (.ref fA) = true) (bA : Binds K fdA ["_law_one", "_law_other"] []) (gA : mg "_law_falls" = some (.ref fA))
    (GI : FnOk P w K mg base CX0 1 fI fdI ["_law_flags"] (spFirst K)) (kI : PySem.W.keepIn K (.ref fI) = true) (bI : Binds K fdI ["_law_flags"] []) (gI : mg "_law_first" = some (.ref fI))
    (GT : FnOk P w K mg base CX0 1 fT fdT ["_law_one"] spTop) (kT : PySem.W.keepIn K (.ref fT) = true) (bT : Binds K fdT ["_law_one"] []) (gT : mg "_law_top" = some (.ref fT))
    (GF : FnOk P w K mg base CX0 5 fF fdF ["windows"] spFall) (kF : PySem.W.keepIn K (.ref fF) = true) (bF : Binds K fdF ["windows"] []) (gF : mg "first_falling" = some (.ref fF))
    (qF : ∀ (s : Shared) (ws : List Value), ws.length = 1 → BindsTo s fdF ⟨[], (["windows"] : List Str).zip ws⟩ ((["windows"] : List Str).zip (id ws)))
    (GR : FnOk P w K mg base CX0 4 fR fdR ["first", "second"] spRises) (kR : PySem.W.keepIn K (.ref fR) = true) (bR : Binds K fdR ["first", "second"] []) (gR : mg "rises" = some (.ref fR))
    (GC : FnOk P w K mg base CX0 4 fC fdC ["window", "version"] spCont) (kC : PySem.W.keepIn K (.ref fC) = true) (bC : Binds K fdC ["window", "version"] []) (gC : mg "contains" = some (.ref fC))
    (GL : FnOk P w K mg base CX0 6 fL fdL ["windows", "version"] spLeast) (kL : PySem.W.keepIn K (.ref fL) = true) (bL : Binds K fdL ["windows", "version"] []) (gL : mg "least_reaching" = some (.ref fL))
    (qL : ∀ (s : Shared) (ws : List Value), ws.length = 2 → BindsTo s fdL ⟨[], (["version", "windows"] : List Str).zip ws⟩ ((["windows", "version"] : List Str).zip (sw ws))) :
    FnG P w K mg base CX0 7 f fd ["_law_rng_here", "_law_some"] spRight := by
  refine okG F scZ (fun vs H Q E h => ?_) (fun cdv A outer s H vs Q E gd hr h => ?_)
  · obtain ⟨r, a, ts, ws, rfl, _⟩ := h
    rfl
  · obtain ⟨r, a, ts, ws, rfl, R0, nar, hw0, ok, hl, q⟩ := h
    have hrD : Room 1 _ := hr.mono (by decide)
    have hrI : Room 1 _ := hr.mono (by decide)
    have hrT : Room 1 _ := hr.mono (by decide)
    have hrA : Room 2 _ := hr.mono (by decide)
    have hrF : Room 5 _ := hr.mono (by decide)
    have hrR : Room 4 _ := hr.mono (by decide)
    have hrC : Room 4 _ := hr.mono (by decide)
    have hrL : Room 6 _ := hr
    refine ⟨_, pss_cons (ps_set (i := 2) scZ.nd rfl (Or.inl rfl) (pe_callTy call_list_of (by rfl) T.list (by decide +kernel) (pa_cons (pv 1) pa_nil)))
      (pss_cons (ps_set (i := 3) scZ.nd rfl (Or.inl rfl) (pe_op op_cat (pe_lst (pa_cons pe_bl pa_nil)) (pe_lc (own := [("_law_one", 9), ("_law_other", 10)]) (g := gTup K 2 (gCons (gName 9) (gCons (gName 10) gNil))) (tt := tYes) rfl scZ.nd (pi_zip (by rfl) T.zip (pa_cons (pv 1) (pa_cons (pe_slice sl_list (pv 1) (po_some pe_int) po_none) pa_nil))) (blkOk_by (own := [("_law_one", 9), ("_law_other", 10)]) (N := NLZ) (sc := defScope sRight) (by decide +kernel)) (fun _ _ _ _ _ => pg_tup rfl (pgs_cons (pg_name (i := 9) scZ.nd rfl (Or.inl rfl)) (pgs_cons (pg_name (i := 10) scZ.nd rfl (Or.inl rfl)) pgs_nil))) (fun _ _ _ _ _ => pts_nil) (fun _ _ _ _ _ => (pe_call GA hrA (by rfl) gA kA bA .nil pass0 (pa_cons (pv 9) (pa_cons (pv 10) pa_nil)))))))
      (pss_cons (ps_set (i := 4) scZ.nd rfl (Or.inl rfl) (pe_call GI hrI (by rfl) gI kI bI .nil pass0 (pa_cons (pe_slice sl_list (pv 3) po_none (po_some (pe_callB call_len_seq (by rfl) T.len PySem.boot_len (pa_cons (pv 1) pa_nil)))) pa_nil)))
      (pss_cons (ps_if (pt_cmpR op_ne (pe_callB (call_rep gd hr.units) (by rfl) T.repr (by decide +kernel) (pa_cons (pe_lstS (pa_cons (pe_call GF hrF (by rfl) gF kF bF .nil pass0 (pa_cons (pv 1) pa_nil)) (pa_cons (pe_callKw (m := 1) (ks := ["windows"]) id id GF hrF (by rfl) gF kF qF (fun _ _ _ r => r) pass0 (pk_cons (pv 1) pk_nil)) pa_nil))) pa_nil))
          (pe_callB (call_rep gd hr.units) (by rfl) T.repr (by decide +kernel) (pa_cons (pe_lstS (pa_cons (pv 4) (pa_cons (pv 4) pa_nil))) pa_nil)) (nomark _)) (pss_one (ps_ret pe_bl)) pss_nil)
      (pss_cons (ps_if (pt_cmpR (op_neD hr.units) (pe_lc (own := [("_law_one", 9), ("_law_other", 10)]) (g := gTup K 2 (gCons (gName 9) (gCons (gName 10) gNil))) (tt := tYes) rfl scZ.nd (pi_zip (by rfl) T.zip (pa_cons (pv 1) (pa_cons (pe_slice sl_list (pv 1) (po_some pe_int) po_none) pa_nil))) (blkOk_by (own := [("_law_one", 9), ("_law_other", 10)]) (N := NLZ) (sc := defScope sRight) (by decide +kernel)) (fun _ _ _ _ _ => pg_tup rfl (pgs_cons (pg_name (i := 9) scZ.nd rfl (Or.inl rfl)) (pgs_cons (pg_name (i := 10) scZ.nd rfl (Or.inl rfl)) pgs_nil))) (fun _ _ _ _ _ => pts_nil) (fun _ _ _ _ _ => (pe_call GR hrR (by rfl) gR kR bR .nil pass0 (pa_cons (pv 9) (pa_cons (pv 10) pa_nil)))))
          (pe_lc (own := [("_law_flag", 11)]) (g := gName 11) (tt := tYes) rfl scZ.nd (pi_list (pe_slice sl_list (pv 3) (po_some pe_int) (po_some (pe_callB call_len_seq (by rfl) T.len PySem.boot_len (pa_cons (pv 1) pa_nil))))) (blkOk_by (own := [("_law_flag", 11)]) (N := NLZ) (sc := defScope sRight) (by decide +kernel))
            (fun _ _ _ _ _ => pg_name (i := 11) scZ.nd rfl (Or.inl rfl)) (fun _ _ _ _ _ => pts_nil) (fun _ _ _ _ _ => pe_not (pv 11))) (nomark _)) (pss_one (ps_ret pe_bl)) pss_nil)
      (pss_cons (ps_set (i := 5) scZ.nd rfl (Or.inl rfl) (pe_op op_cat (pe_lc (own := [("_law_one", 9)]) (g := gName 9) (tt := tYes) rfl scZ.nd (pi_list (pv 1)) (blkOk_by (own := [("_law_one", 9)]) (N := NLZ) (sc := defScope sRight) (by decide +kernel)) (fun _ _ _ _ _ => pg_name (i := 9) scZ.nd rfl (Or.inl rfl)) (fun _ _ _ _ _ => pts_nil) (fun _ _ _ _ _ => (pe_ix (r := rIxT K) ix_tup (pv 9) pe_int (fun _ _ => rfl))))
          (pe_lst (pa_cons (pe_call GD hrD (by rfl) gD kD bD .nil pass0 (pa_cons (pv 0) (pa_cons pe_int pa_nil))) (pa_cons pe_int (pa_cons (pe_op op_sub (pe_op op_pow pe_int pe_int) pe_int) pa_nil))))))
      (pss_cons (ps_for PassesOwn.never rfl (pi_list (pe_op op_cat (pv 5) (pe_lc (own := [("_law_one", 9)]) (g := gName 9)  rfl scZ.nd (pi_list (pv 1)) (blkOk_by (own := [("_law_one", 9)]) (N := NLZ) (sc := defScope sRight) (by decide +kernel)) (fun _ _ _ _ _ => pg_name (i := 9) scZ.nd rfl (Or.inl rfl)) (fun _ _ _ _ _ => (pts_one (pt_cmp (pc_notN (pe_ix (r := rIxT K) ix_tup (pv 9) pe_int (fun _ _ => rfl)))))) (fun _ _ _ _ _ => (pe_op op_add (pe_call GT hrT (by rfl) gT kT bT .nil pass0 (pa_cons (pv 9) pa_nil)) (pe_call GD hrD (by rfl) gD kD bD .nil pass0 (pa_cons (pv 0) (pa_cons pe_int pa_nil)))))))) (pg_name (i := 6) scZ.nd rfl (Or.inr rfl))
        (pss_cons (ps_if (pt_cmpR (op_neD hr.units) (pe_lc (own := [("_law_one", 9)]) (g := gName 9) (tt := tYes) rfl scZ.nd (pi_list (pv 1)) (blkOk_by (own := [("_law_one", 9)]) (N := NLZ) (sc := defScope sRight) (by decide +kernel)) (fun _ _ _ _ _ => pg_name (i := 9) scZ.nd rfl (Or.inl rfl)) (fun _ _ _ _ _ => pts_nil) (fun _ _ _ _ _ => (pe_call GC hrC (by rfl) gC kC bC .nil pass0 (pa_cons (pv 9) (pa_cons (pv 6) pa_nil))))) (pe_lc (own := [("_law_one", 9)]) (g := gName 9) (tt := tYes) rfl scZ.nd (pi_list (pv 1)) (blkOk_by (own := [("_law_one", 9)]) (N := NLZ) (sc := defScope sRight) (by decide +kernel)) (fun _ _ _ _ _ => pg_name (i := 9) scZ.nd rfl (Or.inl rfl)) (fun _ _ _ _ _ => pts_nil) (fun _ _ _ _ _ => (pe_chain op_le op_le (pe_ix (r := rIxT K) ix_tup (pv 9) pe_int (fun _ _ => rfl)) (pv 6) (pe_call GT hrT (by rfl) gT kT bT .nil pass0 (pa_cons (pv 9) pa_nil))))) (nomark _)) (pss_one (ps_ret pe_bl)) pss_nil)
        (pss_one (ps_if (pt_cmp (pc_isN (pv 4)))
          (pss_cons (ps_set (i := 7) scZ.nd rfl (Or.inl rfl) (pe_call GI hrI (by rfl) gI kI bI .nil pass0 (pa_cons (pe_lc (own := [("_law_one", 9)]) (g := gName 9) (tt := tYes) rfl scZ.nd (pi_list (pv 1)) (blkOk_by (own := [("_law_one", 9)]) (N := NLZ) (sc := defScope sRight) (by decide +kernel)) (fun _ _ _ _ _ => pg_name (i := 9) scZ.nd rfl (Or.inl rfl)) (fun _ _ _ _ _ => pts_nil) (fun _ _ _ _ _ => (pe_cmpR op_ge (pe_call GT hrT (by rfl) gT kT bT .nil pass0 (pa_cons (pv 9) pa_nil)) (pv 6) (nomark _)))) pa_nil)))
          (pss_cons (ps_set (i := 8) scZ.nd rfl (Or.inl rfl) (pe_lstS (pa_cons (pe_call GL hrL (by rfl) gL kL bL .nil pass0 (pa_cons (pv 1) (pa_cons (pv 6) pa_nil))) (pa_cons (pe_callKw (m := 2) (ks := ["version", "windows"]) swV sw GL hrL (by rfl) gL kL qL sw_rel pass0 (pk_cons (pv 6) (pk_cons (pv 1) pk_nil))) pa_nil))))
          (pss_one (ps_if (pt_cmpR op_ne (pe_callB (call_rep gd hr.units) (by rfl) T.repr (by decide +kernel) (pa_cons (pv 8) pa_nil)) (pe_callB (call_rep gd hr.units) (by rfl) T.repr (by decide +kernel) (pa_cons (pe_lstS (pa_cons (pv 7) (pa_cons (pv 7) pa_nil))) pa_nil)) (nomark _)) (pss_one (ps_ret pe_bl)) pss_nil)))) pss_nil))))
      (pss_one (ps_ret (pe_cmpR (op_eqD hr.units) (pv 1) (pv 2) (nomark _)))))))))), ?_⟩
    -- kept
    refine ⟨_, rfl, a, _, rfl, .inl (SqL.of hw0.1), fun pk hpk => ?_⟩
    obtain ⟨J1, j1, S1, k1⟩ := mk (o := .lst (ts.map V.ref)) hpk
    rw [j1]
    have npk : pk ≠ r := (R0.free hpk).symm
    -- flags
    refine ⟨(by show 1 ≤ sizeLine; decide), fun p2 hp2 => ?_⟩
    obtain ⟨J2, j2, S2, k2⟩ := mk (o := .lst [V.bl false]) hp2
    rw [j2]
    have hw2 := (hw0.same S1).same S2
    refine ⟨_, rfl, _, rfl, _, rfl, a, _, rfl, SqL.of hw2.1, fun p3 hp3 => ?_⟩
    rw [cut_tail]
    obtain ⟨J3, j3, S3, k3⟩ := mk (o := .lst (ts.tail.map V.ref)) hp3
    rw [j3]
    have hw3 := hw2.same S3
    refine ⟨a, p3, _, _, rfl, SqL.of hw3.1, SqL.of k3, fun D4 hD4 => ?_⟩
    refine lc_nb (K := K) hw3 k3 (by omega) hD4 (fun x y => .bl (fallsW x y)) ?_ ?_
    · intro t u v x y J RR ZZ S hx hy wt wu ht hR
      exact ⟨t, _, rfl, SqT.of ht, rfl, _, _, rfl, _, _, rfl, rfl, rfl, yesT ⟨_, rfl, _, rfl, u, v, x, y, rfl, wt, wu, hR⟩⟩
    intro J4 S4 k4
    rw [lfs_map] at k4
    refine ⟨p2, D4, _, _, rfl, rfl, S4 _ _ (S3 _ _ k2), k4, ?_, fun p5 hp5 => ?_⟩
    · rw [List.length_map, lfs_len, sizeLine_eq]
      show 1 + _ ≤ _
      omega
    obtain ⟨J5, j5, S5, k5⟩ := mk (o := .lst ((false :: lfs ws).map V.bl)) hp5
    have j5' : upd J4 p5 (.lst ([V.bl false] ++ (lfs ws).map V.bl)) = J5 := j5
    rw [j5']
    have hw5 := (hw3.same S4).same S5
    -- due
    refine ⟨_, rfl, _, rfl, a, _, rfl, .inl (SqL.of hw5.1), _, rfl, p5, _, rfl, SqL.of k5, fun p6 hp6 => ?_⟩
    have ec : cutV ((false :: lfs ws).map V.bl) none (some (((ts.map V.ref).length : Nat) : Int)) = ((false :: lfs ws).take ws.length).map V.bl := by
      rw [cut_take, List.length_map, pr_len hw0.2, ← List.map_take]
    rw [ec]
    obtain ⟨J6, j6, S6, k6⟩ := mk (o := .lst (((false :: lfs ws).take ws.length).map V.bl)) hp6
    rw [j6]
    refine ⟨p6, _, rfl, SqL.of k6, ?_, fun J7 S7 => ?_⟩
    · rw [List.length_take]
      omega
    rw [due_eq ok]
    have S07 : Same H J7 := (((((S1.trans S2).trans S3).trans S4).trans S5).trans S6).trans S7
    have hw7 := hw0.same S07
    have sm : Sml (N3.fD (firstFall ws)) := smlF fun k hk => by have := fall_le hk; omega
    -- repr of the two first_falling
    refine ⟨_, rfl, a, ts, ws, BB, rfl, hw7, ok, by omega, fun J8 S8 => ?_⟩
    refine ⟨_, rfl, rfl, a, ts, ws, BB, rfl, hw7.same S8, ok, by omega, fun J9 S9 => ?_⟩
    refine ⟨(by show 2 ≤ sizeLine; decide), fun p10 hp10 np10 => ?_⟩
    obtain ⟨J10, j10, S10, k10⟩ := mk (o := .lst [fV (firstFall ws), fV (firstFall ws)]) hp10
    rw [j10]
    refine ⟨_, _, rfl, .lst np10 k10 (.cons (fDa _) (.cons (fDa _) .nil)), okL2 sm sm, ?_⟩
    refine ⟨_, rfl, _, rfl, (by show 2 ≤ sizeLine; decide), fun p11 hp11 np11 => ?_⟩
    obtain ⟨J11, j11, S11, k11⟩ := mk (o := .lst [fV (firstFall ws), fV (firstFall ws)]) hp11
    rw [j11]
    refine ⟨_, _, rfl, .lst np11 k11 (.cons (fDa _) (.cons (fDa _) .nil)), okL2 sm sm, ?_⟩
    refine ⟨rfl, _, rfl, ?_⟩
    rw [decide_eq_true rfl]
    refine iteF ?_
    have S711 : Same J7 J11 := ((S8.trans S9).trans S10).trans S11
    have hw11 := hw7.same S711
    have k5' : J11 p5 = some (.lst ((false :: lfs ws).map V.bl)) := S711 _ _ (S7 _ _ (S6 _ _ k5))
    -- rises
    refine ⟨_, rfl, _, rfl, _, rfl, a, _, rfl, SqL.of hw11.1, fun p12 hp12 => ?_⟩
    rw [cut_tail]
    obtain ⟨J12, j12, S12, k12⟩ := mk (o := .lst (ts.tail.map V.ref)) hp12
    rw [j12]
    have hw12 := hw11.same S12
    refine ⟨a, p12, _, _, rfl, SqL.of hw12.1, SqL.of k12, fun D13 hD13 => ?_⟩
    refine lc_nb (K := K) hw12 k12 (by omega) hD13 (fun x y => .bl (risesW x y)) ?_ ?_
    · intro t u v x y J RR ZZ S hx hy wt wu ht hR
      exact ⟨t, _, rfl, SqT.of ht, rfl, _, _, rfl, _, _, rfl, rfl, rfl, yesT ⟨_, rfl, _, rfl, u, v, x, y, BB, rfl, wt, wu, ok x hx, ok y hy, hR⟩⟩
    intro J13 S13 k13
    rw [rise_map ok] at k13
    have hw13 := hw12.same S13
    have S1113 := S12.trans S13
    refine ⟨_, rfl, _, rfl, _, rfl, a, _, rfl, .inl (SqL.of hw13.1), _, rfl, p5, _, rfl, SqL.of (S1113 _ _ k5'), fun p14 hp14 => ?_⟩
    have ec2 : cutV ((false :: lfs ws).map V.bl) (some 1) (some (((ts.map V.ref).length : Nat) : Int)) = (lfs ws).map V.bl := by
      rw [List.length_map, pr_len hw0.2]
      exact cut_mid _ _ _ (by rw [List.length_map, lfs_len])
    rw [ec2]
    obtain ⟨J14, j14, S14, k14⟩ := mk (o := .lst ((lfs ws).map V.bl)) hp14
    rw [j14]
    refine ⟨p14, rfl, ⟨_, SqL.of k14⟩, fun D15 hD15 => ?_⟩
    refine lc_list (K := K) (a := p14) (xs := (lfs ws).map V.bl) (fun i J => Same J14 J ∧ J D15 = some (.lst ((((lfs ws).take i).map not).map V.bl)))
      ⟨new_same hD15, upd_same⟩ (fun i J _ h => SqL.of (h.1 _ _ k14)) ?_ ?_
    · rintro i x J hx ⟨S, hJ⟩
      rw [List.getElem?_map] at hx
      cases hb : (lfs ws)[i]? with
      | none => rw [hb] at hx; cases hx
      | some b =>
        rw [hb] at hx
        obtain rfl : V.bl b = x := Option.some.inj hx
        refine ⟨rfl, yesT ⟨_, rfl, _, rfl, _, hJ, ?_, ?_, ?_⟩⟩
        · rw [List.length_map, List.length_map, List.length_take, lfs_len, sizeLine_eq]
          omega
        · intro c o e
          rw [upd_ne (ne_of_none e hD15)]
          exact S c o e
        · rw [upd_same, take_next hb, List.map_append, List.map_append]
          rfl
    rintro J15 ⟨S15, k15⟩
    rw [List.take_of_length_le (by rw [List.length_map]; exact Nat.le_refl _)] at k15
    refine ⟨_, _, .lst (SqL.of (S15 _ _ (S14 _ _ k13))) (dpB _), .lst (SqL.of k15) (dpB _), shB _, shB _, _, rfl, ?_⟩
    rw [eqB]
    refine iteF ?_
    have S015 : Same H J15 := (((S07.trans S711).trans S1113).trans S14).trans S15
    have hw15 := hw0.same S015
    have R15 := R0.same S015
    have hk15 : WsAt J15 pk ts ws := ⟨((((((S2.trans S3).trans S4).trans S5).trans S6).trans S7).trans (((S711.trans S1113).trans S14).trans S15)) _ _ k1, hw15.2⟩
    -- numbers
    refine ⟨_, rfl, a, rfl, ⟨_, SqL.of hw15.1⟩, fun D16 hD16 => ?_⟩
    have nD16 : D16 ≠ r := (R15.free hD16).symm
    refine lc_ws (K := K) hw15 (by omega) hD16 (fun w => .int w.1) ?_ ?_
    · intro t w J RR ZZ S hx wt hR
      exact ⟨rfl, yesT ⟨_, rfl, t, _, _, _, rfl, rfl, SqT.of wt, rfl, hR⟩⟩
    intro J16 S16 k16
    have R16 := R15.same S16
    refine ⟨_, rfl, r, _, rfl, R16, by decide, by decide, fun d17 J17 E17 R17 a0 a1 => ?_⟩
    refine ⟨_, _, rfl, rfl, ⟨by decide, by decide, by decide⟩, _, _, rfl, rfl, (by show 3 ≤ sizeLine; decide), fun p18 hp18 => ?_⟩
    obtain ⟨J18, j18, S18, k18⟩ := mk (o := .lst [V.int d17, V.int 0, V.int ((10 : Int) ^ (59 : Int).toNat - 1)]) hp18
    rw [j18]
    have k16' := S18 _ _ (E17 _ _ nD16 k16)
    refine ⟨D16, p18, _, _, rfl, rfl, k16', k18, ?_, fun p19 hp19 => ?_⟩
    · rw [List.length_map, sizeLine_eq]
      show _ + 3 ≤ _
      omega
    obtain ⟨J19, j19, S19, k19⟩ := mk (o := .lst ((ws.map fun w => V.int w.1) ++ [V.int d17, V.int 0, V.int ((10 : Int) ^ (59 : Int).toNat - 1)])) hp19
    rw [j19]
    have R18 := R17.same S18
    have R19 := R18.same S19
    have np19 : p19 ≠ r := (R18.free hp19).symm
    have E1519 : Ext r J15 J19 := ((Ext.of S16).trans E17).trans ((Ext.of S18).trans (Ext.of S19))
    have hw19 := hw15.ext R15 nar E1519
    have hk19 := hk15.ext R15 npk E1519
    obtain ⟨na, ena, hna, lna⟩ : ∃ na : List Int, (ws.map fun w => V.int w.1) ++ [V.int d17, V.int 0, V.int ((10 : Int) ^ (59 : Int).toNat - 1)] = na.map V.int ∧
        (∀ n ∈ na, 0 ≤ n ∧ n ≤ NN) ∧ na.length ≤ 44 := by
      refine ⟨(ws.map fun w => w.1) ++ [d17, 0, (10 : Int) ^ (59 : Int).toNat - 1], by simp, fun n hn => ?_, by simp; omega⟩
      have qn : NN = 100000000000000000000000000000000000000000000000000000000000000 := rfl
      have qb : BB = 1000000000000000000000000000000000000000000000000000000000000 := rfl
      rw [e59] at hn
      rcases List.mem_append.mp hn with z | z
      · obtain ⟨w, hwm, rfl⟩ := List.mem_map.mp z
        have h1 := ok w hwm
        exact ⟨h1.1, by have := h1.2.1; omega⟩
      · simp only [List.mem_cons, List.not_mem_nil, or_false] at z
        rcases z with rfl | rfl | rfl
        · omega
        · omega
        · omega
    rw [ena] at k19
    -- the further numbers
    refine ⟨_, rfl, _, rfl, a, rfl, ⟨_, SqL.of hw19.1⟩, fun D20 hD20 => ?_⟩
    have nD20 : D20 ≠ r := (R19.free hD20).symm
    refine lc_list (K := K) (a := a) (xs := ts.map V.ref) (fun i J => Ext r J19 J ∧ Rng J r ∧ ∃ ns : List Int, J D20 = some (.lst (ns.map V.int)) ∧ ns.length ≤ i ∧ ∀ n ∈ ns, 0 ≤ n ∧ n ≤ NN)
      ⟨Ext.new hD20, R19.new hD20, [], upd_same, Nat.le_refl _, fun _ z => by cases z⟩ (fun i J _ h => SqL.of (hw19.ext R19 nar h.1).1) ?_ ?_
    · rintro i x J hx ⟨EJ, RJ, ns, hJ, hln, hns⟩
      obtain ⟨t, ww, rfl, h1, h2⟩ := (hw19.ext R19 nar EJ).ref hx
      have okw := ok ww (List.mem_of_getElem? h1)
      have hi := (List.getElem?_eq_some_iff.mp h1).1
      refine ⟨rfl, _, rfl, t, _, _, _, rfl, rfl, SqT.of h2, rfl, _, rfl, ?_⟩
      obtain ⟨l, h⟩ := ww
      cases h with
      | none => exact iteF ⟨EJ, RJ, ns, hJ, by omega, hns⟩
      | some z =>
        refine iteT ?_
        refine ⟨_, rfl, t, _, rfl, h2, _, rfl, r, _, rfl, RJ, by decide, by decide, fun d J2 E2 R2 b0 b1 => ?_⟩
        refine ⟨_, _, rfl, rfl, _, E2 _ _ nD20 hJ, ?_, ?_, R2.put nD20, ns ++ [z + d], ?_, by simp; omega, fun n hn => ?_⟩
        · rw [List.length_map, sizeLine_eq]
          omega
        · intro b o nb eb
          rw [upd_ne (ne_of_none eb hD20)]
          exact (EJ.trans E2) b o nb eb
        · rw [upd_same, List.map_append]
          rfl
        · rcases List.mem_append.mp hn with y | y
          · exact hns n y
          · rw [List.mem_singleton.mp y]
            have h3 := okw.2.2 z rfl
            have h4 : 0 ≤ l := okw.1
            have h5 : l ≤ z := h3.1
            have h6 : z ≤ BB := h3.2
            have qn : NN = 100000000000000000000000000000000000000000000000000000000000000 := rfl
            have qb : BB = 1000000000000000000000000000000000000000000000000000000000000 := rfl
            omega
    rintro J20 ⟨E20, R20, nb, k20, lnb, hnb⟩
    have hw20 := hw19.ext R19 nar E20
    have hk20 := hk19.ext R19 npk E20
    have k19' := E20 _ _ np19 k19
    refine ⟨p19, D20, _, _, rfl, rfl, k19', k20, ?_, fun p21 hp21 => ?_⟩
    · rw [List.length_map, List.length_map, sizeLine_eq]
      rw [List.length_map, pr_len hw0.2] at lnb
      omega
    obtain ⟨J21, j21, S21, k21⟩ := mk (o := .lst (na.map V.int ++ nb.map V.int)) hp21
    rw [j21]
    rw [← List.map_append] at k21
    have hall : ∀ n ∈ na ++ nb, 0 ≤ n ∧ n ≤ NN := fun n hn => (List.mem_append.mp hn).elim (hna n) (hnb n)
    have hw21 := hw20.same S21
    have hk21 := hk20.same S21
    have R21 := R20.same S21
    refine ⟨p21, rfl, ⟨_, SqL.of k21⟩, ?_⟩
    refine for_list (K := K) (a := p21) (xs := (na ++ nb).map V.int) (fun i σ J => ∃ c6 c7 c8 c9 c10 c11, σ = [some (.ref r), some (.ref a), some (.ref pk), some (.ref p5), some (fV (firstFall ws)), some (.ref p19), c6, c7, c8, c9, c10, c11] ∧ Same J21 J)
      ⟨_, _, _, _, _, _, rfl, Same.refl _⟩ (fun i σ J _ ⟨_, _, _, _, _, _, _, e⟩ => SqL.of (e _ _ k21)) ?_ ?_
    · rintro i x σ J hx ⟨c6, c7, c8, c9, c10, c11, rfl, SJ⟩
      obtain ⟨n, rfl, hn⟩ : ∃ n : Int, x = .int n ∧ n ∈ na ++ nb := by
        rw [List.getElem?_map] at hx
        cases e : (na ++ nb)[i]? with
        | none => rw [e] at hx; cases hx
        | some u => rw [e] at hx; exact ⟨u, (Option.some.inj hx).symm, List.mem_of_getElem? e⟩
      obtain ⟨n0, n1⟩ := hall n hn
      have hwJ := hw21.same SJ
      -- contains
      refine ⟨_, rfl, a, rfl, ⟨_, SqL.of hwJ.1⟩, fun D22 hD22 => ?_⟩
      refine lc_ws (K := K) hwJ (by omega) hD22 (fun w => .bl (contW w n)) ?_ ?_
      · intro t w J' RR ZZ S hm wt hR
        exact ⟨rfl, yesT ⟨_, rfl, _, rfl, t, w, BB, n, rfl, wt, ok w hm, n0, hR⟩⟩
      intro J22 S22 k22
      have hw22 := hwJ.same S22
      refine ⟨_, rfl, a, rfl, ⟨_, SqL.of hw22.1⟩, fun D23 hD23 => ?_⟩
      refine lc_ws (K := K) hw22 (by omega) hD23 (fun w => .bl (contW w n)) ?_ ?_
      · intro t w J' RR ZZ S hm wt hR
        refine ⟨rfl, yesT ⟨_, rfl, t, _, _, _, rfl, rfl, SqT.of wt, rfl, _, rfl, _, _, rfl, rfl, _, rfl, ?_⟩⟩
        by_cases e : w.1 ≤ n
        · rw [decide_eq_true e]
          refine iteT ⟨_, rfl, t, w, rfl, wt, _, _, rfl, rfl, ?_⟩
          have e2 : contW w n = decide (n ≤ topI w) := by
            unfold contW
            rw [decide_eq_true e, Bool.true_and, reach_eq n1]
          show RR (.bl (decide (n ≤ topI w))) J'
          rw [← e2]
          exact hR
        · rw [decide_eq_false e]
          have e2 : contW w n = false := by
            unfold contW
            rw [decide_eq_false e, Bool.false_and]
          rw [e2] at hR
          exact iteF hR
      intro J23 S23 k23
      rw [bl_map] at k22 k23
      refine ⟨_, _, .lst (SqL.of (S23 _ _ k22)) (dpB _), .lst (SqL.of k23) (dpB _), shB _, shB _, _, rfl, ?_⟩
      rw [eqB]
      refine iteF ?_
      have SJ23 := (SJ.trans S22).trans S23
      have hw23 := hw21.same SJ23
      refine ⟨_, rfl, _, rfl, ?_⟩
      cases ff : firstFall ws with
      | some k => exact iteF ⟨_, _, _, _, _, _, rfl, SJ23⟩
      | none =>
        refine iteT ?_
        refine ⟨_, rfl, a, rfl, ⟨_, SqL.of hw23.1⟩, fun D24 hD24 => ?_⟩
        refine lc_ws (K := K) hw23 (by omega) hD24 (fun w => .bl (reach w.2 n)) ?_ ?_
        · intro t w J' RR ZZ S hm wt hR
          rw [reach_eq n1] at hR
          exact ⟨rfl, yesT ⟨_, rfl, t, w, rfl, wt, _, rfl, _, _, rfl, rfl, hR⟩⟩
        intro J24 S24 k24
        rw [bl_map] at k24
        refine ⟨D24, _, rfl, SqL.of k24, by rw [List.length_map]; omega, fun J25 S25 => ?_⟩
        have SJ25 := (SJ23.trans S24).trans S25
        have hw25 := hw21.same SJ25
        refine ⟨_, rfl, _, rfl, a, ts, ws, BB, n, rfl, hw25, ok, by omega, ff, n0, fun J26 S26 => ?_⟩
        refine ⟨_, rfl, _, rfl, rfl, a, ts, ws, BB, n, rfl, hw25.same S26, ok, by omega, ff, n0, fun J27 S27 => ?_⟩
        have sm2 : Sml (N3.fD (leastW ws n)) := smlF fun k hk => by
          have h3 := fIdx_lt hk
          rw [List.length_map] at h3
          omega
        refine ⟨(by show 2 ≤ sizeLine; decide), fun p28 hp28 np28 => ?_⟩
        obtain ⟨J28, j28, S28, k28⟩ := mk (o := .lst [fV (leastW ws n), fV (leastW ws n)]) hp28
        rw [j28]
        refine ⟨_, rfl, _, _, rfl, .lst np28 k28 (.cons (fDa _) (.cons (fDa _) .nil)), okL2 sm2 sm2, ?_⟩
        refine ⟨_, rfl, _, rfl, (by show 2 ≤ sizeLine; decide), fun p29 hp29 np29 => ?_⟩
        obtain ⟨J29, j29, S29, k29⟩ := mk (o := .lst [fV (leastW ws n), fV (leastW ws n)]) hp29
        have j29' : upd J28 p29 (.lst [fV (fIdx (ws.map fun w => reach w.2 n)), fV (fIdx (ws.map fun w => reach w.2 n))]) = J29 := j29
        rw [j29']
        refine ⟨_, _, rfl, .lst np29 k29 (.cons (fDa _) (.cons (fDa _) .nil)), okL2 sm2 sm2, ?_⟩
        refine ⟨rfl, _, rfl, ?_⟩
        rw [decide_eq_true rfl]
        refine iteF ?_
        exact ⟨_, _, _, _, _, _, rfl, (((SJ25.trans S26).trans S27).trans S28).trans S29⟩
    · rintro σ J ⟨c6, c7, c8, c9, c10, c11, rfl, SJ⟩
      have hwJ := hw21.same SJ
      have hkJ := hk21.same SJ
      refine ⟨_, rfl, _, rfl, _, _, .lst (SqL.of hwJ.1) (dpWs hwJ.2), .lst (SqL.of hkJ.1) (dpWs hkJ.2), shWs ws, shWs ws, ?_⟩
      rw [PySem.SeqAt.eqv_refl _ (by simp only [PyData.canLay0]; exact layWs ws)]
      exact q J ((((Ext.of S015).trans E1519).trans E20).trans (Ext.of (S21.trans SJ))) (R21.same SJ)
end
end N3
namespace N3
open PySem L2 G
def spLaw (K : PySem.W.Frag) : Sp := fun vs H Q _ => ∃ (a : Addr) (ns : List Int), vs = [.ref a] ∧
  SqL K H a (ns.map V.int) ∧ ns.length ≤ 63 ∧ ∀ H', Q (.bl true) H'
theorem e58 : (10 : Int) ^ (58 : Int).toNat = 10000000000000000000000000000000000000000000000000000000000 := by decide +kernel
theorem e20 : (10 : Int) ^ (20 : Int).toNat = 100000000000000000000 := by decide +kernel
theorem e9 : (10 : Int) ^ (9 : Int).toNat = 1000000000 := by decide +kernel
theorem mv_ok {f : Int} {w : Wn} (h : Wok 200 w) (f0 : 0 ≤ f) (f1 : f ≤ 10000000000000000000000000000000000000000000000000000000000) : Wok BB (mv f w) := by
  have qb : BB = 1000000000000000000000000000000000000000000000000000000000000 := rfl
  obtain ⟨l, o⟩ := w
  obtain ⟨h1, h2, h3⟩ := h
  have h1' : 0 ≤ l := h1
  have h2' : l ≤ 200 := h2
  refine ⟨by show 0 ≤ l + f; omega, by show l + f ≤ BB; omega, fun x hx => ?_⟩
  cases o with
  | none => cases hx
  | some z =>
    obtain rfl : z + f = x := Option.some.inj hx
    have h4 := h3 z rfl
    have h5 : l ≤ z := h4.1
    have h6 : z ≤ 200 := h4.2
    exact ⟨by show l + f ≤ z + f; omega, by omega⟩

section
variable {P : Program} {w : World} {K : PySem.W.Frag} {mg : Str → Option Value} {base : Heap}
theorem scL : FnScope ["_law_script", "_law_k", "_law_rng_here", "_law_turn", "_law_most", "_law_some", "_law_low"] ["_law_script"] (defScope sLaw) :=
  ⟨rfl, rfl, rfl, by decide +kernel, rfl, by decide +kernel, by decide +kernel⟩
theorem ok_law {f fG fD fH fW fM fE fX fR fC : Addr} {fd fdG fdD fdH fdW fdM fdE fdX fdR fdC : FuncData} (F : Fun K "law" "law" sLaw f fd) (T : Txt mg)
    (GG : FnOk P w K mg base CX0 1 fG fdG ["_law_script", "_law_k"] (spRng K)) (kG : PySem.W.keepIn K (.ref fG) = true) (bG : Binds K fdG ["_law_script", "_law_k"] []) (gG : mg "_law_rng" = some (.ref fG))
    (GD : FnOk P w K mg base CX0 1 fD fdD ["_law_rng_here", "_law_many"] spDraw) (kD : PySem.W.keepIn K (.ref fD) = true) (bD : Binds K fdD ["_law_rng_here", "_law_many"] []) (gD : mg "_law_draw" = some (.ref fD))
    (GH : FnOk P w K mg base CX0 2 fH fdH ["_law_rng_here", "_law_options"] (spChoice K)) (kH : PySem.W.keepIn K (.ref fH) = true) (bH : Binds K fdH ["_law_rng_here", "_law_options"] []) (gH : mg "_law_choice" = some (.ref fH))
    (GW : FnOk P w K mg base CX0 2 fW fdW ["_law_rng_here", "_law_many", "_law_loose"] spWins) (kW : PySem.W.keepIn K (.ref fW) = true) (bW : Binds K fdW ["_law_rng_here", "_law_many", "_law_loose"] []) (gW : mg "_law_windows" = some (.ref fW))
    (GM : FnOk P w K mg base CX0 1 fM fdM ["_law_some", "_law_far"] spMoved) (kM : PySem.W.keepIn K (.ref fM) = true) (bM : Binds K fdM ["_law_some", "_law_far"] []) (gM : mg "_law_moved" = some (.ref fM))
    (GE : FnOk P w K mg base CX0 2 fE fdE ["_law_rng_here", "_law_some"] spRepl) (kE : PySem.W.keepIn K (.ref fE) = true) (bE : Binds K fdE ["_law_rng_here", "_law_some"] []) (gE : mg "_law_replaced" = some (.ref fE))
    (GX : FnG P w K mg base CX0 7 fX fdX ["_law_rng_here", "_law_some"] spRight) (kX : PySem.W.keepIn K (.ref fX) = true) (bX : Binds K fdX ["_law_rng_here", "_law_some"] []) (gX : mg "_law_list_right" = some (.ref fX))
    (GR : FnOk P w K mg base CX0 4 fR fdR ["first", "second"] spRises) (kR : PySem.W.keepIn K (.ref fR) = true) (gR : mg "rises" = some (.ref fR))
    (qR : ∀ (s : Shared) (ws : List Value), ws.length = 2 → BindsTo s fdR ⟨[], (["first", "second"] : List Str).zip ws⟩ ((["first", "second"] : List Str).zip (id ws)))
    (GC : FnOk P w K mg base CX0 4 fC fdC ["window", "version"] spCont) (kC : PySem.W.keepIn K (.ref fC) = true) (gC : mg "contains" = some (.ref fC))
    (qC : ∀ (s : Shared) (ws : List Value), ws.length = 2 → BindsTo s fdC ⟨[], (["version", "window"] : List Str).zip ws⟩ ((["window", "version"] : List Str).zip (sw ws))) :
    FnG P w K mg base CX0 8 f fd ["_law_script"] (spLaw K) := by
  refine okG F scL (fun vs H Q E h => ?_) (fun cdv A outer s H vs Q E gd hr h => ?_)
  · obtain ⟨a, ns, rfl, _⟩ := h
    rfl
  · obtain ⟨a, ns, rfl, hS, hlen, q⟩ := h
    have hrG : Room 1 _ := hr.mono (by decide)
    have hrD : Room 1 _ := hr.mono (by decide)
    have hrM : Room 1 _ := hr.mono (by decide)
    have hrH : Room 2 _ := hr.mono (by decide)
    have hrW : Room 2 _ := hr.mono (by decide)
    have hrE : Room 2 _ := hr.mono (by decide)
    have hrR : Room 4 _ := hr.mono (by decide)
    have hrC : Room 4 _ := hr.mono (by decide)
    have qb : BB = 1000000000000000000000000000000000000000000000000000000000000 := rfl
    refine ⟨_, pss_cons (ps_for PassesOwn.never rfl (pi_range1 (by rfl) T.range (pa_cons
          (pe_callB (call_max2 rfl) (by rfl) T.max (by decide +kernel) (pa_cons pe_int (pa_cons
            (pe_callB (call_min2 rfl) (by rfl) T.min (by decide +kernel) (pa_cons (pe_callB call_len_seq (by rfl) T.len PySem.boot_len (pa_cons (pv 0) pa_nil)) (pa_cons pe_int pa_nil))) pa_nil))) pa_nil))
        (pg_name (i := 1) scL.nd rfl (Or.inl rfl))
        (pss_cons (ps_set (i := 2) scL.nd rfl (Or.inl rfl) (pe_call GG hrG (by rfl) gG kG bG .nil pass0 (pa_cons (pv 0) (pa_cons (pv 1) pa_nil))))
        (pss_one (ps_for PassesOwn.never rfl (pi_range1 (by rfl) T.range (pa_cons pe_int pa_nil)) (pg_name (i := 3) scL.nd rfl (Or.inl rfl))
          (pss_cons (ps_set (i := 4) scL.nd rfl (Or.inl rfl) (pe_ifExp (pt_cmpR op_gt (pe_call GD hrD (by rfl) gD kD bD .nil pass0 (pa_cons (pv 2) (pa_cons pe_int pa_nil))) pe_int (nomark _)) pe_int pe_int))
          (pss_cons (ps_set (i := 5) scL.nd rfl (Or.inl rfl) (pe_call GW hrW (by rfl) gW kW bW .nil pass0 (pa_cons (pv 2) (pa_cons (pe_call GD hrD (by rfl) gD kD bD .nil pass0 (pa_cons (pv 2) (pa_cons (pv 4) pa_nil))) (pa_cons (pe_call GD hrD (by rfl) gD kD bD .nil pass0 (pa_cons (pv 2) (pa_cons pe_int pa_nil))) pa_nil)))))
          (pss_cons (ps_set (i := 5) scL.nd rfl (Or.inl rfl) (pe_call GM hrM (by rfl) gM kM bM .nil pass0 (pa_cons (pv 5) (pa_cons (pe_call GH hrH (by rfl) gH kH bH .nil pass0 (pa_cons (pv 2) (pa_cons (pe_lst (pa_cons pe_int (pa_cons pe_int (pa_cons (pe_op op_add pe_int (pe_call GD hrD (by rfl) gD kD bD .nil pass0 (pa_cons (pv 2) (pa_cons pe_int pa_nil)))) (pa_cons (pe_op op_pow pe_int pe_int) (pa_cons (pe_op op_pow pe_int pe_int) (pa_cons (pe_op op_pow pe_int pe_int) pa_nil))))))) pa_nil))) pa_nil))))
          (pss_cons (ps_if (PW.pt (pw_or (pt_not (pt_val (pe_callG GX gd hr (by rfl) gX kX bX .nil pass0 (pa_cons (pv 2) (pa_cons (pv 5) pa_nil)))))
              (pw_or1 (pt_not (pt_val (pe_callG GX gd hr (by rfl) gX kX bX .nil pass0 (pa_cons (pv 2) (pa_cons (pe_call GE hrE (by rfl) gE kE bE .nil pass0 (pa_cons (pv 2) (pa_cons (pv 5) pa_nil))) pa_nil)))))))) (pss_one (ps_ret pe_bl)) pss_nil)
          (pss_one (ps_if (pt_cmpR (op_neD hr.units) (pv 5) (pe_lst pa_nil) (nomark _))
            (pss_cons (ps_set (i := 6) scL.nd rfl (Or.inl rfl) (pe_call GD hrD (by rfl) gD kD bD .nil pass0 (pa_cons (pv 2) (pa_cons pe_int pa_nil))))
            (pss_cons (ps_asg (pe_tup (pa_cons (pv 6) (pa_cons (pe_ix ix_list (pe_lst (pa_cons pe_non (pa_cons (pv 6) (pa_cons (pe_op op_add (pv 6) pe_int) pa_nil)))) (pe_call GD hrD (by rfl) gD kD bD .nil pass0 (pa_cons (pv 2) (pa_cons pe_int pa_nil))) (fun _ _ => rfl)) pa_nil)))
              (pg_sub (pv 5) (pe_call GD hrD (by rfl) gD kD bD .nil pass0 (pa_cons (pv 2) (pa_cons (pe_callB call_len_seq (by rfl) T.len PySem.boot_len (pa_cons (pv 5) pa_nil)) pa_nil))) set_list))
            (pss_one (ps_if (pt_not (pt_val (pe_callG GX gd hr (by rfl) gX kX bX .nil pass0 (pa_cons (pv 2) (pa_cons (pv 5) pa_nil))))) (pss_one (ps_ret pe_bl)) pss_nil)))) pss_nil))))))))))
      (pss_one (ps_ret (pe_and
        (pe_cmpR op_isBl (pe_callKw (m := 2) (ks := ["first", "second"]) id id GR hrR (by rfl) gR kR qR (fun _ _ _ r => r) pass0 (pk_cons (pe_tup (pa_cons pe_int (pa_cons pe_int pa_nil))) (pk_cons (pe_tup (pa_cons pe_int (pa_cons pe_non pa_nil))) pk_nil))) pe_bl (nomark _))
        (pe_one (pe_cmpR op_isBl (pe_callKw (m := 2) (ks := ["version", "window"]) swV sw GC hrC (by rfl) gC kC qC sw_rel pass0 (pk_cons pe_int (pk_cons (pe_tup (pa_cons pe_int (pa_cons pe_int pa_nil))) pk_nil))) pe_bl (nomark _)))))), ?_⟩
    have hN : ∀ L : Int, 0 ≤ L → 0 ≤ (if (if 5 < L then 5 else L) > 1 then (if 5 < L then 5 else L) else 1) ∧
        (if (if 5 < L then 5 else L) > 1 then (if 5 < L then 5 else L) else 1) ≤ 10 := by
      intro L hL
      by_cases h1 : 5 < L
      · rw [if_pos h1]
        decide
      · rw [if_neg h1]
        split <;> omega
    have hN2 := hN ((ns.map V.int).length : Nat) (by omega)
    refine ⟨_, rfl, a, _, rfl, .inl hS, _, _, rfl, _, _, rfl, _, rfl, by omega, by omega, ?_⟩
    generalize (if (if 5 < ((ns.map V.int).length : Int) then 5 else ((ns.map V.int).length : Int)) > 1 then (if 5 < ((ns.map V.int).length : Int) then 5 else ((ns.map V.int).length : Int)) else 1) = n at hN2
    refine for_range (lo := 0) (n := n.toNat) (fun i σ J => ∃ c1 c2 c3 c4 c5 c6, σ = [some (.ref a), c1, c2, c3, c4, c5, c6] ∧ SqL K J a (ns.map V.int)) ⟨_, _, _, _, _, _, rfl, hS⟩ ?_ ?_
    · rintro i σ J0 hi ⟨c1, c2, c3, c4, c5, c6, rfl, hS0⟩
      refine ⟨_, rfl, _, rfl, a, ns, _, rfl, hS0, by omega, by omega, fun r J1 fr S1 R1 => ?_⟩
      refine ⟨_, rfl, by decide, by decide, ?_⟩
      refine for_range (lo := 0) (n := 4) (fun i σ J => ∃ k c3 c4 c5 c6, σ = [some (.ref a), k, some (.ref r), c3, c4, c5, c6] ∧ Ext r J0 J ∧ Rng J r) ⟨_, _, _, _, _, rfl, fun b o _ h => S1 b o h, R1⟩ ?_ ?_
      · rintro j σ J2 hj ⟨k, c3, c4, c5, c6, rfl, E2, R2⟩
        refine ⟨_, rfl, r, _, rfl, R2, by decide, by decide, fun d3 J3 E3 R3 a0 a1 => ?_⟩
        refine ⟨_, _, rfl, rfl, _, rfl, ?_⟩
        refine ite2 (fun _ => ?_) (fun _ => ?_)
        all_goals
          refine ⟨_, rfl, _, rfl, _, rfl, r, _, rfl, R3, by decide, by decide, fun d4 J4 E4 R4 b0 b1 => ?_⟩
          refine ⟨_, rfl, r, _, rfl, R4, by decide, by decide, fun d5 J5 E5 R5 f0 f1 => ?_⟩
          refine ⟨r, d4, d5, rfl, R5, b0, by omega, f0, by omega, fun p ts ws J6 hp npr E6 R6 hw ok hl => ?_⟩
          refine ⟨_, rfl, _, rfl, _, rfl, r, _, rfl, R6, by decide, by decide, fun d7 J7 E7 R7 g0 g1 => ?_⟩
          have hw7 := hw.ext R6 npr E7
          refine ⟨_, _, rfl, rfl, _, _, rfl, rfl, ⟨by decide, by decide, by decide⟩, _, _, rfl, rfl, ⟨by decide, by decide, by decide⟩, _, _, rfl, rfl, ⟨by decide, by decide, by decide⟩, (by show 6 ≤ sizeLine; decide), fun p8 hp8 => ?_⟩
          refine ⟨r, p8, _, rfl, R7.new hp8, SqL.of upd_same, (R7.free hp8).symm, (by show 0 < 6; decide), (by show 6 ≤ 1000; decide), fun v J9 E9 R9 hv => ?_⟩
          obtain ⟨far, rfl, x0, x1⟩ : ∃ x : Int, v = .int x ∧ 0 ≤ x ∧ x ≤ 10000000000000000000000000000000000000000000000000000000000 := by
            have hv2 : v ∈ [V.int 0, V.int 0, V.int (1 + d7), V.int ((10 : Int) ^ (9 : Int).toNat), V.int ((10 : Int) ^ (20 : Int).toNat), V.int ((10 : Int) ^ (58 : Int).toNat)] := hv
            rw [e9, e20, e58] at hv2
            simp only [List.mem_cons, List.not_mem_nil, or_false] at hv2
            rcases hv2 with rfl | rfl | rfl | rfl | rfl | rfl
            all_goals exact ⟨_, rfl, by omega, by omega⟩
          have hw9 := (hw7.same (new_same hp8)).ext (R7.new hp8) npr E9
          have E29 : Ext r J0 J9 := ((((((E2.trans E3).trans E4).trans E5).trans E6).trans E7).trans (Ext.new hp8)).trans E9
          refine ⟨p, ts, ws, far, rfl, hw9, by omega, fun p10 us J10 hp10 S10 hw10 => ?_⟩
          have R10 := R9.same S10
          have np10 : p10 ≠ r := (R9.free hp10).symm
          have hp0 : J0 p10 = none := E29.none np10 hp10
          have ok10 : ∀ w ∈ ws.map (mv far), Wok BB w := by
            intro w hm
            obtain ⟨u, hu, rfl⟩ := List.mem_map.mp hm
            exact mv_ok (ok u hu) x0 x1
          have l10 : (ws.map (mv far)).length ≤ 41 := by rw [List.length_map]; exact hl
          obtain ⟨wm, ewm⟩ : ∃ l, ws.map (mv far) = l := ⟨_, rfl⟩
          rw [ewm] at hw10 ok10 l10
          refine ⟨_, rfl, _, rfl, r, p10, us, wm, rfl, R10, np10, hw10, ok10, l10, fun J11 E11 R11 => ?_⟩
          have hw11 := hw10.ext R10 np10 E11
          refine ⟨_, rfl, iteF ?_⟩
          refine ⟨_, rfl, _, rfl, _, rfl, r, p10, us, wm, BB, rfl, R11, np10, hw11, ok10, by omega, l10, fun p12 us2 ws2 J12 h12 n12 E12 R12 hw12 ok12 l12 => ?_⟩
          refine ⟨r, p12, us2, ws2, rfl, R12, n12, hw12, ok12, l12, fun J13 E13 R13 => ?_⟩
          refine ⟨_, rfl, iteF ?_⟩
          have hw13 := (hw11.ext R11 np10 E12).ext R12 np10 E13
          have E213 : Ext r J0 J13 := (((E29.trans (Ext.of S10)).trans E11).trans E12).trans E13
          refine ⟨_, rfl, Nat.zero_le _, fun p14 hp14 => ?_⟩
          have hw14 := hw13.same (new_same (o := .lst []) hp14)
          refine ⟨_, _, .lst (SqL.of hw14.1) (dpWs hw14.2), .lst (SqL.of upd_same) .nil, shWs wm, by decide +kernel, _, rfl, ?_⟩
          rw [eqvNil]
          have R14 : Rng (upd J13 p14 (.lst [])) r := R13.new hp14
          have E214 : Ext r J0 (upd J13 p14 (.lst [])) := E213.trans (Ext.new hp14)
          obtain ⟨J14, e14⟩ : ∃ J, upd J13 p14 (.lst []) = J := ⟨_, rfl⟩
          rw [e14] at hw14 R14 E214
          rw [e14]
          refine ite2 (fun hne => ?_) (fun _ => ?_)
          · have hpos : 0 < wm.length := by
              cases wm with
              | nil => simp at hne
              | cons x l => simp
            refine ⟨_, rfl, r, _, rfl, R14, by decide, by decide, fun l J15 E15 R15 l0 l1 => ?_⟩
            have hw15 := hw14.ext R14 np10 E15
            refine ⟨_, rfl, _, rfl, _, rfl, _, _, rfl, rfl, (by show 3 ≤ sizeLine; decide), fun p16 hp16 => ?_⟩
            refine ⟨_, rfl, r, _, rfl, R15.new hp16, by decide, by decide, fun d17 J17 E17 R17 m0 m1 => ?_⟩
            have k17 := E17 _ _ (R15.free hp16).symm upd_same
            have hw17 := (hw15.same (new_same hp16)).ext (R15.new hp16) np10 E17
            obtain ⟨x, hx, hm⟩ := at_mem (xs := [V.non, V.int l, V.int (l + 7)]) m0 (by show d17 < 3; omega)
            obtain ⟨h, rfl, hb⟩ : ∃ h : Option Int, x = hV h ∧ ∀ y, h = some y → l ≤ y ∧ y ≤ 100 := by
              simp only [List.mem_cons, List.not_mem_nil, or_false] at hm
              rcases hm with rfl | rfl | rfl
              · exact ⟨none, rfl, fun y e => by cases e⟩
              · exact ⟨some l, rfl, fun y e => by cases e; omega⟩
              · exact ⟨some (l + 7), rfl, fun y e => by cases e; omega⟩
            refine ⟨p16, _, _, _, rfl, rfl, SqL.of k17, hx, (by show 2 ≤ sizeLine; decide), fun t ht => ?_⟩
            have hw18 := hw17.same (new_same (o := .tup [V.int l, hV h]) ht)
            have ht18 : WinAt (upd J17 t (.tup [V.int l, hV h])) t (l, h) := upd_same
            have R18 : Rng (upd J17 t (.tup [V.int l, hV h])) r := R17.new ht
            refine ⟨_, rfl, _, rfl, _, rfl, p10, _, rfl, .inl (SqL.of hw18.1), r, _, rfl, R18, ?_, ?_, fun d19 J19 E19 R19 u0 u1 => ?_⟩
            · rw [List.length_map, pr_len hw18.2]; omega
            · rw [List.length_map, pr_len hw18.2]; omega
            rw [List.length_map, pr_len hw18.2] at u1
            have hw19 := hw18.ext R18 np10 E19
            have ht19 : WinAt J19 t (l, h) := E19 _ _ (ht18.ne R18) ht18
            refine ⟨p10, _, _, d19.toNat, rfl, rfl, hw19.1, ?_, ?_⟩
            · unfold ixN
              rw [if_pos u0, if_pos (by rw [List.length_map, pr_len hw19.2]; exact u1)]
            have hw20 := hw19.put ht19 d19.toNat
            have R20 := R19.put (o := .lst ((us.map V.ref).set d19.toNat (.ref t))) np10
            have ok20 : ∀ w ∈ wm.set d19.toNat (l, h), Wok BB w := by
              intro w hm
              rcases mem_set hm with rfl | z
              · exact ⟨l0, by show l ≤ BB; omega, fun y e => ⟨(hb y e).1, by have := (hb y e).2; omega⟩⟩
              · exact ok10 w z
            have E20 : Ext r J0 (upd J19 p10 (.lst ((us.map V.ref).set d19.toNat (.ref t)))) := by
              intro b o nb eb
              rw [upd_ne (ne_of_none eb hp0)]
              exact E19 _ _ nb (new_same ht _ _ (((E214.trans E15).trans (Ext.new hp16)).trans E17 b o nb eb))
            refine ⟨_, rfl, _, rfl, r, p10, _, _, rfl, R20, np10, hw20, ok20, by rw [List.length_set]; exact l10, fun J21 E21 R21 => ?_⟩
            exact ⟨_, rfl, iteF ⟨_, _, _, _, _, rfl, E20.trans E21, R21⟩⟩
          · exact ⟨_, _, _, _, _, rfl, E214, R14⟩
      · rintro σ J2 ⟨k, c3, c4, c5, c6, rfl, E2, R2⟩
        exact ⟨_, _, _, _, _, _, rfl, sq_ext hS0 fr E2⟩
    · rintro σ J ⟨c1, c2, c3, c4, c5, c6, rfl, _⟩
      refine ⟨(by show 2 ≤ sizeLine; decide), fun t ht => ⟨(by show 2 ≤ sizeLine; decide), fun u hu => ?_⟩⟩
      have wt : WinAt (upd (upd J t (.tup [V.int 0, V.int 1])) u (.tup [V.int 0, V.non])) t (0, some 1) := new_same hu _ _ upd_same
      have wu : WinAt (upd (upd J t (.tup [V.int 0, V.int 1])) u (.tup [V.int 0, V.non])) u (0, none) := upd_same
      refine ⟨rfl, t, u, _, _, BB, rfl, wt, wu, ⟨by decide, by decide, fun x e => by cases e; decide⟩, ⟨by decide, by decide, fun x e => by cases e⟩, ?_⟩
      refine ⟨_, _, rfl, rfl, _, rfl, iteT ?_⟩
      refine ⟨(by show 2 ≤ sizeLine; decide), fun t2 ht2 => ?_⟩
      refine ⟨rfl, t2, (1, some 3), BB, 2, rfl, upd_same, ⟨by decide, by decide, fun x e => by cases e; decide⟩, by decide, ?_⟩
      exact ⟨_, _, rfl, rfl, q _⟩
end
end N3
namespace N3
open PySem L2 G

theorem all_mk {l : PySem.W.OpenLaw} {w : World} {K : PySem.W.Frag} {h : Heap} {mg : Str → Option Value}
    {fa f1 f2 f3 f4 f5 f6 f7 f8 f9 f10 f11 f12 f13 f14 f15 f16 f17 f18 f19 f20 f21 : Addr} (X : K.In h) (gl : h.Ns mainGlobals mg) (hfa : mg "law" = some (.ref fa))
    {od1 an1 od2 an2 od3 an3 od4 an4 od5 an5 od6 an6 od7 an7 od8 an8 od9 an9 od10 an10 od11 an11 od12 an12 od13 an13 od14 an14 od15 an15 od16 an16 od17 an17 od18 an18 od19 an19 od20 an20 od21 an21 : Option Addr} {sl1 sl2 sl3 sl4 sl5 sl6 sl7 sl8 sl9 sl10 sl11 sl12 sl13 sl14 sl15 sl16 sl17 sl18 sl19 sl20 sl21 : Array (Option Value)}
    {oc1 kV1 dc1 pm1 cd1 ct1 oc2 kV2 dc2 pm2 cd2 ct2 oc3 kV3 dc3 pm3 cd3 ct3 oc4 kV4 dc4 pm4 cd4 ct4 oc5 kV5 dc5 pm5 cd5 ct5 oc6 kV6 dc6 pm6 cd6 ct6 oc7 kV7 dc7 pm7 cd7 ct7 oc8 kV8 dc8 pm8 cd8 ct8 oc9 kV9 dc9 pm9 cd9 ct9 oc10 kV10 dc10 pm10 cd10 ct10 oc11 kV11 dc11 pm11 cd11 ct11 oc12 kV12 dc12 pm12 cd12 ct12 oc13 kV13 dc13 pm13 cd13 ct13 oc14 kV14 dc14 pm14 cd14 ct14 oc15 kV15 dc15 pm15 cd15 ct15 oc16 kV16 dc16 pm16 cd16 ct16 oc17 kV17 dc17 pm17 cd17 ct17 oc18 kV18 dc18 pm18 cd18 ct18 oc19 kV19 dc19 pm19 cd19 ct19 oc20 kV20 dc20 pm20 cd20 ct20 oc21 kV21 dc21 pm21 cd21 ct21 : Value}
    (a1 : PySem.W.nsIn K mainGlobals "is_version" = some (some (.ref f1)))
    (l1 : K.lookup f1 = some ⟨oc1, od1, .func (PySem.W.fnOf "is_version" "is_version" (defArgs sIsVer) (defBody sIsVer) (defScope sIsVer) .none kV1 dc1 pm1 an1 cd1 ct1), sl1⟩)
    (c1 : PySem.W.codeIn K cd1 "is_version" = true) (k1 : PySem.W.keepIn K (.ref f1) = true)
    (a2 : PySem.W.nsIn K mainGlobals "require_version" = some (some (.ref f2)))
    (l2 : K.lookup f2 = some ⟨oc2, od2, .func (PySem.W.fnOf "require_version" "require_version" (defArgs sReqVer) (defBody sReqVer) (defScope sReqVer) .none kV2 dc2 pm2 an2 cd2 ct2), sl2⟩)
    (c2 : PySem.W.codeIn K cd2 "require_version" = true) (k2 : PySem.W.keepIn K (.ref f2) = true)
    (a3 : PySem.W.nsIn K mainGlobals "is_window" = some (some (.ref f3)))
    (l3 : K.lookup f3 = some ⟨oc3, od3, .func (PySem.W.fnOf "is_window" "is_window" (defArgs sIsWin) (defBody sIsWin) (defScope sIsWin) .none kV3 dc3 pm3 an3 cd3 ct3), sl3⟩)
    (c3 : PySem.W.codeIn K cd3 "is_window" = true) (k3 : PySem.W.keepIn K (.ref f3) = true)
    (a4 : PySem.W.nsIn K mainGlobals "require_window" = some (some (.ref f4)))
    (l4 : K.lookup f4 = some ⟨oc4, od4, .func (PySem.W.fnOf "require_window" "require_window" (defArgs sReqWin) (defBody sReqWin) (defScope sReqWin) .none kV4 dc4 pm4 an4 cd4 ct4), sl4⟩)
    (c4 : PySem.W.codeIn K cd4 "require_window" = true) (k4 : PySem.W.keepIn K (.ref f4) = true)
    (a5 : PySem.W.nsIn K mainGlobals "require_windows" = some (some (.ref f5)))
    (l5 : K.lookup f5 = some ⟨oc5, od5, .func (PySem.W.fnOf "require_windows" "require_windows" (defArgs sReqWins) (defBody sReqWins) (defScope sReqWins) .none kV5 dc5 pm5 an5 cd5 ct5), sl5⟩)
    (c5 : PySem.W.codeIn K cd5 "require_windows" = true) (k5 : PySem.W.keepIn K (.ref f5) = true)
    (a6 : PySem.W.nsIn K mainGlobals "reaches" = some (some (.ref f6)))
    (l6 : K.lookup f6 = some ⟨oc6, od6, .func (PySem.W.fnOf "reaches" "reaches" (defArgs sReach) (defBody sReach) (defScope sReach) .none kV6 dc6 pm6 an6 cd6 ct6), sl6⟩)
    (c6 : PySem.W.codeIn K cd6 "reaches" = true) (k6 : PySem.W.keepIn K (.ref f6) = true)
    (a7 : PySem.W.nsIn K mainGlobals "contains" = some (some (.ref f7)))
    (l7 : K.lookup f7 = some ⟨oc7, od7, .func (PySem.W.fnOf "contains" "contains" (defArgs sCont) (defBody sCont) (defScope sCont) .none kV7 dc7 pm7 an7 cd7 ct7), sl7⟩)
    (c7 : PySem.W.codeIn K cd7 "contains" = true) (k7 : PySem.W.keepIn K (.ref f7) = true)
    (a8 : PySem.W.nsIn K mainGlobals "rises" = some (some (.ref f8)))
    (l8 : K.lookup f8 = some ⟨oc8, od8, .func (PySem.W.fnOf "rises" "rises" (defArgs sRises) (defBody sRises) (defScope sRises) .none kV8 dc8 pm8 an8 cd8 ct8), sl8⟩)
    (c8 : PySem.W.codeIn K cd8 "rises" = true) (k8 : PySem.W.keepIn K (.ref f8) = true)
    (a9 : PySem.W.nsIn K mainGlobals "first_falling" = some (some (.ref f9)))
    (l9 : K.lookup f9 = some ⟨oc9, od9, .func (PySem.W.fnOf "first_falling" "first_falling" (defArgs sFall) (defBody sFall) (defScope sFall) .none kV9 dc9 pm9 an9 cd9 ct9), sl9⟩)
    (c9 : PySem.W.codeIn K cd9 "first_falling" = true) (k9 : PySem.W.keepIn K (.ref f9) = true)
    (a10 : PySem.W.nsIn K mainGlobals "least_reaching" = some (some (.ref f10)))
    (l10 : K.lookup f10 = some ⟨oc10, od10, .func (PySem.W.fnOf "least_reaching" "least_reaching" (defArgs sLeast) (defBody sLeast) (defScope sLeast) .none kV10 dc10 pm10 an10 cd10 ct10), sl10⟩)
    (c10 : PySem.W.codeIn K cd10 "least_reaching" = true) (k10 : PySem.W.keepIn K (.ref f10) = true)
    (a11 : PySem.W.nsIn K mainGlobals "_law_rng" = some (some (.ref f11)))
    (l11 : K.lookup f11 = some ⟨oc11, od11, .func (PySem.W.fnOf "_law_rng" "_law_rng" (defArgs sRng) (defBody sRng) (defScope sRng) .none kV11 dc11 pm11 an11 cd11 ct11), sl11⟩)
    (c11 : PySem.W.codeIn K cd11 "_law_rng" = true) (k11 : PySem.W.keepIn K (.ref f11) = true)
    (a12 : PySem.W.nsIn K mainGlobals "_law_draw" = some (some (.ref f12)))
    (l12 : K.lookup f12 = some ⟨oc12, od12, .func (PySem.W.fnOf "_law_draw" "_law_draw" (defArgs sDraw) (defBody sDraw) (defScope sDraw) .none kV12 dc12 pm12 an12 cd12 ct12), sl12⟩)
    (c12 : PySem.W.codeIn K cd12 "_law_draw" = true) (k12 : PySem.W.keepIn K (.ref f12) = true)
    (a13 : PySem.W.nsIn K mainGlobals "_law_choice" = some (some (.ref f13)))
    (l13 : K.lookup f13 = some ⟨oc13, od13, .func (PySem.W.fnOf "_law_choice" "_law_choice" (defArgs sChoice) (defBody sChoice) (defScope sChoice) .none kV13 dc13 pm13 an13 cd13 ct13), sl13⟩)
    (c13 : PySem.W.codeIn K cd13 "_law_choice" = true) (k13 : PySem.W.keepIn K (.ref f13) = true)
    (a14 : PySem.W.nsIn K mainGlobals "_law_windows" = some (some (.ref f14)))
    (l14 : K.lookup f14 = some ⟨oc14, od14, .func (PySem.W.fnOf "_law_windows" "_law_windows" (defArgs sWins) (defBody sWins) (defScope sWins) .none kV14 dc14 pm14 an14 cd14 ct14), sl14⟩)
    (c14 : PySem.W.codeIn K cd14 "_law_windows" = true) (k14 : PySem.W.keepIn K (.ref f14) = true)
    (a15 : PySem.W.nsIn K mainGlobals "_law_top" = some (some (.ref f15)))
    (l15 : K.lookup f15 = some ⟨oc15, od15, .func (PySem.W.fnOf "_law_top" "_law_top" (defArgs sTop) (defBody sTop) (defScope sTop) .none kV15 dc15 pm15 an15 cd15 ct15), sl15⟩)
    (c15 : PySem.W.codeIn K cd15 "_law_top" = true) (k15 : PySem.W.keepIn K (.ref f15) = true)
    (a16 : PySem.W.nsIn K mainGlobals "_law_falls" = some (some (.ref f16)))
    (l16 : K.lookup f16 = some ⟨oc16, od16, .func (PySem.W.fnOf "_law_falls" "_law_falls" (defArgs sFalls) (defBody sFalls) (defScope sFalls) .none kV16 dc16 pm16 an16 cd16 ct16), sl16⟩)
    (c16 : PySem.W.codeIn K cd16 "_law_falls" = true) (k16 : PySem.W.keepIn K (.ref f16) = true)
    (a17 : PySem.W.nsIn K mainGlobals "_law_first" = some (some (.ref f17)))
    (l17 : K.lookup f17 = some ⟨oc17, od17, .func (PySem.W.fnOf "_law_first" "_law_first" (defArgs sFirst) (defBody sFirst) (defScope sFirst) .none kV17 dc17 pm17 an17 cd17 ct17), sl17⟩)
    (c17 : PySem.W.codeIn K cd17 "_law_first" = true) (k17 : PySem.W.keepIn K (.ref f17) = true)
    (a18 : PySem.W.nsIn K mainGlobals "_law_replaced" = some (some (.ref f18)))
    (l18 : K.lookup f18 = some ⟨oc18, od18, .func (PySem.W.fnOf "_law_replaced" "_law_replaced" (defArgs sRepl) (defBody sRepl) (defScope sRepl) .none kV18 dc18 pm18 an18 cd18 ct18), sl18⟩)
    (c18 : PySem.W.codeIn K cd18 "_law_replaced" = true) (k18 : PySem.W.keepIn K (.ref f18) = true)
    (a19 : PySem.W.nsIn K mainGlobals "_law_moved" = some (some (.ref f19)))
    (l19 : K.lookup f19 = some ⟨oc19, od19, .func (PySem.W.fnOf "_law_moved" "_law_moved" (defArgs sMoved) (defBody sMoved) (defScope sMoved) .none kV19 dc19 pm19 an19 cd19 ct19), sl19⟩)
    (c19 : PySem.W.codeIn K cd19 "_law_moved" = true) (k19 : PySem.W.keepIn K (.ref f19) = true)
    (a20 : PySem.W.nsIn K mainGlobals "_law_list_right" = some (some (.ref f20)))
    (l20 : K.lookup f20 = some ⟨oc20, od20, .func (PySem.W.fnOf "_law_list_right" "_law_list_right" (defArgs sRight) (defBody sRight) (defScope sRight) .none kV20 dc20 pm20 an20 cd20 ct20), sl20⟩)
    (c20 : PySem.W.codeIn K cd20 "_law_list_right" = true) (k20 : PySem.W.keepIn K (.ref f20) = true)
    (a21 : PySem.W.nsIn K mainGlobals "law" = some (some (.ref f21)))
    (l21 : K.lookup f21 = some ⟨oc21, od21, .func (PySem.W.fnOf "law" "law" (defArgs sLaw) (defBody sLaw) (defScope sLaw) .none kV21 dc21 pm21 an21 cd21 ct21), sl21⟩)
    (c21 : PySem.W.codeIn K cd21 "law" = true) (k21 : PySem.W.keepIn K (.ref f21) = true)
    (zlen : PySem.W.nsIn K mainGlobals "len" = some none)
    (zabs : PySem.W.nsIn K mainGlobals "abs" = some none)
    (zmax : PySem.W.nsIn K mainGlobals "max" = some none)
    (zmin : PySem.W.nsIn K mainGlobals "min" = some none)
    (zdivmod : PySem.W.nsIn K mainGlobals "divmod" = some none)
    (zisi : PySem.W.nsIn K mainGlobals "isinstance" = some none)
    (ztuple : PySem.W.nsIn K mainGlobals "tuple" = some none)
    (zlist : PySem.W.nsIn K mainGlobals "list" = some none)
    (zint : PySem.W.nsIn K mainGlobals "int" = some none)
    (zbool : PySem.W.nsIn K mainGlobals "bool" = some none)
    (zenum : PySem.W.nsIn K mainGlobals "enumerate" = some none)
    (zzip : PySem.W.nsIn K mainGlobals "zip" = some none)
    (zrange : PySem.W.nsIn K mainGlobals "range" = some none)
    (zrepr : PySem.W.nsIn K mainGlobals "repr" = some none)
    : ∃ fd : FuncData, (∀ (s : Shared) (v : Value), BindsTo s fd ⟨[v], []⟩ [("_law_script", v)]) ∧
      ∀ bs : Heap, K.In bs → bs.Ns mainGlobals mg → FnG l.prog w K mg bs CX0 8 fa fd ["_law_script"] (spLaw K) := by
  have e := hfa.symm.trans (PySem.W.mg_of X gl a21)
  cases e
  have T : Txt mg := ⟨PySem.W.mg_none_of X gl zlen, PySem.W.mg_none_of X gl zabs, PySem.W.mg_none_of X gl zmax, PySem.W.mg_none_of X gl zmin, PySem.W.mg_none_of X gl zdivmod, PySem.W.mg_none_of X gl zisi, PySem.W.mg_none_of X gl ztuple, PySem.W.mg_none_of X gl zlist, PySem.W.mg_none_of X gl zint, PySem.W.mg_none_of X gl zbool, PySem.W.mg_none_of X gl zenum, PySem.W.mg_none_of X gl zzip, PySem.W.mg_none_of X gl zrange, PySem.W.mg_none_of X gl zrepr⟩
  have F1 := fun_mk (st := sIsVer) l1 c1 k1
  have b1 := F1.binds (ps := ["value"]) fun _ _ _ _ _ _ us hl => match us, hl with | [_], _ => rfl
  have g1 := PySem.W.mg_of X gl a1
  have F2 := fun_mk (st := sReqVer) l2 c2 k2
  have b2 := F2.binds (ps := ["value"]) fun _ _ _ _ _ _ us hl => match us, hl with | [_], _ => rfl
  have g2 := PySem.W.mg_of X gl a2
  have F3 := fun_mk (st := sIsWin) l3 c3 k3
  have b3 := F3.binds (ps := ["value"]) fun _ _ _ _ _ _ us hl => match us, hl with | [_], _ => rfl
  have g3 := PySem.W.mg_of X gl a3
  have F4 := fun_mk (st := sReqWin) l4 c4 k4
  have b4 := F4.binds (ps := ["value"]) fun _ _ _ _ _ _ us hl => match us, hl with | [_], _ => rfl
  have g4 := PySem.W.mg_of X gl a4
  have F5 := fun_mk (st := sReqWins) l5 c5 k5
  have b5 := F5.binds (ps := ["value"]) fun _ _ _ _ _ _ us hl => match us, hl with | [_], _ => rfl
  have g5 := PySem.W.mg_of X gl a5
  have F6 := fun_mk (st := sReach) l6 c6 k6
  have b6 := F6.binds (ps := ["high", "version"]) fun _ _ _ _ _ _ us hl => match us, hl with | [_, _], _ => rfl
  have g6 := PySem.W.mg_of X gl a6
  have F7 := fun_mk (st := sCont) l7 c7 k7
  have b7 := F7.binds (ps := ["window", "version"]) fun _ _ _ _ _ _ us hl => match us, hl with | [_, _], _ => rfl
  have g7 := PySem.W.mg_of X gl a7
  have F8 := fun_mk (st := sRises) l8 c8 k8
  have b8 := F8.binds (ps := ["first", "second"]) fun _ _ _ _ _ _ us hl => match us, hl with | [_, _], _ => rfl
  have g8 := PySem.W.mg_of X gl a8
  have F9 := fun_mk (st := sFall) l9 c9 k9
  have b9 := F9.binds (ps := ["windows"]) fun _ _ _ _ _ _ us hl => match us, hl with | [_], _ => rfl
  have g9 := PySem.W.mg_of X gl a9
  have F10 := fun_mk (st := sLeast) l10 c10 k10
  have b10 := F10.binds (ps := ["windows", "version"]) fun _ _ _ _ _ _ us hl => match us, hl with | [_, _], _ => rfl
  have g10 := PySem.W.mg_of X gl a10
  have F11 := fun_mk (st := sRng) l11 c11 k11
  have b11 := F11.binds (ps := ["_law_script", "_law_k"]) fun _ _ _ _ _ _ us hl => match us, hl with | [_, _], _ => rfl
  have g11 := PySem.W.mg_of X gl a11
  have F12 := fun_mk (st := sDraw) l12 c12 k12
  have b12 := F12.binds (ps := ["_law_rng_here", "_law_many"]) fun _ _ _ _ _ _ us hl => match us, hl with | [_, _], _ => rfl
  have g12 := PySem.W.mg_of X gl a12
  have F13 := fun_mk (st := sChoice) l13 c13 k13
  have b13 := F13.binds (ps := ["_law_rng_here", "_law_options"]) fun _ _ _ _ _ _ us hl => match us, hl with | [_, _], _ => rfl
  have g13 := PySem.W.mg_of X gl a13
  have F14 := fun_mk (st := sWins) l14 c14 k14
  have b14 := F14.binds (ps := ["_law_rng_here", "_law_many", "_law_loose"]) fun _ _ _ _ _ _ us hl => match us, hl with | [_, _, _], _ => rfl
  have g14 := PySem.W.mg_of X gl a14
  have F15 := fun_mk (st := sTop) l15 c15 k15
  have b15 := F15.binds (ps := ["_law_one"]) fun _ _ _ _ _ _ us hl => match us, hl with | [_], _ => rfl
  have g15 := PySem.W.mg_of X gl a15
  have F16 := fun_mk (st := sFalls) l16 c16 k16
  have b16 := F16.binds (ps := ["_law_one", "_law_other"]) fun _ _ _ _ _ _ us hl => match us, hl with | [_, _], _ => rfl
  have g16 := PySem.W.mg_of X gl a16
  have F17 := fun_mk (st := sFirst) l17 c17 k17
  have b17 := F17.binds (ps := ["_law_flags"]) fun _ _ _ _ _ _ us hl => match us, hl with | [_], _ => rfl
  have g17 := PySem.W.mg_of X gl a17
  have F18 := fun_mk (st := sRepl) l18 c18 k18
  have b18 := F18.binds (ps := ["_law_rng_here", "_law_some"]) fun _ _ _ _ _ _ us hl => match us, hl with | [_, _], _ => rfl
  have g18 := PySem.W.mg_of X gl a18
  have F19 := fun_mk (st := sMoved) l19 c19 k19
  have b19 := F19.binds (ps := ["_law_some", "_law_far"]) fun _ _ _ _ _ _ us hl => match us, hl with | [_, _], _ => rfl
  have g19 := PySem.W.mg_of X gl a19
  have F20 := fun_mk (st := sRight) l20 c20 k20
  have b20 := F20.binds (ps := ["_law_rng_here", "_law_some"]) fun _ _ _ _ _ _ us hl => match us, hl with | [_, _], _ => rfl
  have g20 := PySem.W.mg_of X gl a20
  refine ⟨PySem.W.fnOf "law" "law" (defArgs sLaw) (defBody sLaw) (defScope sLaw) .none kV21 dc21 pm21 an21 cd21 ct21, fun s v => .of_eq rfl, fun bs _ _ => ?_⟩
  have FL := fun_mk (st := sLaw) l21 c21 k21
  have O1 := ok_ver (P := l.prog) (w := w) (base := bs) F1 T
  have O2 := ok_reqver (P := l.prog) (w := w) (base := bs) F2 T F1 b1 g1
  have O3 := ok_win (P := l.prog) (w := w) (base := bs) F3 T F1 b1 g1
  have O4 := ok_reqwin (P := l.prog) (w := w) (base := bs) F4 F3 O3 b3 g3
  have O5 := ok_reqws (P := l.prog) (w := w) (base := bs) F5 T O3 F3.kp b3 g3
  have O6 := ok_reach (P := l.prog) (w := w) (mg := mg) (base := bs) F6
  have O7 := ok_cont (P := l.prog) (w := w) (base := bs) F7 O4 F4.kp b4 g4 O2 F2.kp b2 g2 O6 F6.kp b6 g6
  have O8 := ok_rises (P := l.prog) (w := w) (base := bs) F8 O4 F4.kp b4 g4 O6 F6.kp b6 g6
  have O9 := ok_fall (P := l.prog) (w := w) (base := bs) F9 T O5 F5.kp b5 g5 O8 F8.kp b8 g8
  have O10 := ok_least (P := l.prog) (w := w) (base := bs) F10 T O9 F9.kp b9 g9 O2 F2.kp b2 g2 O6 F6.kp b6 g6
  have O11 := ok_rng (P := l.prog) (w := w) (base := bs) F11 T
  have O12 := ok_draw (P := l.prog) (w := w) (base := bs) F12 T
  have O13 := ok_choice (P := l.prog) (w := w) (base := bs) F13 T F12 b12 g12
  have O14 := ok_wins (P := l.prog) (w := w) (base := bs) F14 T F12 b12 g12
  have O15 := ok_top (P := l.prog) (w := w) (mg := mg) (base := bs) F15
  have O16 := ok_falls (P := l.prog) (w := w) (base := bs) F16 O15 F15.kp b15 g15
  have O17 := ok_first (P := l.prog) (w := w) (base := bs) F17 T
  have O18 := ok_repl (P := l.prog) (w := w) (base := bs) F18 T F12 b12 g12
  have O19 := ok_moved (P := l.prog) (w := w) (mg := mg) (base := bs) F19
  have O20 := ok_right (P := l.prog) (w := w) (base := bs) F20 T O12 F12.kp b12 g12 O16 F16.kp b16 g16 O17 F17.kp b17 g17 O15 F15.kp b15 g15
    O9 F9.kp b9 g9 (fun s ws h => match ws, h with | [_], _ => .of_eq rfl) O8 F8.kp b8 g8 O7 F7.kp b7 g7 O10 F10.kp b10 g10 (fun s ws h => match ws, h with | [_, _], _ => .of_eq rfl)
  exact ok_law FL T O11 F11.kp b11 g11 O12 F12.kp b12 g12 O13 F13.kp b13 g13 O14 F14.kp b14 g14 O19 F19.kp b19 g19 O18 F18.kp b18 g18 O20 F20.kp b20 g20
    O8 F8.kp g8 (fun s ws h => match ws, h with | [_, _], _ => .of_eq rfl) O7 F7.kp g7 (fun s ws h => match ws, h with | [_, _], _ => .of_eq rfl)
theorem walk {l : PySem.W.OpenLaw} {q : Program} {loose : List Str} {XP : (Str → Option Value) → Heap → Prop} {YP : World → Heap → Prop} {d : DefRec} {K : Params → PySem.W.Frag}
    (hn : l.most = some 63) (hdf : d.params.defaults = []) (hY : ∀ (w : World) (h : Heap), YP w h → (K w.params).In h)
    (F : ∀ (w : World) (mg : Str → Option Value) (fa : Addr) (h : Heap), (K w.params).In h → h.Ns mainGlobals mg → mg d.name = some (.ref fa) →
      ∃ fd : FuncData, (∀ (s : Shared) (u : Value), BindsTo s fd ⟨[u], []⟩ [("_law_script", u)]) ∧
        ∀ bs : Heap, (K w.params).In bs → bs.Ns mainGlobals mg → FnG l.prog w (K w.params) mg bs CX0 8 fa fd ["_law_script"] (spLaw (K w.params))) :
    PySem.W.WalkO q loose XP YP l.row.toRowW d [] (fun f vs => PySem.call f vs) :=
  walk_ofG (n := 63) (k := 8) (x := "_law_script") (sp := fun w => spLaw (K w.params)) hn (by decide) hdf ⟨rfl, by decide, by decide⟩ hY F
    (fun _ _ a ns hl _ hS => ⟨a, ns, rfl, hS, hl, fun _ => rfl⟩)
end N3

open PySem PySem.W PyProof.Rows in
set_option maxRecDepth 100000 in
set_option maxHeartbeats 0 in
theorem PySem.Challenge.cw_groupsteps_k13_whole_rising_lists_holds : PySem.Challenge.rw_groupsteps_k13_whole_rising_lists.Holds := by
  w_on; o_law; k_head; (case hw => w_witness2)
  k_fill
  refine N3.walk (l := PySem.Challenge.rw_groupsteps_k13_whole_rising_lists) rfl rfl (fun w h Y => PySem.W.kIn_of Y) ?F
  case F =>
    intro w mg fa h KX gl hmg
    refine' N3.all_mk KX gl hmg ?a1 ?l1 ?c1 ?k1 ?a2 ?l2 ?c2 ?k2 ?a3 ?l3 ?c3 ?k3 ?a4 ?l4 ?c4 ?k4 ?a5 ?l5 ?c5 ?k5 ?a6 ?l6 ?c6 ?k6 ?a7 ?l7 ?c7 ?k7 ?a8 ?l8 ?c8 ?k8 ?a9 ?l9 ?c9 ?k9 ?a10 ?l10 ?c10 ?k10 ?a11 ?l11 ?c11 ?k11 ?a12 ?l12 ?c12 ?k12 ?a13 ?l13 ?c13 ?k13 ?a14 ?l14 ?c14 ?k14 ?a15 ?l15 ?c15 ?k15 ?a16 ?l16 ?c16 ?k16 ?a17 ?l17 ?c17 ?k17 ?a18 ?l18 ?c18 ?k18 ?a19 ?l19 ?c19 ?k19 ?a20 ?l20 ?c20 ?k20 ?a21 ?l21 ?c21 ?k21 ?zlen ?zabs ?zmax ?zmin ?zdivmod ?zisi ?ztuple ?zlist ?zint ?zbool ?zenum ?zzip ?zrange ?zrepr
    (case a1 => k_is)
    (case l1 => k_is)
    (case c1 => k_is)
    (case k1 => k_is)
    (case a2 => k_is)
    (case l2 => k_is)
    (case c2 => k_is)
    (case k2 => k_is)
    (case a3 => k_is)
    (case l3 => k_is)
    (case c3 => k_is)
    (case k3 => k_is)
    (case a4 => k_is)
    (case l4 => k_is)
    (case c4 => k_is)
    (case k4 => k_is)
    (case a5 => k_is)
    (case l5 => k_is)
    (case c5 => k_is)
    (case k5 => k_is)
    (case a6 => k_is)
    (case l6 => k_is)
    (case c6 => k_is)
    (case k6 => k_is)
    (case a7 => k_is)
    (case l7 => k_is)
    (case c7 => k_is)
    (case k7 => k_is)
    (case a8 => k_is)
    (case l8 => k_is)
    (case c8 => k_is)
    (case k8 => k_is)
    (case a9 => k_is)
    (case l9 => k_is)
    (case c9 => k_is)
    (case k9 => k_is)
    (case a10 => k_is)
    (case l10 => k_is)
    (case c10 => k_is)
    (case k10 => k_is)
    (case a11 => k_is)
    (case l11 => k_is)
    (case c11 => k_is)
    (case k11 => k_is)
    (case a12 => k_is)
    (case l12 => k_is)
    (case c12 => k_is)
    (case k12 => k_is)
    (case a13 => k_is)
    (case l13 => k_is)
    (case c13 => k_is)
    (case k13 => k_is)
    (case a14 => k_is)
    (case l14 => k_is)
    (case c14 => k_is)
    (case k14 => k_is)
    (case a15 => k_is)
    (case l15 => k_is)
    (case c15 => k_is)
    (case k15 => k_is)
    (case a16 => k_is)
    (case l16 => k_is)
    (case c16 => k_is)
    (case k16 => k_is)
    (case a17 => k_is)
    (case l17 => k_is)
    (case c17 => k_is)
    (case k17 => k_is)
    (case a18 => k_is)
    (case l18 => k_is)
    (case c18 => k_is)
    (case k18 => k_is)
    (case a19 => k_is)
    (case l19 => k_is)
    (case c19 => k_is)
    (case k19 => k_is)
    (case a20 => k_is)
    (case l20 => k_is)
    (case c20 => k_is)
    (case k20 => k_is)
    (case a21 => k_is)
    (case l21 => k_is)
    (case c21 => k_is)
    (case k21 => k_is)
    (case zlen => k_is)
    (case zabs => k_is)
    (case zmax => k_is)
    (case zmin => k_is)
    (case zdivmod => k_is)
    (case zisi => k_is)
    (case ztuple => k_is)
    (case zlist => k_is)
    (case zint => k_is)
    (case zbool => k_is)
    (case zenum => k_is)
    (case zzip => k_is)
    (case zrange => k_is)
    (case zrepr => k_is)
