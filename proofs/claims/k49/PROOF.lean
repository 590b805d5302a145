import PyProof.Rows.All
import Wide.All
import OpenK.AllK
import Wide.FinOn
import PyProof.ReprRoads
import PyProof.EqAt
import PyProof.EqKinds
import PyProof.TupleCall
import HandS.Base
import HandS.Call
import HandS.List
import HandS.Comp
import HandS.Dict
import HandS.Iter
import HandS.Text
import HandS.Ends
import HandS.Words
import HandS.Codes
import HandS.Conv
import HandS.TupAny
import HandS.TupMul
import HandS.IsInst
import HandS.Style
import HandS.Wide
import HandS.SortInts
import HandS.Deep
import KE.KEqNest
import HandS.More
import KE.KRevSl
import PyProof.Rows.ReprOcc
import PyProof.Ascii
import PyProof.Rows.StrCase
import PyProof.ReprLen
import HandS.ExcInit
import HandS.ExcField
import HandS.ExcIs
import KE.KExcIs
import HandS.NoneIn
import HandS.ForMost
import PySem.Challenge.RW_clockslack_k49_errors_alone
set_option Elab.async false
set_option linter.all false
set_option maxRecDepth 100000
set_option maxHeartbeats 4000000
/-! Own layer over L2: data, heaps that keep, the pot, further rules. -/
namespace LB
open PySem PySem.Spec PyProof.Rows L2
abbrev St := L2.St
/-- a key as data -/
def kD : Key → PyData
  | .inl i => .int i
  | .inr x => .str x

/-! ### heaps: what is kept but at the addresses S; tuples always stay -/
structure Keep (S : Addr → Prop) (H H' : Hp) : Prop where
  all : ∀ b o, ¬ S b → H b = some o → H' b = some o
  tup : ∀ b xs, H b = some (.tup xs) → H' b = some (.tup xs)
theorem Keep.refl (S : Addr → Prop) (H : Hp) : Keep S H H := ⟨fun _ _ _ h => h, fun _ _ h => h⟩
theorem Keep.trans {S : Addr → Prop} {H H1 H2 : Hp} (a : Keep S H H1) (b : Keep S H1 H2) : Keep S H H2 :=
  ⟨fun c o n h => b.all c o n (a.all c o n h), fun c xs h => b.tup c xs (a.tup c xs h)⟩
theorem Keep.mono {S S' : Addr → Prop} {H H1 : Hp} (a : Keep S H H1) (h : ∀ b, S b → S' b) : Keep S' H H1 :=
  ⟨fun c o n e => a.all c o (fun z => n (h c z)) e, a.tup⟩
/-- a new object -/
theorem Keep.new {S : Addr → Prop} {H : Hp} {p : Addr} {o : HO} (h : H p = none) : Keep S H (upd H p o) :=
  ⟨fun b u _ e => by rw [upd_ne (ne_of_none e h)]; exact e, fun b u e => by rw [upd_ne (ne_of_none e h)]; exact e⟩
/-- a list is changed -/
theorem Keep.put {S : Addr → Prop} {H : Hp} {p : Addr} {xs ys : List V} (hs : S p) (h : H p = some (.lst xs)) : Keep S H (upd H p (.lst ys)) :=
  ⟨fun b u n e => by rw [upd_ne (fun z => n (by rw [z]; exact hs))]; exact e, fun b u e => by rw [upd_ne (fun z => by rw [z, h] at e; cases e)]; exact e⟩
/-- .. one that is new since H0 -/
theorem Keep.put0 {S : Addr → Prop} {H0 H : Hp} {p : Addr} {xs ys : List V} (k : Keep S H0 H) (h0 : H0 p = none) (h : H p = some (.lst xs)) : Keep S H0 (upd H p (.lst ys)) :=
  ⟨fun b u n e => by rw [upd_ne (ne_of_none e h0)]; exact k.all b u n e, fun b u e => by rw [upd_ne (ne_of_none e h0)]; exact k.tup b u e⟩
theorem Keep.free {H0 H : Hp} {S : Addr → Prop} (k : Keep S H0 H) {p : Addr} (n : ¬ S p) (h : H p = none) : H0 p = none := by
  cases q : H0 p with
  | none => rfl
  | some o => rw [k.all p o n q] at h; cases h
abbrev At (p : Addr) : Addr → Prop := fun b => b = p
abbrev All : Addr → Prop := fun _ => True

/-! ### data -/
mutual
/-- at v stands the data d; no list or dict of it is at an address of S -/
inductive DD (S : Addr → Prop) (H : Hp) : V → PyData → Prop
  | non : DD S H .non .none
  | bl (b : Bool) : DD S H (.bl b) (.bool b)
  | int (i : Int) : DD S H (.int i) (.int i)
  | str (x : Str) : DD S H (.str x) (.str x)
  | tup {a : Addr} {xs : List V} {ds : List PyData} : H a = some (.tup xs) → DDs S H xs ds → DD S H (.ref a) (.tuple ds)
  | lst {a : Addr} {xs : List V} {ds : List PyData} : ¬ S a → H a = some (.lst xs) → DDs S H xs ds → DD S H (.ref a) (.list ds)
  | dct {a : Addr} {kvs : List (Key × V)} {vs : List PyData} : ¬ S a → H a = some (.dK kvs) → DDs S H (kvs.map (·.2)) vs → DD S H (.ref a) (.dict ((kvs.map fun p => kD p.1).zip vs))
inductive DDs (S : Addr → Prop) (H : Hp) : List V → List PyData → Prop
  | nil : DDs S H [] []
  | cons {v : V} {vs : List V} {d : PyData} {ds : List PyData} : DD S H v d → DDs S H vs ds → DDs S H (v :: vs) (d :: ds)
end
mutual
theorem DD.keep {S : Addr → Prop} {H H' : Hp} (k : Keep S H H') : ∀ {v : V} {d : PyData}, DD S H v d → DD S H' v d
  | _, _, .non => .non
  | _, _, .bl b => .bl b
  | _, _, .int i => .int i
  | _, _, .str x => .str x
  | _, _, .tup h r => .tup (k.tup _ _ h) (DDs.keep k r)
  | _, _, .lst n h r => .lst n (k.all _ _ n h) (DDs.keep k r)
  | _, _, .dct n h r => .dct n (k.all _ _ n h) (DDs.keep k r)
theorem DDs.keep {S : Addr → Prop} {H H' : Hp} (k : Keep S H H') : ∀ {vs : List V} {ds : List PyData}, DDs S H vs ds → DDs S H' vs ds
  | _, _, .nil => .nil
  | _, _, .cons h r => .cons (DD.keep k h) (DDs.keep k r)
end
mutual
theorem DD.mono {S S' : Addr → Prop} {H : Hp} (h : ∀ b, H b ≠ none → S' b → S b) : ∀ {v : V} {d : PyData}, DD S H v d → DD S' H v d
  | _, _, .non => .non
  | _, _, .bl b => .bl b
  | _, _, .int i => .int i
  | _, _, .str x => .str x
  | _, _, .tup e r => .tup e (DDs.mono h r)
  | _, _, .lst n e r => .lst (fun z => n (h _ (by rw [e]; simp) z)) e (DDs.mono h r)
  | _, _, .dct n e r => .dct (fun z => n (h _ (by rw [e]; simp) z)) e (DDs.mono h r)
theorem DDs.mono {S S' : Addr → Prop} {H : Hp} (h : ∀ b, H b ≠ none → S' b → S b) : ∀ {vs : List V} {ds : List PyData}, DDs S H vs ds → DDs S' H vs ds
  | _, _, .nil => .nil
  | _, _, .cons e r => .cons (DD.mono h e) (DDs.mono h r)
end
theorem DDs.length {S : Addr → Prop} {H : Hp} : ∀ {vs : List V} {ds : List PyData}, DDs S H vs ds → vs.length = ds.length
  | _, _, .nil => rfl
  | _, _, .cons _ r => by rw [List.length_cons, List.length_cons, DDs.length r]
theorem DDs.append {S : Addr → Prop} {H : Hp} : ∀ {vs ws : List V} {ds es : List PyData}, DDs S H vs ds → DDs S H ws es → DDs S H (vs ++ ws) (ds ++ es)
  | _, _, _, _, .nil, s => s
  | _, _, _, _, .cons h r, s => .cons h (DDs.append r s)
theorem DDs.get {S : Addr → Prop} {H : Hp} : ∀ {vs : List V} {ds : List PyData} {i : Nat} {v : V}, DDs S H vs ds → vs[i]? = some v → ∃ d, ds[i]? = some d ∧ DD S H v d
  | _, _, _, _, .nil, e => by simp at e
  | _, _, 0, _, .cons h r, e => by simp at e; subst e; exact ⟨_, rfl, h⟩
  | _, _, i + 1, v, .cons h r, e => by
    obtain ⟨d, h1, h2⟩ := DDs.get (i := i) (v := v) r (by simpa using e)
    exact ⟨d, by simpa using h1, h2⟩
theorem DDs.take {S : Addr → Prop} {H : Hp} : ∀ {vs : List V} {ds : List PyData} (n : Nat), DDs S H vs ds → DDs S H (vs.take n) (ds.take n)
  | _, _, 0, _ => by simp; exact .nil
  | _, _, n + 1, .nil => by simp; exact .nil
  | _, _, n + 1, .cons h r => .cons h (DDs.take n r)
theorem DDs.drop {S : Addr → Prop} {H : Hp} : ∀ {vs : List V} {ds : List PyData} (n : Nat), DDs S H vs ds → DDs S H (vs.drop n) (ds.drop n)
  | _, _, 0, r => r
  | _, _, n + 1, .nil => by simp; exact .nil
  | _, _, n + 1, .cons h r => DDs.drop n r
theorem DDs.rev {S : Addr → Prop} {H : Hp} : ∀ {vs : List V} {ds : List PyData}, DDs S H vs ds → DDs S H vs.reverse ds.reverse
  | _, _, .nil => .nil
  | _, _, .cons h r => by rw [List.reverse_cons, List.reverse_cons]; exact DDs.append (DDs.rev r) (.cons h .nil)
/-- some arrangement of the values is one of the data -/
theorem DDs.perm {S : Addr → Prop} {H : Hp} {vs ws : List V} (p : vs.Perm ws) : ∀ {ds : List PyData}, DDs S H vs ds → ∃ es, ds.Perm es ∧ DDs S H ws es := by
  induction p with
  | nil => intro ds h; exact ⟨ds, .refl _, h⟩
  | cons x _ ih =>
    intro ds h
    cases h with
    | cons h1 h2 =>
      obtain ⟨es, p, q⟩ := ih h2
      exact ⟨_, p.cons _, .cons h1 q⟩
  | swap x y l =>
    intro ds h
    cases h with
    | cons h1 h2 =>
      cases h2 with
      | cons h3 h4 => exact ⟨_, .swap _ _ _, .cons h3 (.cons h1 h4)⟩
  | trans _ _ ih1 ih2 =>
    intro ds h
    obtain ⟨es, p, q⟩ := ih1 h
    obtain ⟨fs, p2, q2⟩ := ih2 q
    exact ⟨fs, p.trans p2, q2⟩

/-! ### DD and what the machine reads -/
section
variable {X : Cx} {pins : List (Addr × Obj)} {σ : St} {S : Addr → Prop} {H : Hp} {s : Shared}
theorem Inv.noSys (I : Inv X pins σ H s) (hS : ∃ o, X.base.get? sysModules = some o) : H sysModules = none := by
  obtain ⟨o, e⟩ := hS
  exact (I.bs _ _ e).2
theorem keysReads {h : Heap} {P : Program} {w : World} : ∀ {es : List DictEntry} {vs : List (Key × Value)}, Pairs (mixKind P w) es vs → ∃ as, ReadsAll h (es.map (·.key)) (vs.map fun p => kD p.1) as ∧ as = []
  | _, _, .nil => ⟨_, .nil, rfl⟩
  | _, _, .cons (e := e) (kv := kv) h1 _ r => by
    obtain ⟨as, q, en⟩ := keysReads (h := h) r
    subst en
    rw [mixKind_is] at h1
    rcases keyIs_shape h1 with ⟨i, t, e1, e2⟩ | ⟨x, t, e1, e2⟩
    · exact ⟨_, by rw [List.map_cons, List.map_cons, e1, e2]; exact .cons (.int i t) q, rfl⟩
    · exact ⟨_, by rw [List.map_cons, List.map_cons, e1, e2]; exact .cons (.str x t) q, rfl⟩
theorem pairs_vals {P : Program} {w : World} : ∀ {es : List DictEntry} {vs : List (Key × Value)}, Pairs (mixKind P w) es vs → es.map (·.val) = vs.map (·.2)
  | _, _, .nil => rfl
  | _, _, .cons _ h2 r => by rw [List.map_cons, List.map_cons, h2, pairs_vals r]
theorem KV.keys {kvs : List (Key × V)} {vs : List (Key × Value)} (r : KV kvs vs) : (vs.map fun p => kD p.1) = kvs.map fun p => kD p.1 := by
  induction r with
  | nil => rfl
  | cons h _ ih => rw [List.map_cons, List.map_cons, ih, h.1]
theorem KV.vals {kvs : List (Key × V)} {vs : List (Key × Value)} (r : KV kvs vs) : Vals (kvs.map (·.2)) (vs.map (·.2)) := by
  induction r with
  | nil => exact .nil
  | cons h _ ih => exact .cons h.2 ih
theorem zip_fst {α β : Type} : ∀ {as : List α} {bs : List β}, as.length = bs.length → (as.zip bs).map (·.1) = as
  | [], [], _ => rfl
  | a :: as, b :: bs, h => by rw [List.zip_cons_cons, List.map_cons, zip_fst (by simpa using h)]
theorem zip_snd {α β : Type} : ∀ {as : List α} {bs : List β}, as.length = bs.length → (as.zip bs).map (·.2) = bs
  | [], [], _ => rfl
  | a :: as, b :: bs, h => by rw [List.zip_cons_cons, List.map_cons, zip_snd (by simpa using h)]
theorem reads_dct (I : L2.Inv X pins σ H s) {a : Addr} {kvs : List (Key × V)} {ds : List PyData} (hs : H a = some (.dK kvs)) (hl : kvs.length = ds.length)
    (q : ∀ us, Vals (kvs.map (·.2)) us → ∃ as, ReadsAll s.heap us ds as ∧ sysModules ∉ as) : ∃ as, Reads s.heap (.ref a) (.dict ((kvs.map fun p => kD p.1).zip ds)) as ∧ sysModules ∉ as := by
  obtain ⟨_, sy, vs, kv, o, es, ep, ho, hx, hd, _, hp, _⟩ := (show ObjOk X.prog X.w H s.heap a (.dK kvs) from I.hok a _ hs)
  have hl2 : (kvs.map fun p => kD p.1).length = ds.length := by rw [List.length_map]; exact hl
  obtain ⟨as, q1, en⟩ := keysReads (h := s.heap) hp
  subst en
  obtain ⟨bs, q2, q3⟩ := q _ (KV.vals kv)
  rw [← pairs_vals hp] at q2
  refine ⟨_, Reads.dict ho hx.1 hd (by rw [zip_fst hl2, ← KV.keys kv]; exact q1) (by rw [zip_snd hl2]; exact q2), ?_⟩
  simp only [List.cons_append, List.nil_append, List.mem_cons, not_or]
  exact ⟨fun z => by rw [z] at sy; simp at sy, q3⟩
mutual
theorem DD.reads (I : L2.Inv X pins σ H s) (hS : H sysModules = none) : ∀ {v : V} {d : PyData}, DD S H v d → ∀ u : Value, RelV v u → ∃ as, Reads s.heap u d as ∧ sysModules ∉ as
  | _, _, .non, _, r => by
    cases r
    exact ⟨_, Reads.none, by simp⟩
  | _, _, .bl b, _, r => by
    cases r
    exact ⟨_, Reads.bool b, by simp⟩
  | _, _, .int i, _, r => by
    obtain ⟨t, rfl⟩ := r
    exact ⟨_, Reads.int i t, by simp⟩
  | _, _, .str x, _, r => by
    obtain ⟨t, rfl⟩ := r
    exact ⟨_, Reads.str x t, by simp⟩
  | _, _, .lst n hs ha, _, r => by
    cases r
    obtain ⟨its, rv, ⟨o, n, ho, hc, _, hd⟩, _⟩ := I.list (.inl (.inl hs))
    obtain ⟨as, hr, hn⟩ := DDs.readsAll I hS ha its rv
    refine ⟨_, Reads.list ho hc hd hr, ?_⟩
    simp only [List.mem_cons, not_or]
    exact ⟨fun e => by (rw [← e, hS] at hs; cases hs), hn⟩
  | _, _, .tup hs ha, _, r => by
    cases r
    obtain ⟨its, rv, ⟨o, ho, hc, n, hd⟩, _⟩ := I.tuple (.inl (.inl hs))
    obtain ⟨as, hr, hn⟩ := DDs.readsAll I hS ha its rv
    exact ⟨_, Reads.tuple ho hc hd hr, hn⟩
  | _, _, .dct n hs ha, _, r => by
    cases r
    have hl := DDs.length ha
    rw [List.length_map] at hl
    exact reads_dct I hs hl fun us ru => DDs.readsAll I hS ha us ru
theorem DDs.readsAll (I : L2.Inv X pins σ H s) (hS : H sysModules = none) : ∀ {vs : List V} {ds : List PyData}, DDs S H vs ds → ∀ us : List Value, Vals vs us → ∃ as, ReadsAll s.heap us ds as ∧ sysModules ∉ as
  | _, _, .nil, _, r => by
    cases r
    exact ⟨_, ReadsAll.nil, by simp⟩
  | _, _, .cons h1 h2, _, r => by
    cases r with
    | cons r1 r2 =>
      obtain ⟨as, q1, n1⟩ := DD.reads I hS h1 _ r1
      obtain ⟨bs, q2, n2⟩ := DDs.readsAll I hS h2 _ r2
      exact ⟨_, ReadsAll.cons q1 q2, by rw [List.mem_append, not_or]; exact ⟨n1, n2⟩⟩
end
end
end LB

namespace LB
open PySem PySem.Spec PyProof.Rows L2

/-! ### defs whose callers repr nothing (no guard lies around): needed for repr -/
/-- a promise that holds wherever no repr is under way -/
structure FnG (P : Program) (w : World) (K : PySem.W.Frag) (mg : Str → Option Value) (base : Heap) (CX : CXT)
    (k : Nat) (f : Addr) (fd : FuncData) (ps : List Str) (sp : Sp) : Prop where
  arity : ∀ vs H Q E, sp vs H Q E → vs.length = ps.length
  goes : ∀ (A : Around) (outer : List Env) (s : Shared) (H : Hp) (args : Args) (us : List Value) (vs : List V)
    (Q : VK) (E : XK), Room k A → A.guards = some [] → Env0 P w K mg base A outer s H →
    BindsTo s fd args (ps.zip us) → Vals vs us → sp vs H Q E →
    codeAny (model P w) A (.call (.ref f) args) (CR CX outer P w H s Q E) s

section
variable {P : Program} {w : World} {K : PySem.W.Frag} {mg : Str → Option Value} {base : Heap} {CX : CXT}
/-- the body of a def: its names laid, the body run -/
theorem fn_g {x qual : Str} {st : Stmt} {f : Addr} {fd : FuncData} {N ps : List Str} {k : Nat} {sp : Sp}
    (F : Fun K x qual st f fd) (S : FnScope N ps (defScope st)) (ar : ∀ vs H Q E, sp vs H Q E → vs.length = ps.length)
    (bd : ∀ (cdv : Value) (A : Around) (outer : List Env) (s : Shared) (H : Hp) (vs : List V) (Q : VK) (E : XK),
      Room k (A.deeper (envOfC qual (defScope st) s.heap.objs.size f cdv)) → A.guards = some [] → sp vs H Q E →
      ∃ t, PSs (cxOf CX P w K mg base N qual (defScope st) f cdv A outer s H E) (defBody st) t ∧
        t { nx := fun _ H' => Q .non H', rt := Q } (start N vs) H) :
    FnG P w K mg base CX (k + 1) f fd ps sp where
  arity := ar
  goes := by
    intro A outer s H args us vs Q E room gd env0 binds vals hs
    obtain ⟨_, _, _, _, _, _, cdv, _, _, efd, look, code⟩ := F.ex
    subst efd
    have KIn : K.In s.heap := env0.mod.kin.keeps (fun a b c => (env0.bs a b c).1)
    have hkinds : ∀ z ∈ ps.zip us, (defScope st).names.lookup z.1 = some .local ∨
        ((defScope st).names.lookup z.1 = some .cell ∧ ((cellsFrom (s.heap.objs.size + 1) (defScope st).names []).lookup z.1).isSome = true) := by
      rintro ⟨n, u⟩ hz
      rcases S.par n (List.of_mem_zip hz).1 with h | h
      · exact Or.inl h
      · exact Or.inr ⟨h, PySem.W.cellsFrom_some _ _ _ (Or.inl h)⟩
    refine codeAny_call_function room.depth (KIn _ _ look) rfl S.co S.gen rfl
      (PySem.W.codeRec_of KIn code) (binds _ _ _ _ (wpAny_newFunctionEnv_cells S.kind hkinds ?_))
    intro env henv s1 IC
    cases henv
    refine ⟨(env0.mod.nolimit.keeps (fun a b c => (env0.bs a b c).1)).keeps IC.toInCall.keep, codeAny_func ?_⟩
    obtain ⟨t, der, rd⟩ := bd cdv A outer s H vs Q E (room.deeper _) gd hs
    have I0 : L2.Inv (cxOf CX P w K mg base N qual (defScope st) f cdv A outer s H E) [] (start N vs) H s1 :=
      inv_start S room.hd env0 (ar _ _ _ _ hs) vals IC
    refine wpAny_mono (der.run [] s1 (start N vs) H _ I0 rd) ?_ (fun _ _ h => h)
    intro fl s2 h
    match fl, h with
    | .ret u, ⟨v, _, H2, J, r, q⟩ => exact ⟨v, H2, J.os, J.bare, J.base, J.hok, r, q⟩
    | .next, ⟨_, H2, J, q⟩ => exact ⟨V.non, H2, J.os, J.bare, J.base, J.hok, rfl, q⟩
    | .brk, ⟨_, _, _, q⟩ => exact False.elim q
    | .cont, ⟨_, _, _, q⟩ => exact False.elim q
end

section
variable {X : Cx} {CX : CXT} {k j : Nat} {f : Addr} {fd : FuncData} {ps ks : List Str} {sp : Sp} {x : Str} {p pos : Pos}
  {e : Expr} {es : List Expr} {t tk : TA} {ds : List Value} {dvs : List V} {E : XK} {kws : List Keyword}
/-- the call itself, its arguments known -/
theorem go_g {pins : List (Addr × Obj)} {σ : LB.St} {H : Hp} {s : Shared} {Q : VK} {args : Args} {us : List Value} {vs : List V}
    (F : FnG X.prog X.w X.K X.mg X.base CX k f fd ps sp) (hr : Room k X.A) (gd : X.A.guards = some [])
    (hx : Passes CX X E) (I : L2.Inv X pins σ H s) (bn : BindsTo s fd args (ps.zip us)) (r : Vals vs us) (h : sp vs H Q E) :
    wpAny (model X.prog X.w) X.A (PySem.call (.ref f) args.pos args.kw) (EP X pins σ Q) X.xe s := by
  refine wpAny_call (codeAny_mono (F.goes X.A X.stack s H args us vs Q E hr gd I.env0 bn r h) ?_)
  intro r' s' z
  match r', z with
  | .error _, z => exact hx _ _ _ _ _ _ I z
  | .ok (.ret _), z => exact I.after z
  | .ok .next, z => exact False.elim z
  | .ok .brk, z => exact False.elim z
  | .ok .cont, z => exact False.elim z
end

/-- a def by its name, its arguments by position -/
structure CalG (P : Program) (w : World) (K : PySem.W.Frag) (mg : Str → Option Value) (base : Heap) (CX : CXT) (k : Nat) (x : Str) (sp : Sp) : Prop where
  is : ∃ (f : Addr) (fd : FuncData) (ps : List Str), FnG P w K mg base CX k f fd ps sp ∧ mg x = some (.ref f) ∧
    PySem.W.keepIn K (.ref f) = true ∧ ∀ us : List Value, us.length = ps.length → bindArgs fd ⟨us, []⟩ = pure (ps.zip us)
/-- .. its arguments partly or all by the names ks; pi: how they come to the parameters -/
structure KalG (P : Program) (w : World) (K : PySem.W.Frag) (mg : Str → Option Value) (base : Heap) (CX : CXT) (k : Nat) (x : Str) (n : Nat) (ks : List Str)
    (pi : {α : Type} → List α → List α → List α) (sp : Sp) : Prop where
  is : ∃ (f : Addr) (fd : FuncData) (ps : List Str), FnG P w K mg base CX k f fd ps sp ∧ mg x = some (.ref f) ∧
    PySem.W.keepIn K (.ref f) = true ∧ (∀ us ws : List Value, us.length = n → ws.length = ks.length → bindArgs fd ⟨us, ks.zip ws⟩ = pure (ps.zip (pi us ws))) ∧
    ∀ (vs : List V) (us : List Value) (zs : List V) (ws : List Value), us.length = n → ws.length = ks.length → Vals vs us → Vals zs ws → Vals (pi vs zs) (pi us ws)
section
variable {X : Cx} {CX : CXT} {k j n : Nat} {sp : Sp} {x : Str} {p pos : Pos}
  {e : Expr} {es : List Expr} {t tk : TA} {E : XK} {kws : List Keyword} {ks : List Str} {pi : {α : Type} → List α → List α → List α}
theorem pe_g (c : CalG X.prog X.w X.K X.mg X.base CX k x sp) (hr : Room j X.A) (hk : k ≤ j) (gd : X.A.guards = some []) (hx : Passes CX X E)
    (gl : Gl X x) (ha : PA X (e :: es) t) (dbg : (x == ("__debug__" : Str)) = false := by decide)
    (st : starEach (e :: es) X.env = (false, eval e X.env) :: starEach es X.env := by rfl)
    (pl : (backTo pos (starEach es X.env)).any (·.1) = false := by rfl) : PE X (.Call (.Name x p) (e :: es) [] pos) (tCall sp [] E t) := by
  obtain ⟨f, fd, ps, F, hm, kp, bn⟩ := c.is
  constructor
  intro pins s σ H Q I h
  refine wpAny_Call_Name_kw (ld_glob I gl hm ?_ dbg)
  refine PySem.W.callWith_K (h₀ := X.base) I.ok.mod.kin kp ?_ st pl
  refine thn (ha.run pos pins s σ H _ I h) ?_
  rintro us s1 ⟨vs, H1, I1, r, q⟩
  rw [List.append_nil] at q
  have hl : us.length = ps.length := by rw [← r.length]; exact F.arity _ _ _ _ q
  exact ⟨I1.kIn, go_g (args := ⟨us, []⟩) F (hr.mono hk) gd hx I1 (BindsTo.of_eq (bn us hl)) r q⟩
theorem pe_g0 (c : CalG X.prog X.w X.K X.mg X.base CX k x sp) (hr : Room j X.A) (hk : k ≤ j) (gd : X.A.guards = some []) (hx : Passes CX X E)
    (gl : Gl X x) (dbg : (x == ("__debug__" : Str)) = false := by decide) : PE X (.Call (.Name x p) [] [] pos) (tCall sp [] E tNil) := by
  obtain ⟨f, fd, ps, F, hm, kp, bn⟩ := c.is
  constructor
  intro pins s σ H Q I h
  refine wpAny_Call_Name_kw (ld_glob I gl hm ?_ dbg)
  have hl : ([] : List Value).length = ps.length := F.arity _ _ _ _ h
  exact PySem.W.callWith_K0 I.kIn kp (go_g (args := ⟨[], []⟩) F (hr.mono hk) gd hx I (BindsTo.of_eq (bn [] hl)) .nil h)
/-- f(k = v, ..), no argument by position -/
def tCallW (sp : Sp) (pi : {α : Type} → List α → List α → List α) (m : Nat) (E : XK) (tk : TA) : TE := fun σ H Q => tk σ H fun zs H1 => zs.length = m ∧ sp (pi [] zs) H1 Q E
theorem pe_gw (c : KalG X.prog X.w X.K X.mg X.base CX k x 0 ks pi sp) (hr : Room j X.A) (hk : k ≤ j) (gd : X.A.guards = some []) (hx : Passes CX X E)
    (gl : Gl X x) (hkw : PK X kws tk) (dbg : (x == ("__debug__" : Str)) = false := by decide)
    (all : (backToKw pos (keywordEach kws X.env)).all (·.1.isSome) = true := by rfl) (hks : (backToKw pos (keywordEach kws X.env)).filterMap (·.1) = ks := by rfl)
    (pl : ((backTo pos (starEach [] X.env)).any (·.1) || (backToKw pos (keywordEach kws X.env)).any (·.1.isNone)) = false := by rfl) :
    PE X (.Call (.Name x p) [] kws pos) (tCallW sp pi ks.length E tk) := by
  obtain ⟨f, fd, ps, F, hm, kp, bn, rl⟩ := c.is
  constructor
  intro pins s σ H Q I h
  refine wpAny_Call_Name_kw (ld_glob I gl hm ?_ dbg)
  refine PySem.W.callWith_KW0 (h₀ := X.base) I.ok.mod.kin kp all ?_ pl
  refine thn (hkw.run pos pins s σ H _ I h) ?_
  rintro ws s1 ⟨zs, H1, I1, r, hz, q⟩
  rw [hks]
  have hw : ws.length = ks.length := by rw [← r.length]; exact hz
  exact ⟨I1.kIn, go_g (args := ⟨[], ks.zip ws⟩) F (hr.mono hk) gd hx I1 (BindsTo.of_eq (bn [] ws rfl hw)) (rl _ _ _ _ rfl hw .nil r) q⟩
/-- f(e, .., k = v, ..) -/
def tCallV (sp : Sp) (pi : {α : Type} → List α → List α → List α) (n m : Nat) (E : XK) (t tk : TA) : TE := fun σ H Q => t σ H fun vs H1 => tk σ H1 fun zs H2 => vs.length = n ∧ zs.length = m ∧ sp (pi vs zs) H2 Q E
theorem pe_gv (c : KalG X.prog X.w X.K X.mg X.base CX k x n ks pi sp) (hr : Room j X.A) (hk : k ≤ j) (gd : X.A.guards = some []) (hx : Passes CX X E)
    (gl : Gl X x) (ha : PA X (e :: es) t) (hkw : PK X kws tk) (dbg : (x == ("__debug__" : Str)) = false := by decide)
    (all : (backToKw pos (keywordEach kws X.env)).all (·.1.isSome) = true := by rfl) (hks : (backToKw pos (keywordEach kws X.env)).filterMap (·.1) = ks := by rfl)
    (st : starEach (e :: es) X.env = (false, eval e X.env) :: starEach es X.env := by rfl)
    (pl : ((backTo pos (starEach (e :: es) X.env)).any (·.1) || (backToKw pos (keywordEach kws X.env)).any (·.1.isNone)) = false := by rfl) :
    PE X (.Call (.Name x p) (e :: es) kws pos) (tCallV sp pi n ks.length E t tk) := by
  obtain ⟨f, fd, ps, F, hm, kp, bn, rl⟩ := c.is
  constructor
  intro pins s σ H Q I h
  refine wpAny_Call_Name_kw (ld_glob I gl hm ?_ dbg)
  refine PySem.W.callWith_KW (h₀ := X.base) I.ok.mod.kin kp all ?_ pl st
  refine thn (ha.run pos pins s σ H _ I h) ?_
  rintro us s1 ⟨vs, H1, I1, r1, q1⟩
  refine thn (hkw.run pos pins s1 σ H1 _ I1 q1) ?_
  rintro ws s2 ⟨zs, H2, I2, r2, hv, hz, q⟩
  rw [hks]
  have hu : us.length = n := by rw [← r1.length]; exact hv
  have hw : ws.length = ks.length := by rw [← r2.length]; exact hz
  exact ⟨I2.kIn, go_g (args := ⟨us, ks.zip ws⟩) F (hr.mono hk) gd hx I2 (BindsTo.of_eq (bn us ws hu hw)) (rl _ _ _ _ hu hw r1 r2) q⟩
end

/-! ### repr -/
theorem showable_dd {S : Addr → Prop} {H : Hp} {d : PyData} (_ : True) : d.showable = true → d.showable = true := id
/-- repr(x), x data -/
def rRepr : List V → Hp → VK → Prop := fun xs H Q => ∃ (x : V) (d : PyData) (S : Addr → Prop), xs = [x] ∧ DD S H x d ∧ d.showable = true ∧ d.depth ≤ 60 ∧ d.shown.length ≤ sizeLine ∧ Q (.str d.shown) H
theorem call_repr {X : Cx} {k : Nat} (gd : X.A.guards = some []) (hr : Room k X.A) (hS : ∃ o, X.base.get? sysModules = some o) : CallR X (.builtin "repr") rRepr := by
  intro pins s σ H xs us Q I r h
  obtain ⟨x, d, S, rfl, hd, sh, dp, sz, q⟩ := h
  obtain ⟨u, eu, rx⟩ : ∃ u, us = [u] ∧ RelV x u := by
    cases r with
    | cons h1 h2 => cases h2; exact ⟨_, rfl, h1⟩
  subst eu
  obtain ⟨as, rd, ns⟩ := DD.reads I (Inv.noSys I hS) hd u rx
  have fin : ∀ (g : Heap) (t tk : Tok), (∀ b o, s.heap.get? b = some o → g.get? b = some o) → EP X pins σ Q (.str d.shown t) { s with heap := g, toks := tk } :=
    fun g t tk hk => ⟨.str d.shown, H, (I.kept hk), ⟨t, rfl⟩, q⟩
  have un := hr.un
  cases hd with
  | non => cases rx; exact PySem.P.repr_of_none (fin s.heap _ _ fun _ _ h => h)
  | bl b => cases rx; exact PySem.P.repr_of_bool (fin s.heap _ _ fun _ _ h => h)
  | int i =>
    obtain ⟨t, rfl⟩ := rx
    exact PySem.P.repr_of_int (by simpa [PyData.showable] using sh) (fin s.heap _ _ fun _ _ h => h)
  | str y =>
    obtain ⟨t, rfl⟩ := rx
    exact PySem.P.repr_of_str (fin s.heap _ _ fun _ _ h => h) sz
  | tup h1 h2 =>
    cases rx
    exact repr_of_reads' rd sh (fun _ => ns) gd (by omega) (fun _ _ h => h) (fun g t tk hk => fin g t tk hk) sz
  | lst n h1 h2 =>
    cases rx
    exact repr_of_reads' rd sh (fun _ => ns) gd (by omega) (fun _ _ h => h) (fun g t tk hk => fin g t tk hk) sz
  | dct n h1 h2 =>
    cases rx
    exact repr_of_reads' rd sh (fun _ => ns) gd (by omega) (fun _ _ h => h) (fun g t tk hk => fin g t tk hk) sz
end LB

namespace LB
open PySem PySem.Spec PyProof.Rows L2
/-! ### readings by short names -/
abbrev rAddI : R2 := rI0 fun i j => .int (i + j)
abbrev rSubI : R2 := rI0 fun i j => .int (i - j)
abbrev rModI : R2 := rI (fun _ j => j ≠ 0) fun i j => .int (i.fmod j)
abbrev rFdvI : R2 := rI CDivN fun i j => .int (i.fdiv j)
def CPowW (i j : Int) : Prop := 0 ≤ j ∧ (Builtin.Int.intBits i : Int) * j ≤ 2 ^ 27
abbrev rPowI : R2 := rI CPowW fun i j => .int (i ^ j.toNat)
abbrev rNegI : V → Hp → VK → Prop := rU fun i => .int (-i)
abbrev rLtI : R2 := rI0 fun i j => .bl (decide (i < j))
abbrev rLeI : R2 := rI0 fun i j => .bl (decide (i ≤ j))
abbrev rGtI : R2 := rI0 fun i j => .bl (decide (j < i))
abbrev rGeI : R2 := rI0 fun i j => .bl (decide (j ≤ i))
abbrev rAbs : List V → Hp → VK → Prop := fun xs H Q => ∃ i, xs = [.int i] ∧ Q (.int (if i < 0 then -i else i)) H
abbrev rInt1 : List V → Hp → VK → Prop := fun xs H Q => (∃ i, xs = [.int i] ∧ Q (.int i) H) ∨ ∃ k, xs = [.bl k] ∧ Q (.int (if k then 1 else 0)) H
abbrev rStrInt : List V → Hp → VK → Prop := fun xs H Q => ∃ i, xs = [.int i] ∧ i.natAbs.log2 < 1920 ∧ Q (.str (toString i)) H
abbrev rMax2 : List V → Hp → VK → Prop := fun xs H Q => ∃ i j, xs = [.int i, .int j] ∧ Q (.int (if j > i then j else i)) H
abbrev rMin2 : List V → Hp → VK → Prop := fun xs H Q => ∃ i j, xs = [.int i, .int j] ∧ Q (.int (if j < i then j else i)) H
abbrev rListOf (K : PySem.W.Frag) : List V → Hp → VK → Prop := fun xs H Q => ∃ p ys, xs = [.ref p] ∧ (SqL K H p ys ∨ SqT K H p ys) ∧ ∀ l, H l = none → Q (.ref l) (upd H l (.lst ys))
abbrev rTupOf (K : PySem.W.Frag) : List V → Hp → VK → Prop := fun xs H Q => ∃ p ys, xs = [.ref p] ∧ ((SqL K H p ys ∧ ∀ l, H l = none → Q (.ref l) (upd H l (.tup ys))) ∨ (SqT K H p ys ∧ Q (.ref p) H))
abbrev rUpper : V → List V → Hp → VK → Prop := fun x xs H Q => ∃ a, x = .str a ∧ xs = [] ∧ a.length ≤ 5592405 ∧ Q (.str (Txt.upper a)) H
abbrev rAddS : R2 := fun x y H Q => ∃ i j, x = .str i ∧ y = .str j ∧ i.length + j.length ≤ sizeLine ∧ Q (.str (i ++ j)) H
def rAddA (K : PySem.W.Frag) : R2 := fun x y H Q => rAddI x y H Q ∨ rAddS x y H Q ∨ rCat x y H Q ∨ rCatA K x y H Q
def rMulA (K : PySem.W.Frag) : R2 := fun x y H Q => rI CMul (fun i j => .int (i * j)) x y H Q ∨ rI CMulW (fun i j => .int (i * j)) x y H Q ∨ rRep x y H Q ∨ rRepT K x y H Q
def rInA (K : PySem.W.Frag) : R2 := fun x y H Q => rIn K false x y H Q ∨ rInD K x y H Q
def rNiA (K : PySem.W.Frag) : R2 := fun x y H Q => rIn K true x y H Q ∨ rNotInD K x y H Q
abbrev rIsN1 : R2 := fun x y H Q => y = .non ∧ Q (.bl (decide (x = .non))) H
abbrev rNotN1 : R2 := fun x y H Q => y = .non ∧ Q (.bl (!decide (x = .non))) H
def rIsA : R2 := fun x y H Q => rIsN1 x y H Q ∨ rIsB x y H Q
def rNotA : R2 := fun x y H Q => rNotN1 x y H Q ∨ rNotB x y H Q
def rSlAny (K : PySem.W.Frag) : V → Option Int → Option Int → Hp → VK → Prop := fun x lo hi H Q => rSlL K x lo hi H Q ∨ rSlA K x lo hi H Q ∨ rSlS x lo hi H Q
def tTr (K : PySem.W.Frag) (ta : TE) : TT := fun σ H Q => ta σ H fun x H' => ∃ k, TruV K x H' k ∧ Q k H'
def iSeq (K : PySem.W.Frag) (tl : TE) : TI := fun σ H R => iList K tl σ H R ∨ iTup K tl σ H R
section
variable {X : Cx}
theorem op_powW : OpR X (binaryOp .Pow) rPowI := opI fun _ _ _ _ _ _ _ hc q => pow_int hc.1 hc.2 q
theorem op_addA : OpR X (binaryOp .Add) (rAddA X.K) := op_add.or (op_add_str.or (op_cat.or op_catA))
theorem op_mulA : OpR X (binaryOp .Mult) (rMulA X.K) := op_mul.or (op_mulW.or (op_rep.or op_repT))
theorem op_inA (u : X.A.units + 65 < cLine) : OpR X (compareOp .In) (rInA X.K) := op_in_seq.or (op_inD u)
theorem op_niA (u : X.A.units + 65 < cLine) : OpR X (compareOp .NotIn) (rNiA X.K) := op_notIn_seq.or (op_notInD u)
theorem op_isA : OpR X (compareOp .Is) rIsA := op_isN.or op_isBl
theorem op_notA : OpR X (compareOp .IsNot) rNotA := op_notN.or op_notBl
theorem sl_any : SlR X (rSlAny X.K) := sl_list.or (sl_tupA.or sl_str)
theorem pi_seq {tg l : Expr} {tl : TE} (h : PE X l tl) : PI X tg l (iSeq X.K tl) := by
  constructor
  intro pins s σ H R I q
  rcases q with q | q
  · exact (pi_list h).run pins s σ H R I q
  · exact (pi_tup h).run pins s σ H R I q
theorem units65 {k : Nat} {A : Around} (r : Room k A) : A.units + 65 < cLine := by
  have := r.un
  omega
end
end LB

namespace LB
open PySem PySem.Spec PyProof.Rows L2
section
open SeqAt
variable {prog : Program} {w : World} {A : Around} {E : Value → Shared → Prop} {s : Shared}
theorem call_dict_eq_str {l : Addr} {b : Str} {u : Tok} {Q : Value → Shared → Prop} (ty : s.TypeIs (.ref l) "dict") (h : Q .notImplemented s) :
    wpAny (model prog w) A (call (.builtin "dict.__eq__") [.ref l, .str b u]) Q E s := by
  refine wpAny_call_entry PySem.F.slot_dict_eq ty PySem.F.entry_dict_eq ?_ (PySem.F.args_dict_eq_2 _ _)
  show wpAny _ _ (Builtin.Dict.dictSlotArgs "__eq__" ⟨[.ref l, .str b u], []⟩ >>= _) _ _ s
  refine wpAny_bind ?_
  unfold Builtin.Dict.dictSlotArgs
  refine wpAny_bind (wpAny_notOrdered_dict ty ?_)
  show wpAny _ _ (pure (Value.ref l, Value.str b u)) _ _ s
  refine wpAny_pure ?_
  refine wpAny_bind (wpAny_isInstance (T := "str") (typeIs_str s b u) PySem.F.sub_str_dict ?_)
  simp only [Bool.not_false, if_true]
  exact wpAny_bind (wpAny_rule (wpAny_bind (wpAny_pure (wpAny_pure ⟨_, rfl, h⟩))))
open AutoSeq1 (wpAny_loadPart') in
theorem str_eq_dict (b : Str) (u : Tok) (l : Addr) (o : Obj) (es : Array DictEntry) (ep : Nat) (hd : o.data = .dict es ep) :
    Meets (Builtin.«str.__eq__» ⟨[.str b u, .ref l], []⟩) (fun _ R s => s.heap.get? l = some o ∧ R (.ok (.ret .notImplemented)) s) :=
  .of_wp fun prog w A R s h => by
    obtain ⟨cls, dd, data, sl⟩ := o
    simp only at hd
    subst hd
    obtain ⟨hp, g, d, tk, os⟩ := s
    obtain ⟨hl, h⟩ := h
    wp_walk using wpAny_loadPart' hl, wpAny_load hl
    exact ⟨_, rfl, h⟩
theorem rc_dict_str {l : Addr} {o : Obj} {es : Array DictEntry} {ep : Nat} {b : Str} {u : Tok} {Q : Value → Shared → Prop} (ho : s.heap.get? l = some o) (hc : o.cls = .type "dict") (hd : o.data = .dict es ep)
    (hu : A.units < cLine) (h : Q (.bool false) s) : wpAny (model prog w) A (compareOp .Eq (.ref l) (.str b u)) Q E s := by
  refine rc_eq_decline_or (k := false) ⟨o, ho, hc⟩ (typeIs_str s b u) (by decide) PySem.F.sub_str_dict PySem.F.slot_dict_eq PySem.F.slot_str_eq_refl
    (fun _ hq => call_dict_eq_str ⟨o, ho, hc⟩ hq)
    (fun _ hq => call_meets PySem.F.slot_str_eq_refl (typeIs_str s b u) PySem.F.entry_str_eq (PySem.F.args_str_eq_2 _ _) (str_eq_dict b u l o es ep hd) ⟨ho, hq⟩)
    (fun _ hq => wpAny_of_eq (rfl : isSame (.ref l) (.str b u) = pure false) hq) (.inr hu) h
end
/-! ### data compared with a text -/
def eqStr : PyData → Str → Bool
  | .str t, x => decide (t = x)
  | _, _ => false
def rEqX : R2 := fun x y H Q => ∃ (d : PyData) (S : Addr → Prop) (z : Str), DD S H x d ∧ y = .str z ∧ Q (.bl (eqStr d z)) H
theorem op_eqX {X : Cx} (hu : X.A.units < cLine) : OpR X (compareOp .Eq) rEqX := by
  intro pins s σ H x y v u Q I rx ry h
  obtain ⟨d, S, z, hd, rfl, q⟩ := h
  have sc : ∀ {x : V} {d : PyData}, RelV x v → scal x (.str z) = true → decide (x = .str z) = eqStr d z → Q (.bl (eqStr d z)) H → wpAny (model X.prog X.w) X.A (compareOp .Eq v u) (EP X pins σ Q) X.xe s :=
    fun {x d} rx e1 e2 q => op_eq pins s σ H x (.str z) v u Q I rx ry ⟨e1, by rw [e2]; exact q⟩
  cases hd with
  | non => exact sc (d := .none) rx rfl (by simp [eqStr]) q
  | bl b => exact sc (d := .bool b) rx rfl (by simp [eqStr]) q
  | int i => exact sc (d := .int i) rx rfl (by simp [eqStr]) q
  | str t => exact sc (d := .str t) rx rfl (by simp [eqStr]) q
  | tup h1 h2 =>
    cases rx
    obtain ⟨t, rfl⟩ := ry
    obtain ⟨its, rv, ht, _⟩ := I.tuple (.inl (.inl h1))
    exact SeqAt.RcAt.tuple_str z t ht hu _ _ _ _ ⟨.bl false, H, I, rfl, q⟩
  | lst n h1 h2 =>
    cases rx
    obtain ⟨t, rfl⟩ := ry
    obtain ⟨its, rv, hl, _⟩ := I.list (.inl (.inl h1))
    exact SeqAt.RcAt.list_str z t hl.isList hu _ _ _ _ ⟨.bl false, H, I, rfl, q⟩
  | dct n h1 h2 =>
    cases rx
    obtain ⟨t, rfl⟩ := ry
    obtain ⟨_, sy, vs, kv, o, es, ep, ho, hx, hd, _, hp, _⟩ := (show ObjOk X.prog X.w H s.heap _ (.dK _) from I.hok _ _ h1)
    exact rc_dict_str ho hx.1 hd hu ⟨.bl false, H, I, rfl, q⟩
/-! ### t == () -/
def rEqE : R2 := fun x y H Q => ∃ (a b : Addr) (xs : List V), x = .ref a ∧ y = .ref b ∧ H a = some (.tup xs) ∧ H b = some (.tup []) ∧ Q (.bl xs.isEmpty) H
theorem op_eqE {X : Cx} (hu : X.A.units < cLine) : OpR X (compareOp .Eq) rEqE := by
  intro pins s σ H x y v u Q I rx ry h
  obtain ⟨a, b, xs, rfl, rfl, h1, h3, q⟩ := h
  cases rx
  cases ry
  obtain ⟨i1, r1, t1, _⟩ := I.tuple (.inl (.inl h1))
  obtain ⟨i2, r2, t2, _⟩ := I.tuple (.inl (.inl h3))
  cases r2
  have hl : xs.isEmpty = i1.isEmpty := by
    have := r1.length
    cases xs <;> cases i1 <;> simp at this ⊢
  rw [hl] at q
  refine SeqAt.RcAt.tuples (e := fun _ => true) t1 t2 hu (fun j h1 h2 => by simp at h2) _ _ _ _ ⟨.bl i1.isEmpty, H, I, ?_, q⟩
  show Value.bool _ = Value.bool _
  cases i1 <;> simp
/-! ### all of them -/
def rEqA (K : PySem.W.Frag) : R2 := fun x y H Q => rEq x y H Q ∨ rEqX x y H Q ∨ rEqE x y H Q ∨ rEqD K x y H Q
theorem op_eqA {X : Cx} (u : X.A.units + 65 < cLine) : OpR X (compareOp .Eq) (rEqA X.K) := op_eq.or ((op_eqX (by omega)).or ((op_eqE (by omega)).or (op_eqD (by omega))))
def rNeA (K : PySem.W.Frag) : R2 := fun x y H Q => rNe x y H Q ∨ rNeD K x y H Q
theorem op_neA {X : Cx} (u : X.A.units + 65 < cLine) : OpR X (compareOp .NotEq) (rNeA X.K) := op_ne.or (op_neD (by omega))
end LB

namespace LB
open PySem PySem.Spec PyProof.Rows L2
/-- H1 is H with a new object o at p -/
structure New (H H1 : Hp) (p : Addr) (o : HO) : Prop where
  no : H p = none
  at_ : H1 p = some o
  off : ∀ b, b ≠ p → H1 b = H b
theorem New.mk' {H : Hp} {p : Addr} {o : HO} (h : H p = none) : New H (upd H p o) p o := ⟨h, upd_same, fun _ hb => upd_ne hb⟩
theorem New.keep {S : Addr → Prop} {H H1 : Hp} {p : Addr} {o : HO} (n : New H H1 p o) : Keep S H H1 :=
  ⟨fun b _ _ e => by rw [n.off b (ne_of_none e n.no)]; exact e, fun b _ e => by rw [n.off b (ne_of_none e n.no)]; exact e⟩
theorem New.get {H H1 : Hp} {p b : Addr} {o u : HO} (n : New H H1 p o) (e : H b = some u) : H1 b = some u := by rw [n.off b (ne_of_none e n.no)]; exact e
theorem New.ne {H H1 : Hp} {p b : Addr} {o u : HO} (n : New H H1 p o) (e : H b = some u) : b ≠ p := ne_of_none e n.no
/-- H1 is H with the list at p changed -/
theorem upd_get {H : Hp} {p b : Addr} {o u : HO} (n : b ≠ p) (e : H b = some u) : upd H p o b = some u := by rw [upd_ne n]; exact e
def kTupl (Q : VK) : List V → Hp → Prop := fun xs H1 => xs.length ≤ sizeLine ∧ ∀ p, H1 p = none → Q (.ref p) (upd H1 p (.tup xs))
def kLst (Q : VK) : List V → Hp → Prop := fun xs H1 => xs.length ≤ sizeLine ∧ ∀ p, H1 p = none → Q (.ref p) (upd H1 p (.lst xs))
/-! ### readings, step by step -/
section
variable {K : PySem.W.Frag} {t u : TS} {D : Ends} {σ : LB.St} {H : Hp} {Q : VK} {te ta tb : TE} {g : TG} {tr : TA} {r : R2} {Qb : Bool → Hp → Prop} {c : TT} {QA : List V → Hp → Prop}
theorem w_seq (h : t { D with nx := u D } σ H) : tSeq t u D σ H := h
theorem w_asg (h : te σ H fun x H1 => g x σ H1 D.nx) : tAsg te g D σ H := h
theorem w_drop (h : te σ H fun _ H1 => D.nx σ H1) : tDrop te D σ H := h
theorem w_ret (h : te σ H D.rt) : tRet te D σ H := h
theorem w_next (h : D.nx σ H) : tNext D σ H := h
theorem w_ifs (h : c σ H fun b H1 => if b = true then t D σ H1 else u D σ H1) : tIfS c t u D σ H := h
theorem w_name {i : Nat} {v : V} {Qn : LB.St → Hp → Prop} (h : Qn (σ.set i (some v)) H) : gName i v σ H Qn := h
theorem w_sub {to ti : TE} {v : V} {ts : TSet} {Qn : LB.St → Hp → Prop} (h : to σ H fun o H1 => ti σ H1 fun i H2 => ts o i v H2 fun H3 => Qn σ H3) : gSub to ti ts v σ H Qn := h
theorem w_par {i j : Nat} (h : tr σ H fun vs H1 => ∃ v w, vs = [v, w] ∧ D.nx ((σ.set i (some v)).set j (some w)) H1) : tPar i j tr D σ H := h
theorem w_var {i : Nat} {v : V} (e : σ[i]? = some (some v)) (h : Q v H) : tVar i σ H Q := ⟨v, e, h⟩
theorem w_c {v : V} (h : Q v H) : tC v σ H Q := h
theorem w_op (h : ta σ H fun x H1 => tb σ H1 fun y H2 => r x y H2 Q) : tOp r ta tb σ H Q := h
theorem w_un {f : V → Hp → VK → Prop} (h : ta σ H fun x H1 => f x H1 Q) : tUn f ta σ H Q := h
theorem w_test (h : te σ H fun x H' => ∃ k, x = .bl k ∧ Qb k H') : tTest te σ H Qb := h
theorem w_tb (h : te σ H fun x H' => ∃ k, x = .bl k ∧ Qb k H') : tB te σ H Qb := h
theorem w_nil (h : QA [] H) : tNil σ H QA := h
theorem w_cons (h : ta σ H fun x H1 => tr σ H1 fun xs H2 => QA (x :: xs) H2) : tCons ta tr σ H QA := h
theorem w_cb {f : List V → Hp → VK → Prop} (h : tr σ H fun vs H1 => f vs H1 Q) : tCB f tr σ H Q := h
theorem w_call {sp : Sp} {E : XK} (h : tr σ H fun vs H1 => sp vs H1 Q E) : tCall sp [] E tr σ H Q := by
  show tr σ H fun vs H1 => sp (vs ++ []) H1 Q E
  simp only [List.append_nil]
  exact h
theorem w_not {tt : TT} (h : tt σ H fun c H1 => Qb (!c) H1) : tNot tt σ H Qb := h
theorem w_and {tt uu : TT} (h : tt σ H fun c H1 => if c = true then uu σ H1 Qb else Qb false H1) : tAnd tt uu σ H Qb := h
theorem w_or {tt uu : TT} (h : tt σ H fun c H1 => if c = true then Qb true H1 else uu σ H1 Qb) : tOr tt uu σ H Qb := h
theorem w_andV (h : ta σ H fun x H1 => ∃ c, x = .bl c ∧ if c = true then tb σ H1 Q else Q (.bl false) H1) : tAndV ta tb σ H Q := h
theorem w_orV (h : ta σ H fun x H1 => ∃ c, x = .bl c ∧ if c = true then Q (.bl true) H1 else tb σ H1 Q) : tOrV ta tb σ H Q := h
theorem w_notV (h : ta σ H fun x H1 => ∃ c, x = .bl c ∧ Q (.bl (!c)) H1) : tNotV ta σ H Q := h
theorem w_ife {tt : TT} (h : tt σ H fun c H1 => if c = true then ta σ H1 Q else tb σ H1 Q) : tIf tt ta tb σ H Q := h
theorem w_chain {r' : R2} {tc : TE} (h : ta σ H fun x H1 => tb σ H1 fun y H2 => r x y H2 fun z H3 => ∃ k, z = .bl k ∧ (if k = true then tc σ H3 fun w' H4 => r' y w' H4 Q else Q (.bl false) H3)) : tChain r r' ta tb tc σ H Q := h
theorem w_bm {T : String} {f : V → List V → Hp → VK → Prop} (h : ta σ H fun x H1 => tyV K T x H1 ∧ tr σ H1 fun xs H2 => f x xs H2 Q) : tBM K T f ta tr σ H Q := h
theorem w_sl {f : V → Option Int → Option Int → Hp → VK → Prop} {tl th : TO} (h : te σ H fun x H1 => tl σ H1 fun l H2 => th σ H2 fun u H3 => f x l u H3 Q) : tSl f te tl th σ H Q := h
theorem w_part {Qo : Option Int → Hp → Prop} (h : te σ H fun x H1 => ∃ i, x = .int i ∧ Qo (some i) H1) : tPart te σ H Qo := h
theorem w_nopart {Qo : Option Int → Hp → Prop} (h : Qo none H) : tNoPart σ H Qo := h
theorem w_ex {p : V} {k : Bool} {R : Bool → Prop} (h : R k) : ∃ c, V.bl k = .bl c ∧ R c := ⟨k, rfl, h⟩
theorem w_exb {k : Bool} {R : Bool → Prop} (h : R k) : ∃ c, V.bl k = .bl c ∧ R c := ⟨k, rfl, h⟩
theorem w_exi {k : Int} {R : Int → Prop} (h : R k) : ∃ c, V.int k = .int c ∧ R c := ⟨k, rfl, h⟩
theorem w_ex2 {v w : V} {R : V → V → Prop} (h : R v w) : ∃ a b, [v, w] = [a, b] ∧ R a b := ⟨v, w, rfl, h⟩
theorem w_tup (h : tr σ H (kTupl Q)) : tTup tr σ H Q := h
theorem w_lst (h : tr σ H (kLst Q)) : tLst tr σ H Q := h
theorem k_tup {xs : List V} (hn : xs.length ≤ sizeLine) (h : ∀ p H1, New H H1 p (.tup xs) → Q (.ref p) H1) : kTupl Q xs H := ⟨hn, fun p hp => h p _ (.mk' hp)⟩
theorem k_lst {xs : List V} (hn : xs.length ≤ sizeLine) (h : ∀ p H1, New H H1 p (.lst xs) → Q (.ref p) H1) : kLst Q xs H := ⟨hn, fun p hp => h p _ (.mk' hp)⟩
theorem w_iteT {A B : Prop} {c : Bool} (e : c = true) (h : A) : if c = true then A else B := by rw [if_pos e]; exact h
theorem w_iteF {A B : Prop} {c : Bool} (e : c = false) (h : B) : if c = true then A else B := by rw [e]; exact h
theorem w_ite {A B : Prop} {c : Prop} [Decidable c] (h1 : c → A) (h2 : ¬ c → B) : if decide c = true then A else B := by
  by_cases h : c
  · rw [if_pos (decide_eq_true h)]; exact h1 h
  · rw [decide_eq_false h]; exact h2 h
theorem w_iteb {A B : Prop} {c : Bool} (h1 : c = true → A) (h2 : c = false → B) : if c = true then A else B := by
  cases c with
  | true => exact h1 rfl
  | false => exact h2 rfl
/-! operators -/
variable {i j : Int}
theorem o_add (h : Q (.int (i + j)) H) : rAddA K (.int i) (.int j) H Q := .inl ⟨i, j, rfl, rfl, h⟩
theorem o_addI (h : Q (.int (i + j)) H) : rAddI (.int i) (.int j) H Q := ⟨i, j, rfl, rfl, h⟩
theorem o_adds {x y : Str} (e : x.length + y.length ≤ sizeLine) (h : Q (.str (x ++ y)) H) : rAddA K (.str x) (.str y) H Q := .inr (.inl ⟨x, y, rfl, rfl, e, h⟩)
theorem o_addl {a b : Addr} {xs ys : List V} (e1 : H a = some (.lst xs)) (e2 : H b = some (.lst ys)) (e : xs.length + ys.length ≤ sizeLine) (h : ∀ p H1, New H H1 p (.lst (xs ++ ys)) → Q (.ref p) H1) : rAddA K (.ref a) (.ref b) H Q :=
  .inr (.inr (.inl ⟨a, b, xs, ys, rfl, rfl, e1, e2, e, fun p hp => h p _ (.mk' hp)⟩))
theorem o_sub (h : Q (.int (i - j)) H) : rSubI (.int i) (.int j) H Q := ⟨i, j, rfl, rfl, h⟩
theorem o_mul (e : -(2 ^ 64) < i ∧ i < 2 ^ 64) (h : Q (.int (i * j)) H) : rMulA K (.int i) (.int j) H Q := .inl ⟨i, j, rfl, rfl, .inl e, h⟩
theorem o_mulR (e : -(2 ^ 64) < j ∧ j < 2 ^ 64) (h : Q (.int (i * j)) H) : rMulA K (.int i) (.int j) H Q := .inl ⟨i, j, rfl, rfl, .inr e, h⟩
theorem o_mod (e : j ≠ 0) (h : Q (.int (i.fmod j)) H) : rModI (.int i) (.int j) H Q := ⟨i, j, rfl, rfl, e, h⟩
theorem o_fdv (e : j ≠ 0) (e2 : j.natAbs < 1073741824) (h : Q (.int (i.fdiv j)) H) : rFdvI (.int i) (.int j) H Q := ⟨i, j, rfl, rfl, ⟨e, e2⟩, h⟩
theorem o_pow (e : CPowW i j) (h : Q (.int (i ^ j.toNat)) H) : rPowI (.int i) (.int j) H Q := ⟨i, j, rfl, rfl, e, h⟩
theorem o_neg (h : Q (.int (-i)) H) : rNegI (.int i) H Q := ⟨i, rfl, h⟩
theorem o_lt (h : Q (.bl (decide (i < j))) H) : rLtI (.int i) (.int j) H Q := ⟨i, j, rfl, rfl, h⟩
theorem o_le (h : Q (.bl (decide (i ≤ j))) H) : rLeI (.int i) (.int j) H Q := ⟨i, j, rfl, rfl, h⟩
theorem o_gt (h : Q (.bl (decide (j < i))) H) : rGtI (.int i) (.int j) H Q := ⟨i, j, rfl, rfl, h⟩
theorem o_ge (h : Q (.bl (decide (j ≤ i))) H) : rGeI (.int i) (.int j) H Q := ⟨i, j, rfl, rfl, h⟩
theorem o_eqs {x y : V} (e : scal x y = true) (h : Q (.bl (decide (x = y))) H) : rEqA K x y H Q := .inl ⟨e, h⟩
theorem o_nes {x y : V} (e : scal x y = true) (h : Q (.bl (!decide (x = y))) H) : rNeA K x y H Q := .inl ⟨e, h⟩
theorem o_ixl {a : Addr} {xs : List V} {v : V} {n : Nat} (e1 : H a = some (.lst xs)) (e2 : xs[n]? = some v) (h : Q v H) : rIx K (.ref a) (.int n) H Q :=
  .inl ⟨a, xs, n, v, rfl, rfl, .inl (.inl e1), atI_nat e2, h⟩
theorem o_ixt {a : Addr} {xs : List V} {v : V} {n : Nat} (e1 : H a = some (.tup xs)) (e2 : xs[n]? = some v) (h : Q v H) : rIx K (.ref a) (.int n) H Q :=
  .inr (.inl ⟨a, xs, n, v, rfl, rfl, .inl (.inl e1), atI_nat e2, h⟩)
theorem o_setl {a : Addr} {xs : List V} {v : V} {n : Nat} {Qh : Hp → Prop} (e1 : H a = some (.lst xs)) (e2 : n < xs.length) (h : Qh (upd H a (.lst (xs.set n v)))) : rSetL (.ref a) (.int n) v H Qh :=
  ⟨a, xs, n, n, rfl, rfl, e1, by unfold ixN; rw [if_pos (Int.natCast_nonneg n), if_pos (by omega)]; simp, h⟩
theorem o_ixL {a : Addr} {xs : List V} {v : V} {z : Int} (e1 : H a = some (.lst xs)) (e0 : 0 ≤ z) (e2 : xs[z.toNat]? = some v) (h : Q v H) : rIx K (.ref a) (.int z) H Q := by
  obtain ⟨n, rfl⟩ := Int.eq_ofNat_of_zero_le e0
  exact o_ixl e1 e2 h
theorem o_ixT {a : Addr} {xs : List V} {v : V} {z : Int} (e1 : H a = some (.tup xs)) (e0 : 0 ≤ z) (e2 : xs[z.toNat]? = some v) (h : Q v H) : rIx K (.ref a) (.int z) H Q := by
  obtain ⟨n, rfl⟩ := Int.eq_ofNat_of_zero_le e0
  exact o_ixt e1 e2 h
theorem o_setL {a : Addr} {xs : List V} {v : V} {z : Int} {Qh : Hp → Prop} (e1 : H a = some (.lst xs)) (e0 : 0 ≤ z) (e2 : z.toNat < xs.length) (h : Qh (upd H a (.lst (xs.set z.toNat v)))) : rSetL (.ref a) (.int z) v H Qh := by
  obtain ⟨n, rfl⟩ := Int.eq_ofNat_of_zero_le e0
  exact o_setl e1 e2 h
theorem o_len {x : V} {n : Nat} (e : LenV K x H n) (h : Q (.int n) H) : rLen K [x] H Q := ⟨x, n, rfl, e, h⟩
theorem lenl {a : Addr} {xs : List V} (e : H a = some (.lst xs)) : LenV K (.ref a) H xs.length := .inl ⟨xs, .inl (.inl e), rfl⟩
theorem lent {a : Addr} {xs : List V} (e : H a = some (.tup xs)) : LenV K (.ref a) H xs.length := .inr ⟨xs, .inl (.inl e), rfl⟩
theorem o_abs (h : Q (.int (if i < 0 then -i else i)) H) : rAbs [.int i] H Q := ⟨i, rfl, h⟩
theorem o_int1b {b : Bool} (h : Q (.int (if b then 1 else 0)) H) : rInt1 [.bl b] H Q := .inr ⟨b, rfl, h⟩
end
/-! ### the pot -/
/-- the pot at p, good for n draws more -/
def Pot (H : Hp) (p : Addr) (n : Nat) : Prop := ∃ a b c : Int, H p = some (.lst [.int a, .int b, .int c]) ∧ 0 ≤ a ∧ (0 ≤ b ∧ b < 2305843009213693921) ∧ 0 ≤ c ∧ c + n ≤ 8388608
def spDraw : Sp := fun vs H Q _ => ∃ (p : Addr) (m : Int) (n : Nat), vs = [.ref p, .int m] ∧ Pot H p (n + 1) ∧ 1 ≤ m ∧ m < 1073741824 ∧
  ∀ (H' : Hp) (k : Int), Keep (At p) H H' → Pot H' p n → 0 ≤ k → k < m → Q (.int k) H'
end LB

namespace LB
open PySem PySem.Spec PyProof.Rows L2
/-! ### more steps -/
/-- H1 is H with the object at p changed into o -/
structure Put (H H1 : Hp) (p : Addr) (o : HO) : Prop where
  at_ : H1 p = some o
  off : ∀ b, b ≠ p → H1 b = H b
theorem Put.mk' {H : Hp} {p : Addr} {o : HO} : Put H (upd H p o) p o := ⟨upd_same, fun _ hb => upd_ne hb⟩
theorem Put.get {H H1 : Hp} {p b : Addr} {o u : HO} (n : Put H H1 p o) (h : b ≠ p) (e : H b = some u) : H1 b = some u := by rw [n.off b h]; exact e
theorem Put.keep {S : Addr → Prop} {H H1 : Hp} {p : Addr} {o : HO} {xs : List V} (n : Put H H1 p o) (hs : S p) (h : H p = some (.lst xs)) : Keep S H H1 :=
  ⟨fun b _ nb e => n.get (fun z => nb (by rw [z]; exact hs)) e, fun b _ e => n.get (fun z => by rw [z, h] at e; cases e) e⟩
theorem Put.keep0 {S : Addr → Prop} {H0 H H1 : Hp} {p : Addr} {o : HO} {xs : List V} (n : Put H H1 p o) (k : Keep S H0 H) (h0 : H0 p = none) (h : H p = some (.lst xs)) : Keep S H0 H1 :=
  ⟨fun b _ nb e => n.get (ne_of_none e h0) (k.all b _ nb e), fun b _ e => n.get (ne_of_none e h0) (k.tup b _ e)⟩
def kindB : PyData → Nat
  | .none => 0 | .bool _ => 1 | .int _ => 2 | .str _ => 3 | .list _ => 4 | .tuple _ => 5 | .dict _ => 6
def tyN : PyData → String
  | .none => "NoneType" | .bool _ => "bool" | .int _ => "int" | .str _ => "str" | .list _ => "list" | .tuple _ => "tuple" | .dict _ => "dict"
theorem DD.ty {S : Addr → Prop} {K : PySem.W.Frag} {H : Hp} {x : V} {d : PyData} (h : DD S H x d) : TyX K H x (.type (tyN d)) := by
  cases h with
  | non => exact .base .non
  | bl b => exact .base (.bl b)
  | int i => exact .base (.int i)
  | str x => exact .base (.str x)
  | tup e _ => exact .base (.tup e)
  | lst _ e _ => exact .base (.lst e)
  | dct _ e _ => exact .base (.dK e)
/-- isinstance(x, T) for the T that the laws ask -/
def isTs (t T : String) : Bool := t == T || (t == "bool" && T == "int")
def isT (T : String) (d : PyData) : Bool := isTs (tyN d) T
theorem kit_tab : ∀ t ∈ ["NoneType", "bool", "int", "str", "list", "tuple", "dict"], ∀ T ∈ ["tuple", "str", "int", "bool", "list"], kitB t T = some (isTs t T) := by decide +kernel
theorem tyN_mem (d : PyData) : tyN d ∈ ["NoneType", "bool", "int", "str", "list", "tuple", "dict"] := by cases d <;> simp [tyN]
theorem kit_isT {T : String} (d : PyData) (hT : T = "tuple" ∨ T = "str" ∨ T = "int" ∨ T = "bool" ∨ T = "list") : kitB (tyN d) T = some (isT T d) :=
  kit_tab _ (tyN_mem d) T (by rcases hT with rfl | rfl | rfl | rfl | rfl <;> simp)
def kLR (Q : VK) : Int → Int → Hp → Prop := fun a b H1 => RgOk a b ∧ ∀ q, H1 q = none → Q (.ref q) (upd H1 q (.lst (rgV a b)))
section
variable {K : PySem.W.Frag} {D : Ends} {σ : LB.St} {H : Hp} {Q : VK} {te ta tb : TE} {tr : TA} {S : Addr → Prop} {i j : Int}
theorem w_par3 {a b c : Nat} (h : tr σ H fun vs H1 => ∃ u v w, vs = [u, v, w] ∧ D.nx (((σ.set a (some u)).set b (some v)).set c (some w)) H1) : tPar3 a b c tr D σ H := h
theorem w_ex3 {u v w : V} {R : V → V → V → Prop} (h : R u v w) : ∃ a b c, [u, v, w] = [a, b, c] ∧ R a b c := ⟨u, v, w, rfl, h⟩
theorem w_lstrg {tr : LB.St → Hp → (Int → Int → Hp → Prop) → Prop} (h : tr σ H (kLR Q)) : tLstRg tr σ H Q := h
theorem k_lr {a b : Int} (e : RgOk a b) (h : ∀ q H1, New H H1 q (.lst (rgV a b)) → Q (.ref q) H1) : kLR Q a b H := ⟨e, fun q hq => h q _ (.mk' hq)⟩
theorem w_rg2 {R : Int → Int → Hp → Prop} (h : ta σ H fun x H1 => tb σ H1 fun y H2 => ∃ i j, x = .int i ∧ y = .int j ∧ R i j H2) : tRg2 ta tb σ H R := h
theorem w_rg1 {R : Int → Int → Hp → Prop} (h : ta σ H fun x H1 => ∃ n, x = .int n ∧ R 0 n H1) : tRg1 ta σ H R := h
theorem w_exij {R : Int → Int → Prop} (h : R i j) : ∃ a b, V.int i = .int a ∧ V.int j = .int b ∧ R a b := ⟨i, j, rfl, rfl, h⟩
theorem w_tyl {a : Addr} {xs : List V} {P : Prop} (h : H a = some (.lst xs)) (q : P) : tyV K "list" (.ref a) H ∧ P := ⟨.inl ⟨rfl, _, .inl (.inl h)⟩, q⟩
theorem o_isi {x : V} {d : PyData} {T : String} (h : DD S H x d) (hT : T = "tuple" ∨ T = "str" ∨ T = "int" ∨ T = "bool" ∨ T = "list") (q : Q (.bl (isT T d)) H) : rIsi K [x, .ty T] H Q :=
  ⟨x, .ty T, _, _, _, rfl, .ty T, DD.ty h, kit_ty (kit_isT d hT), q⟩
theorem o_isiX {x : V} {d : PyData} {T : String} (h : DD S H x d) (q : Q (.bl (isT T d)) H) (hT : T = "tuple" ∨ T = "str" ∨ T = "int" ∨ T = "bool" ∨ T = "list" := by decide) : rIsi K [x, .ty T] H Q := o_isi h hT q
theorem o_max2 (h : Q (.int (if j > i then j else i)) H) : rMax2 [.int i, .int j] H Q := ⟨i, j, rfl, h⟩
theorem o_min2 (h : Q (.int (if j < i then j else i)) H) : rMin2 [.int i, .int j] H Q := ⟨i, j, rfl, h⟩
theorem o_lenl {a : Addr} {xs : List V} (e : H a = some (.lst xs)) (h : Q (.int xs.length) H) : rLen K [.ref a] H Q := o_len (lenl e) h
theorem o_lent {a : Addr} {xs : List V} (e : H a = some (.tup xs)) (h : Q (.int xs.length) H) : rLen K [.ref a] H Q := o_len (lent e) h
theorem o_lens {a : Addr} {xs : List V} (e : SqL K H a xs) (h : Q (.int xs.length) H) : rLen K [.ref a] H Q := o_len (.inl ⟨xs, e, rfl⟩) h
theorem o_ixS {a : Addr} {xs : List V} {v : V} {z : Int} (e1 : SqL K H a xs) (e0 : 0 ≤ z) (e2 : xs[z.toNat]? = some v) (h : Q v H) : rIx K (.ref a) (.int z) H Q := by
  obtain ⟨n, rfl⟩ := Int.eq_ofNat_of_zero_le e0
  exact .inl ⟨a, xs, n, v, rfl, rfl, e1, atI_nat e2, h⟩
theorem o_app {a : Addr} {xs : List V} {y : V} (e : H a = some (.lst xs)) (z : xs.length < sizeLine) (h : ∀ H1, Put H H1 a (.lst (xs ++ [y])) → Q .non H1) : rAppend (.ref a) [y] H Q := ⟨a, xs, y, rfl, rfl, e, z, h _ .mk'⟩
theorem o_addL {a b : Addr} {xs ys : List V} (e1 : H a = some (.lst xs)) (e2 : H b = some (.lst ys)) (e : xs.length + ys.length ≤ sizeLine) (h : ∀ p H1, New H H1 p (.lst (xs ++ ys)) → Q (.ref p) H1) : rAddA K (.ref a) (.ref b) H Q := o_addl e1 e2 e h
theorem o_listof {a : Addr} {xs : List V} (e : SqL K H a xs ∨ SqT K H a xs) (h : ∀ p H1, New H H1 p (.lst xs) → Q (.ref p) H1) : rListOf K [.ref a] H Q := ⟨a, xs, rfl, e, fun p hp => h p _ (.mk' hp)⟩
theorem o_tupof {a : Addr} {xs : List V} (e : H a = some (.lst xs)) (h : ∀ p H1, New H H1 p (.tup xs) → Q (.ref p) H1) : rTupOf K [.ref a] H Q := ⟨a, xs, rfl, .inl ⟨.inl (.inl e), fun p hp => h p _ (.mk' hp)⟩⟩
/-- pop(i) -/
abbrev rPopA : V → List V → Hp → VK → Prop := rPopAt
theorem seqIx {n : Nat} {z : Int} (h0 : 0 ≤ z) (h1 : z < n) : seqIndex? z n = some z.toNat := seqIndex_of h0 h1
theorem o_popat {a : Addr} {xs : List V} {z : Int} {y : V} (e : H a = some (.lst xs)) (h0 : 0 ≤ z) (h1 : z < xs.length) (h2 : xs.length < 2 ^ 62) (ey : xs[z.toNat]? = some y)
    (h : ∀ H1, Put H H1 a (.lst (xs.eraseIdx z.toNat)) → Q y H1) : rPopA (.ref a) [.int z] H Q :=
  ⟨a, xs, z, z.toNat, y, rfl, rfl, e, by omega, by omega, seqIx h0 h1, ey, h _ .mk'⟩
end
theorem Pot.le {H : Hp} {p : Addr} {n m : Nat} (h : Pot H p n) (l : m ≤ n) : Pot H p m := by
  obtain ⟨a, b, c, e, h1, h2, h3, h4⟩ := h
  exact ⟨a, b, c, e, h1, h2, h3, by omega⟩
theorem Pot.some {H : Hp} {p : Addr} {n : Nat} (h : Pot H p n) : ∃ xs, H p = some (.lst xs) := let ⟨_, _, _, e, _⟩ := h; ⟨_, e⟩
theorem Pot.new {H H1 : Hp} {p q : Addr} {o : HO} {n : Nat} (h : Pot H p n) (k : New H H1 q o) : Pot H1 p n := by
  obtain ⟨a, b, c, e, r⟩ := h
  exact ⟨a, b, c, k.get e, r⟩
theorem Pot.put {H H1 : Hp} {p q : Addr} {o : HO} {n : Nat} (h : Pot H p n) (k : Put H H1 q o) (ne : p ≠ q) : Pot H1 p n := by
  obtain ⟨a, b, c, e, r⟩ := h
  exact ⟨a, b, c, k.get ne e, r⟩
theorem Pot.ne {H : Hp} {p q : Addr} {n : Nat} (h : Pot H p n) (e : H q = none) : p ≠ q := by
  obtain ⟨xs, hx⟩ := h.some
  exact ne_of_none hx e
theorem o_draw {H : Hp} {Q : VK} {E : XK} {p : Addr} {m : Int} {N : Nat} (pt : Pot H p N) (hN : 1 ≤ N) (h1 : 1 ≤ m) (h2 : m < 1073741824)
    (q : ∀ (H' : Hp) (k : Int), Keep (At p) H H' → Pot H' p (N - 1) → 0 ≤ k → k < m → Q (.int k) H') : spDraw [.ref p, .int m] H Q E :=
  ⟨p, m, N - 1, rfl, pt.le (by omega), h1, h2, q⟩
theorem spDraw_arity {vs : List V} {H : Hp} {Q : VK} {E : XK} (h : spDraw vs H Q E) : vs.length = 2 := by
  obtain ⟨_, _, _, rfl, _⟩ := h
  rfl
/-- any(pot, items): one of them -/
def spAny (K : PySem.W.Frag) : Sp := fun vs H Q _ => ∃ (p a : Addr) (xs : List V) (N : Nat), vs = [.ref p, .ref a] ∧ Pot H p N ∧ 1 ≤ N ∧ a ≠ p ∧ (H a = some (.lst xs) ∨ H a = some (.tup xs)) ∧ 1 ≤ xs.length ∧ xs.length < 1073741824 ∧
  ∀ (H' : Hp) (i : Nat) (v : V), xs[i]? = some v → Keep (At p) H H' → Pot H' p (N - 1) → Q v H'
theorem spAny_arity {K : PySem.W.Frag} {vs : List V} {H : Hp} {Q : VK} {E : XK} (h : spAny K vs H Q E) : vs.length = 2 := by
  obtain ⟨_, _, _, _, rfl, _⟩ := h
  rfl
theorem o_any {K : PySem.W.Frag} {H : Hp} {Q : VK} {E : XK} {p a : Addr} {xs : List V} {N : Nat} (pt : Pot H p N) (hN : 1 ≤ N) (na : a ≠ p) (e : H a = some (.lst xs) ∨ H a = some (.tup xs)) (h1 : 1 ≤ xs.length) (h2 : xs.length < 1073741824)
    (q : ∀ (H' : Hp) (i : Nat) (v : V), xs[i]? = some v → Keep (At p) H H' → Pot H' p (N - 1) → Q v H') : spAny K [.ref p, .ref a] H Q E := ⟨p, a, xs, N, rfl, pt, hN, na, e, h1, h2, q⟩
/-- mixed(pot, items): a new list of them in some sequence -/
def spMixed (K : PySem.W.Frag) : Sp := fun vs H Q _ => ∃ (p a : Addr) (xs : List V) (ds : List PyData) (N : Nat), vs = [.ref p, .ref a] ∧ Pot H p N ∧ xs.length ≤ N ∧ a ≠ p ∧ (H a = some (.lst xs) ∨ H a = some (.tup xs)) ∧ xs.length ≤ 1000 ∧
  DDs All H xs ds ∧ (∀ d ∈ ds, d.canLay0 = true ∧ d.depth ≤ 60) ∧
  ∀ (H' : Hp) (q : Addr) (ys : List V), xs.Perm ys → H q = none → H' q = some (.lst ys) → Keep (At p) H H' → Pot H' p (N - xs.length) → Q (.ref q) H'
theorem spMixed_arity {K : PySem.W.Frag} {vs : List V} {H : Hp} {Q : VK} {E : XK} (h : spMixed K vs H Q E) : vs.length = 2 := by
  obtain ⟨_, _, _, _, _, rfl, _⟩ := h
  rfl
/-- pot(script, k) -/
def spPot (K : PySem.W.Frag) : Sp := fun vs H Q _ => ∃ (a : Addr) (k : Int) (ns : List Int), vs = [.ref a, .int k] ∧ SqL K H a (ns.map V.int) ∧ 0 ≤ k ∧ k < 64 ∧ ns.length ≤ 63 ∧
  ∀ (H' : Hp) (p : Addr), H p = none → Keep (fun _ => False) H H' → Pot H' p 8388608 → Q (.ref p) H'
theorem spPot_arity {K : PySem.W.Frag} {vs : List V} {H : Hp} {Q : VK} {E : XK} (h : spPot K vs H Q E) : vs.length = 2 := by
  obtain ⟨_, _, _, rfl, _⟩ := h
  rfl
end LB

open PySem PySem.Spec PyProof.Rows L2 LB
/-! the tactic: one step of a reading; many -/
local macro_rules | `(tactic| walk_at "w1_1") => `(tactic| first
  | with_reducible refine w_seq ?_ | with_reducible refine w_asg ?_ | with_reducible refine w_drop ?_ | with_reducible refine w_ret ?_ | with_reducible refine w_next ?_
  | with_reducible refine w_ifs ?_ | with_reducible refine w_forR1 ?_ | with_reducible refine w_forR2 ?_ | with_reducible refine w_forL ?_ | with_reducible refine w_forT ?_ | with_reducible refine w_name ?_ | with_reducible refine w_sub ?_ | with_reducible refine w_par ?_
  | with_reducible refine w_var (by with_unfolding_all rfl) ?_ | with_reducible refine w_c ?_ | with_reducible refine w_op ?_ | with_reducible refine w_un ?_
  | with_reducible refine w_test ?_ | with_reducible refine w_tb ?_ | with_reducible refine w_nil ?_ | with_reducible refine w_cons ?_ | with_reducible refine w_cb ?_ | with_reducible refine w_call ?_
  | with_reducible refine w_not ?_ | with_reducible refine w_and ?_ | with_reducible refine w_or ?_ | with_reducible refine w_andV ?_ | with_reducible refine w_orV ?_ | with_reducible refine w_notV ?_
  | with_reducible refine w_ife ?_ | with_reducible refine w_chain ?_ | with_reducible refine w_bm ?_ | with_reducible refine w_sl ?_ | with_reducible refine w_part ?_ | with_reducible refine w_nopart ?_
  | with_reducible refine w_exb ?_ | with_reducible refine w_exi ?_ | with_reducible refine w_ex2 ?_ | with_reducible refine w_ex3 ?_ | with_reducible refine w_lstrg ?_ | with_reducible refine w_rg2 ?_ | with_reducible refine w_rg1 ?_ | with_reducible refine w_exij ?_ | with_reducible refine w_tup ?_ | with_reducible refine w_lst ?_
  | with_reducible refine o_add ?_ | with_reducible refine o_sub ?_ | with_reducible refine o_neg ?_ | with_reducible refine o_lt ?_ | with_reducible refine o_le ?_ | with_reducible refine o_gt ?_ | with_reducible refine o_ge ?_
  | with_reducible refine o_ixL (by assumption) (by decide) (by with_unfolding_all rfl) ?_ | with_reducible refine o_ixT (by assumption) (by decide) (by with_unfolding_all rfl) ?_
  | with_reducible refine o_mod (by first | decide | omega) ?_ | with_reducible refine o_mul (by first | decide | omega) ?_ | with_reducible refine o_fdv (by first | decide | omega) (by first | decide | omega) ?_ | with_reducible refine o_setL (by assumption) (by decide) (by simp) ?_
  | with_reducible refine oo_addi ?_ | with_reducible refine oo_sub ?_ | with_reducible refine oo_neg ?_ | with_reducible refine w_rev ?_ | with_reducible refine w_m0 ?_
  | with_reducible refine w_par3 ?_ | with_reducible refine w_tyl (by assumption) ?_
  | with_reducible refine o_abs ?_ | with_reducible refine o_eqs (by with_unfolding_all rfl) ?_ | with_reducible refine o_nes (by with_unfolding_all rfl) ?_ | with_reducible refine o_max2 ?_ | with_reducible refine o_min2 ?_ | with_reducible refine o_isiX (by assumption) ?_ | with_reducible refine o_lenl (by assumption) ?_ | with_reducible refine o_lent (by assumption) ?_ | with_reducible refine o_int1b ?_)
local macro_rules | `(tactic| walk_at "ws_1") => `(tactic| repeat (first | walk_at "w1_1" | dsimp only [List.set_cons_zero, List.set_cons_succ]))
namespace LB
def t__law_draw_1 (K : PySem.W.Frag) : TS :=
  (tSeq (tAsg (tOp rModI (tOp (rIx K) (tVar 0) (tC (V.int 0))) (tVar 1)) (gName 2))
    (tSeq (tAsg (tOp rFdvI (tOp (rIx K) (tVar 0) (tC (V.int 0))) (tVar 1)) (gSub (tVar 0) (tC (V.int 0)) rSetL))
    (tRet (tVar 2))))

def t__law_draw (K : PySem.W.Frag) : TS :=
  (tSeq (tIfS (tTest (tOp rGtI (tOp (rIx K) (tVar 0) (tC (V.int 0))) (tC (V.int 0))))
    (t__law_draw_1 K) tNext)
    (tSeq (tAsg (tOp (rAddA K) (tOp (rIx K) (tVar 0) (tC (V.int 2))) (tC (V.int 1))) (gSub (tVar 0) (tC (V.int 2)) rSetL))
    (tSeq (tAsg (tOp (rIx K) (tLst (tCons (tC (V.int 2147483647)) (tCons (tC (V.int 2147483629)) (tCons (tC (V.int 2147483587)) (tCons (tC (V.int 2147483579)) (tCons (tC (V.int 2147483563)) tNil)))))) (tOp rModI (tOp (rIx K) (tVar 0) (tC (V.int 2))) (tC (V.int 5)))) (gName 3))
    (tSeq (tAsg (tOp rModI (tOp rPowI (tOp (rAddA K) (tOp (rAddA K) (tOp (rIx K) (tVar 0) (tC (V.int 1))) (tOp (rMulA K) (tOp (rMulA K) (tC (V.int 98321)) (tOp (rIx K) (tVar 0) (tC (V.int 2)))) (tOp (rIx K) (tVar 0) (tC (V.int 2))))) (tC (V.int 47))) (tC (V.int 3))) (tVar 3)) (gName 4))
    (tRet (tOp rModI (tOp rFdvI (tOp rModI (tOp (rMulA K) (tVar 4) (tOp (rAddA K) (tOp rModI (tVar 4) (tC (V.int 10007))) (tOp (rMulA K) (tC (V.int 89)) (tOp (rIx K) (tVar 0) (tC (V.int 2)))))) (tC (V.int 2305843009213693907))) (tC (V.int 83))) (tVar 1)))))))

theorem prime_at {z : Int} (h0 : 0 ≤ z) (h1 : z < 5) : ∃ q : Int, [V.int 2147483647, V.int 2147483629, V.int 2147483587, V.int 2147483579, V.int 2147483563][z.toNat]? = some (.int q) ∧ 2147483563 ≤ q ∧ q ≤ 2147483647 := by
  have h : z = 0 ∨ z = 1 ∨ z = 2 ∨ z = 3 ∨ z = 4 := by omega
  rcases h with rfl | rfl | rfl | rfl | rfl
  all_goals exact ⟨_, rfl, by decide, by decide⟩
theorem pow3_ok {x : Int} (h0 : 0 ≤ x) (h1 : x < 2 ^ 64) : CPowW x 3 := by
  refine ⟨by decide, ?_⟩
  have h := intBits_le_64 (k := x) (by omega) h1
  omega
theorem mix_ok {b c : Int} (hb : 0 ≤ b) (hb2 : b < 2305843009213693921) (hc : 0 ≤ c) (hc2 : c ≤ 8388608) : 0 ≤ b + 98321 * c * c + 47 ∧ b + 98321 * c * c + 47 < 2 ^ 64 := by
  have h1 : 0 ≤ c * c := Int.mul_nonneg hc hc
  have h2 : c * c ≤ 8388608 * 8388608 := Int.mul_le_mul hc2 hc2 hc (by decide)
  have h3 : 98321 * c * c = 98321 * (c * c) := Int.mul_assoc ..
  omega
theorem pure__law_draw {K : PySem.W.Frag} {vs : List V} {H : Hp} {Q : VK} {E : XK} (h : spDraw vs H Q E) : t__law_draw K { nx := fun _ H' => Q .non H', rt := Q } (start ["pot", "many", "digit", "prime", "mixed"] vs) H := by
  obtain ⟨p, m, n, rfl, ⟨a, b, c, hp, ha, hb, hc, hn⟩, h1, h2, q⟩ := h
  show t__law_draw K _ [some (.ref p), some (.int m), none, none, none] H
  unfold t__law_draw
  walk_at "ws_1"
  refine w_ite (fun ca => ?_) (fun ca => ?_)
  · walk_at "ws_1"
    unfold t__law_draw_1
    walk_at "ws_1"
    have f1 : 0 ≤ a.fdiv m := Int.fdiv_nonneg ha (by omega)
    have f2 : 0 ≤ a.fmod m := Int.fmod_nonneg_of_pos _ (by omega)
    have f3 : a.fmod m < m := Int.fmod_lt_of_pos _ (by omega)
    exact q _ _ (Keep.put (S := At p) rfl hp) ⟨_, _, _, upd_same, f1, hb, hc, by omega⟩ f2 f3
  · walk_at "ws_1"
    refine k_lst (by simp; decide) fun l H1 n1 => ?_
    have hp1 := n1.get (upd_same (H := H) (a := p) (o := .lst [.int a, .int b, .int (c + 1)]))
    walk_at "ws_1"
    have f5 : 0 ≤ (c + 1).fmod 5 := Int.fmod_nonneg_of_pos _ (by omega)
    have f6 : (c + 1).fmod 5 < 5 := Int.fmod_lt_of_pos _ (by omega)
    obtain ⟨z, ez, z1, z2⟩ := prime_at f5 f6
    refine o_ixL n1.at_ f5 ez ?_
    walk_at "ws_1"
    have mx := mix_ok hb.1 hb.2 (show 0 ≤ c + 1 by omega) (by omega)
    refine o_pow (pow3_ok mx.1 mx.2) ?_
    walk_at "ws_1"
    generalize (b + 98321 * (c + 1) * (c + 1) + 47) ^ (3 : Int).toNat = y
    have f7 : 0 ≤ y.fmod z := Int.fmod_nonneg_of_pos _ (by omega)
    have f8 : y.fmod z < z := Int.fmod_lt_of_pos _ (by omega)
    walk_at "ws_1"
    exact q _ _ ((Keep.put (S := At p) rfl hp).trans n1.keep) ⟨_, _, _, hp1, ha, hb, by omega, by omega⟩ (Int.fmod_nonneg_of_pos _ (by omega)) (Int.fmod_lt_of_pos _ (by omega))
def t__law_pot_1 (K : PySem.W.Frag) : TS :=
  (tSeq (tAsg (tOp (rMulA K) (tOp rModI (tCB rAbs (tCons (tVar 2) tNil)) (tOp rPowI (tOp rPowI (tC (V.int 10)) (tC (V.int 60))) (tC (V.int 5)))) (tCB rInt1 (tCons (tOp rGeI (tCB rAbs (tCons (tVar 2) tNil)) (tOp rPowI (tC (V.int 10)) (tC (V.int 18)))) tNil))) (gName 3))
    (tRet (tLst (tCons (tVar 3) (tCons (tOp rModI (tOp (rAddA K) (tOp (rAddA K) (tOp (rMulA K) (tOp rModI (tVar 2) (tC (V.int 2305843009213693951))) (tC (V.int 69767))) (tOp (rMulA K) (tOp (rMulA K) (tC (V.int 8123)) (tVar 1)) (tVar 1))) (tC (V.int 31))) (tC (V.int 2305843009213693921))) (tCons (tC (V.int 0)) tNil))))))

def t__law_pot (K : PySem.W.Frag) : TS :=
  (tSeq (tAsg (tOp (rAddA K) (tOp (rMulA K) (tC (V.int 19)) (tVar 1)) (tC (V.int 6))) (gName 2))
    (tSeq (tIfS (tTest (tOp rLtI (tVar 1) (tCB (rLen K) (tCons (tVar 0) tNil))))
    (tAsg (tOp (rIx K) (tVar 0) (tVar 1)) (gName 2)) tNext)
    (t__law_pot_1 K)))

def t__law_any (K : PySem.W.Frag) : TS :=
  (tRet (tOp (rIx K) (tVar 1) (tCall spDraw [] E0 (tCons (tVar 0) (tCons (tCB (rLen K) (tCons (tVar 1) tNil)) tNil)))))

def t__law_mixed_1 (K : PySem.W.Frag) : TS :=
  (tDrop (tBM K "list" rAppend (tVar 3) (tCons (tBM K "list" rPopA (tVar 2) (tCons (tCall spDraw [] E0 (tCons (tVar 0) (tCons (tCB (rLen K) (tCons (tVar 2) tNil)) tNil))) tNil)) tNil)))

def t__law_mixed (K : PySem.W.Frag) : TS :=
  (tSeq (tPar 2 3 (tCons (tCB (rListOf K) (tCons (tVar 1) tNil)) (tCons (tLst tNil) tNil)))
    (tSeq (tWhile (tTest (tOp (rNeA K) (tVar 2) (tLst tNil)))
    (t__law_mixed_1 K))
    (tRet (tVar 3))))

theorem pure__law_any {K : PySem.W.Frag} {vs : List V} {H : Hp} {Q : VK} {E : XK} (h : spAny K vs H Q E) : t__law_any K { nx := fun _ H' => Q .non H', rt := Q } (start ["pot", "items"] vs) H := by
  obtain ⟨p, a, xs, N, rfl, pt, hN, na, e, h1, h2, q⟩ := h
  show t__law_any K _ [some (.ref p), some (.ref a)] H
  unfold t__law_any
  walk_at "ws_1"
  have ln : LenV K (.ref a) H xs.length := by
    rcases e with e | e
    · exact lenl e
    · exact lent e
  refine o_len ln ?_
  walk_at "ws_1"
  refine o_draw pt hN (by omega) (by omega) fun H' k kp pt' k0 k1 => ?_
  have hk : k.toNat < xs.length := by omega
  have e2 : xs[k.toNat]? = some xs[k.toNat] := List.getElem?_eq_getElem hk
  rcases e with e | e
  · exact o_ixL (kp.all _ _ na e) k0 e2 (q H' _ _ e2 kp pt')
  · exact o_ixT (kp.tup _ _ e) k0 e2 (q H' _ _ e2 kp pt')
mutual
theorem dd_dp {K : PySem.W.Frag} {S : Addr → Prop} {H : Hp} : ∀ {v : V} {d : PyData}, DD S H v d → d.canLay0 = true → Dp K H v d
  | _, _, .non, _ => .non
  | _, _, .bl b, _ => .bl b
  | _, _, .int i, _ => .int i
  | _, _, .str x, _ => .str x
  | _, _, .tup e r, h => .tup (.inl (.inl e)) (dds_dp r (by simpa only [PyData.canLay0] using h))
  | _, _, .lst _ e r, h => .lst (.inl (.inl e)) (dds_dp r (by simpa only [PyData.canLay0] using h))
  | _, _, .dct _ e r, h => by simp only [PyData.canLay0] at h; cases h
theorem dds_dp {K : PySem.W.Frag} {S : Addr → Prop} {H : Hp} : ∀ {vs : List V} {ds : List PyData}, DDs S H vs ds → PyData.canLayAll0 ds = true → DpAll K H vs ds
  | _, _, .nil, _ => .nil
  | _, _, .cons h r, e => by
    simp only [PyData.canLayAll0, Bool.and_eq_true] at e
    exact .cons (dd_dp h e.1) (dds_dp r e.2)
end
theorem canLayAll0_of : ∀ {ds : List PyData}, (∀ d ∈ ds, d.canLay0 = true) → PyData.canLayAll0 ds = true
  | [], _ => by simp only [PyData.canLayAll0]
  | d :: ds, h => by
    simp only [PyData.canLayAll0, Bool.and_eq_true]
    exact ⟨h d List.mem_cons_self, canLayAll0_of fun e he => h e (List.mem_cons_of_mem _ he)⟩
theorem depthAll_of {k : Nat} : ∀ {ds : List PyData}, (∀ d ∈ ds, d.depth ≤ k) → PyData.depthAll ds ≤ k
  | [], _ => by simp only [PyData.depthAll]; omega
  | d :: ds, h => by
    simp only [PyData.depthAll]
    have h1 := h d List.mem_cons_self
    have h2 := depthAll_of fun e he => h e (List.mem_cons_of_mem _ he)
    omega
theorem shaped_list {ds : List PyData} (h : ∀ d ∈ ds, d.canLay0 = true ∧ d.depth ≤ 60) : SeqAt.shaped (.list ds) = true := by
  unfold SeqAt.shaped
  simp only [PyData.canLay0, PyData.depth, Bool.and_eq_true, decide_eq_true_eq]
  exact ⟨canLayAll0_of fun d hd => (h d hd).1, decide_eq_true (by have := depthAll_of (k := 60) fun d hd => (h d hd).2; omega)⟩
theorem shaped_tuple {ds : List PyData} (h : ∀ d ∈ ds, d.canLay0 = true ∧ d.depth ≤ 60) : SeqAt.shaped (.tuple ds) = true := by
  unfold SeqAt.shaped
  simp only [PyData.canLay0, PyData.depth, Bool.and_eq_true, decide_eq_true_eq]
  exact ⟨canLayAll0_of fun d hd => (h d hd).1, decide_eq_true (by have := depthAll_of (k := 60) fun d hd => (h d hd).2; omega)⟩
theorem dds_of_all {S : Addr → Prop} {H : Hp} {P : PyData → Prop} : ∀ {vs : List V}, (∀ v ∈ vs, ∃ d, DD S H v d ∧ P d) → ∃ ds, DDs S H vs ds ∧ ∀ d ∈ ds, P d
  | [], _ => ⟨[], .nil, fun _ h => by cases h⟩
  | v :: vs, h => by
    obtain ⟨d, h1, h2⟩ := h v List.mem_cons_self
    obtain ⟨ds, h3, h4⟩ := dds_of_all fun u hu => h u (List.mem_cons_of_mem _ hu)
    exact ⟨d :: ds, .cons h1 h3, fun e he => by
      rcases List.mem_cons.mp he with rfl | he
      · exact h2
      · exact h4 e he⟩
theorem all_of_dds {S : Addr → Prop} {H : Hp} {P : PyData → Prop} : ∀ {vs : List V} {ds : List PyData}, DDs S H vs ds → (∀ d ∈ ds, P d) → ∀ v ∈ vs, ∃ d, DD S H v d ∧ P d
  | _, _, .nil, _, v, h => by cases h
  | _, _, .cons h r, p, v, hv => by
    rcases List.mem_cons.mp hv with rfl | hv
    · exact ⟨_, h, p _ List.mem_cons_self⟩
    · exact all_of_dds r (fun d hd => p d (List.mem_cons_of_mem _ hd)) v hv
theorem o_neEmpty {K : PySem.W.Frag} {S : Addr → Prop} {H : Hp} {Q : VK} {a b : Addr} {xs : List V} (h : H a = some (.lst xs)) (hb : H b = some (.lst []))
    (hx : ∀ v ∈ xs, ∃ d, DD S H v d ∧ (d.canLay0 = true ∧ d.depth ≤ 60)) (q : Q (.bl (!xs.isEmpty)) H) : rNeA K (.ref a) (.ref b) H Q := by
  obtain ⟨ds, h1, h2⟩ := dds_of_all hx
  refine .inr ⟨.list ds, .list [], .lst (.inl (.inl h)) (dds_dp h1 (canLayAll0_of fun d hd => (h2 d hd).1)), .lst (.inl (.inl hb)) .nil, shaped_list h2, by decide, ?_⟩
  have e : PyData.eqv (.list ds) (.list []) = xs.isEmpty := by
    have := h1.length
    cases ds <;> cases xs <;> simp_all [PyData.eqv, PyData.eqvAll]
  rw [e]
  exact q
theorem perm_erase {α : Type} {xs ys ls : List α} {k : Nat} {y : α} (p : xs.Perm (ys ++ ls)) (e : ls[k]? = some y) : xs.Perm (ys ++ [y] ++ ls.eraseIdx k) := by
  obtain ⟨hk, e⟩ := List.getElem?_eq_some_iff.mp e
  subst e
  have h : ls.Perm (ls[k] :: ls.eraseIdx k) := by
    rw [List.eraseIdx_eq_take_drop_succ]
    have h1 : ls = ls.take k ++ ls[k] :: ls.drop (k + 1) := by
      rw [← List.drop_eq_getElem_cons hk, List.take_append_drop]
    have h2 : (ls.take k ++ ls[k] :: ls.drop (k + 1)).Perm (ls[k] :: (ls.take k ++ ls.drop (k + 1))) := List.perm_middle
    exact (List.Perm.of_eq h1).trans h2
  rw [List.append_assoc]
  exact p.trans ((List.Perm.refl ys).append h)
theorem pure__law_mixed {K : PySem.W.Frag} {vs : List V} {H : Hp} {Q : VK} {E : XK} (h : spMixed K vs H Q E) : t__law_mixed K { nx := fun _ H' => Q .non H', rt := Q } (start ["pot", "items", "left", "found"] vs) H := by
  obtain ⟨p, a, xs, ds, N, rfl, pt, hN, na, ea, hl, hd, hp, q⟩ := h
  show t__law_mixed K _ [some (.ref p), some (.ref a), none, none] H
  unfold t__law_mixed
  walk_at "ws_1"
  refine o_listof (xs := xs) (by rcases ea with e | e; exact .inl (.inl (.inl e)); exact .inr (.inl (.inl e))) fun l H1 n1 => ?_
  walk_at "ws_1"
  refine k_lst (by simp) fun f H2 n2 => ?_
  walk_at "ws_1"
  have hx : ∀ v ∈ xs, ∃ d, DD All H v d ∧ (d.canLay0 = true ∧ d.depth ≤ 60) := all_of_dds hd hp
  have k2 : Keep (At p) H H2 := n1.keep.trans n2.keep
  have lf : l ≠ f := n2.ne n1.at_
  have f0 : H f = none := by
    cases e : H f with
    | none => rfl
    | some o => have := n1.get e; rw [n2.no] at this; cases this
  have pl : p ≠ l := pt.ne n1.no
  have pf : p ≠ f := pt.ne f0
  refine ⟨fun m σ H3 => ∃ ls ys, σ = [some (.ref p), some (.ref a), some (.ref l), some (.ref f)] ∧ H3 l = some (.lst ls) ∧ H3 f = some (.lst ys) ∧ xs.Perm (ys ++ ls) ∧ m = ls.length ∧ Keep (At p) H H3 ∧ Pot H3 p (N - xs.length + ls.length),
    ⟨xs.length, xs, [], rfl, n2.get n1.at_, n2.at_, List.Perm.refl _, rfl, k2, ((pt.new n1).new n2).le (by omega)⟩, ?_⟩
  rintro m σ H3 ⟨ls, ys, rfl, el, ef, pm, rfl, k3, pt3⟩
  have hx3 : ∀ v ∈ ls, ∃ d, DD All H3 v d ∧ (d.canLay0 = true ∧ d.depth ≤ 60) := fun v hv => by
    obtain ⟨d, h1, h2⟩ := hx v (pm.mem_iff.mpr (List.mem_append_right _ hv))
    exact ⟨d, h1.keep (k3.mono fun _ _ => trivial), h2⟩
  have hlen : xs.length = ys.length + ls.length := by rw [pm.length_eq, List.length_append]
  walk_at "ws_1"
  refine k_lst (by simp) fun e H4 n4 => ?_
  refine o_neEmpty (S := All) (n4.get el) n4.at_ (fun v hv => by obtain ⟨d, h1, h2⟩ := hx3 v hv; exact ⟨d, h1.keep n4.keep, h2⟩) ?_
  walk_at "ws_1"
  cases hls : ls with
  | nil =>
    subst hls
    simp only [List.isEmpty_nil, Bool.not_true, Bool.false_eq_true, if_false]
    walk_at "ws_1"
    rw [List.append_nil] at pm
    exact q H4 f ys pm f0 (n4.get ef) (k3.trans n4.keep) (pt3.new n4)
  | cons y0 r =>
    simp only [List.isEmpty_cons, Bool.not_false, if_true]
    rw [← hls]
    have l1 : 1 ≤ ls.length := by rw [hls, List.length_cons]; omega
    refine ⟨fun σ' H' => ∃ m', m' < ls.length ∧ _, fun _ _ h => h, ?_⟩
    have ef4 := n4.get ef
    have el4 := n4.get el
    unfold t__law_mixed_1
    walk_at "ws_1"
    refine o_draw (pt3.new n4) (by omega) (by omega) (by omega) fun H5 k kp5 pt5 k0 k1 => ?_
    have el5 := kp5.all _ _ (fun z => pl z.symm) el4
    have ef5 := kp5.all _ _ (fun z => pf z.symm) ef4
    have hk : k.toNat < ls.length := by omega
    walk_at "ws_1"
    refine o_popat (y := ls[k.toNat]) el5 k0 k1 (by omega) (List.getElem?_eq_getElem hk) fun H6 p6 => ?_
    walk_at "ws_1"
    have ef6 := p6.get lf.symm ef5
    refine o_app ef6 (Nat.lt_of_le_of_lt (by omega : ys.length ≤ 1000) (by decide)) fun H7 p7 => ?_
    walk_at "ws_1"
    refine ⟨ls.length - 1, by omega, ls.eraseIdx k.toNat, ys ++ [ls[k.toNat]], rfl, p7.get lf p6.at_, p7.at_, perm_erase pm (List.getElem?_eq_getElem hk), ?_, ?_, ?_⟩
    · rw [List.length_eraseIdx, if_pos hk]
    · exact p7.keep0 (p6.keep0 ((k3.trans n4.keep).trans kp5) n1.no el5) f0 ef6
    · refine ((pt5.put p6 pl).put p7 pf).le ?_
      rw [List.length_eraseIdx, if_pos hk]
      omega
end LB

namespace LB
open PySem PySem.Spec PyProof.Rows L2
/-! ### operations and logs as data -/
structure Op where
  w : Bool
  v : Int
  b : Int
  e : Int
def kindS (w : Bool) : Str := if w = true then "write" else "read"
def Op.dat (o : Op) : PyData := .tuple [.str (kindS o.w), .int o.v, .int o.b, .int o.e]
def Op.ok (o : Op) : Prop := (o.w = true → 1 ≤ o.v) ∧ 0 ≤ o.v ∧ o.v ≤ 1000000000 ∧ -1000000000000000 ≤ o.b ∧ o.b ≤ o.e ∧ o.e ≤ 1000000000000000
/-- the values that are written, in sequence -/
def wr (ops : List Op) : List Int := (ops.filter (·.w)).map (·.v)
def LogOk (ops : List Op) : Prop := (∀ o ∈ ops, o.ok) ∧ (wr ops).Nodup
theorem wr_append (as bs : List Op) : wr (as ++ bs) = wr as ++ wr bs := by simp [wr]
theorem LogOk.perm {as bs : List Op} (p : as.Perm bs) (h : LogOk as) : LogOk bs :=
  ⟨fun o ho => h.1 o (p.mem_iff.mpr ho), (((p.filter _).map _).nodup_iff).mp h.2⟩
theorem perm_map_inv {α β : Type} {f : α → β} {l l' : List β} (p : l.Perm l') : ∀ {as : List α}, l = as.map f → ∃ bs, l' = bs.map f ∧ as.Perm bs := by
  induction p with
  | nil => intro as h; exact ⟨as, h, .refl _⟩
  | cons x _ ih =>
    intro as h
    cases as with
    | nil => cases h
    | cons a as =>
      rw [List.map_cons] at h
      injection h with h1 h2
      obtain ⟨bs, e, q⟩ := ih h2
      exact ⟨a :: bs, by rw [List.map_cons, e, h1], q.cons a⟩
  | swap x y l =>
    intro as h
    cases as with
    | nil => cases h
    | cons a as =>
      cases as with
      | nil => injection h with _ h; cases h
      | cons b as =>
        rw [List.map_cons, List.map_cons] at h
        injection h with h1 h
        injection h with h2 h3
        exact ⟨b :: a :: as, by rw [List.map_cons, List.map_cons, h1, h2, h3], .swap _ _ _⟩
  | trans _ _ ih1 ih2 =>
    intro as h
    obtain ⟨bs, e, q⟩ := ih1 h
    obtain ⟨cs, e2, q2⟩ := ih2 e
    exact ⟨cs, e2, q.trans q2⟩
theorem strOk_kind (w : Bool) : PyData.strOk (kindS w) = true := by cases w <;> decide +kernel
theorem Op.lay (o : Op) : o.dat.canLay0 = true ∧ o.dat.depth ≤ 60 := by
  refine ⟨?_, ?_⟩
  · unfold Op.dat
    simp only [PyData.canLay0, PyData.canLayAll0, strOk_kind, Bool.and_self, Bool.true_and]
  · unfold Op.dat
    simp only [PyData.depth, PyData.depthAll]
    decide
theorem kind_any {i : Nat} {v : V} (h : [V.str "write", V.str "read", V.str "read"][i]? = some v) : ∃ w, v = .str (kindS w) := by
  match i, h with
  | 0, h => exact ⟨true, (Option.some.inj h).symm⟩
  | 1, h => exact ⟨false, (Option.some.inj h).symm⟩
  | 2, h => exact ⟨false, (Option.some.inj h).symm⟩
theorem kind_eq (w : Bool) : decide (V.str (kindS w) = V.str "write") = w := by cases w <;> decide +kernel
abbrev Or2 (p f : Addr) : Addr → Prop := fun b => b = p ∨ b = f
theorem Keep.trans0 {S S' : Addr → Prop} {H0 H H1 : Hp} (a : Keep S H0 H) (b : Keep S' H H1) (h : ∀ c, S' c → S c ∨ H0 c = none) : Keep S H0 H1 :=
  ⟨fun c o n e => b.all c o (fun z => by
      rcases h c z with y | y
      · exact n y
      · rw [y] at e; cases e) (a.all c o n e), fun c xs e => b.tup c xs (a.tup c xs e)⟩
theorem DDs.snoc {S : Addr → Prop} {H : Hp} {vs : List V} {ds : List PyData} {v : V} {d : PyData} (h : DDs S H vs ds) (h2 : DD S H v d) : DDs S H (vs ++ [v]) (ds ++ [d]) := h.append (.cons h2 .nil)
/-- an operation just laid -/
theorem op_new {H H1 : Hp} {t : Addr} {w : Bool} {v b e : Int} (n : New H H1 t (.tup [.str (kindS w), .int v, .int b, .int e])) : DD All H1 (.ref t) (Op.dat ⟨w, v, b, e⟩) :=
  .tup n.at_ (.cons (.str _) (.cons (.int _) (.cons (.int _) (.cons (.int _) .nil))))
theorem inV_ints {ws : List Int} {z : Int} : inV (.int z) (ws.map V.int) = decide (z ∈ ws) := by
  unfold inV
  rw [List.any_map]
  induction ws with
  | nil => simp
  | cons w ws ih =>
    rw [List.any_cons, ih]
    show (eqV (.int w) (.int z) || _) = _
    have : eqV (.int w) (.int z) = decide (w = z) := by
      unfold eqV
      first
        | rfl
        | simp
    rw [this]
    by_cases h : w = z
    · subst h; simp
    · have h' : z ≠ w := fun e => h e.symm
      simp [h, h']
theorem flat_ints {ws : List Int} : (ws.map V.int).all flatV = true := by
  rw [List.all_map, List.all_eq_true]
  intro x _
  rfl
theorem o_niInts {K : PySem.W.Frag} {H : Hp} {Q : VK} {a : Addr} {ws : List Int} {z : Int} (e : H a = some (.lst (ws.map V.int))) (q : Q (.bl (!decide (z ∈ ws))) H) : rNiA K (.int z) (.ref a) H Q :=
  .inl ⟨a, _, rfl, .inl (.inl (.inl e)), rfl, flat_ints, by rw [if_pos rfl, inV_ints]; exact q⟩
/-! loops: the end D kept whole -/
def Looped (J : It) (g : TG) (tb : TS) (D : Ends) (σ : LB.St) (H1 : Hp) : Prop := ∃ W : Nat → Nat → LB.St → Hp → Prop, (∃ m, W 0 m σ H1) ∧ ∀ i m σ H, W i m σ H →
    (J.stop i H ∧ D.nx σ H) ∨ (J.go i H ∧ ∃ N : LB.St → Hp → Prop, (∀ σ' H', N σ' H' → ∃ m', m' < m ∧ W (i + 1) m' σ' H') ∧ ∀ x H', J.yld i H x H' → g x σ H' fun σ2 H2 => tb { D with nx := N, ct := N, bk := D.nx } σ2 H2)
def kR1 (g : TG) (tb : TS) (D : Ends) (σ : LB.St) : List V → Hp → Prop := fun vs H1 => ∃ j : Int, vs = [.int j] ∧ -(2 ^ 62) ≤ j ∧ j < 2 ^ 62 ∧ Looped (Itr 0 j.toNat) g tb D σ H1
def kR2 (g : TG) (tb : TS) (D : Ends) (σ : LB.St) : List V → Hp → Prop := fun vs H1 => ∃ i j : Int, vs = [.int i, .int j] ∧ (-(2 ^ 62) ≤ i ∧ i < 2 ^ 62 ∧ -(2 ^ 62) ≤ j ∧ j < 2 ^ 62) ∧ Looped (Itr i (j - i).toNat) g tb D σ H1
def kFl (K : PySem.W.Frag) (g : TG) (tb : TS) (D : Ends) (σ : LB.St) : VK := fun x H1 => ∃ a, x = .ref a ∧ (∃ xs, SqL K H1 a xs) ∧ Looped (Itl K a) g tb D σ H1
def kFt (K : PySem.W.Frag) (g : TG) (tb : TS) (D : Ends) (σ : LB.St) : VK := fun x H1 => ∃ a, x = .ref a ∧ (∃ xs, SqT K H1 a xs) ∧ Looped (Itt K a) g tb D σ H1
section
variable {K : PySem.W.Frag} {g : TG} {tb : TS} {D : Ends} {σ : LB.St} {H : Hp} {ta : TA} {te : TE}
theorem w_forR1 (h : ta σ H (kR1 g tb D σ)) : tFor (iRng1 ta) g tb D σ H := h
theorem w_forR2 (h : ta σ H (kR2 g tb D σ)) : tFor (iRng2 ta) g tb D σ H := h
theorem w_forL (h : te σ H (kFl K g tb D σ)) : tFor (iList K te) g tb D σ H := h
theorem w_forT (h : te σ H (kFt K g tb D σ)) : tFor (iTup K te) g tb D σ H := h
theorem w_forSl (h : te σ H (kFl K g tb D σ)) : tFor (iSeq K te) g tb D σ H := .inl h
theorem w_forSt (h : te σ H (kFt K g tb D σ)) : tFor (iSeq K te) g tb D σ H := .inr h
theorem k_R1 {j : Int} (h1 : -(2 ^ 62) ≤ j) (h2 : j < 2 ^ 62) (Pv : Nat → LB.St → Hp → Prop) (h0 : Pv 0 σ H)
    (hs : ∀ i σ H, i < j.toNat → Pv i σ H → g (.int (0 + i)) σ H fun σ2 H2 => tb { D with nx := Pv (i + 1), ct := Pv (i + 1), bk := D.nx } σ2 H2) (hd : ∀ σ H, Pv j.toNat σ H → D.nx σ H) : kR1 g tb D σ [.int j] H :=
  ⟨j, rfl, h1, h2, for_range Pv h0 hs hd⟩
theorem k_R2 {i j : Int} (h : -(2 ^ 62) ≤ i ∧ i < 2 ^ 62 ∧ -(2 ^ 62) ≤ j ∧ j < 2 ^ 62) (Pv : Nat → LB.St → Hp → Prop) (h0 : Pv 0 σ H)
    (hs : ∀ n σ H, n < (j - i).toNat → Pv n σ H → g (.int (i + n)) σ H fun σ2 H2 => tb { D with nx := Pv (n + 1), ct := Pv (n + 1), bk := D.nx } σ2 H2) (hd : ∀ σ H, Pv (j - i).toNat σ H → D.nx σ H) : kR2 g tb D σ [.int i, .int j] H :=
  ⟨i, j, rfl, h, for_range Pv h0 hs hd⟩
theorem k_Fl {a : Addr} {xs : List V} (e : H a = some (.lst xs)) (Pv : Nat → LB.St → Hp → Prop) (h0 : Pv 0 σ H) (hl : ∀ i σ H, i ≤ xs.length → Pv i σ H → H a = some (.lst xs))
    (hs : ∀ i x σ H, xs[i]? = some x → Pv i σ H → g x σ H fun σ2 H2 => tb { D with nx := Pv (i + 1), ct := Pv (i + 1), bk := D.nx } σ2 H2) (hd : ∀ σ H, Pv xs.length σ H → D.nx σ H) : kFl K g tb D σ (.ref a) H :=
  ⟨a, rfl, ⟨xs, .inl (.inl e)⟩, for_list Pv h0 (fun i σ H h1 h2 => .inl (.inl (hl i σ H h1 h2))) hs hd⟩
theorem k_Ft {a : Addr} {xs : List V} (e : H a = some (.tup xs)) (Pv : Nat → LB.St → Hp → Prop) (h0 : Pv 0 σ H) (hl : ∀ i σ H, i ≤ xs.length → Pv i σ H → H a = some (.tup xs))
    (hs : ∀ i x σ H, xs[i]? = some x → Pv i σ H → g x σ H fun σ2 H2 => tb { D with nx := Pv (i + 1), ct := Pv (i + 1), bk := D.nx } σ2 H2) (hd : ∀ σ H, Pv xs.length σ H → D.nx σ H) : kFt K g tb D σ (.ref a) H :=
  ⟨a, rfl, ⟨xs, .inl (.inl e)⟩, for_tup Pv h0 (fun i σ H h1 h2 => .inl (.inl (hl i σ H h1 h2))) hs hd⟩
end
/-- wild(pot, most, room): a log of drawn operations -/
def spWild : Sp := fun vs H Q _ => ∃ (p : Addr) (most room : Int) (N : Nat), vs = [.ref p, .int most, .int room] ∧ Pot H p N ∧ 0 ≤ most ∧ most ≤ 100 ∧ 1 ≤ room ∧ room ≤ 1000 ∧ 8 * most.toNat + 8 ≤ N ∧
  ∀ (H' : Hp) (t : Addr) (ops : List Op), Keep (At p) H H' → Pot H' p (N - (8 * most.toNat + 8)) → DD All H' (.ref t) (.tuple (ops.map Op.dat)) → LogOk ops → ops.length ≤ most.toNat →
    (∀ o ∈ ops, o.v ≤ 4 ∧ 0 ≤ o.b ∧ o.e ≤ 2 * room) → Q (.ref t) H'
theorem spWild_arity {vs : List V} {H : Hp} {Q : VK} {E : XK} (h : spWild vs H Q E) : vs.length = 3 := by
  obtain ⟨_, _, _, _, rfl, _⟩ := h
  rfl
/-- true(pot, many, off, step): a log made from a hidden order -/
def spTrue : Sp := fun vs H Q _ => ∃ (p : Addr) (many off step : Int) (N : Nat), vs = [.ref p, .int many, .int off, .int step] ∧ Pot H p N ∧ 0 ≤ many ∧ many ≤ 200 ∧ 0 ≤ off ∧ off ≤ 100 ∧ 0 ≤ step ∧ step ≤ 1000 ∧ 8 * many.toNat + 8 ≤ N ∧
  ∀ (H' : Hp) (t : Addr) (ops : List Op), Keep (At p) H H' → Pot H' p (N - (8 * many.toNat + 8)) → DD All H' (.ref t) (.tuple (ops.map Op.dat)) → LogOk ops → ops.length = many.toNat →
    (∀ o ∈ ops, o.v ≤ many ∧ -100000000 ≤ o.b ∧ o.e ≤ 100000100000000) → Q (.ref t) H'
theorem spTrue_arity {vs : List V} {H : Hp} {Q : VK} {E : XK} (h : spTrue vs H Q E) : vs.length = 4 := by
  obtain ⟨_, _, _, _, _, rfl, _⟩ := h
  rfl
end LB

open PySem PySem.Spec PyProof.Rows L2 LB
/-! the tactic: one step of a reading; many -/
local macro_rules | `(tactic| walk_at "w1_2") => `(tactic| first
  | with_reducible refine w_seq ?_ | with_reducible refine w_asg ?_ | with_reducible refine w_drop ?_ | with_reducible refine w_ret ?_ | with_reducible refine w_next ?_
  | with_reducible refine w_ifs ?_ | with_reducible refine w_forR1 ?_ | with_reducible refine w_forR2 ?_ | with_reducible refine w_forL ?_ | with_reducible refine w_forT ?_ | with_reducible refine w_name ?_ | with_reducible refine w_sub ?_ | with_reducible refine w_par ?_
  | with_reducible refine w_var (by with_unfolding_all rfl) ?_ | with_reducible refine w_c ?_ | with_reducible refine w_op ?_ | with_reducible refine w_un ?_
  | with_reducible refine w_test ?_ | with_reducible refine w_tb ?_ | with_reducible refine w_nil ?_ | with_reducible refine w_cons ?_ | with_reducible refine w_cb ?_ | with_reducible refine w_call ?_
  | with_reducible refine w_not ?_ | with_reducible refine w_and ?_ | with_reducible refine w_or ?_ | with_reducible refine w_andV ?_ | with_reducible refine w_orV ?_ | with_reducible refine w_notV ?_
  | with_reducible refine w_ife ?_ | with_reducible refine w_chain ?_ | with_reducible refine w_bm ?_ | with_reducible refine w_sl ?_ | with_reducible refine w_part ?_ | with_reducible refine w_nopart ?_
  | with_reducible refine w_exb ?_ | with_reducible refine w_exi ?_ | with_reducible refine w_ex2 ?_ | with_reducible refine w_ex3 ?_ | with_reducible refine w_lstrg ?_ | with_reducible refine w_rg2 ?_ | with_reducible refine w_rg1 ?_ | with_reducible refine w_exij ?_ | with_reducible refine w_tup ?_ | with_reducible refine w_lst ?_
  | with_reducible refine o_add ?_ | with_reducible refine o_sub ?_ | with_reducible refine o_neg ?_ | with_reducible refine o_lt ?_ | with_reducible refine o_le ?_ | with_reducible refine o_gt ?_ | with_reducible refine o_ge ?_
  | with_reducible refine o_ixL (by assumption) (by decide) (by with_unfolding_all rfl) ?_ | with_reducible refine o_ixT (by assumption) (by decide) (by with_unfolding_all rfl) ?_
  | with_reducible refine o_mod (by first | decide | omega) ?_ | with_reducible refine o_mul (by first | decide | omega) ?_ | with_reducible refine o_fdv (by first | decide | omega) (by first | decide | omega) ?_ | with_reducible refine o_setL (by assumption) (by decide) (by simp) ?_
  | with_reducible refine oo_addi ?_ | with_reducible refine oo_sub ?_ | with_reducible refine oo_neg ?_ | with_reducible refine w_rev ?_ | with_reducible refine w_m0 ?_
  | with_reducible refine w_par3 ?_ | with_reducible refine w_tyl (by assumption) ?_
  | with_reducible refine o_abs ?_ | with_reducible refine o_eqs (by with_unfolding_all rfl) ?_ | with_reducible refine o_nes (by with_unfolding_all rfl) ?_ | with_reducible refine o_max2 ?_ | with_reducible refine o_min2 ?_ | with_reducible refine o_isiX (by assumption) ?_ | with_reducible refine o_lenl (by assumption) ?_ | with_reducible refine o_lent (by assumption) ?_ | with_reducible refine o_int1b ?_)
local macro_rules | `(tactic| walk_at "ws_2") => `(tactic| repeat (first | walk_at "w1_2" | dsimp only [List.set_cons_zero, List.set_cons_succ]))
namespace LB
theorem pure__law_pot {K : PySem.W.Frag} {vs : List V} {H : Hp} {Q : VK} {E : XK} (h : spPot K vs H Q E) : t__law_pot K { nx := fun _ H' => Q .non H', rt := Q } (start ["script", "k", "cell", "own"] vs) H := by
  obtain ⟨a, k, ns, rfl, hS, k0, k1, hl, q⟩ := h
  show t__law_pot K _ [some (.ref a), some (.int k), none, none] H
  unfold t__law_pot
  walk_at "ws_2"
  refine o_lens hS ?_
  walk_at "ws_2"
  rw [List.length_map]
  refine w_ite (fun h => ?a) (fun h => ?b)
  case' a =>
    have hk : k.toNat < ns.length := by omega
    walk_at "ws_2"
    refine o_ixS hS k0 (v := .int ns[k.toNat]) (by rw [List.getElem?_map, List.getElem?_eq_getElem hk]; rfl) ?_
    walk_at "ws_2"
    generalize ns[k.toNat] = c
  case' b =>
    walk_at "ws_2"
    generalize 19 * k + 6 = c
  all_goals
    unfold t__law_pot_1
    walk_at "ws_2"
    refine o_pow ⟨by decide, by decide +kernel⟩ ?_
    walk_at "ws_2"
    refine o_pow ⟨by decide, by decide +kernel⟩ ?_
    walk_at "ws_2"
    have g0 : 0 ≤ (if c < 0 then -c else c) := by split <;> omega
    generalize (if c < 0 then -c else c) = ac at g0 ⊢
    have g1 : 0 ≤ ac.fmod (((10 : Int) ^ (60 : Int).toNat) ^ (5 : Int).toNat) := Int.fmod_nonneg_of_pos _ (by decide +kernel)
    generalize ac.fmod (((10 : Int) ^ (60 : Int).toNat) ^ (5 : Int).toNat) = own at g1 ⊢
    walk_at "ws_2"
    have f0 : 0 ≤ c.fmod 2305843009213693951 := Int.fmod_nonneg_of_pos _ (by omega)
    have f1 : c.fmod 2305843009213693951 < 2305843009213693951 := Int.fmod_lt_of_pos _ (by omega)
    refine o_pow ⟨by decide, by decide +kernel⟩ ?_
    walk_at "ws_2"
    refine o_mulR (by split <;> decide) ?_
    have g3 : 0 ≤ own * (if decide ((10 : Int) ^ (18 : Int).toNat ≤ ac) = true then (1 : Int) else 0) := Int.mul_nonneg g1 (by generalize decide ((10 : Int) ^ (18 : Int).toNat ≤ ac) = b; cases b <;> decide)
    generalize own * (if decide ((10 : Int) ^ (18 : Int).toNat ≤ ac) = true then (1 : Int) else 0) = oz at g3 ⊢
    walk_at "ws_2"
    refine k_lst (by simp; decide) fun p H1 n1 => ?_
    exact q H1 p n1.no n1.keep ⟨_, _, _, n1.at_, g3, ⟨Int.fmod_nonneg_of_pos _ (by omega), Int.fmod_lt_of_pos _ (by omega)⟩, by omega, by omega⟩
def t__law_wild_1 (K : PySem.W.Frag) : TS :=
  (tSeq (tDrop (tBM K "list" rAppend (tVar 4) (tCons (tVar 7) tNil)))
    (tDrop (tBM K "list" rAppend (tVar 3) (tCons (tTup (tCons (tC (V.str "write")) (tCons (tVar 7) (tCons (tVar 8) (tCons (tOp (rAddA K) (tVar 8) (tCall spDraw [] E0 (tCons (tVar 0) (tCons (tOp (rAddA K) (tOp rFdvI (tVar 2) (tC (V.int 2))) (tC (V.int 1))) tNil)))) tNil))))) tNil))))

def t__law_wild_2 (K : PySem.W.Frag) : TS :=
  (tSeq (tAsg (tOp (rAddA K) (tVar 4) (tLst (tCons (tC (V.int 0)) tNil))) (gName 9))
    (tSeq (tAsg (tCall (spAny K) [] E0 (tCons (tVar 0) (tCons (tOp (rAddA K) (tOp (rAddA K) (tVar 9) (tVar 9)) (tLst (tCons (tVar 7) tNil))) tNil))) (gName 7))
    (tDrop (tBM K "list" rAppend (tVar 3) (tCons (tTup (tCons (tC (V.str "read")) (tCons (tVar 7) (tCons (tVar 8) (tCons (tOp (rAddA K) (tVar 8) (tCall spDraw [] E0 (tCons (tVar 0) (tCons (tOp (rAddA K) (tOp rFdvI (tVar 2) (tC (V.int 2))) (tC (V.int 1))) tNil)))) tNil))))) tNil)))))

def t__law_wild_3 (K : PySem.W.Frag) : TS :=
  (tSeq (tPar 6 7 (tCons (tCall (spAny K) [] E0 (tCons (tVar 0) (tCons (tLst (tCons (tC (V.str "write")) (tCons (tC (V.str "read")) (tCons (tC (V.str "read")) tNil)))) tNil))) (tCons (tCall spDraw [] E0 (tCons (tVar 0) (tCons (tC (V.int 5)) tNil))) tNil)))
    (tSeq (tAsg (tCall spDraw [] E0 (tCons (tVar 0) (tCons (tVar 2) tNil))) (gName 8))
    (tIfS (tAnd (tTest (tOp (rEqA K) (tVar 6) (tC (V.str "write")))) (tAnd (tTest (tOp rGtI (tVar 7) (tC (V.int 0)))) (tTest (tOp (rNiA K) (tVar 7) (tVar 4)))))
    (t__law_wild_1 K) (t__law_wild_2 K))))

def t__law_wild (K : PySem.W.Frag) : TS :=
  (tSeq (tPar 3 4 (tCons (tLst tNil) (tCons (tLst tNil) tNil)))
    (tSeq (tFor (iRng1 (tCons (tCall spDraw [] E0 (tCons (tVar 0) (tCons (tOp (rAddA K) (tVar 1) (tC (V.int 1))) tNil))) tNil)) (gName 5)
    (t__law_wild_3 K))
    (tRet (tCB (rTupOf K) (tCons (tCall (spMixed K) [] E0 (tCons (tVar 0) (tCons (tVar 3) tNil))) tNil)))))


section
variable {K : PySem.W.Frag} {D : Ends} {p f wl : Addr} {most room wv bg : Int} {xs : List V} {ws : List Int} {x5 x6 x9 : Option V} {H : Hp} {M : Nat}
theorem wild_write (hp : Pot H p M) (hM : 1 ≤ M) (hf : H f = some (.lst xs)) (hw : H wl = some (.lst (ws.map V.int))) (pf : p ≠ f) (pw : p ≠ wl) (fw : f ≠ wl)
    (lx : xs.length ≤ 1000) (lw : ws.length ≤ 1000) (r0 : 1 ≤ room) (r1 : room ≤ 1000)
    (q : ∀ (H' : Hp) (e : Int) (t : Addr), Keep (fun b => b = p ∨ b = f ∨ b = wl) H H' → Pot H' p (M - 1) → H' f = some (.lst (xs ++ [.ref t])) → H' wl = some (.lst ((ws ++ [wv]).map V.int)) →
      DD All H' (.ref t) (Op.dat ⟨true, wv, bg, e⟩) → bg ≤ e → e ≤ bg + room → D.nx [some (.ref p), some (.int most), some (.int room), some (.ref f), some (.ref wl), x5, x6, some (.int wv), some (.int bg), x9] H') :
    t__law_wild_1 K D [some (.ref p), some (.int most), some (.int room), some (.ref f), some (.ref wl), x5, x6, some (.int wv), some (.int bg), x9] H := by
  unfold t__law_wild_1
  walk_at "ws_2"
  refine o_app hw (Nat.lt_of_le_of_lt (by rw [List.length_map]; omega : (ws.map V.int).length ≤ 1000) (by decide)) fun H1 p1 => ?_
  have hf1 := p1.get fw hf
  walk_at "ws_2"
  have d0 : 0 ≤ room.fdiv 2 := Int.fdiv_nonneg (by omega) (by omega)
  have d1 : room.fdiv 2 ≤ room := by rw [Int.fdiv_eq_ediv_of_nonneg _ (by omega)]; omega
  refine o_draw (hp.put p1 pw) hM (by omega) (by omega) fun H2 k kp2 pt2 k0 k1 => ?_
  have hf2 := kp2.all _ _ (fun z => pf z.symm) hf1
  have hw2 := kp2.all _ _ (fun z => pw z.symm) p1.at_
  walk_at "ws_2"
  refine k_tup (by simp; decide) fun t H3 n3 => ?_
  walk_at "ws_2"
  refine o_app (n3.get hf2) (Nat.lt_of_le_of_lt lx (by decide)) fun H4 p4 => ?_
  walk_at "ws_2"
  have ft : t ≠ f := (n3.ne hf2).symm
  refine q H4 _ t ?_ ((pt2.new n3).put p4 pf) p4.at_ ?_ ((op_new (w := true) n3).keep (p4.keep (S := All) trivial (n3.get hf2))) (by omega) (by omega)
  · exact (((p1.keep (S := fun b => b = p ∨ b = f ∨ b = wl) (.inr (.inr rfl)) hw).trans (kp2.mono fun b z => .inl z)).trans n3.keep).trans (p4.keep (.inr (.inl rfl)) (n3.get hf2))
  · rw [p4.off _ fw.symm, n3.get hw2, List.map_append]
    rfl
theorem wild_read (hp : Pot H p M) (hM : 2 ≤ M) (hf : H f = some (.lst xs)) (hw : H wl = some (.lst (ws.map V.int))) (pf : p ≠ f) (pw : p ≠ wl) (fw : f ≠ wl)
    (lx : xs.length ≤ 1000) (lw : ws.length ≤ 1000) (r0 : 1 ≤ room) (r1 : room ≤ 1000) (w0 : 0 ≤ wv) (w1 : wv ≤ 4) (hws : ∀ z ∈ ws, 0 ≤ z ∧ z ≤ 4)
    (q : ∀ (H' : Hp) (v e : Int) (t : Addr) (y9 : Option V), Keep (fun b => b = p ∨ b = f ∨ b = wl) H H' → Pot H' p (M - 2) → H' f = some (.lst (xs ++ [.ref t])) → H' wl = some (.lst (ws.map V.int)) →
      DD All H' (.ref t) (Op.dat ⟨false, v, bg, e⟩) → 0 ≤ v → v ≤ 4 → bg ≤ e → e ≤ bg + room → D.nx [some (.ref p), some (.int most), some (.int room), some (.ref f), some (.ref wl), x5, x6, some (.int v), some (.int bg), y9] H') :
    t__law_wild_2 K D [some (.ref p), some (.int most), some (.int room), some (.ref f), some (.ref wl), x5, x6, some (.int wv), some (.int bg), x9] H := by
  unfold t__law_wild_2
  walk_at "ws_2"
  refine k_lst (by simp; decide) fun z H1 n1 => ?_
  refine o_addL (n1.get hw) n1.at_ (by rw [List.length_map]; exact Nat.le_trans (by simp; omega : ws.length + [V.int 0].length ≤ 2000) (by decide)) fun s H2 n2 => ?_
  walk_at "ws_2"
  refine o_addL n2.at_ n2.at_ (by simp; exact Nat.le_trans (by omega : _ ≤ 5000) (by decide)) fun s2 H3 n3 => ?_
  walk_at "ws_2"
  refine k_lst (by simp; decide) fun z2 H4 n4 => ?_
  refine o_addL (n4.get n3.at_) n4.at_ (by simp; exact Nat.le_trans (by omega : _ ≤ 5000) (by decide)) fun s3 H5 n5 => ?_
  walk_at "ws_2"
  have hp5 := ((((hp.new n1).new n2).new n3).new n4).new n5
  have s3p : s3 ≠ p := fun e => ((((hp.new n1).new n2).new n3).new n4).ne n5.no e.symm
  refine o_any hp5 (by omega) s3p (.inl n5.at_) (by simp; omega) (by simp; omega) fun H6 i v ev kp6 pt6 => ?_
  have hv : ∃ z : Int, v = .int z ∧ 0 ≤ z ∧ z ≤ 4 := by
    have hm := List.mem_of_getElem? ev
    simp only [List.mem_append, List.mem_map, List.mem_cons, List.not_mem_nil, or_false] at hm
    rcases hm with ((⟨y, hy, rfl⟩ | rfl) | (⟨y, hy, rfl⟩ | rfl)) | rfl
    · exact ⟨y, rfl, hws y hy⟩
    · exact ⟨0, rfl, by omega⟩
    · exact ⟨y, rfl, hws y hy⟩
    · exact ⟨0, rfl, by omega⟩
    · exact ⟨wv, rfl, w0, w1⟩
  obtain ⟨z7, rfl, v0, v1⟩ := hv
  have hf6 := kp6.all _ _ (fun z => pf z.symm) (n5.get (n4.get (n3.get (n2.get (n1.get hf)))))
  have hw6 := kp6.all _ _ (fun z => pw z.symm) (n5.get (n4.get (n3.get (n2.get (n1.get hw)))))
  walk_at "ws_2"
  have d0 : 0 ≤ room.fdiv 2 := Int.fdiv_nonneg (by omega) (by omega)
  have d1 : room.fdiv 2 ≤ room := by rw [Int.fdiv_eq_ediv_of_nonneg _ (by omega)]; omega
  refine o_draw pt6 (by omega) (by omega) (by omega) fun H7 k kp7 pt7 k0 k1 => ?_
  have hf7 := kp7.all _ _ (fun z => pf z.symm) hf6
  have hw7 := kp7.all _ _ (fun z => pw z.symm) hw6
  walk_at "ws_2"
  refine k_tup (by simp; decide) fun t H8 n8 => ?_
  walk_at "ws_2"
  refine o_app (n8.get hf7) (Nat.lt_of_le_of_lt lx (by decide)) fun H9 p9 => ?_
  walk_at "ws_2"
  refine q H9 z7 _ t _ ?_ (((pt7.new n8).put p9 pf).le (by omega)) p9.at_ ?_ ((op_new (w := false) n8).keep (p9.keep (S := All) trivial (n8.get hf7))) v0 v1 (by omega) (by omega)
  · have k1 : Keep (fun b => b = p ∨ b = f ∨ b = wl) H H5 := n1.keep.trans (n2.keep.trans (n3.keep.trans (n4.keep.trans n5.keep)))
    exact (((k1.trans (kp6.mono fun b z => .inl z)).trans (kp7.mono fun b z => .inl z)).trans n8.keep).trans (p9.keep (.inr (.inl rfl)) (n8.get hf7))
  · rw [p9.off _ fw.symm, n8.get hw7]
end

def WildI (p f wl : Addr) (most room : Int) (H : Hp) (N i : Nat) (σ : LB.St) (H' : Hp) : Prop := ∃ (ops : List Op) (xs : List V) (x5 x6 x7 x8 x9 : Option V),
      σ = [some (.ref p), some (.int most), some (.int room), some (.ref f), some (.ref wl), x5, x6, x7, x8, x9] ∧ Keep (At p) H H' ∧ Pot H' p (N - 1 - 5 * i) ∧ H' f = some (.lst xs) ∧
      DDs All H' xs (ops.map Op.dat) ∧ H' wl = some (.lst ((wr ops).map V.int)) ∧ LogOk ops ∧ (∀ o ∈ ops, o.v ≤ 4 ∧ 0 ≤ o.b ∧ o.e ≤ 2 * room) ∧ ops.length = i
theorem pure__law_wild {K : PySem.W.Frag} {vs : List V} {H : Hp} {Q : VK} {E : XK} (h : spWild vs H Q E) : t__law_wild K { nx := fun _ H' => Q .non H', rt := Q } (start ["pot", "most", "room", "found", "written", "turn", "kind", "worth", "begin", "some"] vs) H := by
  obtain ⟨p, most, room, N, rfl, pt, m0, m1, r0, r1, hN, q⟩ := h
  show t__law_wild K _ [some (.ref p), some (.int most), some (.int room), none, none, none, none, none, none, none] H
  unfold t__law_wild
  walk_at "ws_2"
  refine k_lst (by simp) fun f H1 n1 => ?_
  walk_at "ws_2"
  refine k_lst (by simp) fun wl H2 n2 => ?_
  walk_at "ws_2"
  have pf : p ≠ f := pt.ne n1.no
  have pw : p ≠ wl := (pt.new n1).ne n2.no
  have fw : f ≠ wl := n2.ne n1.at_
  have w0 : H wl = none := by
    cases e : H wl with
    | none => rfl
    | some o => have := n1.get e; rw [n2.no] at this; cases this
  refine o_draw ((pt.new n1).new n2) (by omega) (by omega) (by omega) fun H3 k kp3 pt3 k0 k1 => ?_
  walk_at "ws_2"
  refine k_R1 (by omega) (by omega) (WildI p f wl most room H N) ?_ ?_ ?_
  · refine ⟨[], [], _, _, _, _, _, rfl, (n1.keep.trans n2.keep).trans kp3, pt3, kp3.all _ _ (fun z => pf z.symm) (n2.get n1.at_), .nil, kp3.all _ _ (fun z => pw z.symm) n2.at_, ⟨fun o ho => by (cases ho), List.Pairwise.nil⟩, fun o ho => by (cases ho), rfl⟩
  · rintro i σ H4 hi ⟨ops, xs, x5, x6, x7, x8, x9, rfl, kp, pt4, hf, hd, hw, lo, ho, hl⟩
    have hlx : xs.length = i := by rw [hd.length, List.length_map, hl]
    have hlw : (wr ops).length ≤ i := by
      unfold wr
      rw [List.length_map]
      exact Nat.le_trans (List.length_filter_le _ _) (by omega)
    have hwv : ∀ z ∈ wr ops, 0 ≤ z ∧ z ≤ 4 := fun z hz => by
      obtain ⟨o, h1, rfl⟩ := List.mem_map.mp hz
      have h2 := (List.mem_filter.mp h1).1
      exact ⟨(lo.1 o h2).2.1, (ho o h2).1⟩
    walk_at "ws_2"
    unfold t__law_wild_3
    walk_at "ws_2"
    refine k_lst (by simp; decide) fun z H5 n5 => ?_
    walk_at "ws_2"
    refine o_any (pt4.new n5) (by omega) (fun e => (pt4.ne n5.no) e.symm) (.inl n5.at_) (by simp) (by simp) fun H6 j v ev kp6 pt6 => ?_
    obtain ⟨w, rfl⟩ := kind_any ev
    walk_at "ws_2"
    refine o_draw pt6 (by omega) (by omega) (by omega) fun H7 wv kp7 pt7 w0' w1' => ?_
    walk_at "ws_2"
    refine o_draw pt7 (by omega) (by omega) (by omega) fun H8 bg kp8 pt8 b0 b1 => ?_
    have k48 : Keep (At p) H4 H8 := ((n5.keep (S := At p)).trans kp6).trans (kp7.trans kp8)
    have hf8 := k48.all _ _ (fun z => pf z.symm) hf
    have hw8 := k48.all _ _ (fun z => pw z.symm) hw
    have hd8 := hd.keep (k48.mono fun _ _ => trivial)
    walk_at "ws_2"
    rw [kind_eq]
    -- the two ends of a turn
    have rd : ∀ D : Ends, (∀ σ H', WildI p f wl most room H N (i + 1) σ H' → D.nx σ H') → t__law_wild_2 K D [some (.ref p), some (.int most), some (.int room), some (.ref f), some (.ref wl), some (.int (0 + i)), some (.str (kindS w)), some (.int wv), some (.int bg), x9] H8 := by
      intro D hD
      refine wild_read (M := N - 1 - 5 * i - 3) (pt8.le (by omega)) (by omega) hf8 hw8 pf pw fw (by omega) (by omega) r0 r1 w0' (by omega) hwv fun H9 v e t y9 k9 pt9 f9 wl9 d9 v0 v1 e0 e1 => ?_
      refine hD _ _ ⟨ops ++ [⟨false, v, bg, e⟩], xs ++ [.ref t], _, _, _, _, _, rfl, (kp.trans k48).trans0 k9 (fun c hc => ?_), pt9.le (by omega), f9, ?_, ?_, ?_, ?_, ?_⟩
      · rcases hc with rfl | rfl | rfl
        · exact .inl rfl
        · exact .inr n1.no
        · exact .inr w0
      · rw [List.map_append]
        exact (hd8.keep (k9.mono fun _ _ => trivial)).snoc d9
      · rw [wr_append]
        show H9 wl = some (HO.lst ((wr ops ++ []).map V.int))
        rw [List.append_nil]
        exact wl9
      · refine ⟨fun o ho => ?_, ?_⟩
        · rcases List.mem_append.mp ho with ho | ho
          · exact lo.1 o ho
          · simp only [List.mem_cons, List.not_mem_nil, or_false] at ho
            subst ho
            exact ⟨fun z => by (cases z), v0, by show v ≤ _; omega, by show _ ≤ bg; omega, e0, by show e ≤ _; omega⟩
        · rw [wr_append]
          show (wr ops ++ []).Nodup
          rw [List.append_nil]
          exact lo.2
      · intro o ho'
        rcases List.mem_append.mp ho' with ho' | ho'
        · exact ho o ho'
        · simp only [List.mem_cons, List.not_mem_nil, or_false] at ho'
          subst ho'
          exact ⟨v1, b0, by show e ≤ _; omega⟩
      · rw [List.length_append, hl]
        rfl
    refine w_iteb (fun hwt => ?_) (fun _ => w_iteF rfl (rd _ fun _ _ h => h))
    subst hwt
    walk_at "ws_2"
    refine w_ite (fun hp0 => ?_) (fun _ => w_iteF rfl (rd _ fun _ _ h => h))
    walk_at "ws_2"
    refine o_niInts hw8 ?_
    walk_at "ws_2"
    by_cases hin : wv ∈ wr ops
    · rw [decide_eq_true hin]
      exact w_iteF rfl (rd _ fun _ _ h => h)
    · rw [decide_eq_false hin]
      refine w_iteT rfl ?_
      refine wild_write (M := N - 1 - 5 * i - 3) (pt8.le (by omega)) (by omega) hf8 hw8 pf pw fw (by omega) (by omega) r0 r1 fun H9 e t k9 pt9 f9 wl9 d9 e0 e1 => ?_
      have hwr : wr (ops ++ [⟨true, wv, bg, e⟩]) = wr ops ++ [wv] := by rw [wr_append]; rfl
      refine ⟨ops ++ [⟨true, wv, bg, e⟩], xs ++ [.ref t], _, _, _, _, _, rfl, (kp.trans k48).trans0 k9 (fun c hc => ?_), pt9.le (by omega), f9, ?_, ?_, ?_, ?_, ?_⟩
      · rcases hc with rfl | rfl | rfl
        · exact .inl rfl
        · exact .inr n1.no
        · exact .inr w0
      · rw [List.map_append]
        exact (hd8.keep (k9.mono fun _ _ => trivial)).snoc d9
      · rw [hwr]
        exact wl9
      · refine ⟨fun o ho => ?_, ?_⟩
        · rcases List.mem_append.mp ho with ho | ho
          · exact lo.1 o ho
          · simp only [List.mem_cons, List.not_mem_nil, or_false] at ho
            subst ho
            exact ⟨fun _ => by show 1 ≤ wv; omega, w0', by show wv ≤ _; omega, by show _ ≤ bg; omega, e0, by show e ≤ _; omega⟩
        · rw [hwr]
          exact List.nodup_append.mpr ⟨lo.2, by simp, fun a ha b hb => by simp at hb; subst hb; exact fun z => hin (z ▸ ha)⟩
      · intro o ho'
        rcases List.mem_append.mp ho' with ho' | ho'
        · exact ho o ho'
        · simp only [List.mem_cons, List.not_mem_nil, or_false] at ho'
          subst ho'
          exact ⟨by show wv ≤ 4; omega, b0, by show e ≤ _; omega⟩
      · rw [List.length_append, hl]
        rfl
  · rintro σ H4 ⟨ops, xs, x5, x6, x7, x8, x9, rfl, kp, pt4, hf, hd, hw, lo, ho, hl⟩
    have hlx : xs.length = k.toNat := by rw [hd.length, List.length_map, hl]
    walk_at "ws_2"
    refine ⟨p, f, xs, ops.map Op.dat, _, rfl, pt4, by omega, pf.symm, .inl hf, by omega, hd, fun d hd => ?_, fun H5 g ys pm g0 hg kp5 pt5 => ?_⟩
    · obtain ⟨o, _, rfl⟩ := List.mem_map.mp hd
      exact o.lay
    · walk_at "ws_2"
      refine o_tupof hg fun t H6 n6 => ?_
      obtain ⟨es, pe, de⟩ := hd.perm pm
      obtain ⟨bs, eb, pb⟩ := perm_map_inv pe rfl
      subst eb
      refine q H6 t bs ((kp.trans kp5).trans n6.keep) ((pt5.new n6).le (by omega)) (.tup n6.at_ ((de.keep (kp5.mono fun _ _ => trivial)).keep n6.keep)) (lo.perm pb) ?_ fun o ho' => ho o (pb.mem_iff.mpr ho')
      rw [← pb.length_eq, hl]
      omega
end LB

open PySem PySem.Spec PyProof.Rows L2 LB
/-! the tactic: one step of a reading; many -/
local macro_rules | `(tactic| walk_at "w1_3") => `(tactic| first
  | with_reducible refine w_seq ?_ | with_reducible refine w_asg ?_ | with_reducible refine w_drop ?_ | with_reducible refine w_ret ?_ | with_reducible refine w_next ?_
  | with_reducible refine w_ifs ?_ | with_reducible refine w_forR1 ?_ | with_reducible refine w_forR2 ?_ | with_reducible refine w_forL ?_ | with_reducible refine w_forT ?_ | with_reducible refine w_name ?_ | with_reducible refine w_sub ?_ | with_reducible refine w_par ?_
  | with_reducible refine w_var (by with_unfolding_all rfl) ?_ | with_reducible refine w_c ?_ | with_reducible refine w_op ?_ | with_reducible refine w_un ?_
  | with_reducible refine w_test ?_ | with_reducible refine w_tb ?_ | with_reducible refine w_nil ?_ | with_reducible refine w_cons ?_ | with_reducible refine w_cb ?_ | with_reducible refine w_call ?_
  | with_reducible refine w_not ?_ | with_reducible refine w_and ?_ | with_reducible refine w_or ?_ | with_reducible refine w_andV ?_ | with_reducible refine w_orV ?_ | with_reducible refine w_notV ?_
  | with_reducible refine w_ife ?_ | with_reducible refine w_chain ?_ | with_reducible refine w_bm ?_ | with_reducible refine w_sl ?_ | with_reducible refine w_part ?_ | with_reducible refine w_nopart ?_
  | with_reducible refine w_exb ?_ | with_reducible refine w_exi ?_ | with_reducible refine w_ex2 ?_ | with_reducible refine w_ex3 ?_ | with_reducible refine w_lstrg ?_ | with_reducible refine w_rg2 ?_ | with_reducible refine w_rg1 ?_ | with_reducible refine w_exij ?_ | with_reducible refine w_tup ?_ | with_reducible refine w_lst ?_
  | with_reducible refine o_add ?_ | with_reducible refine o_sub ?_ | with_reducible refine o_neg ?_ | with_reducible refine o_lt ?_ | with_reducible refine o_le ?_ | with_reducible refine o_gt ?_ | with_reducible refine o_ge ?_
  | with_reducible refine o_ixL (by assumption) (by decide) (by with_unfolding_all rfl) ?_ | with_reducible refine o_ixT (by assumption) (by decide) (by with_unfolding_all rfl) ?_
  | with_reducible refine o_mod (by first | decide | omega) ?_ | with_reducible refine o_mul (by first | decide | omega) ?_ | with_reducible refine o_fdv (by first | decide | omega) (by first | decide | omega) ?_ | with_reducible refine o_setL (by assumption) (by decide) (by simp) ?_
  | with_reducible refine oo_addi ?_ | with_reducible refine oo_sub ?_ | with_reducible refine oo_neg ?_ | with_reducible refine w_rev ?_ | with_reducible refine w_m0 ?_
  | with_reducible refine w_par3 ?_ | with_reducible refine w_tyl (by assumption) ?_
  | with_reducible refine o_abs ?_ | with_reducible refine o_eqs (by with_unfolding_all rfl) ?_ | with_reducible refine o_nes (by with_unfolding_all rfl) ?_ | with_reducible refine o_max2 ?_ | with_reducible refine o_min2 ?_ | with_reducible refine o_isiX (by assumption) ?_ | with_reducible refine o_lenl (by assumption) ?_ | with_reducible refine o_lent (by assumption) ?_ | with_reducible refine o_int1b ?_)
local macro_rules | `(tactic| walk_at "ws_3") => `(tactic| repeat (first | walk_at "w1_3" | dsimp only [List.set_cons_zero, List.set_cons_succ]))
namespace LB
def t__law_true_1 (K : PySem.W.Frag) : TS :=
  (tSeq (tAsg (tTup (tCons (tOp rSubI (tVar 6) (tCall spDraw [] E0 (tCons (tVar 0) (tCons (tOp (rAddA K) (tVar 3) (tC (V.int 1))) tNil)))) (tCons (tOp (rAddA K) (tVar 6) (tCall spDraw [] E0 (tCons (tVar 0) (tCons (tOp (rAddA K) (tVar 3) (tC (V.int 1))) tNil)))) tNil))) (gName 10))
    (tSeq (tAsg (tOp (rAddA K) (tOp rSubI (tOp (rIx K) (tVar 10) (tC (V.int 0))) (tVar 2)) (tCall spDraw [] E0 (tCons (tVar 0) (tCons (tOp (rAddA K) (tOp (rMulA K) (tC (V.int 2)) (tVar 2)) (tC (V.int 1))) tNil)))) (gName 11))
    (tSeq (tAsg (tOp (rAddA K) (tOp rSubI (tOp (rIx K) (tVar 10) (tC (V.int 1))) (tVar 2)) (tCall spDraw [] E0 (tCons (tVar 0) (tCons (tOp (rAddA K) (tOp (rMulA K) (tC (V.int 2)) (tVar 2)) (tC (V.int 1))) tNil)))) (gName 12))
    (tDrop (tBM K "list" rAppend (tVar 4) (tCons (tTup (tCons (tVar 9) (tCons (tVar 5) (tCons (tCB rMin2 (tCons (tVar 11) (tCons (tVar 12) tNil))) (tCons (tCB rMax2 (tCons (tVar 11) (tCons (tVar 12) tNil))) tNil))))) tNil))))))

def t__law_true_2 (K : PySem.W.Frag) : TS :=
  (tSeq (tAsg (tOp (rAddA K) (tVar 6) (tCall spDraw [] E0 (tCons (tVar 0) (tCons (tOp (rAddA K) (tVar 3) (tC (V.int 1))) tNil)))) (gName 6))
    (tSeq (tAsg (tCall (spAny K) [] E0 (tCons (tVar 0) (tCons (tLst (tCons (tC (V.str "write")) (tCons (tC (V.str "read")) (tCons (tC (V.str "read")) tNil)))) tNil))) (gName 9))
    (tSeq (tIfS (tTest (tOp (rEqA K) (tVar 9) (tC (V.str "write"))))
    (tAsg (tOp (rIx K) (tVar 7) (tVar 8)) (gName 5)) tNext)
    (t__law_true_1 K))))

def t__law_true (K : PySem.W.Frag) : TS :=
  (tSeq (tPar3 4 5 6 (tCons (tLst tNil) (tCons (tC (V.int 0)) (tCons (tCall (spAny K) [] E0 (tCons (tVar 0) (tCons (tLst (tCons (tC (V.int 0)) (tCons (tUn rNegI (tC (V.int 7))) (tCons (tOp rPowI (tC (V.int 10)) (tC (V.int 14))) tNil)))) tNil))) tNil))))
    (tSeq (tAsg (tCall (spMixed K) [] E0 (tCons (tVar 0) (tCons (tLstRg (tRg2 (tC (V.int 1)) (tOp (rAddA K) (tVar 1) (tC (V.int 1))))) tNil))) (gName 7))
    (tSeq (tFor (iRng1 (tCons (tVar 1) tNil)) (gName 8)
    (t__law_true_2 K))
    (tRet (tCB (rTupOf K) (tCons (tCall (spMixed K) [] E0 (tCons (tVar 0) (tCons (tVar 4) tNil))) tNil))))))

def TrueI (p f g : Addr) (many off step : Int) (ns : List Int) (H : Hp) (N i : Nat) (σ : LB.St) (H' : Hp) : Prop := ∃ (ops : List Op) (xs : List V) (wv tm : Int) (x8 x9 x10 x11 x12 : Option V),
      σ = [some (.ref p), some (.int many), some (.int off), some (.int step), some (.ref f), some (.int wv), some (.int tm), some (.ref g), x8, x9, x10, x11, x12] ∧ Keep (At p) H H' ∧ Pot H' p (N - 6 * i) ∧ H' f = some (.lst xs) ∧
      DDs All H' xs (ops.map Op.dat) ∧ H' g = some (.lst (ns.map V.int)) ∧ LogOk ops ∧ (∀ z ∈ wr ops, ∃ j, j < i ∧ ns[j]? = some z) ∧ (∀ o ∈ ops, o.v ≤ many ∧ -100000000 ≤ o.b ∧ o.e ≤ 100000100000000) ∧ ops.length = i ∧ 0 ≤ wv ∧ wv ≤ many ∧ -7 ≤ tm ∧ tm ≤ 100000000000000 + i * step
theorem rg_map (n : Nat) : rgV 1 ((n : Int) + 1) = ((List.range n).map fun i => (1 : Int) + (i : Nat)).map V.int := by
  unfold rgV
  rw [List.map_map, show ((n : Int) + 1 - 1).toNat = n by omega]
  rfl
theorem range_nodup (n : Nat) : ((List.range n).map fun i => (1 : Int) + (i : Nat)).Nodup := by
  refine List.Pairwise.map _ (fun a b h e => h ?_) (List.nodup_range)
  have e : (1 : Int) + (a : Nat) = 1 + (b : Nat) := e
  omega
theorem ints_dds {S : Addr → Prop} {H : Hp} : ∀ ns : List Int, DDs S H (ns.map V.int) (ns.map PyData.int)
  | [] => .nil
  | n :: ns => .cons (.int n) (ints_dds ns)
theorem start_any {i : Nat} {v : V} (h : [V.int 0, V.int (-7), V.int 100000000000000][i]? = some v) : ∃ z : Int, v = .int z ∧ -7 ≤ z ∧ z ≤ 100000000000000 := by
  match i, h with
  | 0, h => exact ⟨0, (Option.some.inj h).symm, by omega, by omega⟩
  | 1, h => exact ⟨-7, (Option.some.inj h).symm, by omega, by omega⟩
  | 2, h => exact ⟨_, (Option.some.inj h).symm, by omega, by omega⟩
theorem perm_ints {ns : List Int} {ys : List V} (p : (ns.map V.int).Perm ys) : ∃ ms : List Int, ys = ms.map V.int ∧ ns.Perm ms := perm_map_inv p rfl
theorem pure__law_true {K : PySem.W.Frag} {vs : List V} {H : Hp} {Q : VK} {E : XK} (h : spTrue vs H Q E) : t__law_true K { nx := fun _ H' => Q .non H', rt := Q } (start ["pot", "many", "off", "step", "found", "worth", "time", "names", "turn", "kind", "ends", "begin", "end"] vs) H := by
  obtain ⟨p, many, off, step, N, rfl, pt, m0, m1, o0, o1, s0, s1, hN, q⟩ := h
  show t__law_true K _ [some (.ref p), some (.int many), some (.int off), some (.int step), none, none, none, none, none, none, none, none, none] H
  unfold t__law_true
  walk_at "ws_3"
  refine k_lst (by simp) fun f H1 n1 => ?_
  walk_at "ws_3"
  refine o_pow ⟨by decide, by decide +kernel⟩ ?_
  walk_at "ws_3"
  rw [show (10 : Int) ^ (14 : Int).toNat = 100000000000000 by decide +kernel]
  refine k_lst (by simp; decide) fun z0 H2 n2 => ?_
  walk_at "ws_3"
  have pf : p ≠ f := pt.ne n1.no
  refine o_any ((pt.new n1).new n2) (by omega) (fun e => ((pt.new n1).ne n2.no) e.symm) (.inl n2.at_) (by simp) (by simp) fun H3 j v ev kp3 pt3 => ?_
  obtain ⟨tm, rfl, t0, t1⟩ := start_any ev
  walk_at "ws_3"
  have hf3 := kp3.all _ _ (fun z => pf z.symm) (n2.get n1.at_)
  obtain ⟨n, rfl⟩ := Int.eq_ofNat_of_zero_le m0
  refine k_lr (RgOk.of_le (by omega) (by omega) (by omega) (by omega)) fun l H4 n4 => ?_
  walk_at "ws_3"
  rw [rg_map] at n4
  have pt4 := pt3.new n4
  refine ⟨p, l, _, ((List.range n).map fun i => (1 : Int) + (i : Nat)).map PyData.int, _, rfl, pt4, by simp; omega, fun e => (pt3.ne n4.no) e.symm, .inl n4.at_, by simp; omega, ints_dds _, fun d hd => ?_, fun H5 g ys pm g0 hg kp5 pt5 => ?_⟩
  · obtain ⟨z, _, rfl⟩ := List.mem_map.mp hd
    exact ⟨by simp only [PyData.canLay0], by simp only [PyData.depth]; omega⟩
  obtain ⟨ns, rfl, pn⟩ := perm_ints pm
  have hnd : ns.Nodup := pn.nodup_iff.mp (range_nodup n)
  have hnb : ∀ z ∈ ns, 1 ≤ z ∧ z ≤ n := fun z hz => by
    obtain ⟨i, hi, rfl⟩ := List.mem_map.mp (pn.mem_iff.mpr hz)
    have := List.mem_range.mp hi
    omega
  have hnl : ns.length = n := by rw [← pn.length_eq, List.length_map, List.length_range]
  simp only [List.length_map, List.length_range] at pt5
  have hf5 := kp5.all _ _ (fun z => pf z.symm) (n4.get hf3)
  have k05 : Keep (At p) H H5 := ((n1.keep.trans n2.keep).trans kp3).trans ((n4.keep).trans kp5)
  have pg : p ≠ g := pt4.ne g0
  have fg : f ≠ g := fun e => by
    have := n4.get hf3
    rw [e, g0] at this
    cases this
  have g0' : H g = none := by
    cases e : H g with
    | none => rfl
    | some o =>
      have e4 : H4 g = some o := n4.get (kp3.all _ _ (fun z => pg z.symm) (n2.get (n1.get e)))
      rw [g0] at e4
      cases e4
  walk_at "ws_3"
  refine k_R1 (by omega) (by omega) (TrueI p f g n off step ns H (N - 1 - n)) ?_ ?_ ?_
  · exact ⟨[], [], 0, tm, _, _, _, _, _, rfl, k05, pt5, hf5, .nil, hg, ⟨fun o ho => by (cases ho), List.Pairwise.nil⟩, fun z hz => by (cases hz), fun o ho => by (cases ho), rfl, by omega, by omega, t0, by omega⟩
  · rintro i σ H6 hi ⟨ops, xs, wv, tm, x8, x9, x10, x11, x12, rfl, kp, pt6, hf, hd, hgg, lo, hin, ho, hl, w0, w1, t0, t1⟩
    have hi' : i < n := by omega
    have hlx : xs.length = i := by rw [hd.length, List.length_map, hl]
    have hstep : (i : Int) * step ≤ 200 * 1000 := Int.mul_le_mul (by omega) s1 s0 (by omega)
    have hstep1 : ((i + 1 : Nat) : Int) * step = i * step + step := by
      have : ((i + 1 : Nat) : Int) = (i : Int) + 1 := by omega
      rw [this, Int.add_mul, Int.one_mul]
    walk_at "ws_3"
    unfold t__law_true_2
    walk_at "ws_3"
    refine o_draw pt6 (by omega) (by omega) (by omega) fun H7 k kp7 pt7 k0 k1 => ?_
    walk_at "ws_3"
    refine k_lst (by simp; decide) fun z H8 n8 => ?_
    walk_at "ws_3"
    refine o_any (pt7.new n8) (by omega) (fun e => (pt7.ne n8.no) e.symm) (.inl n8.at_) (by simp) (by simp) fun H9 j v ev kp9 pt9 => ?_
    obtain ⟨w, rfl⟩ := kind_any ev
    have k69 : Keep (At p) H6 H9 := (kp7.trans n8.keep).trans kp9
    have hf9 := k69.all _ _ (fun z => pf z.symm) hf
    have hg9 := k69.all _ _ (fun z => pg z.symm) hgg
    have hd9 := hd.keep (k69.mono fun _ _ => trivial)
    walk_at "ws_3"
    rw [kind_eq]
    -- the value of the operation, then the rest of the turn
    have hni : ns[i]? = some ns[i] := List.getElem?_eq_getElem (by omega)
    have rest : ∀ (D : Ends) (wv' : Int), 0 ≤ wv' → wv' ≤ n → (w = true → wv' = ns[i]) → (∀ σ H', TrueI p f g n off step ns H (N - 1 - n) (i + 1) σ H' → D.nx σ H') →
        t__law_true_1 K D [some (.ref p), some (.int n), some (.int off), some (.int step), some (.ref f), some (.int wv'), some (.int (tm + k)), some (.ref g), some (.int (0 + i)), some (.str (kindS w)), x10, x11, x12] H9 := by
      intro D wv' a0 a1 aw hD
      unfold t__law_true_1
      walk_at "ws_3"
      refine o_draw pt9 (by omega) (by omega) (by omega) fun H10 e1 kp10 pt10 e10 e11 => ?_
      walk_at "ws_3"
      refine o_draw pt10 (by omega) (by omega) (by omega) fun H11 e2 kp11 pt11 e20 e21 => ?_
      walk_at "ws_3"
      refine k_tup (by simp; decide) fun u H12 n12 => ?_
      have pt12 := pt11.new n12
      walk_at "ws_3"
      refine o_ixT n12.at_ (by decide) rfl ?_
      walk_at "ws_3"
      refine o_draw pt12 (by omega) (by omega) (by omega) fun H13 e3 kp13 pt13 e30 e31 => ?_
      have hu13 := kp13.tup _ _ n12.at_
      walk_at "ws_3"
      refine o_draw pt13 (by omega) (by omega) (by omega) fun H14 e4 kp14 pt14 e40 e41 => ?_
      have k914 : Keep (At p) H9 H14 := ((kp10.trans kp11).trans (n12.keep.trans kp13)).trans kp14
      have hf14 := k914.all _ _ (fun z => pf z.symm) hf9
      have hg14 := k914.all _ _ (fun z => pg z.symm) hg9
      have hd14 := hd9.keep (k914.mono fun _ _ => trivial)
      walk_at "ws_3"
      generalize hb : (tm + k - e1 - off + e3) = bg
      generalize he : (tm + k + e2 - off + e4) = en
      refine k_tup (by simp; decide) fun t H15 n15 => ?_
      walk_at "ws_3"
      refine o_app (n15.get hf14) (Nat.lt_of_le_of_lt (by omega : xs.length ≤ 1000) (by decide)) fun H16 p16 => ?_
      walk_at "ws_3"
      have dn : DD All H16 (.ref t) (Op.dat ⟨w, wv', if en < bg then en else bg, if en > bg then en else bg⟩) := (op_new n15).keep (p16.keep (S := All) trivial (n15.get hf14))
      have b1 : (if en < bg then en else bg) ≤ (if en > bg then en else bg) := by split <;> split <;> omega
      have b2 : -100000000 ≤ (if en < bg then en else bg) := by split <;> omega
      have b3 : (if en > bg then en else bg) ≤ 100000100000000 := by split <;> omega
      have hwr : wr (ops ++ [⟨w, wv', if en < bg then en else bg, if en > bg then en else bg⟩]) = if w = true then wr ops ++ [wv'] else wr ops := by
        rw [wr_append]
        cases w
        · show wr ops ++ [] = _
          rw [List.append_nil, if_neg (by simp)]
        · rfl
      refine hD _ _ ⟨ops ++ [⟨w, wv', if en < bg then en else bg, if en > bg then en else bg⟩], xs ++ [.ref t], wv', tm + k, _, _, _, _, _, rfl, ?_, ((pt14.new n15).put p16 pf).le (by omega), p16.at_, ?_, ?_, ?_, ?_, ?_, ?_, a0, a1, by omega, by omega⟩
      · exact p16.keep0 (((kp.trans k69).trans k914).trans n15.keep) n1.no (n15.get hf14)
      · rw [List.map_append]
        exact ((hd14.keep n15.keep).keep (p16.keep (S := All) trivial (n15.get hf14))).snoc dn
      · exact p16.get fg.symm (n15.get hg14)
      · refine ⟨fun o ho' => ?_, ?_⟩
        · rcases List.mem_append.mp ho' with ho' | ho'
          · exact lo.1 o ho'
          · simp only [List.mem_cons, List.not_mem_nil, or_false] at ho'
            subst ho'
            refine ⟨fun hw => ?_, a0, by show wv' ≤ _; omega, by show _ ≤ (if en < bg then en else bg); omega, b1, by show (if en > bg then en else bg) ≤ _; omega⟩
            have := hnb _ (List.mem_of_getElem? hni)
            have e := aw hw
            show 1 ≤ wv'
            omega
        · rw [hwr]
          split
          · rename_i hw
            refine List.nodup_append.mpr ⟨lo.2, by simp, fun a ha b hb' => ?_⟩
            simp at hb'
            subst hb'
            intro e
            obtain ⟨j, hj, ej⟩ := hin a ha
            rw [e, aw hw, ← hni] at ej
            have := (List.getElem?_inj (i := j) (j := i) (by omega) hnd).mp ej
            omega
          · exact lo.2
      · intro z hz
        rw [hwr] at hz
        split at hz
        · rename_i hw
          rcases List.mem_append.mp hz with hz | hz
          · obtain ⟨j, hj, ej⟩ := hin z hz
            exact ⟨j, by omega, ej⟩
          · simp at hz
            subst hz
            exact ⟨i, by omega, by rw [aw hw]; exact hni⟩
        · obtain ⟨j, hj, ej⟩ := hin z hz
          exact ⟨j, by omega, ej⟩
      · intro o ho'
        rcases List.mem_append.mp ho' with ho' | ho'
        · exact ho o ho'
        · simp only [List.mem_cons, List.not_mem_nil, or_false] at ho'
          subst ho'
          exact ⟨a1, b2, b3⟩
      · rw [List.length_append, hl]
        rfl
    refine w_iteb (fun hw => ?_) (fun hw => ?_)
    · walk_at "ws_3"
      refine o_ixL (v := .int ns[i]) hg9 (by omega) (by rw [show (0 + (i : Int)).toNat = i by omega, List.getElem?_map, hni]; rfl) ?_
      walk_at "ws_3"
      have := hnb _ (List.mem_of_getElem? hni)
      exact rest _ _ (by omega) (by omega) (fun _ => rfl) fun _ _ h => h
    · walk_at "ws_3"
      exact rest _ _ w0 w1 (fun h => by rw [h] at hw; cases hw) fun _ _ h => h
  · rintro σ H6 ⟨ops, xs, wv, tm, x8, x9, x10, x11, x12, rfl, kp, pt6, hf, hd, hgg, lo, hin, ho, hl, w0, w1, t0, t1⟩
    have hlx : xs.length = n := by rw [hd.length, List.length_map, hl]; omega
    walk_at "ws_3"
    refine ⟨p, f, xs, ops.map Op.dat, _, rfl, pt6, by omega, pf.symm, .inl hf, by omega, hd, fun d hd => ?_, fun H7 g' ys pm g0 hg kp7 pt7 => ?_⟩
    · obtain ⟨o, _, rfl⟩ := List.mem_map.mp hd
      exact o.lay
    · walk_at "ws_3"
      refine o_tupof hg fun t H8 n8 => ?_
      obtain ⟨es, pe, de⟩ := hd.perm pm
      obtain ⟨bs, eb, pb⟩ := perm_map_inv pe rfl
      subst eb
      refine q H8 t bs ((kp.trans kp7).trans n8.keep) ((pt7.new n8).le (by omega)) (.tup n8.at_ ((de.keep (kp7.mono fun _ _ => trivial)).keep n8.keep)) (lo.perm pb) ?_ fun o ho' => ho o (pb.mem_iff.mpr ho')
      rw [← pb.length_eq, hl]
end LB

namespace LB
open PySem PySem.Spec PyProof.Rows L2 HT
/-! ### t[::-1], t a tuple -/
section
variable {prog : Program} {w : World} {A : Around} {E : Value → Shared → Prop} {s : Shared}
theorem adj_rev (n : Nat) : Builtin.Slice.sliceAdjust none none (-1) (n : Int) = ((n : Int) - 1, -1) := by
  unfold Builtin.Slice.sliceAdjust
  simp
theorem places_rev (n : Nat) : Builtin.Slice.slicePlaces ((n : Int) - 1) (-1) (-1) = n := by
  unfold Builtin.Slice.slicePlaces
  simp only [show ¬ ((-1 : Int) > 0) by decide, if_false]
  split
  · simp only [show (- -1 : Int) = 1 by decide, Int.ediv_one]
    omega
  · omega
theorem applied_rev {sl : Addr} {vs : Value} {n : Nat} {Q : Int × Int × Nat → Shared → Prop} (hs : s.heap.IsSliceOf sl .none .none vs) (pv : IsPart vs (some (-1)))
    (h : Q ((n : Int) - 1, -1, n) s) : wpAny (model prog w) A (Builtin.Slice.sliceApplied (.ref sl) (pure (n : Int))) Q E s := by
  obtain ⟨os, hos, hcs, hds⟩ := id hs
  unfold Builtin.Slice.sliceApplied Builtin.Slice.sliceFields
  refine wpAny_bind (wpAny_bind (wpAny_field hos hds (x := .none) rfl (wpAny_bind (wpAny_field hos hds (x := .none) rfl (wpAny_bind (wpAny_field hos hds (x := vs) rfl (wpAny_pure ?_)))))))
  refine wpAny_bind (slicePart_ pv ?_)
  show wpAny _ _ (if ((-1 : Int) == 0) = true then _ else _) _ _ s
  rw [if_neg (by decide)]
  refine wpAny_bind (slicePart_ .none (wpAny_bind (slicePart_ .none (wpAny_bind (wpAny_pure ?_)))))
  show wpAny _ _ (match Builtin.Slice.sliceAdjust none none (-1) (n : Int) with | (lo, hi) => pure (lo, (-1 : Int), Builtin.Slice.slicePlaces lo hi (-1))) _ _ s
  rw [adj_rev]
  show wpAny _ _ (pure ((n : Int) - 1, (-1 : Int), Builtin.Slice.slicePlaces ((n : Int) - 1) (-1) (-1))) _ _ s
  rw [places_rev]
  exact wpAny_pure h
theorem fm_congr {α β : Type} {f g : α → Option β} : ∀ {l : List α}, (∀ m ∈ l, f m = g m) → l.filterMap f = l.filterMap g
  | [], _ => rfl
  | a :: l, h => by rw [List.filterMap_cons, List.filterMap_cons, h a List.mem_cons_self, fm_congr fun m hm => h m (List.mem_cons_of_mem _ hm)]
theorem pick_rev (xs : Array Value) : ((List.range xs.size).filterMap fun (m : Nat) => xs[(((xs.size : Int) - 1) + (m : Int) * -1).toNat]?) = xs.toList.reverse := by
  have e : (List.range xs.size).filterMap (fun (m : Nat) => xs[(((xs.size : Int) - 1) + (m : Int) * -1).toNat]?) = ((List.range xs.size).map (fun k => xs.size - 1 - k)).filterMap (xs[·]?) := by
    rw [List.filterMap_map]
    refine fm_congr fun m hm => ?_
    have hm := List.mem_range.mp hm
    have : (((xs.size : Int) - 1) + (m : Int) * -1).toNat = xs.size - 1 - m := by omega
    show _ = xs[xs.size - 1 - m]?
    rw [this]
  rw [e, PySem.W.krv_range, List.filterMap_reverse, PySem.W.krv_all]
theorem item_rev {t sl : Addr} {items : Array Value} {vs : Value} {Q : Value → Shared → Prop} (ht : IsTup s.heap t items) (hs : s.heap.IsSliceOf sl .none .none vs) (pv : IsPart vs (some (-1)))
    (h : Q (.ref s.heap.objs.size) { s with heap := s.heap.push { cls := .type "tuple", data := .seq items.toList.reverse.toArray } }) (hsz : items.size ≤ sizeLine) :
    wpAny (model prog w) A (getItem (.ref t) (.ref sl)) Q E s := by
  have hok : sizeOk (.seq items.toList.reverse.toArray) := by
    show items.toList.reverse.toArray.size ≤ sizeLine
    rw [List.size_toArray, List.length_reverse, Array.length_toList]
    exact hsz
  obtain ⟨os, hos, hcs, hds⟩ := id hs
  have hT : s.TypeIs (.ref sl) "slice" := ⟨os, hos, hcs⟩
  unfold getItem
  try with_reducible refine wpAny_holding ?_
  first | refine wpAny_bind (wpAny_pure ?_) | skip
  refine wpAny_bind (wpAny_sequenceKey ht.typeIs (by decide) ?_)
  refine wpAny_bind (wpAny_callSpecial?_slot (name := Str.ofString "__getitem__") ht.typeIs PyProof.Rows.slot_tuple_getitem (wpAny_call_entry PyProof.Rows.slot_tuple_getitem ht.typeIs entry_tuple_getitem ?_ (args_tuple_getitem _ _)))
  show wpAny _ _ (Builtin.Tuple.tupleItemsOf (.ref t) >>= _) _ _ s
  refine wpAny_bind (tupleItemsOf_ ht ?_)
  refine wpAny_bind (wpAny_typeOf hT ?_)
  rw [if_pos (by decide)]
  refine wpAny_bind (applied_rev hs pv ?_)
  have no : ¬ ((((items.size : Int) - 1) == 0 && (-1 : Int) == 1 && items.size == items.size) = true) := by
    intro q
    rw [Bool.and_eq_true, Bool.and_eq_true] at q
    exact absurd (eq_of_beq q.1.2) (by decide)
  show wpAny _ _ (if (((items.size : Int) - 1) == 0 && (-1 : Int) == 1 && items.size == items.size) = true then _ else _) _ _ s
  rw [if_neg no, pick_rev]
  first
    | exact wpAny_bind (m := Builtin.Tuple.tupleExact _) (wpAny_newObj_type (wpAny_pure ⟨_, rfl, wpAny_pure h⟩) hok)
    | exact wpAny_bind (m := Builtin.Tuple.tupleExact _) (wpAny_newObj_type (wpAny_bind (wpAny_pure (wpAny_pure ⟨_, rfl, wpAny_pure h⟩))) hok)
    | exact wpAny_bind (wpAny_bind (m := Builtin.Tuple.tupleExact _) (wpAny_newObj_type (wpAny_pure (wpAny_pure ⟨_, rfl, wpAny_pure h⟩)) hok))
    | exact wpAny_bind (wpAny_bind (m := Builtin.Tuple.tupleExact _) (wpAny_newObj_type (wpAny_pure ⟨_, rfl, wpAny_pure h⟩) hok))
end
def tRevA (K : PySem.W.Frag) (te : TE) : TE := fun σ H Q => te σ H fun x H1 => ∃ a xs, x = .ref a ∧ H1 a = some (.tup xs) ∧ ∀ p, H1 p = none → Q (.ref p) (upd H1 p (.tup xs.reverse))
theorem pe_revA {X : Cx} {e : Expr} {te : TE} {k : Nat} {p1 p2 p3 pos : Pos} (he : PE X e te) : PE X (.Subscript e (.Slice none none (some (.UnaryOp .USub (.Constant (.int 1) k p1) p2)) p3) pos) (tRevA X.K te) := by
  constructor
  intro pins s σ H Q I h
  refine Subscript_ (thn (he.run pins s σ H _ I h) ?_)
  rintro v s1 ⟨x, H1, I1, r1, a, xs, rfl, hx, q⟩
  cases r1
  have part : PO X (some (.UnaryOp .USub (.Constant (.int 1) k p1) p2)) (tPart (tUn (rU fun i => .int (-i)) (tC (.int 1)))) := po_some (pe_un un_neg pe_int)
  refine wpAny_Slice (thn (po_none.run pins s1 σ H1 (fun o H2 => o = none ∧ H2 = H1) I1 ⟨rfl, rfl⟩) ?_)
  rintro vl s2 ⟨l, H2, I2, pl, rfl, rfl⟩
  refine thn (po_none.run pins s2 σ H2 (fun o H3 => o = none ∧ H3 = H2) I2 ⟨rfl, rfl⟩) ?_
  rintro vu s3 ⟨u, H3, I3, pu, rfl, rfl⟩
  refine thn (part.run pins s3 σ H3 (fun o H4 => o = some (-1) ∧ H4 = H3) I3 ⟨1, rfl, -1, rfl, rfl, rfl⟩) ?_
  rintro vs s4 ⟨o, H4, I4, ps, rfl, rfl⟩
  cases pl
  cases pu
  have I5 : L2.Inv X pins σ H4 { s4 with heap := s4.heap.push { cls := .type "slice", data := .fields #[.none, .none, vs] } } := I4.kept (t' := s4.toks) fun b ob q => Heap.get?_push_of_some _ q
  obtain ⟨its, r, ht, hz⟩ := I5.tuple (.inl (.inl hx))
  have hlen := r.length
  show wpAny (model X.prog X.w) X.A (subscriptTail e (.Slice none none (some (.UnaryOp .USub (.Constant (.int 1) k p1) p2)) p3) (.ref a) (.ref s4.heap.objs.size)) (EP X pins σ Q) X.xe
    { s4 with heap := s4.heap.push { cls := .type "slice", data := .fields #[.none, .none, vs] } }
  refine tail_any (ops := [.ref a, .ref s4.heap.objs.size]) ht.typeIs (PyProof.Rows.slot_tuple_getitem.lookup) ?_ (by with_unfolding_all rfl)
  refine item_rev ht (Heap.IsSliceOf.new _ .none .none vs) ps ?_ (by rw [List.size_toArray]; omega)
  refine ⟨.ref _, _, I5.laid (t' := s4.toks) (o := .tup xs.reverse) (fun b ob q => Heap.get?_push_of_some _ q) (Nat.le_refl _) ?_, rfl, q _ (I5.hok.fresh (Nat.le_refl _))⟩
  exact ⟨by rw [List.length_reverse]; exact hz, _, r.reverse, ⟨_, Heap.get?_push_size _ rfl, rfl, _, rfl⟩⟩
def kRev (Q : VK) : VK := fun x H1 => ∃ a xs, x = .ref a ∧ H1 a = some (.tup xs) ∧ ∀ p, H1 p = none → Q (.ref p) (upd H1 p (.tup xs.reverse))
theorem w_rev {K : PySem.W.Frag} {te : TE} {σ : LB.St} {H : Hp} {Q : VK} (h : te σ H (kRev Q)) : tRevA K te σ H Q := h
theorem k_rev {H : Hp} {Q : VK} {a : Addr} {xs : List V} (e : H a = some (.tup xs)) (h : ∀ p H1, New H H1 p (.tup xs.reverse) → Q (.ref p) H1) : kRev Q (.ref a) H := ⟨a, xs, rfl, e, fun p hp => h p _ (.mk' hp)⟩
end LB

namespace LB
open PySem PySem.Spec PyProof.Rows L2
/-! ### the end of a law, its def promised where no repr is under way -/
section
variable {P : Program} {w : World} {K : PySem.W.Frag} {mg mb : Str → Option Value} {k : Nat} {fa a : Addr} {fd : FuncData} {x : Str} {sp : Sp} {s1 : Shared} {vs : List Value} {ns : List Int}
/-- what a law's call must leave -/
abbrev GoodEnd (s1 : Shared) : Result → Shared → Prop := fun r s' =>
  r = .ok (.ret (.bool true)) ∧ OldK s1.heap s'.heap ∧ s'.os = s1.os ∧ AllBare s'.gens
theorem law_core {H : Hp} (only : Only H) (sq : SqL K H a (ns.map V.int)) (hok : HOk P w H s1.heap) (at_ : ∀ b, H b ≠ none → b = a) (nk : H a ≠ none → K.lookup a = none)
    (kin : K.In s1.heap) (glo : s1.heap.Ns mainGlobals mg) (blt : s1.heap.Ns builtinsNs mb) (boot : ∀ y : Str, y ≠ "__name__" → mb y = bootBuiltins y)
    (lim : s1.heap.NoLimit) (seer : s1.heap.NoSeer) (bare : s1.gens = #[]) (obj : s1.heap.get? a = some { cls := .type "list", data := .seq vs.toArray })
    (room : Room k callerA) (F : ∀ base : Heap, K.In base → base.Ns mainGlobals mg → (∃ o, base.get? sysModules = some o) → FnG P w K mg base CX0 k fa fd [x] sp)
    (bind : ∀ (s : Shared) (u : Value), BindsTo s fd ⟨[u], []⟩ [(x, u)]) (hsp : sp [.ref a] H (fun v _ => v = .bl true) fun _ _ _ => False) :
    codeAny (model P w) callerA (.call (.ref fa) ⟨[.ref a], []⟩) (GoodEnd s1) s1 := by
  -- an object that is no list is not tracked
  have off : ∀ {b : Addr} {o : Obj}, s1.heap.get? b = some o → (b = a → False) → H b = none := by
    intro b o _ hb
    cases q : H b with
    | none => rfl
    | some u => exact (hb (at_ b (by rw [q]; exact fun z => by cases z))).elim
  have dic : ∀ {b : Addr} {m : Str → Option Value}, s1.heap.Ns b m → (hidT s1.heap H).Ns b m := by
    rintro b m ⟨o, es, ep, e, d, rest⟩
    refine ⟨o, es, ep, hidT_get e (off e fun z => ?_), d, rest⟩
    subst z
    rw [obj] at e
    cases e
    cases d
  have kin2 : K.In (hidT s1.heap H) := by
    intro b o e
    refine hidT_get (kin b o e) ?_
    cases q : H b with
    | none => rfl
    | some u =>
      have hb := at_ b (by rw [q]; exact fun z => by cases z)
      subst hb
      rw [nk (by rw [q]; exact fun z => by cases z)] at e
      cases e
  obtain ⟨ml, l1, l2⟩ := lim
  have md : Mod K mg (hidT s1.heap H) := { kin := kin2, glob := dic glo, blt := ⟨mb, dic blt, boot⟩, nolimit := ⟨ml, dic l1, l2⟩ }
  have env0 : Env0 P w K mg (hidT s1.heap H) callerA [] s1 H :=
    { frames := rfl, mod := md, bs := fun b o e => of_hidT e, bsz := Nat.le_of_eq (hidT_size _ _), funs := trivial, frf := fun b hb => by (cases hb), hok := hok, bare := .of_eq bare }
  have run := (F _ kin2 (dic glo) (let ⟨_, hm, _⟩ := seer.mods; let ⟨o, _, _, e, _⟩ := dic hm; ⟨o, e⟩)).goes callerA [] s1 H ⟨[.ref a], []⟩ [.ref a] [.ref a] (fun v _ => v = .bl true) (fun _ _ _ => False)
    room rfl env0 (bind s1 (.ref a)) (Paired.cons rfl Paired.nil) hsp
  refine codeAny_mono run ?_
  intro r s2 h
  match r, h with
  | .error _, h => exact False.elim h
  | .ok .next, h => exact False.elim h
  | .ok .brk, h => exact False.elim h
  | .ok .cont, h => exact False.elim h
  | .ok (.ret u), ⟨v, H2, os, br, un, hok2, rv, q⟩ =>
    subst q
    cases rv
    refine ⟨rfl, OldK.of_keep fun b o e => ?_, os, br⟩
    cases q : H b with
    | none => exact un.keep b o e q (fun z => by cases z) (fun z => by cases z)
    | some u =>
      rcases only b with z | ⟨ob, xs, z⟩
      · rw [q] at z
        cases z
      · have e1 := (hok b _ z).1
        have e2 := (hok2 b _ (un.frzs b ob _ z)).1
        rw [e] at e1
        cases e1
        exact e2
/-- the heap in which the script alone is known, to the object -/
def scr (a : Addr) (vs : List Value) (ns : List Int) : Hp := fun b => if b = a then some (.frz { cls := .type "list", data := .seq vs.toArray } (.lst (ns.map V.int))) else none
theorem scr_at {a b : Addr} {vs : List Value} {ns : List Int} {u : HO} (h : scr a vs ns b = some u) : b = a ∧ u = .frz { cls := .type "list", data := .seq vs.toArray } (.lst (ns.map V.int)) := by
  unfold scr at h
  split at h
  · rename_i e
    exact ⟨e, (Option.some.inj h).symm⟩
  · cases h
theorem law_g (kin : K.In s1.heap) (glo : s1.heap.Ns mainGlobals mg) (blt : s1.heap.Ns builtinsNs mb) (boot : ∀ y : Str, y ≠ "__name__" → mb y = bootBuiltins y)
    (lim : s1.heap.NoLimit) (seer : s1.heap.NoSeer) (bare : s1.gens = #[]) (obj : s1.heap.get? a = some { cls := .type "list", data := .seq vs.toArray }) (hints : IntsAre vs ns) (len : ns.length ≤ sizeLine)
    (room : Room k callerA) (F : ∀ base : Heap, K.In base → base.Ns mainGlobals mg → (∃ o, base.get? sysModules = some o) → FnG P w K mg base CX0 k fa fd [x] sp)
    (bind : ∀ (s : Shared) (u : Value), BindsTo s fd ⟨[u], []⟩ [(x, u)])
    (hsp : ∀ H : Hp, Only H → SqL K H a (ns.map V.int) → sp [.ref a] H (fun v _ => v = .bl true) fun _ _ _ => False) :
    codeAny (model P w) callerA (.call (.ref fa) ⟨[.ref a], []⟩) (GoodEnd s1) s1 := by
  have rv := vals_ints hints
  cases hk : K.lookup a with
  | none =>
    have o1 : Only (scr a vs ns) := fun b => by
      cases q : scr a vs ns b with
      | none => exact Or.inl rfl
      | some u => exact Or.inr ⟨_, _, by rw [(scr_at q).2]⟩
    have s0 : SqL K (scr a vs ns) a (ns.map V.int) := Or.inl (Or.inr ⟨_, if_pos rfl⟩)
    refine law_core o1 s0 ?_ (fun b hb => ?_) (fun _ => hk) kin glo blt boot lim seer bare obj room F bind (hsp _ o1 s0)
    · intro b u q
      obtain ⟨e1, e2⟩ := scr_at q
      subst e1 e2
      exact ⟨obj, by rw [List.length_map]; exact len, vs, _, rv, obj⟩
    · cases q : scr a vs ns b with
      | none => exact (hb q).elim
      | some u => exact (scr_at q).1
  | some o =>
    have e := kin a o hk
    rw [obj] at e
    cases e
    have o1 : Only (fun _ => none) := fun b => Or.inl rfl
    have s0 : SqL K (fun _ => none) a (ns.map V.int) := Or.inr ⟨_, vs.toArray, _, hk, rfl, rfl, rfl, by rw [List.size_toArray, hints.length]; exact len, by simpa using rv⟩
    exact law_core o1 s0 (fun b u z => by cases z) (fun b hb => (hb rfl).elim) (fun hb => (hb rfl).elim) kin glo blt boot lim seer bare obj room F bind (hsp _ o1 s0)
end
theorem walk_g {l : PySem.W.OpenLaw} {n k : Nat} {q : Program} {loose : List Str} {XP : (Str → Option Value) → Heap → Prop} {YP : World → Heap → Prop} {d : DefRec}
    {K : Params → PySem.W.Frag} {sp : PySem.W.Frag → Sp} {x : Str} (most : l.most = some n) (small : n ≤ sizeLine) (nodef : d.params.defaults = []) (noimp : PyProof.Rows.importsNone q = true) (room : Room k callerA)
    (kin : ∀ (w : World) (h : Heap), YP w h → (K w.params).In h)
    (F : ∀ (w : World) (mg : Str → Option Value) (fa : Addr) (h : Heap), (K w.params).In h → h.Ns mainGlobals mg → mg d.name = some (.ref fa) →
      ∃ fd : FuncData, (∀ (s : Shared) (u : Value), BindsTo s fd ⟨[u], []⟩ [(x, u)]) ∧
        ∀ base : Heap, (K w.params).In base → base.Ns mainGlobals mg → (∃ o, base.get? sysModules = some o) → FnG l.prog w (K w.params) mg base CX0 k fa fd [x] (sp (K w.params)))
    (hsp : ∀ (K : PySem.W.Frag) (H : Hp) (a : Addr) (ns : List Int), ns.length ≤ n → Only H → SqL K H a (ns.map V.int) → sp K [.ref a] H (fun v _ => v = .bl true) fun _ _ _ => False) :
    PySem.W.WalkO q loose XP YP l.row.toRowW d [] (fun f us => PySem.call f us) := by
  apply Att.attach_call most nodef
  intro w s0 s1 mg mb fa o pm cd doc a vs ns G Y ho hd hcd hmg hobj hints hlen hg
  obtain ⟨fd, bind, hF⟩ := F w mg fa _ (kin w _ Y) G.T.g hmg
  exact law_g (kin w _ Y) G.T.g G.T.b G.T.builtins G.T.nolimit (G.T.seer noimp) hg hobj hints (Nat.le_trans hlen small) room hF bind fun H h1 h2 => hsp _ H a ns hlen h1 h2
end LB

namespace LB
open PySem PySem.Spec PyProof.Rows L2
/-! ### True and False among the numbers -/
theorem neg_bl_gives (a : Bool) : Gives (Builtin.«int.__neg__» ⟨[.bool a], []⟩) (.int (-(if a = true then (1 : Int) else 0))) :=
  .of_wp fun M A E s Q h => by obtain ⟨hp, g, d, tk, os⟩ := s; cases a <;> (wp_walk; exact ⟨_, rfl, h⟩)
theorem neg_bl {prog : Program} {w : World} {A : Around} {E : Value → Shared → Prop} {s : Shared} {a : Bool} {Q : Value → Shared → Prop} (h : Q (.int (-(if a = true then (1 : Int) else 0)) s.toks) { s with toks := s.toks + 1 }) : wpAny (model prog w) A (unaryOp .USub (.bool a)) Q E s :=
  PySem.unaryOp_gives (op := .USub) (PySem.typeIs_bool s a) rfl F.slot_bool_neg F.entry_int_neg (F.args_int_neg_1 _) (neg_bl_gives a) h
abbrev bI (b : Bool) : Int := if b = true then 1 else 0
def rAddO (K : PySem.W.Frag) : R2 := fun x y H Q => rAddA K x y H Q ∨ ∃ b j, x = .bl b ∧ y = .int j ∧ Q (.int (bI b + j)) H
def rSubO : R2 := fun x y H Q => rSubI x y H Q ∨ ∃ b j, x = .bl b ∧ y = .int j ∧ Q (.int (bI b - j)) H
def rNegO : V → Hp → VK → Prop := fun x H Q => rNegI x H Q ∨ ∃ b, x = .bl b ∧ Q (.int (-(bI b))) H
def rStrO : List V → Hp → VK → Prop := fun xs H Q => rStrInt xs H Q ∨ ∃ b : Bool, xs = [.bl b] ∧ Q (.str (if b then "True" else "False")) H
def rEqO (K : PySem.W.Frag) : R2 := fun x y H Q => rEqA K x y H Q ∨ ∃ b j, x = .bl b ∧ y = .int j ∧ Q (.bl (bI b == j)) H
section
variable {X : Cx}
theorem op_addO : OpR X (binaryOp .Add) (rAddO X.K) := op_addA.or (by
  intro pins s σ H x y v u Q I rx ry h
  obtain ⟨b, j, rfl, rfl, q⟩ := h
  cases rx
  obtain ⟨t, rfl⟩ := ry
  exact IntBool.add_bool_int ⟨.int (bI b + j), H, I.tok _, ⟨_, rfl⟩, q⟩)
theorem op_subO : OpR X (binaryOp .Sub) rSubO := op_sub.or (by
  intro pins s σ H x y v u Q I rx ry h
  obtain ⟨b, j, rfl, rfl, q⟩ := h
  cases rx
  obtain ⟨t, rfl⟩ := ry
  exact IntBool.sub_bool_int ⟨.int (bI b - j), H, I.tok _, ⟨_, rfl⟩, q⟩)
theorem op_eqO (u : X.A.units + 65 < cLine) : OpR X (compareOp .Eq) (rEqO X.K) := (op_eqA u).or (by
  intro pins s σ H x y v u Q I rx ry h
  obtain ⟨b, j, rfl, rfl, q⟩ := h
  cases rx
  obtain ⟨t, rfl⟩ := ry
  exact EqBoolInt.eq_bool_int ⟨.bl (bI b == j), H, I, rfl, q⟩)
theorem un_negO : UnR X (unaryOp .USub) rNegO := by
  intro pins s σ H x v Q I rx h
  rcases h with h | ⟨b, rfl, q⟩
  · exact un_neg pins s σ H x v Q I rx h
  · cases rx
    exact neg_bl ⟨.int (-(bI b)), H, I.tok _, ⟨_, rfl⟩, q⟩
theorem call_strO : CallR X (.type "str") rStrO := by
  intro pins s σ H xs us Q I r h
  rcases h with h | ⟨b, rfl, q⟩
  · exact call_str_int pins s σ H xs us Q I r h
  · obtain ⟨u, rfl, r1⟩ := vals1 r
    cases r1
    exact PySem.P.str_of_bool ⟨.str _, H, I.tok _, ⟨_, rfl⟩, q⟩
theorem mt_popA : MtM X "list.pop" rPopA := mt_popAt
abbrev rExtendA : V → List V → Hp → VK → Prop := rExtend
theorem mt_extendA : MtM X "list.extend" rExtendA := mt_extend
end
/-! ### slices and sums of tuples; lists twice -/
abbrev NoS : Addr → Prop := fun _ => False
theorem Pot.keep {H H1 : Hp} {p : Addr} {n : Nat} (h : Pot H p n) (k : Keep NoS H H1) : Pot H1 p n := by
  obtain ⟨a, b, c, e, r⟩ := h
  exact ⟨a, b, c, k.all _ _ id e, r⟩
theorem Keep.of0 {S : Addr → Prop} {H H1 : Hp} (k : Keep NoS H H1) : Keep S H H1 := k.mono fun _ h => h.elim
def cutD (ds : List PyData) (lo hi : Option Int) : List PyData := (ds.drop (HT.sIx ds.length 0 lo)).take (HT.sIx ds.length ds.length hi - HT.sIx ds.length 0 lo)
theorem DDs.cut {S : Addr → Prop} {H : Hp} {xs : List V} {ds : List PyData} (h : DDs S H xs ds) (lo hi : Option Int) : DDs S H (cutV xs lo hi) (cutD ds lo hi) := by
  unfold cutV cutD
  rw [h.length]
  exact (h.drop _).take _
theorem cutV_full {xs : List V} {lo hi : Option Int} (h : HT.sIx xs.length 0 lo = 0 ∧ HT.sIx xs.length xs.length hi = xs.length) : cutV xs lo hi = xs := by
  unfold cutV
  rw [h.1, h.2, List.drop_zero, Nat.sub_zero, List.take_length]
theorem cutD_mem {ds : List PyData} {lo hi : Option Int} {d : PyData} (h : d ∈ cutD ds lo hi) : d ∈ ds := List.mem_of_mem_drop (List.mem_of_mem_take h)
section
variable {K : PySem.W.Frag} {H : Hp} {Q : VK}
theorem o_slt {a : Addr} {xs : List V} {lo hi : Option Int} (e : H a = some (.tup xs)) (h : ∀ p H1, Keep NoS H H1 → H1 p = some (.tup (cutV xs lo hi)) → Q (.ref p) H1) : rSlAny K (.ref a) lo hi H Q :=
  .inr (.inl ⟨a, xs, rfl, .inl (.inl e), fun w => h a H (Keep.refl _ _) (by rw [cutV_full w]; exact e), fun _ p hp => h p _ (Keep.new hp) upd_same⟩)
theorem o_catt {a b : Addr} {xs ys : List V} (e1 : H a = some (.tup xs)) (e2 : H b = some (.tup ys)) (e : xs.length + ys.length ≤ sizeLine) (h : ∀ p H1, Keep NoS H H1 → H1 p = some (.tup (xs ++ ys)) → Q (.ref p) H1) : rAddA K (.ref a) (.ref b) H Q :=
  .inr (.inr (.inr ⟨a, b, xs, ys, rfl, rfl, .inl (.inl e1), .inl (.inl e2), e, fun z => h b H (Keep.refl _ _) (by rw [z]; exact e2), fun _ z => h a H (Keep.refl _ _) (by rw [z, List.append_nil]; exact e1), fun _ _ p hp => h p _ (Keep.new hp) upd_same⟩))
theorem o_rep2 {a : Addr} {xs : List V} (e : H a = some (.lst xs)) (z : xs.length * 2 ≤ sizeLine) (h : ∀ p H1, New H H1 p (.lst (xs ++ xs)) → Q (.ref p) H1) : rMulA K (.ref a) (.int 2) H Q :=
  .inr (.inr (.inl ⟨a, 2, xs, rfl, rfl, e, by decide, by decide, z, fun p hp => h p _ (by
    have : (List.replicate (2 : Int).toNat xs).flatten = xs ++ xs := by
      show (List.replicate 2 xs).flatten = _
      simp [List.replicate]
    rw [this]
    exact .mk' hp)⟩))
theorem o_extend {a b : Addr} {xs ys : List V} (e1 : H a = some (.lst xs)) (e2 : H b = some (.lst ys)) (e : xs.length + ys.length ≤ sizeLine) (h : ∀ H1, Put H H1 a (.lst (xs ++ ys)) → Q .non H1) : rExtendA (.ref a) [.ref b] H Q := ⟨a, b, xs, ys, rfl, rfl, e1, e2, e, h _ .mk'⟩
theorem o_sls {z : Str} {lo hi : Option Int} (e : z.length ≤ sizeLine) (h : Q (.str (cutS z lo hi)) H) : rSlAny K (.str z) lo hi H Q := .inr (.inr ⟨z, rfl, e, h⟩)
theorem w_dnew {σ : LB.St} (h : ∀ p H1, New H H1 p (.dK []) → Q (.ref p) H1) : tDNewK σ H Q := fun p hp => h p _ (.mk' hp)
theorem w_m0 {σ : LB.St} {r : V → List V → Hp → VK → Prop} {to : TE} (h : to σ H fun x H1 => (∃ a, x = .str a) ∧ r x [] H1 Q) : tM0 r to σ H Q := h
theorem oo_add {x y : V} (h : rAddA K x y H Q) : rAddO K x y H Q := .inl h
theorem oo_addb {b : Bool} {j : Int} (h : Q (.int (bI b + j)) H) : rAddO K (.bl b) (.int j) H Q := .inr ⟨b, j, rfl, rfl, h⟩
theorem oo_sub {i j : Int} (h : Q (.int (i - j)) H) : rSubO (.int i) (.int j) H Q := .inl ⟨i, j, rfl, rfl, h⟩
theorem oo_subb {b : Bool} {j : Int} (h : Q (.int (bI b - j)) H) : rSubO (.bl b) (.int j) H Q := .inr ⟨b, j, rfl, rfl, h⟩
theorem oo_neg {i : Int} (h : Q (.int (-i)) H) : rNegO (.int i) H Q := .inl ⟨i, rfl, h⟩
theorem oo_negb {b : Bool} (h : Q (.int (-(bI b))) H) : rNegO (.bl b) H Q := .inr ⟨b, rfl, h⟩
theorem oo_str {i : Int} (e : i.natAbs.log2 < 1920) (h : Q (.str (toString i)) H) : rStrO [.int i] H Q := .inl ⟨i, rfl, e, h⟩
theorem oo_strb {b : Bool} (h : Q (.str (if b then "True" else "False")) H) : rStrO [.bl b] H Q := .inr ⟨b, rfl, h⟩
theorem oo_eq {i j : Int} (h : Q (.bl (decide (V.int i = V.int j))) H) : rEqO K (.int i) (.int j) H Q := .inl (o_eqs rfl h)
theorem oo_eqb {b : Bool} {j : Int} (h : Q (.bl (bI b == j)) H) : rEqO K (.bl b) (.int j) H Q := .inr ⟨b, j, rfl, rfl, h⟩
end
end LB

open PySem PySem.Spec PyProof.Rows L2 LB
/-! the tactic: one step of a reading; many -/
local macro_rules | `(tactic| walk_at "w1_4") => `(tactic| first
  | with_reducible refine w_seq ?_ | with_reducible refine w_asg ?_ | with_reducible refine w_drop ?_ | with_reducible refine w_ret ?_ | with_reducible refine w_next ?_
  | with_reducible refine w_ifs ?_ | with_reducible refine w_forR1 ?_ | with_reducible refine w_forR2 ?_ | with_reducible refine w_forL ?_ | with_reducible refine w_forT ?_ | with_reducible refine w_name ?_ | with_reducible refine w_sub ?_ | with_reducible refine w_par ?_
  | with_reducible refine w_var (by with_unfolding_all rfl) ?_ | with_reducible refine w_c ?_ | with_reducible refine w_op ?_ | with_reducible refine w_un ?_
  | with_reducible refine w_test ?_ | with_reducible refine w_tb ?_ | with_reducible refine w_nil ?_ | with_reducible refine w_cons ?_ | with_reducible refine w_cb ?_ | with_reducible refine w_call ?_
  | with_reducible refine w_not ?_ | with_reducible refine w_and ?_ | with_reducible refine w_or ?_ | with_reducible refine w_andV ?_ | with_reducible refine w_orV ?_ | with_reducible refine w_notV ?_
  | with_reducible refine w_ife ?_ | with_reducible refine w_chain ?_ | with_reducible refine w_bm ?_ | with_reducible refine w_sl ?_ | with_reducible refine w_part ?_ | with_reducible refine w_nopart ?_
  | with_reducible refine w_exb ?_ | with_reducible refine w_exi ?_ | with_reducible refine w_ex2 ?_ | with_reducible refine w_ex3 ?_ | with_reducible refine w_lstrg ?_ | with_reducible refine w_rg2 ?_ | with_reducible refine w_rg1 ?_ | with_reducible refine w_exij ?_ | with_reducible refine w_tup ?_ | with_reducible refine w_lst ?_
  | with_reducible refine o_add ?_ | with_reducible refine o_sub ?_ | with_reducible refine o_neg ?_ | with_reducible refine o_lt ?_ | with_reducible refine o_le ?_ | with_reducible refine o_gt ?_ | with_reducible refine o_ge ?_
  | with_reducible refine o_ixL (by assumption) (by decide) (by with_unfolding_all rfl) ?_ | with_reducible refine o_ixT (by assumption) (by decide) (by with_unfolding_all rfl) ?_
  | with_reducible refine o_mod (by first | decide | omega) ?_ | with_reducible refine o_mul (by first | decide | omega) ?_ | with_reducible refine o_fdv (by first | decide | omega) (by first | decide | omega) ?_ | with_reducible refine o_setL (by assumption) (by decide) (by simp) ?_
  | with_reducible refine oo_addi ?_ | with_reducible refine oo_sub ?_ | with_reducible refine oo_neg ?_ | with_reducible refine w_rev ?_ | with_reducible refine w_m0 ?_
  | with_reducible refine w_par3 ?_ | with_reducible refine w_tyl (by assumption) ?_
  | with_reducible refine o_abs ?_ | with_reducible refine o_eqs (by with_unfolding_all rfl) ?_ | with_reducible refine o_nes (by with_unfolding_all rfl) ?_ | with_reducible refine o_max2 ?_ | with_reducible refine o_min2 ?_ | with_reducible refine o_isiX (by assumption) ?_ | with_reducible refine o_lenl (by assumption) ?_ | with_reducible refine o_lent (by assumption) ?_ | with_reducible refine o_int1b ?_)
local macro_rules | `(tactic| walk_at "ws_4") => `(tactic| repeat (first | walk_at "w1_4" | dsimp only [List.set_cons_zero, List.set_cons_succ]))
namespace LB
/-! ### kinds -/
def isIntD : PyData → Bool
  | .int _ => true
  | _ => false
def within : PyData → Int → Int → Bool
  | .int i, lo, hi => decide (lo ≤ i) && decide (i ≤ hi)
  | _, _, _ => false
def leD : PyData → PyData → Bool
  | .int i, .int j => decide (i ≤ j)
  | _, _ => false
def fitsD (k v : PyData) : Bool := if eqStr k "write" = true then within v 1 1000000000 else eqStr k "read" && within v 0 1000000000
def stampD (v : PyData) : Bool := within v (-1000000000000000) 1000000000000000
def stampsD (b e : PyData) : Bool := stampD b && (stampD e && leD b e)
/-- an operation -/
def isOpD : PyData → Bool
  | .tuple [k, v, b, e] => fitsD k v && stampsD b e
  | _ => false
theorem isT_int (d : PyData) : isT "int" d = (match d with | .int _ => true | .bool _ => true | _ => false) := by cases d <;> (show isTs _ _ = _; simp only [tyN]; decide +kernel)
theorem isT_bool (d : PyData) : isT "bool" d = (match d with | .bool _ => true | _ => false) := by cases d <;> (show isTs _ _ = _; simp only [tyN]; decide +kernel)
theorem isT_str (d : PyData) : isT "str" d = (match d with | .str _ => true | _ => false) := by cases d <;> (show isTs _ _ = _; simp only [tyN]; decide +kernel)
theorem isT_tuple (d : PyData) : isT "tuple" d = (match d with | .tuple _ => true | _ => false) := by cases d <;> (show isTs _ _ = _; simp only [tyN]; decide +kernel)
theorem DD.tupX {S : Addr → Prop} {H : Hp} {x : V} {ds : List PyData} (h : DD S H x (.tuple ds)) : ∃ a xs, x = .ref a ∧ H a = some (.tup xs) ∧ DDs S H xs ds := by
  cases h with
  | tup e r => exact ⟨_, _, rfl, e, r⟩
theorem DD.intX {S : Addr → Prop} {H : Hp} {x : V} {i : Int} (h : DD S H x (.int i)) : x = .int i := by cases h; rfl
theorem DD.strX {S : Addr → Prop} {H : Hp} {x : V} {i : Str} (h : DD S H x (.str i)) : x = .str i := by cases h; rfl
theorem DDs.four {S : Addr → Prop} {H : Hp} {xs : List V} {a b c d : PyData} (h : DDs S H xs [a, b, c, d]) : ∃ x y z w, xs = [x, y, z, w] ∧ DD S H x a ∧ DD S H y b ∧ DD S H z c ∧ DD S H w d := by
  cases h with
  | cons h1 h =>
    cases h with
    | cons h2 h =>
      cases h with
      | cons h3 h =>
        cases h with
        | cons h4 h =>
          cases h
          exact ⟨_, _, _, _, rfl, h1, h2, h3, h4⟩
theorem len4 {ds : List PyData} (h : ds.length = 4) : ∃ a b c d, ds = [a, b, c, d] := by
  match ds, h with
  | [a, b, c, d], _ => exact ⟨a, b, c, d, rfl⟩
def spIsInt : Sp := fun vs H Q _ => ∃ (x : V) (d : PyData) (S : Addr → Prop), vs = [x] ∧ DD S H x d ∧ Q (.bl (isIntD d)) H
theorem spIsInt_arity {vs : List V} {H : Hp} {Q : VK} {E : XK} (h : spIsInt vs H Q E) : vs.length = 1 := by obtain ⟨_, _, _, rfl, _⟩ := h; rfl
def spWithin : Sp := fun vs H Q _ => ∃ (x : V) (d : PyData) (S : Addr → Prop) (lo hi : Int), vs = [x, .int lo, .int hi] ∧ DD S H x d ∧ Q (.bl (within d lo hi)) H
theorem spWithin_arity {vs : List V} {H : Hp} {Q : VK} {E : XK} (h : spWithin vs H Q E) : vs.length = 3 := by obtain ⟨_, _, _, _, _, rfl, _⟩ := h; rfl
def spStamp : Sp := fun vs H Q _ => ∃ (x : V) (d : PyData) (S : Addr → Prop), vs = [x] ∧ DD S H x d ∧ Q (.bl (stampD d)) H
theorem spStamp_arity {vs : List V} {H : Hp} {Q : VK} {E : XK} (h : spStamp vs H Q E) : vs.length = 1 := by obtain ⟨_, _, _, rfl, _⟩ := h; rfl
def spStamps : Sp := fun vs H Q _ => ∃ (x y : V) (d e : PyData) (S : Addr → Prop), vs = [x, y] ∧ DD S H x d ∧ DD S H y e ∧ Q (.bl (stampsD d e)) H
theorem spStamps_arity {vs : List V} {H : Hp} {Q : VK} {E : XK} (h : spStamps vs H Q E) : vs.length = 2 := by obtain ⟨_, _, _, _, _, rfl, _⟩ := h; rfl
def spFits : Sp := fun vs H Q _ => ∃ (x y : V) (d e : PyData) (S : Addr → Prop), vs = [x, y] ∧ DD S H x d ∧ DD S H y e ∧ Q (.bl (fitsD d e)) H
theorem spFits_arity {vs : List V} {H : Hp} {Q : VK} {E : XK} (h : spFits vs H Q E) : vs.length = 2 := by obtain ⟨_, _, _, _, _, rfl, _⟩ := h; rfl
def spIsOp : Sp := fun vs H Q _ => ∃ (x : V) (d : PyData) (S : Addr → Prop), vs = [x] ∧ DD S H x d ∧ Q (.bl (isOpD d)) H
theorem spIsOp_arity {vs : List V} {H : Hp} {Q : VK} {E : XK} (h : spIsOp vs H Q E) : vs.length = 1 := by obtain ⟨_, _, _, rfl, _⟩ := h; rfl
abbrev spIsNum : Sp := spWithin
theorem spIsNum_arity {vs : List V} {H : Hp} {Q : VK} {E : XK} (h : spIsNum vs H Q E) : vs.length = 3 := spWithin_arity h
def spIsCall : Sp := fun vs H Q _ => ∃ (x : V) (d : PyData) (S : Addr → Prop), vs = [x] ∧ DD S H x d ∧ ∀ H1, Keep NoS H H1 → Q (.bl (isOpD d)) H1
theorem spIsCall_arity {vs : List V} {H : Hp} {Q : VK} {E : XK} (h : spIsCall vs H Q E) : vs.length = 1 := by obtain ⟨_, _, _, rfl, _⟩ := h; rfl

def t_is_integer (K : PySem.W.Frag) : TS :=
  (tRet (tAndV (tCB (rIsi K) (tCons (tVar 0) (tCons (tC (V.ty "int")) tNil))) (tNotV (tCB (rIsi K) (tCons (tVar 0) (tCons (tC (V.ty "bool")) tNil))))))

def t_is_integer_within (K : PySem.W.Frag) : TS :=
  (tRet (tAndV (tCall spIsInt [] E0 (tCons (tVar 0) tNil)) (tChain rLeI rLeI (tVar 1) (tVar 0) (tVar 2))))

def t__is_stamp (K : PySem.W.Frag) : TS :=
  (tRet (tCall spWithin [] E0 (tCons (tVar 0) (tCons (tUn rNegI (tC (V.int 1000000000000000))) (tCons (tC (V.int 1000000000000000)) tNil)))))

def t__are_stamps (K : PySem.W.Frag) : TS :=
  (tRet (tAndV (tCall spStamp [] E0 (tCons (tVar 0) tNil)) (tAndV (tCall spStamp [] E0 (tCons (tVar 1) tNil)) (tOp rLeI (tVar 0) (tVar 1)))))

def t__fits_kind (K : PySem.W.Frag) : TS :=
  (tSeq (tIfS (tTest (tOp (rEqA K) (tVar 0) (tC (V.str "write"))))
    (tRet (tCall spWithin [] E0 (tCons (tVar 1) (tCons (tC (V.int 1)) (tCons (tC (V.int 1000000000)) tNil))))) tNext)
    (tRet (tAndV (tOp (rEqA K) (tVar 0) (tC (V.str "read"))) (tCall spWithin [] E0 (tCons (tVar 1) (tCons (tC (V.int 0)) (tCons (tC (V.int 1000000000)) tNil)))))))

def t_is_operation (K : PySem.W.Frag) : TS :=
  (tSeq (tIfS (tOr (tNot (tB (tCB (rIsi K) (tCons (tVar 0) (tCons (tC (V.ty "tuple")) tNil))))) (tTest (tOp (rNeA K) (tCB (rLen K) (tCons (tVar 0) tNil)) (tC (V.int 4)))))
    (tRet (tC (V.bl false))) tNext)
    (tSeq (tAsg (tVar 0) (gTup K 4 (gCons (gName 1) (gCons (gName 2) (gCons (gName 3) (gCons (gName 4) gNil))))))
    (tRet (tAndV (tCall spFits [] E0 (tCons (tVar 1) (tCons (tVar 2) tNil))) (tCall spStamps [] E0 (tCons (tVar 3) (tCons (tVar 4) tNil)))))))

def t__law_is_number (K : PySem.W.Frag) : TS :=
  (tRet (tAndV (tCB (rIsi K) (tCons (tVar 0) (tCons (tC (V.ty "int")) tNil))) (tAndV (tNotV (tCB (rIsi K) (tCons (tVar 0) (tCons (tC (V.ty "bool")) tNil)))) (tChain rLeI rLeI (tVar 1) (tVar 0) (tVar 2)))))

def t__law_is_call (K : PySem.W.Frag) : TS :=
  (tSeq (tIfS (tOr (tNot (tB (tCB (rIsi K) (tCons (tVar 0) (tCons (tC (V.ty "tuple")) tNil))))) (tOr (tTest (tOp (rNeA K) (tCB (rLen K) (tCons (tVar 0) tNil)) (tC (V.int 4)))) (tNot (tB (tCB (rIsi K) (tCons (tOp (rIx K) (tVar 0) (tC (V.int 0))) (tCons (tC (V.ty "str")) tNil)))))))
    (tRet (tC (V.bl false))) tNext)
    (tSeq (tIfS (tOr (tTest (tOp (rNiA K) (tOp (rIx K) (tVar 0) (tC (V.int 0))) (tTup (tCons (tC (V.str "read")) (tCons (tC (V.str "write")) tNil))))) (tNot (tB (tCall spIsNum [] E0 (tCons (tOp (rIx K) (tVar 0) (tC (V.int 1))) (tCons (tCB rInt1 (tCons (tOp (rEqA K) (tOp (rIx K) (tVar 0) (tC (V.int 0))) (tC (V.str "write"))) tNil)) (tCons (tOp rPowI (tC (V.int 10)) (tC (V.int 9))) tNil)))))))
    (tRet (tC (V.bl false))) tNext)
    (tSeq (tIfS (tOr (tNot (tB (tCall spIsNum [] E0 (tCons (tOp (rIx K) (tVar 0) (tC (V.int 2))) (tCons (tUn rNegI (tOp rPowI (tC (V.int 10)) (tC (V.int 15)))) (tCons (tOp rPowI (tC (V.int 10)) (tC (V.int 15))) tNil)))))) (tNot (tB (tCall spIsNum [] E0 (tCons (tOp (rIx K) (tVar 0) (tC (V.int 3))) (tCons (tUn rNegI (tOp rPowI (tC (V.int 10)) (tC (V.int 15)))) (tCons (tOp rPowI (tC (V.int 10)) (tC (V.int 15))) tNil)))))))
    (tRet (tC (V.bl false))) tNext)
    (tRet (tOp rLeI (tOp (rIx K) (tVar 0) (tC (V.int 2))) (tOp (rIx K) (tVar 0) (tC (V.int 3))))))))

theorem pure_is_integer {K : PySem.W.Frag} {vs : List V} {H : Hp} {Q : VK} {E : XK} (h : spIsInt vs H Q E) : t_is_integer K { nx := fun _ H' => Q .non H', rt := Q } (start ["value"] vs) H := by
  obtain ⟨x, d, S, rfl, hd, q⟩ := h
  show t_is_integer K _ [some x] H
  unfold t_is_integer
  walk_at "ws_4"
  rw [isT_int]
  refine w_iteb (fun c => ?_) (fun c => ?_)
  · walk_at "ws_4"
    rw [isT_bool]
    cases d <;> first | (cases c; done) | exact q
  · cases d <;> first | (cases c; done) | exact q
theorem pure__law_is_number {K : PySem.W.Frag} {vs : List V} {H : Hp} {Q : VK} {E : XK} (h : spIsNum vs H Q E) : t__law_is_number K { nx := fun _ H' => Q .non H', rt := Q } (start ["thing", "least", "most"] vs) H := by
  obtain ⟨x, d, S, lo, hi, rfl, hd, q⟩ := h
  show t__law_is_number K _ [some x, some (.int lo), some (.int hi)] H
  unfold t__law_is_number
  walk_at "ws_4"
  rw [isT_int]
  refine w_iteb (fun c => ?_) (fun c => ?_)
  · walk_at "ws_4"
    rw [isT_bool]
    cases d with
    | int i =>
      have := hd.intX
      subst this
      refine w_iteT rfl ?_
      walk_at "ws_4"
      refine w_iteb (fun c1 => ?_) (fun c1 => ?_)
      · walk_at "ws_4"
        simp only [within, c1, Bool.true_and] at q
        exact q
      · simp only [within, c1, Bool.false_and] at q
        exact q
    | bool b => exact q
    | _ => cases c
  · cases d <;> first | (cases c; done) | exact q
theorem pure_is_integer_within {K : PySem.W.Frag} {vs : List V} {H : Hp} {Q : VK} {E : XK} (h : spWithin vs H Q E) : t_is_integer_within K { nx := fun _ H' => Q .non H', rt := Q } (start ["value", "least", "greatest"] vs) H := by
  obtain ⟨x, d, S, lo, hi, rfl, hd, q⟩ := h
  show t_is_integer_within K _ [some x, some (.int lo), some (.int hi)] H
  unfold t_is_integer_within
  walk_at "ws_4"
  refine ⟨x, d, S, rfl, hd, ?_⟩
  walk_at "ws_4"
  cases d with
  | int i =>
    have := hd.intX
    subst this
    refine w_iteT rfl ?_
    walk_at "ws_4"
    refine w_iteb (fun c1 => ?_) (fun c1 => ?_)
    · walk_at "ws_4"
      simp only [within, c1, Bool.true_and] at q
      exact q
    · simp only [within, c1, Bool.false_and] at q
      exact q
  | _ => exact q
theorem pure__is_stamp {K : PySem.W.Frag} {vs : List V} {H : Hp} {Q : VK} {E : XK} (h : spStamp vs H Q E) : t__is_stamp K { nx := fun _ H' => Q .non H', rt := Q } (start ["value"] vs) H := by
  obtain ⟨x, d, S, rfl, hd, q⟩ := h
  show t__is_stamp K _ [some x] H
  unfold t__is_stamp
  walk_at "ws_4"
  exact ⟨x, d, S, _, _, rfl, hd, q⟩
theorem within_int {d : PyData} {lo hi : Int} (h : within d lo hi = true) : ∃ i, d = .int i := by
  cases d <;> first | exact ⟨_, rfl⟩ | (simp only [within] at h; cases h)
theorem pure__are_stamps {K : PySem.W.Frag} {vs : List V} {H : Hp} {Q : VK} {E : XK} (h : spStamps vs H Q E) : t__are_stamps K { nx := fun _ H' => Q .non H', rt := Q } (start ["begin", "end"] vs) H := by
  obtain ⟨x, y, d, e, S, rfl, hd, he, q⟩ := h
  show t__are_stamps K _ [some x, some y] H
  unfold t__are_stamps
  walk_at "ws_4"
  refine ⟨x, d, S, rfl, hd, ?_⟩
  walk_at "ws_4"
  refine w_iteb (fun c1 => ?_) (fun c1 => ?_)
  · walk_at "ws_4"
    refine ⟨y, e, S, rfl, he, ?_⟩
    walk_at "ws_4"
    refine w_iteb (fun c2 => ?_) (fun c2 => ?_)
    · obtain ⟨i, rfl⟩ := within_int c1
      obtain ⟨j, rfl⟩ := within_int c2
      have := hd.intX
      subst this
      have := he.intX
      subst this
      walk_at "ws_4"
      simp only [stampsD, c1, c2, Bool.true_and] at q
      exact q
    · simp only [stampsD, c1, c2, Bool.true_and, Bool.false_and] at q
      exact q
  · simp only [stampsD, c1, Bool.false_and] at q
    exact q
theorem o_eqx {K : PySem.W.Frag} {S : Addr → Prop} {H : Hp} {Q : VK} {x : V} {d : PyData} {z : Str} (h : DD S H x d) (q : Q (.bl (eqStr d z)) H) : rEqA K x (.str z) H Q := .inr (.inl ⟨d, S, z, h, rfl, q⟩)
theorem pure__fits_kind {K : PySem.W.Frag} {vs : List V} {H : Hp} {Q : VK} {E : XK} (h : spFits vs H Q E) : t__fits_kind K { nx := fun _ H' => Q .non H', rt := Q } (start ["kind", "held"] vs) H := by
  obtain ⟨x, y, d, e, S, rfl, hd, he, q⟩ := h
  show t__fits_kind K _ [some x, some y] H
  unfold t__fits_kind
  walk_at "ws_4"
  refine o_eqx hd ?_
  walk_at "ws_4"
  refine w_iteb (fun c1 => ?_) (fun c1 => ?_)
  · walk_at "ws_4"
    refine ⟨y, e, S, _, _, rfl, he, ?_⟩
    simp only [fitsD, c1, if_true] at q
    exact q
  · walk_at "ws_4"
    refine o_eqx hd ?_
    walk_at "ws_4"
    refine w_iteb (fun c2 => ?_) (fun c2 => ?_)
    · walk_at "ws_4"
      refine ⟨y, e, S, _, _, rfl, he, ?_⟩
      simp only [fitsD, c1, c2, Bool.false_eq_true, if_false, Bool.true_and] at q
      exact q
    · simp only [fitsD, c1, c2, Bool.false_eq_true, if_false, Bool.false_and] at q
      exact q
theorem pure_is_operation {K : PySem.W.Frag} {vs : List V} {H : Hp} {Q : VK} {E : XK} (h : spIsOp vs H Q E) : t_is_operation K { nx := fun _ H' => Q .non H', rt := Q } (start ["value", "kind", "held", "begin", "end"] vs) H := by
  obtain ⟨x, d, S, rfl, hd, q⟩ := h
  show t_is_operation K _ [some x, none, none, none, none] H
  unfold t_is_operation
  walk_at "ws_4"
  rw [isT_tuple]
  cases d with
  | tuple ds =>
    refine w_iteF rfl ?_
    obtain ⟨a, xs, rfl, ha, hx⟩ := hd.tupX
    have hl := hx.length
    walk_at "ws_4"
    by_cases h4 : ds.length = 4
    · refine w_iteF (by rw [hl, h4]; rfl) ?_
      obtain ⟨k, v, b, e, rfl⟩ := len4 h4
      obtain ⟨x1, x2, x3, x4, rfl, d1, d2, d3, d4⟩ := hx.four
      walk_at "ws_4"
      refine ⟨a, [x1, x2, x3, x4], rfl, .inl (.inl ha), rfl, x1, _, rfl, x2, _, rfl, x3, _, rfl, x4, _, rfl, rfl, ?_⟩
      show _
      walk_at "ws_4"
      refine ⟨x1, x2, k, v, S, rfl, d1, d2, ?_⟩
      walk_at "ws_4"
      refine w_iteb (fun c1 => ?_) (fun c1 => ?_)
      · walk_at "ws_4"
        refine ⟨x3, x4, b, e, S, rfl, d3, d4, ?_⟩
        simp only [isOpD, c1, Bool.true_and] at q
        exact q
      · simp only [isOpD, c1, Bool.false_and] at q
        exact q
    · refine w_iteT (by rw [hl]; simp; omega) ?_
      walk_at "ws_4"
      have : isOpD (.tuple ds) = false := by
        unfold isOpD
        split
        · rename_i e
          injection e with e
          subst e
          exact absurd rfl h4
        · rfl
      rw [this] at q
      exact q
  | _ => exact q
theorem inV_rw {z : Str} : inV (.str z) [V.str "read", V.str "write"] = (decide (z = "read") || decide (z = "write")) := by
  unfold inV
  rw [List.any_cons, List.any_cons, List.any_nil, Bool.or_false]
  have e : ∀ a b : Str, eqV (.str a) (.str b) = decide (b = a) := fun a b => by
    unfold eqV
    first
      | exact decide_eq_decide.mpr ⟨Eq.symm, Eq.symm⟩
      | (by_cases h : a = b
         · subst h; simp
         · have : b ≠ a := fun z => h z.symm
           simp [h, this])
  rw [e, e]
theorem pure__law_is_call {K : PySem.W.Frag} {vs : List V} {H : Hp} {Q : VK} {E : XK} (h : spIsCall vs H Q E) : t__law_is_call K { nx := fun _ H' => Q .non H', rt := Q } (start ["thing"] vs) H := by
  obtain ⟨x, d, S, rfl, hd, q⟩ := h
  show t__law_is_call K _ [some x] H
  unfold t__law_is_call
  walk_at "ws_4"
  rw [isT_tuple]
  have q0 := q H (Keep.refl _ _)
  cases d with
  | tuple ds =>
    refine w_iteF rfl ?_
    obtain ⟨a, xs, rfl, ha, hx⟩ := hd.tupX
    have hl := hx.length
    walk_at "ws_4"
    by_cases h4 : ds.length = 4
    · refine w_iteF (by rw [hl, h4]; rfl) ?_
      obtain ⟨k, v, b, e, rfl⟩ := len4 h4
      obtain ⟨x1, x2, x3, x4, rfl, d1, d2, d3, d4⟩ := hx.four
      walk_at "ws_4"
      rw [isT_str]
      cases k with
      | str z =>
        have := d1.strX
        subst this
        refine w_iteF rfl ?_
        walk_at "ws_4"
        refine k_tup (by simp; decide) fun t H1 n1 => ?_
        have ha1 := n1.get ha
        have d2 := d2.keep (n1.keep)
        have d3 := d3.keep (n1.keep)
        have d4 := d4.keep (n1.keep)
        have q1 := q H1 n1.keep
        refine .inl ⟨t, _, rfl, .inr (.inl (.inl n1.at_)), rfl, rfl, ?_⟩
        rw [if_pos rfl]
        walk_at "ws_4"
        rw [inV_rw]
        refine w_iteb (fun c1 => ?_) (fun c1 => ?_)
        · walk_at "ws_4"
          have : isOpD (.tuple [.str z, v, b, e]) = false := by
            simp only [isOpD, fitsD, eqStr]
            simp at c1
            simp [c1.1, c1.2]
          rw [this] at q1
          exact q1
        · simp only [Bool.not_eq_false'] at c1
          walk_at "ws_4"
          refine o_pow ⟨by decide, by decide +kernel⟩ ?_
          walk_at "ws_4"
          rw [show (10 : Int) ^ (9 : Int).toNat = 1000000000 by decide +kernel]
          refine ⟨x2, v, S, _, _, rfl, d2, ?_⟩
          have e1 : fitsD (.str z) v = within v (if decide (V.str z = V.str "write") = true then 1 else 0) 1000000000 := by
            have e0 : decide (V.str z = V.str "write") = decide (z = "write") := by simp
            rw [e0]
            simp only [fitsD, eqStr]
            by_cases hz : z = "write"
            · subst hz
              rfl
            · simp only [hz, decide_false, Bool.false_eq_true, if_false]
              simp only [hz, decide_false, Bool.or_false] at c1
              rw [c1, Bool.true_and]
          rw [← e1]
          walk_at "ws_4"
          refine w_iteb (fun c2 => ?_) (fun c2 => ?_)
          · walk_at "ws_4"
            have : isOpD (.tuple [.str z, v, b, e]) = false := by
              simp only [Bool.not_eq_true'] at c2
              simp only [isOpD, c2, Bool.false_and]
            rw [this] at q1
            exact q1
          · simp only [Bool.not_eq_false'] at c2
            have ev : isOpD (.tuple [.str z, v, b, e]) = stampsD b e := by simp only [isOpD, c2, Bool.true_and]
            rw [ev] at q1
            walk_at "ws_4"
            refine o_pow ⟨by decide, by decide +kernel⟩ ?_
            walk_at "ws_4"
            rw [show (10 : Int) ^ (15 : Int).toNat = 1000000000000000 by decide +kernel]
            refine o_pow ⟨by decide, by decide +kernel⟩ ?_
            walk_at "ws_4"
            rw [show (10 : Int) ^ (15 : Int).toNat = 1000000000000000 by decide +kernel]
            refine ⟨x3, b, S, _, _, rfl, d3, ?_⟩
            walk_at "ws_4"
            refine w_iteb (fun c3 => ?_) (fun c3 => ?_)
            · walk_at "ws_4"
              simp only [Bool.not_eq_true'] at c3
              simp only [stampsD, stampD, c3, Bool.false_and] at q1
              exact q1
            · simp only [Bool.not_eq_false'] at c3
              walk_at "ws_4"
              refine o_pow ⟨by decide, by decide +kernel⟩ ?_
              walk_at "ws_4"
              rw [show (10 : Int) ^ (15 : Int).toNat = 1000000000000000 by decide +kernel]
              refine o_pow ⟨by decide, by decide +kernel⟩ ?_
              walk_at "ws_4"
              rw [show (10 : Int) ^ (15 : Int).toNat = 1000000000000000 by decide +kernel]
              refine ⟨x4, e, S, _, _, rfl, d4, ?_⟩
              walk_at "ws_4"
              refine w_iteb (fun c4 => ?_) (fun c4 => ?_)
              · walk_at "ws_4"
                simp only [Bool.not_eq_true'] at c4
                simp only [stampsD, stampD, c3, c4, Bool.false_and, Bool.and_false] at q1
                exact q1
              · simp only [Bool.not_eq_false'] at c4
                obtain ⟨i, rfl⟩ := within_int c3
                obtain ⟨j, rfl⟩ := within_int c4
                have := d3.intX
                subst this
                have := d4.intX
                subst this
                walk_at "ws_4"
                simp only [stampsD, stampD, c3, c4, Bool.true_and] at q1
                exact q1
      | _ => exact q0
    · refine w_iteT (by rw [hl]; simp; omega) ?_
      walk_at "ws_4"
      have : isOpD (.tuple ds) = false := by
        unfold isOpD
        split
        · rename_i e
          injection e with e
          subst e
          exact absurd rfl h4
        · rfl
      rw [this] at q0
      exact q0
  | _ => exact q0
end LB

namespace LB
open PySem PySem.Spec PyProof.Rows L2
/-! ### data that repr shows: how big -/
mutual
def okD (n : Nat) : PyData → Prop
  | .none => True
  | .bool _ => True
  | .int i => i.natAbs ≤ 10 ^ 30 + n
  | .str x => ∀ c ∈ x.cps.toList, c < 128
  | .list xs => okAll n xs
  | .tuple xs => okAll n xs
  | .dict kvs => kvs = []
def okAll (n : Nat) : List PyData → Prop
  | [] => True
  | x :: xs => okD n x ∧ okAll n xs
end
theorem okAll_iff {n : Nat} : ∀ {xs : List PyData}, okAll n xs ↔ ∀ d ∈ xs, okD n d
  | [] => by simp [okAll]
  | x :: xs => by simp [okAll, okAll_iff (xs := xs)]
mutual
theorem okD_mono {n m : Nat} (h : n ≤ m) : ∀ {d : PyData}, okD n d → okD m d
  | .none, _ => by simp only [okD]
  | .bool _, _ => by simp only [okD]
  | .int i, e => by simp only [okD] at e ⊢; omega
  | .str x, e => by simp only [okD] at e ⊢; exact e
  | .list xs, e => by simp only [okD] at e ⊢; exact okAll_mono h e
  | .tuple xs, e => by simp only [okD] at e ⊢; exact okAll_mono h e
  | .dict _, e => by simp only [okD] at e ⊢; exact e
theorem okAll_mono {n m : Nat} (h : n ≤ m) : ∀ {xs : List PyData}, okAll n xs → okAll m xs
  | [], _ => by simp only [okAll]
  | x :: xs, e => by simp only [okAll] at e ⊢; exact ⟨okD_mono h e.1, okAll_mono h e.2⟩
end
theorem wAll_append : ∀ {xs ys : List PyData}, PyData.weightAll (xs ++ ys) = PyData.weightAll xs + PyData.weightAll ys
  | [], ys => by simp [PyData.weightAll]
  | x :: xs, ys => by simp only [List.cons_append, PyData.weightAll, wAll_append (xs := xs)]; omega
theorem wAll_take {xs : List PyData} {k : Nat} : PyData.weightAll (xs.take k) + PyData.weightAll (xs.drop k) = PyData.weightAll xs := by
  rw [← wAll_append, List.take_append_drop]
theorem wAll_rev : ∀ {xs : List PyData}, PyData.weightAll xs.reverse = PyData.weightAll xs
  | [] => rfl
  | x :: xs => by rw [List.reverse_cons, wAll_append, wAll_rev (xs := xs)]; simp only [PyData.weightAll]; omega
theorem wAll_cut {xs : List PyData} {lo hi : Option Int} : PyData.weightAll (cutD xs lo hi) ≤ PyData.weightAll xs := by
  unfold cutD
  have h1 := wAll_take (xs := xs.drop (HT.sIx xs.length 0 lo)) (k := HT.sIx xs.length xs.length hi - HT.sIx xs.length 0 lo)
  have h2 := wAll_take (xs := xs) (k := HT.sIx xs.length 0 lo)
  omega
theorem wAll_len : ∀ {xs : List PyData}, xs.length ≤ PyData.weightAll xs
  | [] => by simp
  | x :: xs => by simp only [List.length_cons, PyData.weightAll]; have := wAll_len (xs := xs); omega
theorem wAll_mem : ∀ {xs : List PyData} {d : PyData}, d ∈ xs → d.weight + 1 ≤ PyData.weightAll xs
  | x :: xs, d, h => by
    simp only [PyData.weightAll]
    rcases List.mem_cons.mp h with rfl | h
    · omega
    · have := wAll_mem h; omega
theorem dpAll_mem : ∀ {xs : List PyData} {d : PyData}, d ∈ xs → d.depth ≤ PyData.depthAll xs
  | x :: xs, d, h => by
    simp only [PyData.depthAll]
    rcases List.mem_cons.mp h with rfl | h
    · omega
    · have := dpAll_mem h; omega
structure Nice (n k w : Nat) (d : PyData) : Prop where
  ok : okD n d
  dp : d.depth ≤ k
  wt : d.weight ≤ w
theorem Nice.mono {n k w n' k' w' : Nat} {d : PyData} (h : Nice n k w d) (h1 : n ≤ n') (h2 : k ≤ k') (h3 : w ≤ w') : Nice n' k' w' d :=
  ⟨okD_mono h1 h.ok, by have := h.dp; omega, by have := h.wt; omega⟩
theorem nice_non {n k w : Nat} : Nice n k w .none := ⟨by simp only [okD], by simp only [PyData.depth]; omega, by simp only [PyData.weight]; omega⟩
theorem nice_bl {n k w : Nat} {b : Bool} : Nice n k w (.bool b) := ⟨by simp only [okD], by simp only [PyData.depth]; omega, by simp only [PyData.weight]; omega⟩
theorem log_ok {i : Int} {n : Nat} (h : i.natAbs ≤ 10 ^ 30 + n) (hn : n ≤ 10 ^ 30) : i.natAbs.log2 < 101 := by
  by_cases h0 : i.natAbs = 0
  · rw [h0]; decide
  · refine (Nat.log2_lt h0).mpr ?_
    have : (10 : Nat) ^ 30 + 10 ^ 30 < 2 ^ 101 := by decide +kernel
    omega
theorem nice_int {n k w : Nat} {i : Int} (h : i.natAbs ≤ 10 ^ 30 + n) (hn : n ≤ 10 ^ 30) (hw : 101 ≤ w) : Nice n k w (.int i) := by
  refine ⟨by simp only [okD]; exact h, by simp only [PyData.depth]; omega, ?_⟩
  simp only [PyData.weight]
  have := log_ok h hn
  split <;> omega
theorem nice_str {n k w : Nat} {x : Str} (h : ∀ c ∈ x.cps.toList, c < 128) (hw : x.length ≤ w) : Nice n k w (.str x) :=
  ⟨by simp only [okD]; exact h, by simp only [PyData.depth]; omega, by simp only [PyData.weight]; exact hw⟩
theorem nice_dict {n k w : Nat} : Nice n (k + 1) w (.dict []) := ⟨by simp only [okD], by simp only [PyData.depth, PyData.depthKv]; omega, by simp only [PyData.weight, PyData.weightKv]; omega⟩
theorem nice_list {n k w : Nat} {ds : List PyData} (h : ∀ d ∈ ds, okD n d) (hd : ∀ d ∈ ds, d.depth ≤ k) (hw : PyData.weightAll ds ≤ w) : Nice n (k + 1) w (.list ds) :=
  ⟨by simp only [okD]; exact okAll_iff.mpr h, by simp only [PyData.depth]; have := depthAll_of hd; omega, by simp only [PyData.weight]; exact hw⟩
theorem nice_tup {n k w : Nat} {ds : List PyData} (h : ∀ d ∈ ds, okD n d) (hd : ∀ d ∈ ds, d.depth ≤ k) (hw : PyData.weightAll ds ≤ w) : Nice n (k + 1) w (.tuple ds) :=
  ⟨by simp only [okD]; exact okAll_iff.mpr h, by simp only [PyData.depth]; have := depthAll_of hd; omega, by simp only [PyData.weight]; exact hw⟩
theorem Nice.items {n k w : Nat} {ds : List PyData} (h : Nice n k w (.tuple ds)) : (∀ d ∈ ds, okD n d) ∧ (∀ d ∈ ds, d.depth + 1 ≤ k) ∧ PyData.weightAll ds ≤ w := by
  obtain ⟨h1, h2, h3⟩ := h
  simp only [okD] at h1
  simp only [PyData.depth] at h2
  simp only [PyData.weight] at h3
  exact ⟨okAll_iff.mp h1, fun d hd => by have := dpAll_mem hd; omega, h3⟩
/-! ### what repr asks -/
mutual
theorem okD_short {n : Nat} (hn : n ≤ 10 ^ 30) : ∀ {d : PyData}, okD n d → d.leavesShort 40 = true ∧ d.showable = true
  | .none, _ => by simp only [PyData.leavesShort, PyData.showable]; simp
  | .bool _, _ => by simp only [PyData.leavesShort, PyData.showable]; simp
  | .int i, h => by
    simp only [okD] at h
    have h1 := log_ok h hn
    have h2 : (toString i).length ≤ 32 + 1 := int_text_length_le10 (k := 32) (by decide) (by
      have : (10 : Nat) ^ 30 + 10 ^ 30 < 10 ^ 32 := by decide +kernel
      omega)
    simp only [PyData.leavesShort, PyData.showable, decide_eq_true_eq]
    refine ⟨?_, by omega⟩
    show (Str.ofString (toString i)).length ≤ 40
    rw [PySem.ofString_length]
    omega
  | .str x, h => by
    simp only [okD] at h
    simp only [PyData.leavesShort, PyData.showable, List.all_eq_true, decide_eq_true_eq, and_true]
    intro c hc
    have := h c hc
    have : (16 : Nat) ^ 8 = 4294967296 := by decide
    omega
  | .list xs, h => by simp only [okD] at h; simp only [PyData.leavesShort, PyData.showable]; exact okAll_short hn h
  | .tuple xs, h => by simp only [okD] at h; simp only [PyData.leavesShort, PyData.showable]; exact okAll_short hn h
  | .dict _, h => by simp only [okD] at h; subst h; simp only [PyData.leavesShort, PyData.showable, PyData.leavesShortKv, PyData.showableKv]; simp
theorem okAll_short {n : Nat} (hn : n ≤ 10 ^ 30) : ∀ {xs : List PyData}, okAll n xs → PyData.leavesShortAll 40 xs = true ∧ PyData.showableAll xs = true
  | [], _ => by simp only [PyData.leavesShortAll, PyData.showableAll]; simp
  | x :: xs, h => by
    simp only [okAll] at h
    have h1 := okD_short hn h.1
    have h2 := okAll_short hn h.2
    simp only [PyData.leavesShortAll, PyData.showableAll, h1.1, h1.2, h2.1, h2.2, Bool.and_self, and_self]
end
theorem Nice.shows {n k w : Nat} {d : PyData} (h : Nice n k w d) (hn : n ≤ 1000) (hk : k ≤ 60) (hw : w ≤ 300000) : d.showable = true ∧ d.depth ≤ 60 ∧ d.shown.length ≤ sizeLine := by
  have h1 := okD_short (n := n) (by have : (1000 : Nat) ≤ 10 ^ 30 := by decide +kernel
                                    omega) h.ok
  refine ⟨h1.2, by have := h.dp; omega, ?_⟩
  have h2 := PyData.shown_le 40 (by decide) d h1.1
  have h3 := h.wt
  have h4 : (40 + 2) * d.weight ≤ 42 * 300000 := Nat.mul_le_mul (by decide) (by omega)
  have h5 : 42 * 300000 + 40 ≤ sizeLine := by decide
  omega
/-! ### values that stand for such data -/
def Good (S : Addr → Prop) (H : Hp) (n k w : Nat) (v : V) : Prop := ∃ d, DD S H v d ∧ Nice n k w d
theorem Good.keep {S : Addr → Prop} {H H' : Hp} {n k w : Nat} {v : V} (h : Good S H n k w v) (e : Keep S H H') : Good S H' n k w v := let ⟨d, h1, h2⟩ := h; ⟨d, h1.keep e, h2⟩
theorem Good.mono {S : Addr → Prop} {H : Hp} {n k w n' k' w' : Nat} {v : V} (h : Good S H n k w v) (h1 : n ≤ n') (h2 : k ≤ k') (h3 : w ≤ w') : Good S H n' k' w' v := let ⟨d, e1, e2⟩ := h; ⟨d, e1, e2.mono h1 h2 h3⟩
section
variable {S : Addr → Prop} {H H1 : Hp} {n k w : Nat} {K : PySem.W.Frag} {Q : VK}
theorem good_non : Good S H n k w .non := ⟨_, .non, nice_non⟩
theorem good_bl {b : Bool} : Good S H n k w (.bl b) := ⟨_, .bl b, nice_bl⟩
theorem good_int {i : Int} (h : i.natAbs ≤ 10 ^ 30 + n) (hn : n ≤ 10 ^ 30) (hw : 101 ≤ w) : Good S H n k w (.int i) := ⟨_, .int i, nice_int h hn hw⟩
theorem good_str {x : Str} (h : ∀ c ∈ x.cps.toList, c < 128) (hw : x.length ≤ w) : Good S H n k w (.str x) := ⟨_, .str x, nice_str h hw⟩
theorem good_tup {a : Addr} {xs : List V} {ds : List PyData} (e : H a = some (.tup xs)) (hd : DDs S H xs ds) (h : Nice n k w (.tuple ds)) : Good S H n k w (.ref a) := ⟨_, .tup e hd, h⟩
theorem good_lst {a : Addr} {xs : List V} {ds : List PyData} (ha : ¬ S a) (e : H a = some (.lst xs)) (hd : DDs S H xs ds) (h : Nice n k w (.list ds)) : Good S H n k w (.ref a) := ⟨_, .lst ha e hd, h⟩
theorem all_nil {P : V → Prop} : ∀ v ∈ ([] : List V), P v := fun _ h => by cases h
theorem all_cons {P : V → Prop} {v : V} {vs : List V} (h : P v) (r : ∀ u ∈ vs, P u) : ∀ u ∈ v :: vs, P u := fun u hu => by
  rcases List.mem_cons.mp hu with rfl | hu
  · exact h
  · exact r u hu
theorem all_app {P : V → Prop} {us vs : List V} (h : ∀ u ∈ us, P u) (r : ∀ u ∈ vs, P u) : ∀ u ∈ us ++ vs, P u := fun u hu => by
  rcases List.mem_append.mp hu with hu | hu
  · exact h u hu
  · exact r u hu
/-- some + more * 2 -/
theorem twice_more {P : Hp → V → Prop} {R : V → Hp → Prop} {l m : Addr} {xs ys : List V} (hP : ∀ {v : V} {H H1 : Hp}, P H v → Keep NoS H H1 → P H1 v)
    (e1 : H l = some (.lst xs)) (e2 : H m = some (.lst ys)) (z1 : 1 ≤ xs.length) (z2 : xs.length ≤ 100) (z3 : ys.length ≤ 100) (h1 : ∀ v ∈ xs, P H v) (h2 : ∀ v ∈ ys, P H v)
    (r : ∀ q H9 zs, Keep NoS H H9 → H9 q = some (.lst zs) → H q = none → 1 ≤ zs.length → zs.length ≤ 300 → (∀ v ∈ zs, P H9 v) → R (.ref q) H9) :
    rMulA K (.ref m) (.int 2) H fun y H2 => rAddO K (.ref l) y H2 R := by
  refine o_rep2 e2 (Nat.le_trans (by omega : ys.length * 2 ≤ 1000) (by decide)) fun q H1 n1 => ?_
  refine oo_add (o_addL (n1.get e1) n1.at_ (Nat.le_trans (by rw [List.length_append]; omega : _ ≤ 1000) (by decide)) fun q2 H2 n2 => ?_)
  have k : Keep NoS H H2 := n1.keep.trans n2.keep
  refine r q2 H2 _ k n2.at_ ?_ (by rw [List.length_append]; omega) (by rw [List.length_append, List.length_append]; omega) (all_app (fun v hv => hP (h1 v hv) k) (all_app (fun v hv => hP (h2 v hv) k) fun v hv => hP (h2 v hv) k))
  cases e : H q2 with
  | none => rfl
  | some o => have := n1.get e; rw [n2.no] at this; cases this
theorem str_app_ascii {x y : Str} (hx : ∀ c ∈ x.cps.toList, c < 128) (hy : ∀ c ∈ y.cps.toList, c < 128) : ∀ c ∈ (x ++ y).cps.toList, c < 128 := fun c hc => by
  have e : (x ++ y).cps.toList = x.cps.toList ++ y.cps.toList := by
    show (x.cps ++ y.cps).toList = _
    exact Array.toList_append
  rw [e] at hc
  rcases List.mem_append.mp hc with hc | hc
  · exact hx c hc
  · exact hy c hc
theorem str_cut_ascii {x : Str} {lo hi : Option Int} (hx : ∀ c ∈ x.cps.toList, c < 128) : ∀ c ∈ (cutS x lo hi).cps.toList, c < 128 := fun c hc => by
  unfold cutS at hc
  exact hx c (List.mem_of_mem_drop (List.mem_of_mem_take hc))
theorem str_upper_ascii {x : Str} (hx : ∀ c ∈ x.cps.toList, c < 128) : (∀ c ∈ (Txt.upper x).cps.toList, c < 128) ∧ (Txt.upper x).length = x.length := by
  rw [upper_ascii hx]
  refine ⟨fun c hc => ?_, ?_⟩
  · rw [Array.toList_map] at hc
    obtain ⟨b, hb, rfl⟩ := List.mem_map.mp hc
    have := hx b hb
    unfold up1
    split <;> omega
  · show (x.cps.map up1).size = x.cps.size
    exact Array.size_map
theorem str_int_ascii (i : Int) : ∀ c ∈ (Str.ofString (toString i)).cps.toList, c < 128 := fun c hc => by
  rw [signs_ofString] at hc
  obtain ⟨b, hb, rfl⟩ := List.mem_map.mp hc
  exact int_ascii i b hb
end
theorem oo_addi {K : PySem.W.Frag} {H : Hp} {Q : VK} {i j : Int} (h : Q (.int (i + j)) H) : rAddO K (.int i) (.int j) H Q := .inl (o_add h)
/-! ### odd -/
def spOdd : Sp := fun vs H Q _ => ∃ (p : Addr) (x : V) (d : PyData) (S : Addr → Prop) (N n k w : Nat), vs = [.ref p, x] ∧ Pot H p N ∧ 1 ≤ N ∧ S p ∧ (∀ b, S b → H b ≠ none) ∧ DD S H x d ∧ Nice n k w d ∧ n ≤ 900 ∧ w ≤ 100000 ∧
  ∀ (H' : Hp) (v : V), Keep (At p) H H' → Pot H' p (N - 1) → Good S H' (n + 1) (k + 1) (2 * w + 130) v → Q v H'
theorem spOdd_arity {vs : List V} {H : Hp} {Q : VK} {E : XK} (h : spOdd vs H Q E) : vs.length = 2 := by obtain ⟨_, _, _, _, _, _, _, _, rfl, _⟩ := h; rfl
end LB

open PySem PySem.Spec PyProof.Rows L2 LB
/-! the tactic: one step of a reading; many -/
local macro_rules | `(tactic| walk_at "w1_5") => `(tactic| first
  | with_reducible refine w_seq ?_ | with_reducible refine w_asg ?_ | with_reducible refine w_drop ?_ | with_reducible refine w_ret ?_ | with_reducible refine w_next ?_
  | with_reducible refine w_ifs ?_ | with_reducible refine w_forR1 ?_ | with_reducible refine w_forR2 ?_ | with_reducible refine w_forL ?_ | with_reducible refine w_forT ?_ | with_reducible refine w_name ?_ | with_reducible refine w_sub ?_ | with_reducible refine w_par ?_
  | with_reducible refine w_var (by with_unfolding_all rfl) ?_ | with_reducible refine w_c ?_ | with_reducible refine w_op ?_ | with_reducible refine w_un ?_
  | with_reducible refine w_test ?_ | with_reducible refine w_tb ?_ | with_reducible refine w_nil ?_ | with_reducible refine w_cons ?_ | with_reducible refine w_cb ?_ | with_reducible refine w_call ?_
  | with_reducible refine w_not ?_ | with_reducible refine w_and ?_ | with_reducible refine w_or ?_ | with_reducible refine w_andV ?_ | with_reducible refine w_orV ?_ | with_reducible refine w_notV ?_
  | with_reducible refine w_ife ?_ | with_reducible refine w_chain ?_ | with_reducible refine w_bm ?_ | with_reducible refine w_sl ?_ | with_reducible refine w_part ?_ | with_reducible refine w_nopart ?_
  | with_reducible refine w_exb ?_ | with_reducible refine w_exi ?_ | with_reducible refine w_ex2 ?_ | with_reducible refine w_ex3 ?_ | with_reducible refine w_lstrg ?_ | with_reducible refine w_rg2 ?_ | with_reducible refine w_rg1 ?_ | with_reducible refine w_exij ?_ | with_reducible refine w_tup ?_ | with_reducible refine w_lst ?_
  | with_reducible refine o_add ?_ | with_reducible refine o_sub ?_ | with_reducible refine o_neg ?_ | with_reducible refine o_lt ?_ | with_reducible refine o_le ?_ | with_reducible refine o_gt ?_ | with_reducible refine o_ge ?_
  | with_reducible refine o_ixL (by assumption) (by decide) (by with_unfolding_all rfl) ?_ | with_reducible refine o_ixT (by assumption) (by decide) (by with_unfolding_all rfl) ?_
  | with_reducible refine o_mod (by first | decide | omega) ?_ | with_reducible refine o_mul (by first | decide | omega) ?_ | with_reducible refine o_fdv (by first | decide | omega) (by first | decide | omega) ?_ | with_reducible refine o_setL (by assumption) (by decide) (by simp) ?_
  | with_reducible refine oo_addi ?_ | with_reducible refine oo_sub ?_ | with_reducible refine oo_neg ?_ | with_reducible refine w_rev ?_ | with_reducible refine w_m0 ?_
  | with_reducible refine w_par3 ?_ | with_reducible refine w_tyl (by assumption) ?_
  | with_reducible refine o_abs ?_ | with_reducible refine o_eqs (by with_unfolding_all rfl) ?_ | with_reducible refine o_nes (by with_unfolding_all rfl) ?_ | with_reducible refine o_max2 ?_ | with_reducible refine o_min2 ?_ | with_reducible refine o_isiX (by assumption) ?_ | with_reducible refine o_lenl (by assumption) ?_ | with_reducible refine o_lent (by assumption) ?_ | with_reducible refine o_int1b ?_)
local macro_rules | `(tactic| walk_at "ws_5") => `(tactic| repeat (first | walk_at "w1_5" | dsimp only [List.set_cons_zero, List.set_cons_succ]))
namespace LB

def t__law_odd (K : PySem.W.Frag) : TS :=
  (tSeq (tAsg (tLst (tCons (tC V.non) (tCons (tC (V.bl true)) (tCons (tC (V.bl false)) (tCons (tC (V.int 0)) (tCons (tC (V.int 1)) (tCons (tUn rNegO (tC (V.int 1))) (tCons (tC (V.int 7)) (tCons (tOp (rAddO K) (tOp rPowI (tC (V.int 10)) (tC (V.int 9))) (tC (V.int 1))) (tCons (tOp rPowI (tC (V.int 10)) (tC (V.int 30))) (tCons (tC (V.str "")) (tCons (tC (V.str "read")) (tCons (tC (V.str "write")) (tCons (tTup tNil) (tCons (tLst tNil) (tCons tDNewK (tCons (tTup (tCons (tC (V.int 0)) tNil)) (tCons (tTup (tCons (tC (V.str "a")) tNil)) (tCons (tLst (tCons (tC (V.int 0)) tNil)) tNil))))))))))))))))))) (gName 2))
    (tSeq (tIfS (tB (tCB (rIsi K) (tCons (tVar 1) (tCons (tC (V.ty "tuple")) tNil))))
    (tAsg (tOp (rAddO K) (tVar 2) (tOp (rMulA K) (tLst (tCons (tCB (rListOf K) (tCons (tVar 1) tNil)) (tCons (tSl (rSlAny K) (tVar 1) tNoPart (tPart (tUn rNegO (tC (V.int 1))))) (tCons (tOp (rAddO K) (tVar 1) (tSl (rSlAny K) (tVar 1) (tPart (tUn rNegO (tC (V.int 1)))) tNoPart)) (tCons (tRevA K (tVar 1)) (tCons (tTup (tCons (tVar 1) tNil)) (tCons (tSl (rSlAny K) (tVar 1) (tPart (tC (V.int 1))) tNoPart) tNil))))))) (tC (V.int 2)))) (gName 2)) (tIfS (tB (tCB (rIsi K) (tCons (tVar 1) (tCons (tC (V.ty "str")) tNil))))
    (tAsg (tOp (rAddO K) (tVar 2) (tOp (rMulA K) (tLst (tCons (tOp (rAddO K) (tVar 1) (tC (V.str "s"))) (tCons (tSl (rSlAny K) (tVar 1) tNoPart (tPart (tUn rNegO (tC (V.int 1))))) (tCons (tM0 rUpper (tVar 1)) (tCons (tTup (tCons (tVar 1) tNil)) (tCons (tLst (tCons (tVar 1) tNil)) tNil)))))) (tC (V.int 2)))) (gName 2)) (tIfS (tB (tCB (rIsi K) (tCons (tVar 1) (tCons (tC (V.ty "int")) tNil))))
    (tAsg (tOp (rAddO K) (tVar 2) (tOp (rMulA K) (tLst (tCons (tOp (rAddO K) (tVar 1) (tC (V.int 1))) (tCons (tOp rSubO (tVar 1) (tC (V.int 1))) (tCons (tCB rStrO (tCons (tVar 1) tNil)) (tCons (tOp (rEqO K) (tVar 1) (tC (V.int 1))) (tCons (tUn rNegO (tVar 1)) tNil)))))) (tC (V.int 2)))) (gName 2)) tNext)))
    (tRet (tCall (spAny K) [] E0 (tCons (tVar 0) (tCons (tVar 2) tNil))))))

theorem ascii_lit {x : Str} (h : x.cps.toList.all (fun c => decide (c < 128)) = true) : ∀ c ∈ x.cps.toList, c < 128 := fun c hc => by
  have := (List.all_eq_true.mp h) c hc
  simpa using this
theorem good_lit {S : Addr → Prop} {H : Hp} {n k w : Nat} {x : Str} (h : x.cps.toList.all (fun c => decide (c < 128)) = true) (h2 : x.length ≤ 30) (h3 : 30 ≤ w) : Good S H n k w (.str x) := good_str (ascii_lit h) (by omega)
theorem New.free {H H1 : Hp} {p q : Addr} {o : HO} (n : New H H1 p o) (e : H1 q = none) : H q = none := by
  cases h : H q with
  | none => rfl
  | some u => rw [n.get h] at e; cases e
theorem nos_free {H H1 : Hp} {q : Addr} (k : Keep NoS H H1) (e : H1 q = none) : H q = none := by
  cases h : H q with
  | none => rfl
  | some u => rw [k.all _ _ id h] at e; cases e
theorem not_S {S : Addr → Prop} {H : Hp} {q : Addr} (hS : ∀ b, S b → H b ≠ none) (e : H q = none) : ¬ S q := fun h => hS q h e
theorem pure__law_odd {K : PySem.W.Frag} {vs : List V} {H : Hp} {Q : VK} {E : XK} (h : spOdd vs H Q E) : t__law_odd K { nx := fun _ H' => Q .non H', rt := Q } (start ["pot", "thing", "some"] vs) H := by
  obtain ⟨p, x, d, S, N, n, k, w, rfl, pt, hN, hp, hS, hd, hn, n1k, hw, q⟩ := h
  show t__law_odd K _ [some (.ref p), some x, none] H
  unfold t__law_odd
  have big : n + 1 ≤ 10 ^ 30 := by
    have : (1000 : Nat) ≤ 10 ^ 30 := by decide +kernel
    omega
  walk_at "ws_5"
  refine o_pow ⟨by decide, by decide +kernel⟩ ?_
  walk_at "ws_5"
  rw [show (10 : Int) ^ (9 : Int).toNat = 1000000000 by decide +kernel]
  refine o_pow ⟨by decide, by decide +kernel⟩ ?_
  walk_at "ws_5"
  refine k_tup (by simp) fun t1 H1 n1 => ?_
  walk_at "ws_5"
  refine k_lst (by simp) fun t2 H2 n2 => ?_
  walk_at "ws_5"
  refine w_dnew fun t3 H3 n3 => ?_
  walk_at "ws_5"
  refine k_tup (by simp; decide) fun t4 H4 n4 => ?_
  walk_at "ws_5"
  refine k_tup (by simp; decide) fun t5 H5 n5 => ?_
  walk_at "ws_5"
  refine k_lst (by simp; decide) fun t6 H6 n6 => ?_
  walk_at "ws_5"
  refine k_lst (by simp; decide) fun l H7 n7 => ?_
  walk_at "ws_5"
  have k02 : Keep NoS H H2 := n1.keep.trans n2.keep
  have k05 : Keep NoS H H5 := ((k02.trans n3.keep).trans n4.keep).trans n5.keep
  have k07 : Keep NoS H H7 := (k05.trans n6.keep).trans n7.keep
  have f2 : ¬ S t2 := not_S hS (n1.free n2.no)
  have f3 : ¬ S t3 := not_S hS (nos_free k02 n3.no)
  have f6 : ¬ S t6 := not_S hS (nos_free k05 n6.no)
  have fl : H l = none := nos_free (k05.trans n6.keep) n7.no
  have lp : l ≠ p := fun e => pt.ne fl e.symm
  have z1 : ∀ v ∈ ([.int 0] : List V), True := fun _ _ => trivial
  have g0 : ∀ {S : Addr → Prop} {H : Hp}, DDs S H [V.int 0] [PyData.int 0] := .cons (.int 0) .nil
  have n0 : ∀ d ∈ [PyData.int 0], okD (n + 1) d ∧ d.depth ≤ k := fun d hd => by
    simp only [List.mem_cons, List.not_mem_nil, or_false] at hd
    subst hd
    simp only [okD, PyData.depth]
    omega
  have w0 : PyData.weightAll [PyData.int 0] ≤ 2 * w + 130 := by
    have : PyData.weightAll [PyData.int 0] = 1 := by decide
    omega
  have ga : Good S H7 (n + 1) (k + 1) (2 * w + 130) (.ref t5) := by
    refine good_tup (ds := [.str "a"]) (n7.get (n6.get n5.at_)) (.cons (.str _) .nil) (nice_tup (fun d hd => ?_) (fun d hd => ?_) ?_)
    · simp only [List.mem_cons, List.not_mem_nil, or_false] at hd
      subst hd
      simp only [okD]
      exact ascii_lit (by decide)
    · simp only [List.mem_cons, List.not_mem_nil, or_false] at hd
      subst hd
      simp only [PyData.depth]
      omega
    · have : PyData.weightAll [PyData.str "a"] = 2 := by decide
      omega
  have hx : ∀ v ∈ [V.non, V.bl true, V.bl false, V.int 0, V.int 1, V.int (-1), V.int 7, V.int (1000000000 + 1), V.int (10 ^ (30 : Int).toNat), V.str "", V.str "read", V.str "write", V.ref t1, V.ref t2, V.ref t3, V.ref t4, V.ref t5, V.ref t6], Good S H7 (n + 1) (k + 1) (2 * w + 130) v := by
    refine all_cons good_non (all_cons good_bl (all_cons good_bl (all_cons (good_int (by simp) big (by omega)) (all_cons (good_int (by simp; omega) big (by omega)) (all_cons (good_int (by simp; omega) big (by omega)) (all_cons (good_int ?_ big (by omega)) (all_cons (good_int ?_ big (by omega)) (all_cons (good_int ?_ big (by omega)) ?_))))))))
    · have : (7 : Int).natAbs ≤ 10 ^ 30 := by decide +kernel
      omega
    · have : (1000000000 + 1 : Int).natAbs ≤ 10 ^ 30 := by decide +kernel
      omega
    · have : (10 ^ (30 : Int).toNat : Int).natAbs ≤ 10 ^ 30 := by decide +kernel
      omega
    refine all_cons (good_lit (by decide) (by decide) (by omega)) (all_cons (good_lit (by decide) (by decide) (by omega)) (all_cons (good_lit (by decide) (by decide) (by omega)) ?_))
    refine all_cons (good_tup (n7.get (n6.get (n5.get (n4.get (n3.get (n2.get n1.at_)))))) .nil (nice_tup (fun _ h => by cases h) (fun _ h => by cases h) (by simp [PyData.weightAll]))) ?_
    refine all_cons (good_lst f2 (n7.get (n6.get (n5.get (n4.get (n3.get n2.at_))))) .nil (nice_list (fun _ h => by cases h) (fun _ h => by cases h) (by simp [PyData.weightAll]))) ?_
    refine all_cons ⟨_, .dct f3 (n7.get (n6.get (n5.get (n4.get n3.at_)))) .nil, nice_dict⟩ ?_
    refine all_cons (good_tup (n7.get (n6.get (n5.get n4.at_))) g0 (nice_tup (fun d hd => (n0 d hd).1) (fun d hd => (n0 d hd).2) w0)) (all_cons ga ?_)
    exact all_cons (good_lst f6 (n7.get n6.at_) g0 (nice_list (fun d hd => (n0 d hd).1) (fun d hd => (n0 d hd).2) w0)) all_nil
  have hd7 : DD S H7 x d := hd.keep k07.of0
  have pt7 : Pot H7 p N := pt.keep k07
  -- the end: one of them
  have fin : ∀ (D : Ends), D.rt = Q → ∀ (y : V) (l2 : Addr) (H8 : Hp) (ys : List V), Keep NoS H7 H8 → H8 l2 = some (.lst ys) → l2 ≠ p → 1 ≤ ys.length → ys.length ≤ 300 → (∀ v ∈ ys, Good S H8 (n + 1) (k + 1) (2 * w + 130) v) →
      (tRet (tCall (spAny K) [] E0 (tCons (tVar 0) (tCons (tVar 2) tNil)))) D [some (.ref p), some y, some (.ref l2)] H8 := by
    intro D hD y l2 H8 ys k78 e ne a1 a2 hy
    walk_at "ws_5"
    refine o_any (pt7.keep k78) hN ne (.inl e) a1 (by omega) fun H' i v ev kp pt' => ?_
    rw [hD]
    exact q H' v ((k07.trans k78).of0.trans kp) pt' ((hy v (List.mem_of_getElem? ev)).keep (kp.mono fun b hb => by rw [hb]; exact hp))
  have more : ∀ (D : Ends), D.rt = Q → ∀ (y : V) (H8 : Hp) (m : Addr) (ys : List V), Keep NoS H7 H8 → H8 m = some (.lst ys) → ys.length ≤ 100 → (∀ v ∈ ys, Good S H8 (n + 1) (k + 1) (2 * w + 130) v) →
      rMulA K (.ref m) (.int 2) H8 fun z H9 => rAddO K (.ref l) z H9 fun u H10 => (tRet (tCall (spAny K) [] E0 (tCons (tVar 0) (tCons (tVar 2) tNil)))) D [some (.ref p), some y, some u] H10 := by
    intro D hD y H8 m ys k78 e z3 hy
    refine twice_more (P := fun H v => Good S H (n + 1) (k + 1) (2 * w + 130) v) (fun h e => h.keep e.of0) (k78.all _ _ id n7.at_) e (by simp) (by simp) z3 (fun v hv => (hx v hv).keep k78.of0) hy fun q2 H9 zs k9 e9 f9 a1 a2 hz => ?_
    exact fin D hD y q2 H9 zs (k78.trans k9) e9 (fun e => (pt7.keep k78).ne f9 e.symm) a1 a2 hz
  walk_at "ws_5"
  rw [isT_tuple]
  cases d with
  | tuple ds =>
    refine w_iteT rfl ?_
    obtain ⟨a, xs, rfl, ha, hx0⟩ := hd7.tupX
    obtain ⟨i1, i2, i3⟩ := hn.items
    have hlen : xs.length ≤ w := by
      rw [hx0.length]
      have := wAll_len (xs := ds)
      omega
    walk_at "ws_5"
    refine o_listof (.inr (.inl (.inl ha))) fun l1 H8 m8 => ?_
    walk_at "ws_5"
    have ha8 := m8.get ha
    refine o_slt ha8 fun p1 H9 k9 e9 => ?_
    walk_at "ws_5"
    have ha9 := k9.tup _ _ ha8
    refine o_slt ha9 fun p2 H10 k10 e10 => ?_
    have ha10 := k10.tup _ _ ha9
    refine oo_add (o_catt ha10 e10 (Nat.le_trans (by have := cutV_length xs (some (-1)) none; omega : _ ≤ 300000) (by decide)) fun p3 H11 k11 e11 => ?_)
    walk_at "ws_5"
    have ha11 := k11.tup _ _ ha10
    refine k_rev ha11 fun p4 H12 m12 => ?_
    walk_at "ws_5"
    have ha12 := m12.get ha11
    refine k_tup (by simp; decide) fun p5 H13 m13 => ?_
    walk_at "ws_5"
    have ha13 := m13.get ha12
    refine o_slt ha13 fun p6 H14 k14 e14 => ?_
    walk_at "ws_5"
    refine k_lst (by simp; decide) fun m H15 m15 => ?_
    walk_at "ws_5"
    have k1315 : Keep NoS H13 H15 := k14.trans m15.keep
    have k1115 : Keep NoS H11 H15 := (m12.keep.trans m13.keep).trans k1315
    have k915 : Keep NoS H9 H15 := (k10.trans k11).trans k1115
    have k815 : Keep NoS H8 H15 := k9.trans k915
    have k715 : Keep NoS H7 H15 := m8.keep.trans k815
    have dd := hx0.keep (S := S) k715.of0
    have gt : ∀ (b : Addr) (zs : List V) (es : List PyData), H15 b = some (.tup zs) → DDs S H15 zs es → (∀ d ∈ es, d ∈ ds) → PyData.weightAll es ≤ 2 * w + 130 → Good S H15 (n + 1) (k + 1) (2 * w + 130) (.ref b) :=
      fun b zs es hb hz hm hw => good_tup hb hz (nice_tup (fun d hd => okD_mono (by omega) (i1 d (hm d hd))) (fun d hd => by have := i2 d (hm d hd); omega) hw)
    have wc : ∀ lo hi, PyData.weightAll (cutD ds lo hi) ≤ w := fun lo hi => Nat.le_trans wAll_cut i3
    refine more _ rfl _ H15 m _ k715 m15.at_ (by simp) (all_cons ?_ (all_cons ?_ (all_cons ?_ (all_cons ?_ (all_cons ?_ (all_cons ?_ all_nil))))))
    · exact good_lst (not_S hS (nos_free k07 m8.no)) (k815.all _ _ id m8.at_) dd (nice_list (fun d hd => okD_mono (by omega) (i1 d hd)) (fun d hd => by have := i2 d hd; omega) (by omega))
    · exact gt p1 _ _ (k915.tup _ _ e9) (dd.cut _ _) (fun d hd => cutD_mem hd) (by have := wc none (some (-1)); omega)
    · refine gt p3 _ _ (k1115.tup _ _ e11) (dd.append (dd.cut _ _)) (fun d hd => ?_) (by rw [wAll_append]; have := wc (some (-1)) none; omega)
      rcases List.mem_append.mp hd with hd | hd
      · exact hd
      · exact cutD_mem hd
    · exact gt p4 _ _ (k1315.tup _ _ (m13.get m12.at_)) dd.rev (fun d hd => List.mem_reverse.mp hd) (by rw [wAll_rev]; omega)
    · refine good_tup (k1315.tup _ _ m13.at_) (.cons (.tup (k715.tup _ _ ha) dd) .nil) (nice_tup (fun d hd => ?_) (fun d hd => ?_) ?_)
      · simp only [List.mem_cons, List.not_mem_nil, or_false] at hd
        subst hd
        exact okD_mono (by omega) hn.ok
      · simp only [List.mem_cons, List.not_mem_nil, or_false] at hd
        subst hd
        exact hn.dp
      · simp only [PyData.weightAll, PyData.weight]
        omega
    · exact gt p6 _ _ (m15.get e14) (dd.cut _ _) (fun d hd => cutD_mem hd) (by have := wc (some 1) none; omega)
  | str z =>
    refine w_iteF rfl ?_
    have := hd7.strX
    subst this
    have hz := hn.ok
    simp only [okD] at hz
    have hzl : z.length ≤ w := hn.wt
    walk_at "ws_5"
    rw [isT_str]
    refine w_iteT rfl ?_
    walk_at "ws_5"
    have s1 : ("s" : Str).length = 1 := by decide
    refine oo_add (o_adds (Nat.le_trans (by rw [s1]; omega : _ ≤ 300000) (by decide)) ?_)
    walk_at "ws_5"
    refine o_sls (Nat.le_trans (by omega : _ ≤ 300000) (by decide)) ?_
    walk_at "ws_5"
    refine ⟨⟨z, rfl⟩, z, rfl, rfl, by omega, ?_⟩
    walk_at "ws_5"
    refine k_tup (by simp; decide) fun p5 H8 m8 => ?_
    walk_at "ws_5"
    refine k_lst (by simp; decide) fun p6 H9 m9 => ?_
    walk_at "ws_5"
    refine k_lst (by simp; decide) fun m H10 m10 => ?_
    walk_at "ws_5"
    have d1 : ∀ {S : Addr → Prop} {H : Hp}, DDs S H [V.str z] [PyData.str z] := .cons (.str z) .nil
    have e1 : ∀ d ∈ [PyData.str z], okD (n + 1) d ∧ d.depth ≤ k := fun d hd => by
      simp only [List.mem_cons, List.not_mem_nil, or_false] at hd
      subst hd
      simp only [okD, PyData.depth]
      exact ⟨hz, by omega⟩
    have e2 : PyData.weightAll [PyData.str z] ≤ 2 * w + 130 := by
      have hzl : z.cps.size ≤ w := hzl
      simp only [PyData.weightAll, PyData.weight]
      omega
    refine more _ rfl _ H10 m _ ((m8.keep.trans m9.keep).trans m10.keep) m10.at_ (by simp) (all_cons ?_ (all_cons ?_ (all_cons ?_ (all_cons ?_ (all_cons ?_ all_nil)))))
    · exact good_str (str_app_ascii hz (ascii_lit (by decide))) (by rw [strLen_append, s1]; omega)
    · exact good_str (str_cut_ascii hz) (by have := cutS_length z none (some (-1)); omega)
    · exact good_str (str_upper_ascii hz).1 (by rw [(str_upper_ascii hz).2]; omega)
    · exact good_tup (m10.get (m9.get m8.at_)) d1 (nice_tup (fun d hd => (e1 d hd).1) (fun d hd => (e1 d hd).2) e2)
    · exact good_lst (not_S hS (nos_free k07 (m8.free m9.no))) (m10.get m9.at_) d1 (nice_list (fun d hd => (e1 d hd).1) (fun d hd => (e1 d hd).2) e2)
  | int i =>
    refine w_iteF rfl ?_
    have := hd7.intX
    subst this
    have hi := hn.ok
    simp only [okD] at hi
    walk_at "ws_5"
    rw [isT_str]
    refine w_iteF rfl ?_
    walk_at "ws_5"
    rw [isT_int]
    refine w_iteT rfl ?_
    walk_at "ws_5"
    refine oo_str (by have := log_ok hi (by omega); omega) ?_
    walk_at "ws_5"
    refine oo_eq ?_
    walk_at "ws_5"
    refine k_lst (by simp; decide) fun m H8 m8 => ?_
    walk_at "ws_5"
    have il : (Str.ofString (toString i)).length ≤ 33 := by
      rw [PySem.ofString_length]
      refine int_text_length_le10 (k := 32) (by decide) ?_
      have : (10 : Nat) ^ 30 + 10 ^ 30 < 10 ^ 32 := by decide +kernel
      omega
    refine more _ rfl _ H8 m _ m8.keep m8.at_ (by simp) (all_cons ?_ (all_cons ?_ (all_cons ?_ (all_cons ?_ (all_cons ?_ all_nil)))))
    · exact good_int (by omega) big (by omega)
    · exact good_int (by omega) big (by omega)
    · exact good_str (str_int_ascii i) (by omega)
    · exact good_bl
    · exact good_int (by omega) big (by omega)
  | bool b =>
    refine w_iteF rfl ?_
    have hb : bI b = 0 ∨ bI b = 1 := by cases b <;> simp [bI]
    have : x = .bl b := by cases hd7; rfl
    subst this
    walk_at "ws_5"
    rw [isT_str]
    refine w_iteF rfl ?_
    walk_at "ws_5"
    rw [isT_int]
    refine w_iteT rfl ?_
    walk_at "ws_5"
    refine oo_addb ?_
    walk_at "ws_5"
    refine oo_subb ?_
    walk_at "ws_5"
    refine oo_strb ?_
    walk_at "ws_5"
    refine oo_eqb ?_
    walk_at "ws_5"
    refine oo_negb ?_
    walk_at "ws_5"
    refine k_lst (by simp; decide) fun m H8 m8 => ?_
    walk_at "ws_5"
    refine more _ rfl _ H8 m _ m8.keep m8.at_ (by simp) (all_cons ?_ (all_cons ?_ (all_cons ?_ (all_cons ?_ (all_cons ?_ all_nil)))))
    · exact good_int (by rcases hb with hb | hb <;> rw [hb] <;> omega) big (by omega)
    · exact good_int (by rcases hb with hb | hb <;> rw [hb] <;> omega) big (by omega)
    · cases b
      · exact good_lit (by decide) (by decide) (by omega)
      · exact good_lit (by decide) (by decide) (by omega)
    · exact good_bl
    · exact good_int (by rcases hb with hb | hb <;> rw [hb] <;> omega) big (by omega)
  | none =>
    refine w_iteF rfl ?_
    walk_at "ws_5"
    rw [isT_str]
    refine w_iteF rfl ?_
    walk_at "ws_5"
    rw [isT_int]
    refine w_iteF rfl ?_
    walk_at "ws_5"
    exact o_any pt7 hN lp (.inl n7.at_) (by simp) (by simp) fun H' i v ev kp pt' => q H' v (k07.of0.trans kp) pt' ((hx v (List.mem_of_getElem? ev)).keep (kp.mono fun b hb => by rw [hb]; exact hp))
  | list ds =>
    refine w_iteF rfl ?_
    walk_at "ws_5"
    rw [isT_str]
    refine w_iteF rfl ?_
    walk_at "ws_5"
    rw [isT_int]
    refine w_iteF rfl ?_
    walk_at "ws_5"
    exact o_any pt7 hN lp (.inl n7.at_) (by simp) (by simp) fun H' i v ev kp pt' => q H' v (k07.of0.trans kp) pt' ((hx v (List.mem_of_getElem? ev)).keep (kp.mono fun b hb => by rw [hb]; exact hp))
  | dict kvs =>
    refine w_iteF rfl ?_
    walk_at "ws_5"
    rw [isT_str]
    refine w_iteF rfl ?_
    walk_at "ws_5"
    rw [isT_int]
    refine w_iteF rfl ?_
    walk_at "ws_5"
    exact o_any pt7 hN lp (.inl n7.at_) (by simp) (by simp) fun H' i v ev kp pt' => q H' v (k07.of0.trans kp) pt' ((hx v (List.mem_of_getElem? ev)).keep (kp.mono fun b hb => by rw [hb]; exact hp))
end LB

open PySem PySem.Spec PyProof.Rows L2 LB
/-! the tactic: one step of a reading; many -/
local macro_rules | `(tactic| walk_at "w1_6") => `(tactic| first
  | with_reducible refine w_seq ?_ | with_reducible refine w_asg ?_ | with_reducible refine w_drop ?_ | with_reducible refine w_ret ?_ | with_reducible refine w_next ?_
  | with_reducible refine w_ifs ?_ | with_reducible refine w_forR1 ?_ | with_reducible refine w_forR2 ?_ | with_reducible refine w_forL ?_ | with_reducible refine w_forT ?_ | with_reducible refine w_name ?_ | with_reducible refine w_sub ?_ | with_reducible refine w_par ?_
  | with_reducible refine w_var (by with_unfolding_all rfl) ?_ | with_reducible refine w_c ?_ | with_reducible refine w_op ?_ | with_reducible refine w_un ?_
  | with_reducible refine w_test ?_ | with_reducible refine w_tb ?_ | with_reducible refine w_nil ?_ | with_reducible refine w_cons ?_ | with_reducible refine w_cb ?_ | with_reducible refine w_call ?_
  | with_reducible refine w_not ?_ | with_reducible refine w_and ?_ | with_reducible refine w_or ?_ | with_reducible refine w_andV ?_ | with_reducible refine w_orV ?_ | with_reducible refine w_notV ?_
  | with_reducible refine w_ife ?_ | with_reducible refine w_chain ?_ | with_reducible refine w_bm ?_ | with_reducible refine w_sl ?_ | with_reducible refine w_part ?_ | with_reducible refine w_nopart ?_
  | with_reducible refine w_exb ?_ | with_reducible refine w_exi ?_ | with_reducible refine w_ex2 ?_ | with_reducible refine w_ex3 ?_ | with_reducible refine w_lstrg ?_ | with_reducible refine w_rg2 ?_ | with_reducible refine w_rg1 ?_ | with_reducible refine w_exij ?_ | with_reducible refine w_tup ?_ | with_reducible refine w_lst ?_
  | with_reducible refine o_add ?_ | with_reducible refine o_sub ?_ | with_reducible refine o_neg ?_ | with_reducible refine o_lt ?_ | with_reducible refine o_le ?_ | with_reducible refine o_gt ?_ | with_reducible refine o_ge ?_
  | with_reducible refine o_ixL (by assumption) (by decide) (by with_unfolding_all rfl) ?_ | with_reducible refine o_ixT (by assumption) (by decide) (by with_unfolding_all rfl) ?_
  | with_reducible refine o_mod (by first | decide | omega) ?_ | with_reducible refine o_mul (by first | decide | omega) ?_ | with_reducible refine o_fdv (by first | decide | omega) (by first | decide | omega) ?_ | with_reducible refine o_setL (by assumption) (by decide) (by simp) ?_
  | with_reducible refine oo_addi ?_ | with_reducible refine oo_sub ?_ | with_reducible refine oo_neg ?_ | with_reducible refine w_rev ?_ | with_reducible refine w_m0 ?_
  | with_reducible refine w_par3 ?_ | with_reducible refine w_tyl (by assumption) ?_
  | with_reducible refine o_abs ?_ | with_reducible refine o_eqs (by with_unfolding_all rfl) ?_ | with_reducible refine o_nes (by with_unfolding_all rfl) ?_ | with_reducible refine o_max2 ?_ | with_reducible refine o_min2 ?_ | with_reducible refine o_isiX (by assumption) ?_ | with_reducible refine o_lenl (by assumption) ?_ | with_reducible refine o_lent (by assumption) ?_ | with_reducible refine o_int1b ?_)
local macro_rules | `(tactic| walk_at "ws_6") => `(tactic| repeat (first | walk_at "w1_6" | dsimp only [List.set_cons_zero, List.set_cons_succ]))
namespace LB
/-- bent(pot, thing, j): one part otherwise -/
def spBentN (j : Nat) : Sp := fun vs H Q _ => ∃ (p : Addr) (x : V) (d : PyData) (S : Addr → Prop) (N n k w : Nat), vs = [.ref p, x, .int j] ∧ Pot H p N ∧ 3 * (j + 1) ≤ N ∧ S p ∧ (∀ b, S b → H b ≠ none) ∧ DD S H x d ∧ Nice n k w d ∧ n ≤ 900 ∧ w ≤ 100000 ∧
  ∀ (H' : Hp) (v : V), Keep (At p) H H' → Pot H' p (N - 3 * (j + 1)) → Good S H' (n + 1) (k + 1) ((j + 2) * w + 130) v → Q v H'
theorem spBentN_arity {j : Nat} {vs : List V} {H : Hp} {Q : VK} {E : XK} (h : spBentN j vs H Q E) : vs.length = 3 := by obtain ⟨_, _, _, _, _, _, _, _, rfl, _⟩ := h; rfl
def spBentR : Nat → Sp
  | 0 => fun _ _ _ _ => False
  | j + 1 => spBentN j

def t__law_bent (j : Nat) (K : PySem.W.Frag) : TS :=
  (tSeq (tIfS (tOr (tTest (tOp (rEqA K) (tVar 2) (tC (V.int 0)))) (tOr (tNot (tB (tCB (rIsi K) (tCons (tVar 1) (tCons (tC (V.ty "tuple")) tNil))))) (tOr (tTest (tOp (rEqA K) (tVar 1) (tTup tNil))) (tTest (tOp (rEqA K) (tCall spDraw [] E0 (tCons (tVar 0) (tCons (tC (V.int 5)) tNil))) (tC (V.int 0)))))))
    (tRet (tCall spOdd [] E0 (tCons (tVar 0) (tCons (tVar 1) tNil)))) tNext)
    (tSeq (tAsg (tCall spDraw [] E0 (tCons (tVar 0) (tCons (tCB (rLen K) (tCons (tVar 1) tNil)) tNil))) (gName 3))
    (tRet (tOp (rAddA K) (tOp (rAddA K) (tSl (rSlAny K) (tVar 1) tNoPart (tPart (tVar 3))) (tTup (tCons (tCall (spBentR j) [] E0 (tCons (tVar 0) (tCons (tOp (rIx K) (tVar 1) (tVar 3)) (tCons (tOp rSubI (tVar 2) (tC (V.int 1))) tNil)))) tNil))) (tSl (rSlAny K) (tVar 1) (tPart (tOp (rAddA K) (tVar 3) (tC (V.int 1)))) tNoPart)))))

theorem kept_S {S : Addr → Prop} {H H8 : Hp} {p : Addr} {n : Nat} (hS : ∀ b, S b → H b ≠ none) (k : Keep (At p) H H8) (pt : Pot H8 p n) : ∀ b, S b → H8 b ≠ none := fun b hb e => by
  by_cases h : b = p
  · subst h
    obtain ⟨xs, hx⟩ := pt.some
    rw [hx] at e
    cases e
  · cases q : H b with
    | none => exact hS b hb q
    | some o => rw [k.all b o h q] at e; cases e
theorem cutD_take {ds : List PyData} {i : Nat} (h : i ≤ ds.length) : cutD ds none (some (i : Int)) = ds.take i := by
  unfold cutD
  rw [HT.sIx_none, HT.sIx_nat, List.drop_zero, Nat.sub_zero, Nat.min_eq_left h]
theorem cutD_drop {ds : List PyData} {i : Nat} (h : i + 1 ≤ ds.length) : cutD ds (some ((i : Int) + 1)) none = ds.drop (i + 1) := by
  unfold cutD
  have e : ((i : Int) + 1) = ((i + 1 : Nat) : Int) := by omega
  rw [e, HT.sIx_none, HT.sIx_nat, Nat.min_eq_left h]
  rw [List.take_of_length_le]
  rw [List.length_drop]
  omega
theorem pure__law_bent {j : Nat} {K : PySem.W.Frag} {vs : List V} {H : Hp} {Q : VK} {E : XK} (h : spBentN j vs H Q E) : t__law_bent j K { nx := fun _ H' => Q .non H', rt := Q } (start ["pot", "thing", "deep", "at"] vs) H := by
  obtain ⟨p, x, d, S, N, n, k, w, rfl, pt, hN, hp, hS, hd, hn, n1k, hw, q⟩ := h
  show t__law_bent j K _ [some (.ref p), some x, some (.int j), none] H
  unfold t__law_bent
  have jw : 2 * w ≤ (j + 2) * w := Nat.mul_le_mul_right _ (by omega)
  -- another value for it
  have odd : ∀ (H8 : Hp) (M : Nat), Keep (At p) H H8 → Pot H8 p M → N - 3 * (j + 1) + 1 ≤ M → spOdd [.ref p, x] H8 Q E0 := by
    intro H8 M k8 pt8 hM
    refine ⟨p, x, d, S, M, n, k, w, rfl, pt8, by omega, hp, kept_S hS k8 pt8, hd.keep (k8.mono fun b hb => by rw [hb]; exact hp), hn, n1k, by omega, fun H' v kp pt' g => ?_⟩
    exact q H' v (k8.trans kp) (pt'.le (by omega)) (g.mono (by omega) (by omega) (by omega))
  walk_at "ws_6"
  cases j with
  | zero =>
    refine w_iteT rfl ?_
    refine w_iteT rfl ?_
    walk_at "ws_6"
    exact odd H N (Keep.refl _ _) pt (by omega)
  | succ j =>
    refine w_iteF (by simp; omega) ?_
    walk_at "ws_6"
    rw [isT_tuple]
    cases d with
    | tuple ds =>
      refine w_iteF rfl ?_
      obtain ⟨a, xs, rfl, ha, hx⟩ := hd.tupX
      obtain ⟨i1, i2, i3⟩ := hn.items
      have hl := hx.length
      have hlen : xs.length ≤ w := by
        have := wAll_len (xs := ds)
        omega
      walk_at "ws_6"
      refine k_tup (by simp) fun t H1 n1 => ?_
      have ha1 := n1.get ha
      have pt1 := pt.new n1
      refine .inr (.inr (.inl ⟨a, t, xs, rfl, rfl, ha1, n1.at_, ?_⟩))
      walk_at "ws_6"
      refine w_iteb (fun c1 => ?_) (fun c1 => ?_)
      · refine w_iteT rfl ?_
        walk_at "ws_6"
        exact odd H1 N n1.keep pt1 (by omega)
      · walk_at "ws_6"
        refine o_draw pt1 (by omega) (by omega) (by omega) fun H2 z kp2 pt2 z0 z1 => ?_
        have k02 : Keep (At p) H H2 := n1.keep.trans kp2
        have ha2 := kp2.tup _ _ ha1
        walk_at "ws_6"
        refine w_iteb (fun c2 => ?_) (fun c2 => ?_)
        · walk_at "ws_6"
          exact odd H2 _ k02 pt2 (by omega)
        · walk_at "ws_6"
          have hpos : 1 ≤ xs.length := by
            cases xs with
            | nil => cases c1
            | cons _ _ => simp
          refine o_draw pt2 (by omega) (by omega) (by omega) fun H3 y kp3 pt3 y0 y1 => ?_
          obtain ⟨i, rfl⟩ := Int.eq_ofNat_of_zero_le y0
          have hi : i < xs.length := by omega
          have k03 := k02.trans kp3
          have ha3 := kp3.tup _ _ ha2
          walk_at "ws_6"
          refine o_slt ha3 fun p1 H4 k4 e4 => ?_
          walk_at "ws_6"
          have ha4 := k4.tup _ _ ha3
          have ev : xs[i]? = some xs[i] := List.getElem?_eq_getElem hi
          refine o_ixT (v := xs[i]) ha4 (by omega) ev ?_
          walk_at "ws_6"
          obtain ⟨di, edi, hdi⟩ := hx.get ev
          have hdm : di ∈ ds := List.mem_of_getElem? edi
          have k04 : Keep (At p) H H4 := k03.trans k4.of0
          have pt4 := pt3.keep k4
          have kS : ∀ {A B : Hp}, Keep (At p) A B → Keep S A B := fun k => k.mono fun b hb => by rw [hb]; exact hp
          have kk : k - 1 + 1 = k := by have := i2 di hdm; omega
          have hwi : di.weight ≤ w := by have := wAll_mem hdm; omega
          refine ⟨p, xs[i], di, S, N - 1 - 1, n, k - 1, di.weight, by rw [show (((j + 1 : Nat) : Int) - 1) = (j : Int) by omega], pt4, by omega, hp, kept_S hS k04 pt4, hdi.keep (kS k04), ⟨i1 di hdm, by have := i2 di hdm; omega, Nat.le_refl _⟩, n1k, by omega, fun H5 v kp5 pt5 gv => ?_⟩
          rw [kk] at gv
          walk_at "ws_6"
          refine k_tup (by simp; decide) fun u H6 n6 => ?_
          have e6 := n6.get (kp5.tup _ _ e4)
          refine o_catt e6 n6.at_ (Nat.le_trans (by have := cutV_length xs none (some (i : Int)); simp; omega : _ ≤ 300000) (by decide)) fun p2 H7 k7 e7 => ?_
          walk_at "ws_6"
          have ha7 := k7.tup _ _ (n6.get (kp5.tup _ _ ha4))
          refine o_slt ha7 fun p3 H8 k8 e8 => ?_
          have e78 := k8.tup _ _ e7
          have l1 := cutV_length xs none (some (i : Int))
          have l2 := cutV_length xs (some ((i : Int) + 1)) none
          refine o_catt e78 e8 (Nat.le_trans (by simp; omega : _ ≤ 300000) (by decide)) fun p4 H9 k9 e9 => ?_
          walk_at "ws_6"
          have k59 : Keep NoS H5 H9 := ((n6.keep.trans k7).trans k8).trans k9
          have k09 : Keep (At p) H H9 := (k04.trans kp5).trans k59.of0
          obtain ⟨dv, hdv, nv⟩ := gv
          have hx9 := hx.keep (kS k09)
          refine q H9 (.ref p4) k09 ((pt5.keep k59).le (by omega)) ?_
          have hil : i + 1 ≤ ds.length := by omega
          have c1 := hx9.cut none (some (i : Int))
          have c2 := hx9.cut (some ((i : Int) + 1)) none
          rw [cutD_take (by omega)] at c1
          rw [cutD_drop hil] at c2
          refine good_tup e9 ((c1.append (.cons (hdv.keep k59.of0) .nil)).append c2) (nice_tup (fun e he => ?_) (fun e he => ?_) ?_)
          · rcases List.mem_append.mp he with he | he
            · rcases List.mem_append.mp he with he | he
              · exact okD_mono (by omega) (i1 e (List.mem_of_mem_take he))
              · simp only [List.mem_cons, List.not_mem_nil, or_false] at he
                subst he
                exact nv.ok
            · exact okD_mono (by omega) (i1 e (List.mem_of_mem_drop he))
          · rcases List.mem_append.mp he with he | he
            · rcases List.mem_append.mp he with he | he
              · have := i2 e (List.mem_of_mem_take he); omega
              · simp only [List.mem_cons, List.not_mem_nil, or_false] at he
                subst he
                exact nv.dp
            · have := i2 e (List.mem_of_mem_drop he); omega
          · have w1 := wAll_take (xs := ds) (k := i)
            have edi' : ds[i] = di := by
              have := List.getElem?_eq_getElem (l := ds) (i := i) (by omega)
              rw [this] at edi
              exact Option.some.inj edi
            rw [List.drop_eq_getElem_cons (by omega), edi'] at w1
            simp only [PyData.weightAll] at w1
            rw [wAll_append, wAll_append]
            simp only [PyData.weightAll]
            have w2 := nv.wt
            have w3 : (j + 1 + 2) * w = (j + 2) * w + w := by rw [Nat.add_right_comm j 1 2, Nat.add_mul (j + 2) 1 w, Nat.one_mul]
            have w4 : (j + 2) * di.weight ≤ (j + 2) * w := Nat.mul_le_mul_left _ hwi
            omega
    | _ =>
      refine w_iteT rfl ?_
      refine w_iteT rfl ?_
      walk_at "ws_6"
      exact odd H N (Keep.refl _ _) pt (by omega)
end LB

open PySem PySem.Spec PyProof.Rows L2 LB
/-! the tactic: one step of a reading; many -/
local macro_rules | `(tactic| walk_at "w1_7") => `(tactic| first
  | with_reducible refine w_seq ?_ | with_reducible refine w_asg ?_ | with_reducible refine w_drop ?_ | with_reducible refine w_ret ?_ | with_reducible refine w_next ?_
  | with_reducible refine w_ifs ?_ | with_reducible refine w_forR1 ?_ | with_reducible refine w_forR2 ?_ | with_reducible refine w_forL ?_ | with_reducible refine w_forT ?_ | with_reducible refine w_name ?_ | with_reducible refine w_sub ?_ | with_reducible refine w_par ?_
  | with_reducible refine w_var (by with_unfolding_all rfl) ?_ | with_reducible refine w_c ?_ | with_reducible refine w_op ?_ | with_reducible refine w_un ?_
  | with_reducible refine w_test ?_ | with_reducible refine w_tb ?_ | with_reducible refine w_nil ?_ | with_reducible refine w_cons ?_ | with_reducible refine w_cb ?_ | with_reducible refine w_call ?_
  | with_reducible refine w_not ?_ | with_reducible refine w_and ?_ | with_reducible refine w_or ?_ | with_reducible refine w_andV ?_ | with_reducible refine w_orV ?_ | with_reducible refine w_notV ?_
  | with_reducible refine w_ife ?_ | with_reducible refine w_chain ?_ | with_reducible refine w_bm ?_ | with_reducible refine w_sl ?_ | with_reducible refine w_part ?_ | with_reducible refine w_nopart ?_
  | with_reducible refine w_exb ?_ | with_reducible refine w_exi ?_ | with_reducible refine w_ex2 ?_ | with_reducible refine w_ex3 ?_ | with_reducible refine w_lstrg ?_ | with_reducible refine w_rg2 ?_ | with_reducible refine w_rg1 ?_ | with_reducible refine w_exij ?_ | with_reducible refine w_tup ?_ | with_reducible refine w_lst ?_
  | with_reducible refine o_add ?_ | with_reducible refine o_sub ?_ | with_reducible refine o_neg ?_ | with_reducible refine o_lt ?_ | with_reducible refine o_le ?_ | with_reducible refine o_gt ?_ | with_reducible refine o_ge ?_
  | with_reducible refine o_ixL (by assumption) (by decide) (by with_unfolding_all rfl) ?_ | with_reducible refine o_ixT (by assumption) (by decide) (by with_unfolding_all rfl) ?_
  | with_reducible refine o_mod (by first | decide | omega) ?_ | with_reducible refine o_mul (by first | decide | omega) ?_ | with_reducible refine o_fdv (by first | decide | omega) (by first | decide | omega) ?_ | with_reducible refine o_setL (by assumption) (by decide) (by simp) ?_
  | with_reducible refine oo_addi ?_ | with_reducible refine oo_sub ?_ | with_reducible refine oo_neg ?_ | with_reducible refine w_rev ?_ | with_reducible refine w_m0 ?_
  | with_reducible refine w_par3 ?_ | with_reducible refine w_tyl (by assumption) ?_
  | with_reducible refine o_abs ?_ | with_reducible refine o_eqs (by with_unfolding_all rfl) ?_ | with_reducible refine o_nes (by with_unfolding_all rfl) ?_ | with_reducible refine o_max2 ?_ | with_reducible refine o_min2 ?_ | with_reducible refine o_isiX (by assumption) ?_ | with_reducible refine o_lenl (by assumption) ?_ | with_reducible refine o_lent (by assumption) ?_ | with_reducible refine o_int1b ?_)
local macro_rules | `(tactic| walk_at "ws_7") => `(tactic| repeat (first | walk_at "w1_7" | dsimp only [List.set_cons_zero, List.set_cons_succ]))
namespace LB
def spRight : Sp := fun vs H Q _ => ∃ (p : Addr) (N : Nat), vs = [.ref p] ∧ Pot H p N ∧ 3000 ≤ N ∧ ∀ H', Keep (At p) H H' → Q (.bl true) H'
theorem spRight_arity {vs : List V} {H : Hp} {Q : VK} {E : XK} (h : spRight vs H Q E) : vs.length = 1 := by obtain ⟨_, _, rfl, _⟩ := h; rfl

def t__law_right_1 (K : PySem.W.Frag) : TS :=
  (tSeq (tAsg (tCall (spBentN 2) [] E0 (tCons (tVar 0) (tCons (tVar 3) (tCons (tC (V.int 2)) tNil)))) (gName 5))
    (tDrop (tBM K "list" rExtendA (tVar 2) (tCons (tLst (tCons (tVar 5) (tCons (tCall (spBentN 2) [] E0 (tCons (tVar 0) (tCons (tVar 5) (tCons (tC (V.int 2)) tNil)))) tNil))) tNil))))

def t__law_right_2 (K : PySem.W.Frag) : TS :=
  (tSeq (tDrop (tBM K "list" rAppend (tVar 2) (tCons (tVar 3) tNil)))
    (tFor (iRng1 (tCons (tC (V.int 4)) tNil)) (gName 4)
    (t__law_right_1 K)))

def t__law_right_3 (K : PySem.W.Frag) : TS :=
  (tSeq (tPar 7 8 (tCons (tCB rRepr (tCons (tVar 6) tNil)) (tCons (tCall spIsCall [] E0 (tCons (tVar 6) tNil)) tNil)))
    (tIfS (tOr (tTest (tOp (rNeA K) (tCB rRepr (tCons (tLst (tCons (tCall spIsOp [] E0 (tCons (tVar 6) tNil)) (tCons (tCallW spIsOp (fun {α : Type} (us ws : List α) => [(ws.drop 0).head?].filterMap id) 1 E0 (tCons (tVar 6) tNil)) tNil))) tNil)) (tCB rRepr (tCons (tLst (tCons (tVar 8) (tCons (tVar 8) tNil))) tNil)))) (tTest (tOp (rNeA K) (tCB rRepr (tCons (tVar 6) tNil)) (tVar 7))))
    (tRet (tC (V.bl false))) tNext))

def t__law_right (K : PySem.W.Frag) : TS :=
  (tSeq (tAsg (tOp rPowI (tC (V.int 10)) (tC (V.int 15))) (gName 1))
    (tSeq (tAsg (tLst (tCons (tTup (tCons (tC (V.str "write")) (tCons (tOp rPowI (tC (V.int 10)) (tC (V.int 9))) (tCons (tUn rNegI (tVar 1)) (tCons (tVar 1) tNil))))) (tCons (tTup (tCons (tC (V.str "write")) (tCons (tOp (rAddA K) (tOp rPowI (tC (V.int 10)) (tC (V.int 9))) (tC (V.int 1))) (tCons (tC (V.int 0)) (tCons (tC (V.int 0)) tNil))))) (tCons (tTup (tCons (tC (V.str "read")) (tCons (tC (V.int 0)) (tCons (tVar 1) (tCons (tVar 1) tNil))))) (tCons (tTup (tCons (tC (V.str "write")) (tCons (tC (V.int 0)) (tCons (tC (V.int 0)) (tCons (tC (V.int 0)) tNil))))) tNil))))) (gName 2))
    (tSeq (tAsg (tOp (rAddA K) (tVar 2) (tLst (tCons (tTup (tCons (tC (V.str "read")) (tCons (tC (V.int 0)) (tCons (tOp rSubI (tUn rNegI (tVar 1)) (tC (V.int 1))) (tCons (tC (V.int 0)) tNil))))) (tCons (tTup (tCons (tC (V.str "read")) (tCons (tC (V.int 0)) (tCons (tC (V.int 0)) (tCons (tOp (rAddA K) (tVar 1) (tC (V.int 1))) tNil))))) (tCons (tTup (tCons (tC (V.str "read")) (tCons (tUn rNegI (tC (V.int 1))) (tCons (tC (V.int 0)) (tCons (tC (V.int 0)) tNil))))) (tCons (tTup (tCons (tC (V.str "read")) (tCons (tC (V.int 3)) (tCons (tC (V.int 1)) (tCons (tC (V.int 0)) tNil))))) tNil)))))) (gName 2))
    (tSeq (tAsg (tOp (rAddA K) (tVar 2) (tLst (tCons (tTup (tCons (tC (V.str "read")) (tCons (tC (V.bl true)) (tCons (tC (V.int 0)) (tCons (tC (V.int 0)) tNil))))) (tCons (tTup (tCons (tC (V.str "read")) (tCons (tC (V.int 1)) (tCons (tC (V.bl false)) (tCons (tC (V.int 0)) tNil))))) (tCons (tTup (tCons (tC (V.str "read")) (tCons (tC (V.int 1)) (tCons (tC (V.int 0)) (tCons (tC (V.bl true)) tNil))))) (tCons (tLst (tCons (tC (V.str "read")) (tCons (tC (V.int 1)) (tCons (tC (V.int 0)) (tCons (tC (V.int 0)) tNil))))) (tCons (tC (V.str "read")) (tCons (tC V.non) tNil)))))))) (gName 2))
    (tSeq (tAsg (tOp (rAddA K) (tVar 2) (tLst (tCons (tTup (tCons (tC (V.str "read")) (tCons (tC (V.int 1)) (tCons (tC (V.int 0)) tNil)))) (tCons (tTup (tCons (tC (V.str "read")) (tCons (tC (V.int 1)) (tCons (tC (V.int 0)) (tCons (tC (V.int 0)) (tCons (tC (V.int 0)) tNil)))))) (tCons (tTup (tCons (tC (V.str "Read")) (tCons (tC (V.int 1)) (tCons (tC (V.int 0)) (tCons (tC (V.int 0)) tNil))))) (tCons (tTup (tCons (tC (V.int 0)) (tCons (tC (V.int 1)) (tCons (tC (V.int 0)) (tCons (tC (V.int 0)) tNil))))) (tCons (tTup tNil) (tCons (tLst tNil) (tCons tDNewK (tCons (tC (V.int 0)) (tCons (tC (V.bl true)) (tCons (tC (V.str "")) tNil)))))))))))) (gName 2))
    (tSeq (tDrop (tBM K "list" rAppend (tVar 2) (tCons (tTup (tCons (tTup (tCons (tC (V.str "read")) tNil)) (tCons (tC (V.int 1)) (tCons (tC (V.int 0)) (tCons (tC (V.int 0)) tNil))))) tNil)))
    (tSeq (tFor (iSeq K (tOp (rAddA K) (tCall spWild [] E0 (tCons (tVar 0) (tCons (tC (V.int 12)) (tCons (tC (V.int 20)) tNil)))) (tCall spTrue [] E0 (tCons (tVar 0) (tCons (tC (V.int 6)) (tCons (tC (V.int 3)) (tCons (tC (V.int 5)) tNil))))))) (gName 3)
    (t__law_right_2 K))
    (tSeq (tFor (iSeq K (tVar 2)) (gName 6)
    (t__law_right_3 K))
    (tRet (tC (V.bl true)))))))))))

def flatOk : V → Bool
  | .non => true
  | .bl _ => true
  | .int i => decide (i.natAbs ≤ 10 ^ 30)
  | .str x => x.cps.toList.all (fun c => decide (c < 128)) && decide (x.length ≤ 30)
  | _ => false
theorem good_flat {S : Addr → Prop} {H : Hp} {n k w : Nat} {v : V} (h : flatOk v = true) (hn : n ≤ 10 ^ 30) (hw : 101 ≤ w) : Good S H n k w v := by
  cases v with
  | non => exact good_non
  | bl b => exact good_bl
  | int i => exact good_int (by simp only [flatOk, decide_eq_true_eq] at h; omega) hn hw
  | str x =>
    simp only [flatOk, Bool.and_eq_true, decide_eq_true_eq] at h
    exact good_lit h.1 h.2 (by omega)
  | _ => cases h
theorem good_tupG {S : Addr → Prop} {H : Hp} {n k w m : Nat} {a : Addr} {xs : List V} (e : H a = some (.tup xs)) (h : ∀ v ∈ xs, Good S H n k m v) (hw : xs.length * (m + 1) ≤ w) : Good S H n (k + 1) w (.ref a) := by
  obtain ⟨ds, h1, h2⟩ := dds_of_all (P := Nice n k m) h
  refine good_tup e h1 (nice_tup (fun d hd => (h2 d hd).ok) (fun d hd => (h2 d hd).dp) (Nat.le_trans ?_ hw))
  rw [h1.length]
  clear h1 hw h e
  induction ds with
  | nil => simp [PyData.weightAll]
  | cons d ds ih =>
    have h3 := (h2 d List.mem_cons_self).wt
    have h4 := ih fun e he => h2 e (List.mem_cons_of_mem _ he)
    simp only [PyData.weightAll, List.length_cons]
    rw [Nat.add_mul, Nat.one_mul]
    omega
theorem good_lstG {S : Addr → Prop} {H : Hp} {n k w m : Nat} {a : Addr} {xs : List V} (ha : ¬ S a) (e : H a = some (.lst xs)) (h : ∀ v ∈ xs, Good S H n k m v) (hw : xs.length * (m + 1) ≤ w) : Good S H n (k + 1) w (.ref a) := by
  obtain ⟨ds, h1, h2⟩ := dds_of_all (P := Nice n k m) h
  refine good_lst ha e h1 (nice_list (fun d hd => (h2 d hd).ok) (fun d hd => (h2 d hd).dp) (Nat.le_trans ?_ hw))
  rw [h1.length]
  clear h1 hw h e
  induction ds with
  | nil => simp [PyData.weightAll]
  | cons d ds ih =>
    have h3 := (h2 d List.mem_cons_self).wt
    have h4 := ih fun e he => h2 e (List.mem_cons_of_mem _ he)
    simp only [PyData.weightAll, List.length_cons]
    rw [Nat.add_mul, Nat.one_mul]
    omega
theorem big2 : 2 ≤ 10 ^ 30 := by decide +kernel
/-- a tuple of scalars -/
theorem good_T {S : Addr → Prop} {H : Hp} {a : Addr} {xs : List V} (e : H a = some (.tup xs)) (h : xs.all flatOk = true) (hl : xs.length ≤ 5) : Good S H 2 3 7178 (.ref a) := by
  refine (good_tupG (n := 2) (k := 0) (m := 101) (w := 510) e (fun v hv => good_flat ((List.all_eq_true.mp h) v hv) big2 (by omega)) ?_).mono (by omega) (by omega) (by omega)
  have : xs.length * (101 + 1) ≤ 5 * (101 + 1) := Nat.mul_le_mul_right _ hl
  omega
theorem good_L {S : Addr → Prop} {H : Hp} {a : Addr} {xs : List V} (ha : ¬ S a) (e : H a = some (.lst xs)) (h : xs.all flatOk = true) (hl : xs.length ≤ 5) : Good S H 2 3 7178 (.ref a) := by
  refine (good_lstG (n := 2) (k := 0) (m := 101) (w := 510) ha e (fun v hv => good_flat ((List.all_eq_true.mp h) v hv) big2 (by omega)) ?_).mono (by omega) (by omega) (by omega)
  have : xs.length * (101 + 1) ≤ 5 * (101 + 1) := Nat.mul_le_mul_right _ hl
  omega
theorem good_F {S : Addr → Prop} {H : Hp} {v : V} (h : flatOk v = true) : Good S H 2 3 7178 v := good_flat h big2 (by omega)
theorem op_nice {o : Op} (h : o.ok) : Nice 0 1 408 o.dat := by
  obtain ⟨_, h1, h2, h3, h4, h5⟩ := h
  have b : ∀ i : Int, -1000000000000000 ≤ i → i ≤ 1000000000000000 → okD 0 (.int i) ∧ (PyData.int i).weight ≤ 101 := fun i a c => by
    have : (1000000000000000 : Nat) ≤ 10 ^ 30 := by decide +kernel
    have q := nice_int (n := 0) (k := 0) (w := 101) (i := i) (by omega) (by omega) (by omega)
    exact ⟨q.ok, q.wt⟩
  have s : okD 0 (.str (kindS o.w)) ∧ (PyData.str (kindS o.w)).weight ≤ 101 := by
    simp only [okD, PyData.weight]
    cases o.w
    · exact ⟨ascii_lit (by decide), by decide⟩
    · exact ⟨ascii_lit (by decide), by decide⟩
  have v1 := b o.v (by omega) (by omega)
  have v2 := b o.b (by omega) (by omega)
  have v3 := b o.e (by omega) (by omega)
  refine nice_tup (fun d hd => ?_) (fun d hd => ?_) ?_
  · simp only [List.mem_cons, List.not_mem_nil, or_false] at hd
    rcases hd with rfl | rfl | rfl | rfl
    · exact s.1
    · exact v1.1
    · exact v2.1
    · exact v3.1
  · simp only [List.mem_cons, List.not_mem_nil, or_false] at hd
    rcases hd with rfl | rfl | rfl | rfl <;> simp only [PyData.depth] <;> omega
  · have := s.2
    have := v1.2
    have := v2.2
    have := v3.2
    simp only [PyData.weightAll]
    omega
theorem Good.toS {S S' : Addr → Prop} {H : Hp} {n k w : Nat} {v : V} (h : Good S H n k w v) (m : ∀ b, H b ≠ none → S' b → S b) : Good S' H n k w v := let ⟨d, h1, h2⟩ := h; ⟨d, h1.mono m, h2⟩
theorem o_repr {S : Addr → Prop} {H : Hp} {Q : VK} {x : V} {d : PyData} {n k w : Nat} (hd : DD S H x d) (hn : Nice n k w d) (h1 : n ≤ 1000) (h2 : k ≤ 60) (h3 : w ≤ 300000) (q : Q (.str d.shown) H) : rRepr [x] H Q :=
  have h := hn.shows h1 h2 h3
  ⟨x, d, S, rfl, hd, h.1, h.2.1, h.2.2, q⟩
theorem w_callW {sp : Sp} {pi : {α : Type} → List α → List α → List α} {m : Nat} {E : XK} {tk : TA} {σ : LB.St} {H : Hp} {Q : VK} (h : tk σ H fun zs H1 => zs.length = m ∧ sp (pi [] zs) H1 Q E) : tCallW sp pi m E tk σ H Q := h
theorem bools_nice {b c : Bool} : Nice 0 1 2 (.list [.bool b, .bool c]) := by
  refine nice_list (fun d hd => ?_) (fun d hd => ?_) (by simp only [PyData.weightAll, PyData.weight]; omega)
  · simp only [List.mem_cons, List.not_mem_nil, or_false] at hd
    rcases hd with rfl | rfl <;> simp only [okD]
  · simp only [List.mem_cons, List.not_mem_nil, or_false] at hd
    rcases hd with rfl | rfl <;> simp only [PyData.depth] <;> omega
theorem some_more {K : PySem.W.Frag} {H : Hp} {P : Hp → V → Prop} {R : V → Hp → Prop} {l m : Addr} {xs ys : List V} (hP : ∀ {v : V} {H H1 : Hp}, P H v → Keep NoS H H1 → P H1 v)
    (e1 : H l = some (.lst xs)) (e2 : H m = some (.lst ys)) (z1 : xs.length ≤ 100) (z2 : ys.length ≤ 100) (h1 : ∀ v ∈ xs, P H v) (h2 : ∀ v ∈ ys, P H v)
    (r : ∀ q H9 zs, New H H9 q (.lst zs) → zs.length = xs.length + ys.length → (∀ v ∈ zs, P H v) → R (.ref q) H9) :
    rAddA K (.ref l) (.ref m) H R :=
  o_addL e1 e2 (Nat.le_trans (by omega : _ ≤ 1000) (by decide)) fun q2 H2 n2 => r q2 H2 _ n2 (by rw [List.length_append]) (all_app h1 h2)
/-- loop 1: what holds between two turns -/
def RI (p s : Addr) (H0 : Hp) (x3 : Option V) (σ : LB.St) (H' : Hp) (n M : Nat) : Prop := ∃ (zs : List V) (x4 x5 : Option V), σ = [some (.ref p), some (.int 1000000000000000), some (.ref s), x3, x4, x5, none, none, none] ∧
  Keep (At p) H0 H' ∧ Pot H' p M ∧ H' s = some (.lst zs) ∧ zs.length ≤ n ∧ ∀ v ∈ zs, Good (Or2 p s) H' 2 3 7178 v
theorem pure__law_right {K : PySem.W.Frag} {vs : List V} {H : Hp} {Q : VK} {E : XK} (h : spRight vs H Q E) : t__law_right K { nx := fun _ H' => Q .non H', rt := Q } (start ["pot", "far", "some", "one", "turn", "bent", "thing", "kept", "due"] vs) H := by
  obtain ⟨p, N, rfl, pt, hN, q⟩ := h
  show t__law_right K _ [some (.ref p), none, none, none, none, none, none, none, none] H
  unfold t__law_right
  walk_at "ws_7"
  refine o_pow ⟨by decide, by decide +kernel⟩ ?_
  walk_at "ws_7"
  rw [show (10 : Int) ^ (15 : Int).toNat = 1000000000000000 by decide +kernel]
  refine o_pow ⟨by decide, by decide +kernel⟩ ?_
  walk_at "ws_7"
  rw [show (10 : Int) ^ (9 : Int).toNat = 1000000000 by decide +kernel]
  refine k_tup (by simp; decide) fun a1 A1 m1 => ?_
  walk_at "ws_7"
  refine o_pow ⟨by decide, by decide +kernel⟩ ?_
  walk_at "ws_7"
  rw [show (10 : Int) ^ (9 : Int).toNat = 1000000000 by decide +kernel]
  refine k_tup (by simp; decide) fun a2 A2 m2 => ?_
  walk_at "ws_7"
  refine k_tup (by simp; decide) fun a3 A3 m3 => ?_
  walk_at "ws_7"
  refine k_tup (by simp; decide) fun a4 A4 m4 => ?_
  walk_at "ws_7"
  refine k_lst (by simp; decide) fun l1 A5 m5 => ?_
  have g1 : ∀ v ∈ [V.ref a1, V.ref a2, V.ref a3, V.ref a4], Good (At p) A5 2 3 7178 v :=
    all_cons (good_T (m5.get (m4.get (m3.get (m2.get m1.at_)))) (by decide +kernel) (by simp)) (all_cons (good_T (m5.get (m4.get (m3.get m2.at_))) (by decide +kernel) (by simp))
      (all_cons (good_T (m5.get (m4.get m3.at_)) (by decide +kernel) (by simp)) (all_cons (good_T (m5.get m4.at_) (by decide +kernel) (by simp)) all_nil)))
  have kA : Keep NoS H A5 := (((m1.keep.trans m2.keep).trans m3.keep).trans m4.keep).trans m5.keep
  have hl1 := m5.at_
  generalize hx1 : [V.ref a1, V.ref a2, V.ref a3, V.ref a4] = xs1 at g1 hl1 ⊢
  have z1 : xs1.length = 4 := by rw [← hx1]; rfl
  clear m1 m2 m3 m4 m5
  walk_at "ws_7"
  -- the second four
  refine k_tup (by simp; decide) fun b1 B1 m1 => ?_
  walk_at "ws_7"
  refine k_tup (by simp; decide) fun b2 B2 m2 => ?_
  walk_at "ws_7"
  refine k_tup (by simp; decide) fun b3 B3 m3 => ?_
  walk_at "ws_7"
  refine k_tup (by simp; decide) fun b4 B4 m4 => ?_
  walk_at "ws_7"
  refine k_lst (by simp; decide) fun l2 B5 m5 => ?_
  walk_at "ws_7"
  have kB : Keep NoS A5 B5 := (((m1.keep.trans m2.keep).trans m3.keep).trans m4.keep).trans m5.keep
  refine some_more (P := fun H v => Good (At p) H 2 3 7178 v) (fun h e => h.keep e.of0) (kB.all _ _ id hl1) m5.at_ (by omega) (by simp) (fun v hv => (g1 v hv).keep kB.of0)
    (all_cons (good_T (m5.get (m4.get (m3.get (m2.get m1.at_)))) (by decide +kernel) (by simp)) (all_cons (good_T (m5.get (m4.get (m3.get m2.at_))) (by decide +kernel) (by simp))
      (all_cons (good_T (m5.get (m4.get m3.at_)) (by decide +kernel) (by simp)) (all_cons (good_T (m5.get m4.at_) (by decide +kernel) (by simp)) all_nil)))) fun l3 B6 xs2 n6 z2 g2 => ?_
  have k2 : Keep NoS H B6 := (kA.trans kB).trans n6.keep
  have g2 : ∀ v ∈ xs2, Good (At p) B6 2 3 7178 v := fun v hv => (g2 v hv).keep n6.keep
  have hl3 := n6.at_
  have z2 : xs2.length = 8 := by rw [z2, z1]; rfl
  clear m1 m2 m3 m4 m5 kA kB hl1 g1 hx1 n6
  walk_at "ws_7"
  -- the third
  refine k_tup (by simp; decide) fun c1 C1 m1 => ?_
  walk_at "ws_7"
  refine k_tup (by simp; decide) fun c2 C2 m2 => ?_
  walk_at "ws_7"
  refine k_tup (by simp; decide) fun c3 C3 m3 => ?_
  walk_at "ws_7"
  refine k_lst (by simp; decide) fun c4 C4 m4 => ?_
  walk_at "ws_7"
  refine k_lst (by simp; decide) fun l4 C5 m5 => ?_
  walk_at "ws_7"
  have hP : ∀ b, At p b → H b ≠ none := fun b hb e => by
    rw [hb] at e
    obtain ⟨ys, hy⟩ := pt.some
    rw [hy] at e
    cases e
  have kC3 : Keep NoS B6 C3 := (m1.keep.trans m2.keep).trans m3.keep
  have kC : Keep NoS B6 C5 := (kC3.trans m4.keep).trans m5.keep
  refine some_more (P := fun H v => Good (At p) H 2 3 7178 v) (fun h e => h.keep e.of0) (kC.all _ _ id hl3) m5.at_ (by omega) (by simp) (fun v hv => (g2 v hv).keep kC.of0)
    (all_cons (good_T (m5.get (m4.get (m3.get (m2.get m1.at_)))) (by decide +kernel) (by simp)) (all_cons (good_T (m5.get (m4.get (m3.get m2.at_))) (by decide +kernel) (by simp))
      (all_cons (good_T (m5.get (m4.get m3.at_)) (by decide +kernel) (by simp)) (all_cons (good_L (not_S hP (nos_free (k2.trans kC3) m4.no)) (m5.get m4.at_) (by decide +kernel) (by simp)) (all_cons (good_F (by decide)) (all_cons (good_F (by decide)) all_nil)))))) fun l5 C6 xs3 n6 z3 g3 => ?_
  have k3 : Keep NoS H C6 := (k2.trans kC).trans n6.keep
  have g3 : ∀ v ∈ xs3, Good (At p) C6 2 3 7178 v := fun v hv => (g3 v hv).keep n6.keep
  have hl5 := n6.at_
  have z3 : xs3.length = 14 := by rw [z3, z2]; rfl
  clear m1 m2 m3 m4 m5 kC3 kC k2 hl3 g2 n6
  walk_at "ws_7"
  -- the fourth
  refine k_tup (by simp; decide) fun d1 D1 m1 => ?_
  walk_at "ws_7"
  refine k_tup (by simp; decide) fun d2 D2 m2 => ?_
  walk_at "ws_7"
  refine k_tup (by simp; decide) fun d3 D3 m3 => ?_
  walk_at "ws_7"
  refine k_tup (by simp; decide) fun d4 D4 m4 => ?_
  walk_at "ws_7"
  refine k_tup (by simp) fun d5 D5 m5 => ?_
  walk_at "ws_7"
  refine k_lst (by simp) fun d6 D6 m6 => ?_
  walk_at "ws_7"
  refine w_dnew fun d7 D7 m7 => ?_
  walk_at "ws_7"
  refine k_lst (by simp; decide) fun l6 D8 m8 => ?_
  walk_at "ws_7"
  have kD5 : Keep NoS C6 D5 := (((m1.keep.trans m2.keep).trans m3.keep).trans m4.keep).trans m5.keep
  have kD : Keep NoS C6 D8 := ((kD5.trans m6.keep).trans m7.keep).trans m8.keep
  refine some_more (P := fun H v => Good (At p) H 2 3 7178 v) (fun h e => h.keep e.of0) (kD.all _ _ id hl5) m8.at_ (by omega) (by simp) (fun v hv => (g3 v hv).keep kD.of0)
    (all_cons (good_T (m8.get (m7.get (m6.get (m5.get (m4.get (m3.get (m2.get m1.at_))))))) (by decide +kernel) (by simp)) (all_cons (good_T (m8.get (m7.get (m6.get (m5.get (m4.get (m3.get m2.at_)))))) (by decide +kernel) (by simp))
      (all_cons (good_T (m8.get (m7.get (m6.get (m5.get (m4.get m3.at_))))) (by decide +kernel) (by simp)) (all_cons (good_T (m8.get (m7.get (m6.get (m5.get m4.at_)))) (by decide +kernel) (by simp)) (all_cons (good_T (m8.get (m7.get (m6.get m5.at_))) (by decide +kernel) (by simp))
        (all_cons (good_L (not_S hP (nos_free (k3.trans kD5) m6.no)) (m8.get (m7.get m6.at_)) (by decide +kernel) (by simp)) (all_cons ⟨_, .dct (not_S hP (nos_free (k3.trans (kD5.trans m6.keep)) m7.no)) (m8.get m7.at_) .nil, nice_dict⟩ (all_cons (good_F (by decide)) (all_cons (good_F (by decide)) (all_cons (good_F (by decide)) all_nil)))))))))) fun s D9 xs4 n9 z4 g4 => ?_
  have k4 : Keep NoS H D8 := k3.trans kD
  have s0 : H s = none := nos_free k4 n9.no
  have ps : p ≠ s := pt.ne s0
  have g4 : ∀ v ∈ xs4, Good (Or2 p s) D9 2 3 7178 v := fun v hv => ((g4 v hv).toS (S' := Or2 p s) fun b hb e => by
    rcases e with e | e
    · exact e
    · rw [e, n9.no] at hb
      exact (hb rfl).elim).keep n9.keep
  have hs9 := n9.at_
  have z4 : xs4.length = 24 := by rw [z4, z3]; rfl
  have k9 : Keep NoS H D9 := k4.trans n9.keep
  clear m1 m2 m3 m4 m5 m6 m7 m8 kD5 kD k3 k4 hl5 g3 n9
  walk_at "ws_7"
  walk_at "ws_7"
  refine k_tup (by simp; decide) fun e1 E1 m1 => ?_
  walk_at "ws_7"
  refine k_tup (by simp; decide) fun e2 E2 m2 => ?_
  walk_at "ws_7"
  have hsE := m2.get (m1.get hs9)
  refine o_app hsE (Nat.lt_of_le_of_lt (by omega : xs4.length ≤ 1000) (by decide)) fun E3 p3 => ?_
  walk_at "ws_7"
  have kE : Keep (At p) H E3 := p3.keep0 ((k9.trans m1.keep).trans m2.keep).of0 s0 hsE
  have kE9 : Keep (Or2 p s) D9 E3 := (m1.keep.trans m2.keep).trans (p3.keep (.inr rfl) hsE)
  have gN : Good (Or2 p s) E2 2 3 7178 (.ref e2) := by
    have i1 : Good (Or2 p s) E2 2 1 510 (.ref e1) := good_tupG (m := 101) (m2.get m1.at_) (all_cons (good_flat (by decide) big2 (by omega)) all_nil) (by simp)
    refine (good_tupG (k := 1) (m := 510) (w := 2044) m2.at_ (all_cons i1 (all_cons (good_flat (by decide) big2 (by omega)) (all_cons (good_flat (by decide) big2 (by omega)) (all_cons (good_flat (by decide) big2 (by omega)) all_nil)))) (by simp)).mono (by omega) (by omega) (by omega)
  have hs3 := p3.at_
  have g5 : ∀ v ∈ xs4 ++ [V.ref e2], Good (Or2 p s) E3 2 3 7178 v := all_app (fun v hv => (g4 v hv).keep kE9) (all_cons (gN.keep (p3.keep (.inr rfl) hsE)) all_nil)
  have z5 : (xs4 ++ [V.ref e2]).length = 25 := by rw [List.length_append, z4]; rfl
  generalize hx5 : xs4 ++ [V.ref e2] = xs5 at hs3 g5 z5
  have pt3 : Pot E3 p N := ((pt.keep ((k9.trans m1.keep).trans m2.keep)).put p3 ps)
  clear g4 gN kE9 hsE p3 m1 m2 hs9 k9 hx5
  -- loop 1
  refine w_forSt ?_
  walk_at "ws_7"
  refine ⟨p, 12, 20, N, rfl, pt3, by omega, by omega, by omega, by omega, by simp; omega, fun F1 t1 ops1 kp1 pt1 dd1 lo1 hl1 ho1 => ?_⟩
  walk_at "ws_7"
  refine ⟨p, 6, 3, 5, N - 104, rfl, pt1, by omega, by omega, by omega, by omega, by omega, by omega, by simp; omega, fun F2 t2 ops2 kp2 pt2 dd2 lo2 hl2 ho2 => ?_⟩
  walk_at "ws_7"
  have dd1 := dd1.keep (kp2.mono fun _ _ => trivial)
  obtain ⟨u1, ys1, eu1, hy1, dy1⟩ := dd1.tupX
  obtain ⟨u2, ys2, eu2, hy2, dy2⟩ := dd2.tupX
  injection eu1 with eu1
  subst eu1
  injection eu2 with eu2
  subst eu2
  have yl1 : ys1.length ≤ 12 := by rw [dy1.length, List.length_map]; simpa using hl1
  have yl2 : ys2.length = 6 := by rw [dy2.length, List.length_map]; simpa using hl2
  refine o_catt hy1 hy2 (Nat.le_trans (by omega : _ ≤ 1000) (by decide)) fun c F3 k3 hc => ?_
  have hops : ∀ v ∈ ys1 ++ ys2, ∃ d, DD All F3 v d ∧ Nice 0 1 408 d := by
    refine all_app (fun v hv => ?_) fun v hv => ?_
    · obtain ⟨d, h1, h2⟩ := all_of_dds (P := Nice 0 1 408) dy1 (fun d hd => by
        obtain ⟨o, ho, rfl⟩ := List.mem_map.mp hd
        exact op_nice (lo1.1 o ho)) v hv
      exact ⟨d, h1.keep k3.of0, h2⟩
    · obtain ⟨d, h1, h2⟩ := all_of_dds (P := Nice 0 1 408) dy2 (fun d hd => by
        obtain ⟨o, ho, rfl⟩ := List.mem_map.mp hd
        exact op_nice (lo2.1 o ho)) v hv
      exact ⟨d, h1.keep k3.of0, h2⟩
  have yl : (ys1 ++ ys2).length ≤ 18 := by rw [List.length_append]; omega
  generalize hys : ys1 ++ ys2 = ys at hc hops yl
  have kp : Keep (At p) E3 F3 := (kp1.trans kp2).trans k3.of0
  have hS : ∀ {A B : Hp}, Keep (At p) A B → Keep (Or2 p s) A B := fun k => k.mono fun b hb => .inl hb
  refine k_Ft hc (fun i σ H' => (∃ x3, RI p s H x3 σ H' (25 + 9 * i) (N - 160 - 72 * i)) ∧ Keep All F3 H') ⟨⟨_, xs5, _, _, rfl, kE.trans kp, (pt2.keep k3).le (by simp; omega), kp.all _ _ (fun e => ps e.symm) hs3, by omega, fun v hv => (g5 v hv).keep (hS kp)⟩, Keep.refl _ _⟩ (fun i σ H' _ h => h.2.tup _ _ hc) ?_ ?_
  · rintro i one σ G0 hi ⟨⟨x3, zs, x4, x5, rfl, kG, ptG, hsG, zl, gG⟩, kF⟩
    have hil : i < ys.length := by
      by_cases h : i < ys.length
      · exact h
      · rw [List.getElem?_eq_none (by omega)] at hi; cases hi
    obtain ⟨d, dd, nd⟩ := hops one (List.mem_of_getElem? hi)
    walk_at "ws_7"
    unfold t__law_right_2
    walk_at "ws_7"
    walk_at "ws_7"
    refine o_app hsG (Nat.lt_of_le_of_lt (by omega : zs.length ≤ 1000) (by decide)) fun G1 p1 => ?_
    walk_at "ws_7"
    have kS1 : Keep (Or2 p s) G0 G1 := p1.keep (.inr rfl) hsG
    have dd1 : DD All G1 one d := (dd.keep kF).keep (p1.keep (S := All) trivial hsG)
    refine k_R1 (by omega) (by omega) (fun j σ H' => RI p s H (some one) σ H' (25 + 9 * i + 1 + 2 * j) (N - 160 - 72 * i - 18 * j) ∧ Keep All G1 H') ⟨⟨zs ++ [one], _, _, rfl, p1.keep0 kG s0 hsG, ptG.put p1 ps, p1.at_, by rw [List.length_append]; simp; omega, all_app (fun v hv => (gG v hv).keep kS1) (all_cons ⟨d, dd1.mono (fun _ _ _ => trivial), nd.mono (by omega) (by omega) (by omega)⟩ all_nil)⟩, Keep.refl _ _⟩ ?_ ?_
    · rintro j σ J0 hj ⟨⟨zs, x4, x5, rfl, kJ, ptJ, hsJ, zlJ, gJ⟩, kG1⟩
      have hj4 : j < 4 := by simpa using hj
      have hE : ∀ {J : Hp} {n : Nat} {ws : List V}, Pot J p n → J s = some (.lst ws) → ∀ b, Or2 p s b → J b ≠ none := fun a1 a2 b hb e => by
        rcases hb with hb | hb
        · rw [hb] at e
          obtain ⟨ys, hy⟩ := a1.some
          rw [hy] at e
          cases e
        · rw [hb, a2] at e
          cases e
      walk_at "ws_7"
      unfold t__law_right_1
      walk_at "ws_7"
      refine ⟨p, one, d, Or2 p s, _, 0, 1, 408, rfl, ptJ, by omega, .inl rfl, hE ptJ hsJ, (dd1.keep kG1).mono (fun _ _ _ => trivial), nd, by omega, by omega, fun J1 v kp1 pt1 gv => ?_⟩
      have hs1 := kp1.all _ _ (fun e => ps e.symm) hsJ
      walk_at "ws_7"
      walk_at "ws_7"
      obtain ⟨dv, hdv, nv⟩ := gv
      refine ⟨p, v, dv, Or2 p s, _, 1, 2, 1762, rfl, pt1, by omega, .inl rfl, hE pt1 hs1, hdv, nv, by omega, by omega, fun J2 u kp2 pt2 gu => ?_⟩
      walk_at "ws_7"
      refine k_lst (by simp; decide) fun l7 J3 n3 => ?_
      walk_at "ws_7"
      have hs3 := n3.get (kp2.all _ _ (fun e => ps e.symm) hs1)
      refine o_extend hs3 n3.at_ (Nat.le_trans (by simp; omega : _ ≤ 1000) (by decide)) fun J4 p4 => ?_
      walk_at "ws_7"
      have kp4 : Keep (Or2 p s) J3 J4 := p4.keep (.inr rfl) hs3
      refine ⟨⟨zs ++ [v, u], _, _, rfl, p4.keep0 ((kJ.trans (kp1.trans kp2)).trans n3.keep) s0 hs3, ((pt2.new n3).put p4 ps).le (by omega), p4.at_, by rw [List.length_append]; simp; omega, all_app (fun w hw => (((gJ w hw).keep (hS (kp1.trans kp2))).keep n3.keep).keep kp4) ?_⟩, ?_⟩
      · refine all_cons ?_ (all_cons ?_ all_nil)
        · exact (((Good.mono ⟨dv, hdv, nv⟩ (by omega) (by omega) (by omega)).keep (hS kp2)).keep n3.keep).keep kp4
        · exact ((gu.mono (by omega) (by omega) (by omega)).keep n3.keep).keep kp4
      · exact ((kG1.trans ((kp1.trans kp2).mono fun _ _ => trivial)).trans n3.keep).trans (p4.keep (S := All) trivial hs3)
    · rintro σ J0 ⟨⟨zs, x4, x5, rfl, kJ, ptJ, hsJ, zlJ, gJ⟩, kG1⟩
      have e4 : (4 : Int).toNat = 4 := rfl
      rw [e4] at zlJ ptJ
      exact ⟨⟨_, zs, _, _, rfl, kJ, ptJ.le (by omega), hsJ, by omega, gJ⟩, (kF.trans (p1.keep (S := All) trivial hsG)).trans kG1⟩
  · rintro σ G0 ⟨⟨x3, zs, x4, x5, rfl, kG, ptG, hsG, zl, gG⟩, kF⟩
    walk_at "ws_7"
    refine w_forSl ?_
    walk_at "ws_7"
    refine k_Fl hsG (fun i σ H' => ∃ x6 x7 x8, σ = [some (.ref p), some (.int 1000000000000000), some (.ref s), x3, x4, x5, x6, x7, x8] ∧ Keep NoS G0 H') ⟨_, _, _, rfl, Keep.refl _ _⟩ (fun i σ H' _ h => by obtain ⟨_, _, _, _, k⟩ := h; exact k.all _ _ id hsG) ?_ ?_
    · rintro i x σ L0 hi ⟨x6, x7, x8, rfl, kL⟩
      obtain ⟨d, dd, nd⟩ := gG x (List.mem_of_getElem? hi)
      have dd := dd.keep (S := Or2 p s) kL.of0
      walk_at "ws_7"
      unfold t__law_right_3
      walk_at "ws_7"
      refine o_repr dd nd (by omega) (by omega) (by omega) ?_
      walk_at "ws_7"
      refine ⟨x, d, _, rfl, dd, fun L1 k1 => ?_⟩
      have dd1 := dd.keep (S := Or2 p s) k1.of0
      walk_at "ws_7"
      refine ⟨x, d, _, rfl, dd1, ?_⟩
      walk_at "ws_7"
      refine w_callW ?_
      walk_at "ws_7"
      refine ⟨rfl, x, d, _, rfl, dd1, ?_⟩
      walk_at "ws_7"
      refine k_lst (by simp; decide) fun r1 L2 n2 => ?_
      walk_at "ws_7"
      refine o_repr (S := NoS) (.lst id n2.at_ (.cons (.bl _) (.cons (.bl _) .nil))) bools_nice (by omega) (by omega) (by omega) ?_
      walk_at "ws_7"
      refine k_lst (by simp; decide) fun r2 L3 n3 => ?_
      walk_at "ws_7"
      refine o_repr (S := NoS) (.lst id n3.at_ (.cons (.bl _) (.cons (.bl _) .nil))) bools_nice (by omega) (by omega) (by omega) ?_
      walk_at "ws_7"
      refine w_iteF (by simp) ?_
      walk_at "ws_7"
      refine o_repr ((dd1.keep n2.keep).keep n3.keep) nd (by omega) (by omega) (by omega) ?_
      walk_at "ws_7"
      refine w_iteF (by simp) ?_
      walk_at "ws_7"
      exact ⟨_, _, _, rfl, ((kL.trans k1).trans n2.keep).trans n3.keep⟩
    · rintro σ L0 ⟨x6, x7, x8, rfl, kL⟩
      walk_at "ws_7"
      exact q L0 (kG.trans kL.of0)
end LB

open PySem PySem.Spec PyProof.Rows L2 LB
/-! the tactic: one step of a reading; many -/
local macro_rules | `(tactic| walk_at "w1_8") => `(tactic| first
  | with_reducible refine w_seq ?_ | with_reducible refine w_asg ?_ | with_reducible refine w_drop ?_ | with_reducible refine w_ret ?_ | with_reducible refine w_next ?_
  | with_reducible refine w_ifs ?_ | with_reducible refine w_forR1 ?_ | with_reducible refine w_forR2 ?_ | with_reducible refine w_forL ?_ | with_reducible refine w_forT ?_ | with_reducible refine w_name ?_ | with_reducible refine w_sub ?_ | with_reducible refine w_par ?_
  | with_reducible refine w_var (by with_unfolding_all rfl) ?_ | with_reducible refine w_c ?_ | with_reducible refine w_op ?_ | with_reducible refine w_un ?_
  | with_reducible refine w_test ?_ | with_reducible refine w_tb ?_ | with_reducible refine w_nil ?_ | with_reducible refine w_cons ?_ | with_reducible refine w_cb ?_ | with_reducible refine w_call ?_
  | with_reducible refine w_not ?_ | with_reducible refine w_and ?_ | with_reducible refine w_or ?_ | with_reducible refine w_andV ?_ | with_reducible refine w_orV ?_ | with_reducible refine w_notV ?_
  | with_reducible refine w_ife ?_ | with_reducible refine w_chain ?_ | with_reducible refine w_bm ?_ | with_reducible refine w_sl ?_ | with_reducible refine w_part ?_ | with_reducible refine w_nopart ?_
  | with_reducible refine w_exb ?_ | with_reducible refine w_exi ?_ | with_reducible refine w_ex2 ?_ | with_reducible refine w_ex3 ?_ | with_reducible refine w_lstrg ?_ | with_reducible refine w_rg2 ?_ | with_reducible refine w_rg1 ?_ | with_reducible refine w_exij ?_ | with_reducible refine w_tup ?_ | with_reducible refine w_lst ?_
  | with_reducible refine o_add ?_ | with_reducible refine o_sub ?_ | with_reducible refine o_neg ?_ | with_reducible refine o_lt ?_ | with_reducible refine o_le ?_ | with_reducible refine o_gt ?_ | with_reducible refine o_ge ?_
  | with_reducible refine o_ixL (by assumption) (by decide) (by with_unfolding_all rfl) ?_ | with_reducible refine o_ixT (by assumption) (by decide) (by with_unfolding_all rfl) ?_
  | with_reducible refine o_mod (by first | decide | omega) ?_ | with_reducible refine o_mul (by first | decide | omega) ?_ | with_reducible refine o_fdv (by first | decide | omega) (by first | decide | omega) ?_ | with_reducible refine o_setL (by assumption) (by decide) (by simp) ?_
  | with_reducible refine oo_addi ?_ | with_reducible refine oo_sub ?_ | with_reducible refine oo_neg ?_ | with_reducible refine w_rev ?_ | with_reducible refine w_m0 ?_
  | with_reducible refine w_par3 ?_ | with_reducible refine w_tyl (by assumption) ?_
  | with_reducible refine o_abs ?_ | with_reducible refine o_eqs (by with_unfolding_all rfl) ?_ | with_reducible refine o_nes (by with_unfolding_all rfl) ?_ | with_reducible refine o_max2 ?_ | with_reducible refine o_min2 ?_ | with_reducible refine o_isiX (by assumption) ?_ | with_reducible refine o_lenl (by assumption) ?_ | with_reducible refine o_lent (by assumption) ?_ | with_reducible refine o_int1b ?_)
local macro_rules | `(tactic| walk_at "ws_8") => `(tactic| repeat (first | walk_at "w1_8" | dsimp only [List.set_cons_zero, List.set_cons_succ]))
namespace LB
def spLaw (K : PySem.W.Frag) : Sp := fun vs H Q _ => ∃ (a : Addr) (ns : List Int), vs = [.ref a] ∧ SqL K H a (ns.map V.int) ∧ ns.length ≤ 63 ∧ ∀ H', Q (.bl true) H'
theorem spLaw_arity {K : PySem.W.Frag} {vs : List V} {H : Hp} {Q : VK} {E : XK} (h : spLaw K vs H Q E) : vs.length = 1 := by obtain ⟨_, _, rfl, _⟩ := h; rfl
theorem w_yes {σ : LB.St} {H : Hp} {Qb : Bool → Hp → Prop} (h : Qb true H) : tYes σ H Qb := h
theorem sql_keep {K : PySem.W.Frag} {H H' : Hp} {a : Addr} {xs : List V} (k : Keep NoS H H') (h : SqL K H a xs) : SqL K H' a xs := by
  rcases h with (h | ⟨o, h⟩) | h
  · exact .inl (.inl (k.all _ _ id h))
  · exact .inl (.inr ⟨o, k.all _ _ id h⟩)
  · exact .inr h

def t_law (K : PySem.W.Frag) : TS :=
  (tRet (tCB (rAll K) (tCons (tLc (iRng1 (tCons (tCB rMax2 (tCons (tC (V.int 1)) (tCons (tCB rMin2 (tCons (tC (V.int 3)) (tCons (tCB (rLen K) (tCons (tVar 0) tNil)) tNil))) tNil))) tNil)) (gName 1) tYes (tCall spRight [] E0 (tCons (tCall (spPot K) [] E0 (tCons (tVar 0) (tCons (tVar 1) tNil))) tNil)) [1]) tNil)))

theorem pure_law {K : PySem.W.Frag} {vs : List V} {H : Hp} {Q : VK} {E : XK} (h : spLaw K vs H Q E) : t_law K { nx := fun _ H' => Q .non H', rt := Q } (start ["script", "k"] vs) H := by
  obtain ⟨a, ns, rfl, sq, len, q⟩ := h
  show t_law K _ [some (.ref a), none] H
  unfold t_law
  walk_at "ws_8"
  show tCB rMax2 _ _ _ _
  walk_at "ws_8"
  refine o_lens sq ?_
  walk_at "ws_8"
  refine ⟨_, rfl, by split <;> (try split) <;> (try split) <;> simp <;> omega, by split <;> (try split) <;> (try split) <;> simp <;> omega, fun D hD => ?_⟩
  generalize hj : (if _ > (1 : Int) then _ else (1 : Int)) = j
  have hj3 : j ≤ 3 := by
    have e : ∀ m : Int, (if m < 3 then m else 3 : Int) ≤ 3 := fun m => by split <;> omega
    have e1 := e ((ns.map V.int).length : Int)
    rw [← hj]
    generalize (if ((ns.map V.int).length : Int) < 3 then ((ns.map V.int).length : Int) else 3 : Int) = m at e1 ⊢
    split <;> omega
  refine lc_range (fun i H' => Keep NoS H H' ∧ ∃ bs : List Bool, H' D = some (.lst (bs.map V.bl)) ∧ bs.all id = true ∧ bs.length = i) ⟨Keep.new hD, [], upd_same, rfl, rfl⟩ ?_ ?_
  · rintro i H1 hi ⟨k1, bs, hb, ht, hl⟩
    have hi3 : (i : Int) < 3 := by omega
    refine ⟨rfl, ?_⟩
    walk_at "ws_8"
    refine w_yes ?_
    refine w_iteT rfl ?_
    walk_at "ws_8"
    refine ⟨a, _, ns, rfl, sql_keep k1 sq, by omega, by omega, len, fun H2 p p0 k2 pt => ?_⟩
    walk_at "ws_8"
    refine ⟨p, _, rfl, pt, by omega, fun H3 k3 => ?_⟩
    have pD : D ≠ p := ne_of_none hb p0
    have hD3 := k3.all _ _ pD (k2.all _ _ id hb)
    have p00 : H p = none := nos_free k1 p0
    have k03 : Keep NoS H H3 := (k1.trans k2).trans0 k3 fun c hc => .inr (by rw [hc]; exact p00)
    refine ⟨_, hD3, by rw [List.length_map, hl]; exact Nat.lt_of_le_of_lt (by omega : i ≤ 1000) (by decide), k03.put0 hD hD3, bs ++ [true], by rw [List.map_append]; exact upd_same, by rw [List.all_append, ht]; rfl, by rw [List.length_append, hl]; rfl⟩
  · rintro H1 ⟨k1, bs, hb, ht, hl⟩
    refine ⟨D, bs, rfl, .inl (.inl hb), ?_⟩
    rw [ht]
    walk_at "ws_8"
    exact q H1
end LB

namespace LB
open PySem PySem.Spec PyProof.Rows L2
/-! ### own exceptions as values -/
/-- x.f, x such a value -/
def tExF (K : PySem.W.Frag) (f : Str) (te : TE) : TE := fun σ H Q => te σ H fun x H1 => ∃ (a C dx : Addr) (fs : List (Str × V)) (v : V), x = .ref a ∧ XfC K C ∧ PySem.W.findIn K (.ref C) f = some none ∧
  H1 a = some (exo a C (some dx)) ∧ H1 dx = some (exd dx fs) ∧ fs.lookup f = some v ∧ Q v H1
theorem pe_exf {X : Cx} {e : Expr} {te : TE} {pos : Pos} {f : Str} (he : PE X e te) (hb : attributeBase e f X.env (eval e X.env) = eval e X.env := by rfl) : PE X (.Attribute e f pos) (tExF X.K f te) := by
  constructor
  intro pins s σ H Q I h
  refine attr_of hb (thn (he.run pins s σ H _ I h) ?_)
  rintro u s1 ⟨x, H1, I1, rx, a, C, dx, fs, v, rfl, T, hno, ea, ed, l, q⟩
  cases rx
  obtain ⟨t1, ho⟩ := exo_at I1.hok ea
  obtain ⟨mA, hns, rel⟩ := exd_at I1.hok ed
  obtain ⟨od, hod, hl⟩ := lookIn_ns hns
  obtain ⟨w, hw, rw'⟩ := RelO.some_of (v := v) (o := mA f) (by rw [← l]; exact rel f)
  have J : PySem.W.InstAt s1.heap a ({ cls := .ref C, dict := some dx, data := .fields #[.ref t1, .none, .none, .none, .bool false, .none] } : Obj) C (some od) := ⟨ho, rfl, rfl, hod⟩
  exact HandSPX.exc_get I1.kIn J T.ga T.gg T.exC (PySem.W.findObj_own T.hdC hno rfl (by rw [hl, hw])) (handed_of rw') ⟨v, H1, I1.tok _, rw', q⟩
/-- C(e, ..), C's own __init__ keeping sp: the new exception -/
def tNewE (C : Addr) (sp : Sp) (ta : TA) : TE := fun σ H Q => ta σ H fun vs H1 => vs.length ≤ 1000 ∧ ∀ a, H1 a = none → sp (.ref a :: vs) (upd H1 a (exo a C none)) (fun v H2 => v = .non ∧ Q (.ref a) H2) (fun _ _ _ => False)
theorem pe_newE {X : Cx} {CX : CXT} {x : Str} {C fI : Addr} {k j : Nat} {fd : FuncData} {ps : List Str} {sp : Sp} {p pos : Pos} {e : Expr} {es : List Expr} {ta : TA} (T : OexC X.K C) (iC : PySem.W.findIn X.K (.ref C) "__init__" = some (some (.ref fI))) (tI : PySem.W.typeIn X.K (.ref fI) = some (.type "function"))
    (G1 : FnG X.prog X.w X.K X.mg X.base CX k fI fd ps sp) (hr : Room (j + 1) X.A) (hk : k ≤ j) (gd : X.A.guards = some []) (bn : ∀ us : List Value, us.length = ps.length → bindArgs fd ⟨us, []⟩ = pure (ps.zip us))
    (hx : Passes CX X (fun _ _ _ => False)) (hg : Gl X x) (hm : X.mg x = some (.ref C)) (ha : PA X (e :: es) ta)
    (hdb : (x == ("__debug__" : Str)) = false := by decide) (he : starEach (e :: es) X.env = (false, eval e X.env) :: starEach es X.env := by rfl) (hpl : (backTo pos (starEach es X.env)).any (·.1) = false := by rfl) :
    PE X (.Call (.Name x p) (e :: es) [] pos) (tNewE C sp ta) := by
  constructor
  intro pins s σ H Q I h
  obtain ⟨nm, q, N, bs, bm, sn, sub, ab, col, dd, k0, k1, k2, k3, k5, hC, hbm⟩ := T.cls
  refine wpAny_Call_Name_kw (ld_glob I hg hm ?_ hdb)
  refine PySem.W.callWith_K (h₀ := X.base) I.ok.mod.kin T.kC (thn (ha.run pos pins s σ H _ I h) ?_) he hpl
  rintro us s1 ⟨vs, H1, I1, r1, hz, q1⟩
  refine ⟨I1.kIn, ?_⟩
  show wpAny _ _ (call (.ref C) us) _ _ _
  obtain ⟨hp, g, dr, tk, os⟩ := s1
  let a := hp.objs.size + 1
  have up : hp.objs.size ≤ a := Nat.le_succ _
  have fresh : H1 a = none := I1.hok.fresh up
  have hq := q1 a fresh
  let h2 := (hp.push (PySem.W.kdv_tup us)).push (PySem.HandSPX.excO C hp.objs.size)
  have old : ∀ b o, hp.get? b = some o → h2.get? b = some o := fun b o z => Heap.get?_push_of_some _ (Heap.get?_push_of_some _ z)
  have at_ : h2.get? a = some (PySem.HandSPX.excO C hp.objs.size) := by
    show ((hp.push _).push _).get? (hp.objs.size + 1) = _
    heap_get
  have I2 : L2.Inv X pins σ (upd H1 a (exo a C none)) ⟨h2, g, dr, tk, os⟩ := I1.laid (t' := tk) (a := a) (o := exo a C none) (h' := h2) old up (exo_ok at_)
  have rv : Vals (V.ref a :: vs) (Value.ref a :: us) := .cons rfl r1
  have hl : (Value.ref a :: us).length = ps.length := by rw [← rv.length]; exact G1.arity _ _ _ _ hq
  have hus : us.length ≤ sizeLine := by
    rw [← Paired.length r1]
    exact Nat.le_trans hz (by decide)
  refine wpAny_call (PySem.HandSPX.call_own PySem.F.excBase_ValueError (fun Y => PySem.HandSPX.refsVE_contains Y bm hbm) (I1.kIn _ _ hC) (PySem.W.looks_findIn I1.kIn iC) (fun self => PySem.W.bind_fn I1.kIn self tI) hus ?_)
  refine codeAny_mono (G1.goes _ X.stack _ _ ⟨Value.ref a :: us, []⟩ (Value.ref a :: us) _ _ (fun _ _ _ => False) ((hr.make C us []).mono hk) gd (I2.env0.make C us []) (BindsTo.of_eq (bn _ hl)) rv hq) ?_
  intro r s' z
  match r, z with
  | .error er, z => exact hx pins σ _ _ er s' I2 z
  | .ok (.ret u), z =>
    obtain ⟨v, H2, J, rr, ev, q2⟩ := I2.after z
    subst ev
    exact ⟨rr, .ref a, H2, J, rfl, q2⟩
  | .ok .next, z => exact False.elim z
  | .ok .brk, z => exact False.elim z
  | .ok .cont, z => exact False.elim z
/-- isinstance(x, c), x such a value -/
def rIsO (K : PySem.W.Frag) : List V → Hp → VK → Prop := fun xs H Q => ∃ (a C : Addr) (d : Option Addr) (c : V) (cv : Value) (b : Bool), xs = [.ref a, c] ∧ ExcC K C ∧ H a = some (exo a C d) ∧ (∀ dx, d = some dx → ∃ fs, H dx = some (exd dx fs)) ∧
  (∀ u, RelV c u → u = cv) ∧ PySem.W.kitOne K (.ref C) cv = some b ∧ Q (.bl b) H
theorem call_isO {X : Cx} : CallR X (.builtin "isinstance") (rIsO X.K) := by
  intro pins s σ H xs us Q I r h
  obtain ⟨a, C, d, c, cv, b, rfl, T, ea, hd, hcv, e, q⟩ := h
  cases r with
  | cons rx rr =>
    cases rr with
    | cons rt rr =>
      cases rr
      cases rx
      have ec := hcv _ rt
      subst ec
      obtain ⟨t1, ho⟩ := exo_at I.hok ea
      obtain ⟨od, J⟩ : ∃ od, PySem.W.InstAt s.heap a ({ cls := .ref C, dict := d, data := .fields #[.ref t1, .none, .none, .none, .bool false, .none] } : Obj) C od := by
        cases d with
        | none => exact ⟨none, ho, rfl, rfl, trivial⟩
        | some dx =>
          obtain ⟨fs, ed⟩ := hd dx rfl
          obtain ⟨mA, hns, _⟩ := exd_at I.hok ed
          obtain ⟨od, hod, _⟩ := lookIn_ns hns
          exact ⟨some od, ho, rfl, rfl, hod⟩
      have hcl : (PySem.W.clsIn X.K C).isSome = true := by
        obtain ⟨cd, hc, _⟩ := PySem.W.any_some T.hd
        rw [hc]
        rfl
      exact PySem.W.kia_one (PySem.W.kitx_exc hcl T.hg T.hk T.hs T.ha T.hn T.ht T.hm) I.kIn J e (fun z => nomatch z) fun tk => ⟨.bl b, H, I.kept (t' := tk) fun _ _ z => z, rfl, q⟩
end LB

namespace LB
open PySem PySem.Spec PyProof.Rows L2 PySem.HandSPX PySem.Calls
section
variable {prog : Program} {w : World} {A : Around} {E : Value → Shared → Prop} {R : Result → Shared → Prop} {h : Heap} {g : Array GenState} {d : Drawn} {t : Nat} {os : OsState}
variable {nm q : Str} {C N : Addr} {bs bm bmB : List Value} {hdct : Bool} {sn : List Str} {sub : List Value} {ab : Bool} {col : Option Bool} {dd : Option Addr} {k0 k1 k2 k3 k5 : Option Value} {B newId initId : String}
/-! ### C(k = v, ..), C an own exception: the keywords go through __new__ to __init__ -/
theorem kw_new_checked (F : ExcBaseFacts B newId initId bmB) (hT : ∀ X : String, bm.contains (.type X) = bmB.contains (.type X)) {kw : List (Str × Value)} {Q : Unit → Shared → Prop}
    (hC : h.get? C = some (excClassObj nm q C N bs bm hdct sn sub ab col dd k0 k1 k2 k3 k5 newId)) (hq : Q () ⟨h, g, d, t, os⟩) : wpAny (model prog w) A (checkBuiltinCall newId ⟨[.ref C], kw⟩) Q E ⟨h, g, d, t, os⟩ := by
  have own : (Value.ref C :: bm).contains (.type B) = true := by
    rw [List.contains_cons, hT, F.hasB]
    exact Bool.or_true _
  have star := F.noStar
  simp only [checkBuiltinCall, F.newKind, F.newSplit]
  simp only [F.newRow]
  repeat first
    | refine wpAny_loadPart_at hC ?_
    | (refine wpAny_isSubtype_exc hC ?_
       rw [own])
    | refine wpAny_staticBase_exc hC ?_
    | refine wpAny_madeBy_exc hC ?_
    | simp only [bne_self_eq_false, Bool.false_eq_true]
    | simp only [if_false]
    | wp_step
  exact hq
/-- BaseException.__new__: the keywords are not looked at -/
theorem kw_new_own (F : ExcBaseFacts B newId initId bmB) (hT : ∀ X : String, bm.contains (.type X) = bmB.contains (.type X)) {kw : List (Str × Value)}
    (hC : h.get? C = some (excClassObj nm q C N bs bm hdct sn sub ab col dd k0 k1 k2 k3 k5 newId))
    (hq : R (.ok (.ret (.ref (h.objs.size + 1)))) ⟨(h.push (PySem.W.kdv_tup [])).push (excO C h.objs.size), g, d, t, os⟩) :
    codeAny (model prog w) A (.builtin newId ⟨[.ref C], kw⟩) R ⟨h, g, d, t, os⟩ := by
  have ends := F.ends
  have own : (Value.ref C :: bm).contains (.type B) = true := by
    rw [List.contains_cons, hT, F.hasB]
    exact Bool.or_true _
  have noA : (Value.ref C :: bm).contains (.type "AttributeError") = false := by
    rw [List.contains_cons, hT, F.noAttr]
    rfl
  have noN : (Value.ref C :: bm).contains (.type "NameError") = false := by
    rw [List.contains_cons, hT, F.noName]
    rfl
  refine codeAny_builtinAt F.entry ?_
  unfold Builtin.«BaseException.__new__»
  refine PySem.wpAt_bind ?_
  show PySem.wpAt _ _ _ (stack >>= _) _ _ _
  refine PySem.wpAt_bind (PySem.wpAt_stack fun p below => PySem.wpAt_of_wpAny ?_)
  wp_walk
  refine PySem.wpAt_of_wpAny ?_
  rw [F.owner]
  repeat first
    | with_reducible refine wpAny_madeHere_exc F.canon hC ?_
    | with_reducible refine wpAny_loadPart_at hC ?_
    | (with_reducible refine wpAny_isSubtype_exc hC ?_
       first
         | rw [own]
         | rw [noA]
         | rw [noN])
    | wp_step
  show R _ _
  rw [Heap.size_push]
  exact hq
theorem kw_type_call (F : ExcBaseFacts B newId initId bmB) (hT : ∀ X : String, bm.contains (.type X) = bmB.contains (.type X)) {kw : List (Str × Value)} {vf : Value} {Q : Fin → Shared → Prop}
    (hC : h.get? C = some (excClassObj nm q C N bs bm hdct sn sub ab col dd k0 k1 k2 k3 k5 newId))
    (hi : PySem.W.Looks (model prog w) h (typeLookup (.ref C) "__init__") (some vf)) (hb : ∀ self, PySem.W.Looks (model prog w) h (bindSpecial vf self) (vf, [self]))
    (hq : codeAny (model prog w) A (.call vf ⟨[.ref (h.objs.size + 1)], kw⟩)
      (fun r s' => match r with
        | .ok (.ret v) => v = .none ∧ Q (.done (.ret (.ref (h.objs.size + 1)))) s'
        | .ok _ => False
        | .error e => E e s')
      ⟨(h.push (PySem.W.kdv_tup [])).push (excO C h.objs.size), g, d, t, os⟩) :
    wpAny (model prog w) A (Builtin.«type.__call__» ⟨[.ref C], kw⟩) Q E ⟨h, g, d, t, os⟩ := by
  repeat first
    | with_reducible refine wpAny_loadPart_at hC ?_
    | with_reducible refine wpAny_madeBy_exc hC ?_
    | wp_step
  refine codeAny_call_builtin_code (Code.quiet_builtin _ F.quiet) (kw_new_checked F hT hC ?_)
  refine kw_new_own F hT hC ?_
  show wpAny _ _ _ _ _ _
  have old : ∀ b o, h.get? b = some o → ((h.push (PySem.W.kdv_tup [])).push (excO C h.objs.size)).get? b = some o := fun b o z => Heap.get?_push_of_some _ (Heap.get?_push_of_some _ z)
  have hC1 := old _ _ hC
  have new_ : ((h.push (PySem.W.kdv_tup [])).push (excO C h.objs.size)).get? (h.objs.size + 1) = some (excO C h.objs.size) := by heap_get
  have self_ : (Value.ref C :: bm).contains (.ref C) = true := by simp
  have i1 := hi.keeps old
  have b1 := (hb (.ref (h.objs.size + 1))).keeps old
  unfold isInstance
  repeat first
    | with_reducible refine wpAny_loadPart_at new_ ?_
    | (with_reducible refine wpAny_isSubtype_exc hC1 ?_
       rw [self_])
    | wp_step
  show wpAny _ _ (typeLookup (.ref C) _) _ _ _
  refine i1.at ?_
  refine wpAny_holding (wpAny_bind (b1.at ?_))
  refine wpAny_bind (wpAny_call (codeAny_mono hq fun r s' z => ?_))
  match r, z with
  | .error e, z => exact z
  | .ok (.ret v), ⟨ev, z⟩ =>
    subst ev
    first
      | exact wpAny_pure (wpAny_pure z)
      | (wp_walk
         exact z)
  | .ok .next, z => exact z.elim
  | .ok .brk, z => exact z.elim
  | .ok .cont, z => exact z.elim
theorem kw_call_checked {kw : List (Str × Value)} {Q : Unit → Shared → Prop} (hC : h.get? C = some (excClassObj nm q C N bs bm hdct sn sub ab col dd k0 k1 k2 k3 k5 newId)) (hq : Q () ⟨h, g, d, t, os⟩) :
    wpAny (model prog w) A (checkBuiltinCall "type.__call__" ⟨[.ref C], kw⟩) Q E ⟨h, g, d, t, os⟩ := by
  have sub_ := tc_sub
  have ty : (⟨h, g, d, t, os⟩ : Shared).TypeIs (.ref C) "type" := ⟨_, hC, rfl⟩
  simp only [checkBuiltinCall, tc_kind]
  simp only [tc_split]
  repeat any_goals first
    | assumption
    | with_reducible refine wpAny_loadPart_at hC ?_
    | with_reducible refine wpAny_onRaise ?_
    | with_reducible refine wpAny_map ?_
    | wp_step
theorem kw_call_own (F : ExcBaseFacts B newId initId bmB) (hT : ∀ X : String, bm.contains (.type X) = bmB.contains (.type X)) {kw : List (Str × Value)} {vf : Value}
    (hC : h.get? C = some (excClassObj nm q C N bs bm hdct sn sub ab col dd k0 k1 k2 k3 k5 newId))
    (hi : PySem.W.Looks (model prog w) h (typeLookup (.ref C) "__init__") (some vf)) (hb : ∀ self, PySem.W.Looks (model prog w) h (bindSpecial vf self) (vf, [self]))
    (hq : codeAny (model prog w) (A.under (.builtin "type.__call__" ⟨[.ref C], kw⟩)) (.call vf ⟨[.ref (h.objs.size + 1)], kw⟩) (PySem.W.InitBack (h.objs.size + 1) R)
      ⟨(h.push (PySem.W.kdv_tup [])).push (excO C h.objs.size), g, d, t, os⟩) :
    codeAny (model prog w) A (.call (.ref C) ⟨[], kw⟩) R ⟨h, g, d, t, os⟩ := by
  have look := tc_lookup
  have bnd := tc_bind (.ref C)
  have ty : (⟨h, g, d, t, os⟩ : Shared).TypeIs (.ref C) "type" := ⟨_, hC, rfl⟩
  refine codeAny_of_tree ?_
  show wpAny _ _ (callAny (.ref C) _) _ _ _
  repeat any_goals first
    | assumption
    | with_reducible refine wpAny_loadPart_at hC ?_
    | wp_step
  refine ⟨rfl, ?_⟩
  refine codeAny_call_builtin_at (Code.quiet_builtin _ (by decide +kernel)) entry_typeCall (kw_call_checked hC (kw_type_call F hT hC hi hb ?_))
  refine codeAny_mono hq fun r s' z => ?_
  match r, z with
  | .error e, z => exact z
  | .ok (.ret v), z => exact z
  | .ok .next, z => exact z
  | .ok .brk, z => exact z
  | .ok .cont, z => exact z
end
/-- C(k = v, ..), C's own __init__ keeping sp; pi: the parameters behind self in their order -/
def tNewW (C : Addr) (sp : Sp) (pi : {α : Type} → List α → List α) (m : Nat) (tk : TA) : TE := fun σ H Q => tk σ H fun zs H1 => zs.length = m ∧ ∀ a, H1 a = none → sp (.ref a :: pi zs) (upd H1 a (exo a C none)) (fun v H2 => v = .non ∧ Q (.ref a) H2) (fun _ _ _ => False)
theorem pe_newW {X : Cx} {CX : CXT} {x : Str} {C fI : Addr} {k j m : Nat} {fd : FuncData} {ps ks : List Str} {sp : Sp} {p pos : Pos} {kws : List Keyword} {tk : TA} {pi : {α : Type} → List α → List α} (T : OexC X.K C) (iC : PySem.W.findIn X.K (.ref C) "__init__" = some (some (.ref fI)))
    (tI : PySem.W.typeIn X.K (.ref fI) = some (.type "function")) (G1 : FnG X.prog X.w X.K X.mg X.base CX k fI fd ps sp) (hr : Room (j + 1) X.A) (hk : k ≤ j) (gd : X.A.guards = some [])
    (bn : ∀ (s : Value) (ws : List Value), ws.length = ks.length → bindArgs fd ⟨[s], ks.zip ws⟩ = pure (ps.zip (s :: pi ws))) (rl : ∀ (zs : List V) (ws : List Value), ws.length = ks.length → Vals zs ws → Vals (pi zs) (pi ws)) (em : ks.length = m)
    (hx : Passes CX X (fun _ _ _ => False)) (hg : Gl X x) (hm : X.mg x = some (.ref C)) (hkw : PK X kws tk)
    (hdb : (x == ("__debug__" : Str)) = false := by decide) (all : (backToKw pos (keywordEach kws X.env)).all (·.1.isSome) = true := by rfl) (hks : (backToKw pos (keywordEach kws X.env)).filterMap (·.1) = ks := by rfl)
    (pl : ((backTo pos (starEach [] X.env)).any (·.1) || (backToKw pos (keywordEach kws X.env)).any (·.1.isNone)) = false := by rfl) :
    PE X (.Call (.Name x p) [] kws pos) (tNewW C sp pi m tk) := by
  constructor
  intro pins s σ H Q I h
  obtain ⟨nm, q, N, bs, bm, sn, sub, ab, col, dd, k0, k1, k2, k3, k5, hC, hbm⟩ := T.cls
  refine wpAny_Call_Name_kw (ld_glob I hg hm ?_ hdb)
  refine PySem.W.callWith_KW0 (h₀ := X.base) I.ok.mod.kin T.kC all ?_ pl
  refine thn (hkw.run pos pins s σ H _ I h) ?_
  rintro ws s1 ⟨zs, H1, I1, r1, hz, q1⟩
  rw [hks]
  have hw : ws.length = ks.length := by rw [← r1.length, em]; exact hz
  refine ⟨I1.kIn, ?_⟩
  obtain ⟨hp, g, dr, tk, os⟩ := s1
  let a := hp.objs.size + 1
  have up : hp.objs.size ≤ a := Nat.le_succ _
  have fresh : H1 a = none := I1.hok.fresh up
  have hq := q1 a fresh
  let h2 := (hp.push (PySem.W.kdv_tup [])).push (excO C hp.objs.size)
  have old : ∀ b o, hp.get? b = some o → h2.get? b = some o := fun b o z => Heap.get?_push_of_some _ (Heap.get?_push_of_some _ z)
  have at_ : h2.get? a = some (excO C hp.objs.size) := by
    show ((hp.push _).push _).get? (hp.objs.size + 1) = _
    heap_get
  have I2 : L2.Inv X pins σ (upd H1 a (exo a C none)) ⟨h2, g, dr, tk, os⟩ := I1.laid (t' := tk) (a := a) (o := exo a C none) (h' := h2) old up (exo_ok at_)
  have rv : Vals (V.ref a :: pi zs) (Value.ref a :: pi ws) := .cons rfl (rl _ _ hw r1)
  refine wpAny_call (kw_call_own PySem.F.excBase_ValueError (fun Y => refsVE_contains Y bm hbm) (I1.kIn _ _ hC) (PySem.W.looks_findIn I1.kIn iC) (fun self => PySem.W.bind_fn I1.kIn self tI) ?_)
  refine codeAny_mono (G1.goes _ X.stack _ _ ⟨[Value.ref a], ks.zip ws⟩ (Value.ref a :: pi ws) _ _ (fun _ _ _ => False) ((hr.make C [] (ks.zip ws)).mono hk) gd (I2.env0.make C [] (ks.zip ws)) (BindsTo.of_eq (bn _ _ hw)) rv hq) ?_
  intro r s' z
  match r, z with
  | .error er, z => exact hx pins σ _ _ er s' I2 z
  | .ok (.ret u), z =>
    obtain ⟨v, H2, J, rr, ev, q2⟩ := I2.after z
    subst ev
    exact ⟨rr, .ref a, H2, J, rfl, q2⟩
  | .ok .next, z => exact False.elim z
  | .ok .brk, z => exact False.elim z
  | .ok .cont, z => exact False.elim z
/-- C(), C without an __init__ of its own -/
def tNew0 (C : Addr) : TE := fun _ H Q => ∀ a, H a = none → Q (.ref a) (upd H a (exo a C none))
theorem pe_new0 {X : Cx} {x : Str} {C : Addr} {p pos : Pos} {k : Nat} (hr : Room k X.A) (T : OexC X.K C) (iC : PySem.W.findIn X.K (.ref C) "__init__" = some (some (.builtin "ValueError.__init__"))) (hg : Gl X x) (hm : X.mg x = some (.ref C)) (hdb : (x == ("__debug__" : Str)) = false := by decide) :
    PE X (.Call (.Name x p) [] [] pos) (tNew0 C) := by
  constructor
  intro pins s σ H Q I h
  obtain ⟨nm, q, N, bs, bm, sn, sub, ab, col, dd, k0, k1, k2, k3, k5, hC, hbm⟩ := T.cls
  refine wpAny_Call_Name_kw (ld_glob I hg hm ?_ hdb)
  refine PySem.W.callWith_K0 I.kIn T.kC ?_
  obtain ⟨hp, g, dr, tk, os⟩ := s
  have hT := fun Y => refsVE_contains Y bm hbm
  have hc := I.kIn _ _ hC
  have old : ∀ b o, hp.get? b = some o → ((hp.push (PySem.W.kdv_tup [])).push (excO C hp.objs.size)).get? b = some o := fun b o z => Heap.get?_push_of_some _ (Heap.get?_push_of_some _ z)
  have at_ : ((hp.push (PySem.W.kdv_tup [])).push (excO C hp.objs.size)).get? (hp.objs.size + 1) = some (excO C hp.objs.size) := by heap_get
  refine wpAny_call (kw_call_own PySem.F.excBase_ValueError hT hc (PySem.W.looks_findIn I.kIn iC) (fun self => by rw [PySem.F.excBase_ValueError.init.bind self]; exact .now) ?_)
  refine init_base PySem.F.excBase_ValueError hT (old _ _ hc) at_ (by simp) fun h' t1 k' e' => ?_
  refine ⟨rfl, .ref (hp.objs.size + 1), _, I.laid (t' := tk) (a := hp.objs.size + 1) (o := exo (hp.objs.size + 1) C none) (h' := h') (fun b u z => k' b u ?_ (old b u z)) (Nat.le_succ _) (exo_ok e'), rfl, h _ (I.hok.fresh (Nat.le_succ _))⟩
  exact Nat.ne_of_lt (Nat.lt_of_lt_of_le (Heap.lt_size z) (Nat.le_succ _))
end LB

open PySem PySem.Spec PyProof.Rows L2 LB
/-! the tactic: one step of a reading; many -/
local macro_rules | `(tactic| walk_at "w1_9") => `(tactic| first
  | with_reducible refine w_seq ?_ | with_reducible refine w_asg ?_ | with_reducible refine w_drop ?_ | with_reducible refine w_ret ?_ | with_reducible refine w_next ?_
  | with_reducible refine w_ifs ?_ | with_reducible refine w_forR1 ?_ | with_reducible refine w_forR2 ?_ | with_reducible refine w_forL ?_ | with_reducible refine w_forT ?_ | with_reducible refine w_name ?_ | with_reducible refine w_sub ?_ | with_reducible refine w_par ?_
  | with_reducible refine w_var (by with_unfolding_all rfl) ?_ | with_reducible refine w_c ?_ | with_reducible refine w_op ?_ | with_reducible refine w_un ?_
  | with_reducible refine w_test ?_ | with_reducible refine w_tb ?_ | with_reducible refine w_nil ?_ | with_reducible refine w_cons ?_ | with_reducible refine w_cb ?_ | with_reducible refine w_call ?_
  | with_reducible refine w_not ?_ | with_reducible refine w_and ?_ | with_reducible refine w_or ?_ | with_reducible refine w_andV ?_ | with_reducible refine w_orV ?_ | with_reducible refine w_notV ?_
  | with_reducible refine w_ife ?_ | with_reducible refine w_chain ?_ | with_reducible refine w_bm ?_ | with_reducible refine w_sl ?_ | with_reducible refine w_part ?_ | with_reducible refine w_nopart ?_
  | with_reducible refine w_exb ?_ | with_reducible refine w_exi ?_ | with_reducible refine w_ex2 ?_ | with_reducible refine w_ex3 ?_ | with_reducible refine w_lstrg ?_ | with_reducible refine w_rg2 ?_ | with_reducible refine w_rg1 ?_ | with_reducible refine w_exij ?_ | with_reducible refine w_tup ?_ | with_reducible refine w_lst ?_
  | with_reducible refine o_add ?_ | with_reducible refine o_sub ?_ | with_reducible refine o_neg ?_ | with_reducible refine o_lt ?_ | with_reducible refine o_le ?_ | with_reducible refine o_gt ?_ | with_reducible refine o_ge ?_
  | with_reducible refine o_ixL (by assumption) (by decide) (by with_unfolding_all rfl) ?_ | with_reducible refine o_ixT (by assumption) (by decide) (by with_unfolding_all rfl) ?_
  | with_reducible refine o_mod (by first | decide | omega) ?_ | with_reducible refine o_mul (by first | decide | omega) ?_ | with_reducible refine o_fdv (by first | decide | omega) (by first | decide | omega) ?_ | with_reducible refine o_setL (by assumption) (by decide) (by simp) ?_
  | with_reducible refine oo_addi ?_ | with_reducible refine oo_sub ?_ | with_reducible refine oo_neg ?_ | with_reducible refine w_rev ?_ | with_reducible refine w_m0 ?_
  | with_reducible refine w_par3 ?_ | with_reducible refine w_tyl (by assumption) ?_
  | with_reducible refine o_abs ?_ | with_reducible refine o_eqs (by with_unfolding_all rfl) ?_ | with_reducible refine o_nes (by with_unfolding_all rfl) ?_ | with_reducible refine o_max2 ?_ | with_reducible refine o_min2 ?_ | with_reducible refine o_isiX (by assumption) ?_ | with_reducible refine o_lenl (by assumption) ?_ | with_reducible refine o_lent (by assumption) ?_ | with_reducible refine o_int1b ?_)
local macro_rules | `(tactic| walk_at "ws_9") => `(tactic| repeat (first | walk_at "w1_9" | dsimp only [List.set_cons_zero, List.set_cons_succ]))
namespace LB
/-! ### own exceptions: what __init__ does -/
def spIn (K : PySem.W.Frag) (f : Str) : Sp := fun vs H Q _ => ∃ (a C : Addr) (v : V), vs = [.ref a, v] ∧ H a = some (exo a C none) ∧ OexC K C ∧ PySem.W.findIn K (.ref C) f = some none ∧
  ∀ dx, H dx = none → dx ≠ a → Q .non (upd (upd H dx (exd dx [(f, v)])) a (exo a C (some dx)))
theorem spIn_arity {K : PySem.W.Frag} {f : Str} {vs : List V} {H : Hp} {Q : VK} {E : XK} (h : spIn K f vs H Q E) : vs.length = 2 := by obtain ⟨_, _, _, rfl, _⟩ := h; rfl
def spIn2 (K : PySem.W.Frag) (f g : Str) : Sp := fun vs H Q _ => ∃ (a C : Addr) (v w : V), vs = [.ref a, v, w] ∧ H a = some (exo a C none) ∧ OexC K C ∧ PySem.W.findIn K (.ref C) f = some none ∧ PySem.W.findIn K (.ref C) g = some none ∧
  ∀ dx, H dx = none → dx ≠ a → Q .non (upd (upd (upd H dx (exd dx [(f, v)])) a (exo a C (some dx))) dx (exd dx [(g, w), (f, v)]))
theorem spIn2_arity {K : PySem.W.Frag} {f g : Str} {vs : List V} {H : Hp} {Q : VK} {E : XK} (h : spIn2 K f g vs H Q E) : vs.length = 3 := by obtain ⟨_, _, _, _, rfl, _⟩ := h; rfl
def kOst (K : PySem.W.Frag) (f : Str) (D : Ends) (σ : LB.St) (y : V) : VK := fun x H2 => ∃ a C : Addr, x = .ref a ∧ OexC K C ∧ PySem.W.findIn K (.ref C) f = some none ∧
  ((H2 a = some (exo a C none) ∧ ∀ dx, H2 dx = none → dx ≠ a → D.nx σ (upd (upd H2 dx (exd dx [(f, y)])) a (exo a C (some dx)))) ∨
    ∃ (dx : Addr) (fs : List (Str × V)), H2 a = some (exo a C (some dx)) ∧ H2 dx = some (exd dx fs) ∧ fs.length ≤ 900 ∧ D.nx σ (upd H2 dx (exd dx ((f, y) :: fs))))
theorem w_ost {K : PySem.W.Frag} {f : Str} {to te : TE} {D : Ends} {σ : LB.St} {H : Hp} (h : te σ H fun y H1 => to σ H1 (kOst K f D σ y)) : tOst K f to te D σ H := h

def t_init_NoIndex (K : PySem.W.Frag) : TS :=
  (tOst K "index" (tVar 0) (tVar 1))

def t_init_NoValue (K : PySem.W.Frag) : TS :=
  (tOst K "value" (tVar 0) (tVar 1))

def t_init_Unexplained (K : PySem.W.Frag) : TS :=
  (tOst K "fault" (tVar 0) (tVar 1))

def t_init_BadOrder (K : PySem.W.Frag) : TS :=
  (tOst K "value" (tVar 0) (tVar 1))

def t_init_NoPosition (K : PySem.W.Frag) : TS :=
  (tOst K "position" (tVar 0) (tVar 1))

def t_init_BadStamps (K : PySem.W.Frag) : TS :=
  (tSeq (tOst K "begin" (tVar 0) (tVar 1))
    (tOst K "end" (tVar 0) (tVar 2)))

def t_init_BadLog (K : PySem.W.Frag) : TS :=
  (tOst K "value" (tVar 0) (tVar 1))

def t_init_BadTolerance (K : PySem.W.Frag) : TS :=
  (tOst K "value" (tVar 0) (tVar 1))

def t_init_BadOperation (K : PySem.W.Frag) : TS :=
  (tOst K "operation" (tVar 0) (tVar 1))

def t_init_Written (K : PySem.W.Frag) : TS :=
  (tOst K "value" (tVar 0) (tVar 1))

def t_init_TooMany (K : PySem.W.Frag) : TS :=
  (tOst K "limit" (tVar 0) (tVar 1))

def t_init_BadText (K : PySem.W.Frag) : TS :=
  (tOst K "value" (tVar 0) (tVar 1))

def t_init_BadLine (K : PySem.W.Frag) : TS :=
  (tOst K "line" (tVar 0) (tVar 1))

theorem pure_init_NoIndex {K : PySem.W.Frag} {vs : List V} {H : Hp} {Q : VK} {E : XK} (h : spIn K "index" vs H Q E) : t_init_NoIndex K { nx := fun _ H' => Q .non H', rt := Q } (start ["self", "index"] vs) H := by
  obtain ⟨a, C, v, rfl, ea, T, hf, q⟩ := h
  show t_init_NoIndex K _ [some (.ref a), some v] H
  unfold t_init_NoIndex
  refine w_ost ?_
  walk_at "ws_9"
  exact ⟨a, C, rfl, T, hf, .inl ⟨ea, q⟩⟩
theorem pure_init_NoValue {K : PySem.W.Frag} {vs : List V} {H : Hp} {Q : VK} {E : XK} (h : spIn K "value" vs H Q E) : t_init_NoValue K { nx := fun _ H' => Q .non H', rt := Q } (start ["self", "value"] vs) H := by
  obtain ⟨a, C, v, rfl, ea, T, hf, q⟩ := h
  show t_init_NoValue K _ [some (.ref a), some v] H
  unfold t_init_NoValue
  refine w_ost ?_
  walk_at "ws_9"
  exact ⟨a, C, rfl, T, hf, .inl ⟨ea, q⟩⟩
theorem pure_init_Unexplained {K : PySem.W.Frag} {vs : List V} {H : Hp} {Q : VK} {E : XK} (h : spIn K "fault" vs H Q E) : t_init_Unexplained K { nx := fun _ H' => Q .non H', rt := Q } (start ["self", "fault"] vs) H := by
  obtain ⟨a, C, v, rfl, ea, T, hf, q⟩ := h
  show t_init_Unexplained K _ [some (.ref a), some v] H
  unfold t_init_Unexplained
  refine w_ost ?_
  walk_at "ws_9"
  exact ⟨a, C, rfl, T, hf, .inl ⟨ea, q⟩⟩
theorem pure_init_BadOrder {K : PySem.W.Frag} {vs : List V} {H : Hp} {Q : VK} {E : XK} (h : spIn K "value" vs H Q E) : t_init_BadOrder K { nx := fun _ H' => Q .non H', rt := Q } (start ["self", "value"] vs) H := by
  obtain ⟨a, C, v, rfl, ea, T, hf, q⟩ := h
  show t_init_BadOrder K _ [some (.ref a), some v] H
  unfold t_init_BadOrder
  refine w_ost ?_
  walk_at "ws_9"
  exact ⟨a, C, rfl, T, hf, .inl ⟨ea, q⟩⟩
theorem pure_init_NoPosition {K : PySem.W.Frag} {vs : List V} {H : Hp} {Q : VK} {E : XK} (h : spIn K "position" vs H Q E) : t_init_NoPosition K { nx := fun _ H' => Q .non H', rt := Q } (start ["self", "position"] vs) H := by
  obtain ⟨a, C, v, rfl, ea, T, hf, q⟩ := h
  show t_init_NoPosition K _ [some (.ref a), some v] H
  unfold t_init_NoPosition
  refine w_ost ?_
  walk_at "ws_9"
  exact ⟨a, C, rfl, T, hf, .inl ⟨ea, q⟩⟩
theorem pure_init_BadStamps {K : PySem.W.Frag} {vs : List V} {H : Hp} {Q : VK} {E : XK} (h : spIn2 K "begin" "end" vs H Q E) : t_init_BadStamps K { nx := fun _ H' => Q .non H', rt := Q } (start ["self", "begin", "end"] vs) H := by
  obtain ⟨a, C, v, w, rfl, ea, T, hf, hg, q⟩ := h
  show t_init_BadStamps K _ [some (.ref a), some v, some w] H
  unfold t_init_BadStamps
  walk_at "ws_9"
  refine w_ost ?_
  walk_at "ws_9"
  refine ⟨a, C, rfl, T, hf, .inl ⟨ea, fun dx n ne => ?_⟩⟩
  show tOst K _ (tVar 0) (tVar 2) _ _ _
  refine w_ost ?_
  walk_at "ws_9"
  exact ⟨a, C, rfl, T, hg, .inr ⟨dx, _, upd_same, by rw [upd_ne ne]; exact upd_same, by simp, q dx n ne⟩⟩
theorem pure_init_BadLog {K : PySem.W.Frag} {vs : List V} {H : Hp} {Q : VK} {E : XK} (h : spIn K "value" vs H Q E) : t_init_BadLog K { nx := fun _ H' => Q .non H', rt := Q } (start ["self", "value"] vs) H := by
  obtain ⟨a, C, v, rfl, ea, T, hf, q⟩ := h
  show t_init_BadLog K _ [some (.ref a), some v] H
  unfold t_init_BadLog
  refine w_ost ?_
  walk_at "ws_9"
  exact ⟨a, C, rfl, T, hf, .inl ⟨ea, q⟩⟩
theorem pure_init_BadTolerance {K : PySem.W.Frag} {vs : List V} {H : Hp} {Q : VK} {E : XK} (h : spIn K "value" vs H Q E) : t_init_BadTolerance K { nx := fun _ H' => Q .non H', rt := Q } (start ["self", "value"] vs) H := by
  obtain ⟨a, C, v, rfl, ea, T, hf, q⟩ := h
  show t_init_BadTolerance K _ [some (.ref a), some v] H
  unfold t_init_BadTolerance
  refine w_ost ?_
  walk_at "ws_9"
  exact ⟨a, C, rfl, T, hf, .inl ⟨ea, q⟩⟩
theorem pure_init_BadOperation {K : PySem.W.Frag} {vs : List V} {H : Hp} {Q : VK} {E : XK} (h : spIn K "operation" vs H Q E) : t_init_BadOperation K { nx := fun _ H' => Q .non H', rt := Q } (start ["self", "operation"] vs) H := by
  obtain ⟨a, C, v, rfl, ea, T, hf, q⟩ := h
  show t_init_BadOperation K _ [some (.ref a), some v] H
  unfold t_init_BadOperation
  refine w_ost ?_
  walk_at "ws_9"
  exact ⟨a, C, rfl, T, hf, .inl ⟨ea, q⟩⟩
theorem pure_init_Written {K : PySem.W.Frag} {vs : List V} {H : Hp} {Q : VK} {E : XK} (h : spIn K "value" vs H Q E) : t_init_Written K { nx := fun _ H' => Q .non H', rt := Q } (start ["self", "value"] vs) H := by
  obtain ⟨a, C, v, rfl, ea, T, hf, q⟩ := h
  show t_init_Written K _ [some (.ref a), some v] H
  unfold t_init_Written
  refine w_ost ?_
  walk_at "ws_9"
  exact ⟨a, C, rfl, T, hf, .inl ⟨ea, q⟩⟩
theorem pure_init_TooMany {K : PySem.W.Frag} {vs : List V} {H : Hp} {Q : VK} {E : XK} (h : spIn K "limit" vs H Q E) : t_init_TooMany K { nx := fun _ H' => Q .non H', rt := Q } (start ["self", "limit"] vs) H := by
  obtain ⟨a, C, v, rfl, ea, T, hf, q⟩ := h
  show t_init_TooMany K _ [some (.ref a), some v] H
  unfold t_init_TooMany
  refine w_ost ?_
  walk_at "ws_9"
  exact ⟨a, C, rfl, T, hf, .inl ⟨ea, q⟩⟩
theorem pure_init_BadText {K : PySem.W.Frag} {vs : List V} {H : Hp} {Q : VK} {E : XK} (h : spIn K "value" vs H Q E) : t_init_BadText K { nx := fun _ H' => Q .non H', rt := Q } (start ["self", "value"] vs) H := by
  obtain ⟨a, C, v, rfl, ea, T, hf, q⟩ := h
  show t_init_BadText K _ [some (.ref a), some v] H
  unfold t_init_BadText
  refine w_ost ?_
  walk_at "ws_9"
  exact ⟨a, C, rfl, T, hf, .inl ⟨ea, q⟩⟩
theorem pure_init_BadLine {K : PySem.W.Frag} {vs : List V} {H : Hp} {Q : VK} {E : XK} (h : spIn K "line" vs H Q E) : t_init_BadLine K { nx := fun _ H' => Q .non H', rt := Q } (start ["self", "line"] vs) H := by
  obtain ⟨a, C, v, rfl, ea, T, hf, q⟩ := h
  show t_init_BadLine K _ [some (.ref a), some v] H
  unfold t_init_BadLine
  refine w_ost ?_
  walk_at "ws_9"
  exact ⟨a, C, rfl, T, hf, .inl ⟨ea, q⟩⟩
/-! ### the classes -/
def ordA (p : Nat) : Nat := [1, 2, 3, 4, 5, 7, 8, 9, 10, 11, 13, 14, 6, 12].getD p 12
def fldA (p : Nat) : Str := (["index", "value", "fault", "value", "position", "value", "value", "operation", "value", "limit", "value", "line"] : List Str).getD p "value"
structure Cls (K : PySem.W.Frag) (cl : Nat → Addr) : Prop where
  ex : ∀ i, 1 ≤ i → i ≤ 14 → ExcC K (cl i)
  ox : ∀ i, 1 ≤ i → i ≤ 14 → OexC K (cl i)
  xf : ∀ i, 1 ≤ i → i ≤ 14 → XfC K (cl i)
  kit : ∀ i j, 1 ≤ i → i ≤ 14 → 1 ≤ j → j ≤ 14 → PySem.W.kitOne K (.ref (cl i)) (.ref (cl j)) = some (decide (i = j))
  base : ∀ i, 1 ≤ i → i ≤ 14 → PySem.W.kitOne K (.ref (cl i)) (.ref (cl 0)) = some true
  val : ∀ i, 1 ≤ i → i ≤ 14 → PySem.W.kitOne K (.ref (cl i)) (.type "ValueError") = some true
  fld : ∀ p, p < 12 → PySem.W.findIn K (.ref (cl (ordA p))) (fldA p) = some none
  fldB : PySem.W.findIn K (.ref (cl 6)) "begin" = some none
  fldE : PySem.W.findIn K (.ref (cl 6)) "end" = some none
/-- at u: an exception of class i with these fields -/
def IsE (cl : Nat → Addr) (H : Hp) (u : V) (i : Nat) (fs : List (Str × V)) : Prop := ∃ (a : Addr) (d : Option Addr), u = .ref a ∧ H a = some (exo a (cl i) d) ∧ (∀ dx, d = some dx → H dx = some (exd dx fs)) ∧ (fs ≠ [] → ∃ dx, d = some dx)
theorem IsE.keep {cl : Nat → Addr} {H H1 : Hp} {u : V} {i : Nat} {fs : List (Str × V)} (h : IsE cl H u i fs) (k : Keep NoS H H1) : IsE cl H1 u i fs := by
  obtain ⟨a, d, e, h1, h2, h3⟩ := h
  exact ⟨a, d, e, k.all _ _ id h1, fun dx hd => k.all _ _ id (h2 dx hd), h3⟩
section
variable {K : PySem.W.Frag} {cl : Nat → Addr} {H : Hp} {Q : VK} {u v w : V} {i j : Nat} {fs : List (Str × V)}
theorem o_isO (T : Cls K cl) (h : IsE cl H u i fs) (i1 : 1 ≤ i) (i2 : i ≤ 14) (j1 : 1 ≤ j) (j2 : j ≤ 14) (q : Q (.bl (decide (i = j))) H) : rIsO K [u, .ref (cl j)] H Q := by
  obtain ⟨a, d, rfl, h1, h2, h3⟩ := h
  exact ⟨a, cl i, d, .ref (cl j), .ref (cl j), _, rfl, T.ex i i1 i2, h1, fun dx hd => ⟨fs, h2 dx hd⟩, fun _ r => r, T.kit i j i1 i2 j1 j2, q⟩
theorem o_isB (T : Cls K cl) (h : IsE cl H u i fs) (i1 : 1 ≤ i) (i2 : i ≤ 14) (q : Q (.bl true) H) : rIsO K [u, .ref (cl 0)] H Q := by
  obtain ⟨a, d, rfl, h1, h2, h3⟩ := h
  exact ⟨a, cl i, d, .ref (cl 0), .ref (cl 0), _, rfl, T.ex i i1 i2, h1, fun dx hd => ⟨fs, h2 dx hd⟩, fun _ r => r, T.base i i1 i2, q⟩
theorem o_isV (T : Cls K cl) (h : IsE cl H u i fs) (i1 : 1 ≤ i) (i2 : i ≤ 14) (q : Q (.bl true) H) : rIsO K [u, .ty "ValueError"] H Q := by
  obtain ⟨a, d, rfl, h1, h2, h3⟩ := h
  exact ⟨a, cl i, d, .ty "ValueError", .type "ValueError", _, rfl, T.ex i i1 i2, h1, fun dx hd => ⟨fs, h2 dx hd⟩, fun _ r => r, T.val i i1 i2, q⟩
def kExF (K : PySem.W.Frag) (f : Str) (Q : VK) : VK := fun x H1 => ∃ (a C dx : Addr) (fs : List (Str × V)) (v : V), x = .ref a ∧ XfC K C ∧ PySem.W.findIn K (.ref C) f = some none ∧
  H1 a = some (exo a C (some dx)) ∧ H1 dx = some (exd dx fs) ∧ fs.lookup f = some v ∧ Q v H1
theorem w_exf {f : Str} {te : TE} {σ : LB.St} (h : te σ H (kExF K f Q)) : tExF K f te σ H Q := h
theorem k_exf {f : Str} (T : Cls K cl) (h : IsE cl H u i fs) (i1 : 1 ≤ i) (i2 : i ≤ 14) (hf : PySem.W.findIn K (.ref (cl i)) f = some none) (l : fs.lookup f = some v) (q : Q v H) : kExF K f Q u H := by
  obtain ⟨a, d, rfl, h1, h2, h3⟩ := h
  obtain ⟨dx, rfl⟩ := h3 (fun e => by rw [e] at l; cases l)
  exact ⟨a, cl i, dx, fs, v, rfl, T.xf i i1 i2, hf, h1, h2 dx rfl, l, q⟩
def kNewE (C : Addr) (sp : Sp) (Q : VK) : List V → Hp → Prop := fun vs H1 => vs.length ≤ 1000 ∧ ∀ a, H1 a = none → sp (.ref a :: vs) (upd H1 a (exo a C none)) (fun v H2 => v = .non ∧ Q (.ref a) H2) (fun _ _ _ => False)
theorem w_newE {C : Addr} {sp : Sp} {ta : TA} {σ : LB.St} (h : ta σ H (kNewE C sp Q)) : tNewE C sp ta σ H Q := h
def kNewW (C : Addr) (sp : Sp) (pi : {α : Type} → List α → List α) (m : Nat) (Q : VK) : List V → Hp → Prop := fun zs H1 => zs.length = m ∧ ∀ a, H1 a = none → sp (.ref a :: pi zs) (upd H1 a (exo a C none)) (fun v H2 => v = .non ∧ Q (.ref a) H2) (fun _ _ _ => False)
theorem w_newW {C : Addr} {sp : Sp} {pi : {α : Type} → List α → List α} {m : Nat} {tk : TA} {σ : LB.St} (h : tk σ H (kNewW C sp pi m Q)) : tNewW C sp pi m tk σ H Q := h
theorem new_keep {a dx : Addr} {o1 o2 o3 : HO} (ha : H a = none) (hd : H dx = none) : Keep NoS H (upd (upd (upd H a o1) dx o2) a o3) :=
  ⟨fun b o _ e => by rw [upd_ne (ne_of_none e ha), upd_ne (ne_of_none e hd), upd_ne (ne_of_none e ha)]; exact e, fun b o e => by rw [upd_ne (ne_of_none e ha), upd_ne (ne_of_none e hd), upd_ne (ne_of_none e ha)]; exact e⟩
theorem spIn_new {f : Str} {a : Addr} (T : OexC K (cl i)) (hf : PySem.W.findIn K (.ref (cl i)) f = some none) (ha : H a = none) (q : ∀ u H2, Keep NoS H H2 → IsE cl H2 u i [(f, v)] → Q u H2) :
    spIn K f [.ref a, v] (upd H a (exo a (cl i) none)) (fun v H2 => v = .non ∧ Q (.ref a) H2) (fun _ _ _ => False) := by
  refine ⟨a, cl i, v, rfl, upd_same, T, hf, fun dx hd ne => ⟨rfl, ?_⟩⟩
  rw [upd_ne ne] at hd
  refine q (.ref a) _ (new_keep ha hd) ⟨a, some dx, rfl, upd_same, fun d2 e => ?_, fun _ => ⟨dx, rfl⟩⟩
  cases e
  rw [upd_ne ne]
  exact upd_same
theorem spIn2_new {f g : Str} {a : Addr} (T : OexC K (cl i)) (hf : PySem.W.findIn K (.ref (cl i)) f = some none) (hg : PySem.W.findIn K (.ref (cl i)) g = some none) (ha : H a = none) (q : ∀ u H2, Keep NoS H H2 → IsE cl H2 u i [(g, w), (f, v)] → Q u H2) :
    spIn2 K f g [.ref a, v, w] (upd H a (exo a (cl i) none)) (fun v H2 => v = .non ∧ Q (.ref a) H2) (fun _ _ _ => False) := by
  refine ⟨a, cl i, v, w, rfl, upd_same, T, hf, hg, fun dx hd ne => ⟨rfl, ?_⟩⟩
  rw [upd_ne ne] at hd
  have k1 : Keep NoS H (upd (upd (upd H a (exo a (cl i) none)) dx (exd dx [(f, v)])) a (exo a (cl i) (some dx))) := new_keep ha hd
  refine q (.ref a) _ ⟨fun b o n e => ?_, fun b o e => ?_⟩ ⟨a, some dx, rfl, by rw [upd_ne ne.symm]; exact upd_same, fun d2 e => ?_, fun _ => ⟨dx, rfl⟩⟩
  · rw [upd_ne (ne_of_none e hd)]
    exact k1.all b o n e
  · rw [upd_ne (ne_of_none e hd)]
    exact k1.tup b o e
  · cases e
    exact upd_same
theorem k_newE {f : Str} (T : Cls K cl) (i1 : 1 ≤ i) (i2 : i ≤ 14) (hf : PySem.W.findIn K (.ref (cl i)) f = some none) (q : ∀ u H2, Keep NoS H H2 → IsE cl H2 u i [(f, v)] → Q u H2) : kNewE (cl i) (spIn K f) Q [v] H :=
  ⟨by simp, fun a ha => spIn_new (T.ox i i1 i2) hf ha q⟩
theorem k_newE2 {f g : Str} (T : Cls K cl) (i1 : 1 ≤ i) (i2 : i ≤ 14) (hf : PySem.W.findIn K (.ref (cl i)) f = some none) (hg : PySem.W.findIn K (.ref (cl i)) g = some none) (q : ∀ u H2, Keep NoS H H2 → IsE cl H2 u i [(g, w), (f, v)] → Q u H2) :
    kNewE (cl i) (spIn2 K f g) Q [v, w] H := ⟨by simp, fun a ha => spIn2_new (T.ox i i1 i2) hf hg ha q⟩
theorem k_newW {f : Str} (T : Cls K cl) (i1 : 1 ≤ i) (i2 : i ≤ 14) (hf : PySem.W.findIn K (.ref (cl i)) f = some none) (q : ∀ u H2, Keep NoS H H2 → IsE cl H2 u i [(f, v)] → Q u H2) :
    kNewW (cl i) (spIn K f) (fun {α : Type} (ws : List α) => [(ws.drop 0).head?].filterMap id) 1 Q [v] H := ⟨rfl, fun a ha => spIn_new (T.ox i i1 i2) hf ha q⟩
theorem k_newW2 {f g : Str} (T : Cls K cl) (i1 : 1 ≤ i) (i2 : i ≤ 14) (hf : PySem.W.findIn K (.ref (cl i)) f = some none) (hg : PySem.W.findIn K (.ref (cl i)) g = some none) (q : ∀ u H2, Keep NoS H H2 → IsE cl H2 u i [(g, w), (f, v)] → Q u H2) :
    kNewW (cl i) (spIn2 K f g) (fun {α : Type} (ws : List α) => [(ws.drop 1).head?, (ws.drop 0).head?].filterMap id) 2 Q [w, v] H := ⟨rfl, fun a ha => spIn2_new (T.ox i i1 i2) hf hg ha q⟩
theorem o_new0 {σ : LB.St} (q : ∀ u H2, Keep NoS H H2 → IsE cl H2 u i [] → Q u H2) : tNew0 (cl i) σ H Q := fun a ha => q (.ref a) _ (Keep.new ha) ⟨a, none, rfl, upd_same, (fun _ e => nomatch e), (fun e => absurd rfl e)⟩
end
def ordL : List Nat := [1, 2, 3, 4, 5, 7, 8, 9, 10, 11, 13, 14, 6, 12]
def spMarks (K : PySem.W.Frag) (cl : Nat → Addr) : Sp := fun vs H Q _ => ∃ (u : V) (i : Nat) (fs : List (Str × V)), vs = [u] ∧ Cls K cl ∧ IsE cl H u i fs ∧ 1 ≤ i ∧ i ≤ 14 ∧
  ∀ l H1, Keep NoS H H1 → H1 l = some (.lst (ordL.map fun j => V.bl (decide (i = j)))) → Q (.ref l) H1
theorem spMarks_arity {K : PySem.W.Frag} {cl : Nat → Addr} {vs : List V} {H : Hp} {Q : VK} {E : XK} (h : spMarks K cl vs H Q E) : vs.length = 1 := by obtain ⟨_, _, _, rfl, _⟩ := h; rfl
def fsA (v w : V) (p : Nat) : List (Str × V) := if p < 12 then [(fldA p, v)] else if p = 12 then [("end", w), ("begin", v)] else []
/-- the exceptions in a list: what is held -/
def Errs (cl : Nat → Addr) (H : Hp) (v w : V) (us : List V) : Prop := ∀ p u, us[p]? = some u → IsE cl H u (ordA p) (fsA v w p)
def spHeld (K : PySem.W.Frag) (cl : Nat → Addr) : Sp := fun vs H Q _ => ∃ (l : Addr) (us : List V) (v w : V), vs = [.ref l] ∧ Cls K cl ∧ H l = some (.lst us) ∧ 13 ≤ us.length ∧ Errs cl H v w us ∧
  ∀ l2 H1, Keep NoS H H1 → H1 l2 = some (.lst (List.replicate 13 v ++ [w])) → Q (.ref l2) H1
theorem spHeld_arity {K : PySem.W.Frag} {cl : Nat → Addr} {vs : List V} {H : Hp} {Q : VK} {E : XK} (h : spHeld K cl vs H Q E) : vs.length = 1 := by obtain ⟨_, _, _, _, rfl, _⟩ := h; rfl

def t__law_marks (cl : Nat → Addr) (K : PySem.W.Frag) : TS :=
  (tSeq (tAsg (tLst (tCons (tCB (rIsO K) (tCons (tVar 0) (tCons (tC (V.ref (cl 1))) tNil))) (tCons (tCB (rIsO K) (tCons (tVar 0) (tCons (tC (V.ref (cl 2))) tNil))) (tCons (tCB (rIsO K) (tCons (tVar 0) (tCons (tC (V.ref (cl 3))) tNil))) tNil)))) (gName 1))
    (tSeq (tAsg (tOp (rAddA K) (tVar 1) (tLst (tCons (tCB (rIsO K) (tCons (tVar 0) (tCons (tC (V.ref (cl 4))) tNil))) (tCons (tCB (rIsO K) (tCons (tVar 0) (tCons (tC (V.ref (cl 5))) tNil))) (tCons (tCB (rIsO K) (tCons (tVar 0) (tCons (tC (V.ref (cl 7))) tNil))) tNil))))) (gName 1))
    (tSeq (tAsg (tOp (rAddA K) (tVar 1) (tLst (tCons (tCB (rIsO K) (tCons (tVar 0) (tCons (tC (V.ref (cl 8))) tNil))) (tCons (tCB (rIsO K) (tCons (tVar 0) (tCons (tC (V.ref (cl 9))) tNil))) (tCons (tCB (rIsO K) (tCons (tVar 0) (tCons (tC (V.ref (cl 10))) tNil))) tNil))))) (gName 1))
    (tSeq (tAsg (tOp (rAddA K) (tVar 1) (tLst (tCons (tCB (rIsO K) (tCons (tVar 0) (tCons (tC (V.ref (cl 11))) tNil))) (tCons (tCB (rIsO K) (tCons (tVar 0) (tCons (tC (V.ref (cl 13))) tNil))) (tCons (tCB (rIsO K) (tCons (tVar 0) (tCons (tC (V.ref (cl 14))) tNil))) tNil))))) (gName 1))
    (tRet (tOp (rAddA K) (tVar 1) (tLst (tCons (tCB (rIsO K) (tCons (tVar 0) (tCons (tC (V.ref (cl 6))) tNil))) (tCons (tCB (rIsO K) (tCons (tVar 0) (tCons (tC (V.ref (cl 12))) tNil))) tNil)))))))))

def t__law_held (cl : Nat → Addr) (K : PySem.W.Frag) : TS :=
  (tSeq (tAsg (tLst (tCons (tExF K "index" (tOp (rIx K) (tVar 0) (tC (V.int 0)))) (tCons (tExF K "value" (tOp (rIx K) (tVar 0) (tC (V.int 1)))) (tCons (tExF K "fault" (tOp (rIx K) (tVar 0) (tC (V.int 2)))) (tCons (tExF K "value" (tOp (rIx K) (tVar 0) (tC (V.int 3)))) (tCons (tExF K "position" (tOp (rIx K) (tVar 0) (tC (V.int 4)))) (tCons (tExF K "value" (tOp (rIx K) (tVar 0) (tC (V.int 5)))) tNil))))))) (gName 1))
    (tSeq (tAsg (tOp (rAddA K) (tVar 1) (tLst (tCons (tExF K "value" (tOp (rIx K) (tVar 0) (tC (V.int 6)))) (tCons (tExF K "operation" (tOp (rIx K) (tVar 0) (tC (V.int 7)))) (tCons (tExF K "value" (tOp (rIx K) (tVar 0) (tC (V.int 8)))) (tCons (tExF K "limit" (tOp (rIx K) (tVar 0) (tC (V.int 9)))) (tCons (tExF K "value" (tOp (rIx K) (tVar 0) (tC (V.int 10)))) (tCons (tExF K "line" (tOp (rIx K) (tVar 0) (tC (V.int 11)))) tNil)))))))) (gName 1))
    (tRet (tOp (rAddA K) (tVar 1) (tLst (tCons (tExF K "begin" (tOp (rIx K) (tVar 0) (tC (V.int 12)))) (tCons (tExF K "end" (tOp (rIx K) (tVar 0) (tC (V.int 12)))) tNil)))))))

theorem pure__law_marks {K : PySem.W.Frag} {cl : Nat → Addr} {vs : List V} {H : Hp} {Q : VK} {E : XK} (h : spMarks K cl vs H Q E) : t__law_marks cl K { nx := fun _ H' => Q .non H', rt := Q } (start ["caught", "found"] vs) H := by
  obtain ⟨u, i, fs, rfl, T, he, i1, i2, q⟩ := h
  show t__law_marks cl K _ [some u, none] H
  unfold t__law_marks
  walk_at "ws_9"
  refine o_isO T he i1 i2 (by decide) (by decide) ?_
  walk_at "ws_9"
  refine o_isO T he i1 i2 (by decide) (by decide) ?_
  walk_at "ws_9"
  refine o_isO T he i1 i2 (by decide) (by decide) ?_
  walk_at "ws_9"
  refine k_lst (by simp; decide) fun l1 H1 n1 => ?_
  have he1 := he.keep n1.keep
  walk_at "ws_9"
  refine o_isO T he1 i1 i2 (by decide) (by decide) ?_
  walk_at "ws_9"
  refine o_isO T he1 i1 i2 (by decide) (by decide) ?_
  walk_at "ws_9"
  refine o_isO T he1 i1 i2 (by decide) (by decide) ?_
  walk_at "ws_9"
  refine k_lst (by simp; decide) fun l2 H2 n2 => ?_
  refine o_addL (n2.get n1.at_) n2.at_ (by simp; decide) fun l3 H3 n3 => ?_
  have he3 := (he1.keep n2.keep).keep n3.keep
  walk_at "ws_9"
  refine o_isO T he3 i1 i2 (by decide) (by decide) ?_
  walk_at "ws_9"
  refine o_isO T he3 i1 i2 (by decide) (by decide) ?_
  walk_at "ws_9"
  refine o_isO T he3 i1 i2 (by decide) (by decide) ?_
  walk_at "ws_9"
  refine k_lst (by simp; decide) fun l4 H4 n4 => ?_
  refine o_addL (n4.get n3.at_) n4.at_ (by simp; decide) fun l5 H5 n5 => ?_
  have he5 := (he3.keep n4.keep).keep n5.keep
  walk_at "ws_9"
  refine o_isO T he5 i1 i2 (by decide) (by decide) ?_
  walk_at "ws_9"
  refine o_isO T he5 i1 i2 (by decide) (by decide) ?_
  walk_at "ws_9"
  refine o_isO T he5 i1 i2 (by decide) (by decide) ?_
  walk_at "ws_9"
  refine k_lst (by simp; decide) fun l6 H6 n6 => ?_
  refine o_addL (n6.get n5.at_) n6.at_ (by simp; decide) fun l7 H7 n7 => ?_
  have he7 := (he5.keep n6.keep).keep n7.keep
  walk_at "ws_9"
  refine o_isO T he7 i1 i2 (by decide) (by decide) ?_
  walk_at "ws_9"
  refine o_isO T he7 i1 i2 (by decide) (by decide) ?_
  walk_at "ws_9"
  refine k_lst (by simp; decide) fun l8 H8 n8 => ?_
  refine o_addL (n8.get n7.at_) n8.at_ (by simp; decide) fun l9 H9 n9 => ?_
  exact q l9 H9 ((((n1.keep.trans (n2.keep.trans n3.keep)).trans (n4.keep.trans n5.keep)).trans (n6.keep.trans n7.keep)).trans (n8.keep.trans n9.keep)) n9.at_
theorem Errs.keep {cl : Nat → Addr} {H H1 : Hp} {v w : V} {us : List V} (h : Errs cl H v w us) (k : Keep NoS H H1) : Errs cl H1 v w us := fun p u e => (h p u e).keep k
theorem pure__law_held {K : PySem.W.Frag} {cl : Nat → Addr} {vs : List V} {H : Hp} {Q : VK} {E : XK} (h : spHeld K cl vs H Q E) : t__law_held cl K { nx := fun _ H' => Q .non H', rt := Q } (start ["made", "found"] vs) H := by
  obtain ⟨l, us, v, w, rfl, T, hl, hn, he, q⟩ := h
  show t__law_held cl K _ [some (.ref l), none] H
  unfold t__law_held
  walk_at "ws_9"
  refine w_exf ?_
  walk_at "ws_9"
  refine o_ixL (v := us[0]) hl (by decide) (List.getElem?_eq_getElem (by omega)) ?_
  refine k_exf T (he 0 _ (List.getElem?_eq_getElem (by omega))) (by decide) (by decide) (T.fld 0 (by decide)) rfl ?_
  walk_at "ws_9"
  refine w_exf ?_
  walk_at "ws_9"
  refine o_ixL (v := us[1]) hl (by decide) (List.getElem?_eq_getElem (by omega)) ?_
  refine k_exf T (he 1 _ (List.getElem?_eq_getElem (by omega))) (by decide) (by decide) (T.fld 1 (by decide)) rfl ?_
  walk_at "ws_9"
  refine w_exf ?_
  walk_at "ws_9"
  refine o_ixL (v := us[2]) hl (by decide) (List.getElem?_eq_getElem (by omega)) ?_
  refine k_exf T (he 2 _ (List.getElem?_eq_getElem (by omega))) (by decide) (by decide) (T.fld 2 (by decide)) rfl ?_
  walk_at "ws_9"
  refine w_exf ?_
  walk_at "ws_9"
  refine o_ixL (v := us[3]) hl (by decide) (List.getElem?_eq_getElem (by omega)) ?_
  refine k_exf T (he 3 _ (List.getElem?_eq_getElem (by omega))) (by decide) (by decide) (T.fld 3 (by decide)) rfl ?_
  walk_at "ws_9"
  refine w_exf ?_
  walk_at "ws_9"
  refine o_ixL (v := us[4]) hl (by decide) (List.getElem?_eq_getElem (by omega)) ?_
  refine k_exf T (he 4 _ (List.getElem?_eq_getElem (by omega))) (by decide) (by decide) (T.fld 4 (by decide)) rfl ?_
  walk_at "ws_9"
  refine w_exf ?_
  walk_at "ws_9"
  refine o_ixL (v := us[5]) hl (by decide) (List.getElem?_eq_getElem (by omega)) ?_
  refine k_exf T (he 5 _ (List.getElem?_eq_getElem (by omega))) (by decide) (by decide) (T.fld 5 (by decide)) rfl ?_
  walk_at "ws_9"
  refine k_lst (by simp; decide) fun l1 H1 n1 => ?_
  have hl1 := n1.get hl
  have he1 := he.keep n1.keep
  walk_at "ws_9"
  refine w_exf ?_
  walk_at "ws_9"
  refine o_ixL (v := us[6]) hl1 (by decide) (List.getElem?_eq_getElem (by omega)) ?_
  refine k_exf T (he1 6 _ (List.getElem?_eq_getElem (by omega))) (by decide) (by decide) (T.fld 6 (by decide)) rfl ?_
  walk_at "ws_9"
  refine w_exf ?_
  walk_at "ws_9"
  refine o_ixL (v := us[7]) hl1 (by decide) (List.getElem?_eq_getElem (by omega)) ?_
  refine k_exf T (he1 7 _ (List.getElem?_eq_getElem (by omega))) (by decide) (by decide) (T.fld 7 (by decide)) rfl ?_
  walk_at "ws_9"
  refine w_exf ?_
  walk_at "ws_9"
  refine o_ixL (v := us[8]) hl1 (by decide) (List.getElem?_eq_getElem (by omega)) ?_
  refine k_exf T (he1 8 _ (List.getElem?_eq_getElem (by omega))) (by decide) (by decide) (T.fld 8 (by decide)) rfl ?_
  walk_at "ws_9"
  refine w_exf ?_
  walk_at "ws_9"
  refine o_ixL (v := us[9]) hl1 (by decide) (List.getElem?_eq_getElem (by omega)) ?_
  refine k_exf T (he1 9 _ (List.getElem?_eq_getElem (by omega))) (by decide) (by decide) (T.fld 9 (by decide)) rfl ?_
  walk_at "ws_9"
  refine w_exf ?_
  walk_at "ws_9"
  refine o_ixL (v := us[10]) hl1 (by decide) (List.getElem?_eq_getElem (by omega)) ?_
  refine k_exf T (he1 10 _ (List.getElem?_eq_getElem (by omega))) (by decide) (by decide) (T.fld 10 (by decide)) rfl ?_
  walk_at "ws_9"
  refine w_exf ?_
  walk_at "ws_9"
  refine o_ixL (v := us[11]) hl1 (by decide) (List.getElem?_eq_getElem (by omega)) ?_
  refine k_exf T (he1 11 _ (List.getElem?_eq_getElem (by omega))) (by decide) (by decide) (T.fld 11 (by decide)) rfl ?_
  walk_at "ws_9"
  refine k_lst (by simp; decide) fun l2 H2 n2 => ?_
  refine o_addL (n2.get n1.at_) n2.at_ (by simp; decide) fun l3 H3 n3 => ?_
  have hl3 := n3.get (n2.get hl1)
  have he3 := (he1.keep n2.keep).keep n3.keep
  walk_at "ws_9"
  refine w_exf ?_
  walk_at "ws_9"
  refine o_ixL (v := us[12]) hl3 (by decide) (List.getElem?_eq_getElem (by omega)) ?_
  refine k_exf T (he3 12 _ (List.getElem?_eq_getElem (by omega))) (by decide) (by decide) T.fldB rfl ?_
  walk_at "ws_9"
  refine w_exf ?_
  walk_at "ws_9"
  refine o_ixL (v := us[12]) hl3 (by decide) (List.getElem?_eq_getElem (by omega)) ?_
  refine k_exf T (he3 12 _ (List.getElem?_eq_getElem (by omega))) (by decide) (by decide) T.fldE rfl ?_
  walk_at "ws_9"
  refine k_lst (by simp; decide) fun l4 H4 n4 => ?_
  refine o_addL (n4.get n3.at_) n4.at_ (by simp; decide) fun l5 H5 n5 => ?_
  exact q l5 H5 ((n1.keep.trans (n2.keep.trans n3.keep)).trans (n4.keep.trans n5.keep)) n5.at_
end LB

open PySem PySem.Spec PyProof.Rows L2 LB
/-! the tactic: one step of a reading; many -/
local macro_rules | `(tactic| walk_at "w1_10") => `(tactic| first
  | with_reducible refine w_seq ?_ | with_reducible refine w_asg ?_ | with_reducible refine w_drop ?_ | with_reducible refine w_ret ?_ | with_reducible refine w_next ?_
  | with_reducible refine w_ifs ?_ | with_reducible refine w_forR1 ?_ | with_reducible refine w_forR2 ?_ | with_reducible refine w_forL ?_ | with_reducible refine w_forT ?_ | with_reducible refine w_name ?_ | with_reducible refine w_sub ?_ | with_reducible refine w_par ?_
  | with_reducible refine w_var (by with_unfolding_all rfl) ?_ | with_reducible refine w_c ?_ | with_reducible refine w_op ?_ | with_reducible refine w_un ?_
  | with_reducible refine w_test ?_ | with_reducible refine w_tb ?_ | with_reducible refine w_nil ?_ | with_reducible refine w_cons ?_ | with_reducible refine w_cb ?_ | with_reducible refine w_call ?_
  | with_reducible refine w_not ?_ | with_reducible refine w_and ?_ | with_reducible refine w_or ?_ | with_reducible refine w_andV ?_ | with_reducible refine w_orV ?_ | with_reducible refine w_notV ?_
  | with_reducible refine w_ife ?_ | with_reducible refine w_chain ?_ | with_reducible refine w_bm ?_ | with_reducible refine w_sl ?_ | with_reducible refine w_part ?_ | with_reducible refine w_nopart ?_
  | with_reducible refine w_exb ?_ | with_reducible refine w_exi ?_ | with_reducible refine w_ex2 ?_ | with_reducible refine w_ex3 ?_ | with_reducible refine w_lstrg ?_ | with_reducible refine w_rg2 ?_ | with_reducible refine w_rg1 ?_ | with_reducible refine w_exij ?_ | with_reducible refine w_tup ?_ | with_reducible refine w_lst ?_
  | with_reducible refine o_add ?_ | with_reducible refine o_sub ?_ | with_reducible refine o_neg ?_ | with_reducible refine o_lt ?_ | with_reducible refine o_le ?_ | with_reducible refine o_gt ?_ | with_reducible refine o_ge ?_
  | with_reducible refine o_ixL (by assumption) (by decide) (by with_unfolding_all rfl) ?_ | with_reducible refine o_ixT (by assumption) (by decide) (by with_unfolding_all rfl) ?_
  | with_reducible refine o_mod (by first | decide | omega) ?_ | with_reducible refine o_mul (by first | decide | omega) ?_ | with_reducible refine o_fdv (by first | decide | omega) (by first | decide | omega) ?_ | with_reducible refine o_setL (by assumption) (by decide) (by simp) ?_
  | with_reducible refine oo_addi ?_ | with_reducible refine oo_sub ?_ | with_reducible refine oo_neg ?_ | with_reducible refine w_rev ?_ | with_reducible refine w_m0 ?_
  | with_reducible refine w_par3 ?_ | with_reducible refine w_tyl (by assumption) ?_
  | with_reducible refine o_abs ?_ | with_reducible refine o_eqs (by with_unfolding_all rfl) ?_ | with_reducible refine o_nes (by with_unfolding_all rfl) ?_ | with_reducible refine o_max2 ?_ | with_reducible refine o_min2 ?_ | with_reducible refine o_isiX (by assumption) ?_ | with_reducible refine o_lenl (by assumption) ?_ | with_reducible refine o_lent (by assumption) ?_ | with_reducible refine o_int1b ?_)
local macro_rules | `(tactic| walk_at "ws_10") => `(tactic| repeat (first | walk_at "w1_10" | dsimp only [List.set_cons_zero, List.set_cons_succ]))
namespace LB
def spRt (K : PySem.W.Frag) (cl : Nat → Addr) : Sp := fun vs H Q _ => ∃ (p : Addr) (N : Nat), vs = [.ref p] ∧ Cls K cl ∧ Pot H p N ∧ 8 ≤ N ∧ ∀ H', Keep (At p) H H' → Pot H' p (N - 8) → Q (.bl true) H'
theorem spRt_arity {K : PySem.W.Frag} {cl : Nat → Addr} {vs : List V} {H : Hp} {Q : VK} {E : XK} (h : spRt K cl vs H Q E) : vs.length = 1 := by obtain ⟨_, _, rfl, _⟩ := h; rfl

def t9__law_right_1 (cl : Nat → Addr) (K : PySem.W.Frag) : TS :=
  (tSeq (tIfS (tTest (tOp (rNeA K) (tCall (spMarks K cl) [] E0 (tCons (tVar 9) tNil)) (tLc (iRng1 (tCons (tC (V.int 14)) tNil)) (gName 10) tYes (tOp (rEqA K) (tVar 10) (tVar 8)) [10])))
    (tRet (tC (V.bl false))) tNext)
    (tIfS (tOr (tNot (tB (tCB (rIsO K) (tCons (tVar 9) (tCons (tC (V.ref (cl 0))) tNil))))) (tNot (tB (tCB (rIsO K) (tCons (tVar 9) (tCons (tC (V.ty "ValueError")) tNil))))))
    (tRet (tC (V.bl false))) tNext))

def t9__law_right_2 (cl : Nat → Addr) (K : PySem.W.Frag) : TS :=
  (tSeq (tIfS (tTest (tOp (rNeA K) (tCB rRepr (tCons (tCall (spHeld K cl) [] E0 (tCons (tVar 7) tNil)) tNil)) (tCB rRepr (tCons (tOp (rAddA K) (tOp (rMulA K) (tLst (tCons (tVar 1) tNil)) (tC (V.int 13))) (tLst (tCons (tVar 2) tNil))) tNil))))
    (tRet (tC (V.bl false))) tNext)
    (tFor (iEnum K (tCons (tVar 7) tNil)) (gTup K 2 (gCons (gName 8) (gCons (gName 9) gNil)))
    (t9__law_right_1 cl K)))

def t9__law_right (cl : Nat → Addr) (K : PySem.W.Frag) : TS :=
  (tSeq (tAsg (tLc (iRng1 (tCons (tC (V.int 2)) tNil)) (gName 3) tYes (tCall spOdd [] E0 (tCons (tVar 0) (tCons (tCall (spAny K) [] E0 (tCons (tVar 0) (tCons (tLst (tCons (tC (V.int 7)) (tCons (tC (V.str "a")) (tCons (tTup (tCons (tC (V.int 1)) (tCons (tTup (tCons (tC (V.int 2)) (tCons (tC (V.str "b")) tNil))) tNil))) tNil)))) tNil))) tNil))) [3]) (gUnl K 2 (gCons (gName 1) (gCons (gName 2) gNil))))
    (tSeq (tAsg (tCB rRepr (tCons (tTup (tCons (tVar 1) (tCons (tVar 2) tNil))) tNil)) (gName 4))
    (tSeq (tAsg (tLst (tCons (tNewE (cl 1) (spIn K "index") (tCons (tVar 1) tNil)) (tCons (tNewE (cl 2) (spIn K "value") (tCons (tVar 1) tNil)) (tCons (tNewE (cl 3) (spIn K "fault") (tCons (tVar 1) tNil)) (tCons (tNewE (cl 4) (spIn K "value") (tCons (tVar 1) tNil)) (tCons (tNewE (cl 5) (spIn K "position") (tCons (tVar 1) tNil)) (tCons (tNewE (cl 7) (spIn K "value") (tCons (tVar 1) tNil)) tNil))))))) (gName 5))
    (tSeq (tAsg (tOp (rAddA K) (tVar 5) (tLst (tCons (tNewE (cl 8) (spIn K "value") (tCons (tVar 1) tNil)) (tCons (tNewE (cl 9) (spIn K "operation") (tCons (tVar 1) tNil)) (tCons (tNewE (cl 10) (spIn K "value") (tCons (tVar 1) tNil)) (tCons (tNewE (cl 11) (spIn K "limit") (tCons (tVar 1) tNil)) (tCons (tNewE (cl 13) (spIn K "value") (tCons (tVar 1) tNil)) tNil))))))) (gName 5))
    (tSeq (tAsg (tOp (rAddA K) (tVar 5) (tLst (tCons (tNewE (cl 14) (spIn K "line") (tCons (tVar 1) tNil)) (tCons (tNewE (cl 6) (spIn2 K "begin" "end") (tCons (tVar 1) (tCons (tVar 2) tNil))) (tCons (tNew0 (cl 12)) tNil))))) (gName 5))
    (tSeq (tAsg (tLst (tCons (tNewW (cl 1) (spIn K "index") (fun {α : Type} (ws : List α) => [(ws.drop 0).head?].filterMap id) 1 (tCons (tVar 1) tNil)) (tCons (tNewW (cl 2) (spIn K "value") (fun {α : Type} (ws : List α) => [(ws.drop 0).head?].filterMap id) 1 (tCons (tVar 1) tNil)) (tCons (tNewW (cl 3) (spIn K "fault") (fun {α : Type} (ws : List α) => [(ws.drop 0).head?].filterMap id) 1 (tCons (tVar 1) tNil)) (tCons (tNewW (cl 4) (spIn K "value") (fun {α : Type} (ws : List α) => [(ws.drop 0).head?].filterMap id) 1 (tCons (tVar 1) tNil)) tNil))))) (gName 6))
    (tSeq (tAsg (tOp (rAddA K) (tVar 6) (tLst (tCons (tNewW (cl 5) (spIn K "position") (fun {α : Type} (ws : List α) => [(ws.drop 0).head?].filterMap id) 1 (tCons (tVar 1) tNil)) (tCons (tNewW (cl 7) (spIn K "value") (fun {α : Type} (ws : List α) => [(ws.drop 0).head?].filterMap id) 1 (tCons (tVar 1) tNil)) (tCons (tNewW (cl 8) (spIn K "value") (fun {α : Type} (ws : List α) => [(ws.drop 0).head?].filterMap id) 1 (tCons (tVar 1) tNil)) tNil))))) (gName 6))
    (tSeq (tAsg (tOp (rAddA K) (tVar 6) (tLst (tCons (tNewW (cl 9) (spIn K "operation") (fun {α : Type} (ws : List α) => [(ws.drop 0).head?].filterMap id) 1 (tCons (tVar 1) tNil)) (tCons (tNewW (cl 10) (spIn K "value") (fun {α : Type} (ws : List α) => [(ws.drop 0).head?].filterMap id) 1 (tCons (tVar 1) tNil)) (tCons (tNewW (cl 11) (spIn K "limit") (fun {α : Type} (ws : List α) => [(ws.drop 0).head?].filterMap id) 1 (tCons (tVar 1) tNil)) (tCons (tNewW (cl 13) (spIn K "value") (fun {α : Type} (ws : List α) => [(ws.drop 0).head?].filterMap id) 1 (tCons (tVar 1) tNil)) tNil)))))) (gName 6))
    (tSeq (tAsg (tOp (rAddA K) (tVar 6) (tLst (tCons (tNewW (cl 14) (spIn K "line") (fun {α : Type} (ws : List α) => [(ws.drop 0).head?].filterMap id) 1 (tCons (tVar 1) tNil)) (tCons (tNewW (cl 6) (spIn2 K "begin" "end") (fun {α : Type} (ws : List α) => [(ws.drop 1).head?, (ws.drop 0).head?].filterMap id) 2 (tCons (tVar 2) (tCons (tVar 1) tNil))) tNil)))) (gName 6))
    (tSeq (tFor (iTup K (tTup (tCons (tVar 5) (tCons (tVar 6) tNil)))) (gName 7)
    (t9__law_right_2 cl K))
    (tRet (tOp (rEqA K) (tCB rRepr (tCons (tTup (tCons (tVar 1) (tCons (tVar 2) tNil))) tNil)) (tVar 4)))))))))))))

def kEn (K : PySem.W.Frag) (g : TG) (tb : TS) (D : Ends) (σ : LB.St) : List V → Hp → Prop := fun vs H1 => ∃ a xs, vs = [.ref a] ∧ SqL K H1 a xs ∧ Looped (Ite K a) g tb D σ H1
theorem w_forE {K : PySem.W.Frag} {g : TG} {tb : TS} {D : Ends} {σ : LB.St} {H : Hp} {ta : TA} (h : ta σ H (kEn K g tb D σ)) : tFor (iEnum K ta) g tb D σ H := h
theorem k_En {K : PySem.W.Frag} {g : TG} {tb : TS} {D : Ends} {σ : LB.St} {H : Hp} {a : Addr} {xs : List V} (e : H a = some (.lst xs)) (Pv : Nat → LB.St → Hp → Prop) (h0 : Pv 0 σ H) (hl : ∀ i σ H, i ≤ xs.length → Pv i σ H → H a = some (.lst xs))
    (hs : ∀ i x σ H H1 T, xs[i]? = some x → Pv i σ H → New H H1 T (.tup [.int (i : Nat), x]) → g (.ref T) σ H1 fun σ2 H2 => tb { D with nx := Pv (i + 1), ct := Pv (i + 1), bk := D.nx } σ2 H2) (hd : ∀ σ H, Pv xs.length σ H → D.nx σ H) : kEn K g tb D σ [.ref a] H := by
  refine ⟨a, xs, rfl, .inl (.inl e), fun i m σ H => m + i = xs.length ∧ Pv i σ H, ⟨xs.length, by omega, h0⟩, ?_⟩
  rintro i m σ H ⟨hm, hp⟩
  have hL : SqL K H a xs := .inl (.inl (hl i σ H (by omega) hp))
  cases m with
  | zero =>
    have : i = xs.length := by omega
    subst this
    exact .inl ⟨⟨xs, hL, Nat.le_refl _⟩, hd σ H hp⟩
  | succ m =>
    have hi : i < xs.length := by omega
    refine .inr ⟨⟨xs, xs[i], hL, List.getElem?_eq_getElem hi⟩, Pv (i + 1), fun σ' H' hp' => ⟨m, by omega, by omega, hp'⟩, ?_⟩
    rintro x H' ⟨T, y, rfl, hT, rfl, hy⟩
    exact hs i y σ H _ T (hy xs hL) hp (.mk' hT)
theorem o_rep13 {K : PySem.W.Frag} {H : Hp} {Q : VK} {a : Addr} {v : V} (e : H a = some (.lst [v])) (h : ∀ p H1, New H H1 p (.lst (List.replicate 13 v)) → Q (.ref p) H1) : rMulA K (.ref a) (.int 13) H Q :=
  .inr (.inr (.inl ⟨a, 13, [v], rfl, rfl, e, by decide, by decide, (by (show 1 * 13 ≤ sizeLine); decide), fun p hp => h p _ (.mk' hp)⟩))
/-- lists of True and False, one and the same -/
theorem bools_dp {K : PySem.W.Frag} {H : Hp} : ∀ bs : List Bool, DpAll K H (bs.map V.bl) (bs.map PyData.bool)
  | [] => .nil
  | b :: bs => .cons (.bl b) (bools_dp bs)
theorem bools_lay : ∀ bs : List Bool, PyData.canLayAll0 (bs.map PyData.bool) = true ∧ PyData.depthAll (bs.map PyData.bool) = 0 ∧ PyData.eqvAll (bs.map PyData.bool) (bs.map PyData.bool) = true
  | [] => by simp only [List.map_nil, PyData.canLayAll0, PyData.depthAll, PyData.eqvAll]; simp
  | b :: bs => by
    obtain ⟨h1, h2, h3⟩ := bools_lay bs
    simp only [List.map_cons, PyData.canLayAll0, PyData.canLay0, PyData.depthAll, PyData.depth, PyData.eqvAll, h1, h2, h3]
    cases b <;> simp [PyData.eqv]
theorem o_neB {K : PySem.W.Frag} {H : Hp} {Q : VK} {a b : Addr} {bs : List Bool} (h1 : H a = some (.lst (bs.map V.bl))) (h2 : H b = some (.lst (bs.map V.bl))) (q : Q (.bl false) H) : rNeA K (.ref a) (.ref b) H Q := by
  obtain ⟨l1, l2, l3⟩ := bools_lay bs
  have sh : SeqAt.shaped (.list (bs.map PyData.bool)) = true := by
    unfold SeqAt.shaped
    simp only [PyData.canLay0, PyData.depth, l1, l2, Bool.true_and]
    decide
  refine .inr ⟨.list (bs.map .bool), .list (bs.map .bool), .lst (.inl (.inl h1)) (bools_dp bs), .lst (.inl (.inl h2)) (bools_dp bs), sh, sh, ?_⟩
  have : PyData.eqv (.list (bs.map .bool)) (.list (bs.map .bool)) = true := by
    unfold PyData.eqv
    exact l3
  rw [this]
  exact q
theorem rep_dds {S : Addr → Prop} {H : Hp} {v : V} {d : PyData} (h : DD S H v d) : ∀ n, DDs S H (List.replicate n v) (List.replicate n d)
  | 0 => .nil
  | n + 1 => .cons h (rep_dds h n)
theorem ord_ok {p : Nat} : 1 ≤ ordA p ∧ ordA p ≤ 14 := by
  unfold ordA
  by_cases h : p < 14
  · have : p = 0 ∨ p = 1 ∨ p = 2 ∨ p = 3 ∨ p = 4 ∨ p = 5 ∨ p = 6 ∨ p = 7 ∨ p = 8 ∨ p = 9 ∨ p = 10 ∨ p = 11 ∨ p = 12 ∨ p = 13 := by omega
    rcases this with rfl | rfl | rfl | rfl | rfl | rfl | rfl | rfl | rfl | rfl | rfl | rfl | rfl | rfl <;> decide
  · rw [List.getD_eq_getElem?_getD, List.getElem?_eq_none (by simp; omega)]
    decide
theorem ord_bits {p : Nat} (h : p < 14) : (ordL.map fun j => decide (ordA p = j)) = (List.range 14).map fun j => decide (j = p) := by
  have : p = 0 ∨ p = 1 ∨ p = 2 ∨ p = 3 ∨ p = 4 ∨ p = 5 ∨ p = 6 ∨ p = 7 ∨ p = 8 ∨ p = 9 ∨ p = 10 ∨ p = 11 ∨ p = 12 ∨ p = 13 := by omega
  rcases this with rfl | rfl | rfl | rfl | rfl | rfl | rfl | rfl | rfl | rfl | rfl | rfl | rfl | rfl <;> decide
theorem lc_spots {K : PySem.W.Frag} {H : Hp} {Q : VK} {j : Nat} {x0 x1 x2 x3 x4 x5 x6 x7 x9 x10 : Option V} (q : ∀ D H1, Keep NoS H H1 → H1 D = some (.lst (((List.range 14).map fun q => decide (q = j)).map V.bl)) → Q (.ref D) H1) :
    tLc (iRng1 (tCons (tC (V.int 14)) tNil)) (gName 10) tYes (tOp (rEqA K) (tVar 10) (tVar 8)) [10] [x0, x1, x2, x3, x4, x5, x6, x7, some (.int j), x9, x10] H Q := by
  unfold tLc iRng1
  refine w_cons (w_c (w_nil ⟨14, rfl, by omega, by omega, fun D hD => ?_⟩))
  refine lc_range (fun i H' => Keep NoS H H' ∧ H' D = some (.lst (((List.range i).map fun q => decide (q = j)).map V.bl))) ⟨Keep.new hD, upd_same⟩ ?_ ?_
  · rintro i H1 hi ⟨k1, hb⟩
    have hi14 : i < 14 := by simpa using hi
    refine ⟨rfl, ?_⟩
    refine w_yes ?_
    refine w_iteT rfl ?_
    walk_at "ws_10"
    refine ⟨_, hb, Nat.lt_of_le_of_lt (by simp; omega : _ ≤ 1000) (by decide), k1.put0 hD hb, ?_⟩
    have e : decide (V.int (0 + (i : Int)) = V.int (j : Int)) = decide (i = j) := by
      by_cases h : i = j
      · subst h; simp
      · have : ¬ (0 + (i : Int) = (j : Int)) := by omega
        simp [h]
        omega
    rw [e, List.range_succ, List.map_append, List.map_append]
    exact upd_same
  · rintro H1 ⟨k1, hb⟩
    exact q D H1 k1 hb
/-- errors one behind the other -/
theorem Errs.snoc {cl : Nat → Addr} {H : Hp} {v w u : V} {us : List V} (h : Errs cl H v w us) (e : IsE cl H u (ordA us.length) (fsA v w us.length)) : Errs cl H v w (us ++ [u]) := fun p x hx => by
  by_cases hp : p < us.length
  · rw [List.getElem?_append_left hp] at hx
    exact h p x hx
  · rw [List.getElem?_append_right (by omega)] at hx
    have : p = us.length := by
      by_cases h2 : p = us.length
      · exact h2
      · rw [List.getElem?_eq_none (by simp; omega)] at hx
        cases hx
    subst this
    simp at hx
    subst hx
    exact e
theorem Errs.nil {cl : Nat → Addr} {H : Hp} {v w : V} : Errs cl H v w [] := fun p u h => by simp at h

theorem pure9__law_right {K : PySem.W.Frag} {cl : Nat → Addr} {vs : List V} {H : Hp} {Q : VK} {E : XK} (h : spRt K cl vs H Q E) : t9__law_right cl K { nx := fun _ H' => Q .non H', rt := Q } (start ["pot", "thing", "second", "turn", "kept", "made", "named", "some", "at", "error", "spot"] vs) H := by
  obtain ⟨p, N, rfl, T, pt, hN, q⟩ := h
  show t9__law_right cl K _ [some (.ref p), none, none, none, none, none, none, none, none, none, none] H
  unfold t9__law_right
  walk_at "ws_10"
  refine ⟨2, rfl, by omega, by omega, fun D hD => ?_⟩
  have pD : p ≠ D := pt.ne hD
  refine lc_range (fun i H' => Keep (At p) H H' ∧ Pot H' p (N - 2 * i) ∧ ∃ ys, H' D = some (.lst ys) ∧ ys.length = i ∧ ∀ v ∈ ys, Good (Or2 p D) H' 1 3 1150 v) ⟨Keep.new hD, pt.new (.mk' hD), [], upd_same, rfl, all_nil⟩ ?_ ?_
  · rintro i H1 hi ⟨k1, pt1, ys, hb, hl, hy⟩
    have hi2 : i < 2 := by simpa using hi
    refine ⟨rfl, ?_⟩
    refine w_yes ?_
    refine w_iteT rfl ?_
    walk_at "ws_10"
    refine k_tup (by simp; decide) fun a1 A1 m1 => ?_
    walk_at "ws_10"
    refine k_tup (by simp; decide) fun a2 A2 m2 => ?_
    walk_at "ws_10"
    refine k_lst (by simp; decide) fun a3 A3 m3 => ?_
    walk_at "ws_10"
    have g1 : Good (Or2 p D) A3 0 1 250 (.ref a1) := (good_tupG (n := 0) (k := 0) (m := 101) (w := 204) (m3.get (m2.get m1.at_)) (all_cons (good_flat (by decide) (by omega) (by omega)) (all_cons (good_flat (by decide) (by omega) (by omega)) all_nil)) (by simp)).mono (by omega) (by omega) (by omega)
    have g2 : Good (Or2 p D) A3 0 2 510 (.ref a2) := good_tupG (n := 0) (k := 1) (m := 250) (w := 510) (m3.get m2.at_) (all_cons (good_flat (by decide) (by omega) (by omega)) (all_cons g1 all_nil)) (by simp)
    have gs : ∀ v ∈ [V.int 7, V.str "a", V.ref a2], Good (Or2 p D) A3 0 2 300 v ∨ Good (Or2 p D) A3 0 2 510 v := all_cons (.inl (good_flat (by decide) (by omega) (by omega))) (all_cons (.inl (good_flat (by decide) (by omega) (by omega))) (all_cons (.inr g2) all_nil))
    have kA : Keep NoS H1 A3 := (m1.keep.trans m2.keep).trans m3.keep
    refine o_any (pt1.keep kA) (by omega) (fun e => (pt1.keep (m1.keep.trans m2.keep)).ne m3.no e.symm) (.inl m3.at_) (by simp) (by simp) fun A4 j v ev kp4 pt4 => ?_
    have gv : Good (Or2 p D) A3 0 2 510 v := by
      rcases gs v (List.mem_of_getElem? ev) with g | g
      · exact g.mono (by omega) (by omega) (by omega)
      · exact g
    obtain ⟨d, dd, nd⟩ := gv.keep (kp4.mono fun b hb => .inl hb)
    have hb4 := kp4.all _ _ (fun e => pD e.symm) (kA.all _ _ id hb)
    have hS : ∀ b, Or2 p D b → A4 b ≠ none := fun b hb e => by
      rcases hb with hb | hb
      · obtain ⟨zs, hz⟩ := pt4.some
        rw [hb, hz] at e
        cases e
      · rw [hb, hb4] at e
        cases e
    refine ⟨p, v, d, Or2 p D, _, 0, 2, 510, rfl, pt4, by omega, .inl rfl, hS, dd, nd, by omega, by omega, fun A5 u kp5 pt5 gu => ?_⟩
    have hb5 := kp5.all _ _ (fun e => pD e.symm) hb4
    have k15 : Keep (At p) H1 A5 := (kA.of0.trans kp4).trans kp5
    have kU : Keep (Or2 p D) A5 (upd A5 D (.lst (ys ++ [u]))) := Keep.put (.inr rfl) hb5
    refine ⟨ys, hb5, Nat.lt_of_le_of_lt (by omega : ys.length ≤ 1000) (by decide), (k1.trans k15).put0 hD hb5, (pt5.put (.mk' (o := .lst (ys ++ [u]))) pD).le (by omega), ys ++ [u], upd_same, by rw [List.length_append, hl]; rfl, ?_⟩
    refine all_app (fun x hx => ((hy x hx).keep (k15.mono fun b hb => .inl hb)).keep kU) (all_cons ?_ all_nil)
    exact (gu.mono (by omega) (by omega) (by omega)).keep kU
  · rintro B0 ⟨kB, ptB, ys, hb, hl, hy⟩
    obtain ⟨v, w, rfl⟩ : ∃ v w, ys = [v, w] := by
      match ys, hl with
      | [v, w], _ => exact ⟨v, w, rfl⟩
    obtain ⟨dv, hdv, nv⟩ := hy v (by simp)
    obtain ⟨dw, hdw, nw⟩ := hy w (by simp)
    have hdv : DD NoS B0 v dv := hdv.mono fun _ _ h => h.elim
    have hdw : DD NoS B0 w dw := hdw.mono fun _ _ h => h.elim
    have both : ∀ {P : PyData → Prop}, P dv → P dw → ∀ d ∈ [dv, dw], P d := fun a b d hd => by
      simp only [List.mem_cons, List.not_mem_nil, or_false] at hd
      rcases hd with rfl | rfl
      · exact a
      · exact b
    have nt : Nice 1 4 2400 (.tuple [dv, dw]) := nice_tup (both nv.ok nw.ok) (both nv.dp nw.dp) (by
      simp only [PyData.weightAll]
      have := nv.wt
      have := nw.wt
      omega)
    have nl : Nice 1 4 17000 (.list (List.replicate 13 dv ++ [dw])) := by
      have mem : ∀ {P : PyData → Prop}, P dv → P dw → ∀ d ∈ List.replicate 13 dv ++ [dw], P d := fun a b d hd => by
        rcases List.mem_append.mp hd with hd | hd
        · rw [List.eq_of_mem_replicate hd]
          exact a
        · simp only [List.mem_cons, List.not_mem_nil, or_false] at hd
          rw [hd]
          exact b
      refine nice_list (mem nv.ok nw.ok) (mem nv.dp nw.dp) ?_
      rw [wAll_append]
      simp only [List.replicate, PyData.weightAll]
      have := nv.wt
      have := nw.wt
      omega
    refine ⟨D, [v, w], rfl, .inl (.inl hb), rfl, v, _, rfl, w, _, rfl, rfl, ?_⟩
    walk_at "ws_10"
    refine k_tup (by simp; decide) fun t1 B1 n1 => ?_
    walk_at "ws_10"
    refine o_repr (S := NoS) (.tup n1.at_ (.cons (hdv.keep n1.keep) (.cons (hdw.keep n1.keep) .nil))) nt (by omega) (by omega) (by omega) ?_
    walk_at "ws_10"

    refine w_newE ?_
    walk_at "ws_10"
    refine k_newE T (by decide) (by decide) (T.fld 0 (by decide)) fun ua0 B2 k2 ea0 => ?_
    walk_at "ws_10"
    refine w_newE ?_
    walk_at "ws_10"
    refine k_newE T (by decide) (by decide) (T.fld 1 (by decide)) fun ua1 B3 k3 ea1 => ?_
    walk_at "ws_10"
    refine w_newE ?_
    walk_at "ws_10"
    refine k_newE T (by decide) (by decide) (T.fld 2 (by decide)) fun ua2 B4 k4 ea2 => ?_
    walk_at "ws_10"
    refine w_newE ?_
    walk_at "ws_10"
    refine k_newE T (by decide) (by decide) (T.fld 3 (by decide)) fun ua3 B5 k5 ea3 => ?_
    walk_at "ws_10"
    refine w_newE ?_
    walk_at "ws_10"
    refine k_newE T (by decide) (by decide) (T.fld 4 (by decide)) fun ua4 B6 k6 ea4 => ?_
    walk_at "ws_10"
    refine w_newE ?_
    walk_at "ws_10"
    refine k_newE T (by decide) (by decide) (T.fld 5 (by decide)) fun ua5 B7 k7 ea5 => ?_
    walk_at "ws_10"
    refine k_lst (by simp; decide) fun la0 B8 nla0 => ?_
    have k8 : Keep NoS B7 B8 := nla0.keep
    walk_at "ws_10"
    refine w_newE ?_
    walk_at "ws_10"
    refine k_newE T (by decide) (by decide) (T.fld 6 (by decide)) fun ua6 B9 k9 ea6 => ?_
    walk_at "ws_10"
    refine w_newE ?_
    walk_at "ws_10"
    refine k_newE T (by decide) (by decide) (T.fld 7 (by decide)) fun ua7 B10 k10 ea7 => ?_
    walk_at "ws_10"
    refine w_newE ?_
    walk_at "ws_10"
    refine k_newE T (by decide) (by decide) (T.fld 8 (by decide)) fun ua8 B11 k11 ea8 => ?_
    walk_at "ws_10"
    refine w_newE ?_
    walk_at "ws_10"
    refine k_newE T (by decide) (by decide) (T.fld 9 (by decide)) fun ua9 B12 k12 ea9 => ?_
    walk_at "ws_10"
    refine w_newE ?_
    walk_at "ws_10"
    refine k_newE T (by decide) (by decide) (T.fld 10 (by decide)) fun ua10 B13 k13 ea10 => ?_
    walk_at "ws_10"
    refine k_lst (by simp; decide) fun la1 B14 nla1 => ?_
    have k14 : Keep NoS B13 B14 := nla1.keep
    have at_la0 := ((((((k9).trans k10).trans k11).trans k12).trans k13).trans k14).all _ _ id nla0.at_
    refine o_addL (at_la0) nla1.at_ (by simp; decide) fun sa1 B15 nsa1 => ?_
    have k15 : Keep NoS B14 B15 := nsa1.keep
    walk_at "ws_10"
    refine w_newE ?_
    walk_at "ws_10"
    refine k_newE T (by decide) (by decide) (T.fld 11 (by decide)) fun ua11 B16 k16 ea11 => ?_
    walk_at "ws_10"
    refine w_newE ?_
    walk_at "ws_10"
    refine k_newE2 T (by decide) (by decide) T.fldB T.fldE fun ua12 B17 k17 ea12 => ?_
    walk_at "ws_10"
    skip
    walk_at "ws_10"
    refine o_new0 fun ua13 B18 k18 ea13 => ?_
    walk_at "ws_10"
    refine k_lst (by simp; decide) fun la2 B19 nla2 => ?_
    have k19 : Keep NoS B18 B19 := nla2.keep
    have at_sa1 := ((((k16).trans k17).trans k18).trans k19).all _ _ id nsa1.at_
    refine o_addL (at_sa1) nla2.at_ (by simp; decide) fun sa2 B20 nsa2 => ?_
    have k20 : Keep NoS B19 B20 := nsa2.keep
    walk_at "ws_10"
    refine w_newW ?_
    walk_at "ws_10"
    refine k_newW T (by decide) (by decide) (T.fld 0 (by decide)) fun ub0 B21 k21 eb0 => ?_
    walk_at "ws_10"
    refine w_newW ?_
    walk_at "ws_10"
    refine k_newW T (by decide) (by decide) (T.fld 1 (by decide)) fun ub1 B22 k22 eb1 => ?_
    walk_at "ws_10"
    refine w_newW ?_
    walk_at "ws_10"
    refine k_newW T (by decide) (by decide) (T.fld 2 (by decide)) fun ub2 B23 k23 eb2 => ?_
    walk_at "ws_10"
    refine w_newW ?_
    walk_at "ws_10"
    refine k_newW T (by decide) (by decide) (T.fld 3 (by decide)) fun ub3 B24 k24 eb3 => ?_
    walk_at "ws_10"
    refine k_lst (by simp; decide) fun lb0 B25 nlb0 => ?_
    have k25 : Keep NoS B24 B25 := nlb0.keep
    walk_at "ws_10"
    refine w_newW ?_
    walk_at "ws_10"
    refine k_newW T (by decide) (by decide) (T.fld 4 (by decide)) fun ub4 B26 k26 eb4 => ?_
    walk_at "ws_10"
    refine w_newW ?_
    walk_at "ws_10"
    refine k_newW T (by decide) (by decide) (T.fld 5 (by decide)) fun ub5 B27 k27 eb5 => ?_
    walk_at "ws_10"
    refine w_newW ?_
    walk_at "ws_10"
    refine k_newW T (by decide) (by decide) (T.fld 6 (by decide)) fun ub6 B28 k28 eb6 => ?_
    walk_at "ws_10"
    refine k_lst (by simp; decide) fun lb1 B29 nlb1 => ?_
    have k29 : Keep NoS B28 B29 := nlb1.keep
    have at_lb0 := ((((k26).trans k27).trans k28).trans k29).all _ _ id nlb0.at_
    refine o_addL (at_lb0) nlb1.at_ (by simp; decide) fun sb1 B30 nsb1 => ?_
    have k30 : Keep NoS B29 B30 := nsb1.keep
    walk_at "ws_10"
    refine w_newW ?_
    walk_at "ws_10"
    refine k_newW T (by decide) (by decide) (T.fld 7 (by decide)) fun ub7 B31 k31 eb7 => ?_
    walk_at "ws_10"
    refine w_newW ?_
    walk_at "ws_10"
    refine k_newW T (by decide) (by decide) (T.fld 8 (by decide)) fun ub8 B32 k32 eb8 => ?_
    walk_at "ws_10"
    refine w_newW ?_
    walk_at "ws_10"
    refine k_newW T (by decide) (by decide) (T.fld 9 (by decide)) fun ub9 B33 k33 eb9 => ?_
    walk_at "ws_10"
    refine w_newW ?_
    walk_at "ws_10"
    refine k_newW T (by decide) (by decide) (T.fld 10 (by decide)) fun ub10 B34 k34 eb10 => ?_
    walk_at "ws_10"
    refine k_lst (by simp; decide) fun lb2 B35 nlb2 => ?_
    have k35 : Keep NoS B34 B35 := nlb2.keep
    have at_sb1 := (((((k31).trans k32).trans k33).trans k34).trans k35).all _ _ id nsb1.at_
    refine o_addL (at_sb1) nlb2.at_ (by simp; decide) fun sb2 B36 nsb2 => ?_
    have k36 : Keep NoS B35 B36 := nsb2.keep
    walk_at "ws_10"
    refine w_newW ?_
    walk_at "ws_10"
    refine k_newW T (by decide) (by decide) (T.fld 11 (by decide)) fun ub11 B37 k37 eb11 => ?_
    walk_at "ws_10"
    refine w_newW ?_
    walk_at "ws_10"
    refine k_newW2 T (by decide) (by decide) T.fldB T.fldE fun ub12 B38 k38 eb12 => ?_
    walk_at "ws_10"
    refine k_lst (by simp; decide) fun lb3 B39 nlb3 => ?_
    have k39 : Keep NoS B38 B39 := nlb3.keep
    have at_sb2 := (((k37).trans k38).trans k39).all _ _ id nsb2.at_
    refine o_addL (at_sb2) nlb3.at_ (by simp; decide) fun sb3 B40 nsb3 => ?_
    have k40 : Keep NoS B39 B40 := nsb3.keep
    walk_at "ws_10"
    have kZ : Keep NoS B1 B40 := ((((((((((((((((((((((((((((((((((((((k2).trans k3).trans k4).trans k5).trans k6).trans k7).trans k8).trans k9).trans k10).trans k11).trans k12).trans k13).trans k14).trans k15).trans k16).trans k17).trans k18).trans k19).trans k20).trans k21).trans k22).trans k23).trans k24).trans k25).trans k26).trans k27).trans k28).trans k29).trans k30).trans k31).trans k32).trans k33).trans k34).trans k35).trans k36).trans k37).trans k38).trans k39).trans k40
    have hA := ((((((((((((((((((((k21).trans k22).trans k23).trans k24).trans k25).trans k26).trans k27).trans k28).trans k29).trans k30).trans k31).trans k32).trans k33).trans k34).trans k35).trans k36).trans k37).trans k38).trans k39).trans k40).all _ _ id nsa2.at_
    have hB := nsb3.at_
    have eA : Errs cl B40 v w [ua0, ua1, ua2, ua3, ua4, ua5, ua6, ua7, ua8, ua9, ua10, ua11, ua12, ua13] := ((((((((((((((Errs.nil).snoc (ea0.keep ((((((((((((((((((((((((((((((((((((((k3).trans k4).trans k5).trans k6).trans k7).trans k8).trans k9).trans k10).trans k11).trans k12).trans k13).trans k14).trans k15).trans k16).trans k17).trans k18).trans k19).trans k20).trans k21).trans k22).trans k23).trans k24).trans k25).trans k26).trans k27).trans k28).trans k29).trans k30).trans k31).trans k32).trans k33).trans k34).trans k35).trans k36).trans k37).trans k38).trans k39).trans k40))).snoc (ea1.keep (((((((((((((((((((((((((((((((((((((k4).trans k5).trans k6).trans k7).trans k8).trans k9).trans k10).trans k11).trans k12).trans k13).trans k14).trans k15).trans k16).trans k17).trans k18).trans k19).trans k20).trans k21).trans k22).trans k23).trans k24).trans k25).trans k26).trans k27).trans k28).trans k29).trans k30).trans k31).trans k32).trans k33).trans k34).trans k35).trans k36).trans k37).trans k38).trans k39).trans k40))).snoc (ea2.keep ((((((((((((((((((((((((((((((((((((k5).trans k6).trans k7).trans k8).trans k9).trans k10).trans k11).trans k12).trans k13).trans k14).trans k15).trans k16).trans k17).trans k18).trans k19).trans k20).trans k21).trans k22).trans k23).trans k24).trans k25).trans k26).trans k27).trans k28).trans k29).trans k30).trans k31).trans k32).trans k33).trans k34).trans k35).trans k36).trans k37).trans k38).trans k39).trans k40))).snoc (ea3.keep (((((((((((((((((((((((((((((((((((k6).trans k7).trans k8).trans k9).trans k10).trans k11).trans k12).trans k13).trans k14).trans k15).trans k16).trans k17).trans k18).trans k19).trans k20).trans k21).trans k22).trans k23).trans k24).trans k25).trans k26).trans k27).trans k28).trans k29).trans k30).trans k31).trans k32).trans k33).trans k34).trans k35).trans k36).trans k37).trans k38).trans k39).trans k40))).snoc (ea4.keep ((((((((((((((((((((((((((((((((((k7).trans k8).trans k9).trans k10).trans k11).trans k12).trans k13).trans k14).trans k15).trans k16).trans k17).trans k18).trans k19).trans k20).trans k21).trans k22).trans k23).trans k24).trans k25).trans k26).trans k27).trans k28).trans k29).trans k30).trans k31).trans k32).trans k33).trans k34).trans k35).trans k36).trans k37).trans k38).trans k39).trans k40))).snoc (ea5.keep (((((((((((((((((((((((((((((((((k8).trans k9).trans k10).trans k11).trans k12).trans k13).trans k14).trans k15).trans k16).trans k17).trans k18).trans k19).trans k20).trans k21).trans k22).trans k23).trans k24).trans k25).trans k26).trans k27).trans k28).trans k29).trans k30).trans k31).trans k32).trans k33).trans k34).trans k35).trans k36).trans k37).trans k38).trans k39).trans k40))).snoc (ea6.keep (((((((((((((((((((((((((((((((k10).trans k11).trans k12).trans k13).trans k14).trans k15).trans k16).trans k17).trans k18).trans k19).trans k20).trans k21).trans k22).trans k23).trans k24).trans k25).trans k26).trans k27).trans k28).trans k29).trans k30).trans k31).trans k32).trans k33).trans k34).trans k35).trans k36).trans k37).trans k38).trans k39).trans k40))).snoc (ea7.keep ((((((((((((((((((((((((((((((k11).trans k12).trans k13).trans k14).trans k15).trans k16).trans k17).trans k18).trans k19).trans k20).trans k21).trans k22).trans k23).trans k24).trans k25).trans k26).trans k27).trans k28).trans k29).trans k30).trans k31).trans k32).trans k33).trans k34).trans k35).trans k36).trans k37).trans k38).trans k39).trans k40))).snoc (ea8.keep (((((((((((((((((((((((((((((k12).trans k13).trans k14).trans k15).trans k16).trans k17).trans k18).trans k19).trans k20).trans k21).trans k22).trans k23).trans k24).trans k25).trans k26).trans k27).trans k28).trans k29).trans k30).trans k31).trans k32).trans k33).trans k34).trans k35).trans k36).trans k37).trans k38).trans k39).trans k40))).snoc (ea9.keep ((((((((((((((((((((((((((((k13).trans k14).trans k15).trans k16).trans k17).trans k18).trans k19).trans k20).trans k21).trans k22).trans k23).trans k24).trans k25).trans k26).trans k27).trans k28).trans k29).trans k30).trans k31).trans k32).trans k33).trans k34).trans k35).trans k36).trans k37).trans k38).trans k39).trans k40))).snoc (ea10.keep (((((((((((((((((((((((((((k14).trans k15).trans k16).trans k17).trans k18).trans k19).trans k20).trans k21).trans k22).trans k23).trans k24).trans k25).trans k26).trans k27).trans k28).trans k29).trans k30).trans k31).trans k32).trans k33).trans k34).trans k35).trans k36).trans k37).trans k38).trans k39).trans k40))).snoc (ea11.keep ((((((((((((((((((((((((k17).trans k18).trans k19).trans k20).trans k21).trans k22).trans k23).trans k24).trans k25).trans k26).trans k27).trans k28).trans k29).trans k30).trans k31).trans k32).trans k33).trans k34).trans k35).trans k36).trans k37).trans k38).trans k39).trans k40))).snoc (ea12.keep (((((((((((((((((((((((k18).trans k19).trans k20).trans k21).trans k22).trans k23).trans k24).trans k25).trans k26).trans k27).trans k28).trans k29).trans k30).trans k31).trans k32).trans k33).trans k34).trans k35).trans k36).trans k37).trans k38).trans k39).trans k40))).snoc (ea13.keep ((((((((((((((((((((((k19).trans k20).trans k21).trans k22).trans k23).trans k24).trans k25).trans k26).trans k27).trans k28).trans k29).trans k30).trans k31).trans k32).trans k33).trans k34).trans k35).trans k36).trans k37).trans k38).trans k39).trans k40))
    have eB : Errs cl B40 v w [ub0, ub1, ub2, ub3, ub4, ub5, ub6, ub7, ub8, ub9, ub10, ub11, ub12] := (((((((((((((Errs.nil).snoc (eb0.keep (((((((((((((((((((k22).trans k23).trans k24).trans k25).trans k26).trans k27).trans k28).trans k29).trans k30).trans k31).trans k32).trans k33).trans k34).trans k35).trans k36).trans k37).trans k38).trans k39).trans k40))).snoc (eb1.keep ((((((((((((((((((k23).trans k24).trans k25).trans k26).trans k27).trans k28).trans k29).trans k30).trans k31).trans k32).trans k33).trans k34).trans k35).trans k36).trans k37).trans k38).trans k39).trans k40))).snoc (eb2.keep (((((((((((((((((k24).trans k25).trans k26).trans k27).trans k28).trans k29).trans k30).trans k31).trans k32).trans k33).trans k34).trans k35).trans k36).trans k37).trans k38).trans k39).trans k40))).snoc (eb3.keep ((((((((((((((((k25).trans k26).trans k27).trans k28).trans k29).trans k30).trans k31).trans k32).trans k33).trans k34).trans k35).trans k36).trans k37).trans k38).trans k39).trans k40))).snoc (eb4.keep ((((((((((((((k27).trans k28).trans k29).trans k30).trans k31).trans k32).trans k33).trans k34).trans k35).trans k36).trans k37).trans k38).trans k39).trans k40))).snoc (eb5.keep (((((((((((((k28).trans k29).trans k30).trans k31).trans k32).trans k33).trans k34).trans k35).trans k36).trans k37).trans k38).trans k39).trans k40))).snoc (eb6.keep ((((((((((((k29).trans k30).trans k31).trans k32).trans k33).trans k34).trans k35).trans k36).trans k37).trans k38).trans k39).trans k40))).snoc (eb7.keep (((((((((k32).trans k33).trans k34).trans k35).trans k36).trans k37).trans k38).trans k39).trans k40))).snoc (eb8.keep ((((((((k33).trans k34).trans k35).trans k36).trans k37).trans k38).trans k39).trans k40))).snoc (eb9.keep (((((((k34).trans k35).trans k36).trans k37).trans k38).trans k39).trans k40))).snoc (eb10.keep ((((((k35).trans k36).trans k37).trans k38).trans k39).trans k40))).snoc (eb11.keep (((k38).trans k39).trans k40))).snoc (eb12.keep ((k39).trans k40))
    have hA : B40 sa2 = some (.lst [ua0, ua1, ua2, ua3, ua4, ua5, ua6, ua7, ua8, ua9, ua10, ua11, ua12, ua13]) := hA
    have hB : B40 sb3 = some (.lst [ub0, ub1, ub2, ub3, ub4, ub5, ub6, ub7, ub8, ub9, ub10, ub11, ub12]) := hB
    generalize hua : [ua0, ua1, ua2, ua3, ua4, ua5, ua6, ua7, ua8, ua9, ua10, ua11, ua12, ua13] = usA at hA eA
    generalize hub : [ub0, ub1, ub2, ub3, ub4, ub5, ub6, ub7, ub8, ub9, ub10, ub11, ub12] = usB at hB eB
    have lA : usA.length = 14 := by rw [← hua]; rfl
    have lB : usB.length = 13 := by rw [← hub]; rfl
    have hdv := (hdv.keep n1.keep).keep kZ
    have hdw := (hdw.keep n1.keep).keep kZ
    have kH : Keep (At p) H B40 := kB.trans (n1.keep.trans kZ).of0
    have ptH : Pot B40 p (N - 4) := (ptB.keep (n1.keep.trans kZ)).le (by simp)
    refine k_tup (by simp; decide) fun t2 C0 m2 => ?_
    have hA := m2.get hA
    have hB := m2.get hB
    have eA := eA.keep m2.keep
    have eB := eB.keep m2.keep
    have hdv := hdv.keep m2.keep
    have hdw := hdw.keep m2.keep
    refine k_Ft m2.at_ (fun i σ H' => ∃ x7 x8 x9 x10, σ = [some (.ref p), some v, some w, none, some (.str (PyData.tuple [dv, dw]).shown), some (.ref sa2), some (.ref sb3), x7, x8, x9, x10] ∧ Keep NoS C0 H') ⟨_, _, _, _, rfl, Keep.refl _ _⟩ (fun i σ H' _ h => by obtain ⟨_, _, _, _, _, k⟩ := h; exact k.tup _ _ m2.at_) ?_ ?_
    · rintro i x σ D0 hi ⟨x7, x8, x9, x10, rfl, kD⟩
      obtain ⟨l, us, rfl, hl, h13, h14, he⟩ : ∃ l us, x = .ref l ∧ C0 l = some (.lst us) ∧ 13 ≤ us.length ∧ us.length ≤ 14 ∧ Errs cl C0 v w us := by
        match i, hi with
        | 0, h => exact ⟨_, _, (Option.some.inj h).symm, hA, by omega, by omega, eA⟩
        | 1, h => exact ⟨_, _, (Option.some.inj h).symm, hB, by omega, by omega, eB⟩
      walk_at "ws_10"
      unfold t9__law_right_2
      walk_at "ws_10"
      refine ⟨l, us, v, w, rfl, T, kD.all _ _ id hl, h13, he.keep kD, fun l2 D1 k1 e1 => ?_⟩
      have kD1 := kD.trans k1
      walk_at "ws_10"
      refine o_repr (S := NoS) (.lst id e1 ((rep_dds (hdv.keep kD1) 13).append (.cons (hdw.keep kD1) .nil))) nl (by omega) (by omega) (by omega) ?_
      walk_at "ws_10"
      refine k_lst (by simp; decide) fun l3 D2 m3 => ?_
      walk_at "ws_10"
      refine o_rep13 m3.at_ fun l4 D3 m4 => ?_
      walk_at "ws_10"
      refine k_lst (by simp; decide) fun l5 D4 m5 => ?_
      refine o_addL (m5.get m4.at_) m5.at_ (by simp; decide) fun l6 D5 m6 => ?_
      walk_at "ws_10"
      have kD5 : Keep NoS C0 D5 := (((kD1.trans m3.keep).trans m4.keep).trans m5.keep).trans m6.keep
      refine o_repr (S := NoS) (.lst id m6.at_ ((rep_dds (hdv.keep kD5) 13).append (.cons (hdw.keep kD5) .nil))) nl (by omega) (by omega) (by omega) ?_
      walk_at "ws_10"
      refine w_iteF (by simp) ?_
      walk_at "ws_10"
      refine w_forE ?_
      walk_at "ws_10"
      refine k_En (kD5.all _ _ id hl) (fun j σ H' => ∃ x8 x9 x10, σ = [some (.ref p), some v, some w, none, some (.str (PyData.tuple [dv, dw]).shown), some (.ref sa2), some (.ref sb3), some (.ref l), x8, x9, x10] ∧ Keep NoS C0 H') ⟨_, _, _, rfl, kD5⟩ (fun j σ H' _ h => by obtain ⟨_, _, _, _, k⟩ := h; exact k.all _ _ id hl) ?_ ?_
      · rintro j u σ G0 G1 tt hj ⟨x8, x9, x10, rfl, kG⟩ m7
        have hj14 : j < 14 := by
          by_cases h : j < us.length
          · omega
          · rw [List.getElem?_eq_none (by omega)] at hj; cases hj
        have kG1 : Keep NoS C0 G1 := kG.trans m7.keep
        refine ⟨tt, [.int (j : Nat), u], rfl, .inl (.inl m7.at_), rfl, .int (j : Nat), _, rfl, u, _, rfl, rfl, ?_⟩
        unfold t9__law_right_1
        walk_at "ws_10"
        have ie := (he j u hj).keep kG1
        have o1 := ord_ok (p := j)
        refine ⟨u, ordA j, fsA v w j, rfl, T, ie, o1.1, o1.2, fun l7 G2 k2 e2 => ?_⟩
        walk_at "ws_10"
        refine lc_spots fun D7 G3 k3 e3 => ?_
        walk_at "ws_10"
        have e2' : (ordL.map fun q => V.bl (decide (ordA j = q))) = ((List.range 14).map fun q => decide (q = j)).map V.bl := by
          rw [← ord_bits hj14, List.map_map]
          rfl
        rw [e2'] at e2
        refine o_neB (k3.all _ _ id e2) e3 ?_
        walk_at "ws_10"
        refine w_iteF rfl ?_
        walk_at "ws_10"
        have ie3 := (ie.keep k2).keep k3
        refine o_isB T ie3 o1.1 o1.2 ?_
        walk_at "ws_10"
        refine w_iteF rfl ?_
        walk_at "ws_10"
        refine o_isV T ie3 o1.1 o1.2 ?_
        walk_at "ws_10"
        refine w_iteF rfl ?_
        walk_at "ws_10"
        exact ⟨_, _, _, rfl, (kG1.trans k2).trans k3⟩
      · rintro σ G0 ⟨x8, x9, x10, rfl, kG⟩
        exact ⟨_, _, _, _, rfl, kG⟩
    · rintro σ D0 ⟨x7, x8, x9, x10, rfl, kD⟩
      walk_at "ws_10"
      refine k_tup (by simp; decide) fun t3 D1 m3 => ?_
      walk_at "ws_10"
      refine o_repr (S := NoS) (.tup m3.at_ (.cons ((hdv.keep kD).keep m3.keep) (.cons ((hdw.keep kD).keep m3.keep) .nil))) nt (by omega) (by omega) (by omega) ?_
      walk_at "ws_10"
      rw [decide_eq_true rfl]
      exact q D1 (kH.trans ((m2.keep.trans kD).trans m3.keep).of0) ((ptH.keep ((m2.keep.trans kD).trans m3.keep)).le (by omega))
end LB

open PySem PySem.Spec PyProof.Rows L2 LB
/-! the tactic: one step of a reading; many -/
local macro_rules | `(tactic| walk_at "w1_11") => `(tactic| first
  | with_reducible refine w_seq ?_ | with_reducible refine w_asg ?_ | with_reducible refine w_drop ?_ | with_reducible refine w_ret ?_ | with_reducible refine w_next ?_
  | with_reducible refine w_ifs ?_ | with_reducible refine w_forR1 ?_ | with_reducible refine w_forR2 ?_ | with_reducible refine w_forL ?_ | with_reducible refine w_forT ?_ | with_reducible refine w_name ?_ | with_reducible refine w_sub ?_ | with_reducible refine w_par ?_
  | with_reducible refine w_var (by with_unfolding_all rfl) ?_ | with_reducible refine w_c ?_ | with_reducible refine w_op ?_ | with_reducible refine w_un ?_
  | with_reducible refine w_test ?_ | with_reducible refine w_tb ?_ | with_reducible refine w_nil ?_ | with_reducible refine w_cons ?_ | with_reducible refine w_cb ?_ | with_reducible refine w_call ?_
  | with_reducible refine w_not ?_ | with_reducible refine w_and ?_ | with_reducible refine w_or ?_ | with_reducible refine w_andV ?_ | with_reducible refine w_orV ?_ | with_reducible refine w_notV ?_
  | with_reducible refine w_ife ?_ | with_reducible refine w_chain ?_ | with_reducible refine w_bm ?_ | with_reducible refine w_sl ?_ | with_reducible refine w_part ?_ | with_reducible refine w_nopart ?_
  | with_reducible refine w_exb ?_ | with_reducible refine w_exi ?_ | with_reducible refine w_ex2 ?_ | with_reducible refine w_ex3 ?_ | with_reducible refine w_lstrg ?_ | with_reducible refine w_rg2 ?_ | with_reducible refine w_rg1 ?_ | with_reducible refine w_exij ?_ | with_reducible refine w_tup ?_ | with_reducible refine w_lst ?_
  | with_reducible refine o_add ?_ | with_reducible refine o_sub ?_ | with_reducible refine o_neg ?_ | with_reducible refine o_lt ?_ | with_reducible refine o_le ?_ | with_reducible refine o_gt ?_ | with_reducible refine o_ge ?_
  | with_reducible refine o_ixL (by assumption) (by decide) (by with_unfolding_all rfl) ?_ | with_reducible refine o_ixT (by assumption) (by decide) (by with_unfolding_all rfl) ?_
  | with_reducible refine o_mod (by first | decide | omega) ?_ | with_reducible refine o_mul (by first | decide | omega) ?_ | with_reducible refine o_fdv (by first | decide | omega) (by first | decide | omega) ?_ | with_reducible refine o_setL (by assumption) (by decide) (by simp) ?_
  | with_reducible refine oo_addi ?_ | with_reducible refine oo_sub ?_ | with_reducible refine oo_neg ?_ | with_reducible refine w_rev ?_ | with_reducible refine w_m0 ?_
  | with_reducible refine w_par3 ?_ | with_reducible refine w_tyl (by assumption) ?_
  | with_reducible refine o_abs ?_ | with_reducible refine o_eqs (by with_unfolding_all rfl) ?_ | with_reducible refine o_nes (by with_unfolding_all rfl) ?_ | with_reducible refine o_max2 ?_ | with_reducible refine o_min2 ?_ | with_reducible refine o_isiX (by assumption) ?_ | with_reducible refine o_lenl (by assumption) ?_ | with_reducible refine o_lent (by assumption) ?_ | with_reducible refine o_int1b ?_)
local macro_rules | `(tactic| walk_at "ws_11") => `(tactic| repeat (first | walk_at "w1_11" | dsimp only [List.set_cons_zero, List.set_cons_succ]))
namespace LB

def t9_law_1 (cl : Nat → Addr) (K : PySem.W.Frag) : TS :=
  (tSeq (tAsg (tCall (spPot K) [] E0 (tCons (tVar 0) (tCons (tVar 1) tNil))) (gName 2))
    (tIfS (tNot (tB (tCB (rAll K) (tCons (tLc (iRng1 (tCons (tC (V.int 6)) tNil)) (gName 3) tYes (tCall (spRt K cl) [] E0 (tCons (tVar 2) tNil)) [3]) tNil))))
    (tRet (tC (V.bl false))) tNext))

def t9_law (cl : Nat → Addr) (K : PySem.W.Frag) : TS :=
  (tSeq (tFor (iRng1 (tCons (tCB rMax2 (tCons (tC (V.int 1)) (tCons (tCB rMin2 (tCons (tC (V.int 3)) (tCons (tCB (rLen K) (tCons (tVar 0) tNil)) tNil))) tNil))) tNil)) (gName 1)
    (t9_law_1 cl K))
    (tRet (tC (V.bl true))))

theorem pure9_law {K : PySem.W.Frag} {cl : Nat → Addr} (T : Cls K cl) {vs : List V} {H : Hp} {Q : VK} {E : XK} (h : spLaw K vs H Q E) : t9_law cl K { nx := fun _ H' => Q .non H', rt := Q } (start ["script", "k", "pot", "turn"] vs) H := by
  obtain ⟨a, ns, rfl, sq, len, q⟩ := h
  show t9_law cl K _ [some (.ref a), none, none, none] H
  unfold t9_law
  walk_at "ws_11"
  refine o_lens sq ?_
  walk_at "ws_11"
  have e : ∀ m : Int, (if m < 3 then m else 3 : Int) ≤ 3 := fun m => by split <;> omega
  have e0 := e ((ns.map V.int).length : Int)
  generalize (if ((ns.map V.int).length : Int) < 3 then ((ns.map V.int).length : Int) else 3 : Int) = m at e0 ⊢
  have e1 : (if m > 1 then m else 1 : Int) ≤ 3 := by split <;> omega
  have e2 : 1 ≤ (if m > 1 then m else 1 : Int) := by split <;> omega
  generalize (if m > 1 then m else 1 : Int) = n at e1 e2 ⊢
  refine k_R1 (by omega) (by omega) (fun i σ H' => ∃ x1 x2, σ = [some (.ref a), x1, x2, none] ∧ Keep NoS H H') ⟨_, _, rfl, Keep.refl _ _⟩ ?_ ?_
  · rintro i σ G0 hi ⟨x1, x2, rfl, kG⟩
    have hi3 : (i : Int) < 3 := by omega
    walk_at "ws_11"
    unfold t9_law_1
    walk_at "ws_11"
    refine ⟨a, _, ns, rfl, sql_keep kG sq, by omega, by omega, len, fun G1 p p0 k1 pt => ?_⟩
    walk_at "ws_11"
    unfold tLc iRng1
    refine w_cons (w_c (w_nil ⟨6, rfl, by omega, by omega, fun D hD => ?_⟩))
    have pD : p ≠ D := pt.ne hD
    refine lc_range (fun j H' => Keep (At p) G1 H' ∧ Pot H' p (8388608 - 8 * j) ∧ ∃ bs : List Bool, H' D = some (.lst (bs.map V.bl)) ∧ bs.all id = true ∧ bs.length = j) ⟨Keep.new hD, (pt.new (.mk' hD)).le (by omega), [], upd_same, rfl, rfl⟩ ?_ ?_
    · rintro j H1 hj ⟨kj, ptj, bs, hb, ht, hl⟩
      have hj6 : j < 6 := by simpa using hj
      refine ⟨rfl, ?_⟩
      refine w_yes ?_
      refine w_iteT rfl ?_
      walk_at "ws_11"
      refine ⟨p, _, rfl, T, ptj, by omega, fun H2 k2 pt2 => ?_⟩
      have hb2 := k2.all _ _ (fun e => pD e.symm) hb
      refine ⟨_, hb2, Nat.lt_of_le_of_lt (by rw [List.length_map, hl]; omega : _ ≤ 1000) (by decide), (kj.trans k2).put0 hD hb2, (pt2.put (.mk' (o := .lst (bs.map V.bl ++ [V.bl true]))) pD).le (by omega), bs ++ [true], by rw [List.map_append]; exact upd_same, by rw [List.all_append, ht]; rfl, by rw [List.length_append, hl]; rfl⟩
    · rintro H1 ⟨kj, ptj, bs, hb, ht, hl⟩
      refine w_nil ?_
      refine ⟨D, bs, rfl, .inl (.inl hb), ?_⟩
      rw [ht]
      walk_at "ws_11"
      refine w_iteF rfl ?_
      walk_at "ws_11"
      have p00 : H p = none := nos_free kG p0
      exact ⟨_, _, rfl, (kG.trans k1).trans0 kj fun c hc => .inr (by rw [hc]; exact p00)⟩
  · rintro σ G0 ⟨x1, x2, rfl, kG⟩
    walk_at "ws_11"
    exact q G0
end LB

namespace K01
open PySem PySem.Spec PyProof.Rows L2 LB
def topS (i : Nat) : PySem.Stmt := PySem.Challenge.pw_clockslack_k49_errors_alone.main.body.getD i (.Pass ⟨0, 0, 0, 0⟩)
theorem pe_kw {X : Cx} {CX : CXT} {k j m : Nat} {sp : Sp} {x : Str} {p pos : Pos} {tk : TA} {E : XK} {kws : List Keyword} {ks : List Str} {pi : {α : Type} → List α → List α → List α}
    (c : KalG X.prog X.w X.K X.mg X.base CX k x 0 ks pi sp) (em : ks.length = m) (hr : Room j X.A) (hk : k ≤ j) (gd : X.A.guards = some []) (hx : Passes CX X E) (gl : Gl X x) (hkw : PK X kws tk)
    (dbg : (x == ("__debug__" : Str)) = false := by decide) (all : (backToKw pos (keywordEach kws X.env)).all (·.1.isSome) = true := by rfl) (hks : (backToKw pos (keywordEach kws X.env)).filterMap (·.1) = ks := by rfl)
    (pl : ((backTo pos (starEach [] X.env)).any (·.1) || (backToKw pos (keywordEach kws X.env)).any (·.1.isNone)) = false := by rfl) : PE X (.Call (.Name x p) [] kws pos) (tCallW sp pi m E tk) := by
  subst em
  exact pe_gw c hr hk gd hx gl hkw dbg all hks pl
theorem pe_kv {X : Cx} {CX : CXT} {k j m n : Nat} {sp : Sp} {x : Str} {p pos : Pos} {t tk : TA} {E : XK} {e : Expr} {es : List Expr} {kws : List Keyword} {ks : List Str} {pi : {α : Type} → List α → List α → List α}
    (c : KalG X.prog X.w X.K X.mg X.base CX k x n ks pi sp) (em : ks.length = m) (hr : Room j X.A) (hk : k ≤ j) (gd : X.A.guards = some []) (hx : Passes CX X E) (gl : Gl X x) (ha : PA X (e :: es) t) (hkw : PK X kws tk)
    (dbg : (x == ("__debug__" : Str)) = false := by decide) (all : (backToKw pos (keywordEach kws X.env)).all (·.1.isSome) = true := by rfl) (hks : (backToKw pos (keywordEach kws X.env)).filterMap (·.1) = ks := by rfl)
    (st : starEach (e :: es) X.env = (false, eval e X.env) :: starEach es X.env := by rfl)
    (pl : ((backTo pos (starEach (e :: es) X.env)).any (·.1) || (backToKw pos (keywordEach kws X.env)).any (·.1.isNone)) = false := by rfl) : PE X (.Call (.Name x p) (e :: es) kws pos) (tCallV sp pi n m E t tk) := by
  subst em
  exact pe_gv c hr hk gd hx gl ha hkw dbg all hks st pl
theorem pe_gc {X : Cx} {x : Str} {pos : Pos} {v : V} (hg : Gl X x) (h : ∃ u, X.mg x = some u ∧ RelV v u) (hd : (x == ("__debug__" : Str)) = false := by decide) : PE X (.Name x pos) (tC v) := by
  obtain ⟨u, hm, r⟩ := h
  exact pe_glob hg hm r hd
def methS : Stmt → Stmt
  | .ClassDef _ _ _ body _ _ _ _ _ _ _ => body.getD 0 (.Pass ⟨0, 0, 0, 0⟩)
  | s => s
theorem bindsG {K : PySem.W.Frag} {x qual : Str} {st : Stmt} {f : Addr} {fd : FuncData} {ps : List Str} (F : Fun K x qual st f fd)
    (h : ∀ (kV doc pm : Value) (an : Option Addr) (cdv ct : Value) (us : List Value), us.length = ps.length → bindArgs (PySem.W.fnOf x qual (defArgs st) (defBody st) (defScope st) .none kV doc pm an cdv ct) ⟨us, []⟩ = pure (ps.zip us)) :
    ∀ us : List Value, us.length = ps.length → bindArgs fd ⟨us, []⟩ = pure (ps.zip us) := by
  obtain ⟨oc, od, kV, doc, pm, an, cdv, ct, osl, rfl, lk, hcd⟩ := F.ex
  exact h kV doc pm an cdv ct
theorem bindsW {K : PySem.W.Frag} {x qual : Str} {st : Stmt} {f : Addr} {fd : FuncData} {ps ks : List Str} {n : Nat} {pi : {α : Type} → List α → List α → List α} (F : Fun K x qual st f fd)
    (h : ∀ (kV doc pm : Value) (an : Option Addr) (cdv ct : Value) (us ws : List Value), us.length = n → ws.length = ks.length → bindArgs (PySem.W.fnOf x qual (defArgs st) (defBody st) (defScope st) .none kV doc pm an cdv ct) ⟨us, ks.zip ws⟩ = pure (ps.zip (pi us ws))) :
    ∀ us ws : List Value, us.length = n → ws.length = ks.length → bindArgs fd ⟨us, ks.zip ws⟩ = pure (ps.zip (pi us ws)) := by
  obtain ⟨oc, od, kV, doc, pm, an, cdv, ct, osl, rfl, lk, hcd⟩ := F.ex
  exact h kV doc pm an cdv ct
theorem fng_never {P : Program} {w : World} {K : PySem.W.Frag} {mg : Str → Option Value} {base : Heap} {k : Nat} {f : Addr} {fd : FuncData} {ps : List Str} : FnG P w K mg base CX0 k f fd ps (fun _ _ _ _ => False) :=
  ⟨fun _ _ _ _ h => h.elim, fun _ _ _ _ _ _ _ _ _ _ _ _ _ _ h => h.elim⟩
section
variable {P : Program} {w : World} {K : PySem.W.Frag} {mg : Str → Option Value} {base : Heap}
abbrev s__law_draw : Stmt := topS 18
abbrev N__law_draw : List Str := ["_law_pot_here", "_law_many", "_law_digit", "_law_prime", "_law_mixed"]
theorem sc__law_draw : FnScope N__law_draw ["_law_pot_here", "_law_many"] (defScope s__law_draw) := ⟨rfl, rfl, rfl, by decide +kernel, rfl, by decide +kernel, by decide +kernel⟩

theorem der__law_draw {f : Addr} {cdv : Value} {A : Around} {outer : List Env} {s : Shared} {H : Hp} {E : XK}
    
    (hr : Room 0 (A.deeper (envOfC "_law_draw" (defScope s__law_draw) s.heap.objs.size f cdv))) (gd : (A.deeper (envOfC "_law_draw" (defScope s__law_draw) s.heap.objs.size f cdv)).guards = some []) :
    PSs (cxOf CX0 P w K mg base N__law_draw "_law_draw" (defScope s__law_draw) f cdv A outer s H E).nox (defBody s__law_draw) (t__law_draw K) :=
  (pss_cons (ps_if (pt_cmpR op_gt (pe_ix ix_seq (pv 0) pe_int (fun _ _ => rfl)) pe_int (nomark _))
      (pss_cons (ps_set (i := 2) sc__law_draw.nd rfl (by first | exact Or.inl rfl | exact Or.inr rfl) (pe_op op_modN (pe_ix ix_seq (pv 0) pe_int (fun _ _ => rfl)) (pv 1)))
      (pss_cons (ps_asg (pe_op op_fdivN (pe_ix ix_seq (pv 0) pe_int (fun _ _ => rfl)) (pv 1)) (pg_sub (pv 0) pe_int set_list))
      (pss_one (ps_ret (pv 2))))) pss_nil)
      (pss_cons (ps_asg (pe_op op_addA (pe_ix ix_seq (pv 0) pe_int (fun _ _ => rfl)) pe_int) (pg_sub (pv 0) pe_int set_list))
      (pss_cons (ps_set (i := 3) sc__law_draw.nd rfl (by first | exact Or.inl rfl | exact Or.inr rfl) (pe_ix ix_seq (pe_lst (pa_cons pe_int (pa_cons pe_int (pa_cons pe_int (pa_cons pe_int (pa_cons pe_int pa_nil)))))) (pe_op op_modN (pe_ix ix_seq (pv 0) pe_int (fun _ _ => rfl)) pe_int) (fun _ _ => rfl)))
      (pss_cons (ps_set (i := 4) sc__law_draw.nd rfl (by first | exact Or.inl rfl | exact Or.inr rfl) (pe_op op_modN (pe_op op_powW (pe_op op_addA (pe_op op_addA (pe_ix ix_seq (pv 0) pe_int (fun _ _ => rfl)) (pe_op op_mulA (pe_op op_mulA pe_int (pe_ix ix_seq (pv 0) pe_int (fun _ _ => rfl))) (pe_ix ix_seq (pv 0) pe_int (fun _ _ => rfl)))) pe_int) pe_int) (pv 3)))
      (pss_one (ps_ret (pe_op op_modN (pe_op op_fdivN (pe_op op_modN (pe_op op_mulA (pv 4) (pe_op op_addA (pe_op op_modN (pv 4) pe_int) (pe_op op_mulA pe_int (pe_ix ix_seq (pv 0) pe_int (fun _ _ => rfl))))) pe_int) pe_int) (pv 1))))))))

theorem ok__law_draw {f : Addr} {fd : FuncData} (F : Fun K "_law_draw" "_law_draw" s__law_draw f fd)
     :
    FnG P w K mg base CX0 1 f fd ["_law_pot_here", "_law_many"] spDraw :=
  fn_g F sc__law_draw (fun vs H Q E h => spDraw_arity h) (fun cdv A outer s H vs Q E hr gd0 h => ⟨t__law_draw K, PSs.nox (der__law_draw  hr gd0), pure__law_draw h⟩)

abbrev s__law_pot : Stmt := topS 17
abbrev N__law_pot : List Str := ["_law_script", "_law_k", "_law_cell", "_law_own"]
theorem sc__law_pot : FnScope N__law_pot ["_law_script", "_law_k"] (defScope s__law_pot) := ⟨rfl, rfl, rfl, by decide +kernel, rfl, by decide +kernel, by decide +kernel⟩

theorem der__law_pot {f : Addr} {cdv : Value} {A : Around} {outer : List Env} {s : Shared} {H : Hp} {E : XK}
    (n_len : mg "len" = none)
    (n_int : mg "int" = none)
    (n_abs : mg "abs" = none)
    (hr : Room 0 (A.deeper (envOfC "_law_pot" (defScope s__law_pot) s.heap.objs.size f cdv))) (gd : (A.deeper (envOfC "_law_pot" (defScope s__law_pot) s.heap.objs.size f cdv)).guards = some []) :
    PSs (cxOf CX0 P w K mg base N__law_pot "_law_pot" (defScope s__law_pot) f cdv A outer s H E).nox (defBody s__law_pot) (t__law_pot K) :=
  (pss_cons (ps_set (i := 2) sc__law_pot.nd rfl (by first | exact Or.inl rfl | exact Or.inr rfl) (pe_op op_addA (pe_op op_mulA pe_int (pv 1)) pe_int))
      (pss_cons (ps_if (pt_cmpR op_lt (pv 1) (pe_callB call_len (by rfl) n_len (by decide +kernel) (pa_cons (pv 0) pa_nil)) (nomark _))
      (pss_one (ps_set (i := 2) sc__law_pot.nd rfl (by first | exact Or.inl rfl | exact Or.inr rfl) (pe_ix ix_seq (pv 0) (pv 1) (fun _ _ => rfl)))) pss_nil)
      (pss_cons (ps_set (i := 3) sc__law_pot.nd rfl (by first | exact Or.inl rfl | exact Or.inr rfl) (pe_op op_mulA (pe_op op_modN (pe_callB call_abs (by rfl) n_abs (by decide +kernel) (pa_cons (pv 2) pa_nil)) (pe_op op_powW (pe_op op_powW pe_int pe_int) pe_int)) (pe_callTy call_int1 (by rfl) n_int (by decide +kernel) (pa_cons (pe_cmpR op_ge (pe_callB call_abs (by rfl) n_abs (by decide +kernel) (pa_cons (pv 2) pa_nil)) (pe_op op_powW pe_int pe_int) (nomark _)) pa_nil))))
      (pss_one (ps_ret (pe_lst (pa_cons (pv 3) (pa_cons (pe_op op_modN (pe_op op_addA (pe_op op_addA (pe_op op_mulA (pe_op op_modN (pv 2) pe_int) pe_int) (pe_op op_mulA (pe_op op_mulA pe_int (pv 1)) (pv 1))) pe_int) pe_int) (pa_cons pe_int pa_nil)))))))))

theorem ok__law_pot {f : Addr} {fd : FuncData} (F : Fun K "_law_pot" "_law_pot" s__law_pot f fd)
    (n_len : mg "len" = none)
    (n_int : mg "int" = none)
    (n_abs : mg "abs" = none) :
    FnG P w K mg base CX0 1 f fd ["_law_script", "_law_k"] (spPot K) :=
  fn_g F sc__law_pot (fun vs H Q E h => spPot_arity h) (fun cdv A outer s H vs Q E hr gd0 h => ⟨t__law_pot K, PSs.nox (der__law_pot n_len n_int n_abs hr gd0), pure__law_pot h⟩)

abbrev s__law_any : Stmt := topS 19
abbrev N__law_any : List Str := ["_law_pot_here", "_law_items"]
theorem sc__law_any : FnScope N__law_any ["_law_pot_here", "_law_items"] (defScope s__law_any) := ⟨rfl, rfl, rfl, by decide +kernel, rfl, by decide +kernel, by decide +kernel⟩

theorem der__law_any {f : Addr} {cdv : Value} {A : Around} {outer : List Env} {s : Shared} {H : Hp} {E : XK}
    (g__law_draw : CalG P w K mg base CX0 1 "_law_draw" spDraw)
    (n_len : mg "len" = none)
    (hr : Room 1 (A.deeper (envOfC "_law_any" (defScope s__law_any) s.heap.objs.size f cdv))) (gd : (A.deeper (envOfC "_law_any" (defScope s__law_any) s.heap.objs.size f cdv)).guards = some []) :
    PSs (cxOf CX0 P w K mg base N__law_any "_law_any" (defScope s__law_any) f cdv A outer s H E).nox (defBody s__law_any) (t__law_any K) :=
  (pss_one (ps_ret (pe_ix ix_seq (pv 1) (pe_g g__law_draw hr (by decide) gd pass0 (by rfl) (pa_cons (pv 0) (pa_cons (pe_callB call_len (by rfl) n_len (by decide +kernel) (pa_cons (pv 1) pa_nil)) pa_nil))) (fun _ _ => rfl))))

theorem ok__law_any {f : Addr} {fd : FuncData} (F : Fun K "_law_any" "_law_any" s__law_any f fd)
    (g__law_draw : CalG P w K mg base CX0 1 "_law_draw" spDraw)
    (n_len : mg "len" = none) :
    FnG P w K mg base CX0 2 f fd ["_law_pot_here", "_law_items"] (spAny K) :=
  fn_g F sc__law_any (fun vs H Q E h => spAny_arity h) (fun cdv A outer s H vs Q E hr gd0 h => ⟨t__law_any K, PSs.nox (der__law_any g__law_draw n_len hr gd0), pure__law_any h⟩)

abbrev s__law_odd : Stmt := topS 20
abbrev N__law_odd : List Str := ["_law_pot_here", "_law_thing", "_law_some"]
theorem sc__law_odd : FnScope N__law_odd ["_law_pot_here", "_law_thing"] (defScope s__law_odd) := ⟨rfl, rfl, rfl, by decide +kernel, rfl, by decide +kernel, by decide +kernel⟩

theorem der__law_odd {f : Addr} {cdv : Value} {A : Around} {outer : List Env} {s : Shared} {H : Hp} {E : XK}
    (g__law_any : CalG P w K mg base CX0 2 "_law_any" (spAny K))
    (n_isinstance : mg "isinstance" = none)
    (n_tuple : mg "tuple" = none)
    (n_str : mg "str" = none)
    (n_int : mg "int" = none)
    (n_list : mg "list" = none)
    (hr : Room 2 (A.deeper (envOfC "_law_odd" (defScope s__law_odd) s.heap.objs.size f cdv))) (gd : (A.deeper (envOfC "_law_odd" (defScope s__law_odd) s.heap.objs.size f cdv)).guards = some []) :
    PSs (cxOf CX0 P w K mg base N__law_odd "_law_odd" (defScope s__law_odd) f cdv A outer s H E).nox (defBody s__law_odd) (t__law_odd K) :=
  (pss_cons (ps_set (i := 2) sc__law_odd.nd rfl (by first | exact Or.inl rfl | exact Or.inr rfl) (pe_lst (pa_cons pe_non (pa_cons pe_bl (pa_cons pe_bl (pa_cons pe_int (pa_cons pe_int (pa_cons (pe_un un_negO pe_int) (pa_cons pe_int (pa_cons (pe_op op_addO (pe_op op_powW pe_int pe_int) pe_int) (pa_cons (pe_op op_powW pe_int pe_int) (pa_cons pe_str (pa_cons pe_str (pa_cons pe_str (pa_cons (pe_tup pa_nil) (pa_cons (pe_lst pa_nil) (pa_cons pe_dnewK (pa_cons (pe_tup (pa_cons pe_int pa_nil)) (pa_cons (pe_tup (pa_cons pe_str pa_nil)) (pa_cons (pe_lst (pa_cons pe_int pa_nil)) pa_nil))))))))))))))))))))
      (pss_cons (ps_if (pt_val (pe_callB call_isi (by rfl) n_isinstance (by decide +kernel) (pa_cons (pv 1) (pa_cons (pe_bltn (v := .ty "tuple") (by rfl) n_tuple (by decide +kernel) rfl) pa_nil))))
      (pss_one (ps_set (i := 2) sc__law_odd.nd rfl (by first | exact Or.inl rfl | exact Or.inr rfl) (pe_op op_addO (pv 2) (pe_op op_mulA (pe_lst (pa_cons (pe_callTy call_list_of (by rfl) n_list (by decide +kernel) (pa_cons (pv 1) pa_nil)) (pa_cons (pe_slice sl_any (pv 1) po_none (po_some (pe_un un_negO pe_int))) (pa_cons (pe_op op_addO (pv 1) (pe_slice sl_any (pv 1) (po_some (pe_un un_negO pe_int)) po_none)) (pa_cons (pe_revA (pv 1)) (pa_cons (pe_tup (pa_cons (pv 1) pa_nil)) (pa_cons (pe_slice sl_any (pv 1) (po_some pe_int) po_none) pa_nil))))))) pe_int)))) (pss_one (ps_if (pt_val (pe_callB call_isi (by rfl) n_isinstance (by decide +kernel) (pa_cons (pv 1) (pa_cons (pe_bltn (v := .ty "str") (by rfl) n_str (by decide +kernel) rfl) pa_nil))))
      (pss_one (ps_set (i := 2) sc__law_odd.nd rfl (by first | exact Or.inl rfl | exact Or.inr rfl) (pe_op op_addO (pv 2) (pe_op op_mulA (pe_lst (pa_cons (pe_op op_addO (pv 1) pe_str) (pa_cons (pe_slice sl_any (pv 1) po_none (po_some (pe_un un_negO pe_int))) (pa_cons (pe_upper (pv 1)) (pa_cons (pe_tup (pa_cons (pv 1) pa_nil)) (pa_cons (pe_lst (pa_cons (pv 1) pa_nil)) pa_nil)))))) pe_int)))) (pss_one (ps_if (pt_val (pe_callB call_isi (by rfl) n_isinstance (by decide +kernel) (pa_cons (pv 1) (pa_cons (pe_bltn (v := .ty "int") (by rfl) n_int (by decide +kernel) rfl) pa_nil))))
      (pss_one (ps_set (i := 2) sc__law_odd.nd rfl (by first | exact Or.inl rfl | exact Or.inr rfl) (pe_op op_addO (pv 2) (pe_op op_mulA (pe_lst (pa_cons (pe_op op_addO (pv 1) pe_int) (pa_cons (pe_op op_subO (pv 1) pe_int) (pa_cons (pe_callTy call_strO (by rfl) n_str (by decide +kernel) (pa_cons (pv 1) pa_nil)) (pa_cons (pe_cmpR (op_eqO (units65 hr)) (pv 1) pe_int (nomark _)) (pa_cons (pe_un un_negO (pv 1)) pa_nil)))))) pe_int)))) pss_nil)))))
      (pss_one (ps_ret (pe_g g__law_any hr (by decide) gd pass0 (by rfl) (pa_cons (pv 0) (pa_cons (pv 2) pa_nil)))))))

theorem ok__law_odd {f : Addr} {fd : FuncData} (F : Fun K "_law_odd" "_law_odd" s__law_odd f fd)
    (g__law_any : CalG P w K mg base CX0 2 "_law_any" (spAny K))
    (n_isinstance : mg "isinstance" = none)
    (n_tuple : mg "tuple" = none)
    (n_str : mg "str" = none)
    (n_int : mg "int" = none)
    (n_list : mg "list" = none) :
    FnG P w K mg base CX0 3 f fd ["_law_pot_here", "_law_thing"] spOdd :=
  fn_g F sc__law_odd (fun vs H Q E h => spOdd_arity h) (fun cdv A outer s H vs Q E hr gd0 h => ⟨t__law_odd K, PSs.nox (der__law_odd g__law_any n_isinstance n_tuple n_str n_int n_list hr gd0), pure__law_odd h⟩)

abbrev s_init_NoIndex : Stmt := methS (topS 2)
abbrev N_init_NoIndex : List Str := ["self", "index"]
theorem sc_init_NoIndex : FnScope N_init_NoIndex ["self", "index"] (defScope s_init_NoIndex) := ⟨rfl, rfl, rfl, by decide +kernel, rfl, by decide +kernel, by decide +kernel⟩

theorem der_init_NoIndex {f : Addr} {cdv : Value} {A : Around} {outer : List Env} {s : Shared} {H : Hp} {E : XK}
    
    (hr : Room 0 (A.deeper (envOfC "NoIndex.__init__" (defScope s_init_NoIndex) s.heap.objs.size f cdv))) (gd : (A.deeper (envOfC "NoIndex.__init__" (defScope s_init_NoIndex) s.heap.objs.size f cdv)).guards = some []) :
    PSs (cxOf CX0 P w K mg base N_init_NoIndex "NoIndex.__init__" (defScope s_init_NoIndex) f cdv A outer s H E).nox (defBody s_init_NoIndex) (t_init_NoIndex K) :=
  (pss_one (ps_ost (pv 0) (pv 1)))

theorem ok_init_NoIndex {f : Addr} {fd : FuncData} (F : Fun K "__init__" "NoIndex.__init__" s_init_NoIndex f fd)
     :
    FnG P w K mg base CX0 1 f fd ["self", "index"] (spIn K "index") :=
  fn_g F sc_init_NoIndex (fun vs H Q E h => spIn_arity h) (fun cdv A outer s H vs Q E hr gd0 h => ⟨t_init_NoIndex K, PSs.nox (der_init_NoIndex  hr gd0), pure_init_NoIndex h⟩)

abbrev s_init_NoValue : Stmt := methS (topS 3)
abbrev N_init_NoValue : List Str := ["self", "value"]
theorem sc_init_NoValue : FnScope N_init_NoValue ["self", "value"] (defScope s_init_NoValue) := ⟨rfl, rfl, rfl, by decide +kernel, rfl, by decide +kernel, by decide +kernel⟩

theorem der_init_NoValue {f : Addr} {cdv : Value} {A : Around} {outer : List Env} {s : Shared} {H : Hp} {E : XK}
    
    (hr : Room 0 (A.deeper (envOfC "NoValue.__init__" (defScope s_init_NoValue) s.heap.objs.size f cdv))) (gd : (A.deeper (envOfC "NoValue.__init__" (defScope s_init_NoValue) s.heap.objs.size f cdv)).guards = some []) :
    PSs (cxOf CX0 P w K mg base N_init_NoValue "NoValue.__init__" (defScope s_init_NoValue) f cdv A outer s H E).nox (defBody s_init_NoValue) (t_init_NoValue K) :=
  (pss_one (ps_ost (pv 0) (pv 1)))

theorem ok_init_NoValue {f : Addr} {fd : FuncData} (F : Fun K "__init__" "NoValue.__init__" s_init_NoValue f fd)
     :
    FnG P w K mg base CX0 1 f fd ["self", "value"] (spIn K "value") :=
  fn_g F sc_init_NoValue (fun vs H Q E h => spIn_arity h) (fun cdv A outer s H vs Q E hr gd0 h => ⟨t_init_NoValue K, PSs.nox (der_init_NoValue  hr gd0), pure_init_NoValue h⟩)

abbrev s_init_Unexplained : Stmt := methS (topS 4)
abbrev N_init_Unexplained : List Str := ["self", "fault"]
theorem sc_init_Unexplained : FnScope N_init_Unexplained ["self", "fault"] (defScope s_init_Unexplained) := ⟨rfl, rfl, rfl, by decide +kernel, rfl, by decide +kernel, by decide +kernel⟩

theorem der_init_Unexplained {f : Addr} {cdv : Value} {A : Around} {outer : List Env} {s : Shared} {H : Hp} {E : XK}
    
    (hr : Room 0 (A.deeper (envOfC "Unexplained.__init__" (defScope s_init_Unexplained) s.heap.objs.size f cdv))) (gd : (A.deeper (envOfC "Unexplained.__init__" (defScope s_init_Unexplained) s.heap.objs.size f cdv)).guards = some []) :
    PSs (cxOf CX0 P w K mg base N_init_Unexplained "Unexplained.__init__" (defScope s_init_Unexplained) f cdv A outer s H E).nox (defBody s_init_Unexplained) (t_init_Unexplained K) :=
  (pss_one (ps_ost (pv 0) (pv 1)))

theorem ok_init_Unexplained {f : Addr} {fd : FuncData} (F : Fun K "__init__" "Unexplained.__init__" s_init_Unexplained f fd)
     :
    FnG P w K mg base CX0 1 f fd ["self", "fault"] (spIn K "fault") :=
  fn_g F sc_init_Unexplained (fun vs H Q E h => spIn_arity h) (fun cdv A outer s H vs Q E hr gd0 h => ⟨t_init_Unexplained K, PSs.nox (der_init_Unexplained  hr gd0), pure_init_Unexplained h⟩)

abbrev s_init_BadOrder : Stmt := methS (topS 5)
abbrev N_init_BadOrder : List Str := ["self", "value"]
theorem sc_init_BadOrder : FnScope N_init_BadOrder ["self", "value"] (defScope s_init_BadOrder) := ⟨rfl, rfl, rfl, by decide +kernel, rfl, by decide +kernel, by decide +kernel⟩

theorem der_init_BadOrder {f : Addr} {cdv : Value} {A : Around} {outer : List Env} {s : Shared} {H : Hp} {E : XK}
    
    (hr : Room 0 (A.deeper (envOfC "BadOrder.__init__" (defScope s_init_BadOrder) s.heap.objs.size f cdv))) (gd : (A.deeper (envOfC "BadOrder.__init__" (defScope s_init_BadOrder) s.heap.objs.size f cdv)).guards = some []) :
    PSs (cxOf CX0 P w K mg base N_init_BadOrder "BadOrder.__init__" (defScope s_init_BadOrder) f cdv A outer s H E).nox (defBody s_init_BadOrder) (t_init_BadOrder K) :=
  (pss_one (ps_ost (pv 0) (pv 1)))

theorem ok_init_BadOrder {f : Addr} {fd : FuncData} (F : Fun K "__init__" "BadOrder.__init__" s_init_BadOrder f fd)
     :
    FnG P w K mg base CX0 1 f fd ["self", "value"] (spIn K "value") :=
  fn_g F sc_init_BadOrder (fun vs H Q E h => spIn_arity h) (fun cdv A outer s H vs Q E hr gd0 h => ⟨t_init_BadOrder K, PSs.nox (der_init_BadOrder  hr gd0), pure_init_BadOrder h⟩)

abbrev s_init_NoPosition : Stmt := methS (topS 6)
abbrev N_init_NoPosition : List Str := ["self", "position"]
theorem sc_init_NoPosition : FnScope N_init_NoPosition ["self", "position"] (defScope s_init_NoPosition) := ⟨rfl, rfl, rfl, by decide +kernel, rfl, by decide +kernel, by decide +kernel⟩

theorem der_init_NoPosition {f : Addr} {cdv : Value} {A : Around} {outer : List Env} {s : Shared} {H : Hp} {E : XK}
    
    (hr : Room 0 (A.deeper (envOfC "NoPosition.__init__" (defScope s_init_NoPosition) s.heap.objs.size f cdv))) (gd : (A.deeper (envOfC "NoPosition.__init__" (defScope s_init_NoPosition) s.heap.objs.size f cdv)).guards = some []) :
    PSs (cxOf CX0 P w K mg base N_init_NoPosition "NoPosition.__init__" (defScope s_init_NoPosition) f cdv A outer s H E).nox (defBody s_init_NoPosition) (t_init_NoPosition K) :=
  (pss_one (ps_ost (pv 0) (pv 1)))

theorem ok_init_NoPosition {f : Addr} {fd : FuncData} (F : Fun K "__init__" "NoPosition.__init__" s_init_NoPosition f fd)
     :
    FnG P w K mg base CX0 1 f fd ["self", "position"] (spIn K "position") :=
  fn_g F sc_init_NoPosition (fun vs H Q E h => spIn_arity h) (fun cdv A outer s H vs Q E hr gd0 h => ⟨t_init_NoPosition K, PSs.nox (der_init_NoPosition  hr gd0), pure_init_NoPosition h⟩)

abbrev s_init_BadStamps : Stmt := methS (topS 7)
abbrev N_init_BadStamps : List Str := ["self", "begin", "end"]
theorem sc_init_BadStamps : FnScope N_init_BadStamps ["self", "begin", "end"] (defScope s_init_BadStamps) := ⟨rfl, rfl, rfl, by decide +kernel, rfl, by decide +kernel, by decide +kernel⟩

theorem der_init_BadStamps {f : Addr} {cdv : Value} {A : Around} {outer : List Env} {s : Shared} {H : Hp} {E : XK}
    
    (hr : Room 0 (A.deeper (envOfC "BadStamps.__init__" (defScope s_init_BadStamps) s.heap.objs.size f cdv))) (gd : (A.deeper (envOfC "BadStamps.__init__" (defScope s_init_BadStamps) s.heap.objs.size f cdv)).guards = some []) :
    PSs (cxOf CX0 P w K mg base N_init_BadStamps "BadStamps.__init__" (defScope s_init_BadStamps) f cdv A outer s H E).nox (defBody s_init_BadStamps) (t_init_BadStamps K) :=
  (pss_cons (ps_ost (pv 0) (pv 1))
      (pss_one (ps_ost (pv 0) (pv 2))))

theorem ok_init_BadStamps {f : Addr} {fd : FuncData} (F : Fun K "__init__" "BadStamps.__init__" s_init_BadStamps f fd)
     :
    FnG P w K mg base CX0 1 f fd ["self", "begin", "end"] (spIn2 K "begin" "end") :=
  fn_g F sc_init_BadStamps (fun vs H Q E h => spIn2_arity h) (fun cdv A outer s H vs Q E hr gd0 h => ⟨t_init_BadStamps K, PSs.nox (der_init_BadStamps  hr gd0), pure_init_BadStamps h⟩)

abbrev s_init_BadLog : Stmt := methS (topS 8)
abbrev N_init_BadLog : List Str := ["self", "value"]
theorem sc_init_BadLog : FnScope N_init_BadLog ["self", "value"] (defScope s_init_BadLog) := ⟨rfl, rfl, rfl, by decide +kernel, rfl, by decide +kernel, by decide +kernel⟩

theorem der_init_BadLog {f : Addr} {cdv : Value} {A : Around} {outer : List Env} {s : Shared} {H : Hp} {E : XK}
    
    (hr : Room 0 (A.deeper (envOfC "BadLog.__init__" (defScope s_init_BadLog) s.heap.objs.size f cdv))) (gd : (A.deeper (envOfC "BadLog.__init__" (defScope s_init_BadLog) s.heap.objs.size f cdv)).guards = some []) :
    PSs (cxOf CX0 P w K mg base N_init_BadLog "BadLog.__init__" (defScope s_init_BadLog) f cdv A outer s H E).nox (defBody s_init_BadLog) (t_init_BadLog K) :=
  (pss_one (ps_ost (pv 0) (pv 1)))

theorem ok_init_BadLog {f : Addr} {fd : FuncData} (F : Fun K "__init__" "BadLog.__init__" s_init_BadLog f fd)
     :
    FnG P w K mg base CX0 1 f fd ["self", "value"] (spIn K "value") :=
  fn_g F sc_init_BadLog (fun vs H Q E h => spIn_arity h) (fun cdv A outer s H vs Q E hr gd0 h => ⟨t_init_BadLog K, PSs.nox (der_init_BadLog  hr gd0), pure_init_BadLog h⟩)

abbrev s_init_BadTolerance : Stmt := methS (topS 9)
abbrev N_init_BadTolerance : List Str := ["self", "value"]
theorem sc_init_BadTolerance : FnScope N_init_BadTolerance ["self", "value"] (defScope s_init_BadTolerance) := ⟨rfl, rfl, rfl, by decide +kernel, rfl, by decide +kernel, by decide +kernel⟩

theorem der_init_BadTolerance {f : Addr} {cdv : Value} {A : Around} {outer : List Env} {s : Shared} {H : Hp} {E : XK}
    
    (hr : Room 0 (A.deeper (envOfC "BadTolerance.__init__" (defScope s_init_BadTolerance) s.heap.objs.size f cdv))) (gd : (A.deeper (envOfC "BadTolerance.__init__" (defScope s_init_BadTolerance) s.heap.objs.size f cdv)).guards = some []) :
    PSs (cxOf CX0 P w K mg base N_init_BadTolerance "BadTolerance.__init__" (defScope s_init_BadTolerance) f cdv A outer s H E).nox (defBody s_init_BadTolerance) (t_init_BadTolerance K) :=
  (pss_one (ps_ost (pv 0) (pv 1)))

theorem ok_init_BadTolerance {f : Addr} {fd : FuncData} (F : Fun K "__init__" "BadTolerance.__init__" s_init_BadTolerance f fd)
     :
    FnG P w K mg base CX0 1 f fd ["self", "value"] (spIn K "value") :=
  fn_g F sc_init_BadTolerance (fun vs H Q E h => spIn_arity h) (fun cdv A outer s H vs Q E hr gd0 h => ⟨t_init_BadTolerance K, PSs.nox (der_init_BadTolerance  hr gd0), pure_init_BadTolerance h⟩)

abbrev s_init_BadOperation : Stmt := methS (topS 10)
abbrev N_init_BadOperation : List Str := ["self", "operation"]
theorem sc_init_BadOperation : FnScope N_init_BadOperation ["self", "operation"] (defScope s_init_BadOperation) := ⟨rfl, rfl, rfl, by decide +kernel, rfl, by decide +kernel, by decide +kernel⟩

theorem der_init_BadOperation {f : Addr} {cdv : Value} {A : Around} {outer : List Env} {s : Shared} {H : Hp} {E : XK}
    
    (hr : Room 0 (A.deeper (envOfC "BadOperation.__init__" (defScope s_init_BadOperation) s.heap.objs.size f cdv))) (gd : (A.deeper (envOfC "BadOperation.__init__" (defScope s_init_BadOperation) s.heap.objs.size f cdv)).guards = some []) :
    PSs (cxOf CX0 P w K mg base N_init_BadOperation "BadOperation.__init__" (defScope s_init_BadOperation) f cdv A outer s H E).nox (defBody s_init_BadOperation) (t_init_BadOperation K) :=
  (pss_one (ps_ost (pv 0) (pv 1)))

theorem ok_init_BadOperation {f : Addr} {fd : FuncData} (F : Fun K "__init__" "BadOperation.__init__" s_init_BadOperation f fd)
     :
    FnG P w K mg base CX0 1 f fd ["self", "operation"] (spIn K "operation") :=
  fn_g F sc_init_BadOperation (fun vs H Q E h => spIn_arity h) (fun cdv A outer s H vs Q E hr gd0 h => ⟨t_init_BadOperation K, PSs.nox (der_init_BadOperation  hr gd0), pure_init_BadOperation h⟩)

abbrev s_init_Written : Stmt := methS (topS 11)
abbrev N_init_Written : List Str := ["self", "value"]
theorem sc_init_Written : FnScope N_init_Written ["self", "value"] (defScope s_init_Written) := ⟨rfl, rfl, rfl, by decide +kernel, rfl, by decide +kernel, by decide +kernel⟩

theorem der_init_Written {f : Addr} {cdv : Value} {A : Around} {outer : List Env} {s : Shared} {H : Hp} {E : XK}
    
    (hr : Room 0 (A.deeper (envOfC "Written.__init__" (defScope s_init_Written) s.heap.objs.size f cdv))) (gd : (A.deeper (envOfC "Written.__init__" (defScope s_init_Written) s.heap.objs.size f cdv)).guards = some []) :
    PSs (cxOf CX0 P w K mg base N_init_Written "Written.__init__" (defScope s_init_Written) f cdv A outer s H E).nox (defBody s_init_Written) (t_init_Written K) :=
  (pss_one (ps_ost (pv 0) (pv 1)))

theorem ok_init_Written {f : Addr} {fd : FuncData} (F : Fun K "__init__" "Written.__init__" s_init_Written f fd)
     :
    FnG P w K mg base CX0 1 f fd ["self", "value"] (spIn K "value") :=
  fn_g F sc_init_Written (fun vs H Q E h => spIn_arity h) (fun cdv A outer s H vs Q E hr gd0 h => ⟨t_init_Written K, PSs.nox (der_init_Written  hr gd0), pure_init_Written h⟩)

abbrev s_init_TooMany : Stmt := methS (topS 12)
abbrev N_init_TooMany : List Str := ["self", "limit"]
theorem sc_init_TooMany : FnScope N_init_TooMany ["self", "limit"] (defScope s_init_TooMany) := ⟨rfl, rfl, rfl, by decide +kernel, rfl, by decide +kernel, by decide +kernel⟩

theorem der_init_TooMany {f : Addr} {cdv : Value} {A : Around} {outer : List Env} {s : Shared} {H : Hp} {E : XK}
    
    (hr : Room 0 (A.deeper (envOfC "TooMany.__init__" (defScope s_init_TooMany) s.heap.objs.size f cdv))) (gd : (A.deeper (envOfC "TooMany.__init__" (defScope s_init_TooMany) s.heap.objs.size f cdv)).guards = some []) :
    PSs (cxOf CX0 P w K mg base N_init_TooMany "TooMany.__init__" (defScope s_init_TooMany) f cdv A outer s H E).nox (defBody s_init_TooMany) (t_init_TooMany K) :=
  (pss_one (ps_ost (pv 0) (pv 1)))

theorem ok_init_TooMany {f : Addr} {fd : FuncData} (F : Fun K "__init__" "TooMany.__init__" s_init_TooMany f fd)
     :
    FnG P w K mg base CX0 1 f fd ["self", "limit"] (spIn K "limit") :=
  fn_g F sc_init_TooMany (fun vs H Q E h => spIn_arity h) (fun cdv A outer s H vs Q E hr gd0 h => ⟨t_init_TooMany K, PSs.nox (der_init_TooMany  hr gd0), pure_init_TooMany h⟩)

abbrev s_init_BadText : Stmt := methS (topS 14)
abbrev N_init_BadText : List Str := ["self", "value"]
theorem sc_init_BadText : FnScope N_init_BadText ["self", "value"] (defScope s_init_BadText) := ⟨rfl, rfl, rfl, by decide +kernel, rfl, by decide +kernel, by decide +kernel⟩

theorem der_init_BadText {f : Addr} {cdv : Value} {A : Around} {outer : List Env} {s : Shared} {H : Hp} {E : XK}
    
    (hr : Room 0 (A.deeper (envOfC "BadText.__init__" (defScope s_init_BadText) s.heap.objs.size f cdv))) (gd : (A.deeper (envOfC "BadText.__init__" (defScope s_init_BadText) s.heap.objs.size f cdv)).guards = some []) :
    PSs (cxOf CX0 P w K mg base N_init_BadText "BadText.__init__" (defScope s_init_BadText) f cdv A outer s H E).nox (defBody s_init_BadText) (t_init_BadText K) :=
  (pss_one (ps_ost (pv 0) (pv 1)))

theorem ok_init_BadText {f : Addr} {fd : FuncData} (F : Fun K "__init__" "BadText.__init__" s_init_BadText f fd)
     :
    FnG P w K mg base CX0 1 f fd ["self", "value"] (spIn K "value") :=
  fn_g F sc_init_BadText (fun vs H Q E h => spIn_arity h) (fun cdv A outer s H vs Q E hr gd0 h => ⟨t_init_BadText K, PSs.nox (der_init_BadText  hr gd0), pure_init_BadText h⟩)

abbrev s_init_BadLine : Stmt := methS (topS 15)
abbrev N_init_BadLine : List Str := ["self", "line"]
theorem sc_init_BadLine : FnScope N_init_BadLine ["self", "line"] (defScope s_init_BadLine) := ⟨rfl, rfl, rfl, by decide +kernel, rfl, by decide +kernel, by decide +kernel⟩

theorem der_init_BadLine {f : Addr} {cdv : Value} {A : Around} {outer : List Env} {s : Shared} {H : Hp} {E : XK}
    
    (hr : Room 0 (A.deeper (envOfC "BadLine.__init__" (defScope s_init_BadLine) s.heap.objs.size f cdv))) (gd : (A.deeper (envOfC "BadLine.__init__" (defScope s_init_BadLine) s.heap.objs.size f cdv)).guards = some []) :
    PSs (cxOf CX0 P w K mg base N_init_BadLine "BadLine.__init__" (defScope s_init_BadLine) f cdv A outer s H E).nox (defBody s_init_BadLine) (t_init_BadLine K) :=
  (pss_one (ps_ost (pv 0) (pv 1)))

theorem ok_init_BadLine {f : Addr} {fd : FuncData} (F : Fun K "__init__" "BadLine.__init__" s_init_BadLine f fd)
     :
    FnG P w K mg base CX0 1 f fd ["self", "line"] (spIn K "line") :=
  fn_g F sc_init_BadLine (fun vs H Q E h => spIn_arity h) (fun cdv A outer s H vs Q E hr gd0 h => ⟨t_init_BadLine K, PSs.nox (der_init_BadLine  hr gd0), pure_init_BadLine h⟩)

abbrev s__law_marks : Stmt := topS 21
abbrev N__law_marks : List Str := ["_law_caught", "_law_found"]
theorem sc__law_marks : FnScope N__law_marks ["_law_caught"] (defScope s__law_marks) := ⟨rfl, rfl, rfl, by decide +kernel, rfl, by decide +kernel, by decide +kernel⟩

theorem der__law_marks {cl : Nat → Addr} {f : Addr} {cdv : Value} {A : Around} {outer : List Env} {s : Shared} {H : Hp} {E : XK}
    (c_NoIndex : ∃ u, mg "NoIndex" = some u ∧ RelV (V.ref (cl 1)) u)
    (c_NoValue : ∃ u, mg "NoValue" = some u ∧ RelV (V.ref (cl 2)) u)
    (c_Unexplained : ∃ u, mg "Unexplained" = some u ∧ RelV (V.ref (cl 3)) u)
    (c_BadOrder : ∃ u, mg "BadOrder" = some u ∧ RelV (V.ref (cl 4)) u)
    (c_NoPosition : ∃ u, mg "NoPosition" = some u ∧ RelV (V.ref (cl 5)) u)
    (c_BadLog : ∃ u, mg "BadLog" = some u ∧ RelV (V.ref (cl 7)) u)
    (c_BadTolerance : ∃ u, mg "BadTolerance" = some u ∧ RelV (V.ref (cl 8)) u)
    (c_BadOperation : ∃ u, mg "BadOperation" = some u ∧ RelV (V.ref (cl 9)) u)
    (c_Written : ∃ u, mg "Written" = some u ∧ RelV (V.ref (cl 10)) u)
    (c_TooMany : ∃ u, mg "TooMany" = some u ∧ RelV (V.ref (cl 11)) u)
    (c_BadText : ∃ u, mg "BadText" = some u ∧ RelV (V.ref (cl 13)) u)
    (c_BadLine : ∃ u, mg "BadLine" = some u ∧ RelV (V.ref (cl 14)) u)
    (c_BadStamps : ∃ u, mg "BadStamps" = some u ∧ RelV (V.ref (cl 6)) u)
    (c_NothingToUndo : ∃ u, mg "NothingToUndo" = some u ∧ RelV (V.ref (cl 12)) u)
    (n_isinstance : mg "isinstance" = none)
    (hr : Room 0 (A.deeper (envOfC "_law_marks" (defScope s__law_marks) s.heap.objs.size f cdv))) (gd : (A.deeper (envOfC "_law_marks" (defScope s__law_marks) s.heap.objs.size f cdv)).guards = some []) :
    PSs (cxOf CX0 P w K mg base N__law_marks "_law_marks" (defScope s__law_marks) f cdv A outer s H E).nox (defBody s__law_marks) (t__law_marks cl K) :=
  (pss_cons (ps_set (i := 1) sc__law_marks.nd rfl (by first | exact Or.inl rfl | exact Or.inr rfl) (pe_lst (pa_cons (pe_callB call_isO (by rfl) n_isinstance (by decide +kernel) (pa_cons (pv 0) (pa_cons (pe_gc (by rfl) c_NoIndex) pa_nil))) (pa_cons (pe_callB call_isO (by rfl) n_isinstance (by decide +kernel) (pa_cons (pv 0) (pa_cons (pe_gc (by rfl) c_NoValue) pa_nil))) (pa_cons (pe_callB call_isO (by rfl) n_isinstance (by decide +kernel) (pa_cons (pv 0) (pa_cons (pe_gc (by rfl) c_Unexplained) pa_nil))) pa_nil)))))
      (pss_cons (ps_set (i := 1) sc__law_marks.nd rfl (by first | exact Or.inl rfl | exact Or.inr rfl) (pe_op op_addA (pv 1) (pe_lst (pa_cons (pe_callB call_isO (by rfl) n_isinstance (by decide +kernel) (pa_cons (pv 0) (pa_cons (pe_gc (by rfl) c_BadOrder) pa_nil))) (pa_cons (pe_callB call_isO (by rfl) n_isinstance (by decide +kernel) (pa_cons (pv 0) (pa_cons (pe_gc (by rfl) c_NoPosition) pa_nil))) (pa_cons (pe_callB call_isO (by rfl) n_isinstance (by decide +kernel) (pa_cons (pv 0) (pa_cons (pe_gc (by rfl) c_BadLog) pa_nil))) pa_nil))))))
      (pss_cons (ps_set (i := 1) sc__law_marks.nd rfl (by first | exact Or.inl rfl | exact Or.inr rfl) (pe_op op_addA (pv 1) (pe_lst (pa_cons (pe_callB call_isO (by rfl) n_isinstance (by decide +kernel) (pa_cons (pv 0) (pa_cons (pe_gc (by rfl) c_BadTolerance) pa_nil))) (pa_cons (pe_callB call_isO (by rfl) n_isinstance (by decide +kernel) (pa_cons (pv 0) (pa_cons (pe_gc (by rfl) c_BadOperation) pa_nil))) (pa_cons (pe_callB call_isO (by rfl) n_isinstance (by decide +kernel) (pa_cons (pv 0) (pa_cons (pe_gc (by rfl) c_Written) pa_nil))) pa_nil))))))
      (pss_cons (ps_set (i := 1) sc__law_marks.nd rfl (by first | exact Or.inl rfl | exact Or.inr rfl) (pe_op op_addA (pv 1) (pe_lst (pa_cons (pe_callB call_isO (by rfl) n_isinstance (by decide +kernel) (pa_cons (pv 0) (pa_cons (pe_gc (by rfl) c_TooMany) pa_nil))) (pa_cons (pe_callB call_isO (by rfl) n_isinstance (by decide +kernel) (pa_cons (pv 0) (pa_cons (pe_gc (by rfl) c_BadText) pa_nil))) (pa_cons (pe_callB call_isO (by rfl) n_isinstance (by decide +kernel) (pa_cons (pv 0) (pa_cons (pe_gc (by rfl) c_BadLine) pa_nil))) pa_nil))))))
      (pss_one (ps_ret (pe_op op_addA (pv 1) (pe_lst (pa_cons (pe_callB call_isO (by rfl) n_isinstance (by decide +kernel) (pa_cons (pv 0) (pa_cons (pe_gc (by rfl) c_BadStamps) pa_nil))) (pa_cons (pe_callB call_isO (by rfl) n_isinstance (by decide +kernel) (pa_cons (pv 0) (pa_cons (pe_gc (by rfl) c_NothingToUndo) pa_nil))) pa_nil))))))))))

theorem ok__law_marks {cl : Nat → Addr} {f : Addr} {fd : FuncData} (F : Fun K "_law_marks" "_law_marks" s__law_marks f fd)
    (c_NoIndex : ∃ u, mg "NoIndex" = some u ∧ RelV (V.ref (cl 1)) u)
    (c_NoValue : ∃ u, mg "NoValue" = some u ∧ RelV (V.ref (cl 2)) u)
    (c_Unexplained : ∃ u, mg "Unexplained" = some u ∧ RelV (V.ref (cl 3)) u)
    (c_BadOrder : ∃ u, mg "BadOrder" = some u ∧ RelV (V.ref (cl 4)) u)
    (c_NoPosition : ∃ u, mg "NoPosition" = some u ∧ RelV (V.ref (cl 5)) u)
    (c_BadLog : ∃ u, mg "BadLog" = some u ∧ RelV (V.ref (cl 7)) u)
    (c_BadTolerance : ∃ u, mg "BadTolerance" = some u ∧ RelV (V.ref (cl 8)) u)
    (c_BadOperation : ∃ u, mg "BadOperation" = some u ∧ RelV (V.ref (cl 9)) u)
    (c_Written : ∃ u, mg "Written" = some u ∧ RelV (V.ref (cl 10)) u)
    (c_TooMany : ∃ u, mg "TooMany" = some u ∧ RelV (V.ref (cl 11)) u)
    (c_BadText : ∃ u, mg "BadText" = some u ∧ RelV (V.ref (cl 13)) u)
    (c_BadLine : ∃ u, mg "BadLine" = some u ∧ RelV (V.ref (cl 14)) u)
    (c_BadStamps : ∃ u, mg "BadStamps" = some u ∧ RelV (V.ref (cl 6)) u)
    (c_NothingToUndo : ∃ u, mg "NothingToUndo" = some u ∧ RelV (V.ref (cl 12)) u)
    (n_isinstance : mg "isinstance" = none) :
    FnG P w K mg base CX0 1 f fd ["_law_caught"] (spMarks K cl) :=
  fn_g F sc__law_marks (fun vs H Q E h => spMarks_arity h) (fun cdv A outer s H vs Q E hr gd0 h => ⟨t__law_marks cl K, PSs.nox (der__law_marks c_NoIndex c_NoValue c_Unexplained c_BadOrder c_NoPosition c_BadLog c_BadTolerance c_BadOperation c_Written c_TooMany c_BadText c_BadLine c_BadStamps c_NothingToUndo n_isinstance hr gd0), pure__law_marks h⟩)

abbrev s__law_held : Stmt := topS 22
abbrev N__law_held : List Str := ["_law_made", "_law_found"]
theorem sc__law_held : FnScope N__law_held ["_law_made"] (defScope s__law_held) := ⟨rfl, rfl, rfl, by decide +kernel, rfl, by decide +kernel, by decide +kernel⟩

theorem der__law_held {cl : Nat → Addr} {f : Addr} {cdv : Value} {A : Around} {outer : List Env} {s : Shared} {H : Hp} {E : XK}
    
    (hr : Room 0 (A.deeper (envOfC "_law_held" (defScope s__law_held) s.heap.objs.size f cdv))) (gd : (A.deeper (envOfC "_law_held" (defScope s__law_held) s.heap.objs.size f cdv)).guards = some []) :
    PSs (cxOf CX0 P w K mg base N__law_held "_law_held" (defScope s__law_held) f cdv A outer s H E).nox (defBody s__law_held) (t__law_held cl K) :=
  (pss_cons (ps_set (i := 1) sc__law_held.nd rfl (by first | exact Or.inl rfl | exact Or.inr rfl) (pe_lst (pa_cons (pe_exf (pe_ix ix_seq (pv 0) pe_int (fun _ _ => rfl))) (pa_cons (pe_exf (pe_ix ix_seq (pv 0) pe_int (fun _ _ => rfl))) (pa_cons (pe_exf (pe_ix ix_seq (pv 0) pe_int (fun _ _ => rfl))) (pa_cons (pe_exf (pe_ix ix_seq (pv 0) pe_int (fun _ _ => rfl))) (pa_cons (pe_exf (pe_ix ix_seq (pv 0) pe_int (fun _ _ => rfl))) (pa_cons (pe_exf (pe_ix ix_seq (pv 0) pe_int (fun _ _ => rfl))) pa_nil))))))))
      (pss_cons (ps_set (i := 1) sc__law_held.nd rfl (by first | exact Or.inl rfl | exact Or.inr rfl) (pe_op op_addA (pv 1) (pe_lst (pa_cons (pe_exf (pe_ix ix_seq (pv 0) pe_int (fun _ _ => rfl))) (pa_cons (pe_exf (pe_ix ix_seq (pv 0) pe_int (fun _ _ => rfl))) (pa_cons (pe_exf (pe_ix ix_seq (pv 0) pe_int (fun _ _ => rfl))) (pa_cons (pe_exf (pe_ix ix_seq (pv 0) pe_int (fun _ _ => rfl))) (pa_cons (pe_exf (pe_ix ix_seq (pv 0) pe_int (fun _ _ => rfl))) (pa_cons (pe_exf (pe_ix ix_seq (pv 0) pe_int (fun _ _ => rfl))) pa_nil)))))))))
      (pss_one (ps_ret (pe_op op_addA (pv 1) (pe_lst (pa_cons (pe_exf (pe_ix ix_seq (pv 0) pe_int (fun _ _ => rfl))) (pa_cons (pe_exf (pe_ix ix_seq (pv 0) pe_int (fun _ _ => rfl))) pa_nil))))))))

theorem ok__law_held {cl : Nat → Addr} {f : Addr} {fd : FuncData} (F : Fun K "_law_held" "_law_held" s__law_held f fd)
     :
    FnG P w K mg base CX0 1 f fd ["_law_made"] (spHeld K cl) :=
  fn_g F sc__law_held (fun vs H Q E h => spHeld_arity h) (fun cdv A outer s H vs Q E hr gd0 h => ⟨t__law_held cl K, PSs.nox (der__law_held  hr gd0), pure__law_held h⟩)

abbrev s__law_right : Stmt := topS 23
abbrev N__law_right : List Str := ["_law_pot_here", "_law_thing", "_law_second", "_law_turn", "_law_kept", "_law_made", "_law_named", "_law_some", "_law_at", "_law_error", "_law_spot"]
theorem sc__law_right : FnScope N__law_right ["_law_pot_here"] (defScope s__law_right) := ⟨rfl, rfl, rfl, by decide +kernel, rfl, by decide +kernel, by decide +kernel⟩

theorem der__law_right {cl : Nat → Addr} {f : Addr} {cdv : Value} {A : Around} {outer : List Env} {s : Shared} {H : Hp} {E : XK}
    (g__law_odd : CalG P w K mg base CX0 3 "_law_odd" spOdd)
    (g__law_any : CalG P w K mg base CX0 2 "_law_any" (spAny K))
    (g__law_held : CalG P w K mg base CX0 1 "_law_held" (spHeld K cl))
    (g__law_marks : CalG P w K mg base CX0 1 "_law_marks" (spMarks K cl))
    (T_NoIndex : OexC K (cl 1))
    (gm_NoIndex : mg "NoIndex" = some (.ref (cl 1)))
    {fi_NoIndex : Addr} {fd_NoIndex : FuncData} (iC_NoIndex : PySem.W.findIn K (.ref (cl 1)) "__init__" = some (some (.ref fi_NoIndex)))
    (tI_NoIndex : PySem.W.typeIn K (.ref fi_NoIndex) = some (.type "function"))
    (G_NoIndex : FnG P w K mg base CX0 1 fi_NoIndex fd_NoIndex ["self", "index"] (spIn K "index"))
    (b_NoIndex : ∀ us : List Value, us.length = (["self", "index"] : List Str).length → bindArgs fd_NoIndex ⟨us, []⟩ = pure ((["self", "index"] : List Str).zip us))
    (bw_NoIndex : ∀ (s : Value) (ws : List Value), ws.length = (["index"] : List Str).length → bindArgs fd_NoIndex ⟨[s], (["index"] : List Str).zip ws⟩ = pure ((["self", "index"] : List Str).zip (s :: (fun {α : Type} (ws : List α) => [(ws.drop 0).head?].filterMap id) ws)))
    (rl_NoIndex : ∀ (zs : List V) (ws : List Value), ws.length = (["index"] : List Str).length → Vals zs ws → Vals ((fun {α : Type} (ws : List α) => [(ws.drop 0).head?].filterMap id) zs) ((fun {α : Type} (ws : List α) => [(ws.drop 0).head?].filterMap id) ws))
    (T_NoValue : OexC K (cl 2))
    (gm_NoValue : mg "NoValue" = some (.ref (cl 2)))
    {fi_NoValue : Addr} {fd_NoValue : FuncData} (iC_NoValue : PySem.W.findIn K (.ref (cl 2)) "__init__" = some (some (.ref fi_NoValue)))
    (tI_NoValue : PySem.W.typeIn K (.ref fi_NoValue) = some (.type "function"))
    (G_NoValue : FnG P w K mg base CX0 1 fi_NoValue fd_NoValue ["self", "value"] (spIn K "value"))
    (b_NoValue : ∀ us : List Value, us.length = (["self", "value"] : List Str).length → bindArgs fd_NoValue ⟨us, []⟩ = pure ((["self", "value"] : List Str).zip us))
    (bw_NoValue : ∀ (s : Value) (ws : List Value), ws.length = (["value"] : List Str).length → bindArgs fd_NoValue ⟨[s], (["value"] : List Str).zip ws⟩ = pure ((["self", "value"] : List Str).zip (s :: (fun {α : Type} (ws : List α) => [(ws.drop 0).head?].filterMap id) ws)))
    (rl_NoValue : ∀ (zs : List V) (ws : List Value), ws.length = (["value"] : List Str).length → Vals zs ws → Vals ((fun {α : Type} (ws : List α) => [(ws.drop 0).head?].filterMap id) zs) ((fun {α : Type} (ws : List α) => [(ws.drop 0).head?].filterMap id) ws))
    (T_Unexplained : OexC K (cl 3))
    (gm_Unexplained : mg "Unexplained" = some (.ref (cl 3)))
    {fi_Unexplained : Addr} {fd_Unexplained : FuncData} (iC_Unexplained : PySem.W.findIn K (.ref (cl 3)) "__init__" = some (some (.ref fi_Unexplained)))
    (tI_Unexplained : PySem.W.typeIn K (.ref fi_Unexplained) = some (.type "function"))
    (G_Unexplained : FnG P w K mg base CX0 1 fi_Unexplained fd_Unexplained ["self", "fault"] (spIn K "fault"))
    (b_Unexplained : ∀ us : List Value, us.length = (["self", "fault"] : List Str).length → bindArgs fd_Unexplained ⟨us, []⟩ = pure ((["self", "fault"] : List Str).zip us))
    (bw_Unexplained : ∀ (s : Value) (ws : List Value), ws.length = (["fault"] : List Str).length → bindArgs fd_Unexplained ⟨[s], (["fault"] : List Str).zip ws⟩ = pure ((["self", "fault"] : List Str).zip (s :: (fun {α : Type} (ws : List α) => [(ws.drop 0).head?].filterMap id) ws)))
    (rl_Unexplained : ∀ (zs : List V) (ws : List Value), ws.length = (["fault"] : List Str).length → Vals zs ws → Vals ((fun {α : Type} (ws : List α) => [(ws.drop 0).head?].filterMap id) zs) ((fun {α : Type} (ws : List α) => [(ws.drop 0).head?].filterMap id) ws))
    (T_BadOrder : OexC K (cl 4))
    (gm_BadOrder : mg "BadOrder" = some (.ref (cl 4)))
    {fi_BadOrder : Addr} {fd_BadOrder : FuncData} (iC_BadOrder : PySem.W.findIn K (.ref (cl 4)) "__init__" = some (some (.ref fi_BadOrder)))
    (tI_BadOrder : PySem.W.typeIn K (.ref fi_BadOrder) = some (.type "function"))
    (G_BadOrder : FnG P w K mg base CX0 1 fi_BadOrder fd_BadOrder ["self", "value"] (spIn K "value"))
    (b_BadOrder : ∀ us : List Value, us.length = (["self", "value"] : List Str).length → bindArgs fd_BadOrder ⟨us, []⟩ = pure ((["self", "value"] : List Str).zip us))
    (bw_BadOrder : ∀ (s : Value) (ws : List Value), ws.length = (["value"] : List Str).length → bindArgs fd_BadOrder ⟨[s], (["value"] : List Str).zip ws⟩ = pure ((["self", "value"] : List Str).zip (s :: (fun {α : Type} (ws : List α) => [(ws.drop 0).head?].filterMap id) ws)))
    (rl_BadOrder : ∀ (zs : List V) (ws : List Value), ws.length = (["value"] : List Str).length → Vals zs ws → Vals ((fun {α : Type} (ws : List α) => [(ws.drop 0).head?].filterMap id) zs) ((fun {α : Type} (ws : List α) => [(ws.drop 0).head?].filterMap id) ws))
    (T_NoPosition : OexC K (cl 5))
    (gm_NoPosition : mg "NoPosition" = some (.ref (cl 5)))
    {fi_NoPosition : Addr} {fd_NoPosition : FuncData} (iC_NoPosition : PySem.W.findIn K (.ref (cl 5)) "__init__" = some (some (.ref fi_NoPosition)))
    (tI_NoPosition : PySem.W.typeIn K (.ref fi_NoPosition) = some (.type "function"))
    (G_NoPosition : FnG P w K mg base CX0 1 fi_NoPosition fd_NoPosition ["self", "position"] (spIn K "position"))
    (b_NoPosition : ∀ us : List Value, us.length = (["self", "position"] : List Str).length → bindArgs fd_NoPosition ⟨us, []⟩ = pure ((["self", "position"] : List Str).zip us))
    (bw_NoPosition : ∀ (s : Value) (ws : List Value), ws.length = (["position"] : List Str).length → bindArgs fd_NoPosition ⟨[s], (["position"] : List Str).zip ws⟩ = pure ((["self", "position"] : List Str).zip (s :: (fun {α : Type} (ws : List α) => [(ws.drop 0).head?].filterMap id) ws)))
    (rl_NoPosition : ∀ (zs : List V) (ws : List Value), ws.length = (["position"] : List Str).length → Vals zs ws → Vals ((fun {α : Type} (ws : List α) => [(ws.drop 0).head?].filterMap id) zs) ((fun {α : Type} (ws : List α) => [(ws.drop 0).head?].filterMap id) ws))
    (T_BadLog : OexC K (cl 7))
    (gm_BadLog : mg "BadLog" = some (.ref (cl 7)))
    {fi_BadLog : Addr} {fd_BadLog : FuncData} (iC_BadLog : PySem.W.findIn K (.ref (cl 7)) "__init__" = some (some (.ref fi_BadLog)))
    (tI_BadLog : PySem.W.typeIn K (.ref fi_BadLog) = some (.type "function"))
    (G_BadLog : FnG P w K mg base CX0 1 fi_BadLog fd_BadLog ["self", "value"] (spIn K "value"))
    (b_BadLog : ∀ us : List Value, us.length = (["self", "value"] : List Str).length → bindArgs fd_BadLog ⟨us, []⟩ = pure ((["self", "value"] : List Str).zip us))
    (bw_BadLog : ∀ (s : Value) (ws : List Value), ws.length = (["value"] : List Str).length → bindArgs fd_BadLog ⟨[s], (["value"] : List Str).zip ws⟩ = pure ((["self", "value"] : List Str).zip (s :: (fun {α : Type} (ws : List α) => [(ws.drop 0).head?].filterMap id) ws)))
    (rl_BadLog : ∀ (zs : List V) (ws : List Value), ws.length = (["value"] : List Str).length → Vals zs ws → Vals ((fun {α : Type} (ws : List α) => [(ws.drop 0).head?].filterMap id) zs) ((fun {α : Type} (ws : List α) => [(ws.drop 0).head?].filterMap id) ws))
    (T_BadTolerance : OexC K (cl 8))
    (gm_BadTolerance : mg "BadTolerance" = some (.ref (cl 8)))
    {fi_BadTolerance : Addr} {fd_BadTolerance : FuncData} (iC_BadTolerance : PySem.W.findIn K (.ref (cl 8)) "__init__" = some (some (.ref fi_BadTolerance)))
    (tI_BadTolerance : PySem.W.typeIn K (.ref fi_BadTolerance) = some (.type "function"))
    (G_BadTolerance : FnG P w K mg base CX0 1 fi_BadTolerance fd_BadTolerance ["self", "value"] (spIn K "value"))
    (b_BadTolerance : ∀ us : List Value, us.length = (["self", "value"] : List Str).length → bindArgs fd_BadTolerance ⟨us, []⟩ = pure ((["self", "value"] : List Str).zip us))
    (bw_BadTolerance : ∀ (s : Value) (ws : List Value), ws.length = (["value"] : List Str).length → bindArgs fd_BadTolerance ⟨[s], (["value"] : List Str).zip ws⟩ = pure ((["self", "value"] : List Str).zip (s :: (fun {α : Type} (ws : List α) => [(ws.drop 0).head?].filterMap id) ws)))
    (rl_BadTolerance : ∀ (zs : List V) (ws : List Value), ws.length = (["value"] : List Str).length → Vals zs ws → Vals ((fun {α : Type} (ws : List α) => [(ws.drop 0).head?].filterMap id) zs) ((fun {α : Type} (ws : List α) => [(ws.drop 0).head?].filterMap id) ws))
    (T_BadOperation : OexC K (cl 9))
    (gm_BadOperation : mg "BadOperation" = some (.ref (cl 9)))
    {fi_BadOperation : Addr} {fd_BadOperation : FuncData} (iC_BadOperation : PySem.W.findIn K (.ref (cl 9)) "__init__" = some (some (.ref fi_BadOperation)))
    (tI_BadOperation : PySem.W.typeIn K (.ref fi_BadOperation) = some (.type "function"))
    (G_BadOperation : FnG P w K mg base CX0 1 fi_BadOperation fd_BadOperation ["self", "operation"] (spIn K "operation"))
    (b_BadOperation : ∀ us : List Value, us.length = (["self", "operation"] : List Str).length → bindArgs fd_BadOperation ⟨us, []⟩ = pure ((["self", "operation"] : List Str).zip us))
    (bw_BadOperation : ∀ (s : Value) (ws : List Value), ws.length = (["operation"] : List Str).length → bindArgs fd_BadOperation ⟨[s], (["operation"] : List Str).zip ws⟩ = pure ((["self", "operation"] : List Str).zip (s :: (fun {α : Type} (ws : List α) => [(ws.drop 0).head?].filterMap id) ws)))
    (rl_BadOperation : ∀ (zs : List V) (ws : List Value), ws.length = (["operation"] : List Str).length → Vals zs ws → Vals ((fun {α : Type} (ws : List α) => [(ws.drop 0).head?].filterMap id) zs) ((fun {α : Type} (ws : List α) => [(ws.drop 0).head?].filterMap id) ws))
    (T_Written : OexC K (cl 10))
    (gm_Written : mg "Written" = some (.ref (cl 10)))
    {fi_Written : Addr} {fd_Written : FuncData} (iC_Written : PySem.W.findIn K (.ref (cl 10)) "__init__" = some (some (.ref fi_Written)))
    (tI_Written : PySem.W.typeIn K (.ref fi_Written) = some (.type "function"))
    (G_Written : FnG P w K mg base CX0 1 fi_Written fd_Written ["self", "value"] (spIn K "value"))
    (b_Written : ∀ us : List Value, us.length = (["self", "value"] : List Str).length → bindArgs fd_Written ⟨us, []⟩ = pure ((["self", "value"] : List Str).zip us))
    (bw_Written : ∀ (s : Value) (ws : List Value), ws.length = (["value"] : List Str).length → bindArgs fd_Written ⟨[s], (["value"] : List Str).zip ws⟩ = pure ((["self", "value"] : List Str).zip (s :: (fun {α : Type} (ws : List α) => [(ws.drop 0).head?].filterMap id) ws)))
    (rl_Written : ∀ (zs : List V) (ws : List Value), ws.length = (["value"] : List Str).length → Vals zs ws → Vals ((fun {α : Type} (ws : List α) => [(ws.drop 0).head?].filterMap id) zs) ((fun {α : Type} (ws : List α) => [(ws.drop 0).head?].filterMap id) ws))
    (T_TooMany : OexC K (cl 11))
    (gm_TooMany : mg "TooMany" = some (.ref (cl 11)))
    {fi_TooMany : Addr} {fd_TooMany : FuncData} (iC_TooMany : PySem.W.findIn K (.ref (cl 11)) "__init__" = some (some (.ref fi_TooMany)))
    (tI_TooMany : PySem.W.typeIn K (.ref fi_TooMany) = some (.type "function"))
    (G_TooMany : FnG P w K mg base CX0 1 fi_TooMany fd_TooMany ["self", "limit"] (spIn K "limit"))
    (b_TooMany : ∀ us : List Value, us.length = (["self", "limit"] : List Str).length → bindArgs fd_TooMany ⟨us, []⟩ = pure ((["self", "limit"] : List Str).zip us))
    (bw_TooMany : ∀ (s : Value) (ws : List Value), ws.length = (["limit"] : List Str).length → bindArgs fd_TooMany ⟨[s], (["limit"] : List Str).zip ws⟩ = pure ((["self", "limit"] : List Str).zip (s :: (fun {α : Type} (ws : List α) => [(ws.drop 0).head?].filterMap id) ws)))
    (rl_TooMany : ∀ (zs : List V) (ws : List Value), ws.length = (["limit"] : List Str).length → Vals zs ws → Vals ((fun {α : Type} (ws : List α) => [(ws.drop 0).head?].filterMap id) zs) ((fun {α : Type} (ws : List α) => [(ws.drop 0).head?].filterMap id) ws))
    (T_BadText : OexC K (cl 13))
    (gm_BadText : mg "BadText" = some (.ref (cl 13)))
    {fi_BadText : Addr} {fd_BadText : FuncData} (iC_BadText : PySem.W.findIn K (.ref (cl 13)) "__init__" = some (some (.ref fi_BadText)))
    (tI_BadText : PySem.W.typeIn K (.ref fi_BadText) = some (.type "function"))
    (G_BadText : FnG P w K mg base CX0 1 fi_BadText fd_BadText ["self", "value"] (spIn K "value"))
    (b_BadText : ∀ us : List Value, us.length = (["self", "value"] : List Str).length → bindArgs fd_BadText ⟨us, []⟩ = pure ((["self", "value"] : List Str).zip us))
    (bw_BadText : ∀ (s : Value) (ws : List Value), ws.length = (["value"] : List Str).length → bindArgs fd_BadText ⟨[s], (["value"] : List Str).zip ws⟩ = pure ((["self", "value"] : List Str).zip (s :: (fun {α : Type} (ws : List α) => [(ws.drop 0).head?].filterMap id) ws)))
    (rl_BadText : ∀ (zs : List V) (ws : List Value), ws.length = (["value"] : List Str).length → Vals zs ws → Vals ((fun {α : Type} (ws : List α) => [(ws.drop 0).head?].filterMap id) zs) ((fun {α : Type} (ws : List α) => [(ws.drop 0).head?].filterMap id) ws))
    (T_BadLine : OexC K (cl 14))
    (gm_BadLine : mg "BadLine" = some (.ref (cl 14)))
    {fi_BadLine : Addr} {fd_BadLine : FuncData} (iC_BadLine : PySem.W.findIn K (.ref (cl 14)) "__init__" = some (some (.ref fi_BadLine)))
    (tI_BadLine : PySem.W.typeIn K (.ref fi_BadLine) = some (.type "function"))
    (G_BadLine : FnG P w K mg base CX0 1 fi_BadLine fd_BadLine ["self", "line"] (spIn K "line"))
    (b_BadLine : ∀ us : List Value, us.length = (["self", "line"] : List Str).length → bindArgs fd_BadLine ⟨us, []⟩ = pure ((["self", "line"] : List Str).zip us))
    (bw_BadLine : ∀ (s : Value) (ws : List Value), ws.length = (["line"] : List Str).length → bindArgs fd_BadLine ⟨[s], (["line"] : List Str).zip ws⟩ = pure ((["self", "line"] : List Str).zip (s :: (fun {α : Type} (ws : List α) => [(ws.drop 0).head?].filterMap id) ws)))
    (rl_BadLine : ∀ (zs : List V) (ws : List Value), ws.length = (["line"] : List Str).length → Vals zs ws → Vals ((fun {α : Type} (ws : List α) => [(ws.drop 0).head?].filterMap id) zs) ((fun {α : Type} (ws : List α) => [(ws.drop 0).head?].filterMap id) ws))
    (T_BadStamps : OexC K (cl 6))
    (gm_BadStamps : mg "BadStamps" = some (.ref (cl 6)))
    {fi_BadStamps : Addr} {fd_BadStamps : FuncData} (iC_BadStamps : PySem.W.findIn K (.ref (cl 6)) "__init__" = some (some (.ref fi_BadStamps)))
    (tI_BadStamps : PySem.W.typeIn K (.ref fi_BadStamps) = some (.type "function"))
    (G_BadStamps : FnG P w K mg base CX0 1 fi_BadStamps fd_BadStamps ["self", "begin", "end"] (spIn2 K "begin" "end"))
    (b_BadStamps : ∀ us : List Value, us.length = (["self", "begin", "end"] : List Str).length → bindArgs fd_BadStamps ⟨us, []⟩ = pure ((["self", "begin", "end"] : List Str).zip us))
    (bw_BadStamps : ∀ (s : Value) (ws : List Value), ws.length = (["end", "begin"] : List Str).length → bindArgs fd_BadStamps ⟨[s], (["end", "begin"] : List Str).zip ws⟩ = pure ((["self", "begin", "end"] : List Str).zip (s :: (fun {α : Type} (ws : List α) => [(ws.drop 1).head?, (ws.drop 0).head?].filterMap id) ws)))
    (rl_BadStamps : ∀ (zs : List V) (ws : List Value), ws.length = (["end", "begin"] : List Str).length → Vals zs ws → Vals ((fun {α : Type} (ws : List α) => [(ws.drop 1).head?, (ws.drop 0).head?].filterMap id) zs) ((fun {α : Type} (ws : List α) => [(ws.drop 1).head?, (ws.drop 0).head?].filterMap id) ws))
    (T_NothingToUndo : OexC K (cl 12))
    (gm_NothingToUndo : mg "NothingToUndo" = some (.ref (cl 12)))
    (iC_NothingToUndo : PySem.W.findIn K (.ref (cl 12)) "__init__" = some (some (.builtin "ValueError.__init__")))
    (c_CellError : ∃ u, mg "CellError" = some u ∧ RelV (V.ref (cl 0)) u)
    (n_repr : mg "repr" = none)
    (n_enumerate : mg "enumerate" = none)
    (n_range : mg "range" = none)
    (n_isinstance : mg "isinstance" = none)
    (n_ValueError : mg "ValueError" = none)
    (hS : ∃ o, base.get? sysModules = some o)
    (hr : Room 3 (A.deeper (envOfC "_law_right" (defScope s__law_right) s.heap.objs.size f cdv))) (gd : (A.deeper (envOfC "_law_right" (defScope s__law_right) s.heap.objs.size f cdv)).guards = some []) :
    PSs (cxOf CX0 P w K mg base N__law_right "_law_right" (defScope s__law_right) f cdv A outer s H E).nox (defBody s__law_right) (t9__law_right cl K) :=
  (pss_cons (ps_asg (pe_lc (own := [("_law_turn", 3)]) (g := (gName 3)) (tt := tYes) rfl sc__law_right.nd (pi_range1 (by rfl) n_range (pa_cons pe_int pa_nil)) (blkOk_by (N := N__law_right) (sc := defScope s__law_right) (by decide +kernel)) (fun _ _ _ _ _ => (pg_name (i := 3) sc__law_right.nd rfl (by first | exact Or.inl rfl | exact Or.inr rfl))) (fun _ _ _ _ _ => pts_nil) (fun _ _ _ _ _ => (pe_g g__law_odd hr (by decide) gd pass0 (by rfl) (pa_cons (pv 0) (pa_cons (pe_g g__law_any hr (by decide) gd pass0 (by rfl) (pa_cons (pv 0) (pa_cons (pe_lst (pa_cons pe_int (pa_cons pe_str (pa_cons (pe_tup (pa_cons pe_int (pa_cons (pe_tup (pa_cons pe_int (pa_cons pe_str pa_nil))) pa_nil))) pa_nil)))) pa_nil))) pa_nil))))) (pg_unl rfl (pgs_cons (pg_name (i := 1) sc__law_right.nd rfl (by first | exact Or.inl rfl | exact Or.inr rfl)) (pgs_cons (pg_name (i := 2) sc__law_right.nd rfl (by first | exact Or.inl rfl | exact Or.inr rfl)) pgs_nil))))
      (pss_cons (ps_set (i := 4) sc__law_right.nd rfl (by first | exact Or.inl rfl | exact Or.inr rfl) (pe_callB (call_repr gd hr hS) (by rfl) n_repr (by decide +kernel) (pa_cons (pe_tup (pa_cons (pv 1) (pa_cons (pv 2) pa_nil))) pa_nil)))
      (pss_cons (ps_set (i := 5) sc__law_right.nd rfl (by first | exact Or.inl rfl | exact Or.inr rfl) (pe_lst (pa_cons (pe_newE T_NoIndex iC_NoIndex tI_NoIndex G_NoIndex hr (by decide) gd b_NoIndex pass0 (by rfl) gm_NoIndex (pa_cons (pv 1) pa_nil)) (pa_cons (pe_newE T_NoValue iC_NoValue tI_NoValue G_NoValue hr (by decide) gd b_NoValue pass0 (by rfl) gm_NoValue (pa_cons (pv 1) pa_nil)) (pa_cons (pe_newE T_Unexplained iC_Unexplained tI_Unexplained G_Unexplained hr (by decide) gd b_Unexplained pass0 (by rfl) gm_Unexplained (pa_cons (pv 1) pa_nil)) (pa_cons (pe_newE T_BadOrder iC_BadOrder tI_BadOrder G_BadOrder hr (by decide) gd b_BadOrder pass0 (by rfl) gm_BadOrder (pa_cons (pv 1) pa_nil)) (pa_cons (pe_newE T_NoPosition iC_NoPosition tI_NoPosition G_NoPosition hr (by decide) gd b_NoPosition pass0 (by rfl) gm_NoPosition (pa_cons (pv 1) pa_nil)) (pa_cons (pe_newE T_BadLog iC_BadLog tI_BadLog G_BadLog hr (by decide) gd b_BadLog pass0 (by rfl) gm_BadLog (pa_cons (pv 1) pa_nil)) pa_nil))))))))
      (pss_cons (ps_set (i := 5) sc__law_right.nd rfl (by first | exact Or.inl rfl | exact Or.inr rfl) (pe_op op_addA (pv 5) (pe_lst (pa_cons (pe_newE T_BadTolerance iC_BadTolerance tI_BadTolerance G_BadTolerance hr (by decide) gd b_BadTolerance pass0 (by rfl) gm_BadTolerance (pa_cons (pv 1) pa_nil)) (pa_cons (pe_newE T_BadOperation iC_BadOperation tI_BadOperation G_BadOperation hr (by decide) gd b_BadOperation pass0 (by rfl) gm_BadOperation (pa_cons (pv 1) pa_nil)) (pa_cons (pe_newE T_Written iC_Written tI_Written G_Written hr (by decide) gd b_Written pass0 (by rfl) gm_Written (pa_cons (pv 1) pa_nil)) (pa_cons (pe_newE T_TooMany iC_TooMany tI_TooMany G_TooMany hr (by decide) gd b_TooMany pass0 (by rfl) gm_TooMany (pa_cons (pv 1) pa_nil)) (pa_cons (pe_newE T_BadText iC_BadText tI_BadText G_BadText hr (by decide) gd b_BadText pass0 (by rfl) gm_BadText (pa_cons (pv 1) pa_nil)) pa_nil))))))))
      (pss_cons (ps_set (i := 5) sc__law_right.nd rfl (by first | exact Or.inl rfl | exact Or.inr rfl) (pe_op op_addA (pv 5) (pe_lst (pa_cons (pe_newE T_BadLine iC_BadLine tI_BadLine G_BadLine hr (by decide) gd b_BadLine pass0 (by rfl) gm_BadLine (pa_cons (pv 1) pa_nil)) (pa_cons (pe_newE T_BadStamps iC_BadStamps tI_BadStamps G_BadStamps hr (by decide) gd b_BadStamps pass0 (by rfl) gm_BadStamps (pa_cons (pv 1) (pa_cons (pv 2) pa_nil))) (pa_cons (pe_new0 hr T_NothingToUndo iC_NothingToUndo (by rfl) gm_NothingToUndo) pa_nil))))))
      (pss_cons (ps_set (i := 6) sc__law_right.nd rfl (by first | exact Or.inl rfl | exact Or.inr rfl) (pe_lst (pa_cons (pe_newW (pi := (fun {α : Type} (ws : List α) => [(ws.drop 0).head?].filterMap id)) T_NoIndex iC_NoIndex tI_NoIndex G_NoIndex hr (by decide) gd bw_NoIndex rl_NoIndex rfl pass0 (by rfl) gm_NoIndex (pk_cons (pv 1) pk_nil)) (pa_cons (pe_newW (pi := (fun {α : Type} (ws : List α) => [(ws.drop 0).head?].filterMap id)) T_NoValue iC_NoValue tI_NoValue G_NoValue hr (by decide) gd bw_NoValue rl_NoValue rfl pass0 (by rfl) gm_NoValue (pk_cons (pv 1) pk_nil)) (pa_cons (pe_newW (pi := (fun {α : Type} (ws : List α) => [(ws.drop 0).head?].filterMap id)) T_Unexplained iC_Unexplained tI_Unexplained G_Unexplained hr (by decide) gd bw_Unexplained rl_Unexplained rfl pass0 (by rfl) gm_Unexplained (pk_cons (pv 1) pk_nil)) (pa_cons (pe_newW (pi := (fun {α : Type} (ws : List α) => [(ws.drop 0).head?].filterMap id)) T_BadOrder iC_BadOrder tI_BadOrder G_BadOrder hr (by decide) gd bw_BadOrder rl_BadOrder rfl pass0 (by rfl) gm_BadOrder (pk_cons (pv 1) pk_nil)) pa_nil))))))
      (pss_cons (ps_set (i := 6) sc__law_right.nd rfl (by first | exact Or.inl rfl | exact Or.inr rfl) (pe_op op_addA (pv 6) (pe_lst (pa_cons (pe_newW (pi := (fun {α : Type} (ws : List α) => [(ws.drop 0).head?].filterMap id)) T_NoPosition iC_NoPosition tI_NoPosition G_NoPosition hr (by decide) gd bw_NoPosition rl_NoPosition rfl pass0 (by rfl) gm_NoPosition (pk_cons (pv 1) pk_nil)) (pa_cons (pe_newW (pi := (fun {α : Type} (ws : List α) => [(ws.drop 0).head?].filterMap id)) T_BadLog iC_BadLog tI_BadLog G_BadLog hr (by decide) gd bw_BadLog rl_BadLog rfl pass0 (by rfl) gm_BadLog (pk_cons (pv 1) pk_nil)) (pa_cons (pe_newW (pi := (fun {α : Type} (ws : List α) => [(ws.drop 0).head?].filterMap id)) T_BadTolerance iC_BadTolerance tI_BadTolerance G_BadTolerance hr (by decide) gd bw_BadTolerance rl_BadTolerance rfl pass0 (by rfl) gm_BadTolerance (pk_cons (pv 1) pk_nil)) pa_nil))))))
      (pss_cons (ps_set (i := 6) sc__law_right.nd rfl (by first | exact Or.inl rfl | exact Or.inr rfl) (pe_op op_addA (pv 6) (pe_lst (pa_cons (pe_newW (pi := (fun {α : Type} (ws : List α) => [(ws.drop 0).head?].filterMap id)) T_BadOperation iC_BadOperation tI_BadOperation G_BadOperation hr (by decide) gd bw_BadOperation rl_BadOperation rfl pass0 (by rfl) gm_BadOperation (pk_cons (pv 1) pk_nil)) (pa_cons (pe_newW (pi := (fun {α : Type} (ws : List α) => [(ws.drop 0).head?].filterMap id)) T_Written iC_Written tI_Written G_Written hr (by decide) gd bw_Written rl_Written rfl pass0 (by rfl) gm_Written (pk_cons (pv 1) pk_nil)) (pa_cons (pe_newW (pi := (fun {α : Type} (ws : List α) => [(ws.drop 0).head?].filterMap id)) T_TooMany iC_TooMany tI_TooMany G_TooMany hr (by decide) gd bw_TooMany rl_TooMany rfl pass0 (by rfl) gm_TooMany (pk_cons (pv 1) pk_nil)) (pa_cons (pe_newW (pi := (fun {α : Type} (ws : List α) => [(ws.drop 0).head?].filterMap id)) T_BadText iC_BadText tI_BadText G_BadText hr (by decide) gd bw_BadText rl_BadText rfl pass0 (by rfl) gm_BadText (pk_cons (pv 1) pk_nil)) pa_nil)))))))
      (pss_cons (ps_set (i := 6) sc__law_right.nd rfl (by first | exact Or.inl rfl | exact Or.inr rfl) (pe_op op_addA (pv 6) (pe_lst (pa_cons (pe_newW (pi := (fun {α : Type} (ws : List α) => [(ws.drop 0).head?].filterMap id)) T_BadLine iC_BadLine tI_BadLine G_BadLine hr (by decide) gd bw_BadLine rl_BadLine rfl pass0 (by rfl) gm_BadLine (pk_cons (pv 1) pk_nil)) (pa_cons (pe_newW (pi := (fun {α : Type} (ws : List α) => [(ws.drop 1).head?, (ws.drop 0).head?].filterMap id)) T_BadStamps iC_BadStamps tI_BadStamps G_BadStamps hr (by decide) gd bw_BadStamps rl_BadStamps rfl pass0 (by rfl) gm_BadStamps (pk_cons (pv 2) (pk_cons (pv 1) pk_nil))) pa_nil)))))
      (pss_cons (ps_for PassesOwn.never rfl (pi_tup (pe_tup (pa_cons (pv 5) (pa_cons (pv 6) pa_nil)))) (pg_name (i := 7) sc__law_right.nd rfl (by first | exact Or.inl rfl | exact Or.inr rfl))
      (pss_cons (ps_if (pt_cmpR (op_neA (units65 hr)) (pe_callB (call_repr gd hr hS) (by rfl) n_repr (by decide +kernel) (pa_cons (pe_g g__law_held hr (by decide) gd pass0 (by rfl) (pa_cons (pv 7) pa_nil)) pa_nil)) (pe_callB (call_repr gd hr hS) (by rfl) n_repr (by decide +kernel) (pa_cons (pe_op op_addA (pe_op op_mulA (pe_lst (pa_cons (pv 1) pa_nil)) pe_int) (pe_lst (pa_cons (pv 2) pa_nil))) pa_nil)) (nomark _))
      (pss_one (ps_ret pe_bl)) pss_nil)
      (pss_one (ps_for PassesOwn.never rfl (pi_enum (by rfl) n_enumerate (pa_cons (pv 7) pa_nil)) (pg_tup rfl (pgs_cons (pg_name (i := 8) sc__law_right.nd rfl (by first | exact Or.inl rfl | exact Or.inr rfl)) (pgs_cons (pg_name (i := 9) sc__law_right.nd rfl (by first | exact Or.inl rfl | exact Or.inr rfl)) pgs_nil)))
      (pss_cons (ps_if (pt_cmpR (op_neA (units65 hr)) (pe_g g__law_marks hr (by decide) gd pass0 (by rfl) (pa_cons (pv 9) pa_nil)) (pe_lc (own := [("_law_spot", 10)]) (g := (gName 10)) (tt := tYes) rfl sc__law_right.nd (pi_range1 (by rfl) n_range (pa_cons pe_int pa_nil)) (blkOk_by (N := N__law_right) (sc := defScope s__law_right) (by decide +kernel)) (fun _ _ _ _ _ => (pg_name (i := 10) sc__law_right.nd rfl (by first | exact Or.inl rfl | exact Or.inr rfl))) (fun _ _ _ _ _ => pts_nil) (fun _ _ _ _ _ => (pe_cmpR (op_eqA (units65 hr)) (pv 10) (pv 8) (nomark _)))) (nomark _))
      (pss_one (ps_ret pe_bl)) pss_nil)
      (pss_one (ps_if (PW.pt (pw_or (pt_not (pt_val (pe_callB call_isO (by rfl) n_isinstance (by decide +kernel) (pa_cons (pv 9) (pa_cons (pe_gc (by rfl) c_CellError) pa_nil))))) (pw_or1 (pt_not (pt_val (pe_callB call_isO (by rfl) n_isinstance (by decide +kernel) (pa_cons (pv 9) (pa_cons (pe_bltn (v := .ty "ValueError") (by rfl) n_ValueError (by decide +kernel) rfl) pa_nil))))))))
      (pss_one (ps_ret pe_bl)) pss_nil)))))))
      (pss_one (ps_ret (pe_cmpR (op_eqA (units65 hr)) (pe_callB (call_repr gd hr hS) (by rfl) n_repr (by decide +kernel) (pa_cons (pe_tup (pa_cons (pv 1) (pa_cons (pv 2) pa_nil))) pa_nil)) (pv 4) (nomark _))))))))))))))

theorem ok__law_right {cl : Nat → Addr} {f : Addr} {fd : FuncData} (F : Fun K "_law_right" "_law_right" s__law_right f fd)
    (g__law_odd : CalG P w K mg base CX0 3 "_law_odd" spOdd)
    (g__law_any : CalG P w K mg base CX0 2 "_law_any" (spAny K))
    (g__law_held : CalG P w K mg base CX0 1 "_law_held" (spHeld K cl))
    (g__law_marks : CalG P w K mg base CX0 1 "_law_marks" (spMarks K cl))
    (T_NoIndex : OexC K (cl 1))
    (gm_NoIndex : mg "NoIndex" = some (.ref (cl 1)))
    {fi_NoIndex : Addr} {fd_NoIndex : FuncData} (iC_NoIndex : PySem.W.findIn K (.ref (cl 1)) "__init__" = some (some (.ref fi_NoIndex)))
    (tI_NoIndex : PySem.W.typeIn K (.ref fi_NoIndex) = some (.type "function"))
    (G_NoIndex : FnG P w K mg base CX0 1 fi_NoIndex fd_NoIndex ["self", "index"] (spIn K "index"))
    (b_NoIndex : ∀ us : List Value, us.length = (["self", "index"] : List Str).length → bindArgs fd_NoIndex ⟨us, []⟩ = pure ((["self", "index"] : List Str).zip us))
    (bw_NoIndex : ∀ (s : Value) (ws : List Value), ws.length = (["index"] : List Str).length → bindArgs fd_NoIndex ⟨[s], (["index"] : List Str).zip ws⟩ = pure ((["self", "index"] : List Str).zip (s :: (fun {α : Type} (ws : List α) => [(ws.drop 0).head?].filterMap id) ws)))
    (rl_NoIndex : ∀ (zs : List V) (ws : List Value), ws.length = (["index"] : List Str).length → Vals zs ws → Vals ((fun {α : Type} (ws : List α) => [(ws.drop 0).head?].filterMap id) zs) ((fun {α : Type} (ws : List α) => [(ws.drop 0).head?].filterMap id) ws))
    (T_NoValue : OexC K (cl 2))
    (gm_NoValue : mg "NoValue" = some (.ref (cl 2)))
    {fi_NoValue : Addr} {fd_NoValue : FuncData} (iC_NoValue : PySem.W.findIn K (.ref (cl 2)) "__init__" = some (some (.ref fi_NoValue)))
    (tI_NoValue : PySem.W.typeIn K (.ref fi_NoValue) = some (.type "function"))
    (G_NoValue : FnG P w K mg base CX0 1 fi_NoValue fd_NoValue ["self", "value"] (spIn K "value"))
    (b_NoValue : ∀ us : List Value, us.length = (["self", "value"] : List Str).length → bindArgs fd_NoValue ⟨us, []⟩ = pure ((["self", "value"] : List Str).zip us))
    (bw_NoValue : ∀ (s : Value) (ws : List Value), ws.length = (["value"] : List Str).length → bindArgs fd_NoValue ⟨[s], (["value"] : List Str).zip ws⟩ = pure ((["self", "value"] : List Str).zip (s :: (fun {α : Type} (ws : List α) => [(ws.drop 0).head?].filterMap id) ws)))
    (rl_NoValue : ∀ (zs : List V) (ws : List Value), ws.length = (["value"] : List Str).length → Vals zs ws → Vals ((fun {α : Type} (ws : List α) => [(ws.drop 0).head?].filterMap id) zs) ((fun {α : Type} (ws : List α) => [(ws.drop 0).head?].filterMap id) ws))
    (T_Unexplained : OexC K (cl 3))
    (gm_Unexplained : mg "Unexplained" = some (.ref (cl 3)))
    {fi_Unexplained : Addr} {fd_Unexplained : FuncData} (iC_Unexplained : PySem.W.findIn K (.ref (cl 3)) "__init__" = some (some (.ref fi_Unexplained)))
    (tI_Unexplained : PySem.W.typeIn K (.ref fi_Unexplained) = some (.type "function"))
    (G_Unexplained : FnG P w K mg base CX0 1 fi_Unexplained fd_Unexplained ["self", "fault"] (spIn K "fault"))
    (b_Unexplained : ∀ us : List Value, us.length = (["self", "fault"] : List Str).length → bindArgs fd_Unexplained ⟨us, []⟩ = pure ((["self", "fault"] : List Str).zip us))
    (bw_Unexplained : ∀ (s : Value) (ws : List Value), ws.length = (["fault"] : List Str).length → bindArgs fd_Unexplained ⟨[s], (["fault"] : List Str).zip ws⟩ = pure ((["self", "fault"] : List Str).zip (s :: (fun {α : Type} (ws : List α) => [(ws.drop 0).head?].filterMap id) ws)))
    (rl_Unexplained : ∀ (zs : List V) (ws : List Value), ws.length = (["fault"] : List Str).length → Vals zs ws → Vals ((fun {α : Type} (ws : List α) => [(ws.drop 0).head?].filterMap id) zs) ((fun {α : Type} (ws : List α) => [(ws.drop 0).head?].filterMap id) ws))
    (T_BadOrder : OexC K (cl 4))
    (gm_BadOrder : mg "BadOrder" = some (.ref (cl 4)))
    {fi_BadOrder : Addr} {fd_BadOrder : FuncData} (iC_BadOrder : PySem.W.findIn K (.ref (cl 4)) "__init__" = some (some (.ref fi_BadOrder)))
    (tI_BadOrder : PySem.W.typeIn K (.ref fi_BadOrder) = some (.type "function"))
    (G_BadOrder : FnG P w K mg base CX0 1 fi_BadOrder fd_BadOrder ["self", "value"] (spIn K "value"))
    (b_BadOrder : ∀ us : List Value, us.length = (["self", "value"] : List Str).length → bindArgs fd_BadOrder ⟨us, []⟩ = pure ((["self", "value"] : List Str).zip us))
    (bw_BadOrder : ∀ (s : Value) (ws : List Value), ws.length = (["value"] : List Str).length → bindArgs fd_BadOrder ⟨[s], (["value"] : List Str).zip ws⟩ = pure ((["self", "value"] : List Str).zip (s :: (fun {α : Type} (ws : List α) => [(ws.drop 0).head?].filterMap id) ws)))
    (rl_BadOrder : ∀ (zs : List V) (ws : List Value), ws.length = (["value"] : List Str).length → Vals zs ws → Vals ((fun {α : Type} (ws : List α) => [(ws.drop 0).head?].filterMap id) zs) ((fun {α : Type} (ws : List α) => [(ws.drop 0).head?].filterMap id) ws))
    (T_NoPosition : OexC K (cl 5))
    (gm_NoPosition : mg "NoPosition" = some (.ref (cl 5)))
    {fi_NoPosition : Addr} {fd_NoPosition : FuncData} (iC_NoPosition : PySem.W.findIn K (.ref (cl 5)) "__init__" = some (some (.ref fi_NoPosition)))
    (tI_NoPosition : PySem.W.typeIn K (.ref fi_NoPosition) = some (.type "function"))
    (G_NoPosition : FnG P w K mg base CX0 1 fi_NoPosition fd_NoPosition ["self", "position"] (spIn K "position"))
    (b_NoPosition : ∀ us : List Value, us.length = (["self", "position"] : List Str).length → bindArgs fd_NoPosition ⟨us, []⟩ = pure ((["self", "position"] : List Str).zip us))
    (bw_NoPosition : ∀ (s : Value) (ws : List Value), ws.length = (["position"] : List Str).length → bindArgs fd_NoPosition ⟨[s], (["position"] : List Str).zip ws⟩ = pure ((["self", "position"] : List Str).zip (s :: (fun {α : Type} (ws : List α) => [(ws.drop 0).head?].filterMap id) ws)))
    (rl_NoPosition : ∀ (zs : List V) (ws : List Value), ws.length = (["position"] : List Str).length → Vals zs ws → Vals ((fun {α : Type} (ws : List α) => [(ws.drop 0).head?].filterMap id) zs) ((fun {α : Type} (ws : List α) => [(ws.drop 0).head?].filterMap id) ws))
    (T_BadLog : OexC K (cl 7))
    (gm_BadLog : mg "BadLog" = some (.ref (cl 7)))
    {fi_BadLog : Addr} {fd_BadLog : FuncData} (iC_BadLog : PySem.W.findIn K (.ref (cl 7)) "__init__" = some (some (.ref fi_BadLog)))
    (tI_BadLog : PySem.W.typeIn K (.ref fi_BadLog) = some (.type "function"))
    (G_BadLog : FnG P w K mg base CX0 1 fi_BadLog fd_BadLog ["self", "value"] (spIn K "value"))
    (b_BadLog : ∀ us : List Value, us.length = (["self", "value"] : List Str).length → bindArgs fd_BadLog ⟨us, []⟩ = pure ((["self", "value"] : List Str).zip us))
    (bw_BadLog : ∀ (s : Value) (ws : List Value), ws.length = (["value"] : List Str).length → bindArgs fd_BadLog ⟨[s], (["value"] : List Str).zip ws⟩ = pure ((["self", "value"] : List Str).zip (s :: (fun {α : Type} (ws : List α) => [(ws.drop 0).head?].filterMap id) ws)))
    (rl_BadLog : ∀ (zs : List V) (ws : List Value), ws.length = (["value"] : List Str).length → Vals zs ws → Vals ((fun {α : Type} (ws : List α) => [(ws.drop 0).head?].filterMap id) zs) ((fun {α : Type} (ws : List α) => [(ws.drop 0).head?].filterMap id) ws))
    (T_BadTolerance : OexC K (cl 8))
    (gm_BadTolerance : mg "BadTolerance" = some (.ref (cl 8)))
    {fi_BadTolerance : Addr} {fd_BadTolerance : FuncData} (iC_BadTolerance : PySem.W.findIn K (.ref (cl 8)) "__init__" = some (some (.ref fi_BadTolerance)))
    (tI_BadTolerance : PySem.W.typeIn K (.ref fi_BadTolerance) = some (.type "function"))
    (G_BadTolerance : FnG P w K mg base CX0 1 fi_BadTolerance fd_BadTolerance ["self", "value"] (spIn K "value"))
    (b_BadTolerance : ∀ us : List Value, us.length = (["self", "value"] : List Str).length → bindArgs fd_BadTolerance ⟨us, []⟩ = pure ((["self", "value"] : List Str).zip us))
    (bw_BadTolerance : ∀ (s : Value) (ws : List Value), ws.length = (["value"] : List Str).length → bindArgs fd_BadTolerance ⟨[s], (["value"] : List Str).zip ws⟩ = pure ((["self", "value"] : List Str).zip (s :: (fun {α : Type} (ws : List α) => [(ws.drop 0).head?].filterMap id) ws)))
    (rl_BadTolerance : ∀ (zs : List V) (ws : List Value), ws.length = (["value"] : List Str).length → Vals zs ws → Vals ((fun {α : Type} (ws : List α) => [(ws.drop 0).head?].filterMap id) zs) ((fun {α : Type} (ws : List α) => [(ws.drop 0).head?].filterMap id) ws))
    (T_BadOperation : OexC K (cl 9))
    (gm_BadOperation : mg "BadOperation" = some (.ref (cl 9)))
    {fi_BadOperation : Addr} {fd_BadOperation : FuncData} (iC_BadOperation : PySem.W.findIn K (.ref (cl 9)) "__init__" = some (some (.ref fi_BadOperation)))
    (tI_BadOperation : PySem.W.typeIn K (.ref fi_BadOperation) = some (.type "function"))
    (G_BadOperation : FnG P w K mg base CX0 1 fi_BadOperation fd_BadOperation ["self", "operation"] (spIn K "operation"))
    (b_BadOperation : ∀ us : List Value, us.length = (["self", "operation"] : List Str).length → bindArgs fd_BadOperation ⟨us, []⟩ = pure ((["self", "operation"] : List Str).zip us))
    (bw_BadOperation : ∀ (s : Value) (ws : List Value), ws.length = (["operation"] : List Str).length → bindArgs fd_BadOperation ⟨[s], (["operation"] : List Str).zip ws⟩ = pure ((["self", "operation"] : List Str).zip (s :: (fun {α : Type} (ws : List α) => [(ws.drop 0).head?].filterMap id) ws)))
    (rl_BadOperation : ∀ (zs : List V) (ws : List Value), ws.length = (["operation"] : List Str).length → Vals zs ws → Vals ((fun {α : Type} (ws : List α) => [(ws.drop 0).head?].filterMap id) zs) ((fun {α : Type} (ws : List α) => [(ws.drop 0).head?].filterMap id) ws))
    (T_Written : OexC K (cl 10))
    (gm_Written : mg "Written" = some (.ref (cl 10)))
    {fi_Written : Addr} {fd_Written : FuncData} (iC_Written : PySem.W.findIn K (.ref (cl 10)) "__init__" = some (some (.ref fi_Written)))
    (tI_Written : PySem.W.typeIn K (.ref fi_Written) = some (.type "function"))
    (G_Written : FnG P w K mg base CX0 1 fi_Written fd_Written ["self", "value"] (spIn K "value"))
    (b_Written : ∀ us : List Value, us.length = (["self", "value"] : List Str).length → bindArgs fd_Written ⟨us, []⟩ = pure ((["self", "value"] : List Str).zip us))
    (bw_Written : ∀ (s : Value) (ws : List Value), ws.length = (["value"] : List Str).length → bindArgs fd_Written ⟨[s], (["value"] : List Str).zip ws⟩ = pure ((["self", "value"] : List Str).zip (s :: (fun {α : Type} (ws : List α) => [(ws.drop 0).head?].filterMap id) ws)))
    (rl_Written : ∀ (zs : List V) (ws : List Value), ws.length = (["value"] : List Str).length → Vals zs ws → Vals ((fun {α : Type} (ws : List α) => [(ws.drop 0).head?].filterMap id) zs) ((fun {α : Type} (ws : List α) => [(ws.drop 0).head?].filterMap id) ws))
    (T_TooMany : OexC K (cl 11))
    (gm_TooMany : mg "TooMany" = some (.ref (cl 11)))
    {fi_TooMany : Addr} {fd_TooMany : FuncData} (iC_TooMany : PySem.W.findIn K (.ref (cl 11)) "__init__" = some (some (.ref fi_TooMany)))
    (tI_TooMany : PySem.W.typeIn K (.ref fi_TooMany) = some (.type "function"))
    (G_TooMany : FnG P w K mg base CX0 1 fi_TooMany fd_TooMany ["self", "limit"] (spIn K "limit"))
    (b_TooMany : ∀ us : List Value, us.length = (["self", "limit"] : List Str).length → bindArgs fd_TooMany ⟨us, []⟩ = pure ((["self", "limit"] : List Str).zip us))
    (bw_TooMany : ∀ (s : Value) (ws : List Value), ws.length = (["limit"] : List Str).length → bindArgs fd_TooMany ⟨[s], (["limit"] : List Str).zip ws⟩ = pure ((["self", "limit"] : List Str).zip (s :: (fun {α : Type} (ws : List α) => [(ws.drop 0).head?].filterMap id) ws)))
    (rl_TooMany : ∀ (zs : List V) (ws : List Value), ws.length = (["limit"] : List Str).length → Vals zs ws → Vals ((fun {α : Type} (ws : List α) => [(ws.drop 0).head?].filterMap id) zs) ((fun {α : Type} (ws : List α) => [(ws.drop 0).head?].filterMap id) ws))
    (T_BadText : OexC K (cl 13))
    (gm_BadText : mg "BadText" = some (.ref (cl 13)))
    {fi_BadText : Addr} {fd_BadText : FuncData} (iC_BadText : PySem.W.findIn K (.ref (cl 13)) "__init__" = some (some (.ref fi_BadText)))
    (tI_BadText : PySem.W.typeIn K (.ref fi_BadText) = some (.type "function"))
    (G_BadText : FnG P w K mg base CX0 1 fi_BadText fd_BadText ["self", "value"] (spIn K "value"))
    (b_BadText : ∀ us : List Value, us.length = (["self", "value"] : List Str).length → bindArgs fd_BadText ⟨us, []⟩ = pure ((["self", "value"] : List Str).zip us))
    (bw_BadText : ∀ (s : Value) (ws : List Value), ws.length = (["value"] : List Str).length → bindArgs fd_BadText ⟨[s], (["value"] : List Str).zip ws⟩ = pure ((["self", "value"] : List Str).zip (s :: (fun {α : Type} (ws : List α) => [(ws.drop 0).head?].filterMap id) ws)))
    (rl_BadText : ∀ (zs : List V) (ws : List Value), ws.length = (["value"] : List Str).length → Vals zs ws → Vals ((fun {α : Type} (ws : List α) => [(ws.drop 0).head?].filterMap id) zs) ((fun {α : Type} (ws : List α) => [(ws.drop 0).head?].filterMap id) ws))
    (T_BadLine : OexC K (cl 14))
    (gm_BadLine : mg "BadLine" = some (.ref (cl 14)))
    {fi_BadLine : Addr} {fd_BadLine : FuncData} (iC_BadLine : PySem.W.findIn K (.ref (cl 14)) "__init__" = some (some (.ref fi_BadLine)))
    (tI_BadLine : PySem.W.typeIn K (.ref fi_BadLine) = some (.type "function"))
    (G_BadLine : FnG P w K mg base CX0 1 fi_BadLine fd_BadLine ["self", "line"] (spIn K "line"))
    (b_BadLine : ∀ us : List Value, us.length = (["self", "line"] : List Str).length → bindArgs fd_BadLine ⟨us, []⟩ = pure ((["self", "line"] : List Str).zip us))
    (bw_BadLine : ∀ (s : Value) (ws : List Value), ws.length = (["line"] : List Str).length → bindArgs fd_BadLine ⟨[s], (["line"] : List Str).zip ws⟩ = pure ((["self", "line"] : List Str).zip (s :: (fun {α : Type} (ws : List α) => [(ws.drop 0).head?].filterMap id) ws)))
    (rl_BadLine : ∀ (zs : List V) (ws : List Value), ws.length = (["line"] : List Str).length → Vals zs ws → Vals ((fun {α : Type} (ws : List α) => [(ws.drop 0).head?].filterMap id) zs) ((fun {α : Type} (ws : List α) => [(ws.drop 0).head?].filterMap id) ws))
    (T_BadStamps : OexC K (cl 6))
    (gm_BadStamps : mg "BadStamps" = some (.ref (cl 6)))
    {fi_BadStamps : Addr} {fd_BadStamps : FuncData} (iC_BadStamps : PySem.W.findIn K (.ref (cl 6)) "__init__" = some (some (.ref fi_BadStamps)))
    (tI_BadStamps : PySem.W.typeIn K (.ref fi_BadStamps) = some (.type "function"))
    (G_BadStamps : FnG P w K mg base CX0 1 fi_BadStamps fd_BadStamps ["self", "begin", "end"] (spIn2 K "begin" "end"))
    (b_BadStamps : ∀ us : List Value, us.length = (["self", "begin", "end"] : List Str).length → bindArgs fd_BadStamps ⟨us, []⟩ = pure ((["self", "begin", "end"] : List Str).zip us))
    (bw_BadStamps : ∀ (s : Value) (ws : List Value), ws.length = (["end", "begin"] : List Str).length → bindArgs fd_BadStamps ⟨[s], (["end", "begin"] : List Str).zip ws⟩ = pure ((["self", "begin", "end"] : List Str).zip (s :: (fun {α : Type} (ws : List α) => [(ws.drop 1).head?, (ws.drop 0).head?].filterMap id) ws)))
    (rl_BadStamps : ∀ (zs : List V) (ws : List Value), ws.length = (["end", "begin"] : List Str).length → Vals zs ws → Vals ((fun {α : Type} (ws : List α) => [(ws.drop 1).head?, (ws.drop 0).head?].filterMap id) zs) ((fun {α : Type} (ws : List α) => [(ws.drop 1).head?, (ws.drop 0).head?].filterMap id) ws))
    (T_NothingToUndo : OexC K (cl 12))
    (gm_NothingToUndo : mg "NothingToUndo" = some (.ref (cl 12)))
    (iC_NothingToUndo : PySem.W.findIn K (.ref (cl 12)) "__init__" = some (some (.builtin "ValueError.__init__")))
    (c_CellError : ∃ u, mg "CellError" = some u ∧ RelV (V.ref (cl 0)) u)
    (n_repr : mg "repr" = none)
    (n_enumerate : mg "enumerate" = none)
    (n_range : mg "range" = none)
    (n_isinstance : mg "isinstance" = none)
    (n_ValueError : mg "ValueError" = none)
    (hS : ∃ o, base.get? sysModules = some o) :
    FnG P w K mg base CX0 4 f fd ["_law_pot_here"] (spRt K cl) :=
  fn_g F sc__law_right (fun vs H Q E h => spRt_arity h) (fun cdv A outer s H vs Q E hr gd0 h => ⟨t9__law_right cl K, PSs.nox (der__law_right g__law_odd g__law_any g__law_held g__law_marks T_NoIndex gm_NoIndex iC_NoIndex tI_NoIndex G_NoIndex b_NoIndex bw_NoIndex rl_NoIndex T_NoValue gm_NoValue iC_NoValue tI_NoValue G_NoValue b_NoValue bw_NoValue rl_NoValue T_Unexplained gm_Unexplained iC_Unexplained tI_Unexplained G_Unexplained b_Unexplained bw_Unexplained rl_Unexplained T_BadOrder gm_BadOrder iC_BadOrder tI_BadOrder G_BadOrder b_BadOrder bw_BadOrder rl_BadOrder T_NoPosition gm_NoPosition iC_NoPosition tI_NoPosition G_NoPosition b_NoPosition bw_NoPosition rl_NoPosition T_BadLog gm_BadLog iC_BadLog tI_BadLog G_BadLog b_BadLog bw_BadLog rl_BadLog T_BadTolerance gm_BadTolerance iC_BadTolerance tI_BadTolerance G_BadTolerance b_BadTolerance bw_BadTolerance rl_BadTolerance T_BadOperation gm_BadOperation iC_BadOperation tI_BadOperation G_BadOperation b_BadOperation bw_BadOperation rl_BadOperation T_Written gm_Written iC_Written tI_Written G_Written b_Written bw_Written rl_Written T_TooMany gm_TooMany iC_TooMany tI_TooMany G_TooMany b_TooMany bw_TooMany rl_TooMany T_BadText gm_BadText iC_BadText tI_BadText G_BadText b_BadText bw_BadText rl_BadText T_BadLine gm_BadLine iC_BadLine tI_BadLine G_BadLine b_BadLine bw_BadLine rl_BadLine T_BadStamps gm_BadStamps iC_BadStamps tI_BadStamps G_BadStamps b_BadStamps bw_BadStamps rl_BadStamps T_NothingToUndo gm_NothingToUndo iC_NothingToUndo c_CellError n_repr n_enumerate n_range n_isinstance n_ValueError hS hr gd0), pure9__law_right h⟩)

abbrev s_law : Stmt := topS 24
abbrev N_law : List Str := ["_law_script", "_law_k", "_law_pot_here", "_law_turn"]
theorem sc_law : FnScope N_law ["_law_script"] (defScope s_law) := ⟨rfl, rfl, rfl, by decide +kernel, rfl, by decide +kernel, by decide +kernel⟩

theorem der_law {cl : Nat → Addr} {f : Addr} {cdv : Value} {A : Around} {outer : List Env} {s : Shared} {H : Hp} {E : XK}
    (g__law_pot : CalG P w K mg base CX0 1 "_law_pot" (spPot K))
    (g__law_right : CalG P w K mg base CX0 4 "_law_right" (spRt K cl))
    (n_range : mg "range" = none)
    (n_max : mg "max" = none)
    (n_min : mg "min" = none)
    (n_all : mg "all" = none)
    (n_len : mg "len" = none)
    (hr : Room 4 (A.deeper (envOfC "law" (defScope s_law) s.heap.objs.size f cdv))) (gd : (A.deeper (envOfC "law" (defScope s_law) s.heap.objs.size f cdv)).guards = some []) :
    PSs (cxOf CX0 P w K mg base N_law "law" (defScope s_law) f cdv A outer s H E).nox (defBody s_law) (t9_law cl K) :=
  (pss_cons (ps_for PassesOwn.never rfl (pi_range1 (by rfl) n_range (pa_cons (pe_callB (call_max2 rfl) (by rfl) n_max (by decide +kernel) (pa_cons pe_int (pa_cons (pe_callB (call_min2 rfl) (by rfl) n_min (by decide +kernel) (pa_cons pe_int (pa_cons (pe_callB call_len (by rfl) n_len (by decide +kernel) (pa_cons (pv 0) pa_nil)) pa_nil))) pa_nil))) pa_nil)) (pg_name (i := 1) sc_law.nd rfl (by first | exact Or.inl rfl | exact Or.inr rfl))
      (pss_cons (ps_set (i := 2) sc_law.nd rfl (by first | exact Or.inl rfl | exact Or.inr rfl) (pe_g g__law_pot hr (by decide) gd pass0 (by rfl) (pa_cons (pv 0) (pa_cons (pv 1) pa_nil))))
      (pss_one (ps_if (pt_not (pt_val (pe_callB (cr_all rfl) (by rfl) n_all (by decide +kernel) (pa_cons (pe_lc (own := [("_law_turn", 3)]) (g := (gName 3)) (tt := tYes) rfl sc_law.nd (pi_range1 (by rfl) n_range (pa_cons pe_int pa_nil)) (blkOk_by (N := N_law) (sc := defScope s_law) (by decide +kernel)) (fun _ _ _ _ _ => (pg_name (i := 3) sc_law.nd rfl (by first | exact Or.inl rfl | exact Or.inr rfl))) (fun _ _ _ _ _ => pts_nil) (fun _ _ _ _ _ => (pe_g g__law_right hr (by decide) gd pass0 (by rfl) (pa_cons (pv 2) pa_nil)))) pa_nil))))
      (pss_one (ps_ret pe_bl)) pss_nil))))
      (pss_one (ps_ret pe_bl)))

theorem ok_law {cl : Nat → Addr} {f : Addr} {fd : FuncData} (F : Fun K "law" "law" s_law f fd)
    (T : Cls K cl) (g__law_pot : CalG P w K mg base CX0 1 "_law_pot" (spPot K))
    (g__law_right : CalG P w K mg base CX0 4 "_law_right" (spRt K cl))
    (n_range : mg "range" = none)
    (n_max : mg "max" = none)
    (n_min : mg "min" = none)
    (n_all : mg "all" = none)
    (n_len : mg "len" = none) :
    FnG P w K mg base CX0 5 f fd ["_law_script"] (spLaw K) :=
  fn_g F sc_law (fun vs H Q E h => spLaw_arity h) (fun cdv A outer s H vs Q E hr gd0 h => ⟨t9_law cl K, PSs.nox (der_law g__law_pot g__law_right n_range n_max n_min n_all n_len hr gd0), pure9_law T h⟩)

end
theorem kit_mk {K : PySem.W.Frag} {C D : Addr} {b : Bool} (hd : PySem.W.hasDictIn K D = true) (ty : PySem.W.typeIn K (.ref D) = some (.type "type")) (s : PySem.W.subIn K (.ref C) (.ref D) = some b) (self : PySem.W.subIn K (.ref C) (.ref C) = some true) :
    PySem.W.kitOne K (.ref C) (.ref D) = some b := by
  unfold PySem.W.kitOne
  by_cases h : (Value.ref C == Value.ref D) = true
  · rw [if_pos h]
    have e := Value.ref.inj (beq_iff_eq.mp h)
    subst e
    rw [self] at s
    exact s
  · rw [if_neg h]
    have cd : (PySem.W.clsIn K D).isSome = true := by
      obtain ⟨cd, hc, _⟩ := PySem.W.any_some hd
      rw [hc]
      rfl
    have c : ((PySem.W.clsIn K D).isSome && PySem.W.typeIn K (.ref D) == some (.type "type")) = true := by rw [cd, ty]; rfl
    show (if ((PySem.W.clsIn K D).isSome && PySem.W.typeIn K (.ref D) == some (.type "type")) = true then PySem.W.subIn K (.ref C) (.ref D) else none) = some b
    rw [if_pos c]
    exact s
theorem kit_ve {K : PySem.W.Frag} {C : Addr} (s : PySem.W.subIn K (.ref C) (.type "ValueError") = some true) : PySem.W.kitOne K (.ref C) (.type "ValueError") = some true := by
  unfold PySem.W.kitOne
  have n : (Value.ref C == Value.type "ValueError") = false := rfl
  rw [n, if_neg Bool.false_ne_true]
  have m : PySem.W.kitMeta "ValueError" = true := by decide +kernel
  show (if PySem.W.kitMeta "ValueError" = true then PySem.W.subIn K (.ref C) (.type "ValueError") else none) = some true
  rw [if_pos m]
  exact s
theorem all_mk {P : Program} {w : World} {K : PySem.W.Frag} {h : Heap} {mg : Str → Option Value} {fa : Addr} (X : K.In h) (Gg : h.Ns mainGlobals mg) (hfa : mg "law" = some (.ref fa))
    {f0 : Addr} {od0 an0 : Option Addr} {sl0 : Array (Option Value)} {oc0 kV0 dc0 pm0 cd0 ct0 : Value}
    (a0 : PySem.W.nsIn K mainGlobals "_law_draw" = some (some (.ref f0)))
    (l0 : K.lookup f0 = some ⟨oc0, od0, .func (PySem.W.fnOf "_law_draw" "_law_draw" (defArgs s__law_draw) (defBody s__law_draw) (defScope s__law_draw) .none kV0 dc0 pm0 an0 cd0 ct0), sl0⟩)
    (c0 : PySem.W.codeIn K cd0 "_law_draw" = true)
    (k0 : PySem.W.keepIn K (.ref f0) = true)
    {f1 : Addr} {od1 an1 : Option Addr} {sl1 : Array (Option Value)} {oc1 kV1 dc1 pm1 cd1 ct1 : Value}
    (a1 : PySem.W.nsIn K mainGlobals "_law_pot" = some (some (.ref f1)))
    (l1 : K.lookup f1 = some ⟨oc1, od1, .func (PySem.W.fnOf "_law_pot" "_law_pot" (defArgs s__law_pot) (defBody s__law_pot) (defScope s__law_pot) .none kV1 dc1 pm1 an1 cd1 ct1), sl1⟩)
    (c1 : PySem.W.codeIn K cd1 "_law_pot" = true)
    (k1 : PySem.W.keepIn K (.ref f1) = true)
    {f2 : Addr} {od2 an2 : Option Addr} {sl2 : Array (Option Value)} {oc2 kV2 dc2 pm2 cd2 ct2 : Value}
    (a2 : PySem.W.nsIn K mainGlobals "_law_any" = some (some (.ref f2)))
    (l2 : K.lookup f2 = some ⟨oc2, od2, .func (PySem.W.fnOf "_law_any" "_law_any" (defArgs s__law_any) (defBody s__law_any) (defScope s__law_any) .none kV2 dc2 pm2 an2 cd2 ct2), sl2⟩)
    (c2 : PySem.W.codeIn K cd2 "_law_any" = true)
    (k2 : PySem.W.keepIn K (.ref f2) = true)
    {f3 : Addr} {od3 an3 : Option Addr} {sl3 : Array (Option Value)} {oc3 kV3 dc3 pm3 cd3 ct3 : Value}
    (a3 : PySem.W.nsIn K mainGlobals "_law_odd" = some (some (.ref f3)))
    (l3 : K.lookup f3 = some ⟨oc3, od3, .func (PySem.W.fnOf "_law_odd" "_law_odd" (defArgs s__law_odd) (defBody s__law_odd) (defScope s__law_odd) .none kV3 dc3 pm3 an3 cd3 ct3), sl3⟩)
    (c3 : PySem.W.codeIn K cd3 "_law_odd" = true)
    (k3 : PySem.W.keepIn K (.ref f3) = true)
    {f4 : Addr} {od4 an4 : Option Addr} {sl4 : Array (Option Value)} {oc4 kV4 dc4 pm4 cd4 ct4 : Value}
    (a4 : PySem.W.nsIn K mainGlobals "_law_marks" = some (some (.ref f4)))
    (l4 : K.lookup f4 = some ⟨oc4, od4, .func (PySem.W.fnOf "_law_marks" "_law_marks" (defArgs s__law_marks) (defBody s__law_marks) (defScope s__law_marks) .none kV4 dc4 pm4 an4 cd4 ct4), sl4⟩)
    (c4 : PySem.W.codeIn K cd4 "_law_marks" = true)
    (k4 : PySem.W.keepIn K (.ref f4) = true)
    {f5 : Addr} {od5 an5 : Option Addr} {sl5 : Array (Option Value)} {oc5 kV5 dc5 pm5 cd5 ct5 : Value}
    (a5 : PySem.W.nsIn K mainGlobals "_law_held" = some (some (.ref f5)))
    (l5 : K.lookup f5 = some ⟨oc5, od5, .func (PySem.W.fnOf "_law_held" "_law_held" (defArgs s__law_held) (defBody s__law_held) (defScope s__law_held) .none kV5 dc5 pm5 an5 cd5 ct5), sl5⟩)
    (c5 : PySem.W.codeIn K cd5 "_law_held" = true)
    (k5 : PySem.W.keepIn K (.ref f5) = true)
    {f6 : Addr} {od6 an6 : Option Addr} {sl6 : Array (Option Value)} {oc6 kV6 dc6 pm6 cd6 ct6 : Value}
    (a6 : PySem.W.nsIn K mainGlobals "_law_right" = some (some (.ref f6)))
    (l6 : K.lookup f6 = some ⟨oc6, od6, .func (PySem.W.fnOf "_law_right" "_law_right" (defArgs s__law_right) (defBody s__law_right) (defScope s__law_right) .none kV6 dc6 pm6 an6 cd6 ct6), sl6⟩)
    (c6 : PySem.W.codeIn K cd6 "_law_right" = true)
    (k6 : PySem.W.keepIn K (.ref f6) = true)
    {f7 : Addr} {od7 an7 : Option Addr} {sl7 : Array (Option Value)} {oc7 kV7 dc7 pm7 cd7 ct7 : Value}
    (a7 : PySem.W.nsIn K mainGlobals "law" = some (some (.ref f7)))
    (l7 : K.lookup f7 = some ⟨oc7, od7, .func (PySem.W.fnOf "law" "law" (defArgs s_law) (defBody s_law) (defScope s_law) .none kV7 dc7 pm7 an7 cd7 ct7), sl7⟩)
    (c7 : PySem.W.codeIn K cd7 "law" = true)
    (k7 : PySem.W.keepIn K (.ref f7) = true)
    (z_len : PySem.W.nsIn K mainGlobals "len" = some none)
    (z_int : PySem.W.nsIn K mainGlobals "int" = some none)
    (z_abs : PySem.W.nsIn K mainGlobals "abs" = some none)
    (z_isinstance : PySem.W.nsIn K mainGlobals "isinstance" = some none)
    (z_tuple : PySem.W.nsIn K mainGlobals "tuple" = some none)
    (z_str : PySem.W.nsIn K mainGlobals "str" = some none)
    (z_list : PySem.W.nsIn K mainGlobals "list" = some none)
    (z_repr : PySem.W.nsIn K mainGlobals "repr" = some none)
    (z_enumerate : PySem.W.nsIn K mainGlobals "enumerate" = some none)
    (z_range : PySem.W.nsIn K mainGlobals "range" = some none)
    (z_ValueError : PySem.W.nsIn K mainGlobals "ValueError" = some none)
    (z_max : PySem.W.nsIn K mainGlobals "max" = some none)
    (z_min : PySem.W.nsIn K mainGlobals "min" = some none)
    (z_all : PySem.W.nsIn K mainGlobals "all" = some none)
    {C0 C1 C2 C3 C4 C5 C6 C7 C8 C9 C10 C11 C12 C13 C14 : Addr}
    (aC0 : PySem.W.nsIn K mainGlobals "CellError" = some (some (.ref C0)))
    (aC1 : PySem.W.nsIn K mainGlobals "NoIndex" = some (some (.ref C1)))
    (aC2 : PySem.W.nsIn K mainGlobals "NoValue" = some (some (.ref C2)))
    (aC3 : PySem.W.nsIn K mainGlobals "Unexplained" = some (some (.ref C3)))
    (aC4 : PySem.W.nsIn K mainGlobals "BadOrder" = some (some (.ref C4)))
    (aC5 : PySem.W.nsIn K mainGlobals "NoPosition" = some (some (.ref C5)))
    (aC6 : PySem.W.nsIn K mainGlobals "BadStamps" = some (some (.ref C6)))
    (aC7 : PySem.W.nsIn K mainGlobals "BadLog" = some (some (.ref C7)))
    (aC8 : PySem.W.nsIn K mainGlobals "BadTolerance" = some (some (.ref C8)))
    (aC9 : PySem.W.nsIn K mainGlobals "BadOperation" = some (some (.ref C9)))
    (aC10 : PySem.W.nsIn K mainGlobals "Written" = some (some (.ref C10)))
    (aC11 : PySem.W.nsIn K mainGlobals "TooMany" = some (some (.ref C11)))
    (aC12 : PySem.W.nsIn K mainGlobals "NothingToUndo" = some (some (.ref C12)))
    (aC13 : PySem.W.nsIn K mainGlobals "BadText" = some (some (.ref C13)))
    (aC14 : PySem.W.nsIn K mainGlobals "BadLine" = some (some (.ref C14)))
    (tC0 : PySem.W.typeIn K (.ref C0) = some (.type "type"))
    (hd0 : PySem.W.hasDictIn K C0 = true)
    {nm1 q1 : Str} {N1 : Addr} {bs1 bm1 sub1 : List Value} {sn1 : List Str} {ab1 : Bool} {col1 : Option Bool} {dd1 : Option Addr} {ka1 kb1 kc1 kd1 ke1 : Option Value}
    (xL1 : K.lookup C1 = some (excClassObj nm1 q1 C1 N1 bs1 bm1 true sn1 sub1 ab1 col1 dd1 ka1 kb1 kc1 kd1 ke1 "ValueError.__new__"))
    (xB1 : PySem.HandSPX.refsVE bm1 = true)
    (sa1 : PySem.W.findIn K (.ref C1) "__setattr__" = some (some (.builtin "object.__setattr__")))
    (tC1 : PySem.W.typeIn K (.ref C1) = some (.type "type"))
    (kC1 : PySem.W.keepIn K (.ref C1) = true)
    (ga1 : PySem.W.findIn K (.ref C1) "__getattribute__" = some (some (.builtin "BaseException.__getattribute__")))
    (gg1 : PySem.W.findIn K (.ref C1) "__getattr__" = some none)
    (eC1 : PySem.W.subIn K (.ref C1) (.type "BaseException") = some true)
    (hd1 : PySem.W.hasDictIn K C1 = true)
    (ha1 : PySem.W.findIn K (.ref C1) "__class__" = some (some (.builtin "object.__class__")))
    (hm1 : PySem.W.mroIn K C1 (.type "object") = some true)
    (sb_1 : PySem.W.subIn K (.ref C1) (.ref C0) = some true)
    (sv_1 : PySem.W.subIn K (.ref C1) (.type "ValueError") = some true)
    (su_1_1 : PySem.W.subIn K (.ref C1) (.ref C1) = some true)
    (su_1_2 : PySem.W.subIn K (.ref C1) (.ref C2) = some false)
    (su_1_3 : PySem.W.subIn K (.ref C1) (.ref C3) = some false)
    (su_1_4 : PySem.W.subIn K (.ref C1) (.ref C4) = some false)
    (su_1_5 : PySem.W.subIn K (.ref C1) (.ref C5) = some false)
    (su_1_6 : PySem.W.subIn K (.ref C1) (.ref C6) = some false)
    (su_1_7 : PySem.W.subIn K (.ref C1) (.ref C7) = some false)
    (su_1_8 : PySem.W.subIn K (.ref C1) (.ref C8) = some false)
    (su_1_9 : PySem.W.subIn K (.ref C1) (.ref C9) = some false)
    (su_1_10 : PySem.W.subIn K (.ref C1) (.ref C10) = some false)
    (su_1_11 : PySem.W.subIn K (.ref C1) (.ref C11) = some false)
    (su_1_12 : PySem.W.subIn K (.ref C1) (.ref C12) = some false)
    (su_1_13 : PySem.W.subIn K (.ref C1) (.ref C13) = some false)
    (su_1_14 : PySem.W.subIn K (.ref C1) (.ref C14) = some false)
    {fi1 : Addr} {iod1 ian1 : Option Addr} {isl1 : Array (Option Value)} {ioc1 ikV1 idc1 ipm1 icd1 ict1 : Value}
    (iC1 : PySem.W.findIn K (.ref C1) "__init__" = some (some (.ref fi1)))
    (iT1 : PySem.W.typeIn K (.ref fi1) = some (.type "function"))
    (iL1 : K.lookup fi1 = some ⟨ioc1, iod1, .func (PySem.W.fnOf "__init__" "NoIndex.__init__" (defArgs s_init_NoIndex) (defBody s_init_NoIndex) (defScope s_init_NoIndex) .none ikV1 idc1 ipm1 ian1 icd1 ict1), isl1⟩)
    (iD1 : PySem.W.codeIn K icd1 "NoIndex.__init__" = true)
    (iK1 : PySem.W.keepIn K (.ref fi1) = true)
    {nm2 q2 : Str} {N2 : Addr} {bs2 bm2 sub2 : List Value} {sn2 : List Str} {ab2 : Bool} {col2 : Option Bool} {dd2 : Option Addr} {ka2 kb2 kc2 kd2 ke2 : Option Value}
    (xL2 : K.lookup C2 = some (excClassObj nm2 q2 C2 N2 bs2 bm2 true sn2 sub2 ab2 col2 dd2 ka2 kb2 kc2 kd2 ke2 "ValueError.__new__"))
    (xB2 : PySem.HandSPX.refsVE bm2 = true)
    (sa2 : PySem.W.findIn K (.ref C2) "__setattr__" = some (some (.builtin "object.__setattr__")))
    (tC2 : PySem.W.typeIn K (.ref C2) = some (.type "type"))
    (kC2 : PySem.W.keepIn K (.ref C2) = true)
    (ga2 : PySem.W.findIn K (.ref C2) "__getattribute__" = some (some (.builtin "BaseException.__getattribute__")))
    (gg2 : PySem.W.findIn K (.ref C2) "__getattr__" = some none)
    (eC2 : PySem.W.subIn K (.ref C2) (.type "BaseException") = some true)
    (hd2 : PySem.W.hasDictIn K C2 = true)
    (ha2 : PySem.W.findIn K (.ref C2) "__class__" = some (some (.builtin "object.__class__")))
    (hm2 : PySem.W.mroIn K C2 (.type "object") = some true)
    (sb_2 : PySem.W.subIn K (.ref C2) (.ref C0) = some true)
    (sv_2 : PySem.W.subIn K (.ref C2) (.type "ValueError") = some true)
    (su_2_1 : PySem.W.subIn K (.ref C2) (.ref C1) = some false)
    (su_2_2 : PySem.W.subIn K (.ref C2) (.ref C2) = some true)
    (su_2_3 : PySem.W.subIn K (.ref C2) (.ref C3) = some false)
    (su_2_4 : PySem.W.subIn K (.ref C2) (.ref C4) = some false)
    (su_2_5 : PySem.W.subIn K (.ref C2) (.ref C5) = some false)
    (su_2_6 : PySem.W.subIn K (.ref C2) (.ref C6) = some false)
    (su_2_7 : PySem.W.subIn K (.ref C2) (.ref C7) = some false)
    (su_2_8 : PySem.W.subIn K (.ref C2) (.ref C8) = some false)
    (su_2_9 : PySem.W.subIn K (.ref C2) (.ref C9) = some false)
    (su_2_10 : PySem.W.subIn K (.ref C2) (.ref C10) = some false)
    (su_2_11 : PySem.W.subIn K (.ref C2) (.ref C11) = some false)
    (su_2_12 : PySem.W.subIn K (.ref C2) (.ref C12) = some false)
    (su_2_13 : PySem.W.subIn K (.ref C2) (.ref C13) = some false)
    (su_2_14 : PySem.W.subIn K (.ref C2) (.ref C14) = some false)
    {fi2 : Addr} {iod2 ian2 : Option Addr} {isl2 : Array (Option Value)} {ioc2 ikV2 idc2 ipm2 icd2 ict2 : Value}
    (iC2 : PySem.W.findIn K (.ref C2) "__init__" = some (some (.ref fi2)))
    (iT2 : PySem.W.typeIn K (.ref fi2) = some (.type "function"))
    (iL2 : K.lookup fi2 = some ⟨ioc2, iod2, .func (PySem.W.fnOf "__init__" "NoValue.__init__" (defArgs s_init_NoValue) (defBody s_init_NoValue) (defScope s_init_NoValue) .none ikV2 idc2 ipm2 ian2 icd2 ict2), isl2⟩)
    (iD2 : PySem.W.codeIn K icd2 "NoValue.__init__" = true)
    (iK2 : PySem.W.keepIn K (.ref fi2) = true)
    {nm3 q3 : Str} {N3 : Addr} {bs3 bm3 sub3 : List Value} {sn3 : List Str} {ab3 : Bool} {col3 : Option Bool} {dd3 : Option Addr} {ka3 kb3 kc3 kd3 ke3 : Option Value}
    (xL3 : K.lookup C3 = some (excClassObj nm3 q3 C3 N3 bs3 bm3 true sn3 sub3 ab3 col3 dd3 ka3 kb3 kc3 kd3 ke3 "ValueError.__new__"))
    (xB3 : PySem.HandSPX.refsVE bm3 = true)
    (sa3 : PySem.W.findIn K (.ref C3) "__setattr__" = some (some (.builtin "object.__setattr__")))
    (tC3 : PySem.W.typeIn K (.ref C3) = some (.type "type"))
    (kC3 : PySem.W.keepIn K (.ref C3) = true)
    (ga3 : PySem.W.findIn K (.ref C3) "__getattribute__" = some (some (.builtin "BaseException.__getattribute__")))
    (gg3 : PySem.W.findIn K (.ref C3) "__getattr__" = some none)
    (eC3 : PySem.W.subIn K (.ref C3) (.type "BaseException") = some true)
    (hd3 : PySem.W.hasDictIn K C3 = true)
    (ha3 : PySem.W.findIn K (.ref C3) "__class__" = some (some (.builtin "object.__class__")))
    (hm3 : PySem.W.mroIn K C3 (.type "object") = some true)
    (sb_3 : PySem.W.subIn K (.ref C3) (.ref C0) = some true)
    (sv_3 : PySem.W.subIn K (.ref C3) (.type "ValueError") = some true)
    (su_3_1 : PySem.W.subIn K (.ref C3) (.ref C1) = some false)
    (su_3_2 : PySem.W.subIn K (.ref C3) (.ref C2) = some false)
    (su_3_3 : PySem.W.subIn K (.ref C3) (.ref C3) = some true)
    (su_3_4 : PySem.W.subIn K (.ref C3) (.ref C4) = some false)
    (su_3_5 : PySem.W.subIn K (.ref C3) (.ref C5) = some false)
    (su_3_6 : PySem.W.subIn K (.ref C3) (.ref C6) = some false)
    (su_3_7 : PySem.W.subIn K (.ref C3) (.ref C7) = some false)
    (su_3_8 : PySem.W.subIn K (.ref C3) (.ref C8) = some false)
    (su_3_9 : PySem.W.subIn K (.ref C3) (.ref C9) = some false)
    (su_3_10 : PySem.W.subIn K (.ref C3) (.ref C10) = some false)
    (su_3_11 : PySem.W.subIn K (.ref C3) (.ref C11) = some false)
    (su_3_12 : PySem.W.subIn K (.ref C3) (.ref C12) = some false)
    (su_3_13 : PySem.W.subIn K (.ref C3) (.ref C13) = some false)
    (su_3_14 : PySem.W.subIn K (.ref C3) (.ref C14) = some false)
    {fi3 : Addr} {iod3 ian3 : Option Addr} {isl3 : Array (Option Value)} {ioc3 ikV3 idc3 ipm3 icd3 ict3 : Value}
    (iC3 : PySem.W.findIn K (.ref C3) "__init__" = some (some (.ref fi3)))
    (iT3 : PySem.W.typeIn K (.ref fi3) = some (.type "function"))
    (iL3 : K.lookup fi3 = some ⟨ioc3, iod3, .func (PySem.W.fnOf "__init__" "Unexplained.__init__" (defArgs s_init_Unexplained) (defBody s_init_Unexplained) (defScope s_init_Unexplained) .none ikV3 idc3 ipm3 ian3 icd3 ict3), isl3⟩)
    (iD3 : PySem.W.codeIn K icd3 "Unexplained.__init__" = true)
    (iK3 : PySem.W.keepIn K (.ref fi3) = true)
    {nm4 q4 : Str} {N4 : Addr} {bs4 bm4 sub4 : List Value} {sn4 : List Str} {ab4 : Bool} {col4 : Option Bool} {dd4 : Option Addr} {ka4 kb4 kc4 kd4 ke4 : Option Value}
    (xL4 : K.lookup C4 = some (excClassObj nm4 q4 C4 N4 bs4 bm4 true sn4 sub4 ab4 col4 dd4 ka4 kb4 kc4 kd4 ke4 "ValueError.__new__"))
    (xB4 : PySem.HandSPX.refsVE bm4 = true)
    (sa4 : PySem.W.findIn K (.ref C4) "__setattr__" = some (some (.builtin "object.__setattr__")))
    (tC4 : PySem.W.typeIn K (.ref C4) = some (.type "type"))
    (kC4 : PySem.W.keepIn K (.ref C4) = true)
    (ga4 : PySem.W.findIn K (.ref C4) "__getattribute__" = some (some (.builtin "BaseException.__getattribute__")))
    (gg4 : PySem.W.findIn K (.ref C4) "__getattr__" = some none)
    (eC4 : PySem.W.subIn K (.ref C4) (.type "BaseException") = some true)
    (hd4 : PySem.W.hasDictIn K C4 = true)
    (ha4 : PySem.W.findIn K (.ref C4) "__class__" = some (some (.builtin "object.__class__")))
    (hm4 : PySem.W.mroIn K C4 (.type "object") = some true)
    (sb_4 : PySem.W.subIn K (.ref C4) (.ref C0) = some true)
    (sv_4 : PySem.W.subIn K (.ref C4) (.type "ValueError") = some true)
    (su_4_1 : PySem.W.subIn K (.ref C4) (.ref C1) = some false)
    (su_4_2 : PySem.W.subIn K (.ref C4) (.ref C2) = some false)
    (su_4_3 : PySem.W.subIn K (.ref C4) (.ref C3) = some false)
    (su_4_4 : PySem.W.subIn K (.ref C4) (.ref C4) = some true)
    (su_4_5 : PySem.W.subIn K (.ref C4) (.ref C5) = some false)
    (su_4_6 : PySem.W.subIn K (.ref C4) (.ref C6) = some false)
    (su_4_7 : PySem.W.subIn K (.ref C4) (.ref C7) = some false)
    (su_4_8 : PySem.W.subIn K (.ref C4) (.ref C8) = some false)
    (su_4_9 : PySem.W.subIn K (.ref C4) (.ref C9) = some false)
    (su_4_10 : PySem.W.subIn K (.ref C4) (.ref C10) = some false)
    (su_4_11 : PySem.W.subIn K (.ref C4) (.ref C11) = some false)
    (su_4_12 : PySem.W.subIn K (.ref C4) (.ref C12) = some false)
    (su_4_13 : PySem.W.subIn K (.ref C4) (.ref C13) = some false)
    (su_4_14 : PySem.W.subIn K (.ref C4) (.ref C14) = some false)
    {fi4 : Addr} {iod4 ian4 : Option Addr} {isl4 : Array (Option Value)} {ioc4 ikV4 idc4 ipm4 icd4 ict4 : Value}
    (iC4 : PySem.W.findIn K (.ref C4) "__init__" = some (some (.ref fi4)))
    (iT4 : PySem.W.typeIn K (.ref fi4) = some (.type "function"))
    (iL4 : K.lookup fi4 = some ⟨ioc4, iod4, .func (PySem.W.fnOf "__init__" "BadOrder.__init__" (defArgs s_init_BadOrder) (defBody s_init_BadOrder) (defScope s_init_BadOrder) .none ikV4 idc4 ipm4 ian4 icd4 ict4), isl4⟩)
    (iD4 : PySem.W.codeIn K icd4 "BadOrder.__init__" = true)
    (iK4 : PySem.W.keepIn K (.ref fi4) = true)
    {nm5 q5 : Str} {N5 : Addr} {bs5 bm5 sub5 : List Value} {sn5 : List Str} {ab5 : Bool} {col5 : Option Bool} {dd5 : Option Addr} {ka5 kb5 kc5 kd5 ke5 : Option Value}
    (xL5 : K.lookup C5 = some (excClassObj nm5 q5 C5 N5 bs5 bm5 true sn5 sub5 ab5 col5 dd5 ka5 kb5 kc5 kd5 ke5 "ValueError.__new__"))
    (xB5 : PySem.HandSPX.refsVE bm5 = true)
    (sa5 : PySem.W.findIn K (.ref C5) "__setattr__" = some (some (.builtin "object.__setattr__")))
    (tC5 : PySem.W.typeIn K (.ref C5) = some (.type "type"))
    (kC5 : PySem.W.keepIn K (.ref C5) = true)
    (ga5 : PySem.W.findIn K (.ref C5) "__getattribute__" = some (some (.builtin "BaseException.__getattribute__")))
    (gg5 : PySem.W.findIn K (.ref C5) "__getattr__" = some none)
    (eC5 : PySem.W.subIn K (.ref C5) (.type "BaseException") = some true)
    (hd5 : PySem.W.hasDictIn K C5 = true)
    (ha5 : PySem.W.findIn K (.ref C5) "__class__" = some (some (.builtin "object.__class__")))
    (hm5 : PySem.W.mroIn K C5 (.type "object") = some true)
    (sb_5 : PySem.W.subIn K (.ref C5) (.ref C0) = some true)
    (sv_5 : PySem.W.subIn K (.ref C5) (.type "ValueError") = some true)
    (su_5_1 : PySem.W.subIn K (.ref C5) (.ref C1) = some false)
    (su_5_2 : PySem.W.subIn K (.ref C5) (.ref C2) = some false)
    (su_5_3 : PySem.W.subIn K (.ref C5) (.ref C3) = some false)
    (su_5_4 : PySem.W.subIn K (.ref C5) (.ref C4) = some false)
    (su_5_5 : PySem.W.subIn K (.ref C5) (.ref C5) = some true)
    (su_5_6 : PySem.W.subIn K (.ref C5) (.ref C6) = some false)
    (su_5_7 : PySem.W.subIn K (.ref C5) (.ref C7) = some false)
    (su_5_8 : PySem.W.subIn K (.ref C5) (.ref C8) = some false)
    (su_5_9 : PySem.W.subIn K (.ref C5) (.ref C9) = some false)
    (su_5_10 : PySem.W.subIn K (.ref C5) (.ref C10) = some false)
    (su_5_11 : PySem.W.subIn K (.ref C5) (.ref C11) = some false)
    (su_5_12 : PySem.W.subIn K (.ref C5) (.ref C12) = some false)
    (su_5_13 : PySem.W.subIn K (.ref C5) (.ref C13) = some false)
    (su_5_14 : PySem.W.subIn K (.ref C5) (.ref C14) = some false)
    {fi5 : Addr} {iod5 ian5 : Option Addr} {isl5 : Array (Option Value)} {ioc5 ikV5 idc5 ipm5 icd5 ict5 : Value}
    (iC5 : PySem.W.findIn K (.ref C5) "__init__" = some (some (.ref fi5)))
    (iT5 : PySem.W.typeIn K (.ref fi5) = some (.type "function"))
    (iL5 : K.lookup fi5 = some ⟨ioc5, iod5, .func (PySem.W.fnOf "__init__" "NoPosition.__init__" (defArgs s_init_NoPosition) (defBody s_init_NoPosition) (defScope s_init_NoPosition) .none ikV5 idc5 ipm5 ian5 icd5 ict5), isl5⟩)
    (iD5 : PySem.W.codeIn K icd5 "NoPosition.__init__" = true)
    (iK5 : PySem.W.keepIn K (.ref fi5) = true)
    {nm6 q6 : Str} {N6 : Addr} {bs6 bm6 sub6 : List Value} {sn6 : List Str} {ab6 : Bool} {col6 : Option Bool} {dd6 : Option Addr} {ka6 kb6 kc6 kd6 ke6 : Option Value}
    (xL6 : K.lookup C6 = some (excClassObj nm6 q6 C6 N6 bs6 bm6 true sn6 sub6 ab6 col6 dd6 ka6 kb6 kc6 kd6 ke6 "ValueError.__new__"))
    (xB6 : PySem.HandSPX.refsVE bm6 = true)
    (sa6 : PySem.W.findIn K (.ref C6) "__setattr__" = some (some (.builtin "object.__setattr__")))
    (tC6 : PySem.W.typeIn K (.ref C6) = some (.type "type"))
    (kC6 : PySem.W.keepIn K (.ref C6) = true)
    (ga6 : PySem.W.findIn K (.ref C6) "__getattribute__" = some (some (.builtin "BaseException.__getattribute__")))
    (gg6 : PySem.W.findIn K (.ref C6) "__getattr__" = some none)
    (eC6 : PySem.W.subIn K (.ref C6) (.type "BaseException") = some true)
    (hd6 : PySem.W.hasDictIn K C6 = true)
    (ha6 : PySem.W.findIn K (.ref C6) "__class__" = some (some (.builtin "object.__class__")))
    (hm6 : PySem.W.mroIn K C6 (.type "object") = some true)
    (sb_6 : PySem.W.subIn K (.ref C6) (.ref C0) = some true)
    (sv_6 : PySem.W.subIn K (.ref C6) (.type "ValueError") = some true)
    (su_6_1 : PySem.W.subIn K (.ref C6) (.ref C1) = some false)
    (su_6_2 : PySem.W.subIn K (.ref C6) (.ref C2) = some false)
    (su_6_3 : PySem.W.subIn K (.ref C6) (.ref C3) = some false)
    (su_6_4 : PySem.W.subIn K (.ref C6) (.ref C4) = some false)
    (su_6_5 : PySem.W.subIn K (.ref C6) (.ref C5) = some false)
    (su_6_6 : PySem.W.subIn K (.ref C6) (.ref C6) = some true)
    (su_6_7 : PySem.W.subIn K (.ref C6) (.ref C7) = some false)
    (su_6_8 : PySem.W.subIn K (.ref C6) (.ref C8) = some false)
    (su_6_9 : PySem.W.subIn K (.ref C6) (.ref C9) = some false)
    (su_6_10 : PySem.W.subIn K (.ref C6) (.ref C10) = some false)
    (su_6_11 : PySem.W.subIn K (.ref C6) (.ref C11) = some false)
    (su_6_12 : PySem.W.subIn K (.ref C6) (.ref C12) = some false)
    (su_6_13 : PySem.W.subIn K (.ref C6) (.ref C13) = some false)
    (su_6_14 : PySem.W.subIn K (.ref C6) (.ref C14) = some false)
    {fi6 : Addr} {iod6 ian6 : Option Addr} {isl6 : Array (Option Value)} {ioc6 ikV6 idc6 ipm6 icd6 ict6 : Value}
    (iC6 : PySem.W.findIn K (.ref C6) "__init__" = some (some (.ref fi6)))
    (iT6 : PySem.W.typeIn K (.ref fi6) = some (.type "function"))
    (iL6 : K.lookup fi6 = some ⟨ioc6, iod6, .func (PySem.W.fnOf "__init__" "BadStamps.__init__" (defArgs s_init_BadStamps) (defBody s_init_BadStamps) (defScope s_init_BadStamps) .none ikV6 idc6 ipm6 ian6 icd6 ict6), isl6⟩)
    (iD6 : PySem.W.codeIn K icd6 "BadStamps.__init__" = true)
    (iK6 : PySem.W.keepIn K (.ref fi6) = true)
    {nm7 q7 : Str} {N7 : Addr} {bs7 bm7 sub7 : List Value} {sn7 : List Str} {ab7 : Bool} {col7 : Option Bool} {dd7 : Option Addr} {ka7 kb7 kc7 kd7 ke7 : Option Value}
    (xL7 : K.lookup C7 = some (excClassObj nm7 q7 C7 N7 bs7 bm7 true sn7 sub7 ab7 col7 dd7 ka7 kb7 kc7 kd7 ke7 "ValueError.__new__"))
    (xB7 : PySem.HandSPX.refsVE bm7 = true)
    (sa7 : PySem.W.findIn K (.ref C7) "__setattr__" = some (some (.builtin "object.__setattr__")))
    (tC7 : PySem.W.typeIn K (.ref C7) = some (.type "type"))
    (kC7 : PySem.W.keepIn K (.ref C7) = true)
    (ga7 : PySem.W.findIn K (.ref C7) "__getattribute__" = some (some (.builtin "BaseException.__getattribute__")))
    (gg7 : PySem.W.findIn K (.ref C7) "__getattr__" = some none)
    (eC7 : PySem.W.subIn K (.ref C7) (.type "BaseException") = some true)
    (hd7 : PySem.W.hasDictIn K C7 = true)
    (ha7 : PySem.W.findIn K (.ref C7) "__class__" = some (some (.builtin "object.__class__")))
    (hm7 : PySem.W.mroIn K C7 (.type "object") = some true)
    (sb_7 : PySem.W.subIn K (.ref C7) (.ref C0) = some true)
    (sv_7 : PySem.W.subIn K (.ref C7) (.type "ValueError") = some true)
    (su_7_1 : PySem.W.subIn K (.ref C7) (.ref C1) = some false)
    (su_7_2 : PySem.W.subIn K (.ref C7) (.ref C2) = some false)
    (su_7_3 : PySem.W.subIn K (.ref C7) (.ref C3) = some false)
    (su_7_4 : PySem.W.subIn K (.ref C7) (.ref C4) = some false)
    (su_7_5 : PySem.W.subIn K (.ref C7) (.ref C5) = some false)
    (su_7_6 : PySem.W.subIn K (.ref C7) (.ref C6) = some false)
    (su_7_7 : PySem.W.subIn K (.ref C7) (.ref C7) = some true)
    (su_7_8 : PySem.W.subIn K (.ref C7) (.ref C8) = some false)
    (su_7_9 : PySem.W.subIn K (.ref C7) (.ref C9) = some false)
    (su_7_10 : PySem.W.subIn K (.ref C7) (.ref C10) = some false)
    (su_7_11 : PySem.W.subIn K (.ref C7) (.ref C11) = some false)
    (su_7_12 : PySem.W.subIn K (.ref C7) (.ref C12) = some false)
    (su_7_13 : PySem.W.subIn K (.ref C7) (.ref C13) = some false)
    (su_7_14 : PySem.W.subIn K (.ref C7) (.ref C14) = some false)
    {fi7 : Addr} {iod7 ian7 : Option Addr} {isl7 : Array (Option Value)} {ioc7 ikV7 idc7 ipm7 icd7 ict7 : Value}
    (iC7 : PySem.W.findIn K (.ref C7) "__init__" = some (some (.ref fi7)))
    (iT7 : PySem.W.typeIn K (.ref fi7) = some (.type "function"))
    (iL7 : K.lookup fi7 = some ⟨ioc7, iod7, .func (PySem.W.fnOf "__init__" "BadLog.__init__" (defArgs s_init_BadLog) (defBody s_init_BadLog) (defScope s_init_BadLog) .none ikV7 idc7 ipm7 ian7 icd7 ict7), isl7⟩)
    (iD7 : PySem.W.codeIn K icd7 "BadLog.__init__" = true)
    (iK7 : PySem.W.keepIn K (.ref fi7) = true)
    {nm8 q8 : Str} {N8 : Addr} {bs8 bm8 sub8 : List Value} {sn8 : List Str} {ab8 : Bool} {col8 : Option Bool} {dd8 : Option Addr} {ka8 kb8 kc8 kd8 ke8 : Option Value}
    (xL8 : K.lookup C8 = some (excClassObj nm8 q8 C8 N8 bs8 bm8 true sn8 sub8 ab8 col8 dd8 ka8 kb8 kc8 kd8 ke8 "ValueError.__new__"))
    (xB8 : PySem.HandSPX.refsVE bm8 = true)
    (sa8 : PySem.W.findIn K (.ref C8) "__setattr__" = some (some (.builtin "object.__setattr__")))
    (tC8 : PySem.W.typeIn K (.ref C8) = some (.type "type"))
    (kC8 : PySem.W.keepIn K (.ref C8) = true)
    (ga8 : PySem.W.findIn K (.ref C8) "__getattribute__" = some (some (.builtin "BaseException.__getattribute__")))
    (gg8 : PySem.W.findIn K (.ref C8) "__getattr__" = some none)
    (eC8 : PySem.W.subIn K (.ref C8) (.type "BaseException") = some true)
    (hd8 : PySem.W.hasDictIn K C8 = true)
    (ha8 : PySem.W.findIn K (.ref C8) "__class__" = some (some (.builtin "object.__class__")))
    (hm8 : PySem.W.mroIn K C8 (.type "object") = some true)
    (sb_8 : PySem.W.subIn K (.ref C8) (.ref C0) = some true)
    (sv_8 : PySem.W.subIn K (.ref C8) (.type "ValueError") = some true)
    (su_8_1 : PySem.W.subIn K (.ref C8) (.ref C1) = some false)
    (su_8_2 : PySem.W.subIn K (.ref C8) (.ref C2) = some false)
    (su_8_3 : PySem.W.subIn K (.ref C8) (.ref C3) = some false)
    (su_8_4 : PySem.W.subIn K (.ref C8) (.ref C4) = some false)
    (su_8_5 : PySem.W.subIn K (.ref C8) (.ref C5) = some false)
    (su_8_6 : PySem.W.subIn K (.ref C8) (.ref C6) = some false)
    (su_8_7 : PySem.W.subIn K (.ref C8) (.ref C7) = some false)
    (su_8_8 : PySem.W.subIn K (.ref C8) (.ref C8) = some true)
    (su_8_9 : PySem.W.subIn K (.ref C8) (.ref C9) = some false)
    (su_8_10 : PySem.W.subIn K (.ref C8) (.ref C10) = some false)
    (su_8_11 : PySem.W.subIn K (.ref C8) (.ref C11) = some false)
    (su_8_12 : PySem.W.subIn K (.ref C8) (.ref C12) = some false)
    (su_8_13 : PySem.W.subIn K (.ref C8) (.ref C13) = some false)
    (su_8_14 : PySem.W.subIn K (.ref C8) (.ref C14) = some false)
    {fi8 : Addr} {iod8 ian8 : Option Addr} {isl8 : Array (Option Value)} {ioc8 ikV8 idc8 ipm8 icd8 ict8 : Value}
    (iC8 : PySem.W.findIn K (.ref C8) "__init__" = some (some (.ref fi8)))
    (iT8 : PySem.W.typeIn K (.ref fi8) = some (.type "function"))
    (iL8 : K.lookup fi8 = some ⟨ioc8, iod8, .func (PySem.W.fnOf "__init__" "BadTolerance.__init__" (defArgs s_init_BadTolerance) (defBody s_init_BadTolerance) (defScope s_init_BadTolerance) .none ikV8 idc8 ipm8 ian8 icd8 ict8), isl8⟩)
    (iD8 : PySem.W.codeIn K icd8 "BadTolerance.__init__" = true)
    (iK8 : PySem.W.keepIn K (.ref fi8) = true)
    {nm9 q9 : Str} {N9 : Addr} {bs9 bm9 sub9 : List Value} {sn9 : List Str} {ab9 : Bool} {col9 : Option Bool} {dd9 : Option Addr} {ka9 kb9 kc9 kd9 ke9 : Option Value}
    (xL9 : K.lookup C9 = some (excClassObj nm9 q9 C9 N9 bs9 bm9 true sn9 sub9 ab9 col9 dd9 ka9 kb9 kc9 kd9 ke9 "ValueError.__new__"))
    (xB9 : PySem.HandSPX.refsVE bm9 = true)
    (sa9 : PySem.W.findIn K (.ref C9) "__setattr__" = some (some (.builtin "object.__setattr__")))
    (tC9 : PySem.W.typeIn K (.ref C9) = some (.type "type"))
    (kC9 : PySem.W.keepIn K (.ref C9) = true)
    (ga9 : PySem.W.findIn K (.ref C9) "__getattribute__" = some (some (.builtin "BaseException.__getattribute__")))
    (gg9 : PySem.W.findIn K (.ref C9) "__getattr__" = some none)
    (eC9 : PySem.W.subIn K (.ref C9) (.type "BaseException") = some true)
    (hd9 : PySem.W.hasDictIn K C9 = true)
    (ha9 : PySem.W.findIn K (.ref C9) "__class__" = some (some (.builtin "object.__class__")))
    (hm9 : PySem.W.mroIn K C9 (.type "object") = some true)
    (sb_9 : PySem.W.subIn K (.ref C9) (.ref C0) = some true)
    (sv_9 : PySem.W.subIn K (.ref C9) (.type "ValueError") = some true)
    (su_9_1 : PySem.W.subIn K (.ref C9) (.ref C1) = some false)
    (su_9_2 : PySem.W.subIn K (.ref C9) (.ref C2) = some false)
    (su_9_3 : PySem.W.subIn K (.ref C9) (.ref C3) = some false)
    (su_9_4 : PySem.W.subIn K (.ref C9) (.ref C4) = some false)
    (su_9_5 : PySem.W.subIn K (.ref C9) (.ref C5) = some false)
    (su_9_6 : PySem.W.subIn K (.ref C9) (.ref C6) = some false)
    (su_9_7 : PySem.W.subIn K (.ref C9) (.ref C7) = some false)
    (su_9_8 : PySem.W.subIn K (.ref C9) (.ref C8) = some false)
    (su_9_9 : PySem.W.subIn K (.ref C9) (.ref C9) = some true)
    (su_9_10 : PySem.W.subIn K (.ref C9) (.ref C10) = some false)
    (su_9_11 : PySem.W.subIn K (.ref C9) (.ref C11) = some false)
    (su_9_12 : PySem.W.subIn K (.ref C9) (.ref C12) = some false)
    (su_9_13 : PySem.W.subIn K (.ref C9) (.ref C13) = some false)
    (su_9_14 : PySem.W.subIn K (.ref C9) (.ref C14) = some false)
    {fi9 : Addr} {iod9 ian9 : Option Addr} {isl9 : Array (Option Value)} {ioc9 ikV9 idc9 ipm9 icd9 ict9 : Value}
    (iC9 : PySem.W.findIn K (.ref C9) "__init__" = some (some (.ref fi9)))
    (iT9 : PySem.W.typeIn K (.ref fi9) = some (.type "function"))
    (iL9 : K.lookup fi9 = some ⟨ioc9, iod9, .func (PySem.W.fnOf "__init__" "BadOperation.__init__" (defArgs s_init_BadOperation) (defBody s_init_BadOperation) (defScope s_init_BadOperation) .none ikV9 idc9 ipm9 ian9 icd9 ict9), isl9⟩)
    (iD9 : PySem.W.codeIn K icd9 "BadOperation.__init__" = true)
    (iK9 : PySem.W.keepIn K (.ref fi9) = true)
    {nm10 q10 : Str} {N10 : Addr} {bs10 bm10 sub10 : List Value} {sn10 : List Str} {ab10 : Bool} {col10 : Option Bool} {dd10 : Option Addr} {ka10 kb10 kc10 kd10 ke10 : Option Value}
    (xL10 : K.lookup C10 = some (excClassObj nm10 q10 C10 N10 bs10 bm10 true sn10 sub10 ab10 col10 dd10 ka10 kb10 kc10 kd10 ke10 "ValueError.__new__"))
    (xB10 : PySem.HandSPX.refsVE bm10 = true)
    (sa10 : PySem.W.findIn K (.ref C10) "__setattr__" = some (some (.builtin "object.__setattr__")))
    (tC10 : PySem.W.typeIn K (.ref C10) = some (.type "type"))
    (kC10 : PySem.W.keepIn K (.ref C10) = true)
    (ga10 : PySem.W.findIn K (.ref C10) "__getattribute__" = some (some (.builtin "BaseException.__getattribute__")))
    (gg10 : PySem.W.findIn K (.ref C10) "__getattr__" = some none)
    (eC10 : PySem.W.subIn K (.ref C10) (.type "BaseException") = some true)
    (hd10 : PySem.W.hasDictIn K C10 = true)
    (ha10 : PySem.W.findIn K (.ref C10) "__class__" = some (some (.builtin "object.__class__")))
    (hm10 : PySem.W.mroIn K C10 (.type "object") = some true)
    (sb_10 : PySem.W.subIn K (.ref C10) (.ref C0) = some true)
    (sv_10 : PySem.W.subIn K (.ref C10) (.type "ValueError") = some true)
    (su_10_1 : PySem.W.subIn K (.ref C10) (.ref C1) = some false)
    (su_10_2 : PySem.W.subIn K (.ref C10) (.ref C2) = some false)
    (su_10_3 : PySem.W.subIn K (.ref C10) (.ref C3) = some false)
    (su_10_4 : PySem.W.subIn K (.ref C10) (.ref C4) = some false)
    (su_10_5 : PySem.W.subIn K (.ref C10) (.ref C5) = some false)
    (su_10_6 : PySem.W.subIn K (.ref C10) (.ref C6) = some false)
    (su_10_7 : PySem.W.subIn K (.ref C10) (.ref C7) = some false)
    (su_10_8 : PySem.W.subIn K (.ref C10) (.ref C8) = some false)
    (su_10_9 : PySem.W.subIn K (.ref C10) (.ref C9) = some false)
    (su_10_10 : PySem.W.subIn K (.ref C10) (.ref C10) = some true)
    (su_10_11 : PySem.W.subIn K (.ref C10) (.ref C11) = some false)
    (su_10_12 : PySem.W.subIn K (.ref C10) (.ref C12) = some false)
    (su_10_13 : PySem.W.subIn K (.ref C10) (.ref C13) = some false)
    (su_10_14 : PySem.W.subIn K (.ref C10) (.ref C14) = some false)
    {fi10 : Addr} {iod10 ian10 : Option Addr} {isl10 : Array (Option Value)} {ioc10 ikV10 idc10 ipm10 icd10 ict10 : Value}
    (iC10 : PySem.W.findIn K (.ref C10) "__init__" = some (some (.ref fi10)))
    (iT10 : PySem.W.typeIn K (.ref fi10) = some (.type "function"))
    (iL10 : K.lookup fi10 = some ⟨ioc10, iod10, .func (PySem.W.fnOf "__init__" "Written.__init__" (defArgs s_init_Written) (defBody s_init_Written) (defScope s_init_Written) .none ikV10 idc10 ipm10 ian10 icd10 ict10), isl10⟩)
    (iD10 : PySem.W.codeIn K icd10 "Written.__init__" = true)
    (iK10 : PySem.W.keepIn K (.ref fi10) = true)
    {nm11 q11 : Str} {N11 : Addr} {bs11 bm11 sub11 : List Value} {sn11 : List Str} {ab11 : Bool} {col11 : Option Bool} {dd11 : Option Addr} {ka11 kb11 kc11 kd11 ke11 : Option Value}
    (xL11 : K.lookup C11 = some (excClassObj nm11 q11 C11 N11 bs11 bm11 true sn11 sub11 ab11 col11 dd11 ka11 kb11 kc11 kd11 ke11 "ValueError.__new__"))
    (xB11 : PySem.HandSPX.refsVE bm11 = true)
    (sa11 : PySem.W.findIn K (.ref C11) "__setattr__" = some (some (.builtin "object.__setattr__")))
    (tC11 : PySem.W.typeIn K (.ref C11) = some (.type "type"))
    (kC11 : PySem.W.keepIn K (.ref C11) = true)
    (ga11 : PySem.W.findIn K (.ref C11) "__getattribute__" = some (some (.builtin "BaseException.__getattribute__")))
    (gg11 : PySem.W.findIn K (.ref C11) "__getattr__" = some none)
    (eC11 : PySem.W.subIn K (.ref C11) (.type "BaseException") = some true)
    (hd11 : PySem.W.hasDictIn K C11 = true)
    (ha11 : PySem.W.findIn K (.ref C11) "__class__" = some (some (.builtin "object.__class__")))
    (hm11 : PySem.W.mroIn K C11 (.type "object") = some true)
    (sb_11 : PySem.W.subIn K (.ref C11) (.ref C0) = some true)
    (sv_11 : PySem.W.subIn K (.ref C11) (.type "ValueError") = some true)
    (su_11_1 : PySem.W.subIn K (.ref C11) (.ref C1) = some false)
    (su_11_2 : PySem.W.subIn K (.ref C11) (.ref C2) = some false)
    (su_11_3 : PySem.W.subIn K (.ref C11) (.ref C3) = some false)
    (su_11_4 : PySem.W.subIn K (.ref C11) (.ref C4) = some false)
    (su_11_5 : PySem.W.subIn K (.ref C11) (.ref C5) = some false)
    (su_11_6 : PySem.W.subIn K (.ref C11) (.ref C6) = some false)
    (su_11_7 : PySem.W.subIn K (.ref C11) (.ref C7) = some false)
    (su_11_8 : PySem.W.subIn K (.ref C11) (.ref C8) = some false)
    (su_11_9 : PySem.W.subIn K (.ref C11) (.ref C9) = some false)
    (su_11_10 : PySem.W.subIn K (.ref C11) (.ref C10) = some false)
    (su_11_11 : PySem.W.subIn K (.ref C11) (.ref C11) = some true)
    (su_11_12 : PySem.W.subIn K (.ref C11) (.ref C12) = some false)
    (su_11_13 : PySem.W.subIn K (.ref C11) (.ref C13) = some false)
    (su_11_14 : PySem.W.subIn K (.ref C11) (.ref C14) = some false)
    {fi11 : Addr} {iod11 ian11 : Option Addr} {isl11 : Array (Option Value)} {ioc11 ikV11 idc11 ipm11 icd11 ict11 : Value}
    (iC11 : PySem.W.findIn K (.ref C11) "__init__" = some (some (.ref fi11)))
    (iT11 : PySem.W.typeIn K (.ref fi11) = some (.type "function"))
    (iL11 : K.lookup fi11 = some ⟨ioc11, iod11, .func (PySem.W.fnOf "__init__" "TooMany.__init__" (defArgs s_init_TooMany) (defBody s_init_TooMany) (defScope s_init_TooMany) .none ikV11 idc11 ipm11 ian11 icd11 ict11), isl11⟩)
    (iD11 : PySem.W.codeIn K icd11 "TooMany.__init__" = true)
    (iK11 : PySem.W.keepIn K (.ref fi11) = true)
    {nm12 q12 : Str} {N12 : Addr} {bs12 bm12 sub12 : List Value} {sn12 : List Str} {ab12 : Bool} {col12 : Option Bool} {dd12 : Option Addr} {ka12 kb12 kc12 kd12 ke12 : Option Value}
    (xL12 : K.lookup C12 = some (excClassObj nm12 q12 C12 N12 bs12 bm12 true sn12 sub12 ab12 col12 dd12 ka12 kb12 kc12 kd12 ke12 "ValueError.__new__"))
    (xB12 : PySem.HandSPX.refsVE bm12 = true)
    (sa12 : PySem.W.findIn K (.ref C12) "__setattr__" = some (some (.builtin "object.__setattr__")))
    (tC12 : PySem.W.typeIn K (.ref C12) = some (.type "type"))
    (kC12 : PySem.W.keepIn K (.ref C12) = true)
    (ga12 : PySem.W.findIn K (.ref C12) "__getattribute__" = some (some (.builtin "BaseException.__getattribute__")))
    (gg12 : PySem.W.findIn K (.ref C12) "__getattr__" = some none)
    (eC12 : PySem.W.subIn K (.ref C12) (.type "BaseException") = some true)
    (hd12 : PySem.W.hasDictIn K C12 = true)
    (ha12 : PySem.W.findIn K (.ref C12) "__class__" = some (some (.builtin "object.__class__")))
    (hm12 : PySem.W.mroIn K C12 (.type "object") = some true)
    (sb_12 : PySem.W.subIn K (.ref C12) (.ref C0) = some true)
    (sv_12 : PySem.W.subIn K (.ref C12) (.type "ValueError") = some true)
    (su_12_1 : PySem.W.subIn K (.ref C12) (.ref C1) = some false)
    (su_12_2 : PySem.W.subIn K (.ref C12) (.ref C2) = some false)
    (su_12_3 : PySem.W.subIn K (.ref C12) (.ref C3) = some false)
    (su_12_4 : PySem.W.subIn K (.ref C12) (.ref C4) = some false)
    (su_12_5 : PySem.W.subIn K (.ref C12) (.ref C5) = some false)
    (su_12_6 : PySem.W.subIn K (.ref C12) (.ref C6) = some false)
    (su_12_7 : PySem.W.subIn K (.ref C12) (.ref C7) = some false)
    (su_12_8 : PySem.W.subIn K (.ref C12) (.ref C8) = some false)
    (su_12_9 : PySem.W.subIn K (.ref C12) (.ref C9) = some false)
    (su_12_10 : PySem.W.subIn K (.ref C12) (.ref C10) = some false)
    (su_12_11 : PySem.W.subIn K (.ref C12) (.ref C11) = some false)
    (su_12_12 : PySem.W.subIn K (.ref C12) (.ref C12) = some true)
    (su_12_13 : PySem.W.subIn K (.ref C12) (.ref C13) = some false)
    (su_12_14 : PySem.W.subIn K (.ref C12) (.ref C14) = some false)
    (iC12 : PySem.W.findIn K (.ref C12) "__init__" = some (some (.builtin "ValueError.__init__")))
    {nm13 q13 : Str} {N13 : Addr} {bs13 bm13 sub13 : List Value} {sn13 : List Str} {ab13 : Bool} {col13 : Option Bool} {dd13 : Option Addr} {ka13 kb13 kc13 kd13 ke13 : Option Value}
    (xL13 : K.lookup C13 = some (excClassObj nm13 q13 C13 N13 bs13 bm13 true sn13 sub13 ab13 col13 dd13 ka13 kb13 kc13 kd13 ke13 "ValueError.__new__"))
    (xB13 : PySem.HandSPX.refsVE bm13 = true)
    (sa13 : PySem.W.findIn K (.ref C13) "__setattr__" = some (some (.builtin "object.__setattr__")))
    (tC13 : PySem.W.typeIn K (.ref C13) = some (.type "type"))
    (kC13 : PySem.W.keepIn K (.ref C13) = true)
    (ga13 : PySem.W.findIn K (.ref C13) "__getattribute__" = some (some (.builtin "BaseException.__getattribute__")))
    (gg13 : PySem.W.findIn K (.ref C13) "__getattr__" = some none)
    (eC13 : PySem.W.subIn K (.ref C13) (.type "BaseException") = some true)
    (hd13 : PySem.W.hasDictIn K C13 = true)
    (ha13 : PySem.W.findIn K (.ref C13) "__class__" = some (some (.builtin "object.__class__")))
    (hm13 : PySem.W.mroIn K C13 (.type "object") = some true)
    (sb_13 : PySem.W.subIn K (.ref C13) (.ref C0) = some true)
    (sv_13 : PySem.W.subIn K (.ref C13) (.type "ValueError") = some true)
    (su_13_1 : PySem.W.subIn K (.ref C13) (.ref C1) = some false)
    (su_13_2 : PySem.W.subIn K (.ref C13) (.ref C2) = some false)
    (su_13_3 : PySem.W.subIn K (.ref C13) (.ref C3) = some false)
    (su_13_4 : PySem.W.subIn K (.ref C13) (.ref C4) = some false)
    (su_13_5 : PySem.W.subIn K (.ref C13) (.ref C5) = some false)
    (su_13_6 : PySem.W.subIn K (.ref C13) (.ref C6) = some false)
    (su_13_7 : PySem.W.subIn K (.ref C13) (.ref C7) = some false)
    (su_13_8 : PySem.W.subIn K (.ref C13) (.ref C8) = some false)
    (su_13_9 : PySem.W.subIn K (.ref C13) (.ref C9) = some false)
    (su_13_10 : PySem.W.subIn K (.ref C13) (.ref C10) = some false)
    (su_13_11 : PySem.W.subIn K (.ref C13) (.ref C11) = some false)
    (su_13_12 : PySem.W.subIn K (.ref C13) (.ref C12) = some false)
    (su_13_13 : PySem.W.subIn K (.ref C13) (.ref C13) = some true)
    (su_13_14 : PySem.W.subIn K (.ref C13) (.ref C14) = some false)
    {fi13 : Addr} {iod13 ian13 : Option Addr} {isl13 : Array (Option Value)} {ioc13 ikV13 idc13 ipm13 icd13 ict13 : Value}
    (iC13 : PySem.W.findIn K (.ref C13) "__init__" = some (some (.ref fi13)))
    (iT13 : PySem.W.typeIn K (.ref fi13) = some (.type "function"))
    (iL13 : K.lookup fi13 = some ⟨ioc13, iod13, .func (PySem.W.fnOf "__init__" "BadText.__init__" (defArgs s_init_BadText) (defBody s_init_BadText) (defScope s_init_BadText) .none ikV13 idc13 ipm13 ian13 icd13 ict13), isl13⟩)
    (iD13 : PySem.W.codeIn K icd13 "BadText.__init__" = true)
    (iK13 : PySem.W.keepIn K (.ref fi13) = true)
    {nm14 q14 : Str} {N14 : Addr} {bs14 bm14 sub14 : List Value} {sn14 : List Str} {ab14 : Bool} {col14 : Option Bool} {dd14 : Option Addr} {ka14 kb14 kc14 kd14 ke14 : Option Value}
    (xL14 : K.lookup C14 = some (excClassObj nm14 q14 C14 N14 bs14 bm14 true sn14 sub14 ab14 col14 dd14 ka14 kb14 kc14 kd14 ke14 "ValueError.__new__"))
    (xB14 : PySem.HandSPX.refsVE bm14 = true)
    (sa14 : PySem.W.findIn K (.ref C14) "__setattr__" = some (some (.builtin "object.__setattr__")))
    (tC14 : PySem.W.typeIn K (.ref C14) = some (.type "type"))
    (kC14 : PySem.W.keepIn K (.ref C14) = true)
    (ga14 : PySem.W.findIn K (.ref C14) "__getattribute__" = some (some (.builtin "BaseException.__getattribute__")))
    (gg14 : PySem.W.findIn K (.ref C14) "__getattr__" = some none)
    (eC14 : PySem.W.subIn K (.ref C14) (.type "BaseException") = some true)
    (hd14 : PySem.W.hasDictIn K C14 = true)
    (ha14 : PySem.W.findIn K (.ref C14) "__class__" = some (some (.builtin "object.__class__")))
    (hm14 : PySem.W.mroIn K C14 (.type "object") = some true)
    (sb_14 : PySem.W.subIn K (.ref C14) (.ref C0) = some true)
    (sv_14 : PySem.W.subIn K (.ref C14) (.type "ValueError") = some true)
    (su_14_1 : PySem.W.subIn K (.ref C14) (.ref C1) = some false)
    (su_14_2 : PySem.W.subIn K (.ref C14) (.ref C2) = some false)
    (su_14_3 : PySem.W.subIn K (.ref C14) (.ref C3) = some false)
    (su_14_4 : PySem.W.subIn K (.ref C14) (.ref C4) = some false)
    (su_14_5 : PySem.W.subIn K (.ref C14) (.ref C5) = some false)
    (su_14_6 : PySem.W.subIn K (.ref C14) (.ref C6) = some false)
    (su_14_7 : PySem.W.subIn K (.ref C14) (.ref C7) = some false)
    (su_14_8 : PySem.W.subIn K (.ref C14) (.ref C8) = some false)
    (su_14_9 : PySem.W.subIn K (.ref C14) (.ref C9) = some false)
    (su_14_10 : PySem.W.subIn K (.ref C14) (.ref C10) = some false)
    (su_14_11 : PySem.W.subIn K (.ref C14) (.ref C11) = some false)
    (su_14_12 : PySem.W.subIn K (.ref C14) (.ref C12) = some false)
    (su_14_13 : PySem.W.subIn K (.ref C14) (.ref C13) = some false)
    (su_14_14 : PySem.W.subIn K (.ref C14) (.ref C14) = some true)
    {fi14 : Addr} {iod14 ian14 : Option Addr} {isl14 : Array (Option Value)} {ioc14 ikV14 idc14 ipm14 icd14 ict14 : Value}
    (iC14 : PySem.W.findIn K (.ref C14) "__init__" = some (some (.ref fi14)))
    (iT14 : PySem.W.typeIn K (.ref fi14) = some (.type "function"))
    (iL14 : K.lookup fi14 = some ⟨ioc14, iod14, .func (PySem.W.fnOf "__init__" "BadLine.__init__" (defArgs s_init_BadLine) (defBody s_init_BadLine) (defScope s_init_BadLine) .none ikV14 idc14 ipm14 ian14 icd14 ict14), isl14⟩)
    (iD14 : PySem.W.codeIn K icd14 "BadLine.__init__" = true)
    (iK14 : PySem.W.keepIn K (.ref fi14) = true)
    (fl0 : PySem.W.findIn K (.ref C1) "index" = some none)
    (fl1 : PySem.W.findIn K (.ref C2) "value" = some none)
    (fl2 : PySem.W.findIn K (.ref C3) "fault" = some none)
    (fl3 : PySem.W.findIn K (.ref C4) "value" = some none)
    (fl4 : PySem.W.findIn K (.ref C5) "position" = some none)
    (fl5 : PySem.W.findIn K (.ref C7) "value" = some none)
    (fl6 : PySem.W.findIn K (.ref C8) "value" = some none)
    (fl7 : PySem.W.findIn K (.ref C9) "operation" = some none)
    (fl8 : PySem.W.findIn K (.ref C10) "value" = some none)
    (fl9 : PySem.W.findIn K (.ref C11) "limit" = some none)
    (fl10 : PySem.W.findIn K (.ref C13) "value" = some none)
    (fl11 : PySem.W.findIn K (.ref C14) "line" = some none)
    (flB : PySem.W.findIn K (.ref C6) "begin" = some none)
    (flE : PySem.W.findIn K (.ref C6) "end" = some none)
    (hn : PySem.W.specialIn K (.builtin "object.__class__") "__get__" = some (some (.builtin "getset_descriptor.__get__")))
    (ht : PySem.W.takesIn K (.builtin "object.__class__") = some true) :
    ∃ fd : FuncData, (∀ (s : Shared) (u : Value), BindsTo s fd ⟨[u], []⟩ [("_law_script", u)]) ∧ ∀ base : Heap, K.In base → base.Ns mainGlobals mg → (∃ o, base.get? sysModules = some o) → FnG P w K mg base CX0 5 fa fd ["_law_script"] (spLaw K) := by
  have e := hfa.symm.trans (PySem.W.mg_of X Gg a7)
  cases e
  refine ⟨PySem.W.fnOf "law" "law" (defArgs s_law) (defBody s_law) (defScope s_law) .none kV7 dc7 pm7 an7 cd7 ct7, fun s v => .of_eq rfl, fun base _ _ hS => ?_⟩
  have n_len := PySem.W.mg_none_of X Gg z_len
  have n_int := PySem.W.mg_none_of X Gg z_int
  have n_abs := PySem.W.mg_none_of X Gg z_abs
  have n_isinstance := PySem.W.mg_none_of X Gg z_isinstance
  have n_tuple := PySem.W.mg_none_of X Gg z_tuple
  have n_str := PySem.W.mg_none_of X Gg z_str
  have n_list := PySem.W.mg_none_of X Gg z_list
  have n_repr := PySem.W.mg_none_of X Gg z_repr
  have n_enumerate := PySem.W.mg_none_of X Gg z_enumerate
  have n_range := PySem.W.mg_none_of X Gg z_range
  have n_ValueError := PySem.W.mg_none_of X Gg z_ValueError
  have n_max := PySem.W.mg_none_of X Gg z_max
  have n_min := PySem.W.mg_none_of X Gg z_min
  have n_all := PySem.W.mg_none_of X Gg z_all
  let cl : Nat → Addr := fun n => [C0, C1, C2, C3, C4, C5, C6, C7, C8, C9, C10, C11, C12, C13, C14].getD n 0
  have xF1 : XfC K C1 := ⟨ga1, gg1, eC1, hd1⟩
  have ox1 : OexC K C1 := ⟨⟨nm1, q1, N1, bs1, bm1, sn1, sub1, ab1, col1, dd1, ka1, kb1, kc1, kd1, ke1, xL1, xB1⟩, sa1, eC1, tC1, kC1⟩
  have ex1 : ExcC K C1 := ⟨ga1, gg1, eC1, hd1, ha1, hn, ht, hm1⟩
  have xF2 : XfC K C2 := ⟨ga2, gg2, eC2, hd2⟩
  have ox2 : OexC K C2 := ⟨⟨nm2, q2, N2, bs2, bm2, sn2, sub2, ab2, col2, dd2, ka2, kb2, kc2, kd2, ke2, xL2, xB2⟩, sa2, eC2, tC2, kC2⟩
  have ex2 : ExcC K C2 := ⟨ga2, gg2, eC2, hd2, ha2, hn, ht, hm2⟩
  have xF3 : XfC K C3 := ⟨ga3, gg3, eC3, hd3⟩
  have ox3 : OexC K C3 := ⟨⟨nm3, q3, N3, bs3, bm3, sn3, sub3, ab3, col3, dd3, ka3, kb3, kc3, kd3, ke3, xL3, xB3⟩, sa3, eC3, tC3, kC3⟩
  have ex3 : ExcC K C3 := ⟨ga3, gg3, eC3, hd3, ha3, hn, ht, hm3⟩
  have xF4 : XfC K C4 := ⟨ga4, gg4, eC4, hd4⟩
  have ox4 : OexC K C4 := ⟨⟨nm4, q4, N4, bs4, bm4, sn4, sub4, ab4, col4, dd4, ka4, kb4, kc4, kd4, ke4, xL4, xB4⟩, sa4, eC4, tC4, kC4⟩
  have ex4 : ExcC K C4 := ⟨ga4, gg4, eC4, hd4, ha4, hn, ht, hm4⟩
  have xF5 : XfC K C5 := ⟨ga5, gg5, eC5, hd5⟩
  have ox5 : OexC K C5 := ⟨⟨nm5, q5, N5, bs5, bm5, sn5, sub5, ab5, col5, dd5, ka5, kb5, kc5, kd5, ke5, xL5, xB5⟩, sa5, eC5, tC5, kC5⟩
  have ex5 : ExcC K C5 := ⟨ga5, gg5, eC5, hd5, ha5, hn, ht, hm5⟩
  have xF6 : XfC K C6 := ⟨ga6, gg6, eC6, hd6⟩
  have ox6 : OexC K C6 := ⟨⟨nm6, q6, N6, bs6, bm6, sn6, sub6, ab6, col6, dd6, ka6, kb6, kc6, kd6, ke6, xL6, xB6⟩, sa6, eC6, tC6, kC6⟩
  have ex6 : ExcC K C6 := ⟨ga6, gg6, eC6, hd6, ha6, hn, ht, hm6⟩
  have xF7 : XfC K C7 := ⟨ga7, gg7, eC7, hd7⟩
  have ox7 : OexC K C7 := ⟨⟨nm7, q7, N7, bs7, bm7, sn7, sub7, ab7, col7, dd7, ka7, kb7, kc7, kd7, ke7, xL7, xB7⟩, sa7, eC7, tC7, kC7⟩
  have ex7 : ExcC K C7 := ⟨ga7, gg7, eC7, hd7, ha7, hn, ht, hm7⟩
  have xF8 : XfC K C8 := ⟨ga8, gg8, eC8, hd8⟩
  have ox8 : OexC K C8 := ⟨⟨nm8, q8, N8, bs8, bm8, sn8, sub8, ab8, col8, dd8, ka8, kb8, kc8, kd8, ke8, xL8, xB8⟩, sa8, eC8, tC8, kC8⟩
  have ex8 : ExcC K C8 := ⟨ga8, gg8, eC8, hd8, ha8, hn, ht, hm8⟩
  have xF9 : XfC K C9 := ⟨ga9, gg9, eC9, hd9⟩
  have ox9 : OexC K C9 := ⟨⟨nm9, q9, N9, bs9, bm9, sn9, sub9, ab9, col9, dd9, ka9, kb9, kc9, kd9, ke9, xL9, xB9⟩, sa9, eC9, tC9, kC9⟩
  have ex9 : ExcC K C9 := ⟨ga9, gg9, eC9, hd9, ha9, hn, ht, hm9⟩
  have xF10 : XfC K C10 := ⟨ga10, gg10, eC10, hd10⟩
  have ox10 : OexC K C10 := ⟨⟨nm10, q10, N10, bs10, bm10, sn10, sub10, ab10, col10, dd10, ka10, kb10, kc10, kd10, ke10, xL10, xB10⟩, sa10, eC10, tC10, kC10⟩
  have ex10 : ExcC K C10 := ⟨ga10, gg10, eC10, hd10, ha10, hn, ht, hm10⟩
  have xF11 : XfC K C11 := ⟨ga11, gg11, eC11, hd11⟩
  have ox11 : OexC K C11 := ⟨⟨nm11, q11, N11, bs11, bm11, sn11, sub11, ab11, col11, dd11, ka11, kb11, kc11, kd11, ke11, xL11, xB11⟩, sa11, eC11, tC11, kC11⟩
  have ex11 : ExcC K C11 := ⟨ga11, gg11, eC11, hd11, ha11, hn, ht, hm11⟩
  have xF12 : XfC K C12 := ⟨ga12, gg12, eC12, hd12⟩
  have ox12 : OexC K C12 := ⟨⟨nm12, q12, N12, bs12, bm12, sn12, sub12, ab12, col12, dd12, ka12, kb12, kc12, kd12, ke12, xL12, xB12⟩, sa12, eC12, tC12, kC12⟩
  have ex12 : ExcC K C12 := ⟨ga12, gg12, eC12, hd12, ha12, hn, ht, hm12⟩
  have xF13 : XfC K C13 := ⟨ga13, gg13, eC13, hd13⟩
  have ox13 : OexC K C13 := ⟨⟨nm13, q13, N13, bs13, bm13, sn13, sub13, ab13, col13, dd13, ka13, kb13, kc13, kd13, ke13, xL13, xB13⟩, sa13, eC13, tC13, kC13⟩
  have ex13 : ExcC K C13 := ⟨ga13, gg13, eC13, hd13, ha13, hn, ht, hm13⟩
  have xF14 : XfC K C14 := ⟨ga14, gg14, eC14, hd14⟩
  have ox14 : OexC K C14 := ⟨⟨nm14, q14, N14, bs14, bm14, sn14, sub14, ab14, col14, dd14, ka14, kb14, kc14, kd14, ke14, xL14, xB14⟩, sa14, eC14, tC14, kC14⟩
  have ex14 : ExcC K C14 := ⟨ga14, gg14, eC14, hd14, ha14, hn, ht, hm14⟩
  have T : Cls K cl := {
    ex := (fun i h1 h2 => by
      rcases (by omega : i = 1 ∨ i = 2 ∨ i = 3 ∨ i = 4 ∨ i = 5 ∨ i = 6 ∨ i = 7 ∨ i = 8 ∨ i = 9 ∨ i = 10 ∨ i = 11 ∨ i = 12 ∨ i = 13 ∨ i = 14) with rfl | rfl | rfl | rfl | rfl | rfl | rfl | rfl | rfl | rfl | rfl | rfl | rfl | rfl
      · exact ex1
      · exact ex2
      · exact ex3
      · exact ex4
      · exact ex5
      · exact ex6
      · exact ex7
      · exact ex8
      · exact ex9
      · exact ex10
      · exact ex11
      · exact ex12
      · exact ex13
      · exact ex14)
    ox := (fun i h1 h2 => by
      rcases (by omega : i = 1 ∨ i = 2 ∨ i = 3 ∨ i = 4 ∨ i = 5 ∨ i = 6 ∨ i = 7 ∨ i = 8 ∨ i = 9 ∨ i = 10 ∨ i = 11 ∨ i = 12 ∨ i = 13 ∨ i = 14) with rfl | rfl | rfl | rfl | rfl | rfl | rfl | rfl | rfl | rfl | rfl | rfl | rfl | rfl
      · exact ox1
      · exact ox2
      · exact ox3
      · exact ox4
      · exact ox5
      · exact ox6
      · exact ox7
      · exact ox8
      · exact ox9
      · exact ox10
      · exact ox11
      · exact ox12
      · exact ox13
      · exact ox14)
    xf := (fun i h1 h2 => by
      rcases (by omega : i = 1 ∨ i = 2 ∨ i = 3 ∨ i = 4 ∨ i = 5 ∨ i = 6 ∨ i = 7 ∨ i = 8 ∨ i = 9 ∨ i = 10 ∨ i = 11 ∨ i = 12 ∨ i = 13 ∨ i = 14) with rfl | rfl | rfl | rfl | rfl | rfl | rfl | rfl | rfl | rfl | rfl | rfl | rfl | rfl
      · exact xF1
      · exact xF2
      · exact xF3
      · exact xF4
      · exact xF5
      · exact xF6
      · exact xF7
      · exact xF8
      · exact xF9
      · exact xF10
      · exact xF11
      · exact xF12
      · exact xF13
      · exact xF14)
    base := (fun i h1 h2 => by
      rcases (by omega : i = 1 ∨ i = 2 ∨ i = 3 ∨ i = 4 ∨ i = 5 ∨ i = 6 ∨ i = 7 ∨ i = 8 ∨ i = 9 ∨ i = 10 ∨ i = 11 ∨ i = 12 ∨ i = 13 ∨ i = 14) with rfl | rfl | rfl | rfl | rfl | rfl | rfl | rfl | rfl | rfl | rfl | rfl | rfl | rfl
      · exact kit_mk hd0 tC0 sb_1 su_1_1
      · exact kit_mk hd0 tC0 sb_2 su_2_2
      · exact kit_mk hd0 tC0 sb_3 su_3_3
      · exact kit_mk hd0 tC0 sb_4 su_4_4
      · exact kit_mk hd0 tC0 sb_5 su_5_5
      · exact kit_mk hd0 tC0 sb_6 su_6_6
      · exact kit_mk hd0 tC0 sb_7 su_7_7
      · exact kit_mk hd0 tC0 sb_8 su_8_8
      · exact kit_mk hd0 tC0 sb_9 su_9_9
      · exact kit_mk hd0 tC0 sb_10 su_10_10
      · exact kit_mk hd0 tC0 sb_11 su_11_11
      · exact kit_mk hd0 tC0 sb_12 su_12_12
      · exact kit_mk hd0 tC0 sb_13 su_13_13
      · exact kit_mk hd0 tC0 sb_14 su_14_14)
    val := (fun i h1 h2 => by
      rcases (by omega : i = 1 ∨ i = 2 ∨ i = 3 ∨ i = 4 ∨ i = 5 ∨ i = 6 ∨ i = 7 ∨ i = 8 ∨ i = 9 ∨ i = 10 ∨ i = 11 ∨ i = 12 ∨ i = 13 ∨ i = 14) with rfl | rfl | rfl | rfl | rfl | rfl | rfl | rfl | rfl | rfl | rfl | rfl | rfl | rfl
      · exact kit_ve sv_1
      · exact kit_ve sv_2
      · exact kit_ve sv_3
      · exact kit_ve sv_4
      · exact kit_ve sv_5
      · exact kit_ve sv_6
      · exact kit_ve sv_7
      · exact kit_ve sv_8
      · exact kit_ve sv_9
      · exact kit_ve sv_10
      · exact kit_ve sv_11
      · exact kit_ve sv_12
      · exact kit_ve sv_13
      · exact kit_ve sv_14)
    kit := (fun i j h1 h2 g1 g2 => by
      rcases (by omega : i = 1 ∨ i = 2 ∨ i = 3 ∨ i = 4 ∨ i = 5 ∨ i = 6 ∨ i = 7 ∨ i = 8 ∨ i = 9 ∨ i = 10 ∨ i = 11 ∨ i = 12 ∨ i = 13 ∨ i = 14) with rfl | rfl | rfl | rfl | rfl | rfl | rfl | rfl | rfl | rfl | rfl | rfl | rfl | rfl
      · rcases (by omega : j = 1 ∨ j = 2 ∨ j = 3 ∨ j = 4 ∨ j = 5 ∨ j = 6 ∨ j = 7 ∨ j = 8 ∨ j = 9 ∨ j = 10 ∨ j = 11 ∨ j = 12 ∨ j = 13 ∨ j = 14) with rfl | rfl | rfl | rfl | rfl | rfl | rfl | rfl | rfl | rfl | rfl | rfl | rfl | rfl
        · exact kit_mk hd1 tC1 su_1_1 su_1_1
        · exact kit_mk hd2 tC2 su_1_2 su_1_1
        · exact kit_mk hd3 tC3 su_1_3 su_1_1
        · exact kit_mk hd4 tC4 su_1_4 su_1_1
        · exact kit_mk hd5 tC5 su_1_5 su_1_1
        · exact kit_mk hd6 tC6 su_1_6 su_1_1
        · exact kit_mk hd7 tC7 su_1_7 su_1_1
        · exact kit_mk hd8 tC8 su_1_8 su_1_1
        · exact kit_mk hd9 tC9 su_1_9 su_1_1
        · exact kit_mk hd10 tC10 su_1_10 su_1_1
        · exact kit_mk hd11 tC11 su_1_11 su_1_1
        · exact kit_mk hd12 tC12 su_1_12 su_1_1
        · exact kit_mk hd13 tC13 su_1_13 su_1_1
        · exact kit_mk hd14 tC14 su_1_14 su_1_1
      · rcases (by omega : j = 1 ∨ j = 2 ∨ j = 3 ∨ j = 4 ∨ j = 5 ∨ j = 6 ∨ j = 7 ∨ j = 8 ∨ j = 9 ∨ j = 10 ∨ j = 11 ∨ j = 12 ∨ j = 13 ∨ j = 14) with rfl | rfl | rfl | rfl | rfl | rfl | rfl | rfl | rfl | rfl | rfl | rfl | rfl | rfl
        · exact kit_mk hd1 tC1 su_2_1 su_2_2
        · exact kit_mk hd2 tC2 su_2_2 su_2_2
        · exact kit_mk hd3 tC3 su_2_3 su_2_2
        · exact kit_mk hd4 tC4 su_2_4 su_2_2
        · exact kit_mk hd5 tC5 su_2_5 su_2_2
        · exact kit_mk hd6 tC6 su_2_6 su_2_2
        · exact kit_mk hd7 tC7 su_2_7 su_2_2
        · exact kit_mk hd8 tC8 su_2_8 su_2_2
        · exact kit_mk hd9 tC9 su_2_9 su_2_2
        · exact kit_mk hd10 tC10 su_2_10 su_2_2
        · exact kit_mk hd11 tC11 su_2_11 su_2_2
        · exact kit_mk hd12 tC12 su_2_12 su_2_2
        · exact kit_mk hd13 tC13 su_2_13 su_2_2
        · exact kit_mk hd14 tC14 su_2_14 su_2_2
      · rcases (by omega : j = 1 ∨ j = 2 ∨ j = 3 ∨ j = 4 ∨ j = 5 ∨ j = 6 ∨ j = 7 ∨ j = 8 ∨ j = 9 ∨ j = 10 ∨ j = 11 ∨ j = 12 ∨ j = 13 ∨ j = 14) with rfl | rfl | rfl | rfl | rfl | rfl | rfl | rfl | rfl | rfl | rfl | rfl | rfl | rfl
        · exact kit_mk hd1 tC1 su_3_1 su_3_3
        · exact kit_mk hd2 tC2 su_3_2 su_3_3
        · exact kit_mk hd3 tC3 su_3_3 su_3_3
        · exact kit_mk hd4 tC4 su_3_4 su_3_3
        · exact kit_mk hd5 tC5 su_3_5 su_3_3
        · exact kit_mk hd6 tC6 su_3_6 su_3_3
        · exact kit_mk hd7 tC7 su_3_7 su_3_3
        · exact kit_mk hd8 tC8 su_3_8 su_3_3
        · exact kit_mk hd9 tC9 su_3_9 su_3_3
        · exact kit_mk hd10 tC10 su_3_10 su_3_3
        · exact kit_mk hd11 tC11 su_3_11 su_3_3
        · exact kit_mk hd12 tC12 su_3_12 su_3_3
        · exact kit_mk hd13 tC13 su_3_13 su_3_3
        · exact kit_mk hd14 tC14 su_3_14 su_3_3
      · rcases (by omega : j = 1 ∨ j = 2 ∨ j = 3 ∨ j = 4 ∨ j = 5 ∨ j = 6 ∨ j = 7 ∨ j = 8 ∨ j = 9 ∨ j = 10 ∨ j = 11 ∨ j = 12 ∨ j = 13 ∨ j = 14) with rfl | rfl | rfl | rfl | rfl | rfl | rfl | rfl | rfl | rfl | rfl | rfl | rfl | rfl
        · exact kit_mk hd1 tC1 su_4_1 su_4_4
        · exact kit_mk hd2 tC2 su_4_2 su_4_4
        · exact kit_mk hd3 tC3 su_4_3 su_4_4
        · exact kit_mk hd4 tC4 su_4_4 su_4_4
        · exact kit_mk hd5 tC5 su_4_5 su_4_4
        · exact kit_mk hd6 tC6 su_4_6 su_4_4
        · exact kit_mk hd7 tC7 su_4_7 su_4_4
        · exact kit_mk hd8 tC8 su_4_8 su_4_4
        · exact kit_mk hd9 tC9 su_4_9 su_4_4
        · exact kit_mk hd10 tC10 su_4_10 su_4_4
        · exact kit_mk hd11 tC11 su_4_11 su_4_4
        · exact kit_mk hd12 tC12 su_4_12 su_4_4
        · exact kit_mk hd13 tC13 su_4_13 su_4_4
        · exact kit_mk hd14 tC14 su_4_14 su_4_4
      · rcases (by omega : j = 1 ∨ j = 2 ∨ j = 3 ∨ j = 4 ∨ j = 5 ∨ j = 6 ∨ j = 7 ∨ j = 8 ∨ j = 9 ∨ j = 10 ∨ j = 11 ∨ j = 12 ∨ j = 13 ∨ j = 14) with rfl | rfl | rfl | rfl | rfl | rfl | rfl | rfl | rfl | rfl | rfl | rfl | rfl | rfl
        · exact kit_mk hd1 tC1 su_5_1 su_5_5
        · exact kit_mk hd2 tC2 su_5_2 su_5_5
        · exact kit_mk hd3 tC3 su_5_3 su_5_5
        · exact kit_mk hd4 tC4 su_5_4 su_5_5
        · exact kit_mk hd5 tC5 su_5_5 su_5_5
        · exact kit_mk hd6 tC6 su_5_6 su_5_5
        · exact kit_mk hd7 tC7 su_5_7 su_5_5
        · exact kit_mk hd8 tC8 su_5_8 su_5_5
        · exact kit_mk hd9 tC9 su_5_9 su_5_5
        · exact kit_mk hd10 tC10 su_5_10 su_5_5
        · exact kit_mk hd11 tC11 su_5_11 su_5_5
        · exact kit_mk hd12 tC12 su_5_12 su_5_5
        · exact kit_mk hd13 tC13 su_5_13 su_5_5
        · exact kit_mk hd14 tC14 su_5_14 su_5_5
      · rcases (by omega : j = 1 ∨ j = 2 ∨ j = 3 ∨ j = 4 ∨ j = 5 ∨ j = 6 ∨ j = 7 ∨ j = 8 ∨ j = 9 ∨ j = 10 ∨ j = 11 ∨ j = 12 ∨ j = 13 ∨ j = 14) with rfl | rfl | rfl | rfl | rfl | rfl | rfl | rfl | rfl | rfl | rfl | rfl | rfl | rfl
        · exact kit_mk hd1 tC1 su_6_1 su_6_6
        · exact kit_mk hd2 tC2 su_6_2 su_6_6
        · exact kit_mk hd3 tC3 su_6_3 su_6_6
        · exact kit_mk hd4 tC4 su_6_4 su_6_6
        · exact kit_mk hd5 tC5 su_6_5 su_6_6
        · exact kit_mk hd6 tC6 su_6_6 su_6_6
        · exact kit_mk hd7 tC7 su_6_7 su_6_6
        · exact kit_mk hd8 tC8 su_6_8 su_6_6
        · exact kit_mk hd9 tC9 su_6_9 su_6_6
        · exact kit_mk hd10 tC10 su_6_10 su_6_6
        · exact kit_mk hd11 tC11 su_6_11 su_6_6
        · exact kit_mk hd12 tC12 su_6_12 su_6_6
        · exact kit_mk hd13 tC13 su_6_13 su_6_6
        · exact kit_mk hd14 tC14 su_6_14 su_6_6
      · rcases (by omega : j = 1 ∨ j = 2 ∨ j = 3 ∨ j = 4 ∨ j = 5 ∨ j = 6 ∨ j = 7 ∨ j = 8 ∨ j = 9 ∨ j = 10 ∨ j = 11 ∨ j = 12 ∨ j = 13 ∨ j = 14) with rfl | rfl | rfl | rfl | rfl | rfl | rfl | rfl | rfl | rfl | rfl | rfl | rfl | rfl
        · exact kit_mk hd1 tC1 su_7_1 su_7_7
        · exact kit_mk hd2 tC2 su_7_2 su_7_7
        · exact kit_mk hd3 tC3 su_7_3 su_7_7
        · exact kit_mk hd4 tC4 su_7_4 su_7_7
        · exact kit_mk hd5 tC5 su_7_5 su_7_7
        · exact kit_mk hd6 tC6 su_7_6 su_7_7
        · exact kit_mk hd7 tC7 su_7_7 su_7_7
        · exact kit_mk hd8 tC8 su_7_8 su_7_7
        · exact kit_mk hd9 tC9 su_7_9 su_7_7
        · exact kit_mk hd10 tC10 su_7_10 su_7_7
        · exact kit_mk hd11 tC11 su_7_11 su_7_7
        · exact kit_mk hd12 tC12 su_7_12 su_7_7
        · exact kit_mk hd13 tC13 su_7_13 su_7_7
        · exact kit_mk hd14 tC14 su_7_14 su_7_7
      · rcases (by omega : j = 1 ∨ j = 2 ∨ j = 3 ∨ j = 4 ∨ j = 5 ∨ j = 6 ∨ j = 7 ∨ j = 8 ∨ j = 9 ∨ j = 10 ∨ j = 11 ∨ j = 12 ∨ j = 13 ∨ j = 14) with rfl | rfl | rfl | rfl | rfl | rfl | rfl | rfl | rfl | rfl | rfl | rfl | rfl | rfl
        · exact kit_mk hd1 tC1 su_8_1 su_8_8
        · exact kit_mk hd2 tC2 su_8_2 su_8_8
        · exact kit_mk hd3 tC3 su_8_3 su_8_8
        · exact kit_mk hd4 tC4 su_8_4 su_8_8
        · exact kit_mk hd5 tC5 su_8_5 su_8_8
        · exact kit_mk hd6 tC6 su_8_6 su_8_8
        · exact kit_mk hd7 tC7 su_8_7 su_8_8
        · exact kit_mk hd8 tC8 su_8_8 su_8_8
        · exact kit_mk hd9 tC9 su_8_9 su_8_8
        · exact kit_mk hd10 tC10 su_8_10 su_8_8
        · exact kit_mk hd11 tC11 su_8_11 su_8_8
        · exact kit_mk hd12 tC12 su_8_12 su_8_8
        · exact kit_mk hd13 tC13 su_8_13 su_8_8
        · exact kit_mk hd14 tC14 su_8_14 su_8_8
      · rcases (by omega : j = 1 ∨ j = 2 ∨ j = 3 ∨ j = 4 ∨ j = 5 ∨ j = 6 ∨ j = 7 ∨ j = 8 ∨ j = 9 ∨ j = 10 ∨ j = 11 ∨ j = 12 ∨ j = 13 ∨ j = 14) with rfl | rfl | rfl | rfl | rfl | rfl | rfl | rfl | rfl | rfl | rfl | rfl | rfl | rfl
        · exact kit_mk hd1 tC1 su_9_1 su_9_9
        · exact kit_mk hd2 tC2 su_9_2 su_9_9
        · exact kit_mk hd3 tC3 su_9_3 su_9_9
        · exact kit_mk hd4 tC4 su_9_4 su_9_9
        · exact kit_mk hd5 tC5 su_9_5 su_9_9
        · exact kit_mk hd6 tC6 su_9_6 su_9_9
        · exact kit_mk hd7 tC7 su_9_7 su_9_9
        · exact kit_mk hd8 tC8 su_9_8 su_9_9
        · exact kit_mk hd9 tC9 su_9_9 su_9_9
        · exact kit_mk hd10 tC10 su_9_10 su_9_9
        · exact kit_mk hd11 tC11 su_9_11 su_9_9
        · exact kit_mk hd12 tC12 su_9_12 su_9_9
        · exact kit_mk hd13 tC13 su_9_13 su_9_9
        · exact kit_mk hd14 tC14 su_9_14 su_9_9
      · rcases (by omega : j = 1 ∨ j = 2 ∨ j = 3 ∨ j = 4 ∨ j = 5 ∨ j = 6 ∨ j = 7 ∨ j = 8 ∨ j = 9 ∨ j = 10 ∨ j = 11 ∨ j = 12 ∨ j = 13 ∨ j = 14) with rfl | rfl | rfl | rfl | rfl | rfl | rfl | rfl | rfl | rfl | rfl | rfl | rfl | rfl
        · exact kit_mk hd1 tC1 su_10_1 su_10_10
        · exact kit_mk hd2 tC2 su_10_2 su_10_10
        · exact kit_mk hd3 tC3 su_10_3 su_10_10
        · exact kit_mk hd4 tC4 su_10_4 su_10_10
        · exact kit_mk hd5 tC5 su_10_5 su_10_10
        · exact kit_mk hd6 tC6 su_10_6 su_10_10
        · exact kit_mk hd7 tC7 su_10_7 su_10_10
        · exact kit_mk hd8 tC8 su_10_8 su_10_10
        · exact kit_mk hd9 tC9 su_10_9 su_10_10
        · exact kit_mk hd10 tC10 su_10_10 su_10_10
        · exact kit_mk hd11 tC11 su_10_11 su_10_10
        · exact kit_mk hd12 tC12 su_10_12 su_10_10
        · exact kit_mk hd13 tC13 su_10_13 su_10_10
        · exact kit_mk hd14 tC14 su_10_14 su_10_10
      · rcases (by omega : j = 1 ∨ j = 2 ∨ j = 3 ∨ j = 4 ∨ j = 5 ∨ j = 6 ∨ j = 7 ∨ j = 8 ∨ j = 9 ∨ j = 10 ∨ j = 11 ∨ j = 12 ∨ j = 13 ∨ j = 14) with rfl | rfl | rfl | rfl | rfl | rfl | rfl | rfl | rfl | rfl | rfl | rfl | rfl | rfl
        · exact kit_mk hd1 tC1 su_11_1 su_11_11
        · exact kit_mk hd2 tC2 su_11_2 su_11_11
        · exact kit_mk hd3 tC3 su_11_3 su_11_11
        · exact kit_mk hd4 tC4 su_11_4 su_11_11
        · exact kit_mk hd5 tC5 su_11_5 su_11_11
        · exact kit_mk hd6 tC6 su_11_6 su_11_11
        · exact kit_mk hd7 tC7 su_11_7 su_11_11
        · exact kit_mk hd8 tC8 su_11_8 su_11_11
        · exact kit_mk hd9 tC9 su_11_9 su_11_11
        · exact kit_mk hd10 tC10 su_11_10 su_11_11
        · exact kit_mk hd11 tC11 su_11_11 su_11_11
        · exact kit_mk hd12 tC12 su_11_12 su_11_11
        · exact kit_mk hd13 tC13 su_11_13 su_11_11
        · exact kit_mk hd14 tC14 su_11_14 su_11_11
      · rcases (by omega : j = 1 ∨ j = 2 ∨ j = 3 ∨ j = 4 ∨ j = 5 ∨ j = 6 ∨ j = 7 ∨ j = 8 ∨ j = 9 ∨ j = 10 ∨ j = 11 ∨ j = 12 ∨ j = 13 ∨ j = 14) with rfl | rfl | rfl | rfl | rfl | rfl | rfl | rfl | rfl | rfl | rfl | rfl | rfl | rfl
        · exact kit_mk hd1 tC1 su_12_1 su_12_12
        · exact kit_mk hd2 tC2 su_12_2 su_12_12
        · exact kit_mk hd3 tC3 su_12_3 su_12_12
        · exact kit_mk hd4 tC4 su_12_4 su_12_12
        · exact kit_mk hd5 tC5 su_12_5 su_12_12
        · exact kit_mk hd6 tC6 su_12_6 su_12_12
        · exact kit_mk hd7 tC7 su_12_7 su_12_12
        · exact kit_mk hd8 tC8 su_12_8 su_12_12
        · exact kit_mk hd9 tC9 su_12_9 su_12_12
        · exact kit_mk hd10 tC10 su_12_10 su_12_12
        · exact kit_mk hd11 tC11 su_12_11 su_12_12
        · exact kit_mk hd12 tC12 su_12_12 su_12_12
        · exact kit_mk hd13 tC13 su_12_13 su_12_12
        · exact kit_mk hd14 tC14 su_12_14 su_12_12
      · rcases (by omega : j = 1 ∨ j = 2 ∨ j = 3 ∨ j = 4 ∨ j = 5 ∨ j = 6 ∨ j = 7 ∨ j = 8 ∨ j = 9 ∨ j = 10 ∨ j = 11 ∨ j = 12 ∨ j = 13 ∨ j = 14) with rfl | rfl | rfl | rfl | rfl | rfl | rfl | rfl | rfl | rfl | rfl | rfl | rfl | rfl
        · exact kit_mk hd1 tC1 su_13_1 su_13_13
        · exact kit_mk hd2 tC2 su_13_2 su_13_13
        · exact kit_mk hd3 tC3 su_13_3 su_13_13
        · exact kit_mk hd4 tC4 su_13_4 su_13_13
        · exact kit_mk hd5 tC5 su_13_5 su_13_13
        · exact kit_mk hd6 tC6 su_13_6 su_13_13
        · exact kit_mk hd7 tC7 su_13_7 su_13_13
        · exact kit_mk hd8 tC8 su_13_8 su_13_13
        · exact kit_mk hd9 tC9 su_13_9 su_13_13
        · exact kit_mk hd10 tC10 su_13_10 su_13_13
        · exact kit_mk hd11 tC11 su_13_11 su_13_13
        · exact kit_mk hd12 tC12 su_13_12 su_13_13
        · exact kit_mk hd13 tC13 su_13_13 su_13_13
        · exact kit_mk hd14 tC14 su_13_14 su_13_13
      · rcases (by omega : j = 1 ∨ j = 2 ∨ j = 3 ∨ j = 4 ∨ j = 5 ∨ j = 6 ∨ j = 7 ∨ j = 8 ∨ j = 9 ∨ j = 10 ∨ j = 11 ∨ j = 12 ∨ j = 13 ∨ j = 14) with rfl | rfl | rfl | rfl | rfl | rfl | rfl | rfl | rfl | rfl | rfl | rfl | rfl | rfl
        · exact kit_mk hd1 tC1 su_14_1 su_14_14
        · exact kit_mk hd2 tC2 su_14_2 su_14_14
        · exact kit_mk hd3 tC3 su_14_3 su_14_14
        · exact kit_mk hd4 tC4 su_14_4 su_14_14
        · exact kit_mk hd5 tC5 su_14_5 su_14_14
        · exact kit_mk hd6 tC6 su_14_6 su_14_14
        · exact kit_mk hd7 tC7 su_14_7 su_14_14
        · exact kit_mk hd8 tC8 su_14_8 su_14_14
        · exact kit_mk hd9 tC9 su_14_9 su_14_14
        · exact kit_mk hd10 tC10 su_14_10 su_14_14
        · exact kit_mk hd11 tC11 su_14_11 su_14_14
        · exact kit_mk hd12 tC12 su_14_12 su_14_14
        · exact kit_mk hd13 tC13 su_14_13 su_14_14
        · exact kit_mk hd14 tC14 su_14_14 su_14_14)
    fld := (fun p hp => by
      rcases (by omega : p = 0 ∨ p = 1 ∨ p = 2 ∨ p = 3 ∨ p = 4 ∨ p = 5 ∨ p = 6 ∨ p = 7 ∨ p = 8 ∨ p = 9 ∨ p = 10 ∨ p = 11) with rfl | rfl | rfl | rfl | rfl | rfl | rfl | rfl | rfl | rfl | rfl | rfl
      · exact fl0
      · exact fl1
      · exact fl2
      · exact fl3
      · exact fl4
      · exact fl5
      · exact fl6
      · exact fl7
      · exact fl8
      · exact fl9
      · exact fl10
      · exact fl11)
    fldB := flB
    fldE := flE }
  have c_CellError : ∃ u, mg "CellError" = some u ∧ RelV (V.ref (cl 0)) u := ⟨_, PySem.W.mg_of X Gg aC0, rfl⟩
  have c_NoIndex : ∃ u, mg "NoIndex" = some u ∧ RelV (V.ref (cl 1)) u := ⟨_, PySem.W.mg_of X Gg aC1, rfl⟩
  have T_NoIndex : OexC K (cl 1) := ox1
  have gm_NoIndex : mg "NoIndex" = some (.ref (cl 1)) := PySem.W.mg_of X Gg aC1
  have iC_NoIndex : PySem.W.findIn K (.ref (cl 1)) "__init__" = some (some (.ref fi1)) := iC1
  have tI_NoIndex := iT1
  have FI1 := fun_mk (st := s_init_NoIndex) iL1 iD1 iK1
  have G_NoIndex := ok_init_NoIndex (P := P) (w := w) (mg := mg) (base := base) FI1
  have b_NoIndex := bindsG (ps := ["self", "index"]) FI1 fun _ _ _ _ _ _ us hl => match us, hl with | [_, _], _ => rfl
  have bw0_NoIndex := bindsW (ps := ["self", "index"]) (ks := ["index"]) (n := 1) (pi := (fun {α : Type} (us ws : List α) => us ++ [(ws.drop 0).head?].filterMap id)) FI1 (fun _ _ _ _ _ _ us ws hu hw => match us, hu, ws, hw with | [_], _, [_], _ => rfl)
  have bw_NoIndex : ∀ (s : Value) (ws : List Value), ws.length = (["index"] : List Str).length → bindArgs _ ⟨[s], (["index"] : List Str).zip ws⟩ = pure ((["self", "index"] : List Str).zip (s :: (fun {α : Type} (ws : List α) => [(ws.drop 0).head?].filterMap id) ws)) := fun s ws hw => bw0_NoIndex [s] ws rfl hw
  have rl_NoIndex : ∀ (zs : List V) (ws : List Value), ws.length = (["index"] : List Str).length → Vals zs ws → Vals ((fun {α : Type} (ws : List α) => [(ws.drop 0).head?].filterMap id) zs) ((fun {α : Type} (ws : List α) => [(ws.drop 0).head?].filterMap id) ws) := fun zs ws hw rw => by
    match ws, hw with
    | [w0], _ => (cases rw with | cons y0 rw => cases rw; exact .cons y0 (.nil))
  have c_NoValue : ∃ u, mg "NoValue" = some u ∧ RelV (V.ref (cl 2)) u := ⟨_, PySem.W.mg_of X Gg aC2, rfl⟩
  have T_NoValue : OexC K (cl 2) := ox2
  have gm_NoValue : mg "NoValue" = some (.ref (cl 2)) := PySem.W.mg_of X Gg aC2
  have iC_NoValue : PySem.W.findIn K (.ref (cl 2)) "__init__" = some (some (.ref fi2)) := iC2
  have tI_NoValue := iT2
  have FI2 := fun_mk (st := s_init_NoValue) iL2 iD2 iK2
  have G_NoValue := ok_init_NoValue (P := P) (w := w) (mg := mg) (base := base) FI2
  have b_NoValue := bindsG (ps := ["self", "value"]) FI2 fun _ _ _ _ _ _ us hl => match us, hl with | [_, _], _ => rfl
  have bw0_NoValue := bindsW (ps := ["self", "value"]) (ks := ["value"]) (n := 1) (pi := (fun {α : Type} (us ws : List α) => us ++ [(ws.drop 0).head?].filterMap id)) FI2 (fun _ _ _ _ _ _ us ws hu hw => match us, hu, ws, hw with | [_], _, [_], _ => rfl)
  have bw_NoValue : ∀ (s : Value) (ws : List Value), ws.length = (["value"] : List Str).length → bindArgs _ ⟨[s], (["value"] : List Str).zip ws⟩ = pure ((["self", "value"] : List Str).zip (s :: (fun {α : Type} (ws : List α) => [(ws.drop 0).head?].filterMap id) ws)) := fun s ws hw => bw0_NoValue [s] ws rfl hw
  have rl_NoValue : ∀ (zs : List V) (ws : List Value), ws.length = (["value"] : List Str).length → Vals zs ws → Vals ((fun {α : Type} (ws : List α) => [(ws.drop 0).head?].filterMap id) zs) ((fun {α : Type} (ws : List α) => [(ws.drop 0).head?].filterMap id) ws) := fun zs ws hw rw => by
    match ws, hw with
    | [w0], _ => (cases rw with | cons y0 rw => cases rw; exact .cons y0 (.nil))
  have c_Unexplained : ∃ u, mg "Unexplained" = some u ∧ RelV (V.ref (cl 3)) u := ⟨_, PySem.W.mg_of X Gg aC3, rfl⟩
  have T_Unexplained : OexC K (cl 3) := ox3
  have gm_Unexplained : mg "Unexplained" = some (.ref (cl 3)) := PySem.W.mg_of X Gg aC3
  have iC_Unexplained : PySem.W.findIn K (.ref (cl 3)) "__init__" = some (some (.ref fi3)) := iC3
  have tI_Unexplained := iT3
  have FI3 := fun_mk (st := s_init_Unexplained) iL3 iD3 iK3
  have G_Unexplained := ok_init_Unexplained (P := P) (w := w) (mg := mg) (base := base) FI3
  have b_Unexplained := bindsG (ps := ["self", "fault"]) FI3 fun _ _ _ _ _ _ us hl => match us, hl with | [_, _], _ => rfl
  have bw0_Unexplained := bindsW (ps := ["self", "fault"]) (ks := ["fault"]) (n := 1) (pi := (fun {α : Type} (us ws : List α) => us ++ [(ws.drop 0).head?].filterMap id)) FI3 (fun _ _ _ _ _ _ us ws hu hw => match us, hu, ws, hw with | [_], _, [_], _ => rfl)
  have bw_Unexplained : ∀ (s : Value) (ws : List Value), ws.length = (["fault"] : List Str).length → bindArgs _ ⟨[s], (["fault"] : List Str).zip ws⟩ = pure ((["self", "fault"] : List Str).zip (s :: (fun {α : Type} (ws : List α) => [(ws.drop 0).head?].filterMap id) ws)) := fun s ws hw => bw0_Unexplained [s] ws rfl hw
  have rl_Unexplained : ∀ (zs : List V) (ws : List Value), ws.length = (["fault"] : List Str).length → Vals zs ws → Vals ((fun {α : Type} (ws : List α) => [(ws.drop 0).head?].filterMap id) zs) ((fun {α : Type} (ws : List α) => [(ws.drop 0).head?].filterMap id) ws) := fun zs ws hw rw => by
    match ws, hw with
    | [w0], _ => (cases rw with | cons y0 rw => cases rw; exact .cons y0 (.nil))
  have c_BadOrder : ∃ u, mg "BadOrder" = some u ∧ RelV (V.ref (cl 4)) u := ⟨_, PySem.W.mg_of X Gg aC4, rfl⟩
  have T_BadOrder : OexC K (cl 4) := ox4
  have gm_BadOrder : mg "BadOrder" = some (.ref (cl 4)) := PySem.W.mg_of X Gg aC4
  have iC_BadOrder : PySem.W.findIn K (.ref (cl 4)) "__init__" = some (some (.ref fi4)) := iC4
  have tI_BadOrder := iT4
  have FI4 := fun_mk (st := s_init_BadOrder) iL4 iD4 iK4
  have G_BadOrder := ok_init_BadOrder (P := P) (w := w) (mg := mg) (base := base) FI4
  have b_BadOrder := bindsG (ps := ["self", "value"]) FI4 fun _ _ _ _ _ _ us hl => match us, hl with | [_, _], _ => rfl
  have bw0_BadOrder := bindsW (ps := ["self", "value"]) (ks := ["value"]) (n := 1) (pi := (fun {α : Type} (us ws : List α) => us ++ [(ws.drop 0).head?].filterMap id)) FI4 (fun _ _ _ _ _ _ us ws hu hw => match us, hu, ws, hw with | [_], _, [_], _ => rfl)
  have bw_BadOrder : ∀ (s : Value) (ws : List Value), ws.length = (["value"] : List Str).length → bindArgs _ ⟨[s], (["value"] : List Str).zip ws⟩ = pure ((["self", "value"] : List Str).zip (s :: (fun {α : Type} (ws : List α) => [(ws.drop 0).head?].filterMap id) ws)) := fun s ws hw => bw0_BadOrder [s] ws rfl hw
  have rl_BadOrder : ∀ (zs : List V) (ws : List Value), ws.length = (["value"] : List Str).length → Vals zs ws → Vals ((fun {α : Type} (ws : List α) => [(ws.drop 0).head?].filterMap id) zs) ((fun {α : Type} (ws : List α) => [(ws.drop 0).head?].filterMap id) ws) := fun zs ws hw rw => by
    match ws, hw with
    | [w0], _ => (cases rw with | cons y0 rw => cases rw; exact .cons y0 (.nil))
  have c_NoPosition : ∃ u, mg "NoPosition" = some u ∧ RelV (V.ref (cl 5)) u := ⟨_, PySem.W.mg_of X Gg aC5, rfl⟩
  have T_NoPosition : OexC K (cl 5) := ox5
  have gm_NoPosition : mg "NoPosition" = some (.ref (cl 5)) := PySem.W.mg_of X Gg aC5
  have iC_NoPosition : PySem.W.findIn K (.ref (cl 5)) "__init__" = some (some (.ref fi5)) := iC5
  have tI_NoPosition := iT5
  have FI5 := fun_mk (st := s_init_NoPosition) iL5 iD5 iK5
  have G_NoPosition := ok_init_NoPosition (P := P) (w := w) (mg := mg) (base := base) FI5
  have b_NoPosition := bindsG (ps := ["self", "position"]) FI5 fun _ _ _ _ _ _ us hl => match us, hl with | [_, _], _ => rfl
  have bw0_NoPosition := bindsW (ps := ["self", "position"]) (ks := ["position"]) (n := 1) (pi := (fun {α : Type} (us ws : List α) => us ++ [(ws.drop 0).head?].filterMap id)) FI5 (fun _ _ _ _ _ _ us ws hu hw => match us, hu, ws, hw with | [_], _, [_], _ => rfl)
  have bw_NoPosition : ∀ (s : Value) (ws : List Value), ws.length = (["position"] : List Str).length → bindArgs _ ⟨[s], (["position"] : List Str).zip ws⟩ = pure ((["self", "position"] : List Str).zip (s :: (fun {α : Type} (ws : List α) => [(ws.drop 0).head?].filterMap id) ws)) := fun s ws hw => bw0_NoPosition [s] ws rfl hw
  have rl_NoPosition : ∀ (zs : List V) (ws : List Value), ws.length = (["position"] : List Str).length → Vals zs ws → Vals ((fun {α : Type} (ws : List α) => [(ws.drop 0).head?].filterMap id) zs) ((fun {α : Type} (ws : List α) => [(ws.drop 0).head?].filterMap id) ws) := fun zs ws hw rw => by
    match ws, hw with
    | [w0], _ => (cases rw with | cons y0 rw => cases rw; exact .cons y0 (.nil))
  have c_BadStamps : ∃ u, mg "BadStamps" = some u ∧ RelV (V.ref (cl 6)) u := ⟨_, PySem.W.mg_of X Gg aC6, rfl⟩
  have T_BadStamps : OexC K (cl 6) := ox6
  have gm_BadStamps : mg "BadStamps" = some (.ref (cl 6)) := PySem.W.mg_of X Gg aC6
  have iC_BadStamps : PySem.W.findIn K (.ref (cl 6)) "__init__" = some (some (.ref fi6)) := iC6
  have tI_BadStamps := iT6
  have FI6 := fun_mk (st := s_init_BadStamps) iL6 iD6 iK6
  have G_BadStamps := ok_init_BadStamps (P := P) (w := w) (mg := mg) (base := base) FI6
  have b_BadStamps := bindsG (ps := ["self", "begin", "end"]) FI6 fun _ _ _ _ _ _ us hl => match us, hl with | [_, _, _], _ => rfl
  have bw0_BadStamps := bindsW (ps := ["self", "begin", "end"]) (ks := ["end", "begin"]) (n := 1) (pi := (fun {α : Type} (us ws : List α) => us ++ [(ws.drop 1).head?, (ws.drop 0).head?].filterMap id)) FI6 (fun _ _ _ _ _ _ us ws hu hw => match us, hu, ws, hw with | [_], _, [_, _], _ => rfl)
  have bw_BadStamps : ∀ (s : Value) (ws : List Value), ws.length = (["end", "begin"] : List Str).length → bindArgs _ ⟨[s], (["end", "begin"] : List Str).zip ws⟩ = pure ((["self", "begin", "end"] : List Str).zip (s :: (fun {α : Type} (ws : List α) => [(ws.drop 1).head?, (ws.drop 0).head?].filterMap id) ws)) := fun s ws hw => bw0_BadStamps [s] ws rfl hw
  have rl_BadStamps : ∀ (zs : List V) (ws : List Value), ws.length = (["end", "begin"] : List Str).length → Vals zs ws → Vals ((fun {α : Type} (ws : List α) => [(ws.drop 1).head?, (ws.drop 0).head?].filterMap id) zs) ((fun {α : Type} (ws : List α) => [(ws.drop 1).head?, (ws.drop 0).head?].filterMap id) ws) := fun zs ws hw rw => by
    match ws, hw with
    | [w0, w1], _ => (cases rw with | cons y0 rw => (cases rw with | cons y1 rw => cases rw; exact .cons y1 (.cons y0 (.nil))))
  have c_BadLog : ∃ u, mg "BadLog" = some u ∧ RelV (V.ref (cl 7)) u := ⟨_, PySem.W.mg_of X Gg aC7, rfl⟩
  have T_BadLog : OexC K (cl 7) := ox7
  have gm_BadLog : mg "BadLog" = some (.ref (cl 7)) := PySem.W.mg_of X Gg aC7
  have iC_BadLog : PySem.W.findIn K (.ref (cl 7)) "__init__" = some (some (.ref fi7)) := iC7
  have tI_BadLog := iT7
  have FI7 := fun_mk (st := s_init_BadLog) iL7 iD7 iK7
  have G_BadLog := ok_init_BadLog (P := P) (w := w) (mg := mg) (base := base) FI7
  have b_BadLog := bindsG (ps := ["self", "value"]) FI7 fun _ _ _ _ _ _ us hl => match us, hl with | [_, _], _ => rfl
  have bw0_BadLog := bindsW (ps := ["self", "value"]) (ks := ["value"]) (n := 1) (pi := (fun {α : Type} (us ws : List α) => us ++ [(ws.drop 0).head?].filterMap id)) FI7 (fun _ _ _ _ _ _ us ws hu hw => match us, hu, ws, hw with | [_], _, [_], _ => rfl)
  have bw_BadLog : ∀ (s : Value) (ws : List Value), ws.length = (["value"] : List Str).length → bindArgs _ ⟨[s], (["value"] : List Str).zip ws⟩ = pure ((["self", "value"] : List Str).zip (s :: (fun {α : Type} (ws : List α) => [(ws.drop 0).head?].filterMap id) ws)) := fun s ws hw => bw0_BadLog [s] ws rfl hw
  have rl_BadLog : ∀ (zs : List V) (ws : List Value), ws.length = (["value"] : List Str).length → Vals zs ws → Vals ((fun {α : Type} (ws : List α) => [(ws.drop 0).head?].filterMap id) zs) ((fun {α : Type} (ws : List α) => [(ws.drop 0).head?].filterMap id) ws) := fun zs ws hw rw => by
    match ws, hw with
    | [w0], _ => (cases rw with | cons y0 rw => cases rw; exact .cons y0 (.nil))
  have c_BadTolerance : ∃ u, mg "BadTolerance" = some u ∧ RelV (V.ref (cl 8)) u := ⟨_, PySem.W.mg_of X Gg aC8, rfl⟩
  have T_BadTolerance : OexC K (cl 8) := ox8
  have gm_BadTolerance : mg "BadTolerance" = some (.ref (cl 8)) := PySem.W.mg_of X Gg aC8
  have iC_BadTolerance : PySem.W.findIn K (.ref (cl 8)) "__init__" = some (some (.ref fi8)) := iC8
  have tI_BadTolerance := iT8
  have FI8 := fun_mk (st := s_init_BadTolerance) iL8 iD8 iK8
  have G_BadTolerance := ok_init_BadTolerance (P := P) (w := w) (mg := mg) (base := base) FI8
  have b_BadTolerance := bindsG (ps := ["self", "value"]) FI8 fun _ _ _ _ _ _ us hl => match us, hl with | [_, _], _ => rfl
  have bw0_BadTolerance := bindsW (ps := ["self", "value"]) (ks := ["value"]) (n := 1) (pi := (fun {α : Type} (us ws : List α) => us ++ [(ws.drop 0).head?].filterMap id)) FI8 (fun _ _ _ _ _ _ us ws hu hw => match us, hu, ws, hw with | [_], _, [_], _ => rfl)
  have bw_BadTolerance : ∀ (s : Value) (ws : List Value), ws.length = (["value"] : List Str).length → bindArgs _ ⟨[s], (["value"] : List Str).zip ws⟩ = pure ((["self", "value"] : List Str).zip (s :: (fun {α : Type} (ws : List α) => [(ws.drop 0).head?].filterMap id) ws)) := fun s ws hw => bw0_BadTolerance [s] ws rfl hw
  have rl_BadTolerance : ∀ (zs : List V) (ws : List Value), ws.length = (["value"] : List Str).length → Vals zs ws → Vals ((fun {α : Type} (ws : List α) => [(ws.drop 0).head?].filterMap id) zs) ((fun {α : Type} (ws : List α) => [(ws.drop 0).head?].filterMap id) ws) := fun zs ws hw rw => by
    match ws, hw with
    | [w0], _ => (cases rw with | cons y0 rw => cases rw; exact .cons y0 (.nil))
  have c_BadOperation : ∃ u, mg "BadOperation" = some u ∧ RelV (V.ref (cl 9)) u := ⟨_, PySem.W.mg_of X Gg aC9, rfl⟩
  have T_BadOperation : OexC K (cl 9) := ox9
  have gm_BadOperation : mg "BadOperation" = some (.ref (cl 9)) := PySem.W.mg_of X Gg aC9
  have iC_BadOperation : PySem.W.findIn K (.ref (cl 9)) "__init__" = some (some (.ref fi9)) := iC9
  have tI_BadOperation := iT9
  have FI9 := fun_mk (st := s_init_BadOperation) iL9 iD9 iK9
  have G_BadOperation := ok_init_BadOperation (P := P) (w := w) (mg := mg) (base := base) FI9
  have b_BadOperation := bindsG (ps := ["self", "operation"]) FI9 fun _ _ _ _ _ _ us hl => match us, hl with | [_, _], _ => rfl
  have bw0_BadOperation := bindsW (ps := ["self", "operation"]) (ks := ["operation"]) (n := 1) (pi := (fun {α : Type} (us ws : List α) => us ++ [(ws.drop 0).head?].filterMap id)) FI9 (fun _ _ _ _ _ _ us ws hu hw => match us, hu, ws, hw with | [_], _, [_], _ => rfl)
  have bw_BadOperation : ∀ (s : Value) (ws : List Value), ws.length = (["operation"] : List Str).length → bindArgs _ ⟨[s], (["operation"] : List Str).zip ws⟩ = pure ((["self", "operation"] : List Str).zip (s :: (fun {α : Type} (ws : List α) => [(ws.drop 0).head?].filterMap id) ws)) := fun s ws hw => bw0_BadOperation [s] ws rfl hw
  have rl_BadOperation : ∀ (zs : List V) (ws : List Value), ws.length = (["operation"] : List Str).length → Vals zs ws → Vals ((fun {α : Type} (ws : List α) => [(ws.drop 0).head?].filterMap id) zs) ((fun {α : Type} (ws : List α) => [(ws.drop 0).head?].filterMap id) ws) := fun zs ws hw rw => by
    match ws, hw with
    | [w0], _ => (cases rw with | cons y0 rw => cases rw; exact .cons y0 (.nil))
  have c_Written : ∃ u, mg "Written" = some u ∧ RelV (V.ref (cl 10)) u := ⟨_, PySem.W.mg_of X Gg aC10, rfl⟩
  have T_Written : OexC K (cl 10) := ox10
  have gm_Written : mg "Written" = some (.ref (cl 10)) := PySem.W.mg_of X Gg aC10
  have iC_Written : PySem.W.findIn K (.ref (cl 10)) "__init__" = some (some (.ref fi10)) := iC10
  have tI_Written := iT10
  have FI10 := fun_mk (st := s_init_Written) iL10 iD10 iK10
  have G_Written := ok_init_Written (P := P) (w := w) (mg := mg) (base := base) FI10
  have b_Written := bindsG (ps := ["self", "value"]) FI10 fun _ _ _ _ _ _ us hl => match us, hl with | [_, _], _ => rfl
  have bw0_Written := bindsW (ps := ["self", "value"]) (ks := ["value"]) (n := 1) (pi := (fun {α : Type} (us ws : List α) => us ++ [(ws.drop 0).head?].filterMap id)) FI10 (fun _ _ _ _ _ _ us ws hu hw => match us, hu, ws, hw with | [_], _, [_], _ => rfl)
  have bw_Written : ∀ (s : Value) (ws : List Value), ws.length = (["value"] : List Str).length → bindArgs _ ⟨[s], (["value"] : List Str).zip ws⟩ = pure ((["self", "value"] : List Str).zip (s :: (fun {α : Type} (ws : List α) => [(ws.drop 0).head?].filterMap id) ws)) := fun s ws hw => bw0_Written [s] ws rfl hw
  have rl_Written : ∀ (zs : List V) (ws : List Value), ws.length = (["value"] : List Str).length → Vals zs ws → Vals ((fun {α : Type} (ws : List α) => [(ws.drop 0).head?].filterMap id) zs) ((fun {α : Type} (ws : List α) => [(ws.drop 0).head?].filterMap id) ws) := fun zs ws hw rw => by
    match ws, hw with
    | [w0], _ => (cases rw with | cons y0 rw => cases rw; exact .cons y0 (.nil))
  have c_TooMany : ∃ u, mg "TooMany" = some u ∧ RelV (V.ref (cl 11)) u := ⟨_, PySem.W.mg_of X Gg aC11, rfl⟩
  have T_TooMany : OexC K (cl 11) := ox11
  have gm_TooMany : mg "TooMany" = some (.ref (cl 11)) := PySem.W.mg_of X Gg aC11
  have iC_TooMany : PySem.W.findIn K (.ref (cl 11)) "__init__" = some (some (.ref fi11)) := iC11
  have tI_TooMany := iT11
  have FI11 := fun_mk (st := s_init_TooMany) iL11 iD11 iK11
  have G_TooMany := ok_init_TooMany (P := P) (w := w) (mg := mg) (base := base) FI11
  have b_TooMany := bindsG (ps := ["self", "limit"]) FI11 fun _ _ _ _ _ _ us hl => match us, hl with | [_, _], _ => rfl
  have bw0_TooMany := bindsW (ps := ["self", "limit"]) (ks := ["limit"]) (n := 1) (pi := (fun {α : Type} (us ws : List α) => us ++ [(ws.drop 0).head?].filterMap id)) FI11 (fun _ _ _ _ _ _ us ws hu hw => match us, hu, ws, hw with | [_], _, [_], _ => rfl)
  have bw_TooMany : ∀ (s : Value) (ws : List Value), ws.length = (["limit"] : List Str).length → bindArgs _ ⟨[s], (["limit"] : List Str).zip ws⟩ = pure ((["self", "limit"] : List Str).zip (s :: (fun {α : Type} (ws : List α) => [(ws.drop 0).head?].filterMap id) ws)) := fun s ws hw => bw0_TooMany [s] ws rfl hw
  have rl_TooMany : ∀ (zs : List V) (ws : List Value), ws.length = (["limit"] : List Str).length → Vals zs ws → Vals ((fun {α : Type} (ws : List α) => [(ws.drop 0).head?].filterMap id) zs) ((fun {α : Type} (ws : List α) => [(ws.drop 0).head?].filterMap id) ws) := fun zs ws hw rw => by
    match ws, hw with
    | [w0], _ => (cases rw with | cons y0 rw => cases rw; exact .cons y0 (.nil))
  have c_NothingToUndo : ∃ u, mg "NothingToUndo" = some u ∧ RelV (V.ref (cl 12)) u := ⟨_, PySem.W.mg_of X Gg aC12, rfl⟩
  have T_NothingToUndo : OexC K (cl 12) := ox12
  have gm_NothingToUndo : mg "NothingToUndo" = some (.ref (cl 12)) := PySem.W.mg_of X Gg aC12
  have iC_NothingToUndo : PySem.W.findIn K (.ref (cl 12)) "__init__" = some (some (.builtin "ValueError.__init__")) := iC12
  have c_BadText : ∃ u, mg "BadText" = some u ∧ RelV (V.ref (cl 13)) u := ⟨_, PySem.W.mg_of X Gg aC13, rfl⟩
  have T_BadText : OexC K (cl 13) := ox13
  have gm_BadText : mg "BadText" = some (.ref (cl 13)) := PySem.W.mg_of X Gg aC13
  have iC_BadText : PySem.W.findIn K (.ref (cl 13)) "__init__" = some (some (.ref fi13)) := iC13
  have tI_BadText := iT13
  have FI13 := fun_mk (st := s_init_BadText) iL13 iD13 iK13
  have G_BadText := ok_init_BadText (P := P) (w := w) (mg := mg) (base := base) FI13
  have b_BadText := bindsG (ps := ["self", "value"]) FI13 fun _ _ _ _ _ _ us hl => match us, hl with | [_, _], _ => rfl
  have bw0_BadText := bindsW (ps := ["self", "value"]) (ks := ["value"]) (n := 1) (pi := (fun {α : Type} (us ws : List α) => us ++ [(ws.drop 0).head?].filterMap id)) FI13 (fun _ _ _ _ _ _ us ws hu hw => match us, hu, ws, hw with | [_], _, [_], _ => rfl)
  have bw_BadText : ∀ (s : Value) (ws : List Value), ws.length = (["value"] : List Str).length → bindArgs _ ⟨[s], (["value"] : List Str).zip ws⟩ = pure ((["self", "value"] : List Str).zip (s :: (fun {α : Type} (ws : List α) => [(ws.drop 0).head?].filterMap id) ws)) := fun s ws hw => bw0_BadText [s] ws rfl hw
  have rl_BadText : ∀ (zs : List V) (ws : List Value), ws.length = (["value"] : List Str).length → Vals zs ws → Vals ((fun {α : Type} (ws : List α) => [(ws.drop 0).head?].filterMap id) zs) ((fun {α : Type} (ws : List α) => [(ws.drop 0).head?].filterMap id) ws) := fun zs ws hw rw => by
    match ws, hw with
    | [w0], _ => (cases rw with | cons y0 rw => cases rw; exact .cons y0 (.nil))
  have c_BadLine : ∃ u, mg "BadLine" = some u ∧ RelV (V.ref (cl 14)) u := ⟨_, PySem.W.mg_of X Gg aC14, rfl⟩
  have T_BadLine : OexC K (cl 14) := ox14
  have gm_BadLine : mg "BadLine" = some (.ref (cl 14)) := PySem.W.mg_of X Gg aC14
  have iC_BadLine : PySem.W.findIn K (.ref (cl 14)) "__init__" = some (some (.ref fi14)) := iC14
  have tI_BadLine := iT14
  have FI14 := fun_mk (st := s_init_BadLine) iL14 iD14 iK14
  have G_BadLine := ok_init_BadLine (P := P) (w := w) (mg := mg) (base := base) FI14
  have b_BadLine := bindsG (ps := ["self", "line"]) FI14 fun _ _ _ _ _ _ us hl => match us, hl with | [_, _], _ => rfl
  have bw0_BadLine := bindsW (ps := ["self", "line"]) (ks := ["line"]) (n := 1) (pi := (fun {α : Type} (us ws : List α) => us ++ [(ws.drop 0).head?].filterMap id)) FI14 (fun _ _ _ _ _ _ us ws hu hw => match us, hu, ws, hw with | [_], _, [_], _ => rfl)
  have bw_BadLine : ∀ (s : Value) (ws : List Value), ws.length = (["line"] : List Str).length → bindArgs _ ⟨[s], (["line"] : List Str).zip ws⟩ = pure ((["self", "line"] : List Str).zip (s :: (fun {α : Type} (ws : List α) => [(ws.drop 0).head?].filterMap id) ws)) := fun s ws hw => bw0_BadLine [s] ws rfl hw
  have rl_BadLine : ∀ (zs : List V) (ws : List Value), ws.length = (["line"] : List Str).length → Vals zs ws → Vals ((fun {α : Type} (ws : List α) => [(ws.drop 0).head?].filterMap id) zs) ((fun {α : Type} (ws : List α) => [(ws.drop 0).head?].filterMap id) ws) := fun zs ws hw rw => by
    match ws, hw with
    | [w0], _ => (cases rw with | cons y0 rw => cases rw; exact .cons y0 (.nil))
  have F0 := fun_mk (st := s__law_draw) l0 c0 k0
  have b0 := bindsG (ps := ["_law_pot_here", "_law_many"]) F0 fun _ _ _ _ _ _ us hl => match us, hl with | [_, _], _ => rfl
  have o0 := ok__law_draw (P := P) (w := w) (mg := mg) (base := base) F0 
  have g__law_draw : CalG P w K mg base CX0 1 "_law_draw" spDraw := ⟨f0, _, ["_law_pot_here", "_law_many"], o0, PySem.W.mg_of X Gg a0, k0, b0⟩
  have F1 := fun_mk (st := s__law_pot) l1 c1 k1
  have b1 := bindsG (ps := ["_law_script", "_law_k"]) F1 fun _ _ _ _ _ _ us hl => match us, hl with | [_, _], _ => rfl
  have o1 := ok__law_pot (P := P) (w := w) (mg := mg) (base := base) F1 n_len n_int n_abs
  have g__law_pot : CalG P w K mg base CX0 1 "_law_pot" (spPot K) := ⟨f1, _, ["_law_script", "_law_k"], o1, PySem.W.mg_of X Gg a1, k1, b1⟩
  have F2 := fun_mk (st := s__law_any) l2 c2 k2
  have b2 := bindsG (ps := ["_law_pot_here", "_law_items"]) F2 fun _ _ _ _ _ _ us hl => match us, hl with | [_, _], _ => rfl
  have o2 := ok__law_any (P := P) (w := w) (mg := mg) (base := base) F2 g__law_draw n_len
  have g__law_any : CalG P w K mg base CX0 2 "_law_any" (spAny K) := ⟨f2, _, ["_law_pot_here", "_law_items"], o2, PySem.W.mg_of X Gg a2, k2, b2⟩
  have F3 := fun_mk (st := s__law_odd) l3 c3 k3
  have b3 := bindsG (ps := ["_law_pot_here", "_law_thing"]) F3 fun _ _ _ _ _ _ us hl => match us, hl with | [_, _], _ => rfl
  have o3 := ok__law_odd (P := P) (w := w) (mg := mg) (base := base) F3 g__law_any n_isinstance n_tuple n_str n_int n_list
  have g__law_odd : CalG P w K mg base CX0 3 "_law_odd" spOdd := ⟨f3, _, ["_law_pot_here", "_law_thing"], o3, PySem.W.mg_of X Gg a3, k3, b3⟩
  have F4 := fun_mk (st := s__law_marks) l4 c4 k4
  have b4 := bindsG (ps := ["_law_caught"]) F4 fun _ _ _ _ _ _ us hl => match us, hl with | [_], _ => rfl
  have o4 := ok__law_marks (P := P) (w := w) (mg := mg) (base := base) (cl := cl) F4 c_NoIndex c_NoValue c_Unexplained c_BadOrder c_NoPosition c_BadLog c_BadTolerance c_BadOperation c_Written c_TooMany c_BadText c_BadLine c_BadStamps c_NothingToUndo n_isinstance
  have g__law_marks : CalG P w K mg base CX0 1 "_law_marks" (spMarks K cl) := ⟨f4, _, ["_law_caught"], o4, PySem.W.mg_of X Gg a4, k4, b4⟩
  have F5 := fun_mk (st := s__law_held) l5 c5 k5
  have b5 := bindsG (ps := ["_law_made"]) F5 fun _ _ _ _ _ _ us hl => match us, hl with | [_], _ => rfl
  have o5 := ok__law_held (P := P) (w := w) (mg := mg) (base := base) (cl := cl) F5 
  have g__law_held : CalG P w K mg base CX0 1 "_law_held" (spHeld K cl) := ⟨f5, _, ["_law_made"], o5, PySem.W.mg_of X Gg a5, k5, b5⟩
  have F6 := fun_mk (st := s__law_right) l6 c6 k6
  have b6 := bindsG (ps := ["_law_pot_here"]) F6 fun _ _ _ _ _ _ us hl => match us, hl with | [_], _ => rfl
  have o6 := ok__law_right (P := P) (w := w) (mg := mg) (base := base) (cl := cl) F6 g__law_odd g__law_any g__law_held g__law_marks T_NoIndex gm_NoIndex iC_NoIndex tI_NoIndex G_NoIndex b_NoIndex bw_NoIndex rl_NoIndex T_NoValue gm_NoValue iC_NoValue tI_NoValue G_NoValue b_NoValue bw_NoValue rl_NoValue T_Unexplained gm_Unexplained iC_Unexplained tI_Unexplained G_Unexplained b_Unexplained bw_Unexplained rl_Unexplained T_BadOrder gm_BadOrder iC_BadOrder tI_BadOrder G_BadOrder b_BadOrder bw_BadOrder rl_BadOrder T_NoPosition gm_NoPosition iC_NoPosition tI_NoPosition G_NoPosition b_NoPosition bw_NoPosition rl_NoPosition T_BadLog gm_BadLog iC_BadLog tI_BadLog G_BadLog b_BadLog bw_BadLog rl_BadLog T_BadTolerance gm_BadTolerance iC_BadTolerance tI_BadTolerance G_BadTolerance b_BadTolerance bw_BadTolerance rl_BadTolerance T_BadOperation gm_BadOperation iC_BadOperation tI_BadOperation G_BadOperation b_BadOperation bw_BadOperation rl_BadOperation T_Written gm_Written iC_Written tI_Written G_Written b_Written bw_Written rl_Written T_TooMany gm_TooMany iC_TooMany tI_TooMany G_TooMany b_TooMany bw_TooMany rl_TooMany T_BadText gm_BadText iC_BadText tI_BadText G_BadText b_BadText bw_BadText rl_BadText T_BadLine gm_BadLine iC_BadLine tI_BadLine G_BadLine b_BadLine bw_BadLine rl_BadLine T_BadStamps gm_BadStamps iC_BadStamps tI_BadStamps G_BadStamps b_BadStamps bw_BadStamps rl_BadStamps T_NothingToUndo gm_NothingToUndo iC_NothingToUndo c_CellError n_repr n_enumerate n_range n_isinstance n_ValueError hS
  have g__law_right : CalG P w K mg base CX0 4 "_law_right" (spRt K cl) := ⟨f6, _, ["_law_pot_here"], o6, PySem.W.mg_of X Gg a6, k6, b6⟩
  have F7 := fun_mk (st := s_law) l7 c7 k7
  have b7 := bindsG (ps := ["_law_script"]) F7 fun _ _ _ _ _ _ us hl => match us, hl with | [_], _ => rfl
  have o7 := ok_law (P := P) (w := w) (mg := mg) (base := base) (cl := cl) F7 T g__law_pot g__law_right n_range n_max n_min n_all n_len
  exact o7
end K01
open PySem PySem.W PyProof.Rows
set_option maxHeartbeats 0 in
theorem PySem.Challenge.cw_clockslack_k49_errors_alone_holds : PySem.Challenge.rw_clockslack_k49_errors_alone.Holds := by
  w_on; o_law; k_head; (case hw => w_witness2)
  k_fill
  refine LB.walk_g (l := PySem.Challenge.rw_clockslack_k49_errors_alone) (n := 63) (k := 5) (x := "_law_script") (sp := fun K => LB.spLaw K) rfl (by decide) rfl (by rfl) ⟨rfl, by decide, by decide⟩ (fun w h Y => PySem.W.kIn_of Y) ?F (fun K H a ns hl _ hS => ⟨a, ns, rfl, hS, hl, fun _ => rfl⟩)
  case F =>
    intro w mg fa h KX Gg hmg
    refine' K01.all_mk KX Gg hmg ?a0 ?l0 ?c0 ?k0 ?a1 ?l1 ?c1 ?k1 ?a2 ?l2 ?c2 ?k2 ?a3 ?l3 ?c3 ?k3 ?a4 ?l4 ?c4 ?k4 ?a5 ?l5 ?c5 ?k5 ?a6 ?l6 ?c6 ?k6 ?a7 ?l7 ?c7 ?k7 ?z_len ?z_int ?z_abs ?z_isinstance ?z_tuple ?z_str ?z_list ?z_repr ?z_enumerate ?z_range ?z_ValueError ?z_max ?z_min ?z_all ?aC0 ?aC1 ?aC2 ?aC3 ?aC4 ?aC5 ?aC6 ?aC7 ?aC8 ?aC9 ?aC10 ?aC11 ?aC12 ?aC13 ?aC14 ?tC0 ?hd0 ?xL1 ?xB1 ?sa1 ?tC1 ?kC1 ?ga1 ?gg1 ?eC1 ?hd1 ?ha1 ?hm1 ?sb_1 ?sv_1 ?su_1_1 ?su_1_2 ?su_1_3 ?su_1_4 ?su_1_5 ?su_1_6 ?su_1_7 ?su_1_8 ?su_1_9 ?su_1_10 ?su_1_11 ?su_1_12 ?su_1_13 ?su_1_14 ?iC1 ?iT1 ?iL1 ?iD1 ?iK1 ?xL2 ?xB2 ?sa2 ?tC2 ?kC2 ?ga2 ?gg2 ?eC2 ?hd2 ?ha2 ?hm2 ?sb_2 ?sv_2 ?su_2_1 ?su_2_2 ?su_2_3 ?su_2_4 ?su_2_5 ?su_2_6 ?su_2_7 ?su_2_8 ?su_2_9 ?su_2_10 ?su_2_11 ?su_2_12 ?su_2_13 ?su_2_14 ?iC2 ?iT2 ?iL2 ?iD2 ?iK2 ?xL3 ?xB3 ?sa3 ?tC3 ?kC3 ?ga3 ?gg3 ?eC3 ?hd3 ?ha3 ?hm3 ?sb_3 ?sv_3 ?su_3_1 ?su_3_2 ?su_3_3 ?su_3_4 ?su_3_5 ?su_3_6 ?su_3_7 ?su_3_8 ?su_3_9 ?su_3_10 ?su_3_11 ?su_3_12 ?su_3_13 ?su_3_14 ?iC3 ?iT3 ?iL3 ?iD3 ?iK3 ?xL4 ?xB4 ?sa4 ?tC4 ?kC4 ?ga4 ?gg4 ?eC4 ?hd4 ?ha4 ?hm4 ?sb_4 ?sv_4 ?su_4_1 ?su_4_2 ?su_4_3 ?su_4_4 ?su_4_5 ?su_4_6 ?su_4_7 ?su_4_8 ?su_4_9 ?su_4_10 ?su_4_11 ?su_4_12 ?su_4_13 ?su_4_14 ?iC4 ?iT4 ?iL4 ?iD4 ?iK4 ?xL5 ?xB5 ?sa5 ?tC5 ?kC5 ?ga5 ?gg5 ?eC5 ?hd5 ?ha5 ?hm5 ?sb_5 ?sv_5 ?su_5_1 ?su_5_2 ?su_5_3 ?su_5_4 ?su_5_5 ?su_5_6 ?su_5_7 ?su_5_8 ?su_5_9 ?su_5_10 ?su_5_11 ?su_5_12 ?su_5_13 ?su_5_14 ?iC5 ?iT5 ?iL5 ?iD5 ?iK5 ?xL6 ?xB6 ?sa6 ?tC6 ?kC6 ?ga6 ?gg6 ?eC6 ?hd6 ?ha6 ?hm6 ?sb_6 ?sv_6 ?su_6_1 ?su_6_2 ?su_6_3 ?su_6_4 ?su_6_5 ?su_6_6 ?su_6_7 ?su_6_8 ?su_6_9 ?su_6_10 ?su_6_11 ?su_6_12 ?su_6_13 ?su_6_14 ?iC6 ?iT6 ?iL6 ?iD6 ?iK6 ?xL7 ?xB7 ?sa7 ?tC7 ?kC7 ?ga7 ?gg7 ?eC7 ?hd7 ?ha7 ?hm7 ?sb_7 ?sv_7 ?su_7_1 ?su_7_2 ?su_7_3 ?su_7_4 ?su_7_5 ?su_7_6 ?su_7_7 ?su_7_8 ?su_7_9 ?su_7_10 ?su_7_11 ?su_7_12 ?su_7_13 ?su_7_14 ?iC7 ?iT7 ?iL7 ?iD7 ?iK7 ?xL8 ?xB8 ?sa8 ?tC8 ?kC8 ?ga8 ?gg8 ?eC8 ?hd8 ?ha8 ?hm8 ?sb_8 ?sv_8 ?su_8_1 ?su_8_2 ?su_8_3 ?su_8_4 ?su_8_5 ?su_8_6 ?su_8_7 ?su_8_8 ?su_8_9 ?su_8_10 ?su_8_11 ?su_8_12 ?su_8_13 ?su_8_14 ?iC8 ?iT8 ?iL8 ?iD8 ?iK8 ?xL9 ?xB9 ?sa9 ?tC9 ?kC9 ?ga9 ?gg9 ?eC9 ?hd9 ?ha9 ?hm9 ?sb_9 ?sv_9 ?su_9_1 ?su_9_2 ?su_9_3 ?su_9_4 ?su_9_5 ?su_9_6 ?su_9_7 ?su_9_8 ?su_9_9 ?su_9_10 ?su_9_11 ?su_9_12 ?su_9_13 ?su_9_14 ?iC9 ?iT9 ?iL9 ?iD9 ?iK9 ?xL10 ?xB10 ?sa10 ?tC10 ?kC10 ?ga10 ?gg10 ?eC10 ?hd10 ?ha10 ?hm10 ?sb_10 ?sv_10 ?su_10_1 ?su_10_2 ?su_10_3 ?su_10_4 ?su_10_5 ?su_10_6 ?su_10_7 ?su_10_8 ?su_10_9 ?su_10_10 ?su_10_11 ?su_10_12 ?su_10_13 ?su_10_14 ?iC10 ?iT10 ?iL10 ?iD10 ?iK10 ?xL11 ?xB11 ?sa11 ?tC11 ?kC11 ?ga11 ?gg11 ?eC11 ?hd11 ?ha11 ?hm11 ?sb_11 ?sv_11 ?su_11_1 ?su_11_2 ?su_11_3 ?su_11_4 ?su_11_5 ?su_11_6 ?su_11_7 ?su_11_8 ?su_11_9 ?su_11_10 ?su_11_11 ?su_11_12 ?su_11_13 ?su_11_14 ?iC11 ?iT11 ?iL11 ?iD11 ?iK11 ?xL12 ?xB12 ?sa12 ?tC12 ?kC12 ?ga12 ?gg12 ?eC12 ?hd12 ?ha12 ?hm12 ?sb_12 ?sv_12 ?su_12_1 ?su_12_2 ?su_12_3 ?su_12_4 ?su_12_5 ?su_12_6 ?su_12_7 ?su_12_8 ?su_12_9 ?su_12_10 ?su_12_11 ?su_12_12 ?su_12_13 ?su_12_14 ?iC12 ?xL13 ?xB13 ?sa13 ?tC13 ?kC13 ?ga13 ?gg13 ?eC13 ?hd13 ?ha13 ?hm13 ?sb_13 ?sv_13 ?su_13_1 ?su_13_2 ?su_13_3 ?su_13_4 ?su_13_5 ?su_13_6 ?su_13_7 ?su_13_8 ?su_13_9 ?su_13_10 ?su_13_11 ?su_13_12 ?su_13_13 ?su_13_14 ?iC13 ?iT13 ?iL13 ?iD13 ?iK13 ?xL14 ?xB14 ?sa14 ?tC14 ?kC14 ?ga14 ?gg14 ?eC14 ?hd14 ?ha14 ?hm14 ?sb_14 ?sv_14 ?su_14_1 ?su_14_2 ?su_14_3 ?su_14_4 ?su_14_5 ?su_14_6 ?su_14_7 ?su_14_8 ?su_14_9 ?su_14_10 ?su_14_11 ?su_14_12 ?su_14_13 ?su_14_14 ?iC14 ?iT14 ?iL14 ?iD14 ?iK14 ?fl0 ?fl1 ?fl2 ?fl3 ?fl4 ?fl5 ?fl6 ?fl7 ?fl8 ?fl9 ?fl10 ?fl11 ?flB ?flE ?hn ?ht
    (case a0 => k_is)
    (case l0 => k_is)
    (case c0 => k_is)
    (case k0 => k_is)
    (case a1 => k_is)
    (case l1 => k_is)
    (case c1 => k_is)
    (case k1 => k_is)
    (case a2 => k_is)
    (case l2 => k_is)
    (case c2 => k_is)
    (case k2 => k_is)
    (case a3 => k_is)
    (case l3 => k_is)
    (case c3 => k_is)
    (case k3 => k_is)
    (case a4 => k_is)
    (case l4 => k_is)
    (case c4 => k_is)
    (case k4 => k_is)
    (case a5 => k_is)
    (case l5 => k_is)
    (case c5 => k_is)
    (case k5 => k_is)
    (case a6 => k_is)
    (case l6 => k_is)
    (case c6 => k_is)
    (case k6 => k_is)
    (case a7 => k_is)
    (case l7 => k_is)
    (case c7 => k_is)
    (case k7 => k_is)
    (case z_len => k_is)
    (case z_int => k_is)
    (case z_abs => k_is)
    (case z_isinstance => k_is)
    (case z_tuple => k_is)
    (case z_str => k_is)
    (case z_list => k_is)
    (case z_repr => k_is)
    (case z_enumerate => k_is)
    (case z_range => k_is)
    (case z_ValueError => k_is)
    (case z_max => k_is)
    (case z_min => k_is)
    (case z_all => k_is)
    (case aC0 => k_is)
    (case aC1 => k_is)
    (case aC2 => k_is)
    (case aC3 => k_is)
    (case aC4 => k_is)
    (case aC5 => k_is)
    (case aC6 => k_is)
    (case aC7 => k_is)
    (case aC8 => k_is)
    (case aC9 => k_is)
    (case aC10 => k_is)
    (case aC11 => k_is)
    (case aC12 => k_is)
    (case aC13 => k_is)
    (case aC14 => k_is)
    (case tC0 => k_is)
    (case hd0 => k_is)
    (case xL1 => k_is)
    (case xB1 => first | rfl | decide +kernel | k_is)
    (case sa1 => k_is)
    (case tC1 => k_is)
    (case kC1 => k_is)
    (case ga1 => k_is)
    (case gg1 => k_is)
    (case eC1 => k_is)
    (case hd1 => k_is)
    (case ha1 => k_is)
    (case hm1 => k_is)
    (case sb_1 => k_is)
    (case sv_1 => k_is)
    (case su_1_1 => k_is)
    (case su_1_2 => k_is)
    (case su_1_3 => k_is)
    (case su_1_4 => k_is)
    (case su_1_5 => k_is)
    (case su_1_6 => k_is)
    (case su_1_7 => k_is)
    (case su_1_8 => k_is)
    (case su_1_9 => k_is)
    (case su_1_10 => k_is)
    (case su_1_11 => k_is)
    (case su_1_12 => k_is)
    (case su_1_13 => k_is)
    (case su_1_14 => k_is)
    (case iC1 => k_is)
    (case iT1 => k_is)
    (case iL1 => k_is)
    (case iD1 => k_is)
    (case iK1 => k_is)
    (case xL2 => k_is)
    (case xB2 => first | rfl | decide +kernel | k_is)
    (case sa2 => k_is)
    (case tC2 => k_is)
    (case kC2 => k_is)
    (case ga2 => k_is)
    (case gg2 => k_is)
    (case eC2 => k_is)
    (case hd2 => k_is)
    (case ha2 => k_is)
    (case hm2 => k_is)
    (case sb_2 => k_is)
    (case sv_2 => k_is)
    (case su_2_1 => k_is)
    (case su_2_2 => k_is)
    (case su_2_3 => k_is)
    (case su_2_4 => k_is)
    (case su_2_5 => k_is)
    (case su_2_6 => k_is)
    (case su_2_7 => k_is)
    (case su_2_8 => k_is)
    (case su_2_9 => k_is)
    (case su_2_10 => k_is)
    (case su_2_11 => k_is)
    (case su_2_12 => k_is)
    (case su_2_13 => k_is)
    (case su_2_14 => k_is)
    (case iC2 => k_is)
    (case iT2 => k_is)
    (case iL2 => k_is)
    (case iD2 => k_is)
    (case iK2 => k_is)
    (case xL3 => k_is)
    (case xB3 => first | rfl | decide +kernel | k_is)
    (case sa3 => k_is)
    (case tC3 => k_is)
    (case kC3 => k_is)
    (case ga3 => k_is)
    (case gg3 => k_is)
    (case eC3 => k_is)
    (case hd3 => k_is)
    (case ha3 => k_is)
    (case hm3 => k_is)
    (case sb_3 => k_is)
    (case sv_3 => k_is)
    (case su_3_1 => k_is)
    (case su_3_2 => k_is)
    (case su_3_3 => k_is)
    (case su_3_4 => k_is)
    (case su_3_5 => k_is)
    (case su_3_6 => k_is)
    (case su_3_7 => k_is)
    (case su_3_8 => k_is)
    (case su_3_9 => k_is)
    (case su_3_10 => k_is)
    (case su_3_11 => k_is)
    (case su_3_12 => k_is)
    (case su_3_13 => k_is)
    (case su_3_14 => k_is)
    (case iC3 => k_is)
    (case iT3 => k_is)
    (case iL3 => k_is)
    (case iD3 => k_is)
    (case iK3 => k_is)
    (case xL4 => k_is)
    (case xB4 => first | rfl | decide +kernel | k_is)
    (case sa4 => k_is)
    (case tC4 => k_is)
    (case kC4 => k_is)
    (case ga4 => k_is)
    (case gg4 => k_is)
    (case eC4 => k_is)
    (case hd4 => k_is)
    (case ha4 => k_is)
    (case hm4 => k_is)
    (case sb_4 => k_is)
    (case sv_4 => k_is)
    (case su_4_1 => k_is)
    (case su_4_2 => k_is)
    (case su_4_3 => k_is)
    (case su_4_4 => k_is)
    (case su_4_5 => k_is)
    (case su_4_6 => k_is)
    (case su_4_7 => k_is)
    (case su_4_8 => k_is)
    (case su_4_9 => k_is)
    (case su_4_10 => k_is)
    (case su_4_11 => k_is)
    (case su_4_12 => k_is)
    (case su_4_13 => k_is)
    (case su_4_14 => k_is)
    (case iC4 => k_is)
    (case iT4 => k_is)
    (case iL4 => k_is)
    (case iD4 => k_is)
    (case iK4 => k_is)
    (case xL5 => k_is)
    (case xB5 => first | rfl | decide +kernel | k_is)
    (case sa5 => k_is)
    (case tC5 => k_is)
    (case kC5 => k_is)
    (case ga5 => k_is)
    (case gg5 => k_is)
    (case eC5 => k_is)
    (case hd5 => k_is)
    (case ha5 => k_is)
    (case hm5 => k_is)
    (case sb_5 => k_is)
    (case sv_5 => k_is)
    (case su_5_1 => k_is)
    (case su_5_2 => k_is)
    (case su_5_3 => k_is)
    (case su_5_4 => k_is)
    (case su_5_5 => k_is)
    (case su_5_6 => k_is)
    (case su_5_7 => k_is)
    (case su_5_8 => k_is)
    (case su_5_9 => k_is)
    (case su_5_10 => k_is)
    (case su_5_11 => k_is)
    (case su_5_12 => k_is)
    (case su_5_13 => k_is)
    (case su_5_14 => k_is)
    (case iC5 => k_is)
    (case iT5 => k_is)
    (case iL5 => k_is)
    (case iD5 => k_is)
    (case iK5 => k_is)
    (case xL6 => k_is)
    (case xB6 => first | rfl | decide +kernel | k_is)
    (case sa6 => k_is)
    (case tC6 => k_is)
    (case kC6 => k_is)
    (case ga6 => k_is)
    (case gg6 => k_is)
    (case eC6 => k_is)
    (case hd6 => k_is)
    (case ha6 => k_is)
    (case hm6 => k_is)
    (case sb_6 => k_is)
    (case sv_6 => k_is)
    (case su_6_1 => k_is)
    (case su_6_2 => k_is)
    (case su_6_3 => k_is)
    (case su_6_4 => k_is)
    (case su_6_5 => k_is)
    (case su_6_6 => k_is)
    (case su_6_7 => k_is)
    (case su_6_8 => k_is)
    (case su_6_9 => k_is)
    (case su_6_10 => k_is)
    (case su_6_11 => k_is)
    (case su_6_12 => k_is)
    (case su_6_13 => k_is)
    (case su_6_14 => k_is)
    (case iC6 => k_is)
    (case iT6 => k_is)
    (case iL6 => k_is)
    (case iD6 => k_is)
    (case iK6 => k_is)
    (case xL7 => k_is)
    (case xB7 => first | rfl | decide +kernel | k_is)
    (case sa7 => k_is)
    (case tC7 => k_is)
    (case kC7 => k_is)
    (case ga7 => k_is)
    (case gg7 => k_is)
    (case eC7 => k_is)
    (case hd7 => k_is)
    (case ha7 => k_is)
    (case hm7 => k_is)
    (case sb_7 => k_is)
    (case sv_7 => k_is)
    (case su_7_1 => k_is)
    (case su_7_2 => k_is)
    (case su_7_3 => k_is)
    (case su_7_4 => k_is)
    (case su_7_5 => k_is)
    (case su_7_6 => k_is)
    (case su_7_7 => k_is)
    (case su_7_8 => k_is)
    (case su_7_9 => k_is)
    (case su_7_10 => k_is)
    (case su_7_11 => k_is)
    (case su_7_12 => k_is)
    (case su_7_13 => k_is)
    (case su_7_14 => k_is)
    (case iC7 => k_is)
    (case iT7 => k_is)
    (case iL7 => k_is)
    (case iD7 => k_is)
    (case iK7 => k_is)
    (case xL8 => k_is)
    (case xB8 => first | rfl | decide +kernel | k_is)
    (case sa8 => k_is)
    (case tC8 => k_is)
    (case kC8 => k_is)
    (case ga8 => k_is)
    (case gg8 => k_is)
    (case eC8 => k_is)
    (case hd8 => k_is)
    (case ha8 => k_is)
    (case hm8 => k_is)
    (case sb_8 => k_is)
    (case sv_8 => k_is)
    (case su_8_1 => k_is)
    (case su_8_2 => k_is)
    (case su_8_3 => k_is)
    (case su_8_4 => k_is)
    (case su_8_5 => k_is)
    (case su_8_6 => k_is)
    (case su_8_7 => k_is)
    (case su_8_8 => k_is)
    (case su_8_9 => k_is)
    (case su_8_10 => k_is)
    (case su_8_11 => k_is)
    (case su_8_12 => k_is)
    (case su_8_13 => k_is)
    (case su_8_14 => k_is)
    (case iC8 => k_is)
    (case iT8 => k_is)
    (case iL8 => k_is)
    (case iD8 => k_is)
    (case iK8 => k_is)
    (case xL9 => k_is)
    (case xB9 => first | rfl | decide +kernel | k_is)
    (case sa9 => k_is)
    (case tC9 => k_is)
    (case kC9 => k_is)
    (case ga9 => k_is)
    (case gg9 => k_is)
    (case eC9 => k_is)
    (case hd9 => k_is)
    (case ha9 => k_is)
    (case hm9 => k_is)
    (case sb_9 => k_is)
    (case sv_9 => k_is)
    (case su_9_1 => k_is)
    (case su_9_2 => k_is)
    (case su_9_3 => k_is)
    (case su_9_4 => k_is)
    (case su_9_5 => k_is)
    (case su_9_6 => k_is)
    (case su_9_7 => k_is)
    (case su_9_8 => k_is)
    (case su_9_9 => k_is)
    (case su_9_10 => k_is)
    (case su_9_11 => k_is)
    (case su_9_12 => k_is)
    (case su_9_13 => k_is)
    (case su_9_14 => k_is)
    (case iC9 => k_is)
    (case iT9 => k_is)
    (case iL9 => k_is)
    (case iD9 => k_is)
    (case iK9 => k_is)
    (case xL10 => k_is)
    (case xB10 => first | rfl | decide +kernel | k_is)
    (case sa10 => k_is)
    (case tC10 => k_is)
    (case kC10 => k_is)
    (case ga10 => k_is)
    (case gg10 => k_is)
    (case eC10 => k_is)
    (case hd10 => k_is)
    (case ha10 => k_is)
    (case hm10 => k_is)
    (case sb_10 => k_is)
    (case sv_10 => k_is)
    (case su_10_1 => k_is)
    (case su_10_2 => k_is)
    (case su_10_3 => k_is)
    (case su_10_4 => k_is)
    (case su_10_5 => k_is)
    (case su_10_6 => k_is)
    (case su_10_7 => k_is)
    (case su_10_8 => k_is)
    (case su_10_9 => k_is)
    (case su_10_10 => k_is)
    (case su_10_11 => k_is)
    (case su_10_12 => k_is)
    (case su_10_13 => k_is)
    (case su_10_14 => k_is)
    (case iC10 => k_is)
    (case iT10 => k_is)
    (case iL10 => k_is)
    (case iD10 => k_is)
    (case iK10 => k_is)
    (case xL11 => k_is)
    (case xB11 => first | rfl | decide +kernel | k_is)
    (case sa11 => k_is)
    (case tC11 => k_is)
    (case kC11 => k_is)
    (case ga11 => k_is)
    (case gg11 => k_is)
    (case eC11 => k_is)
    (case hd11 => k_is)
    (case ha11 => k_is)
    (case hm11 => k_is)
    (case sb_11 => k_is)
    (case sv_11 => k_is)
    (case su_11_1 => k_is)
    (case su_11_2 => k_is)
    (case su_11_3 => k_is)
    (case su_11_4 => k_is)
    (case su_11_5 => k_is)
    (case su_11_6 => k_is)
    (case su_11_7 => k_is)
    (case su_11_8 => k_is)
    (case su_11_9 => k_is)
    (case su_11_10 => k_is)
    (case su_11_11 => k_is)
    (case su_11_12 => k_is)
    (case su_11_13 => k_is)
    (case su_11_14 => k_is)
    (case iC11 => k_is)
    (case iT11 => k_is)
    (case iL11 => k_is)
    (case iD11 => k_is)
    (case iK11 => k_is)
    (case xL12 => k_is)
    (case xB12 => first | rfl | decide +kernel | k_is)
    (case sa12 => k_is)
    (case tC12 => k_is)
    (case kC12 => k_is)
    (case ga12 => k_is)
    (case gg12 => k_is)
    (case eC12 => k_is)
    (case hd12 => k_is)
    (case ha12 => k_is)
    (case hm12 => k_is)
    (case sb_12 => k_is)
    (case sv_12 => k_is)
    (case su_12_1 => k_is)
    (case su_12_2 => k_is)
    (case su_12_3 => k_is)
    (case su_12_4 => k_is)
    (case su_12_5 => k_is)
    (case su_12_6 => k_is)
    (case su_12_7 => k_is)
    (case su_12_8 => k_is)
    (case su_12_9 => k_is)
    (case su_12_10 => k_is)
    (case su_12_11 => k_is)
    (case su_12_12 => k_is)
    (case su_12_13 => k_is)
    (case su_12_14 => k_is)
    (case iC12 => k_is)
    (case xL13 => k_is)
    (case xB13 => first | rfl | decide +kernel | k_is)
    (case sa13 => k_is)
    (case tC13 => k_is)
    (case kC13 => k_is)
    (case ga13 => k_is)
    (case gg13 => k_is)
    (case eC13 => k_is)
    (case hd13 => k_is)
    (case ha13 => k_is)
    (case hm13 => k_is)
    (case sb_13 => k_is)
    (case sv_13 => k_is)
    (case su_13_1 => k_is)
    (case su_13_2 => k_is)
    (case su_13_3 => k_is)
    (case su_13_4 => k_is)
    (case su_13_5 => k_is)
    (case su_13_6 => k_is)
    (case su_13_7 => k_is)
    (case su_13_8 => k_is)
    (case su_13_9 => k_is)
    (case su_13_10 => k_is)
    (case su_13_11 => k_is)
    (case su_13_12 => k_is)
    (case su_13_13 => k_is)
    (case su_13_14 => k_is)
    (case iC13 => k_is)
    (case iT13 => k_is)
    (case iL13 => k_is)
    (case iD13 => k_is)
    (case iK13 => k_is)
    (case xL14 => k_is)
    (case xB14 => first | rfl | decide +kernel | k_is)
    (case sa14 => k_is)
    (case tC14 => k_is)
    (case kC14 => k_is)
    (case ga14 => k_is)
    (case gg14 => k_is)
    (case eC14 => k_is)
    (case hd14 => k_is)
    (case ha14 => k_is)
    (case hm14 => k_is)
    (case sb_14 => k_is)
    (case sv_14 => k_is)
    (case su_14_1 => k_is)
    (case su_14_2 => k_is)
    (case su_14_3 => k_is)
    (case su_14_4 => k_is)
    (case su_14_5 => k_is)
    (case su_14_6 => k_is)
    (case su_14_7 => k_is)
    (case su_14_8 => k_is)
    (case su_14_9 => k_is)
    (case su_14_10 => k_is)
    (case su_14_11 => k_is)
    (case su_14_12 => k_is)
    (case su_14_13 => k_is)
    (case su_14_14 => k_is)
    (case iC14 => k_is)
    (case iT14 => k_is)
    (case iL14 => k_is)
    (case iD14 => k_is)
    (case iK14 => k_is)
    (case fl0 => k_is)
    (case fl1 => k_is)
    (case fl2 => k_is)
    (case fl3 => k_is)
    (case fl4 => k_is)
    (case fl5 => k_is)
    (case fl6 => k_is)
    (case fl7 => k_is)
    (case fl8 => k_is)
    (case fl9 => k_is)
    (case fl10 => k_is)
    (case fl11 => k_is)
    (case flB => k_is)
    (case flE => k_is)
    (case hn => k_is)
    (case ht => k_is)

