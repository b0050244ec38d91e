import PyProof.Rows.All
import Wide.All
import OpenK.AllK
import Wide.FinOn
import HandS.ForMost
import HandS.Evl
import KE.KeyNested
import HandS.Lambda
import HandS.Nested
import HandS.TupAny
import HandS.TupLe
import HandS.Wide
import HandS.Deep
import HandS.Zip
import HandS.Conv
import HandS.SortInts
import HandS.IsInst
import HandS.More
import PyProof.Rows.TupDisplay
import KE.KDictDisplayH
import KE.GoesMore
import HandS.SortRule
import HandS.TupLen
import HandS.WordsDict
import HandS.SetFor
import HandS.Strs
import KE.DatumOrd
import HandS.TupMul
import KE.KDictZip
import PyProof.ListNew
import HandS.NamedTupSort
import KE.DataMinKey
import KE.DataMinMax
import Flt.Ops
import HandS.DictComp
import HandS.Style
import HandS.Defaults
import KE.KDictPairs
import HandS.Dict
import KE.KDictKeyed
import PyProof.DictFindH
import PyProof.DictRoadsH
import PyProof.MeetsDict
import HandS.TryOnly
import HandS.TupSets
import HandS.OwnEq
import PyProof.InstEq
import HandS.RaiseMore
import KE.KDictWalk
import PyProof.SumAny
import KE.KTupSum
import PyProof.Rows.SumGenD
import KE.KDictCopyH
import PyProof.DictTruth
import HandS.EndTab
import KE.KNestM
import KE.GoesZip
import PyProof.Rows.ZipGen
import PySem.Challenge.RW_latestword_k50_whole_fewest_desks
set_option Elab.async false
set_option linter.all false
set_option maxRecDepth 100000
namespace PuC
open PySem PySem.Spec PyProof.Rows L2 LamX NdefX
def cellX (c : Addr) (o : Obj) : HO := .ext fun h => h.get? c = some o
def trk (H : Hp) (cs : List Addr) (os : Addr → Obj) : Hp := fun a => if a ∈ cs then some (cellX a (os a)) else H a
def untr (H : Hp) (cs : List Addr) : Hp := fun a => if a ∈ cs then none else H a
section
variable {P : Program} {w : World} {H H2 : Hp} {h h2 : Heap} {cs fs : List Addr} {os : Addr → Obj} {a : Addr}
theorem trk_in (m : a ∈ cs) : trk H cs os a = some (cellX a (os a)) := if_pos m
theorem trk_out (m : a ∉ cs) : trk H cs os a = H a := if_neg m
theorem untr_in (m : a ∈ cs) : untr H cs a = none := if_pos m
theorem untr_out (m : a ∉ cs) : untr H cs a = H a := if_neg m
theorem cellX_ok {c : Addr} {o : Obj} (e : h.get? c = some o) : ObjOk P w H h c (cellX c o) := ⟨e, ⟨o, e⟩, fun h1 h2 z st => st o z⟩
theorem cellX_at {c : Addr} {o : Obj} (x : HOk P w H h) (e : H c = some (cellX c o)) : h.get? c = some o := by
  obtain ⟨z, _, _⟩ := x c _ e
  exact z
theorem hok_trk (x : HOk P w H h) (n : ∀ c ∈ cs, H c = none) (e : ∀ c ∈ cs, h.get? c = some (os c)) : HOk P w (trk H cs os) h := fun b u q => by
  by_cases m : b ∈ cs
  · rw [trk_in m] at q
    cases q
    exact cellX_ok (e b m)
  · rw [trk_out m] at q
    refine (x b u q).stay (fun c v _ z => z) (fun c z => ?_) fun c xs z => ?_
    · rw [trk_out fun y => by rw [n c y] at z; cases z]; exact z
    · rw [trk_out fun y => by rw [n c y] at z; cases z]; exact z
end
def CellsW (os : Addr → Obj) (cs : List Addr) (ws : List (Option V)) : Prop := ∀ (i : Nat) (c : Addr) (v : V), cs[i]? = some c → ws[i]? = some (some v) → ∃ u, (os c).data = .cell (some u) ∧ L2.RelV v u
section
variable {X : Cx} {pins : List (Addr × Obj)} {σ : L2.St} {H : Hp} {s s' : Shared}
def cellsAt (X : Cx) (ys : List Str) : List Addr := ys.map fun y => (X.env.cells.lookup y).getD 0
structure OwnC (X : Cx) (ys : List Str) (js : List Nat) : Prop where
  kin : ∀ y ∈ ys, X.env.scope.names.lookup y = some .cell
  fn : ∀ y ∈ ys, X.fn y = true
  at_ : js.map (fun j => X.N[j]?) = ys.map some
  nd : ys.Nodup
theorem OwnC.at (C : OwnC X ys js) (I : Inv X pins σ H s) {c : Addr} (m : c ∈ cellsAt X ys) : ∃ y ∈ ys, X.env.cells.lookup y = some c := by
  obtain ⟨y, hy, e⟩ := List.mem_map.mp m
  obtain ⟨c', hc⟩ := I.ok.has y (.inl (C.kin y hy))
  have hc' : X.env.cells.lookup y = some c' := hc
  rw [hc'] at e
  exact ⟨y, hy, by rw [hc']; exact congrArg some e⟩
theorem OwnC.free (C : OwnC X ys js) (I : Inv X pins σ H s) : ∀ c ∈ cellsAt X ys, H c = none := fun c m => by
  obtain ⟨y, _, e⟩ := C.at I m
  exact I.freeC y c e
theorem OwnC.env0 (C : OwnC X ys js) (I : Inv X pins σ H s) {os : Addr → Obj} (e : ∀ c ∈ cellsAt X ys, s.heap.get? c = some (os c)) : Env0 X.prog X.w X.K X.mg X.base X.A X.stack s (trk H (cellsAt X ys) os) := by
  have E := I.env0
  have ge : ∀ c ∈ cellsAt X ys, X.s_0.heap.objs.size ≤ c := fun c m => by
    obtain ⟨y, hy, ec⟩ := C.at I m
    exact I.ok.cab y c (C.fn y hy) ec
  refine ⟨E.frames, E.mod, fun b o q => ?_, E.bsz, E.funs, fun b m => ?_, hok_trk E.hok (C.free I) e, E.bare⟩
  · have m : b ∉ cellsAt X ys := fun z => absurd (Nat.lt_of_lt_of_le (Heap.lt_size q) (Nat.le_trans I.ok.bsz (ge b z))) (Nat.lt_irrefl _)
    rw [trk_out m]
    exact E.bs b o q
  · have nm : b ∉ cellsAt X ys := fun z => by
      obtain ⟨y, hy, ec⟩ := C.at I z
      rcases List.mem_cons.mp (I.stkSub b m) with e1 | e1
      · exact I.cne y b ec e1
      · obtain ⟨_, o, ho, _⟩ := I.ok.funs.mem e1
        exact absurd (Nat.lt_of_lt_of_le (Heap.lt_size ho) (ge b z)) (Nat.lt_irrefl _)
    rw [trk_out nm]
    exact E.frf b m
theorem OwnC.holds (C : OwnC X ys js) (I : Inv X pins σ H s) : ∃ os : Addr → Obj, (∀ c ∈ cellsAt X ys, s.heap.get? c = some (os c)) ∧ (∀ c ∈ cellsAt X ys, ∃ w, (os c).data = .cell w) ∧ CellsW os (cellsAt X ys) (js.map (slotAt σ)) := by
  refine ⟨fun c => (s.heap.get? c).getD default, fun c m => ?_, fun c m => ?_, fun i c v ec ev => ?_⟩
  · obtain ⟨y, _, e⟩ := C.at I m
    obtain ⟨w, o, ho, _⟩ := I.cell y c e
    show s.heap.get? c = some ((s.heap.get? c).getD default)
    rw [ho]; rfl
  · obtain ⟨y, _, e⟩ := C.at I m
    obtain ⟨w, o, ho, hd⟩ := I.cell y c e
    refine ⟨w, ?_⟩
    show ((s.heap.get? c).getD default).data = _
    rw [ho]
    exact hd
  · unfold cellsAt at ec
    rw [List.getElem?_map] at ec
    cases ey : ys[i]? with
    | none => rw [ey] at ec; cases ec
    | some y =>
      rw [ey] at ec
      have hy := List.mem_of_getElem? ey
      have k := C.kin y hy
      obtain ⟨c', hc'⟩ := I.ok.has y (.inl k)
      have hc' : X.env.cells.lookup y = some c' := hc'
      have ec : (X.env.cells.lookup y).getD 0 = c := Option.some.inj ec
      rw [hc'] at ec
      have ec : c' = c := ec
      subst ec
      have e2 : (js.map fun j => X.N[j]?)[i]? = some (some y) := by rw [C.at_, List.getElem?_map, ey] <;> rfl
      rw [List.getElem?_map] at e2 ev
      cases ej : js[i]? with
      | none => rw [ej] at e2; cases e2
      | some j =>
        rw [ej] at e2 ev
        have atj : X.N[j]? = some y := Option.some.inj (show some (X.N[j]?) = some (some y) from e2)
        have svj : σ[j]? = some (some v) := slotAt_some (Option.some.inj (show some (slotAt σ j) = some (some v) from ev))
        obtain ⟨m, hn, hl⟩ := I.loc
        obtain ⟨u, r, l⟩ := hl j y v atj svj (.inr (.inl k))
        rcases l with ⟨z, _⟩ | ⟨_, a', ha', o, ho, hd⟩
        · have zl : X.env.scope.names.lookup y = some .local := z
          rw [k] at zl; cases zl
        · rw [hc'] at ha'
          cases ha'
          refine ⟨u, ?_, r⟩
          show ((s.heap.get? c').getD default).data = _
          rw [ho]
          exact hd
end
end PuC
set_option Elab.async false
set_option linter.all false
set_option maxRecDepth 100000
namespace PuC
open PySem PySem.Spec PyProof.Rows L2 LamX NdefX
structure FT where
  ho : Addr → List (Str × Addr) → Addr → HO
  qn : Str
  fr : List Str
structure CloAt (T : FT) (H : Hp) (f : Addr) (cl : List (Str × Addr)) (c' : Addr) (ws : List V) : Prop where
  hf : H f = some (T.ho f cl c')
  hc : H c' = some (CodeO c' T.qn)
  nm : cl.map (·.1) = T.fr
  nn : T.fr.Nodup
  nd : (cl.map (·.2)).Nodup
  len : ws.length = T.fr.length
  cw : ∀ (i : Nat) (c : Addr) (v : V), (cl.map (·.2))[i]? = some c → ws[i]? = some v → ∃ o u, H c = some (cellX c o) ∧ o.data = .cell (some u) ∧ L2.RelV v u
section
variable {T : FT} {H : Hp} {f c' : Addr} {cl : List (Str × Addr)} {ws : List V} {P : Program} {w : World} {h : Heap}
theorem CloAt.cs (x : CloAt T H f cl c' ws) : ∀ c ∈ cl.map (·.2), ∃ o, H c = some (cellX c o) := fun c m => by
  obtain ⟨i, hi⟩ := List.mem_iff_getElem?.mp m
  have l1 : (cl.map (·.2)).length = ws.length := by rw [x.len, ← x.nm]; simp
  have hlt := (List.getElem?_eq_some_iff.mp hi).1
  obtain ⟨o, u, e, _⟩ := x.cw i c _ hi (List.getElem?_eq_getElem (by omega))
  exact ⟨o, e⟩
theorem look_at : ∀ {cl : List (Str × Addr)} {y : Str} {c : Addr}, (cl.map (·.1)).Nodup → (cl.lookup y = some c ↔ ∃ i : Nat, (cl.map (·.1))[i]? = some y ∧ (cl.map (·.2))[i]? = some c)
  | [], y, c, _ => by simp
  | (z, d) :: r, y, c, nd => by
    simp only [List.map_cons, List.nodup_cons] at nd
    rw [List.lookup_cons]
    by_cases e : y = z
    · subst e
      rw [show (y == y) = true from beq_self_eq_true y]
      constructor
      · intro q
        have q : some d = some c := q
        exact ⟨0, rfl, q⟩
      · rintro ⟨i, h1, h2⟩
        cases i with
        | zero => exact h2
        | succ i =>
          have h1 : (r.map (·.1))[i]? = some y := h1
          exact absurd (List.mem_of_getElem? h1) nd.1
    · rw [show (y == z) = false from beq_false_of_ne e]
      show r.lookup y = some c ↔ _
      rw [look_at nd.2]
      constructor
      · rintro ⟨i, h1, h2⟩
        exact ⟨i + 1, h1, h2⟩
      · rintro ⟨i, h1, h2⟩
        cases i with
        | zero => exact absurd (Option.some.inj h1).symm e
        | succ i => exact ⟨i, h1, h2⟩
theorem CloAt.cells (x : CloAt T H f cl c' ws) (ok : HOk P w H h) : CellsAt cl T.fr (ws.map some) h (untr H (cl.map (·.2))) := by
  have nn : (cl.map (·.1)).Nodup := by rw [x.nm]; exact x.nn
  have l1 : (cl.map (·.2)).length = ws.length := by rw [x.len, ← x.nm]; simp
  refine ⟨by rw [List.length_map]; exact x.len, fun y c e => ?_, fun y z c e1 e2 => ?_, fun i y e => ?_⟩
  · obtain ⟨i, h1, h2⟩ := (look_at nn).mp e
    refine ⟨untr_in (List.mem_of_getElem? h2), ?_⟩
    have hlt := (List.getElem?_eq_some_iff.mp h2).1
    obtain ⟨o, u, eo, hd, _⟩ := x.cw i c _ h2 (List.getElem?_eq_getElem (by omega))
    exact ⟨some u, o, cellX_at ok eo, hd⟩
  · obtain ⟨i, h1, h2⟩ := (look_at nn).mp e1
    obtain ⟨j, h3, h4⟩ := (look_at nn).mp e2
    have e : i = j := by
      obtain ⟨a1, a2⟩ := List.getElem?_eq_some_iff.mp h2
      obtain ⟨b1, b2⟩ := List.getElem?_eq_some_iff.mp h4
      exact (List.getElem_inj x.nd).mp (a2.trans b2.symm)
    subst e
    rw [h1] at h3
    exact Option.some.inj h3
  · rw [← x.nm] at e
    have hlt : i < cl.length := by have := (List.getElem?_eq_some_iff.mp e).1; simpa using this
    have hc : (cl.map (·.2))[i]? = some (cl[i]).2 := by rw [List.getElem?_map, List.getElem?_eq_getElem hlt] <;> rfl
    refine ⟨_, (look_at nn).mpr ⟨i, e, hc⟩, fun v ev => ?_⟩
    rw [List.getElem?_map] at ev
    cases ew : ws[i]? with
    | none => rw [ew] at ev; cases ev
    | some v' =>
      rw [ew] at ev
      cases ev
      obtain ⟨o, u, eo, hd, r⟩ := x.cw i _ v hc ew
      exact ⟨u, r, o, cellX_at ok eo, hd⟩
end
structure FnV (P : Program) (w : World) (K : PySem.W.Frag) (mg : Str → Option Value) (base : Heap) (CX : CXT) (k : Nat) (T : FT) (sp : List V → Sp) : Prop where
  at_ : ∀ {H : Hp} {h : Heap} {f : Addr} {cl : List (Str × Addr)} {c' : Addr}, HOk P w H h → H f = some (T.ho f cl c') → PySem.W.FnAt f h
  run : ∀ (A : Around) (outer : List Env) (s : Shared) (H : Hp) (us : List Value) (vs : List V) (ws : List V) (f : Addr) (cl : List (Str × Addr)) (c' : Addr) (Q : VK) (E : XK), Room k A → Env0 P w K mg base A outer s H → H f = some (T.ho f cl c') → H c' = some (CodeO c' T.qn) →
    CellsAt cl T.fr (ws.map some) s.heap H → Vals vs us → sp ws vs H Q E → codeAny (model P w) A (.call (.ref f) ⟨us, []⟩) (CR CX outer P w H s Q E) s
section
variable {X : Cx} {CX : CXT} {i j k : Nat} {js : List Nat} {ys : List Str} {x : Str} {t : TA} {e : Expr} {es : List Expr} {p pos : Pos} {FTs : Nat → FT} {sps : Nat → List V → Sp} {sp : Sp} {f : Addr} {fd : FuncData} {ps : List Str}
end
end PuC
set_option Elab.async false
set_option linter.all false
set_option maxRecDepth 100000
namespace Pu
open PySem PySem.Spec PyProof.Rows L2
inductive D where
  | non
  | bl (b : Bool)
  | int (i : Int)
  | str (x : Str)
  | tup (xs : List D)
  | lst (xs : List D)
  | dK (kvs : List (Key × D))
  | dT (kvs : List (List Key × D))
  | obj (c : Nat) (fs : List (Str × D))
  | fz (c : Nat) (fs : List (Str × D))
  | dN (kvs : List (D × D))
  /-- a function: which one, what its cells hold -/
  | clo (n : Nat) (ds : List D)
mutual
def D.nk : D → Option PySem.NestedKey
  | .non => some .none
  | .bl b => some (.num (if b = true then 1 else 0))
  | .int i => some (.num i)
  | .tup xs => match nkL xs with
    | some ks => some (.tup ks)
    | none => none
  | .str _ => none
  | .lst _ => none
  | .dK _ => none
  | .dT _ => none
  | .obj _ _ => none
  | .fz _ _ => none
  | .dN _ => none
  | .clo _ _ => none
def nkL : List D → Option (List PySem.NestedKey)
  | [] => some []
  | d :: ds => match D.nk d, nkL ds with
    | some k, some ks => some (k :: ks)
    | _, _ => none
end
structure NE where
  k : PySem.NestedKey
  key : V
  val : V
def NDict (a : Addr) (xs : List NE) (h : Heap) : Prop := (a == sysModules) = false ∧ (xs.map NE.k).Nodup ∧ xs.length ≤ sizeLine ∧
  ∃ o es ep, h.get? a = some o ∧ o.ExactDict ∧ o.data = .dict es ep ∧ Paired (fun (x : NE) (e : DictEntry) => (∀ w : World, e.hash = x.k.hash w) ∧ RelV x.key e.key ∧ RelV x.val e.val) xs es.toList
def hN (a : Addr) (xs : List NE) : HO := .ext (NDict a xs)
def fzNames : List (List Str) := [["desks", "works"], ["office", "telling", "steps"]]
def Fz (ns : List Str) : Bool := fzNames.contains ns
mutual
def D.imm : D → Bool
  | .tup xs => immL xs
  | .lst _ => false
  | .dK _ => false
  | .dT _ => false
  | .dN _ => false
  | .obj _ _ => false
  | .fz _ fs => immF fs
  | .clo _ _ => false
  | _ => true
def immL : List D → Bool
  | [] => true
  | d :: ds => D.imm d && immL ds
def immF : List (Str × D) → Bool
  | [] => true
  | (_, d) :: ds => D.imm d && immF ds
end
theorem immF_eq : ∀ fs : List (Str × D), immF fs = immL (fs.map (·.2))
  | [] => rfl
  | (_, d) :: ds => by
    show (D.imm d && immF ds) = (D.imm d && immL (ds.map (·.2)))
    rw [immF_eq ds]
def FnLike (o : HO) : Prop := (∃ f F, o = NdefX.FnO f F) ∨ (∃ c q, o = LamX.CodeO c q) ∨ (∃ c ob v, o = PuC.cellX c ob ∧ ob.data = .cell v)
noncomputable instance (o : HO) : Decidable (FnLike o) := Classical.propDecidable _
noncomputable def Im : HO → Bool
  | .tup _ => true
  | .frz _ _ => true
  | .ins _ _ fs => Fz (fs.map (·.1))
  | .ext φ => decide (FnLike (.ext φ))
  | _ => false
theorem im_fn {f : Addr} {F : NdefX.NF} : Im (NdefX.FnO f F) = true := by
  show decide (FnLike (.ext _)) = true
  exact decide_eq_true (.inl ⟨f, F, rfl⟩)
theorem im_code {c : Addr} {q : Str} : Im (LamX.CodeO c q) = true := by
  show decide (FnLike (.ext _)) = true
  exact decide_eq_true (.inr (.inl ⟨c, q, rfl⟩))
theorem im_cell {c : Addr} {ob : Obj} {v : Option Value} (h : ob.data = .cell v) : Im (PuC.cellX c ob) = true := by
  show decide (FnLike (.ext _)) = true
  exact decide_eq_true (.inr (.inr ⟨c, ob, v, rfl, h⟩))
theorem heap_of (c : Addr) (ob : Obj) (hf : ob.isFreed = false) : ∃ h : Heap, h.get? c = some ob ∧ ∀ a o, h.get? a = some o → o = ob := by
  have nf : ∀ h : Heap, ∀ a : Addr, h.objs[a]? = some ob → h.get? a = some ob := fun h a e => by
    unfold Heap.get?
    rw [e]
    obtain ⟨c1, d1, dt, sl⟩ := ob
    cases dt <;> first | rfl | exact absurd hf (by simp [Obj.isFreed])
  refine ⟨{ objs := Array.replicate (c + 1) ob }, nf _ _ (by simp), fun a o e => ?_⟩
  have : ∃ o', ({ objs := Array.replicate (c + 1) ob } : Heap).objs[a]? = some o' := by
    cases q : ({ objs := Array.replicate (c + 1) ob } : Heap).objs[a]? with
    | some o' => exact ⟨o', rfl⟩
    | none => unfold Heap.get? at e; rw [q] at e; cases e
  obtain ⟨o', q⟩ := this
  have eo : o' = ob := by
    have q2 : (Array.replicate (c + 1) ob)[a]? = some o' := q
    rw [Array.getElem?_replicate] at q2
    split at q2 <;> cases q2
    rfl
  rw [eo] at q
  rw [nf _ _ q] at e
  exact (Option.some.inj e).symm
theorem not_ndict {a c : Addr} {xs : List NE} {ob : Obj} {φ : Heap → Prop} (hf : ob.isFreed = false) (hd : ∀ es ep, ob.data ≠ .dict es ep) (hφ : ∀ h : Heap, h.get? c = some ob → φ h) (e : hN a xs = .ext φ) : False := by
  obtain ⟨h, h1, h2⟩ := heap_of c ob hf
  have e : NDict a xs = φ := by unfold hN at e; injection e
  have q : NDict a xs h := by rw [e]; exact hφ h h1
  obtain ⟨_, _, _, o, es, ep, ho, _, hdt, _⟩ := q
  rw [h2 a o ho] at hdt
  exact hd es ep hdt
theorem im_hN {a : Addr} {xs : List NE} : Im (hN a xs) = false := by
  show decide (FnLike (.ext _)) = false
  refine decide_eq_false ?_
  rintro (⟨f, F, e⟩ | ⟨c, q, e⟩ | ⟨c, ob, v, e, hd⟩)
  · exact not_ndict (c := f) (ob := ⟨.type "function", none, .func (F.fd .none .none .none), #[]⟩) rfl (fun _ _ z => by cases z) (fun h z => ⟨none, #[], .none, .none, .none, z⟩) e
  · exact not_ndict (c := c) (ob := ⟨.type "code", none, .fields #[.none, .str q 0], #[]⟩) rfl (fun _ _ z => by cases z) (fun h z => ⟨_, _, 0, z, rfl, rfl⟩) e
  · refine not_ndict (c := c) (ob := ob) ?_ (fun _ _ z => by rw [hd] at z; cases z) (fun h z => z) e
    obtain ⟨c1, d1, dt, sl⟩ := ob
    dsimp only at hd
    subst hd
    rfl
def FnVal (o : HO) : Prop := ∃ f F, o = NdefX.FnO f F
theorem FnVal.like {o : HO} (h : FnVal o) : FnLike o := .inl h
theorem cell_not {c : Addr} {ob : Obj} {w : Option Value} (hd : ob.data = .cell w) {o : HO} (h : FnVal o ∨ (∃ c q, o = LamX.CodeO c q)) : o ≠ PuC.cellX c ob := fun e => by
  have no : ∀ (a : Addr) (o1 : Obj) (φ : Heap → Prop), o1.isFreed = false → (∀ w, o1.data ≠ .cell w) → (∀ h : Heap, h.get? a = some o1 → φ h) → HO.ext φ = PuC.cellX c ob → False := fun a o1 φ hf hn hφ e => by
    obtain ⟨h, h1, h2⟩ := heap_of a o1 hf
    have e : φ = fun h => h.get? c = some ob := by unfold PuC.cellX at e; injection e
    have q : φ h := hφ h h1
    rw [e] at q
    have := h2 c ob q
    rw [this] at hd
    exact hn w hd
  rcases h with ⟨f, F, rfl⟩ | ⟨c2, q, rfl⟩
  · exact no f ⟨.type "function", none, .func (F.fd .none .none .none), #[]⟩ _ rfl (fun _ z => by cases z) (fun h z => ⟨none, #[], .none, .none, .none, z⟩) e
  · exact no c2 ⟨.type "code", none, .fields #[.none, .str q 0], #[]⟩ _ rfl (fun _ z => by cases z) (fun h z => ⟨_, _, 0, z, rfl, rfl⟩) e
structure RT where
  ct : Nat → Addr
  fn : Nat → PuC.FT
  ok : ∀ n f cl c, FnVal ((fn n).ho f cl c)
def rt0 : RT := ⟨fun _ => 0, fun _ => ⟨fun f cl c => NdefX.FnO f ⟨"", "", default, [], default, cl, c⟩, "", []⟩, fun _ _ _ _ => ⟨_, _, rfl⟩⟩
theorem FnLike.im {o : HO} (h : FnLike o) : Im o = true := by
  rcases h with ⟨f, F, rfl⟩ | ⟨c, q, rfl⟩ | ⟨c, ob, v, rfl, e⟩
  · exact im_fn
  · exact im_code
  · exact im_cell e
theorem FnLike.ex {o : HO} (h : FnLike o) : ∃ φ, o = .ext φ := by
  rcases h with ⟨f, F, rfl⟩ | ⟨c, q, rfl⟩ | ⟨c, ob, v, rfl, e⟩ <;> exact ⟨_, rfl⟩
theorem FnLike.nz {o : HO} (h : FnLike o) (od : Obj) (u : HO) : o ≠ .frz od u := by
  rcases h with ⟨f, F, rfl⟩ | ⟨c, q, rfl⟩ | ⟨c, ob, v, rfl, e⟩ <;> exact fun z => nomatch z
instance : CoeFun RT (fun _ => Nat → Addr) := ⟨RT.ct⟩
mutual
inductive Rp (CT : RT) (H : Hp) : V → D → List Addr → Prop
  | non : Rp CT H .non .non []
  | bl (b : Bool) : Rp CT H (.bl b) (.bl b) []
  | int (i : Int) : Rp CT H (.int i) (.int i) []
  | str (x : Str) : Rp CT H (.str x) (.str x) []
  | tup {a : Addr} {vs : List V} {ds : List D} {F : List Addr} : H a = some (.tup vs) → Rps CT H vs ds F → Rp CT H (.ref a) (.tup ds) F
  | lst {a : Addr} {vs : List V} {ds : List D} {F : List Addr} : H a = some (.lst vs) → Rps CT H vs ds F → Rp CT H (.ref a) (.lst ds) (a :: F)
  | dK {a : Addr} {kvs : List (Key × V)} {kds : List (Key × D)} {F : List Addr} : H a = some (.dK kvs) → kvs.map (·.1) = kds.map (·.1) → Rps CT H (kvs.map (·.2)) (kds.map (·.2)) F → Rp CT H (.ref a) (.dK kds) (a :: F)
  | dT {a : Addr} {kvs : List (List Key × V)} {kds : List (List Key × D)} {F : List Addr} : H a = some (.dT kvs) → kvs.map (·.1) = kds.map (·.1) → Rps CT H (kvs.map (·.2)) (kds.map (·.2)) F → Rp CT H (.ref a) (.dT kds) (a :: F)
  | obj {a dx : Addr} {c : Nat} {fs : List (Str × V)} {gs : List (Str × D)} {F : List Addr} : H a = some (.ins (CT c) dx fs) → fs.map (·.1) = gs.map (·.1) → Rps CT H (fs.map (·.2)) (gs.map (·.2)) F → Rp CT H (.ref a) (.obj c gs) (a :: F)
  | fz {a dx : Addr} {c : Nat} {fs : List (Str × V)} {gs : List (Str × D)} {F : List Addr} : H a = some (.ins (CT c) dx fs) → Fz (fs.map (·.1)) = true → fs.map (·.1) = gs.map (·.1) → Rps CT H (fs.map (·.2)) (gs.map (·.2)) F → Rp CT H (.ref a) (.fz c gs) F
  | dN {a : Addr} {xs : List NE} {kds : List (D × D)} {F : List Addr} : H a = some (hN a xs) → xs.map (fun x => some x.k) = kds.map (fun kd => D.nk kd.1) → (∀ x ∈ xs, x.k.depth ≤ 8) → Rps CT H (xs.map NE.key) (kds.map (·.1)) [] → Rps CT H (xs.map NE.val) (kds.map (·.2)) F → Rp CT H (.ref a) (.dN kds) (a :: F)
  | clo {f c' : Addr} {cl : List (Str × Addr)} {n : Nat} {ws : List V} {ds : List D} {F : List Addr} : PuC.CloAt (CT.fn n) H f cl c' ws → Rps CT H ws ds F → (∀ c ∈ cl.map (·.2), c ∉ F) → Rp CT H (.ref f) (.clo n ds) (cl.map (·.2) ++ F)
inductive Rps (CT : RT) (H : Hp) : List V → List D → List Addr → Prop
  | nil : Rps CT H [] [] []
  | cons {v : V} {d : D} {F G : List Addr} {vs : List V} {ds : List D} : Rp CT H v d F → Rps CT H vs ds G → Rps CT H (v :: vs) (d :: ds) (F ++ G)
end
structure Fr (W : Addr → Prop) (H H' : Hp) : Prop where
  keep : ∀ a o, H a = some o → ¬ W a → H' a = some o
  im : ∀ a o, H a = some o → Im o = true → H' a = some o
  there : ∀ a, H' a = none → H a = none
section
variable {W W' : Addr → Prop} {H H' H1 H2 : Hp} {CT : RT} {v : V} {vs : List V} {d : D} {ds : List D} {F : List Addr}
theorem Fr.refl : Fr W H H := ⟨fun _ _ h _ => h, fun _ _ h _ => h, fun _ h => h⟩
theorem Fr.trans (a : Fr W H H1) (b : Fr W H1 H2) : Fr W H H2 :=
  ⟨fun x o h n => b.keep x o (a.keep x o h n) n, fun x o h n => b.im x o (a.im x o h n) n, fun x h => a.there x (b.there x h)⟩
theorem Fr.mono (a : Fr W H H1) (h : ∀ x, W x → W' x) : Fr W' H H1 := ⟨fun x o e n => a.keep x o e fun w => n (h x w), a.im, a.there⟩
theorem Fr.new {p : Addr} {o : HO} (h : H p = none) : Fr W H (upd H p o) := by
  refine ⟨fun a u e _ => ?_, fun a u e _ => ?_, fun a e => ?_⟩
  · rw [upd_ne (ne_of_none e h)]; exact e
  · rw [upd_ne (ne_of_none e h)]; exact e
  · by_cases q : a = p
    · rw [q]; exact h
    · rw [upd_ne q] at e; exact e
theorem Fr.at {p : Addr} {o u : HO} (w : W p) (h : H p = some u) (i : Im u = false) : Fr W H (upd H p o) := by
  refine ⟨fun a x e n => ?_, fun a x e n => ?_, fun a e => ?_⟩
  · rw [upd_ne (fun q => n (by rw [q]; exact w))]; exact e
  · rw [upd_ne (fun q => by subst q; rw [h] at e; cases e; rw [i] at n; cases n)]; exact e
  · by_cases q : a = p
    · rw [q, upd_same] at e; cases e
    · rw [upd_ne q] at e; exact e
theorem cloAt_keep {CT : RT} {n : Nat} {f c' : Addr} {cl : List (Str × Addr)} {ws : List V} (x : PuC.CloAt (CT.fn n) H f cl c' ws) (f' : Fr W H H') : PuC.CloAt (CT.fn n) H' f cl c' ws :=
  ⟨f'.im _ _ x.hf (CT.ok n f cl c').like.im, f'.im _ _ x.hc im_code, x.nm, x.nn, x.nd, x.len, fun i c v e1 e2 => by
    obtain ⟨o, u, h1, h2, h3⟩ := x.cw i c v e1 e2
    exact ⟨o, u, f'.im _ _ h1 (im_cell h2), h2, h3⟩⟩
mutual
theorem Rp.keep : ∀ {v : V} {d : D} {F : List Addr}, Rp CT H v d F → Fr W H H' → (∀ a ∈ F, ¬ W a) → Rp CT H' v d F
  | _, _, _, .non, _, _ => .non
  | _, _, _, .bl b, _, _ => .bl b
  | _, _, _, .int b, _, _ => .int b
  | _, _, _, .str b, _, _ => .str b
  | _, _, _, .tup h r, f, n => .tup (f.im _ _ h rfl) (Rps.keep r f n)
  | _, _, _, .lst h r, f, n => .lst (f.keep _ _ h (n _ List.mem_cons_self)) (Rps.keep r f fun a m => n a (List.mem_cons_of_mem _ m))
  | _, _, _, .dK h k r, f, n => .dK (f.keep _ _ h (n _ List.mem_cons_self)) k (Rps.keep r f fun a m => n a (List.mem_cons_of_mem _ m))
  | _, _, _, .dT h k r, f, n => .dT (f.keep _ _ h (n _ List.mem_cons_self)) k (Rps.keep r f fun a m => n a (List.mem_cons_of_mem _ m))
  | _, _, _, .obj h k r, f, n => .obj (f.keep _ _ h (n _ List.mem_cons_self)) k (Rps.keep r f fun a m => n a (List.mem_cons_of_mem _ m))
  | _, _, _, .fz h z k r, f, n => .fz (f.im _ _ h z) z k (Rps.keep r f n)
  | _, _, _, .dN h k z r1 r, f, n => .dN (f.keep _ _ h (n _ List.mem_cons_self)) k z (Rps.keep r1 f fun _ m => nomatch m) (Rps.keep r f fun a m => n a (List.mem_cons_of_mem _ m))
  | _, _, _, .clo x r nc, f, n => .clo (cloAt_keep x f) (Rps.keep r f fun a m => n a (List.mem_append_right _ m)) nc
theorem Rps.keep : ∀ {vs : List V} {ds : List D} {F : List Addr}, Rps CT H vs ds F → Fr W H H' → (∀ a ∈ F, ¬ W a) → Rps CT H' vs ds F
  | _, _, _, .nil, _, _ => .nil
  | _, _, _, .cons h r, f, n => .cons (Rp.keep h f fun a m => n a (List.mem_append_left _ m)) (Rps.keep r f fun a m => n a (List.mem_append_right _ m))
end
mutual
theorem Rp.tracked : ∀ {v : V} {d : D} {F : List Addr}, Rp CT H v d F → ∀ a ∈ F, H a ≠ none
  | _, _, _, .non, a, m => absurd m (by simp)
  | _, _, _, .bl b, a, m => absurd m (by simp)
  | _, _, _, .int b, a, m => absurd m (by simp)
  | _, _, _, .str b, a, m => absurd m (by simp)
  | _, _, _, .tup h r, a, m => Rps.tracked r a m
  | _, _, _, .lst h r, a, m => by
    rcases List.mem_cons.mp m with e | m
    · rw [e, h]; exact fun z => nomatch z
    · exact Rps.tracked r a m
  | _, _, _, .dK h _ r, a, m => by
    rcases List.mem_cons.mp m with e | m
    · rw [e, h]; exact fun z => nomatch z
    · exact Rps.tracked r a m
  | _, _, _, .dT h _ r, a, m => by
    rcases List.mem_cons.mp m with e | m
    · rw [e, h]; exact fun z => nomatch z
    · exact Rps.tracked r a m
  | _, _, _, .obj h _ r, a, m => by
    rcases List.mem_cons.mp m with e | m
    · rw [e, h]; exact fun z => nomatch z
    · exact Rps.tracked r a m
  | _, _, _, .fz h _ _ r, a, m => Rps.tracked r a m
  | _, _, _, .dN h _ _ _ r, a, m => by
    rcases List.mem_cons.mp m with e | m
    · rw [e, h]; exact fun z => nomatch z
    · exact Rps.tracked r a m
  | _, _, _, .clo x r _, a, m => by
    rcases List.mem_append.mp m with m | m
    · obtain ⟨o, e⟩ := x.cs a m
      rw [e]; exact fun z => nomatch z
    · exact Rps.tracked r a m
theorem Rps.tracked : ∀ {vs : List V} {ds : List D} {F : List Addr}, Rps CT H vs ds F → ∀ a ∈ F, H a ≠ none
  | _, _, _, .nil, a, m => absurd m (by simp)
  | _, _, _, .cons h r, a, m => by
    rcases List.mem_append.mp m with m | m
    · exact Rp.tracked h a m
    · exact Rps.tracked r a m
end
mutual
theorem Rp.imm : ∀ {v : V} {d : D} {F : List Addr}, Rp CT H v d F → d.imm = true → F = []
  | _, _, _, .non, _ => rfl
  | _, _, _, .bl b, _ => rfl
  | _, _, _, .int b, _ => rfl
  | _, _, _, .str b, _ => rfl
  | _, _, _, .tup h r, e => Rps.imm r (by simpa [D.imm] using e)
  | _, _, _, .lst h r, e => by simp [D.imm] at e
  | _, _, _, .dK h _ r, e => by simp [D.imm] at e
  | _, _, _, .dT h _ r, e => by simp [D.imm] at e
  | _, _, _, .obj h _ r, e => by simp [D.imm] at e
  | _, _, _, .fz h _ _ r, e => Rps.imm r (by rw [← immF_eq]; simpa [D.imm] using e)
  | _, _, _, .dN _ _ _ _ r, e => by simp [D.imm] at e
  | _, _, _, .clo _ _ _, e => by simp [D.imm] at e
theorem Rps.imm : ∀ {vs : List V} {ds : List D} {F : List Addr}, Rps CT H vs ds F → immL ds = true → F = []
  | _, _, _, .nil, _ => rfl
  | _, _, _, .cons h r, e => by
    simp [immL] at e
    rw [Rp.imm h e.1, Rps.imm r e.2]
    rfl
end
theorem Rps.length : ∀ {vs : List V} {ds : List D} {F : List Addr}, Rps CT H vs ds F → vs.length = ds.length
  | _, _, _, .nil => rfl
  | _, _, _, .cons _ r => by simp [Rps.length r]
theorem Rps.get : ∀ {vs : List V} {ds : List D} {F : List Addr} {j : Nat} {d : D}, Rps CT H vs ds F → ds[j]? = some d → ∃ v G, vs[j]? = some v ∧ Rp CT H v d G ∧ G.Sublist F
  | _, _, _, _, _, .nil, e => by simp at e
  | _, _, _, 0, _, .cons (F := F) h r, e => by
    simp at e; subst e
    exact ⟨_, _, rfl, h, List.sublist_append_left _ _⟩
  | _, _, _, j + 1, _, .cons h r, e => by
    obtain ⟨v, G, h1, h2, h3⟩ := Rps.get (j := j) r (by simpa using e)
    exact ⟨v, G, by simpa using h1, h2, h3.trans (List.sublist_append_right _ _)⟩
theorem Rps.append : ∀ {vs : List V} {ds : List D} {F : List Addr} {ws : List V} {es : List D} {G : List Addr}, Rps CT H vs ds F → Rps CT H ws es G → Rps CT H (vs ++ ws) (ds ++ es) (F ++ G)
  | _, _, _, _, _, _, .nil, s => s
  | _, _, _, _, _, _, .cons h r, s => by
    rw [List.append_assoc]
    exact .cons h (Rps.append r s)
theorem Rps.of_imm : ∀ {vs : List V} {ds : List D}, vs.length = ds.length → (∀ (j : Nat) (v : V) (d : D), vs[j]? = some v → ds[j]? = some d → Rp CT H v d []) → Rps CT H vs ds []
  | [], [], _, _ => .nil
  | v :: vs, d :: ds, l, h => by
    have := Rps.cons (h 0 v d rfl rfl) (Rps.of_imm (vs := vs) (ds := ds) (by simpa using l) fun j v' d' e1 e2 => h (j + 1) v' d' (by simpa using e1) (by simpa using e2))
    simpa using this
  | [], _ :: _, l, _ => by simp at l
  | _ :: _, [], l, _ => by simp at l
theorem Rps.at (r : Rps CT H vs ds []) {j : Nat} {v : V} {d : D} (e1 : vs[j]? = some v) (e2 : ds[j]? = some d) : Rp CT H v d [] := by
  obtain ⟨v', G, h1, h2, h3⟩ := r.get e2
  rw [e1] at h1; cases h1
  rw [List.sublist_nil.mp h3] at h2
  exact h2
theorem Rps.take (r : Rps CT H vs ds []) (n : Nat) : Rps CT H (vs.take n) (ds.take n) [] := by
  refine Rps.of_imm (by simp [r.length]) fun j v d e1 e2 => ?_
  rw [List.getElem?_take] at e1 e2
  split at e1
  · rename_i hj
    rw [if_pos hj] at e2
    exact r.at e1 e2
  · cases e1
theorem Rps.drop (r : Rps CT H vs ds []) (n : Nat) : Rps CT H (vs.drop n) (ds.drop n) [] := by
  refine Rps.of_imm (by simp [r.length]) fun j v d e1 e2 => ?_
  rw [List.getElem?_drop] at e1 e2
  exact r.at e1 e2
end
end Pu
set_option Elab.async false
set_option linter.all false
set_option maxRecDepth 100000
namespace Pu
open PySem PySem.Spec PyProof.Rows L2
structure Stat where
  CT : RT
  DQ : Addr × Addr → HO → HO → Prop
  /-- the tables of code objects -/
  TT : List NdefX.NTab
inductive FX where
  | fn (a : Addr) (o : HO)
  | ap (i : Nat) (v : V) (a : Addr)
structure Cfg extends Stat where
  q : Option (Addr × Addr)
  pin : List (Nat × V)
  /-- functions that this frame has made, their code objects -/
  fns : List FX
def Free (C : Cfg) (i : Nat) : Prop := i ∉ C.pin.map (·.1)
structure Dice (DQ : Addr × Addr → HO → HO → Prop) (H : Hp) (p : Addr × Addr) : Prop where
  ex : ∃ o u, H p.1 = some o ∧ H p.2 = some u ∧ DQ p o u
theorem Dice.t1 {DQ : Addr × Addr → HO → HO → Prop} {H : Hp} {p : Addr × Addr} (x : Dice DQ H p) : H p.1 ≠ none := fun z => by
  obtain ⟨o, u, h1, h2, _⟩ := x.ex
  rw [z] at h1; cases h1
theorem Dice.t2 {DQ : Addr × Addr → HO → HO → Prop} {H : Hp} {p : Addr × Addr} (x : Dice DQ H p) : H p.2 ≠ none := fun z => by
  obtain ⟨o, u, h1, h2, _⟩ := x.ex
  rw [z] at h2; cases h2
inductive Mo where
  | o | f | x | q
  deriving DecidableEq
inductive Kd where
  | own | al (S : List Nat)
def Kd.set : Kd → List Nat
  | .own => []
  | .al S => S
def Kd.j : Kd → Kd → Kd
  | .own, .own => .own
  | a, b => .al (a.set ++ b.set)
abbrev PEnv := List (Option D)
abbrev X1 := PEnv → (D → Prop) → Prop
abbrev XB := PEnv → (Bool → Prop) → Prop
abbrev XL := PEnv → (List D → Prop) → Prop
structure PEnds where
  nx : PEnv → Prop
  rt : D → Prop
  bk : PEnv → Prop := fun _ => False
  ct : PEnv → Prop := fun _ => False
abbrev XS := PEnds → PEnv → Prop
def Wq (C : Cfg) : Addr → Prop := fun a => (∃ p, C.q = some p ∧ (a = p.1 ∨ a = p.2)) ∨ ∃ t ∈ C.TT, a = t.1
structure DiceS (S : Stat) (q : Option (Addr × Addr)) (H : Hp) : Prop where
  dice : ∀ p, q = some p → Dice S.DQ H p
  tabs : NdefX.TabsN S.TT H
  sep : ∀ p, q = some p → ∀ t ∈ S.TT, t.1 ≠ p.1 ∧ t.1 ≠ p.2
abbrev DiceOk (C : Cfg) (H : Hp) : Prop := DiceS C.toStat C.q H
structure NoQS (S : Stat) (q : Option (Addr × Addr)) (F : List Addr) : Prop where
  q : ∀ p, q = some p → p.1 ∉ F ∧ p.2 ∉ F
  t : ∀ t ∈ S.TT, t.1 ∉ F
abbrev NoQ (C : Cfg) (F : List Addr) : Prop := NoQS C.toStat C.q F
theorem NoQS.wq {C : Cfg} {F : List Addr} (n : NoQ C F) : ∀ a ∈ F, ¬ Wq C a := fun a m w => by
  rcases w with ⟨p, e, ea⟩ | ⟨t, ht, ea⟩
  · rcases ea with ea | ea
    · exact (n.q p e).1 (ea ▸ m)
    · exact (n.q p e).2 (ea ▸ m)
  · exact n.t t ht (ea ▸ m)
theorem NoQS.nil {C : Cfg} : NoQ C [] := ⟨fun _ _ => by simp, fun _ _ => by simp⟩
theorem NoQS.app {C : Cfg} {F G : List Addr} (a : NoQ C F) (b : NoQ C G) : NoQ C (F ++ G) := ⟨fun p e => ⟨fun m => (List.mem_append.mp m).elim (a.q p e).1 (b.q p e).1, fun m => (List.mem_append.mp m).elim (a.q p e).2 (b.q p e).2⟩, fun t ht m => (List.mem_append.mp m).elim (a.t t ht) (b.t t ht)⟩
theorem NoQS.subm {C : Cfg} {F G : List Addr} (a : NoQ C F) (s : ∀ x ∈ G, x ∈ F) : NoQ C G := ⟨fun p e => ⟨fun m => (a.q p e).1 (s _ m), fun m => (a.q p e).2 (s _ m)⟩, fun t ht m => a.t t ht (s _ m)⟩
theorem NoQS.sub {C : Cfg} {F G : List Addr} (a : NoQ C F) (s : G.Sublist F) : NoQ C G := a.subm fun _ m => s.mem m
theorem tab_at {T : List NdefX.NTab} {H : Hp} {t : NdefX.NTab} (x : NdefX.TabsN T H) (ht : t ∈ T) : ∃ ps, H t.1 = some (.tbl ps) := by
  obtain ⟨ps, h, _⟩ := x t ht
  exact ⟨ps, h⟩
theorem NoQS.new {C : Cfg} {F : List Addr} {H0 : Hp} (dk : DiceOk C H0) (h : ∀ a ∈ F, H0 a = none) : NoQ C F := ⟨fun p e => ⟨fun m => (dk.dice p e).t1 (h _ m), fun m => (dk.dice p e).t2 (h _ m)⟩, fun t ht m => by
  obtain ⟨ps, e⟩ := tab_at dk.tabs ht
  rw [h _ m] at e; cases e⟩
theorem wq_there {C : Cfg} {H : Hp} {a : Addr} (dk : DiceOk C H) (w : Wq C a) : H a ≠ none := by
  rcases w with ⟨p, e, ea⟩ | ⟨t, ht, ea⟩
  · rcases ea with ea | ea
    · rw [ea]; exact (dk.dice p e).t1
    · rw [ea]; exact (dk.dice p e).t2
  · obtain ⟨ps, e⟩ := tab_at dk.tabs ht
    rw [ea, e]; exact fun z => nomatch z
theorem tabs_upd {T : List NdefX.NTab} {H : Hp} {a : Addr} {o u : HO} (x : NdefX.TabsN T H) (h : H a = some o) (hi : Im o = false) (hn : ∀ t ∈ T, t.1 ≠ a) : NdefX.TabsN T (L2.upd H a u) := fun t ht => by
  obtain ⟨ps, h1, h2, h3⟩ := x t ht
  refine ⟨ps, by rw [L2.upd_ne (hn t ht)]; exact h1, h2, fun pos cv e => ?_⟩
  obtain ⟨c, e1, e2⟩ := h3 pos cv e
  refine ⟨c, e1, ?_⟩
  rw [L2.upd_ne fun z => by rw [z, h] at e2; cases e2; rw [im_code] at hi; cases hi]
  exact e2
theorem tabs_new {T : List NdefX.NTab} {H : Hp} {a : Addr} {u : HO} (x : NdefX.TabsN T H) (h : H a = none) : NdefX.TabsN T (L2.upd H a u) := NdefX.TabsN.ext x fun b o e => by rw [L2.upd_ne (ne_of_none e h)]; exact e
theorem tabs_fr {T : List NdefX.NTab} {H H' : Hp} {W : Addr → Prop} (x : NdefX.TabsN T H) (f : Fr W H H') (hn : ∀ t ∈ T, ¬ W t.1) : NdefX.TabsN T H' := fun t ht => by
  obtain ⟨ps, h1, h2, h3⟩ := x t ht
  refine ⟨ps, f.keep _ _ h1 (hn t ht), h2, fun pos cv e => ?_⟩
  obtain ⟨c, e1, e2⟩ := h3 pos cv e
  exact ⟨c, e1, f.im _ _ e2 im_code⟩
theorem not_tbl {T : List NdefX.NTab} {H : Hp} {a : Addr} {o : HO} (x : NdefX.TabsN T H) (h : H a = some o) (hn : ∀ ps, o ≠ .tbl ps) : ∀ t ∈ T, t.1 ≠ a := fun t ht z => by
  obtain ⟨ps, e⟩ := tab_at x ht
  rw [z, h] at e
  exact hn ps (Option.some.inj e)
theorem DiceS.own {C : Cfg} {H : Hp} {F : List Addr} {a : Addr} {o u : HO} (x : DiceOk C H) (nq : NoQ C F) (m : a ∈ F) (h : H a = some o) (hi : Im o = false) : DiceOk C (L2.upd H a u) := ⟨fun p e => by
  obtain ⟨o1, u1, h1, h2, r1⟩ := (x.dice p e).ex
  have nq := nq.q p e
  exact ⟨o1, u1, by rw [L2.upd_ne (fun z => nq.1 (by rw [z]; exact m))]; exact h1, by rw [L2.upd_ne (fun z => nq.2 (by rw [z]; exact m))]; exact h2, r1⟩, tabs_upd x.tabs h hi (fun t ht z => nq.t t ht (z ▸ m)), x.sep⟩
theorem DiceS.thaw {C : Cfg} {H : Hp} {a : Addr} {od : Obj} {o u : HO} (x : DiceOk C H) (nq : NoQ C [a]) (h : H a = some (.frz od o)) : DiceOk C (L2.upd H a u) := ⟨fun p e => by
  obtain ⟨o1, u1, h1, h2, r1⟩ := (x.dice p e).ex
  have nq := nq.q p e
  exact ⟨o1, u1, by rw [L2.upd_ne (fun z => nq.1 (by rw [z]; exact List.mem_singleton.mpr rfl))]; exact h1, by rw [L2.upd_ne (fun z => nq.2 (by rw [z]; exact List.mem_singleton.mpr rfl))]; exact h2, r1⟩, fun t ht => by
  obtain ⟨ps, h1, h2, h3⟩ := x.tabs t ht
  refine ⟨ps, by rw [L2.upd_ne fun z => by rw [z, h] at h1; cases h1]; exact h1, h2, fun pos cv e => ?_⟩
  obtain ⟨c, e1, e2⟩ := h3 pos cv e
  refine ⟨c, e1, ?_⟩
  rw [L2.upd_ne fun z => by rw [z, h] at e2; cases e2]
  exact e2, x.sep⟩
theorem NoQS.grow {C : Cfg} {H : Hp} {F G : List Addr} (nq : NoQ C F) (dk : DiceOk C H) (s : ∀ b ∈ G, b ∈ F ∨ H b = none) : NoQ C G := by
  refine ⟨fun p ep => ⟨fun z => ?_, fun z => ?_⟩, fun t ht z => ?_⟩
  · rcases s _ z with z | z
    · exact (nq.q p ep).1 z
    · exact (dk.dice p ep).t1 z
  · rcases s _ z with z | z
    · exact (nq.q p ep).2 z
    · exact (dk.dice p ep).t2 z
  · rcases s _ z with z | z
    · exact nq.t t ht z
    · obtain ⟨ps, e⟩ := tab_at dk.tabs ht
      rw [z] at e; cases e
def FX.ok (Γ : List Mo) (pn : List (Nat × V)) (H : Hp) (Fs : Nat → List Addr) : FX → Prop
  | .fn a o => H a = some o ∧ FnLike o
  | .ap i v a => (i, v) ∈ pn ∧ Γ[i]? ≠ some .o ∧ a ∉ Fs i
abbrev FxOk (Γ : List Mo) (pn : List (Nat × V)) (H : Hp) (Fs : Nat → List Addr) (fs : List FX) : Prop := ∀ x ∈ fs, x.ok Γ pn H Fs
theorem fns_gen {Γ Γ' : List Mo} {pn pn' : List (Nat × V)} {H H' : Hp} {Fs Fs' : Nat → List Addr} {fs : List FX} (x : FxOk Γ pn H Fs fs) (h1 : ∀ a o, H a = some o → FnLike o → H' a = some o)
    (h2 : ∀ i v, (i, v) ∈ pn → Γ[i]? ≠ some .o → (i, v) ∈ pn' ∧ Γ'[i]? ≠ some .o ∧ Fs' i = Fs i) : FxOk Γ' pn' H' Fs' fs := fun p hp => by
  have q := x p hp
  cases p with
  | fn a o => exact ⟨h1 a o q.1 q.2, q.2⟩
  | ap i v a =>
    obtain ⟨z1, z2, z3⟩ := h2 i v q.1 q.2.1
    exact ⟨z1, z2, by rw [z3]; exact q.2.2⟩
theorem fns_upd {Γ : List Mo} {pn : List (Nat × V)} {Fs : Nat → List Addr} {fs : List FX} {H : Hp} {a : Addr} {o u : HO} (x : FxOk Γ pn H Fs fs) (h : H a = some o) (hi : Im o = false) : FxOk Γ pn (L2.upd H a u) Fs fs :=
  fns_gen x (fun b p h1 h2 => by rw [L2.upd_ne fun z => by rw [z, h] at h1; cases h1; rw [h2.im] at hi; cases hi]; exact h1) fun _ _ z1 z2 => ⟨z1, z2, rfl⟩
theorem fns_thaw {Γ : List Mo} {pn : List (Nat × V)} {Fs : Nat → List Addr} {fs : List FX} {H : Hp} {a : Addr} {od : Obj} {o u : HO} (x : FxOk Γ pn H Fs fs) (h : H a = some (.frz od o)) : FxOk Γ pn (L2.upd H a u) Fs fs :=
  fns_gen x (fun b p h1 h2 => by rw [L2.upd_ne fun z => by rw [z, h] at h1; exact h2.nz _ _ (Option.some.inj h1).symm]; exact h1) fun _ _ z1 z2 => ⟨z1, z2, rfl⟩
theorem fns_fr {Γ : List Mo} {pn : List (Nat × V)} {Fs : Nat → List Addr} {fs : List FX} {H H' : Hp} {W : Addr → Prop} (x : FxOk Γ pn H Fs fs) (f : Fr W H H') : FxOk Γ pn H' Fs fs :=
  fns_gen x (fun b p h1 h2 => f.im _ _ h1 h2.im) fun _ _ z1 z2 => ⟨z1, z2, rfl⟩
theorem fns_set {Γ Γ' : List Mo} {pn : List (Nat × V)} {Fs Fs' : Nat → List Addr} {fs : List FX} {H : Hp} {i : Nat} (x : FxOk Γ pn H Fs fs) (h : i ∉ pn.map (·.1)) (h1 : ∀ j, j ≠ i → Γ'[j]? = Γ[j]?) (h2 : ∀ j, j ≠ i → Fs' j = Fs j) : FxOk Γ' pn H Fs' fs :=
  fns_gen x (fun _ _ h1 _ => h1) fun j v z1 z2 => by
    have ne : j ≠ i := fun e => h (e ▸ List.mem_map.mpr ⟨(j, v), z1, rfl⟩)
    exact ⟨z1, by rw [h1 j ne]; exact z2, h2 j ne⟩
theorem fns_own {Γ : List Mo} {pn : List (Nat × V)} {Fs Fs' : Nat → List Addr} {fs : List FX} {H : Hp} {i : Nat} (x : FxOk Γ pn H Fs fs) (g : Γ[i]? = some .o) (h2 : ∀ j, j ≠ i → Fs' j = Fs j) : FxOk Γ pn H Fs' fs :=
  fns_gen x (fun _ _ h1 _ => h1) fun j v z1 z2 => ⟨z1, z2, h2 j fun e => z2 (e ▸ g)⟩
theorem fns_weak {Γ Γ' : List Mo} {pn : List (Nat × V)} {Fs : Nat → List Addr} {fs : List FX} {H : Hp} (x : FxOk Γ pn H Fs fs) (h : ∀ i : Nat, Γ'[i]? = some .o → Γ[i]? = some .o) : FxOk Γ' pn H Fs fs :=
  fns_gen x (fun _ _ h1 _ => h1) fun j v z1 z2 => ⟨z1, fun z => z2 (h j z), rfl⟩
def live (m : Mo) : Prop := m = .o ∨ m = .f
structure Ok (C : Cfg) (Γ : List Mo) (σ : L2.St) (H : Hp) (env : PEnv) (Fs : Nat → List Addr) : Prop where
  le : env.length = Γ.length
  ls : σ.length = Γ.length
  val : ∀ (i : Nat) (m : Mo), Γ[i]? = some m → live m → ∃ v d, σ[i]? = some (some v) ∧ env[i]? = some (some d) ∧ Rp C.CT H v d (Fs i)
  dice : ∀ i : Nat, Γ[i]? = some .q → ∃ p, C.q = some p ∧ σ[i]? = some (some (.ref p.1))
  nd : ∀ i : Nat, Γ[i]? = some .o → (Fs i).Nodup
  dj : ∀ (i j : Nat) (m : Mo), Γ[i]? = some .o → Γ[j]? = some m → live m → i ≠ j → ∀ a ∈ Fs i, a ∉ Fs j
  nq : ∀ (i : Nat) (m : Mo), Γ[i]? = some m → live m → NoQ C (Fs i)
  dk : DiceOk C H
  pn : ∀ p ∈ C.pin, σ[p.1]? = some (some p.2)
  fn : FxOk Γ C.pin H Fs C.fns
section
variable {C : Cfg} {Γ Γ' Γl Γ1 : List Mo} {σ σ' : L2.St} {H H' H1 H2 : Hp} {env env' : PEnv} {Fs Fs' : Nat → List Addr} {v : V} {d : D} {F G : List Addr}
theorem Ok.step (I : Ok C Γ σ H env Fs) (f : Fr (Wq C) H H') (dk : DiceOk C H') : Ok C Γ σ H' env Fs := by
  refine ⟨I.le, I.ls, fun i m h l => ?_, I.dice, I.nd, I.dj, I.nq, dk, I.pn, fns_fr I.fn f⟩
  obtain ⟨v, d, h1, h2, h3⟩ := I.val i m h l
  exact ⟨v, d, h1, h2, h3.keep f (I.nq i m h l).wq⟩
theorem DiceS.keep (x : DiceOk C H) (f : Fr (fun _ => False) H H') : DiceOk C H' := ⟨fun p e => by
  obtain ⟨o, u, h1, h2, r⟩ := (x.dice p e).ex
  exact ⟨o, u, f.keep _ _ h1 (fun z => z), f.keep _ _ h2 (fun z => z), r⟩, x.tabs.ext (fun b o e => f.keep _ _ e fun z => z), x.sep⟩
theorem Fr.wq {W : Addr → Prop} (f : Fr (fun _ => False) H H') : Fr W H H' := f.mono fun _ z => z.elim
def KdOk (C : Cfg) (Γ : List Mo) (Fs : Nat → List Addr) (H0 : Hp) (A : Kd) (F : List Addr) : Prop :=
  NoQ C F ∧ match A with
    | .own => F.Nodup ∧ ∀ a ∈ F, H0 a = none
    | .al S => ∀ a ∈ F, ∀ i : Nat, Γ[i]? = some .o → a ∈ Fs i → i ∈ S
theorem KdOk.own_nil {H0 : Hp} : KdOk C Γ Fs H0 .own [] := ⟨NoQS.nil, List.nodup_nil, fun _ h => nomatch h⟩
theorem KdOk.nil {H0 : Hp} {A : Kd} : KdOk C Γ Fs H0 A [] := ⟨NoQS.nil, by cases A <;> simp⟩
theorem KdOk.set {H0 : Hp} {A : Kd} (I : Ok C Γ σ H0 env Fs) (k : KdOk C Γ Fs H0 A F) : ∀ a ∈ F, ∀ i : Nat, Γ[i]? = some .o → a ∈ Fs i → i ∈ A.set := fun a m i g b => by
  cases A with
  | own =>
    obtain ⟨v, d, _, _, r⟩ := I.val i _ g (.inl rfl)
    exact absurd (k.2.2 a m) (r.tracked a b)
  | al S => exact k.2 a m i g b
theorem KdOk.al {H0 : Hp} {A : Kd} (I : Ok C Γ σ H0 env Fs) (k : KdOk C Γ Fs H0 A F) : KdOk C Γ Fs H0 (.al A.set) F := ⟨k.1, k.set I⟩
theorem KdOk.sub {H0 : Hp} {A : Kd} (k : KdOk C Γ Fs H0 A F) (s : G.Sublist F) : KdOk C Γ Fs H0 A G := by
  refine ⟨k.1.sub s, ?_⟩
  cases A with
  | own => exact ⟨k.2.1.sublist s, fun a m => k.2.2 a (s.mem m)⟩
  | al S => exact fun a m => k.2 a (s.mem m)
theorem KdOk.j {A B : Kd} (I : Ok C Γ σ H env Fs) (f : Fr (Wq C) H H1) (r : ∀ a ∈ F, H1 a ≠ none) (k : KdOk C Γ Fs H A F) (k' : KdOk C Γ Fs H1 B G) (I1 : Ok C Γ σ H1 env Fs) : KdOk C Γ Fs H (A.j B) (F ++ G) := by
  refine ⟨k.1.app k'.1, ?_⟩
  have al : ∀ a ∈ F ++ G, ∀ i : Nat, Γ[i]? = some .o → a ∈ Fs i → i ∈ A.set ++ B.set := fun a m i g b => by
    rcases List.mem_append.mp m with m | m
    · exact List.mem_append_left _ (k.set I a m i g b)
    · exact List.mem_append_right _ (k'.set I1 a m i g b)
  cases A with
  | own =>
    cases B with
    | own =>
      refine ⟨List.nodup_append.mpr ⟨k.2.1, k'.2.1, fun a m b m' e => ?_⟩, fun a m => ?_⟩
      · subst e
        exact r a m (k'.2.2 a m')
      · rcases List.mem_append.mp m with m | m
        · exact k.2.2 a m
        · exact f.there a (k'.2.2 a m)
    | al S => exact al
  | al S => cases B <;> exact al
def Mono {α : Type} (m : PEnv → (α → Prop) → Prop) : Prop := ∀ env Q Q', (∀ d, Q d → Q' d) → m env Q → m env Q'
structure Sim (C : Cfg) (Γ : List Mo) (t : TE) (A : Kd) (m : X1) : Prop where
  run : ∀ (σ : L2.St) (H : Hp) (env : PEnv) (Fs : Nat → List Addr) (Q : VK), Ok C Γ σ H env Fs →
    m env (fun d => ∀ v H' F, Fr (Wq C) H H' → DiceOk C H' → Rp C.CT H' v d F → KdOk C Γ Fs H A F → Q v H') → t σ H Q
  mono : Mono m
structure SimT (C : Cfg) (Γ : List Mo) (t : TT) (m : XB) : Prop where
  run : ∀ (σ : L2.St) (H : Hp) (env : PEnv) (Fs : Nat → List Addr) (Q : Bool → Hp → Prop), Ok C Γ σ H env Fs →
    m env (fun b => ∀ H', Fr (Wq C) H H' → DiceOk C H' → Q b H') → t σ H Q
  mono : Mono m
structure SimL (C : Cfg) (Γ : List Mo) (t : TA) (A : Kd) (m : XL) : Prop where
  run : ∀ (σ : L2.St) (H : Hp) (env : PEnv) (Fs : Nat → List Addr) (Q : List V → Hp → Prop), Ok C Γ σ H env Fs →
    m env (fun ds => ∀ vs H' F, Fr (Wq C) H H' → DiceOk C H' → Rps C.CT H' vs ds F → KdOk C Γ Fs H A F → Q vs H') → t σ H Q
  mono : Mono m
def xVar (i : Nat) : X1 := fun env Q => match env[i]? with
  | some (some d) => Q d
  | _ => False
theorem mono_var {i : Nat} : Mono (xVar i) := fun env Q Q' h q => by
  unfold xVar at q ⊢
  split at q
  · exact h _ q
  · exact q
theorem sim_var {i : Nat} {m : Mo} (g : Γ[i]? = some m) (l : live m) : Sim C Γ (tVar i) (.al [i]) (xVar i) := ⟨fun σ H env Fs Q I h => by
  obtain ⟨v, d, h1, h2, h3⟩ := I.val i m g l
  unfold xVar at h
  rw [h2] at h
  refine ⟨v, h1, h v H (Fs i) Fr.refl I.dk h3 ⟨I.nq i m g l, fun a ma j gj b => ?_⟩⟩
  by_cases e : j = i
  · simp [e]
  · exact absurd ma (I.dj j i m gj g l e a b), mono_var⟩
theorem sim_varF {i : Nat} (g : Γ[i]? = some .f) : Sim C Γ (tVar i) (.al []) (xVar i) := ⟨fun σ H env Fs Q I h => by
  obtain ⟨v, d, h1, h2, h3⟩ := I.val i _ g (.inr rfl)
  unfold xVar at h
  rw [h2] at h
  refine ⟨v, h1, h v H (Fs i) Fr.refl I.dk h3 ⟨I.nq i _ g (.inr rfl), fun a ma j gj b => ?_⟩⟩
  by_cases e : j = i
  · rw [e, g] at gj; cases gj
  · exact absurd ma (I.dj j i _ gj g (.inr rfl) e a b), mono_var⟩
theorem sim_varO {i : Nat} (g : Γ[i]? = some .o) : Sim C Γ (tVar i) (.al [i]) (xVar i) := sim_var g (.inl rfl)
def xC (d : D) : X1 := fun _ Q => Q d
theorem mono_c {d : D} : Mono (xC d) := fun _ _ _ h q => h _ q
theorem sim_int {i : Int} : Sim C Γ (tC (.int i)) .own (xC (.int i)) := ⟨fun σ H env Fs Q I h => h _ H [] Fr.refl I.dk (.int i) KdOk.own_nil, mono_c⟩
theorem sim_bl {b : Bool} : Sim C Γ (tC (.bl b)) .own (xC (.bl b)) := ⟨fun σ H env Fs Q I h => h _ H [] Fr.refl I.dk (.bl b) KdOk.own_nil, mono_c⟩
theorem sim_non : Sim C Γ (tC .non) .own (xC .non) := ⟨fun σ H env Fs Q I h => h _ H [] Fr.refl I.dk .non KdOk.own_nil, mono_c⟩
def xImm (m : X1) : X1 := fun env Q => m env fun d => d.imm = true ∧ Q d
theorem sim_imm {t : TE} {A : Kd} {m : X1} (s : Sim C Γ t A m) : Sim C Γ t .own (xImm m) := ⟨fun σ H env Fs Q I h => s.run σ H env Fs Q I (s.mono env _ _ (fun d ⟨e, k⟩ v H' F f dk r _ => by
  obtain rfl := r.imm e
  exact k v H' [] f dk r KdOk.own_nil) h), fun env Q Q' h q => s.mono env _ _ (fun d ⟨e, k⟩ => ⟨e, h d k⟩) q⟩
def xNil : XL := fun _ Q => Q []
def xCons (m : X1) (r : XL) : XL := fun env Q => m env fun d => r env fun ds => Q (d :: ds)
theorem siml_nil : SimL C Γ tNil .own xNil := ⟨fun σ H env Fs Q I h => h [] H [] Fr.refl I.dk .nil KdOk.own_nil, fun _ _ _ h q => h _ q⟩
theorem siml_cons {t : TE} {ts : TA} {A B : Kd} {m : X1} {r : XL} (s : Sim C Γ t A m) (s' : SimL C Γ ts B r) : SimL C Γ (tCons t ts) (A.j B) (xCons m r) :=
  ⟨fun σ H env Fs Q I h => s.run σ H env Fs _ I (s.mono env _ _ (fun d q v H1 F f1 dk1 r1 k1 => s'.run σ H1 env Fs _ (I.step f1 dk1) (s'.mono env _ _ (fun ds q vs H2 G f2 dk2 r2 k2 =>
    q (v :: vs) H2 (F ++ G) (f1.trans f2) dk2 (.cons (r1.keep f2 k1.1.wq) r2) (k1.j I f1 r1.tracked k2 (I.step f1 dk1))) q)) h),
   fun env Q Q' h q => s.mono env _ _ (fun d q => s'.mono env _ _ (fun ds q => h _ q) q) q⟩
def xTup (r : XL) : X1 := fun env Q => r env fun ds => ds.length ≤ sizeLine ∧ Q (.tup ds)
def xLst (r : XL) : X1 := fun env Q => r env fun ds => ds.length ≤ sizeLine ∧ Q (.lst ds)
theorem sim_tup {ts : TA} {A : Kd} {r : XL} (s : SimL C Γ ts A r) : Sim C Γ (tTup ts) A (xTup r) :=
  ⟨fun σ H env Fs Q I h => s.run σ H env Fs _ I (s.mono env _ _ (fun ds ⟨z, q⟩ vs H1 F f1 dk1 r1 k1 => ⟨by rw [r1.length]; exact z, fun p hp =>
    q (.ref p) _ F (f1.trans (Fr.new hp)) (dk1.keep (Fr.new hp)) (.tup upd_same (r1.keep (W := fun _ => False) (Fr.new hp) fun _ _ z => z)) k1⟩) h),
   fun env Q Q' h q => s.mono env _ _ (fun ds ⟨z, q⟩ => ⟨z, h _ q⟩) q⟩
theorem KdOk.new {H0 : Hp} {A : Kd} {p : Addr} (I : Ok C Γ σ H0 env Fs) (dk : DiceOk C H1) (f : Fr (Wq C) H0 H1) (k : KdOk C Γ Fs H0 A F) (hp : H1 p = none) (r : ∀ a ∈ F, H1 a ≠ none) : KdOk C Γ Fs H0 A (p :: F) := by
  refine ⟨⟨fun x e => ⟨fun m => ?_, fun m => ?_⟩, fun t ht m => ?_⟩, ?_⟩
  · rcases List.mem_cons.mp m with z | m
    · exact (dk.dice x e).t1 (z ▸ hp)
    · exact (k.1.q x e).1 m
  · rcases List.mem_cons.mp m with z | m
    · exact (dk.dice x e).t2 (z ▸ hp)
    · exact (k.1.q x e).2 m
  · rcases List.mem_cons.mp m with z | m
    · obtain ⟨ps, q⟩ := tab_at dk.tabs ht
      rw [z, hp] at q; cases q
    · exact k.1.t t ht m
  · cases A with
    | own =>
      refine ⟨List.nodup_cons.mpr ⟨fun m => r p m hp, k.2.1⟩, fun a m => ?_⟩
      rcases List.mem_cons.mp m with z | m
      · rw [z]; exact f.there p hp
      · exact k.2.2 a m
    | al S =>
      intro a m i g b
      rcases List.mem_cons.mp m with z | m
      · obtain ⟨v, d, _, _, r'⟩ := I.val i _ g (.inl rfl)
        exact absurd (f.there p hp) (by rw [← z]; exact r'.tracked a b)
      · exact k.2 a m i g b
theorem sim_lst {ts : TA} {A : Kd} {r : XL} (s : SimL C Γ ts A r) : Sim C Γ (tLst ts) A (xLst r) :=
  ⟨fun σ H env Fs Q I h => s.run σ H env Fs _ I (s.mono env _ _ (fun ds ⟨z, q⟩ vs H1 F f1 dk1 r1 k1 => ⟨by rw [r1.length]; exact z, fun p hp =>
    q (.ref p) _ (p :: F) (f1.trans (Fr.new hp)) (dk1.keep (Fr.new hp)) (.lst upd_same (r1.keep (W := fun _ => False) (Fr.new hp) fun _ _ z => z)) (k1.new I dk1 f1 hp r1.tracked)⟩) h),
   fun env Q Q' h q => s.mono env _ _ (fun ds ⟨z, q⟩ => ⟨z, h _ q⟩) q⟩
end
end Pu
set_option Elab.async false
set_option linter.all false
set_option maxRecDepth 100000
namespace Pu
open PySem PySem.Spec PyProof.Rows L2
abbrev O1 := D → (D → Prop) → Prop
abbrev O2 := D → D → (D → Prop) → Prop
def Mono1 (o : O1) : Prop := ∀ d Q Q', (∀ x, Q x → Q' x) → o d Q → o d Q'
def Mono2 (o : O2) : Prop := ∀ d e Q Q', (∀ x, Q x → Q' x) → o d e Q → o d e Q'
def New (CT : RT) (H : Hp) (Q : VK) (d : D) : Prop := ∀ v H' F, Fr (fun _ => False) H H' → Rp CT H' v d F → F.Nodup → (∀ a ∈ F, H a = none) → Q v H'
theorem New.imm {CT : RT} {H : Hp} {Q : VK} {d : D} {v : V} (n : New CT H Q d) (r : Rp CT H v d []) : Q v H := n v H [] Fr.refl r List.nodup_nil fun _ h => nomatch h
theorem New.at {CT : RT} {H : Hp} {Q : VK} {d : D} {v : V} {p : Addr} {o : HO} (n : New CT H Q d) (hp : H p = none) (r : Rp CT (upd H p o) v d []) : Q v (upd H p o) :=
  n v _ [] (Fr.new hp) r List.nodup_nil fun _ h => nomatch h
theorem New.at1 {CT : RT} {H : Hp} {Q : VK} {d : D} {v : V} {p : Addr} {o : HO} (n : New CT H Q d) (hp : H p = none) (r : Rp CT (upd H p o) v d [p]) : Q v (upd H p o) :=
  n v _ [p] (Fr.new hp) r (by simp) fun a h => by rw [List.mem_singleton.mp h]; exact hp
structure SimO1 (CT : RT) (r : V → Hp → VK → Prop) (o : O1) : Prop where
  run : ∀ (H : Hp) (v : V) (d : D) (F : List Addr) (Q : VK), Rp CT H v d F → o d (New CT H Q) → r v H Q
  mono : Mono1 o
structure SimO2 (CT : RT) (r : R2) (o : O2) : Prop where
  run : ∀ (H : Hp) (v w : V) (d e : D) (F G : List Addr) (Q : VK), Rp CT H v d F → Rp CT H w e G → o d e (New CT H Q) → r v w H Q
  mono : Mono2 o
structure SimC1 (CT : RT) (r : List V → Hp → VK → Prop) (o : O1) : Prop where
  run : ∀ (H : Hp) (v : V) (d : D) (F : List Addr) (Q : VK), Rp CT H v d F → o d (New CT H Q) → r [v] H Q
  mono : Mono1 o
structure SimC2 (CT : RT) (r : List V → Hp → VK → Prop) (o : O2) : Prop where
  run : ∀ (H : Hp) (v w : V) (d e : D) (F G : List Addr) (Q : VK), Rp CT H v d F → Rp CT H w e G → o d e (New CT H Q) → r [v, w] H Q
  mono : Mono2 o
def x1 (o : O1) (m : X1) : X1 := fun env Q => m env fun d => o d Q
def x2 (o : O2) (m n : X1) : X1 := fun env Q => m env fun d => n env fun e => o d e Q
theorem mono_x1 {o : O1} {m : X1} (h : Mono1 o) (hm : Mono m) : Mono (x1 o m) := fun env Q Q' k q => hm env _ _ (fun d q => h d _ _ k q) q
theorem mono_x2 {o : O2} {m n : X1} (h : Mono2 o) (hm : Mono m) (hn : Mono n) : Mono (x2 o m n) := fun env Q Q' k q => hm env _ _ (fun d q => hn env _ _ (fun e q => h d e _ _ k q) q) q
section
variable {C : Cfg} {Γ : List Mo} {σ : L2.St} {H H' H1 : Hp} {env : PEnv} {Fs : Nat → List Addr} {v : V} {vs : List V} {d : D} {ds : List D} {F G : List Addr} {ta tb te : TE} {A B : Kd} {m n : X1}
theorem fin_new {Q : VK} (I : Ok C Γ σ H env Fs) (f : Fr (Wq C) H H1) (dk : DiceOk C H1)
    (k : ∀ v H' F, Fr (Wq C) H H' → DiceOk C H' → Rp C.CT H' v d F → KdOk C Γ Fs H .own F → Q v H') : New C.CT H1 Q d := fun v H' F f2 r nd fr =>
  k v H' F (f.trans f2.wq) (dk.keep f2) r ⟨NoQS.new dk fr, nd, fun a mm => f.there a (fr a mm)⟩
theorem sim_op {r : R2} {o : O2} (h : SimO2 C.CT r o) (s : Sim C Γ ta A m) (s' : Sim C Γ tb B n) : Sim C Γ (tOp r ta tb) .own (x2 o m n) :=
  ⟨fun σ H env Fs Q I q => s.run σ H env Fs _ I (s.mono env _ _ (fun d q v H1 F f dk r k => s'.run σ H1 env Fs _ (I.step f dk) (s'.mono env _ _ (fun e q w H2 G f2 dk2 r2 k2 =>
    h.run H2 v w d e F G Q (r.keep f2 k.1.wq) r2 (h.mono d e _ _ (fun x k => fin_new I (f.trans f2) dk2 k) q)) q)) q), mono_x2 h.mono s.mono s'.mono⟩
theorem sim_call1 {r : List V → Hp → VK → Prop} {o : O1} (h : SimC1 C.CT r o) (s : Sim C Γ ta A m) : Sim C Γ (tCB r (tCons ta tNil)) .own (x1 o m) :=
  ⟨fun σ H env Fs Q I q => s.run σ H env Fs _ I (s.mono env _ _ (fun d q v H1 F f dk r k => h.run H1 v d F Q r (h.mono d _ _ (fun x k => fin_new I f dk k) q)) q), mono_x1 h.mono s.mono⟩
theorem sim_call2 {r : List V → Hp → VK → Prop} {o : O2} (h : SimC2 C.CT r o) (s : Sim C Γ ta A m) (s' : Sim C Γ tb B n) : Sim C Γ (tCB r (tCons ta (tCons tb tNil))) .own (x2 o m n) :=
  ⟨fun σ H env Fs Q I q => s.run σ H env Fs _ I (s.mono env _ _ (fun d q v H1 F f dk r k => s'.run σ H1 env Fs _ (I.step f dk) (s'.mono env _ _ (fun e q w H2 G f2 dk2 r2 k2 =>
    h.run H2 v w d e F G Q (r.keep f2 k.1.wq) r2 (h.mono d e _ _ (fun x k => fin_new I (f.trans f2) dk2 k) q)) q)) q), mono_x2 h.mono s.mono s'.mono⟩
theorem Rps.ints {CT : RT} : ∀ {ns : List Int} {vs : List V} {F : List Addr}, Rps CT H vs (ns.map D.int) F → vs = ns.map V.int ∧ F = []
  | [], _, _, .nil => ⟨rfl, rfl⟩
  | n :: ns, _, _, .cons (.int _) r => by
    obtain ⟨h1, h2⟩ := Rps.ints (ns := ns) r
    exact ⟨by rw [h1] <;> rfl, by rw [h2] <;> rfl⟩
theorem Rps.bls {CT : RT} : ∀ {ns : List Bool} {vs : List V} {F : List Addr}, Rps CT H vs (ns.map D.bl) F → vs = ns.map V.bl ∧ F = []
  | [], _, _, .nil => ⟨rfl, rfl⟩
  | n :: ns, _, _, .cons (.bl _) r => by
    obtain ⟨h1, h2⟩ := Rps.bls (ns := ns) r
    exact ⟨by rw [h1] <;> rfl, by rw [h2] <;> rfl⟩
theorem Rps.of_ints {CT : RT} : ∀ {ns : List Int}, Rps CT H (ns.map V.int) (ns.map D.int) []
  | [] => .nil
  | n :: ns => Rps.cons (.int n) (Rps.of_ints (ns := ns))
def oI (g : Int → Int → D) : O2 := fun d e Q => match d, e with
  | .int i, .int j => Q (g i j)
  | _, _ => False
def oIc (c : Int → Int → Prop) (g : Int → Int → D) : O2 := fun d e Q => match d, e with
  | .int i, .int j => c i j ∧ Q (g i j)
  | _, _ => False
theorem mono_oI {g : Int → Int → D} : Mono2 (oI g) := fun d e Q Q' k q => by
  cases d <;> cases e <;> first | exact k _ q | exact q
theorem mono_oIc {c : Int → Int → Prop} {g : Int → Int → D} : Mono2 (oIc c g) := fun d e Q Q' k q => by
  cases d <;> cases e <;> first | exact ⟨q.1, k _ q.2⟩ | exact q
theorem so_I {g : Int → Int → V} {g' : Int → Int → D} {CT : RT} (h : ∀ H i j, Rp CT H (g i j) (g' i j) []) : SimO2 CT (rI0 g) (oI g') :=
  ⟨fun H v w d e F G Q a b q => by
    cases a <;> cases b <;> first | exact ⟨_, _, rfl, rfl, New.imm q (h _ _ _)⟩ | exact (show False from q).elim, mono_oI⟩
theorem so_Ic {c : Int → Int → Prop} {g : Int → Int → V} {g' : Int → Int → D} {CT : RT} (h : ∀ H i j, Rp CT H (g i j) (g' i j) []) : SimO2 CT (rI c g) (oIc c g') :=
  ⟨fun H v w d e F G Q a b q => by
    cases a <;> cases b <;> first | exact ⟨_, _, rfl, rfl, q.1, New.imm q.2 (h _ _ _)⟩ | exact (show False from q).elim, mono_oIc⟩
def rAddU (K : PySem.W.Frag) : R2 := fun x y H Q => ((rI0 (fun i j => .int (i + j)) x y H Q ∨ rCatA K x y H Q) ∨ rCat x y H Q) ∨ ∃ i j, x = .str i ∧ y = .str j ∧ i.length + j.length ≤ sizeLine ∧ Q (.str (i ++ j)) H
theorem op_addU {X : Cx} : OpR X (binaryOp .Add) (rAddU X.K) := ((op_add.or op_catA).or op_cat).or op_add_str
def oAdd : O2 := fun d e Q => match d, e with
  | .int i, .int j => Q (.int (i + j))
  | .tup xs, .tup ys => immL xs = true ∧ immL ys = true ∧ xs.length + ys.length ≤ sizeLine ∧ Q (.tup (xs ++ ys))
  | .lst xs, .lst ys => immL xs = true ∧ immL ys = true ∧ xs.length + ys.length ≤ sizeLine ∧ Q (.lst (xs ++ ys))
  | .str x, .str y => x.length + y.length ≤ sizeLine ∧ Q (.str (x ++ y))
  | _, _ => False
theorem mono_oAdd : Mono2 oAdd := fun d e Q Q' k q => by
  cases d <;> cases e <;> first | exact k _ q | exact ⟨q.1, k _ q.2⟩ | exact ⟨q.1, q.2.1, q.2.2.1, k _ q.2.2.2⟩ | exact q
theorem so_add {K : PySem.W.Frag} {CT : RT} : SimO2 CT (rAddU K) oAdd := ⟨fun H v w d e F G Q a b q => by
  cases a with
  | int i =>
    cases b <;> first | exact .inl (.inl (.inl ⟨_, _, rfl, rfl, New.imm q (.int _)⟩)) | exact (show False from q).elim
  | str x =>
    cases b <;> first | exact .inr ⟨_, _, rfl, rfl, q.1, New.imm q.2 (.str _)⟩ | exact (show False from q).elim
  | tup ha ra =>
    cases b with
    | tup hb rb =>
      obtain ⟨i1, i2, z, q⟩ := q
      have e1 := ra.imm i1
      have e2 := rb.imm i2
      subst e1 e2
      refine .inl (.inl (.inr ⟨_, _, _, _, rfl, rfl, SqT.of ha, SqT.of hb, by rw [ra.length, rb.length]; exact z, fun e => ?_, fun _ e => ?_, fun _ _ p hp => ?_⟩))
      · subst e
        cases ra
        exact New.imm q (.tup hb rb)
      · subst e
        cases rb
        rw [List.append_nil] at q
        exact New.imm q (.tup ha ra)
      · exact New.at q hp (.tup upd_same ((ra.append rb).keep (W := fun _ => False) (Fr.new hp) fun _ h => nomatch h))
    | _ => exact (show False from q).elim
  | lst ha ra =>
    cases b with
    | lst hb rb =>
      obtain ⟨i1, i2, z, q⟩ := q
      have e1 := ra.imm i1
      have e2 := rb.imm i2
      subst e1 e2
      exact .inl (.inr ⟨_, _, _, _, rfl, rfl, ha, hb, by rw [ra.length, rb.length]; exact z, fun p hp => New.at1 q hp (.lst upd_same ((ra.append rb).keep (W := fun _ => False) (Fr.new hp) fun _ h => nomatch h))⟩)
    | _ => exact (show False from q).elim
  | _ => exact (show False from q).elim, mono_oAdd⟩
theorem so_sub {CT : RT} : SimO2 CT (rI0 fun i j => .int (i - j)) (oI fun i j => .int (i - j)) := so_I fun _ _ _ => .int _
theorem so_lt {CT : RT} : SimO2 CT (rI0 fun i j => .bl (decide (i < j))) (oI fun i j => .bl (decide (i < j))) := so_I fun _ _ _ => .bl _
theorem so_le {CT : RT} : SimO2 CT (rI0 fun i j => .bl (decide (i ≤ j))) (oI fun i j => .bl (decide (i ≤ j))) := so_I fun _ _ _ => .bl _
theorem so_gt {CT : RT} : SimO2 CT (rI0 fun i j => .bl (decide (j < i))) (oI fun i j => .bl (decide (j < i))) := so_I fun _ _ _ => .bl _
theorem so_ge {CT : RT} : SimO2 CT (rI0 fun i j => .bl (decide (j ≤ i))) (oI fun i j => .bl (decide (j ≤ i))) := so_I fun _ _ _ => .bl _
mutual
def D.py : D → PyData
  | .non => .none
  | .bl b => .bool b
  | .int i => .int i
  | .str x => .str x
  | .tup xs => .tuple (pyL xs)
  | .lst xs => .list (pyL xs)
  | .dK _ => .dict []
  | .dT _ => .dict []
  | .obj _ _ => .dict []
  | .fz _ _ => .dict []
  | .dN _ => .dict []
  | .clo _ _ => .dict []
def pyL : List D → List PyData
  | [] => []
  | x :: xs => D.py x :: pyL xs
end
mutual
theorem Rp.dp {CT : RT} {K : PySem.W.Frag} : ∀ {v : V} {d : D} {F : List Addr}, Rp CT H v d F → d.py.canLay0 = true → Dp K H v d.py
  | _, _, _, .non, _ => .non
  | _, _, _, .bl b, _ => .bl b
  | _, _, _, .int b, _ => .int b
  | _, _, _, .str b, _ => .str b
  | _, _, _, .tup h r, c => .tup (SqT.of h) (Rps.dp r (by simpa [D.py, PyData.canLay0] using c))
  | _, _, _, .lst h r, c => .lst (SqL.of h) (Rps.dp r (by simpa [D.py, PyData.canLay0] using c))
  | _, _, _, .dK h _ r, c => by simp [D.py, PyData.canLay0] at c
  | _, _, _, .dT h _ r, c => by simp [D.py, PyData.canLay0] at c
  | _, _, _, .obj h _ r, c => by simp [D.py, PyData.canLay0] at c
  | _, _, _, .fz h _ _ r, c => by simp [D.py, PyData.canLay0] at c
  | _, _, _, .dN _ _ _ _ _, c => by simp [D.py, PyData.canLay0] at c
  | _, _, _, .clo _ _ _, c => by simp [D.py, PyData.canLay0] at c
theorem Rps.dp {CT : RT} {K : PySem.W.Frag} : ∀ {vs : List V} {ds : List D} {F : List Addr}, Rps CT H vs ds F → PyData.canLayAll0 (pyL ds) = true → DpAll K H vs (pyL ds)
  | _, _, _, .nil, _ => .nil
  | _, _, _, .cons h r, c => by
    simp only [pyL, PyData.canLayAll0, Bool.and_eq_true] at c
    exact .cons (Rp.dp h c.1) (Rps.dp r c.2)
end
def Sh (d : D) : Prop := SeqAt.shaped d.py = true
def D.eqb (d e : D) : Bool := PyData.eqv d.py e.py
def oEq : O2 := fun d e Q => Sh d ∧ Sh e ∧ Q (.bl (D.eqb d e))
def oNe : O2 := fun d e Q => Sh d ∧ Sh e ∧ Q (.bl (!D.eqb d e))
theorem so_eq {K : PySem.W.Frag} {CT : RT} : SimO2 CT (rEqD K) oEq := ⟨fun H v w d e F G Q a b ⟨h1, h2, q⟩ =>
  ⟨_, _, a.dp (SeqAt.canLay_of_shaped h1), b.dp (SeqAt.canLay_of_shaped h2), h1, h2, New.imm q (.bl _)⟩, fun d e Q Q' k ⟨h1, h2, q⟩ => ⟨h1, h2, k _ q⟩⟩
theorem so_ne {K : PySem.W.Frag} {CT : RT} : SimO2 CT (rNeD K) oNe := ⟨fun H v w d e F G Q a b ⟨h1, h2, q⟩ =>
  ⟨_, _, a.dp (SeqAt.canLay_of_shaped h1), b.dp (SeqAt.canLay_of_shaped h2), h1, h2, New.imm q (.bl _)⟩, fun d e Q Q' k ⟨h1, h2, q⟩ => ⟨h1, h2, k _ q⟩⟩
def D.isN : D → Bool
  | .non => true
  | _ => false
def rIsNone : R2 := fun x y H Q => y = .non ∧ Q (.bl (decide (x = .non))) H
def rNotNone : R2 := fun x y H Q => y = .non ∧ Q (.bl (!decide (x = .non))) H
theorem Rp.isN {CT : RT} (r : Rp CT H v d F) : decide (v = .non) = d.isN := by
  cases r <;> simp [D.isN]
def oIsN : O2 := fun d e Q => e.isN = true ∧ Q (.bl d.isN)
def oNotN : O2 := fun d e Q => e.isN = true ∧ Q (.bl (!d.isN))
theorem Rp.non_of {CT : RT} (r : Rp CT H v d F) (h : d.isN = true) : v = .non := of_decide_eq_true (r.isN.trans h)
theorem so_isN {CT : RT} : SimO2 CT rIsNone oIsN := ⟨fun H v w d e F G Q a b ⟨h, q⟩ => ⟨b.non_of h, by rw [a.isN]; exact New.imm q (.bl _)⟩, fun d e Q Q' k ⟨h, q⟩ => ⟨h, k _ q⟩⟩
theorem so_notN {CT : RT} : SimO2 CT rNotNone oNotN := ⟨fun H v w d e F G Q a b ⟨h, q⟩ => ⟨b.non_of h, by rw [a.isN]; exact New.imm q (.bl _)⟩, fun d e Q Q' k ⟨h, q⟩ => ⟨h, k _ q⟩⟩
def oIsB (neg : Bool) : O2 := fun d e Q => match d, e with
  | .bl a, .bl b => Q (.bl (if neg then !decide (a = b) else decide (a = b)))
  | _, _ => False
end
end Pu
set_option Elab.async false
set_option linter.all false
set_option maxRecDepth 100000
namespace Pu
open PySem PySem.Spec PyProof.Rows L2
section
variable {C : Cfg} {Γ : List Mo} {σ : L2.St} {H H' H1 : Hp} {env : PEnv} {Fs : Nat → List Addr} {v : V} {vs : List V} {d : D} {ds : List D} {F G : List Addr} {ta tb te : TE} {A B : Kd} {m n : X1} {CT : RT} {K : PySem.W.Frag}
def D.key? : D → Option Key
  | .int i => some (.inl i)
  | .str x => some (.inr x)
  | _ => none
def keys? : List D → Option (List Key)
  | [] => some []
  | d :: ds => match d.key?, keys? ds with
    | some k, some ks => some (k :: ks)
    | _, _ => none
def D.tkey? : D → Option (List Key)
  | .tup ds => keys? ds
  | _ => none
theorem Rp.key {k : Key} (r : Rp CT H v d F) (h : d.key? = some k) : v = kV k := by
  cases r <;> simp [D.key?] at h <;> subst h <;> rfl
theorem Rps.keys : ∀ {vs : List V} {ds : List D} {F : List Addr} {ks : List Key}, Rps CT H vs ds F → keys? ds = some ks → vs = ks.map kV
  | _, _, _, _, .nil, h => by simp [keys?] at h; subst h; rfl
  | _, _, _, ks, .cons (d := d) (ds := ds) r rs, h => by
    unfold keys? at h
    split at h
    · rename_i k ks' h1 h2
      cases h
      rw [r.key h1, rs.keys h2]
      rfl
    · cases h
theorem Rp.tkey {k : List Key} (r : Rp CT H v d F) (h : d.tkey? = some k) : ∃ b, v = .ref b ∧ H b = some (.tup (k.map kV)) := by
  cases r <;> simp [D.tkey?] at h
  rename_i a vs ds ha rs
  exact ⟨_, rfl, by rw [ha, rs.keys h]⟩
def lookD {κ : Type} [DecidableEq κ] (kvs : List (κ × D)) (k : κ) : Option D := (kvs.find? fun kv => decide (kv.1 = k)).map (·.2)
theorem look_val {κ : Type} [DecidableEq κ] : ∀ {kvs : List (κ × V)} {kds : List (κ × D)} {F : List Addr} (k : κ), kvs.map (·.1) = kds.map (·.1) → Rps CT H (kvs.map (·.2)) (kds.map (·.2)) F →
    (lookD kds k = none ∧ valV kvs k = none) ∨ ∃ d v G, lookD kds k = some d ∧ valV kvs k = some v ∧ Rp CT H v d G ∧ G.Sublist F
  | [], [], _, k, _, _ => .inl ⟨rfl, rfl⟩
  | [], _ :: _, _, _, e, _ => by simp at e
  | _ :: _, [], _, _, e, _ => by simp at e
  | p :: kvs, q :: kds, _, k, e, .cons (F := F) (G := G) r rs => by
    simp only [List.map_cons, List.cons.injEq] at e
    obtain ⟨e1, e2⟩ := e
    by_cases h : p.1 = k
    · refine .inr ⟨q.2, p.2, F, ?_, ?_, r, List.sublist_append_left _ _⟩
      · unfold lookD; rw [List.find?_cons, decide_eq_true (e1 ▸ h)] <;> rfl
      · exact valV_pos h
    · have h' : ¬ q.1 = k := e1 ▸ h
      have a1 : lookD (q :: kds) k = lookD kds k := by unfold lookD; rw [List.find?_cons, decide_eq_false h']
      rcases look_val k e2 rs with ⟨b1, b2⟩ | ⟨d, v, G', b1, b2, b3, b4⟩
      · exact .inl ⟨a1.trans b1, (valV_neg h).trans b2⟩
      · exact .inr ⟨d, v, G', a1.trans b1, (valV_neg h).trans b2, b3, b4.trans (List.sublist_append_right _ _)⟩
theorem ix_dict {X : Cx} (hu : X.A.units + 1 < cLine) : IxR X (fun x y H Q => ∃ a v, x = .ref a ∧ DGet H a y (some v) ∧ Q v H) := by
  intro value slice pins s σ H x y v u Q I rx ry h hs
  obtain ⟨a, z, rfl, g, q⟩ := h
  obtain rfl : v = Value.ref a := rx
  exact tail_any (dict_typeIs I g) PySem.F.slot_dict_getitem.lookup (d_getItem hu I g ry fun w' s3 I3 rw' => ⟨z, H, I3, rw', q⟩) hs
def rIxU (K : PySem.W.Frag) : R2 := fun x y H Q => rIx K x y H Q ∨ ∃ a v, x = .ref a ∧ DGet H a y (some v) ∧ Q v H
theorem ix_U {X : Cx} (hu : X.A.units + 1 < cLine) : IxR X (rIxU X.K) := ix_seq.or (ix_dict hu)
def atD (xs : List D) (i : Int) (Q : D → Prop) : Prop := match atI xs i with
  | some d => Q d
  | none => False
def oIx : O2 := fun d e Q => match d with
  | .tup xs => (match e with | .int i => atD xs i Q | _ => False)
  | .lst xs => (match e with | .int i => atD xs i Q | _ => False)
  | .str z => (match e with | .int i => z.length ≤ sizeLine ∧ (match atI z.cps.toList i with | some c => Q (.str ⟨#[c]⟩) | none => False) | _ => False)
  | .dK kvs => (match e.key? with | some k => (match lookD kvs k with | some x => Q x | none => False) | none => False)
  | .dT kvs => (match e.tkey? with | some k => (match lookD kvs k with | some x => Q x | none => False) | none => False)
  | _ => False
theorem mono_atD {xs : List D} {i : Int} {Q Q' : D → Prop} (h : ∀ x, Q x → Q' x) (q : atD xs i Q) : atD xs i Q' := by
  unfold atD at q ⊢
  split at q
  · exact h _ q
  · exact q
theorem mono_oIx : Mono2 oIx := fun d e Q Q' h q => by
  cases d with
  | tup xs => cases e <;> first | exact mono_atD h q | exact q
  | lst xs => cases e <;> first | exact mono_atD h q | exact q
  | str z =>
    cases e with
    | int i =>
      refine ⟨q.1, ?_⟩
      have q2 := q.2
      revert q2
      cases atI z.cps.toList i with
      | some c => exact h _
      | none => exact fun z => z
    | _ => exact q
  | dK kvs =>
    unfold oIx at q ⊢
    revert q
    cases e.key? with
    | none => exact fun z => z
    | some k =>
      cases hl : lookD kvs k with
      | none => simp only [hl]; exact fun z => z
      | some x => simp only [hl]; exact h _
  | dT kvs =>
    unfold oIx at q ⊢
    revert q
    cases e.tkey? with
    | none => exact fun z => z
    | some k =>
      cases hl : lookD kvs k with
      | none => simp only [hl]; exact fun z => z
      | some x => simp only [hl]; exact h _
  | _ => exact q
theorem atI_len {α β : Type} {xs : List α} {ys : List β} {i : Int} {y : β} (l : xs.length = ys.length) (h : atI ys i = some y) : ∃ j : Nat, ys[j]? = some y ∧ ∀ x, xs[j]? = some x → atI xs i = some x := by
  unfold atI at h ⊢
  rw [← l] at h
  cases e : ixN xs.length i with
  | none => rw [e] at h; cases h
  | some j => rw [e] at h; exact ⟨j, h, fun x hx => hx⟩
theorem Rps.atI (r : Rps CT H vs ds F) {i : Int} {Q : D → Prop} (q : atD ds i Q) : ∃ v d G, L2.atI vs i = some v ∧ Q d ∧ Rp CT H v d G ∧ G.Sublist F := by
  unfold atD at q
  split at q
  · rename_i d e
    obtain ⟨j, h1, h2⟩ := atI_len (r.length) e
    obtain ⟨v, G, h3, h4, h5⟩ := r.get h1
    exact ⟨v, d, G, h2 v h3, q, h4, h5⟩
  · exact q.elim
structure SimPart (CT : RT) (r : R2) (o : O2) : Prop where
  run : ∀ (H : Hp) (v w : V) (d e : D) (F G : List Addr) (Q : VK), Rp CT H v d F → Rp CT H w e G → o d e (fun x => ∀ z P, Rp CT H z x P → P.Sublist F → Q z H) → r v w H Q
  mono : Mono2 o
theorem so_ix : SimPart CT (rIxU K) oIx := ⟨fun H v w d e F G Q a b q => by
  cases a with
  | tup ha ra =>
    cases b with
    | int i =>
      obtain ⟨v, d, P, h1, h2, h3, h4⟩ := ra.atI q
      exact .inl (.inr (.inl ⟨_, _, _, _, rfl, rfl, SqT.of ha, h1, h2 v P h3 h4⟩))
    | _ => exact (show False from q).elim
  | lst ha ra =>
    cases b with
    | int i =>
      obtain ⟨v, d, P, h1, h2, h3, h4⟩ := ra.atI q
      exact .inl (.inl ⟨_, _, _, _, rfl, rfl, SqL.of ha, h1, h2 v P h3 (h4.trans (List.sublist_cons_self _ _))⟩)
    | _ => exact (show False from q).elim
  | str z =>
    cases b with
    | int i =>
      obtain ⟨q1, q2⟩ := q
      dsimp only at q2
      cases e : L2.atI z.cps.toList i with
      | none => rw [e] at q2; exact q2.elim
      | some c => rw [e] at q2; exact .inl (.inr (.inr ⟨_, _, _, rfl, rfl, q1, e, q2 _ [] (.str _) (List.nil_sublist _)⟩))
    | _ => exact (show False from q).elim
  | dK ha hk ra =>
    unfold oIx at q
    dsimp only at q
    cases ek : e.key? with
    | none => rw [ek] at q; exact q.elim
    | some k =>
      rw [ek] at q
      rcases look_val k hk ra with ⟨h1, _⟩ | ⟨x, v, P, h1, h2, h3, h4⟩
      · simp only [h1] at q
      · simp only [h1] at q
        exact .inr ⟨_, v, rfl, .inl ⟨_, k, .inl ha, b.key ek, h2.symm⟩, q v P h3 (h4.trans (List.sublist_cons_self _ _))⟩
  | dT ha hk ra =>
    unfold oIx at q
    dsimp only at q
    cases ek : e.tkey? with
    | none => rw [ek] at q; exact q.elim
    | some k =>
      rw [ek] at q
      obtain ⟨b', eb, hb⟩ := b.tkey ek
      rcases look_val k hk ra with ⟨h1, _⟩ | ⟨x, v, P, h1, h2, h3, h4⟩
      · simp only [h1] at q
      · simp only [h1] at q
        exact .inr ⟨_, v, rfl, .inr ⟨_, k, b', .inl ha, eb, hb, h2.symm⟩, q v P h3 (h4.trans (List.sublist_cons_self _ _))⟩
  | _ => exact (show False from q).elim, mono_oIx⟩
theorem sim_part {r : R2} {o : O2} (h : SimPart C.CT r o) (s : Sim C Γ ta A m) (s' : Sim C Γ tb B n) : Sim C Γ (tOp r ta tb) A (x2 o m n) :=
  ⟨fun σ H env Fs Q I q => s.run σ H env Fs _ I (s.mono env _ _ (fun d q v H1 F f dk r k => s'.run σ H1 env Fs _ (I.step f dk) (s'.mono env _ _ (fun e q w H2 G f2 dk2 r2 k2 =>
    h.run H2 v w d e F G Q (r.keep f2 k.1.wq) r2 (h.mono d e _ _ (fun x q z P rz sub => q z H2 P (f.trans f2) dk2 rz (k.sub sub)) q)) q)) q), mono_x2 h.mono s.mono s'.mono⟩
def D.flat : D → Bool
  | .non => true
  | .bl _ => true
  | .int _ => true
  | .str _ => true
  | _ => false
theorem Rp.flat (r : Rp CT H v d F) (h : d.flat = true) : flatV v = true := by cases r <;> first | rfl | exact absurd h Bool.false_ne_true
theorem eqV_eqb {w : V} {e : D} (r : Rp CT H v d F) (r' : Rp CT H w e G) (h : d.flat = true) (h' : e.flat = true) : eqV v w = D.eqb d e := by
  cases r <;> first | exact absurd h Bool.false_ne_true | skip
  all_goals (cases r' <;> first | exact absurd h' Bool.false_ne_true | rfl | (simp [D.eqb, D.py, eqV, PyData.eqv]))
theorem Rps.flat : ∀ {vs : List V} {ds : List D} {F : List Addr}, Rps CT H vs ds F → ds.all D.flat = true → vs.all flatV = true
  | _, _, _, .nil, _ => rfl
  | _, _, _, .cons r rs, h => by
    simp only [List.all_cons, Bool.and_eq_true] at h ⊢
    exact ⟨r.flat h.1, rs.flat h.2⟩
theorem Rps.inV {x : V} {e : D} (r' : Rp CT H x e G) (h' : e.flat = true) : ∀ {vs : List V} {ds : List D} {F : List Addr}, Rps CT H vs ds F → ds.all D.flat = true → L2.inV x vs = ds.any fun z => D.eqb z e
  | _, _, _, .nil, _ => rfl
  | _, _, _, .cons r rs, h => by
    simp only [List.all_cons, Bool.and_eq_true] at h
    unfold L2.inV
    rw [List.any_cons, List.any_cons, eqV_eqb r r' h.1 h']
    congr 1
    exact rs.inV r' h' h.2
def rInU (K : PySem.W.Frag) : R2 := fun x y H Q => (rIn K false x y H Q ∨ rInD K x y H Q) ∨ ∃ a o, y = .ref a ∧ DGet H a x o ∧ Q (.bl o.isSome) H
def rNotInU (K : PySem.W.Frag) : R2 := fun x y H Q => (rIn K true x y H Q ∨ rNotInD K x y H Q) ∨ ∃ a o, y = .ref a ∧ DGet H a x o ∧ Q (.bl (!o.isSome)) H
theorem op_inU {X : Cx} (hu : X.A.units + 65 < cLine) : OpR X (compareOp .In) (rInU X.K) := (op_in_seq.or (op_inD hu)).or fun pins s σ H x y v u Q I rx ry h => by
  obtain ⟨a, o, rfl, g, q⟩ := h
  obtain rfl : u = Value.ref a := ry
  exact d_in (by omega) I g rx fun s3 I3 => ⟨.bl o.isSome, H, I3, rfl, q⟩
theorem op_notInU {X : Cx} (hu : X.A.units + 65 < cLine) : OpR X (compareOp .NotIn) (rNotInU X.K) := (op_notIn_seq.or (op_notInD hu)).or fun pins s σ H x y v u Q I rx ry h => by
  obtain ⟨a, o, rfl, g, q⟩ := h
  obtain rfl : u = Value.ref a := ry
  exact d_notIn (by omega) I g rx fun s3 I3 => ⟨.bl (!o.isSome), H, I3, rfl, q⟩
def inSeq (neg : Bool) (d : D) (xs : List D) (Q : D → Prop) : Prop := d.flat = true ∧ xs.all D.flat = true ∧ Q (.bl (xor neg (xs.any fun z => D.eqb z d)))
def oIn (neg : Bool) : O2 := fun d e Q => match e with
  | .tup xs => inSeq neg d xs Q
  | .lst xs => (inSeq neg d xs Q) ∨ (Sh d ∧ Sh (.lst xs) ∧ Q (.bl (xor neg (xs.any fun z => D.eqb z d))))
  | .dK kvs => (match d.key? with | some k => Q (.bl (xor neg (lookD kvs k).isSome)) | none => False)
  | .dT kvs => (match d.tkey? with | some k => Q (.bl (xor neg (lookD kvs k).isSome)) | none => False)
  | _ => False
theorem any_py (d : D) : ∀ xs : List D, ((pyL xs).any fun z => PyData.eqv z d.py) = xs.any fun z => D.eqb z d
  | [] => rfl
  | x :: xs => by rw [pyL, List.any_cons, List.any_cons, any_py d xs] <;> rfl
theorem look_isSome {κ : Type} [DecidableEq κ] {kvs : List (κ × V)} {kds : List (κ × D)} {F : List Addr} (k : κ) (hk : kvs.map (·.1) = kds.map (·.1)) (ra : Rps CT H (kvs.map (·.2)) (kds.map (·.2)) F) : (valV kvs k).isSome = (lookD kds k).isSome := by
  rcases look_val k hk ra with ⟨h1, h2⟩ | ⟨x, v, P, h1, h2, _⟩
  · rw [h1, h2] <;> rfl
  · rw [h1, h2] <;> rfl
theorem mono_oIn {neg : Bool} : Mono2 (oIn neg) := fun d e Q Q' h q => by
  cases e with
  | tup xs => exact ⟨q.1, q.2.1, h _ q.2.2⟩
  | lst xs =>
    rcases q with q | q
    · exact .inl ⟨q.1, q.2.1, h _ q.2.2⟩
    · exact .inr ⟨q.1, q.2.1, h _ q.2.2⟩
  | dK kvs =>
    unfold oIn at q ⊢
    revert q
    cases d.key? with
    | none => exact fun z => z
    | some k => exact h _
  | dT kvs =>
    unfold oIn at q ⊢
    revert q
    cases d.tkey? with
    | none => exact fun z => z
    | some k => exact h _
  | _ => exact q
theorem so_in : SimO2 CT (rInU K) (oIn false) := ⟨fun H v w d e F G Q a b q => by
  cases b with
  | tup hb rb =>
    obtain ⟨h1, h2, q⟩ := q
    refine .inl (.inl ⟨_, _, rfl, .inr (SqT.of hb), a.flat h1, rb.flat h2, ?_⟩)
    rw [if_neg Bool.false_ne_true, rb.inV a h1 h2]
    have := New.imm (CT := CT) q (.bl _)
    simpa using this
  | lst hb rb =>
    rcases q with ⟨h1, h2, q⟩ | ⟨h1, h2, q⟩
    · refine .inl (.inl ⟨_, _, rfl, .inl (SqL.of hb), a.flat h1, rb.flat h2, ?_⟩)
      rw [if_neg Bool.false_ne_true, rb.inV a h1 h2]
      have := New.imm (CT := CT) q (.bl _)
      simpa using this
    · refine .inl (.inr ⟨_, _, a.dp (SeqAt.canLay_of_shaped h1), (Rp.lst hb rb).dp (SeqAt.canLay_of_shaped h2), h1, h2, ?_⟩)
      rw [any_py]
      have := New.imm (CT := CT) q (.bl _)
      simpa using this
  | dK hb hk rb =>
    unfold oIn at q
    dsimp only at q
    cases ek : d.key? with
    | none => rw [ek] at q; exact q.elim
    | some k =>
      rw [ek] at q
      refine .inr ⟨_, _, rfl, .inl ⟨_, k, .inl hb, a.key ek, rfl⟩, ?_⟩
      rw [look_isSome k hk rb]
      have := New.imm (CT := CT) q (.bl _)
      simpa using this
  | dT hb hk rb =>
    unfold oIn at q
    dsimp only at q
    cases ek : d.tkey? with
    | none => rw [ek] at q; exact q.elim
    | some k =>
      rw [ek] at q
      obtain ⟨b', eb, hb'⟩ := a.tkey ek
      refine .inr ⟨_, _, rfl, .inr ⟨_, k, b', .inl hb, eb, hb', rfl⟩, ?_⟩
      rw [look_isSome k hk rb]
      have := New.imm (CT := CT) q (.bl _)
      simpa using this
  | _ => exact (show False from q).elim, mono_oIn⟩
theorem so_notIn : SimO2 CT (rNotInU K) (oIn true) := ⟨fun H v w d e F G Q a b q => by
  cases b with
  | tup hb rb =>
    obtain ⟨h1, h2, q⟩ := q
    refine .inl (.inl ⟨_, _, rfl, .inr (SqT.of hb), a.flat h1, rb.flat h2, ?_⟩)
    rw [if_pos rfl, rb.inV a h1 h2]
    have := New.imm (CT := CT) q (.bl _)
    simpa using this
  | lst hb rb =>
    rcases q with ⟨h1, h2, q⟩ | ⟨h1, h2, q⟩
    · refine .inl (.inl ⟨_, _, rfl, .inl (SqL.of hb), a.flat h1, rb.flat h2, ?_⟩)
      rw [if_pos rfl, rb.inV a h1 h2]
      have := New.imm (CT := CT) q (.bl _)
      simpa using this
    · refine .inl (.inr ⟨_, _, a.dp (SeqAt.canLay_of_shaped h1), (Rp.lst hb rb).dp (SeqAt.canLay_of_shaped h2), h1, h2, ?_⟩)
      rw [any_py]
      have := New.imm (CT := CT) q (.bl _)
      simpa using this
  | dK hb hk rb =>
    unfold oIn at q
    dsimp only at q
    cases ek : d.key? with
    | none => rw [ek] at q; exact q.elim
    | some k =>
      rw [ek] at q
      refine .inr ⟨_, _, rfl, .inl ⟨_, k, .inl hb, a.key ek, rfl⟩, ?_⟩
      rw [look_isSome k hk rb]
      have := New.imm (CT := CT) q (.bl _)
      simpa using this
  | dT hb hk rb =>
    unfold oIn at q
    dsimp only at q
    cases ek : d.tkey? with
    | none => rw [ek] at q; exact q.elim
    | some k =>
      rw [ek] at q
      obtain ⟨b', eb, hb'⟩ := a.tkey ek
      refine .inr ⟨_, _, rfl, .inr ⟨_, k, b', .inl hb, eb, hb', rfl⟩, ?_⟩
      rw [look_isSome k hk rb]
      have := New.imm (CT := CT) q (.bl _)
      simpa using this
  | _ => exact (show False from q).elim, mono_oIn⟩
end
end Pu
set_option Elab.async false
set_option linter.all false
set_option maxRecDepth 100000
namespace Pu
open PySem PySem.Spec PyProof.Rows L2
section
variable {C : Cfg} {Γ Γ' Γn Γl Γ1 Γ2 : List Mo} {σ σ' : L2.St} {H H' H1 H2 : Hp} {env env' : PEnv} {Fs Fs' Fs1 Fs2 : Nat → List Addr} {v : V} {vs : List V} {d : D} {ds : List D} {F G : List Addr} {ta tb te : TE} {A B : Kd} {m n : X1}
def WO (C : Cfg) (Γ : List Mo) (Fs : Nat → List Addr) : Addr → Prop := fun a => Wq C a ∨ ∃ i : Nat, Γ[i]? = some .o ∧ a ∈ Fs i
def Mine (Γ : List Mo) (Fs : Nat → List Addr) (H : Hp) (F : List Addr) : Prop := ∀ a ∈ F, (∃ j : Nat, Γ[j]? = some .o ∧ a ∈ Fs j) ∨ H a = none
structure Go (C : Cfg) (Γ : List Mo) (Fs : Nat → List Addr) (H : Hp) (Γ' : List Mo) (Fs' : Nat → List Addr) (H' : Hp) : Prop where
  fr : Fr (WO C Γ Fs) H H'
  gr : ∀ i : Nat, Γ'[i]? = some .o → Mine Γ Fs H (Fs' i)
theorem Mine.back (g : Go C Γ Fs H Γ1 Fs1 H1) (m : Mine Γ1 Fs1 H1 F) : Mine Γ Fs H F := fun a ha => by
  rcases m a ha with ⟨j, g1, b⟩ | e
  · exact g.gr j g1 a b
  · exact .inr (g.fr.there a e)
theorem Fr.behind (g : Go C Γ Fs H Γ1 Fs1 H1) (f : Fr (WO C Γ1 Fs1) H1 H2) : Fr (WO C Γ Fs) H H2 := by
  refine ⟨fun a o e n => f.keep a o (g.fr.keep a o e n) fun w => ?_, fun a o e i => f.im a o (g.fr.im a o e i) i, fun a e => g.fr.there a (f.there a e)⟩
  rcases w with w | ⟨i, gi, b⟩
  · exact n (.inl w)
  · rcases g.gr i gi a b with ⟨j, gj, c⟩ | z
    · exact n (.inr ⟨j, gj, c⟩)
    · rw [e] at z; cases z
theorem Go.trans (g : Go C Γ Fs H Γ1 Fs1 H1) (f : Go C Γ1 Fs1 H1 Γ2 Fs2 H2) : Go C Γ Fs H Γ2 Fs2 H2 := ⟨Fr.behind g f.fr, fun i gi => (f.gr i gi).back g⟩
theorem Go.refl : Go C Γ Fs H Γ Fs H := ⟨Fr.refl, fun i gi a ha => .inl ⟨i, gi, ha⟩⟩
theorem Go.ev (f : Fr (Wq C) H H') : Go C Γ Fs H Γ Fs H' := ⟨f.mono fun _ w => .inl w, fun i gi a ha => .inl ⟨i, gi, ha⟩⟩
structure Lk (C : Cfg) (Γ : List Mo) (Fs : Nat → List Addr) (H : Hp) (Γn Γl : List Mo) (D : Ends) (E : PEnds) : Prop where
  nx : ∀ σ' H' env' Fs', Ok C Γn σ' H' env' Fs' → Go C Γ Fs H Γn Fs' H' → E.nx env' → D.nx σ' H'
  bk : ∀ σ' H' env' Fs', Ok C Γl σ' H' env' Fs' → Go C Γ Fs H Γl Fs' H' → E.bk env' → D.bk σ' H'
  ct : ∀ σ' H' env' Fs', Ok C Γl σ' H' env' Fs' → Go C Γ Fs H Γl Fs' H' → E.ct env' → D.ct σ' H'
  rt : ∀ v H' d F, Fr (WO C Γ Fs) H H' → DiceOk C H' → Rp C.CT H' v d F → F.Nodup → NoQ C F → Mine Γ Fs H F → E.rt d → D.rt v H'
theorem Lk.step {D : Ends} {E : PEnds} (l : Lk C Γ Fs H Γn Γl D E) (g : Go C Γ Fs H Γ1 Fs1 H1) : Lk C Γ1 Fs1 H1 Γn Γl D E :=
  ⟨fun σ' H' env' Fs' I g2 => l.nx σ' H' env' Fs' I (g.trans g2), fun σ' H' env' Fs' I g2 => l.bk σ' H' env' Fs' I (g.trans g2), fun σ' H' env' Fs' I g2 => l.ct σ' H' env' Fs' I (g.trans g2),
   fun v H' d F f dk r nd nq mi => l.rt v H' d F (Fr.behind g f) dk r nd nq (mi.back g)⟩
def PLe (E E' : PEnds) : Prop := (∀ e, E.nx e → E'.nx e) ∧ (∀ d, E.rt d → E'.rt d) ∧ (∀ e, E.bk e → E'.bk e) ∧ ∀ e, E.ct e → E'.ct e
structure SimS (C : Cfg) (Γl Γ Γ' : List Mo) (t : TS) (m : XS) : Prop where
  run : ∀ (σ : L2.St) (H : Hp) (env : PEnv) (Fs : Nat → List Addr) (D : Ends) (E : PEnds), Ok C Γ σ H env Fs → Lk C Γ Fs H Γ' Γl D E → m E env → t D σ H
  mono : ∀ E E' env, PLe E E' → m E env → m E' env
def sNext : XS := fun E env => E.nx env
def sSeq (a b : XS) : XS := fun E env => a { E with nx := b E } env
theorem sim_next : SimS C Γl Γ Γ tNext sNext := ⟨fun σ H env Fs D E I l h => l.nx σ H env Fs I Go.refl h, fun E E' env p h => p.1 env h⟩
theorem sim_seq {t u : TS} {a b : XS} (s : SimS C Γl Γ Γ1 t a) (s' : SimS C Γl Γ1 Γ2 u b) : SimS C Γl Γ Γ2 (tSeq t u) (sSeq a b) :=
  ⟨fun σ H env Fs D E I l h => s.run σ H env Fs _ { E with nx := b E } I ⟨fun σ' H' env' Fs' I' g q => s'.run σ' H' env' Fs' D E I' (l.step g) q, l.bk, l.ct, l.rt⟩ h,
   fun E E' env p h => s.mono { E with nx := b E } { E' with nx := b E' } env ⟨fun e q => s'.mono _ _ e p q, p.2.1, p.2.2.1, p.2.2.2⟩ h⟩
def wk1 : Mo → Mo → Bool
  | _, .x => true
  | .o, .f => true
  | a, b => decide (a = b)
def wk : List Mo → List Mo → Bool
  | [], [] => true
  | a :: as, b :: bs => wk1 a b && wk as bs
  | _, _ => false
theorem wk_len : ∀ {Γ Γ' : List Mo}, wk Γ Γ' = true → Γ.length = Γ'.length
  | [], [], _ => rfl
  | a :: as, b :: bs, h => by
    simp only [wk, Bool.and_eq_true] at h
    simp [wk_len h.2]
  | [], _ :: _, h => by simp [wk] at h
  | _ :: _, [], h => by simp [wk] at h
theorem wk_at : ∀ {Γ Γ' : List Mo} {i : Nat} {b : Mo}, wk Γ Γ' = true → Γ'[i]? = some b → ∃ a, Γ[i]? = some a ∧ wk1 a b = true
  | a :: as, b :: bs, 0, c, h, e => by
    simp only [wk, Bool.and_eq_true] at h
    simp at e; subst e
    exact ⟨a, rfl, h.1⟩
  | a :: as, b :: bs, i + 1, c, h, e => by
    simp only [wk, Bool.and_eq_true] at h
    obtain ⟨x, h1, h2⟩ := wk_at (i := i) h.2 (by simpa using e)
    exact ⟨x, by simpa using h1, h2⟩
  | [], _, _, _, h, e => by
    rename_i Γ' _ _
    cases Γ' with
    | nil => simp at e
    | cons _ _ => simp [wk] at h
  | _ :: _, [], _, _, h, e => by simp [wk] at h
theorem wk_o {i : Nat} (h : wk Γ Γ' = true) (e : Γ'[i]? = some .o) : Γ[i]? = some .o := by
  obtain ⟨a, h1, h2⟩ := wk_at h e
  cases a <;> first | exact h1 | exact absurd h2 (by decide)
theorem wk_live {i : Nat} {b : Mo} (h : wk Γ Γ' = true) (e : Γ'[i]? = some b) (l : live b) : ∃ a, Γ[i]? = some a ∧ live a := by
  obtain ⟨a, h1, h2⟩ := wk_at h e
  refine ⟨a, h1, ?_⟩
  rcases l with rfl | rfl <;> cases a <;> first | exact .inl rfl | exact .inr rfl | exact absurd h2 (by decide)
theorem wk_q {i : Nat} (h : wk Γ Γ' = true) (e : Γ'[i]? = some .q) : Γ[i]? = some .q := by
  obtain ⟨a, h1, h2⟩ := wk_at h e
  cases a <;> first | exact h1 | exact absurd h2 (by decide)
theorem Ok.weak (I : Ok C Γ σ H env Fs) (h : wk Γ Γ' = true) : Ok C Γ' σ H env Fs :=
  ⟨I.le.trans (wk_len h), I.ls.trans (wk_len h), fun i m g l => by
    obtain ⟨a, g1, l1⟩ := wk_live h g l
    exact I.val i a g1 l1, fun i g => I.dice i (wk_q h g), fun i g => I.nd i (wk_o h g), fun i j m g g' l ne => by
    obtain ⟨a, g1, l1⟩ := wk_live h g' l
    exact I.dj i j a (wk_o h g) g1 l1 ne, fun i m g l => by
    obtain ⟨a, g1, l1⟩ := wk_live h g l
    exact I.nq i a g1 l1, I.dk, I.pn, fns_weak I.fn fun i g => wk_o h g⟩
theorem Go.weak (g : Go C Γ Fs H Γ1 Fs1 H1) (h : wk Γ1 Γ2 = true) : Go C Γ Fs H Γ2 Fs1 H1 := ⟨g.fr, fun i gi => g.gr i (wk_o h gi)⟩
theorem sim_weak {t : TS} {a : XS} (s : SimS C Γl Γ Γ1 t a) (h : wk Γ1 Γ2 = true) : SimS C Γl Γ Γ2 t a :=
  ⟨fun σ H env Fs D E I l q => s.run σ H env Fs D E I ⟨fun σ' H' env' Fs' I' g => l.nx σ' H' env' Fs' (I'.weak h) (g.weak h), l.bk, l.ct, l.rt⟩ q, s.mono⟩
def setF (Fs : Nat → List Addr) (i : Nat) (F : List Addr) : Nat → List Addr := fun j => if j = i then F else Fs j
theorem setF_same {i : Nat} : setF Fs i F i = F := if_pos rfl
theorem setF_ne {i j : Nat} (h : j ≠ i) : setF Fs i F j = Fs j := if_neg h
theorem get_set {α : Type} {l : List α} {i j : Nat} {a b : α} (h : (l.set i a)[j]? = some b) : (j = i ∧ b = a ∧ i < l.length) ∨ (j ≠ i ∧ l[j]? = some b) := by
  by_cases e : j = i
  · subst e
    rw [List.getElem?_set_self'] at h
    by_cases hl : j < l.length
    · simp [hl] at h; exact .inl ⟨rfl, h.symm, hl⟩
    · simp [List.getElem?_eq_none (Nat.le_of_not_lt hl)] at h
  · rw [List.getElem?_set_ne (Ne.symm e)] at h
    exact .inr ⟨e, h⟩
theorem Ok.setA (I : Ok C Γ σ H env Fs) {i : Nat} {mo : Mo} (fr : Free C i) (hm : live mo) (hi : i < Γ.length) (r : Rp C.CT H v d F) (nq : NoQ C F)
    (dj : ∀ a ∈ F, ∀ j : Nat, Γ[j]? = some .o → j ≠ i → a ∉ Fs j) (own : mo = .o → F.Nodup ∧ ∀ a ∈ F, ∀ (j : Nat) (m : Mo), Γ[j]? = some m → live m → j ≠ i → a ∉ Fs j) :
    Ok C (Γ.set i mo) (σ.set i (some v)) H (env.set i (some d)) (setF Fs i F) := by
  have hσ : i < σ.length := by rw [I.ls]; exact hi
  have he : i < env.length := by rw [I.le]; exact hi
  refine ⟨by simp [I.le], by simp [I.ls], fun j m g l => ?_, fun j g => ?_, fun j g => ?_, fun j k m g g' l ne => ?_, fun j m g l => ?_, I.dk, fun p hp => ?_, fns_set I.fn fr (fun j n => by rw [List.getElem?_set_ne (Ne.symm n)]) fun j n => setF_ne n⟩
  · rcases get_set g with ⟨rfl, rfl, _⟩ | ⟨ne, g⟩
    · exact ⟨v, d, by rw [List.getElem?_set_self hσ], by rw [List.getElem?_set_self he], by rw [setF_same]; exact r⟩
    · obtain ⟨v', d', h1, h2, h3⟩ := I.val j m g l
      exact ⟨v', d', by rw [List.getElem?_set_ne (Ne.symm ne)]; exact h1, by rw [List.getElem?_set_ne (Ne.symm ne)]; exact h2, by rw [setF_ne ne]; exact h3⟩
  · rcases get_set g with ⟨rfl, e, _⟩ | ⟨ne, g⟩
    · rcases hm with rfl | rfl <;> cases e
    · obtain ⟨p, h1, h2⟩ := I.dice j g
      exact ⟨p, h1, by rw [List.getElem?_set_ne (Ne.symm ne)]; exact h2⟩
  · rcases get_set g with ⟨rfl, e, _⟩ | ⟨ne, g⟩
    · rw [setF_same]; exact (own e.symm).1
    · rw [setF_ne ne]; exact I.nd j g
  · intro a ha hb
    rcases get_set g with ⟨ej, e, _⟩ | ⟨nj, g1⟩
    · rw [ej, setF_same] at ha
      rcases get_set g' with ⟨ek, _, _⟩ | ⟨nk, g2⟩
      · exact ne (ej.trans ek.symm)
      · rw [setF_ne nk] at hb
        exact (own e.symm).2 a ha k m g2 l nk hb
    · rw [setF_ne nj] at ha
      rcases get_set g' with ⟨ek, _, _⟩ | ⟨nk, g2⟩
      · rw [ek, setF_same] at hb
        exact dj a hb j g1 nj ha
      · rw [setF_ne nk] at hb
        exact I.dj j k m g1 g2 l ne a ha hb
  · rcases get_set g with ⟨rfl, _, _⟩ | ⟨ne, g⟩
    · rw [setF_same]; exact nq
    · rw [setF_ne ne]; exact I.nq j m g l
  · have ne : i ≠ p.1 := fun e => fr (by rw [e]; exact List.mem_map.mpr ⟨p, hp, rfl⟩)
    rw [List.getElem?_set_ne ne]; exact I.pn p hp
theorem Ok.tracked (I : Ok C Γ σ H env Fs) {i : Nat} {m : Mo} (g : Γ[i]? = some m) (l : live m) : ∀ a ∈ Fs i, H a ≠ none := by
  obtain ⟨v, d, _, _, r⟩ := I.val i m g l
  exact r.tracked
theorem Ok.setO (I : Ok C Γ σ H env Fs) (f : Fr (Wq C) H H1) (dk : DiceOk C H1) {i : Nat} (fr : Free C i) (hi : i < Γ.length) (r : Rp C.CT H1 v d F) (k : KdOk C Γ Fs H .own F) :
    Ok C (Γ.set i .o) (σ.set i (some v)) H1 (env.set i (some d)) (setF Fs i F) :=
  (I.step f dk).setA fr (.inl rfl) hi r k.1 (fun a ha j g _ hb => I.tracked g (.inl rfl) a hb (k.2.2 a ha)) fun _ => ⟨k.2.1, fun a ha j m g l _ hb => I.tracked g l a hb (k.2.2 a ha)⟩
def sSet (i : Nat) (m : X1) : XS := fun E env => m env fun d => E.nx (env.set i (some d))
theorem mono_sSet {i : Nat} (hm : Mono m) : ∀ E E' env, PLe E E' → sSet i m E env → sSet i m E' env := fun E E' env p h => hm env _ _ (fun d q => p.1 _ q) h
theorem sim_setO {i : Nat} (fr : Free C i) (hi : i < Γ.length) (s : Sim C Γ te .own m) : SimS C Γl Γ (Γ.set i .o) (tAsg te (gName i)) (sSet i m) :=
  ⟨fun σ H env Fs D E I l h => s.run σ H env Fs _ I (s.mono env _ _ (fun d q v H1 F f dk r k => l.nx _ H1 _ _ (I.setO f dk fr hi r k) ⟨f.mono fun _ w => .inl w, fun j g a ha => by
    rcases get_set g with ⟨rfl, _, _⟩ | ⟨ne, g⟩
    · rw [setF_same] at ha; exact .inr (k.2.2 a ha)
    · rw [setF_ne ne] at ha; exact .inl ⟨j, g, ha⟩⟩ q) h), mono_sSet s.mono⟩
def noO (S : List Nat) (Γ : List Mo) : Bool := S.all fun i => decide (Γ[i]? ≠ some .o)
def sIf (c : XB) (a b : XS) : XS := fun E env => c env fun k => if k = true then a E env else b E env
theorem sim_if {c : TT} {t u : TS} {mc : XB} {a b : XS} (s : SimT C Γ c mc) (s1 : SimS C Γl Γ Γ1 t a) (s2 : SimS C Γl Γ Γ1 u b) : SimS C Γl Γ Γ1 (tIfS c t u) (sIf mc a b) :=
  ⟨fun σ H env Fs D E I l h => s.run σ H env Fs _ I (s.mono env _ _ (fun k q H1 f dk => by
    cases k with
    | true => exact s1.run σ H1 env Fs D E (I.step f dk) (l.step (Go.ev f)) q
    | false => exact s2.run σ H1 env Fs D E (I.step f dk) (l.step (Go.ev f)) q) h),
   fun E E' env p h => s.mono env _ _ (fun k q => by
    cases k with
    | true => exact s1.mono _ _ env p q
    | false => exact s2.mono _ _ env p q) h⟩
def sRet (m : X1) : XS := fun E env => m env E.rt
theorem sim_ret (s : Sim C Γ te .own m) : SimS C Γl Γ Γ' (tRet te) (sRet m) :=
  ⟨fun σ H env Fs D E I l h => s.run σ H env Fs _ I (s.mono env _ _ (fun d q v H1 F f dk r k => l.rt v H1 d F (f.mono fun _ w => .inl w) dk r k.2.1 k.1 (fun a ha => .inr (k.2.2 a ha)) q) h),
   fun E E' env p h => s.mono env _ _ p.2.1 h⟩
theorem sim_retO {i : Nat} (g : Γ[i]? = some .o) : SimS C Γl Γ Γ' (tRet (tVar i)) (sRet (xVar i)) :=
  ⟨fun σ H env Fs D E I l h => by
    obtain ⟨v, d, h1, h2, r⟩ := I.val i _ g (.inl rfl)
    refine ⟨v, h1, l.rt v H d (Fs i) Fr.refl I.dk r (I.nd i g) (I.nq i _ g (.inl rfl)) (fun a ha => .inl ⟨i, g, ha⟩) ?_⟩
    have h : xVar i env E.rt := h
    unfold xVar at h
    rw [h2] at h
    exact h, fun E E' env p h => mono_var env _ _ p.2.1 h⟩
def sDrop (m : X1) : XS := fun E env => m env fun _ => E.nx env
def sNever : XS := fun _ _ => False
theorem sim_never : SimS C Γl Γ Γ' tNever sNever := ⟨fun σ H env Fs D E I l h => h, fun E E' env p h => h⟩
def sBreak : XS := fun E env => E.bk env
def sCont : XS := fun E env => E.ct env
end
end Pu
set_option Elab.async false
set_option linter.all false
set_option maxRecDepth 100000
namespace Pu
open PySem PySem.Spec PyProof.Rows L2
structure Walk (CT : RT) (J : It) (S : List Addr) (P : Hp → Prop) (ds : List D) : Prop where
  keep : ∀ (W : Addr → Prop) (H H' : Hp), P H → Fr W H H' → (∀ a ∈ S, ¬ W a) → P H'
  there : ∀ H, P H → ∀ a ∈ S, H a ≠ none
  go : ∀ (i : Nat) (H : Hp), P H → i < ds.length → J.go i H
  stop : ∀ H, P H → J.stop ds.length H
  yld : ∀ (i : Nat) (H : Hp) (x : V) (H' : Hp), P H → i < ds.length → J.yld i H x H' → ∃ d G, ds[i]? = some d ∧ Fr (fun _ => False) H H' ∧ Rp CT H' x d G ∧ ∀ a ∈ G, a ∈ S
def KdS (C : Cfg) (Γ : List Mo) (Fs : Nat → List Addr) (A : Kd) (S : List Addr) : Prop := NoQ C S ∧ ∀ a ∈ S, ∀ i : Nat, Γ[i]? = some .o → a ∈ Fs i → i ∈ A.set
structure SimI (C : Cfg) (Γ : List Mo) (wi : TI) (A : Kd) (m : XL) : Prop where
  run : ∀ (σ : L2.St) (H : Hp) (env : PEnv) (Fs : Nat → List Addr) (R : It → Hp → Prop), Ok C Γ σ H env Fs →
    m env (fun ds => ∀ H' J S P, Fr (Wq C) H H' → DiceOk C H' → Walk C.CT J S P ds → P H' → KdS C Γ Fs A S → R J H') → wi σ H R
  mono : Mono m
abbrev XG := D → PEnv → (PEnv → Prop) → Prop
structure SimG (C : Cfg) (Γ Γ' : List Mo) (ks : List Nat) (g : TG) (b : XG) : Prop where
  run : ∀ (σ : L2.St) (H : Hp) (env : PEnv) (Fs : Nat → List Addr) (v : V) (d : D) (F : List Addr) (Q : L2.St → Hp → Prop), Ok C Γ σ H env Fs → Rp C.CT H v d F → NoQ C F → (∀ a ∈ F, ∀ j : Nat, Γ[j]? = some .o → a ∉ Fs j) →
    b d env (fun env' => ∀ σ' Fs', Ok C Γ' σ' H env' Fs' → (∀ j : Nat, Γ'[j]? = some .o ↔ Γ[j]? = some .o) → (∀ j : Nat, Γ[j]? = some .o → Fs' j = Fs j) → σ'.length = σ.length → (∀ j : Nat, j ∉ ks → σ'[j]? = σ[j]?) → Q σ' H) → g v σ H Q
  mono : ∀ d env Q Q', (∀ e, Q e → Q' e) → b d env Q → b d env Q'
def bName (i : Nat) : XG := fun d env Q => Q (env.set i (some d))
section
variable {C : Cfg} {Γ Γ' Γn Γl Γo Γt Γe Γ1 Γ2 : List Mo} {σ σ' : L2.St} {H H' H1 H2 : Hp} {env env' : PEnv} {Fs Fs' Fs1 Fs2 : Nat → List Addr} {v : V} {vs : List V} {d : D} {ds : List D} {F G : List Addr} {ta tb te : TE} {A B : Kd} {m n : X1}
theorem simg_name {i : Nat} (fr : Free C i) (hi : i < Γ.length) (ho : Γ[i]? ≠ some .o) : SimG C Γ (Γ.set i .f) [i] (gName i) (bName i) :=
  ⟨fun σ H env Fs v d F Q I r nq dj h => h _ _ (I.setA fr (.inr rfl) hi r nq (fun a ha j g _ => dj a ha j g) (fun z => nomatch z)) (fun j => ⟨fun g => by
    rcases get_set g with ⟨_, e, _⟩ | ⟨_, g⟩
    · cases e
    · exact g, fun g => by
    have ne : j ≠ i := fun e => ho (e ▸ g)
    rw [List.getElem?_set_ne (Ne.symm ne)]; exact g⟩) (fun j g => setF_ne fun e => ho (e ▸ g)) (by simp) (fun j hj => by
    rw [List.getElem?_set_ne (fun e => hj (by simp [e]))]), fun d env Q Q' h q => h _ q⟩
abbrev XGs := List D → PEnv → (PEnv → Prop) → Prop
structure SimGs (C : Cfg) (Γ Γ' : List Mo) (ks : List Nat) (g : TGs) (b : XGs) : Prop where
  run : ∀ (σ : L2.St) (H : Hp) (env : PEnv) (Fs : Nat → List Addr) (vs : List V) (ds : List D) (F : List Addr) (Q : L2.St → Hp → Prop), Ok C Γ σ H env Fs → Rps C.CT H vs ds F → NoQ C F → (∀ a ∈ F, ∀ j : Nat, Γ[j]? = some .o → a ∉ Fs j) →
    b ds env (fun env' => ∀ σ' Fs', Ok C Γ' σ' H env' Fs' → (∀ j : Nat, Γ'[j]? = some .o ↔ Γ[j]? = some .o) → (∀ j : Nat, Γ[j]? = some .o → Fs' j = Fs j) → σ'.length = σ.length → (∀ j : Nat, j ∉ ks → σ'[j]? = σ[j]?) → Q σ' H) → g vs σ H Q
  mono : ∀ d env Q Q', (∀ e, Q e → Q' e) → b d env Q → b d env Q'
def bNil : XGs := fun ds env Q => match ds with
  | [] => Q env
  | _ :: _ => False
def bCons (b : XG) (r : XGs) : XGs := fun ds env Q => match ds with
  | [] => False
  | d :: ds => b d env fun env' => r ds env' Q
theorem simgs_nil : SimGs C Γ Γ [] gNil bNil := ⟨fun σ H env Fs vs ds F Q I r nq dj h => by
  cases r with
  | nil => exact ⟨rfl, h σ Fs I (fun _ => Iff.rfl) (fun _ _ => rfl) rfl fun _ _ => rfl⟩
  | cons _ _ => exact (show False from h).elim, fun d env Q Q' k h => by cases d <;> first | exact k _ h | exact h⟩
theorem simgs_cons {ks ls : List Nat} {g : TG} {gs : TGs} {b : XG} {r : XGs} (s : SimG C Γ Γ1 ks g b) (s' : SimGs C Γ1 Γ2 ls gs r) : SimGs C Γ Γ2 (ks ++ ls) (gCons g gs) (bCons b r) :=
  ⟨fun σ H env Fs vs ds F Q I rr nq dj h => by
    cases rr with
    | nil => exact (show False from h).elim
    | cons hd tl =>
      rename_i v d F1 F2 vs ds
      refine ⟨v, vs, rfl, s.run σ H env Fs v d F1 _ I hd (nq.sub (List.sublist_append_left _ _)) (fun a ha => dj a (List.mem_append_left _ ha)) (s.mono _ _ _ _ (fun env' q σ1 Fs1 I1 o1 f1 l1 k1 => ?_) h)⟩
      refine s'.run σ1 H env' Fs1 vs ds F2 Q I1 tl (nq.sub (List.sublist_append_right _ _)) (fun a ha j g => by rw [f1 j ((o1 j).mp g)]; exact dj a (List.mem_append_right _ ha) j ((o1 j).mp g)) (s'.mono _ _ _ _ (fun env2 q σ2 Fs2 I2 o2 f2 l2 k2 => ?_) q)
      exact q σ2 Fs2 I2 (fun j => (o2 j).trans (o1 j)) (fun j g => (f2 j ((o1 j).mpr g)).trans (f1 j g)) (l2.trans l1) fun j hj => (k2 j fun z => hj (List.mem_append_right _ z)).trans (k1 j fun z => hj (List.mem_append_left _ z)),
   fun d env Q Q' k h => by
    cases d with
    | nil => exact h
    | cons d ds => exact s.mono _ _ _ _ (fun e q => s'.mono _ _ _ _ k q) h⟩
def bTup (n : Nat) (r : XGs) : XG := fun d env Q => match d with
  | .tup ds => ds.length = n ∧ r ds env Q
  | _ => False
theorem simg_tup {K : PySem.W.Frag} {ks : List Nat} {n : Nat} {gs : TGs} {r : XGs} (s : SimGs C Γ Γ1 ks gs r) : SimG C Γ Γ1 ks (gTup K n gs) (bTup n r) :=
  ⟨fun σ H env Fs v d F Q I rr nq dj h => by
    cases rr with
    | tup ha ra => exact ⟨_, _, rfl, SqT.of ha, by rw [ra.length]; exact h.1, s.run σ H env Fs _ _ _ Q I ra nq dj h.2⟩
    | _ => exact (show False from h).elim, fun d env Q Q' k h => by
    cases d <;> first | exact ⟨h.1, s.mono _ _ _ _ k h.2⟩ | exact h⟩
def sLoop (b : XG) (body : XS) : List D → XS
  | [] => fun E env => E.nx env
  | d :: ds => fun E env => b d env fun env1 => body { nx := sLoop b body ds E, rt := E.rt, bk := E.nx, ct := sLoop b body ds E } env1
def sFor (mi : XL) (b : XG) (body : XS) : XS := fun E env => mi env fun ds => sLoop b body ds E env
theorem mono_sLoop {b : XG} {body : XS} (hb : ∀ d env Q Q', (∀ e, Q e → Q' e) → b d env Q → b d env Q') (h : ∀ E E' env, PLe E E' → body E env → body E' env) : ∀ (ds : List D) (E E' : PEnds) (env : PEnv), PLe E E' → sLoop b body ds E env → sLoop b body ds E' env
  | [], E, E', env, p, q => p.1 _ q
  | d :: ds, E, E', env, p, q => hb _ _ _ _ (fun e q => h { nx := sLoop b body ds E, rt := E.rt, bk := E.nx, ct := sLoop b body ds E } { nx := sLoop b body ds E', rt := E'.rt, bk := E'.nx, ct := sLoop b body ds E' } e ⟨fun e q => mono_sLoop hb h ds E E' e p q, p.2.1, p.1, fun e q => mono_sLoop hb h ds E E' e p q⟩ q) q
theorem sim_for {wi : TI} {g : TG} {tb : TS} {mi : XL} {b : XG} {body : XS} {ks : List Nat} (s : SimI C Γ wi A mi) (hw : wk Γ Γl = true) (hS : noO A.set Γl = true) (sg : SimG C Γl Γt ks g b) (sb : SimS C Γl Γt Γe tb body) (hb : wk Γe Γl = true) :
    SimS C Γo Γ Γl (tFor wi g tb) (sFor mi b body) :=
  ⟨fun σ H env Fs D E I l h => s.run σ H env Fs _ I (s.mono env _ _ (fun ds q H1 J S P f dk wlk p kd => by
    have I1 : Ok C Γl σ H1 env Fs := (I.step f dk).weak hw
    have g1 : Go C Γ Fs H Γl Fs H1 := (Go.ev f).weak hw
    have nw : ∀ a ∈ S, ¬ WO C Γl Fs a := fun a ha w => by
      rcases w with w | ⟨i, gi, hb⟩
      · exact kd.1.wq a ha w
      · exact absurd gi (of_decide_eq_true (List.all_eq_true.mp hS i (kd.2 a ha i (wk_o hw gi) hb)))
    refine ⟨fun i m σ H => m = ds.length - i ∧ i ≤ ds.length ∧ ∃ env Fs2, Ok C Γl σ H env Fs2 ∧ Go C Γl Fs H1 Γl Fs2 H ∧ sLoop b body (ds.drop i) E env, ⟨ds.length, rfl, Nat.zero_le _, env, Fs, I1, Go.refl, q⟩, ?_⟩
    rintro i m σ2 H2 ⟨rfl, hi, env2, Fs2, I2, g2, q2⟩
    have p2 : P H2 := wlk.keep _ H1 H2 p g2.fr nw
    by_cases hlt : i < ds.length
    · refine .inr ⟨wlk.go i H2 p2 hlt, fun σ' H' => ∃ env Fs3, Ok C Γl σ' H' env Fs3 ∧ Go C Γl Fs H1 Γl Fs3 H' ∧ sLoop b body (ds.drop (i + 1)) E env, fun σ' H' hN => ⟨ds.length - (i + 1), by omega, rfl, hlt, hN⟩, fun x H3 y => ?_⟩
      obtain ⟨d, G, e, f3, r3, sub⟩ := wlk.yld i H2 x H3 p2 hlt y
      have hd : ds.drop i = d :: ds.drop (i + 1) := by
        obtain ⟨h1, h2⟩ := List.getElem?_eq_some_iff.mp e
        rw [← h2, List.drop_eq_getElem_cons h1]
      rw [hd] at q2
      have I3 : Ok C Γl σ2 H3 env2 Fs2 := I2.step f3.wq (I2.dk.keep f3)
      have g3 : Go C Γl Fs H1 Γl Fs2 H3 := g2.trans (Go.ev f3.wq)
      refine sg.run σ2 H3 env2 Fs2 x d G _ I3 r3 (kd.1.subm sub) (fun a ha j gj hb => ?_) (sg.mono _ _ _ _ (fun env3 q3 σ4 Fs4 I4 o4 f4 _ _ => ?_) q2)
      · rcases g3.gr j gj a hb with ⟨k, gk, hk⟩ | z
        · exact nw a (sub a ha) (.inr ⟨k, gk, hk⟩)
        · exact wlk.there H1 p a (sub a ha) z
      · have g4 : Go C Γl Fs H1 Γt Fs4 H3 := ⟨g3.fr, fun j gj => by rw [f4 j ((o4 j).mp gj)]; exact g3.gr j ((o4 j).mp gj)⟩
        have g0 : Go C Γ Fs H Γt Fs4 H3 := g1.trans g4
        refine sb.run σ4 H3 env3 Fs4 _ _ I4 ⟨fun σ' H' env' Fs' I' g' q' => ⟨env', Fs', I'.weak hb, (g4.trans g').weak hb, q'⟩, fun σ' H' env' Fs' I' g' q' => l.nx σ' H' env' Fs' I' (g0.trans g') q', fun σ' H' env' Fs' I' g' q' => ⟨env', Fs', I', g4.trans g', q'⟩, ?_⟩ q3
        exact fun v H' d F f dk r nd nq mi q => l.rt v H' d F (Fr.behind g0 f) dk r nd nq (mi.back g0) q
    · have e : i = ds.length := by omega
      subst e
      rw [List.drop_length] at q2
      exact .inl ⟨wlk.stop H2 p2, l.nx σ2 H2 env2 Fs2 I2 (g1.trans g2) q2⟩) h),
   fun E E' env p h => s.mono env _ _ (fun ds q => mono_sLoop sg.mono sb.mono ds E E' env p q) h⟩
def sWhile (c : XB) (body : XS) : XS := fun E env => ∃ W : Nat → PEnv → Prop, (∃ n, W n env) ∧ ∀ n env, W n env → c env fun k =>
  if k = true then body { nx := fun env' => ∃ n', n' < n ∧ W n' env', rt := E.rt, bk := E.nx, ct := fun env' => ∃ n', n' < n ∧ W n' env' } env else E.nx env
theorem sim_while {c : TT} {tb : TS} {mc : XB} {body : XS} (hw : wk Γ Γl = true) (s : SimT C Γl c mc) (sb : SimS C Γl Γl Γe tb body) (hb : wk Γe Γl = true) : SimS C Γo Γ Γl (tWhile c tb) (sWhile mc body) :=
  ⟨fun σ H env Fs D E I l h => by
    obtain ⟨W, ⟨n, w0⟩, hs⟩ := h
    have g1 : Go C Γ Fs H Γl Fs H := Go.refl.weak hw
    refine ⟨fun n σ H' => ∃ env Fs2, Ok C Γl σ H' env Fs2 ∧ Go C Γ Fs H Γl Fs2 H' ∧ W n env, ⟨n, env, Fs, I.weak hw, g1, w0⟩, ?_⟩
    rintro n σ2 H2 ⟨env2, Fs2, I2, g2, w2⟩
    refine s.run σ2 H2 env2 Fs2 _ I2 (s.mono _ _ _ (fun k q H3 f dk => ?_) (hs n env2 w2))
    cases k with
    | true =>
      rw [if_pos rfl] at q ⊢
      refine ⟨fun σ' H' => ∃ n', n' < n ∧ ∃ env Fs2, Ok C Γl σ' H' env Fs2 ∧ Go C Γ Fs H Γl Fs2 H' ∧ W n' env, fun σ' H' ⟨n', hn, x⟩ => ⟨n', hn, x⟩, ?_⟩
      have g3 : Go C Γ Fs H Γl Fs2 H3 := g2.trans (Go.ev f)
      refine sb.run σ2 H3 env2 Fs2 _ _ (I2.step f dk) ⟨fun σ' H' env' Fs' I' g' q' => ?_, fun σ' H' env' Fs' I' g' q' => l.nx σ' H' env' Fs' I' (g3.trans g') q', fun σ' H' env' Fs' I' g' q' => ?_, ?_⟩ q
      · obtain ⟨n', hn, w'⟩ := q'
        exact ⟨n', hn, env', Fs', I'.weak hb, (g3.trans g').weak hb, w'⟩
      · obtain ⟨n', hn, w'⟩ := q'
        exact ⟨n', hn, env', Fs', I', g3.trans g', w'⟩
      · exact fun v H' d F f dk r nd nq mi q => l.rt v H' d F (Fr.behind g3 f) dk r nd nq (mi.back g3) q
    | false =>
      rw [if_neg Bool.false_ne_true] at q ⊢
      exact l.nx σ2 H3 env2 Fs2 (I2.step f dk) (g2.trans (Go.ev f)) q,
   fun E E' env p h => by
    obtain ⟨W, w0, hs⟩ := h
    refine ⟨W, w0, fun n env w => s.mono _ _ _ (fun k q => ?_) (hs n env w)⟩
    cases k with
    | true =>
      rw [if_pos rfl] at q ⊢
      exact sb.mono { nx := fun env' => ∃ n', n' < n ∧ W n' env', rt := E.rt, bk := E.nx, ct := fun env' => ∃ n', n' < n ∧ W n' env' } _ _ ⟨fun _ z => z, p.2.1, p.1, fun _ z => z⟩ q
    | false =>
      rw [if_neg Bool.false_ne_true] at q ⊢
      exact p.1 _ q⟩
end
end Pu
set_option Elab.async false
set_option linter.all false
set_option maxRecDepth 100000
namespace Pu
open PySem PySem.Spec PyProof.Rows L2
abbrev XF := List D → (D → Prop) → Prop
inductive ArgsOk (C : Cfg) (H : Hp) : List Bool → List V → List D → List Addr → Prop
  | nil : ArgsOk C H [] [] [] []
  | dice {p : Addr × Addr} {pm : List Bool} {vs : List V} {ds : List D} {F : List Addr} : C.q = some p → ArgsOk C H pm vs ds F → ArgsOk C H (true :: pm) (.ref p.1 :: vs) (.non :: ds) F
  | val {v : V} {d : D} {pm : List Bool} {vs : List V} {ds : List D} {F G : List Addr} : Rp C.CT H v d F → ArgsOk C H pm vs ds G → ArgsOk C H (false :: pm) (v :: vs) (d :: ds) (F ++ G)
def SpM (S : Stat) (pm : List Bool) (mf : XF) : Sp := fun vs H Q _ => ∃ (C : Cfg) (ds : List D) (F : List Addr), C.toStat = S ∧ C.pin = [] ∧ ArgsOk C H pm vs ds F ∧ DiceOk C H ∧ NoQ C F ∧
  mf ds (fun d => ∀ v H' F', Fr (Wq C) H H' → DiceOk C H' → Rp C.CT H' v d F' → F'.Nodup → (∀ a ∈ F', H a = none) → Q v H')
def pmo (b : Bool) : Mo := if b = true then .q else .f
def Gam (N : Nat) (pm : List Bool) : List Mo := pm.map pmo ++ List.replicate (N - pm.length) .x
def env0 (N : Nat) (ds : List D) : PEnv := ds.map some ++ List.replicate (N - ds.length) none
def fnM (N : Nat) (body : XS) : XF := fun ds Q => body { nx := fun _ => Q .non, rt := Q } (env0 N ds)
section
variable {C : Cfg} {Γ Γ' Γn Γl Γo Γt Γe Γ1 Γ2 : List Mo} {σ σ' : L2.St} {H H' H1 H2 : Hp} {env env' : PEnv} {Fs Fs' Fs1 Fs2 : Nat → List Addr} {v : V} {vs : List V} {d : D} {ds : List D} {F G : List Addr} {ta tb te : TE} {A B : Kd} {m n : X1} {pm : List Bool}
theorem ArgsOk.len : ∀ {pm : List Bool} {vs : List V} {ds : List D} {F : List Addr}, ArgsOk C H pm vs ds F → vs.length = pm.length ∧ ds.length = pm.length
  | _, _, _, _, .nil => ⟨rfl, rfl⟩
  | _, _, _, _, .dice _ r => by have := r.len; simp [this]
  | _, _, _, _, .val _ r => by have := r.len; simp [this]
theorem ArgsOk.at : ∀ {pm : List Bool} {vs : List V} {ds : List D} {F : List Addr}, ArgsOk C H pm vs ds F → ∃ L : Nat → List Addr, ∀ (i : Nat) (b : Bool), pm[i]? = some b →
    (b = true → ∃ p, C.q = some p ∧ vs[i]? = some (.ref p.1)) ∧ (b = false → ∃ v d, vs[i]? = some v ∧ ds[i]? = some d ∧ Rp C.CT H v d (L i) ∧ (L i).Sublist F)
  | _, _, _, _, .nil => ⟨fun _ => [], fun i b e => by simp at e⟩
  | _, _, _, _, .dice q r => by
    obtain ⟨L, h⟩ := r.at
    refine ⟨fun i => L (i - 1), fun i b e => ?_⟩
    cases i with
    | zero =>
      simp at e; subst e
      exact ⟨(fun _ => ⟨_, q, rfl⟩), fun z => nomatch z⟩
    | succ i =>
      have := h i b (by simpa using e)
      simpa using this
  | _, _, _, _, .val (F := F) (G := G) rv r => by
    obtain ⟨L, h⟩ := r.at
    refine ⟨fun i => if i = 0 then F else L (i - 1), fun i b e => ?_⟩
    cases i with
    | zero =>
      simp at e; subst e
      exact ⟨(fun z => nomatch z), fun _ => ⟨_, _, rfl, rfl, by simpa using rv, by simpa using List.sublist_append_left _ _⟩⟩
    | succ i =>
      have h1 := h i b (by simpa using e)
      refine ⟨fun z => by simpa using h1.1 z, fun z => ?_⟩
      obtain ⟨v, d, h2, h3, h4, h5⟩ := h1.2 z
      exact ⟨v, d, by simpa using h2, by simpa using h3, by simpa using h4, by simpa using h5.trans (List.sublist_append_right _ _)⟩
theorem gam_at {N : Nat} {i : Nat} {mo : Mo} (h : (Gam N pm)[i]? = some mo) : (∃ b, pm[i]? = some b ∧ mo = pmo b) ∨ mo = .x := by
  unfold Gam at h
  by_cases hi : i < pm.length
  · rw [List.getElem?_append_left (by simpa using hi), List.getElem?_map] at h
    cases e : pm[i]? with
    | none => rw [e] at h; cases h
    | some b => rw [e] at h; cases h; exact .inl ⟨b, rfl, rfl⟩
  · rw [List.getElem?_append_right (by simpa using hi), List.getElem?_replicate] at h
    split at h <;> cases h
    exact .inr rfl
theorem pmo_o {b : Bool} : pmo b ≠ .o := by cases b <;> decide
theorem ok_start {N : List Str} (a : ArgsOk C H pm vs ds F) (nq : NoQ C F) (dk : DiceOk C H) (hN : pm.length ≤ N.length) (hpn : C.pin = []) (hfn : C.fns = []) : ∃ Fs, Ok C (Gam N.length pm) (L2.start N vs) H (env0 N.length ds) Fs := by
  obtain ⟨L, h⟩ := a.at
  obtain ⟨l1, l2⟩ := a.len
  have noo : ∀ i : Nat, (Gam N.length pm)[i]? ≠ some .o := fun i e => by
    rcases gam_at e with ⟨b, _, z⟩ | z
    · exact pmo_o z.symm
    · cases z
  refine ⟨L, ⟨?_, ?_, fun i m g l => ?_, fun i g => ?_, fun i g => absurd g (noo i), fun i j m g => absurd g (noo i), fun i m g l => ?_, dk, (fun p hp => by rw [hpn] at hp; cases hp), fun p hp => by rw [hfn] at hp; cases hp⟩⟩
  · unfold env0 Gam; simp [l2]
  · unfold L2.start Gam; simp [l1]
  · rcases gam_at g with ⟨b, hb, z⟩ | z
    · cases b with
      | true => rcases l with e | e <;> rw [z] at e <;> cases e
      | false =>
        obtain ⟨v, d, h1, h2, h3, h4⟩ := (h i false hb).2 rfl
        refine ⟨v, d, ?_, ?_, h3⟩
        · unfold L2.start
          have hi := (List.getElem?_eq_some_iff.mp h1).1
          rw [List.getElem?_append_left (by simpa using hi), List.getElem?_map, h1] <;> rfl
        · unfold env0
          have hi := (List.getElem?_eq_some_iff.mp h2).1
          rw [List.getElem?_append_left (by simpa using hi), List.getElem?_map, h2] <;> rfl
    · rcases l with e | e <;> rw [z] at e <;> cases e
  · rcases gam_at g with ⟨b, hb, z⟩ | z
    · cases b with
      | true =>
        obtain ⟨p, h1, h2⟩ := (h i true hb).1 rfl
        refine ⟨p, h1, ?_⟩
        unfold L2.start
        have hi := (List.getElem?_eq_some_iff.mp h2).1
        rw [List.getElem?_append_left (by simpa using hi), List.getElem?_map, h2] <;> rfl
      | false => cases z
    · cases z
  · rcases gam_at g with ⟨b, hb, z⟩ | z
    · cases b with
      | true => rcases l with e | e <;> rw [z] at e <;> cases e
      | false =>
        obtain ⟨v, d, h1, h2, h3, h4⟩ := (h i false hb).2 rfl
        exact nq.sub h4
    · rcases l with e | e <;> rw [z] at e <;> cases e
theorem ArgsOk.pinned {pn : List (Nat × V)} {fs : List FX} : ∀ {pm : List Bool} {vs : List V} {ds : List D} {F : List Addr}, ArgsOk C H pm vs ds F → ArgsOk { C with pin := pn, fns := fs } H pm vs ds F
  | _, _, _, _, .nil => .nil
  | _, _, _, _, .dice q r => .dice q r.pinned
  | _, _, _, _, .val rv r => .val rv r.pinned
theorem fn_ok {P : Program} {w : World} {K : PySem.W.Frag} {mg : Str → Option Value} {base : Heap} {x qual : Str} {st : Stmt} {f : Addr} {fd : FuncData} {N ps : List Str} {k : Nat} {S0 : Stat} {body : XS} {pm : List Bool} {Γe : List Mo}
    (Fn : Fun K x qual st f fd) (S : FnScope N ps (defScope st)) (hp : pm.length = ps.length) (hN : pm.length ≤ N.length)
    (hbody : ∀ (cdv : Value) (A : Around) (outer : List Env) (s : Shared) (H : Hp) (E : XK), Room k (A.deeper (envOfC qual (defScope st) s.heap.objs.size f cdv)) →
      ∃ t, PSs (cxOf CX0 P w K mg base N qual (defScope st) f cdv A outer s H E).nox (defBody st) t ∧ ∀ q, SimS ⟨S0, q, [], []⟩ [] (Gam N.length pm) Γe t body) :
    FnOk P w K mg base CX0 (k + 1) f fd ps (SpM S0 pm (fnM N.length body)) := by
  refine Fn.ok S (fun vs H Q E ⟨C, ds, F, _, _, a, _⟩ => by rw [a.len.1, hp]) (fun cdv A outer s H vs Q E hr ⟨C, ds, F, hC, hpn, a, dk, nq, q⟩ => ?_)
  obtain ⟨t, ht, hs⟩ := hbody cdv A outer s H E hr
  obtain ⟨st0, q0, pin0, fns0⟩ := C
  cases hC
  obtain ⟨Fs, I⟩ := ok_start (C := ⟨st0, q0, [], []⟩) (N := N) (a.pinned (pn := []) (fs := [])) nq dk hN rfl rfl
  refine ⟨t, ht, (hs q0).run _ H _ Fs _ { nx := fun _ => _, rt := _ } I ⟨fun σ' H' env' Fs' I' g q => ?_, fun _ _ _ _ _ _ q => q, fun _ _ _ _ _ _ q => q, fun v H' d F f dk r nd nq mi q => ?_⟩ q⟩
  · have noo : ∀ i : Nat, (Gam N.length pm)[i]? ≠ some .o := fun i e => by
      rcases gam_at e with ⟨b, _, z⟩ | z
      · exact pmo_o z.symm
      · cases z
    refine q .non H' [] (g.fr.mono fun a w => ?_) I'.dk .non List.nodup_nil fun _ z => nomatch z
    rcases w with w | ⟨i, gi, _⟩
    · exact w
    · exact absurd gi (noo i)
  · have noo : ∀ i : Nat, (Gam N.length pm)[i]? ≠ some .o := fun i e => by
      rcases gam_at e with ⟨b, _, z⟩ | z
      · exact pmo_o z.symm
      · cases z
    refine q v H' F (f.mono fun a w => ?_) dk r nd fun a ha => ?_
    · rcases w with w | ⟨i, gi, _⟩
      · exact w
      · exact absurd gi (noo i)
    · rcases mi a ha with ⟨j, gj, _⟩ | z
      · exact absurd gj (noo j)
      · exact z
structure SimA (C : Cfg) (Γ : List Mo) (pm : List Bool) (t : TA) (m : XL) : Prop where
  run : ∀ (σ : L2.St) (H : Hp) (env : PEnv) (Fs : Nat → List Addr) (Q : List V → Hp → Prop), Ok C Γ σ H env Fs →
    m env (fun ds => ∀ vs H' F, Fr (Wq C) H H' → DiceOk C H' → ArgsOk C H' pm vs ds F → NoQ C F → Q vs H') → t σ H Q
  mono : Mono m
theorem mono_nil : Mono xNil := fun _ _ _ h q => h _ q
theorem mono_cons {m : X1} {r : XL} (h : Mono m) (h' : Mono r) : Mono (xCons m r) := fun env Q Q' k q => h env _ _ (fun d q => h' env _ _ (fun ds q => k _ q) q) q
theorem sima_nil : SimA C Γ [] tNil xNil := ⟨fun σ H env Fs Q I h => h [] H [] Fr.refl I.dk .nil NoQS.nil, mono_nil⟩
def xDice (r : XL) : XL := fun env Q => r env fun ds => Q (.non :: ds)
theorem sima_dice {i : Nat} {t : TA} {r : XL} (g : Γ[i]? = some .q) (s : SimA C Γ pm t r) : SimA C Γ (true :: pm) (tCons (tVar i) t) (xDice r) :=
  ⟨fun σ H env Fs Q I h => by
    obtain ⟨p, h1, h2⟩ := I.dice i g
    exact ⟨_, h2, s.run σ H env Fs _ I (s.mono env _ _ (fun ds q vs H1 F f dk a nq => q _ H1 F f dk (.dice h1 a) nq) h)⟩, fun env Q Q' k q => s.mono env _ _ (fun ds q => k _ q) q⟩
theorem ArgsOk.keep {W : Addr → Prop} : ∀ {pm : List Bool} {vs : List V} {ds : List D} {F : List Addr}, ArgsOk C H pm vs ds F → Fr W H H' → (∀ a ∈ F, ¬ W a) → ArgsOk C H' pm vs ds F
  | _, _, _, _, .nil, _, _ => .nil
  | _, _, _, _, .dice q r, f, n => .dice q (r.keep f n)
  | _, _, _, _, .val rv r, f, n => .val (rv.keep f fun a m => n a (List.mem_append_left _ m)) (r.keep f fun a m => n a (List.mem_append_right _ m))
theorem sima_val {te : TE} {t : TA} {r : XL} (s : Sim C Γ te A m) (s' : SimA C Γ pm t r) : SimA C Γ (false :: pm) (tCons te t) (xCons m r) :=
  ⟨fun σ H env Fs Q I h => s.run σ H env Fs _ I (s.mono env _ _ (fun d q v H1 F f1 dk1 r1 k1 => s'.run σ H1 env Fs _ (I.step f1 dk1) (s'.mono env _ _ (fun ds q vs H2 G f2 dk2 a2 nq2 =>
    q (v :: vs) H2 (F ++ G) (f1.trans f2) dk2 (.val (r1.keep f2 k1.1.wq) a2) (k1.1.app nq2)) q)) h), mono_cons s.mono s'.mono⟩
def xCall (mf : XF) (r : XL) : X1 := fun env Q => r env fun ds => mf ds Q
def MonoF (mf : XF) : Prop := ∀ ds Q Q', (∀ d, Q d → Q' d) → mf ds Q → mf ds Q'
theorem free_nil {i : Nat} {st : Stat} {q : Option (Addr × Addr)} {fs : List FX} : Free ⟨st, q, [], fs⟩ i := by unfold Free; simp
theorem sim_call {mf : XF} {t : TA} {r : XL} {S0 : Stat} (hC : C.toStat = S0) (hm : MonoF mf) (s : SimA C Γ pm t r) : Sim C Γ (tCall (SpM S0 pm mf) [] E0 t) .own (xCall mf r) :=
  ⟨fun σ H env Fs Q I h => s.run σ H env Fs _ I (s.mono env _ _ (fun ds q vs H1 F f dk a nq => by
    show SpM S0 pm mf (vs ++ []) H1 Q E0
    rw [List.append_nil]
    refine ⟨{ C with pin := [], fns := [] }, ds, F, hC, rfl, a.pinned, dk, nq, hm ds _ _ (fun d q v H2 F2 f2 dk2 r2 nd fr => ?_) q⟩
    exact q v H2 F2 (f.trans f2) dk2 r2 ⟨NoQS.new dk fr, nd, fun a ha => f.there a (fr a ha)⟩) h), fun env Q Q' k q => s.mono env _ _ (fun ds q => hm ds _ _ k q) q⟩
theorem monoF_fn {N : Nat} {body : XS} (h : ∀ E E' env, PLe E E' → body E env → body E' env) : MonoF (fnM N body) := fun ds Q Q' k q => h { nx := fun _ => Q .non, rt := Q } _ _ ⟨fun _ z => k _ z, k, fun _ z => z, fun _ z => z⟩ q
def bTest (m : X1) : XB := fun env Q => m env fun d => match d with
  | .bl b => Q b
  | _ => False
theorem mono_bTest (h : Mono m) : Mono (bTest m) := fun env Q Q' k q => h env _ _ (fun d q => by cases d <;> first | exact k _ q | exact q) q
theorem simt_test {t : TE} (s : Sim C Γ t A m) : SimT C Γ (tTest t) (bTest m) := ⟨fun σ H env Fs Q I h => s.run σ H env Fs _ I (s.mono env _ _ (fun d q v H1 F f dk r k => by
    cases r <;> first | exact ⟨_, rfl, q H1 f dk⟩ | exact (show False from q).elim) h), mono_bTest s.mono⟩
theorem simt_B {t : TE} (s : Sim C Γ t A m) : SimT C Γ (tB t) (bTest m) := ⟨fun σ H env Fs Q I h => s.run σ H env Fs _ I (s.mono env _ _ (fun d q v H1 F f dk r k => by
    cases r <;> first | exact ⟨_, rfl, q H1 f dk⟩ | exact (show False from q).elim) h), mono_bTest s.mono⟩
def bAnd (a b : XB) : XB := fun env Q => a env fun c => if c = true then b env Q else Q false
def bOr (a b : XB) : XB := fun env Q => a env fun c => if c = true then Q true else b env Q
def bNot (a : XB) : XB := fun env Q => a env fun c => Q (!c)
theorem simt_or {t u : TT} {a b : XB} (s : SimT C Γ t a) (s' : SimT C Γ u b) : SimT C Γ (tOr t u) (bOr a b) := ⟨fun σ H env Fs Q I h => s.run σ H env Fs _ I (s.mono env _ _ (fun c q H1 f dk => by
    cases c with
    | false =>
      rw [if_neg Bool.false_ne_true] at q ⊢
      exact s'.run σ H1 env Fs _ (I.step f dk) (s'.mono env _ _ (fun c q H2 f2 dk2 => q H2 (f.trans f2) dk2) q)
    | true =>
      rw [if_pos rfl] at q ⊢
      exact q H1 f dk) h), fun env Q Q' k q => s.mono env _ _ (fun c q => by
    cases c with
    | false => exact s'.mono env _ _ k q
    | true => exact k _ q) q⟩
theorem simt_not {t : TT} {a : XB} (s : SimT C Γ t a) : SimT C Γ (tNot t) (bNot a) := ⟨fun σ H env Fs Q I h => s.run σ H env Fs _ I (s.mono env _ _ (fun c q H1 f dk => q H1 f dk) h), fun env Q Q' k q => s.mono env _ _ (fun c q => k _ q) q⟩
def xAnd (a b : X1) : X1 := fun env Q => a env fun d => match d with
  | .bl c => if c = true then b env Q else Q (.bl false)
  | _ => False
def xOr (a b : X1) : X1 := fun env Q => a env fun d => match d with
  | .bl c => if c = true then Q (.bl true) else b env Q
  | _ => False
def xNot (a : X1) : X1 := fun env Q => a env fun d => match d with
  | .bl c => Q (.bl (!c))
  | _ => False
theorem KdOk.back {H0 : Hp} {A : Kd} (f : Fr (Wq C) H0 H) (k : KdOk C Γ Fs H A F) : KdOk C Γ Fs H0 A F := by
  refine ⟨k.1, ?_⟩
  cases A with
  | own => exact ⟨k.2.1, fun a ha => f.there a (k.2.2 a ha)⟩
  | al S => exact k.2
theorem sim_and (s : Sim C Γ ta A m) (s' : Sim C Γ tb B n) : Sim C Γ (tAndV ta tb) B (xAnd m n) := ⟨fun σ H env Fs Q I h => s.run σ H env Fs _ I (s.mono env _ _ (fun d q v H1 F f dk r k => by
    cases r <;> first | skip | exact (show False from q).elim
    all_goals first
      | exact (show False from q).elim
      | (rename_i c
         refine ⟨c, rfl, ?_⟩
         cases c with
         | true => exact s'.run σ H1 env Fs _ (I.step f dk) (s'.mono env _ _ (fun d q v H2 G f2 dk2 r2 k2 => q v H2 G (f.trans f2) dk2 r2 (k2.back f)) q)
         | false => exact q _ H1 [] f dk (.bl _) KdOk.nil)) h), fun env Q Q' k q => s.mono env _ _ (fun d q => by
    cases d <;> first | exact q | skip
    rename_i c
    cases c with
    | true => exact s'.mono env _ _ k q
    | false => exact k _ q) q⟩
theorem sim_not (s : Sim C Γ ta A m) : Sim C Γ (tNotV ta) .own (xNot m) := ⟨fun σ H env Fs Q I h => s.run σ H env Fs _ I (s.mono env _ _ (fun d q v H1 F f dk r k => by
    cases r
    all_goals first
      | exact (show False from q).elim
      | exact ⟨_, rfl, q _ H1 [] f dk (.bl _) KdOk.own_nil⟩) h), fun env Q Q' k q => s.mono env _ _ (fun d q => by
    cases d <;> first | exact q | exact k _ q) q⟩
def xIf (c : XB) (a b : X1) : X1 := fun env Q => c env fun k => if k = true then a env Q else b env Q
def xChain (o o' : O2) (a b c : X1) : X1 := fun env Q => a env fun x => b env fun y => o x y fun z => match z with
  | .bl k => if k = true then c env fun w => o' y w Q else Q (.bl false)
  | _ => False
theorem sim_chain {r r' : R2} {o o' : O2} {tc : TE} {A' : Kd} {mc : X1} (h : SimO2 C.CT r o) (h' : SimO2 C.CT r' o') (s1 : Sim C Γ ta A m) (s2 : Sim C Γ tb B n) (s3 : Sim C Γ tc A' mc) : Sim C Γ (tChain r r' ta tb tc) .own (xChain o o' m n mc) :=
  ⟨fun σ H env Fs Q I q => s1.run σ H env Fs _ I (s1.mono env _ _ (fun x q v H1 F f dk r1 k1 => s2.run σ H1 env Fs _ (I.step f dk) (s2.mono env _ _ (fun y q w H2 G f2 dk2 r2 k2 =>
    h.run H2 v w x y F G _ (r1.keep f2 k1.1.wq) r2 (h.mono x y _ _ (fun z q u H3 P f3 r3 nd3 fr3 => by
      have f13 := (f.trans f2).trans f3.wq
      have dk3 := dk2.keep f3
      cases r3
      all_goals first
        | exact (show False from q).elim
        | (rename_i k
           refine ⟨k, rfl, ?_⟩
           cases k with
           | true =>
             rw [if_pos rfl]
             dsimp only at q
             rw [if_pos rfl] at q
             refine s3.run σ H3 env Fs _ (I.step f13 dk3) (s3.mono env _ _ (fun w' q u' H4 P4 f4 dk4 r4 k4 => ?_) q)
             exact h'.run H4 w u' y w' G P4 Q ((r2.keep f3 fun _ _ z => z).keep f4 k2.1.wq) r4 (h'.mono y w' _ _ (fun x k => fin_new I (f13.trans f4) dk4 k) q)
           | false =>
             rw [if_neg Bool.false_ne_true]
             dsimp only at q
             rw [if_neg Bool.false_ne_true] at q
             exact q _ H3 [] f13 dk3 (.bl _) KdOk.own_nil)) q)) q)) q),
   fun env Q Q' k q => s1.mono env _ _ (fun x q => s2.mono env _ _ (fun y q => h.mono x y _ _ (fun z q => by
    cases z <;> first | exact q | skip
    rename_i c
    cases c with
    | true => exact s3.mono env _ _ (fun w q => h'.mono y w _ _ k q) q
    | false => exact k _ q) q) q) q⟩
end
end Pu
set_option Elab.async false
set_option linter.all false
set_option maxRecDepth 100000
namespace Pu
open PySem PySem.Spec PyProof.Rows L2
def iSeq (K : PySem.W.Frag) (tl : TE) : TI := fun σ H R => tl σ H fun x H1 => ∃ a, x = .ref a ∧ (((∃ xs, SqL K H1 a xs) ∧ R (Itl K a) H1) ∨ ((∃ xs, SqT K H1 a xs) ∧ R (Itt K a) H1))
theorem pi_seq {X : Cx} {tg l : Expr} {tl : TE} (hl : PE X l tl) : PI X tg l (iSeq X.K tl) := by
  refine ⟨fun pins s σ H R I h => ?_⟩
  refine thn (hl.run pins s σ H _ I h) fun v s1 ⟨x, H1, I1, r1, q1⟩ => ?_
  obtain ⟨a, e, q1⟩ := q1
  subst e
  cases r1
  have e0 : ∀ b ∈ [s1.heap.objs.size], FpOk X pins H1 b := fun b hb => by
    have e : b = s1.heap.objs.size := by simpa using hb
    subst e
    exact I1.fpOk (Nat.le_refl _) (I1.hok.fresh (Nat.le_refl _))
  rcases q1 with ⟨⟨xs, hq⟩, q⟩ | ⟨⟨xs, hq⟩, q⟩
  · obtain ⟨its, rv, p, hz⟩ := I1.list hq
    refine wpAny_pyIter_list p.isList ?_
    exact ⟨s1.heap.objs.size, [s1.heap.objs.size], _, _, H1, rfl, I1.kept (t' := s1.toks) fun b o e => Heap.get?_push_of_some _ e, turn_list a _, ⟨_, Heap.get?_push_size _ rfl, rfl, rfl⟩, e0, q⟩
  · obtain ⟨its, rv, p, hz⟩ := I1.tuple hq
    refine wpAny_pyIter_tuple (show s1.heap.IsTuple a its.toArray from p) ?_
    exact ⟨s1.heap.objs.size, [s1.heap.objs.size], _, _, H1, rfl, I1.kept (t' := s1.toks) fun b o e => Heap.get?_push_of_some _ e, turn_tuple a _, ⟨_, Heap.get?_push_size _ rfl, rfl, rfl⟩, e0, q⟩
section
variable {C : Cfg} {Γ Γ' Γn Γl Γo Γt Γe Γ1 Γ2 : List Mo} {σ σ' : L2.St} {H H' H1 H2 : Hp} {env env' : PEnv} {Fs Fs' Fs1 Fs2 : Nat → List Addr} {v : V} {vs : List V} {d : D} {ds : List D} {F G : List Addr} {ta tb te : TE} {A B : Kd} {m n : X1} {K : PySem.W.Frag} {CT : RT}
theorem Rps.getV : ∀ {vs : List V} {ds : List D} {F : List Addr} {j : Nat} {v : V}, Rps CT H vs ds F → vs[j]? = some v → ∃ d G, ds[j]? = some d ∧ Rp CT H v d G ∧ G.Sublist F := fun {vs ds F j v} r e => by
  have hj := (List.getElem?_eq_some_iff.mp e).1
  rw [r.length] at hj
  obtain ⟨v', G, h1, h2, h3⟩ := r.get (List.getElem?_eq_getElem hj)
  rw [e] at h1; cases h1
  exact ⟨_, G, List.getElem?_eq_getElem hj, h2, h3⟩
theorem walk_lst {a : Addr} : Walk CT (Itl K a) (a :: F) (fun H => H a = some (.lst vs) ∧ Rps CT H vs ds F) ds where
  keep := fun W H H' ⟨h, r⟩ f n => ⟨f.keep _ _ h (n _ List.mem_cons_self), r.keep f fun b hb => n b (List.mem_cons_of_mem _ hb)⟩
  there := fun H ⟨h, r⟩ b hb => (Rp.lst h r).tracked b hb
  go := fun i H ⟨h, r⟩ hi => by
    rw [← r.length] at hi
    exact ⟨vs, vs[i], SqL.of h, List.getElem?_eq_getElem hi⟩
  stop := fun H ⟨h, r⟩ => ⟨vs, SqL.of h, by rw [r.length]; exact Nat.le_refl _⟩
  yld := fun i H x H' ⟨h, r⟩ hi ⟨e, y⟩ => by
    subst e
    obtain ⟨d, G, h1, h2, h3⟩ := r.getV (y vs (SqL.of h))
    exact ⟨d, G, h1, Fr.refl, h2, fun b hb => List.mem_cons_of_mem _ (h3.mem hb)⟩
theorem walk_tpl {a : Addr} : Walk CT (Itt K a) F (fun H => H a = some (.tup vs) ∧ Rps CT H vs ds F) ds where
  keep := fun W H H' ⟨h, r⟩ f n => ⟨f.im _ _ h rfl, r.keep f n⟩
  there := fun H ⟨h, r⟩ b hb => r.tracked b hb
  go := fun i H ⟨h, r⟩ hi => by
    rw [← r.length] at hi
    exact ⟨vs, vs[i], SqT.of h, List.getElem?_eq_getElem hi⟩
  stop := fun H ⟨h, r⟩ => ⟨vs, SqT.of h, by rw [r.length]; exact Nat.le_refl _⟩
  yld := fun i H x H' ⟨h, r⟩ hi ⟨e, y⟩ => by
    subst e
    obtain ⟨d, G, h1, h2, h3⟩ := r.getV (y vs (SqT.of h))
    exact ⟨d, G, h1, Fr.refl, h2, fun b hb => h3.mem hb⟩
def mSeq (m : X1) : XL := fun env Q => m env fun d => match d with
  | .lst ds => Q ds
  | .tup ds => Q ds
  | _ => False
theorem simi_seq (s : Sim C Γ te A m) : SimI C Γ (iSeq K te) A (mSeq m) := ⟨fun σ H env Fs R I h => s.run σ H env Fs _ I (s.mono env _ _ (fun d q v H1 F f dk r k => by
    have kd := k.set I
    cases r with
    | lst ha ra => exact ⟨_, rfl, .inl ⟨⟨_, SqL.of ha⟩, q H1 _ _ _ f dk walk_lst ⟨ha, ra⟩ ⟨k.1, kd⟩⟩⟩
    | tup ha ra => exact ⟨_, rfl, .inr ⟨⟨_, SqT.of ha⟩, q H1 _ _ _ f dk walk_tpl ⟨ha, ra⟩ ⟨k.1, kd⟩⟩⟩
    | _ => exact (show False from q).elim) h), fun env Q Q' k q => s.mono env _ _ (fun d q => by cases d <;> first | exact k _ q | exact q) q⟩
def rgD (lo : Int) (n : Nat) : List D := (List.range n).map fun k => .int (lo + (k : Nat))
theorem rgD_len {lo : Int} {n : Nat} : (rgD lo n).length = n := by simp [rgD]
theorem walk_rng {lo : Int} {n : Nat} : Walk CT (Itr lo n) [] (fun _ => True) (rgD lo n) where
  keep := fun _ _ _ _ _ _ => trivial
  there := fun _ _ _ hb => nomatch hb
  go := fun i H _ hi => by rw [rgD_len] at hi; exact hi
  stop := fun H _ => by show n ≤ (rgD lo n).length; rw [rgD_len]; exact Nat.le_refl _
  yld := fun i H x H' _ hi ⟨e, y⟩ => by
    subst e y
    rw [rgD_len] at hi
    refine ⟨.int (lo + (i : Nat)), [], ?_, Fr.refl, .int _, fun _ hb => nomatch hb⟩
    unfold rgD
    rw [List.getElem?_map, List.getElem?_range hi] <;> rfl
def RgOk (i : Int) : Prop := -(2 ^ 62) ≤ i ∧ i < 2 ^ 62
def mRng1 (m : X1) : XL := fun env Q => m env fun d => match d with
  | .int j => RgOk j ∧ Q (rgD 0 j.toNat)
  | _ => False
def mRng2 (m n : X1) : XL := fun env Q => m env fun d => n env fun e => match d, e with
  | .int i, .int j => RgOk i ∧ RgOk j ∧ Q (rgD i (j - i).toNat)
  | _, _ => False
theorem kds_nil {A : Kd} : KdS C Γ Fs A [] := ⟨NoQS.nil, fun _ h => nomatch h⟩
theorem simi_rng1 (s : Sim C Γ te A m) : SimI C Γ (iRng1 (tCons te tNil)) .own (mRng1 m) := ⟨fun σ H env Fs R I h => s.run σ H env Fs _ I (s.mono env _ _ (fun d q v H1 F f dk r k => by
    cases r with
    | int j => exact ⟨j, rfl, q.1.1, q.1.2, q.2 H1 _ _ _ f dk walk_rng trivial kds_nil⟩
    | _ => exact (show False from q).elim) h), fun env Q Q' k q => s.mono env _ _ (fun d q => by cases d <;> first | exact ⟨q.1, k _ q.2⟩ | exact q) q⟩
theorem simi_rng2 (s : Sim C Γ ta A m) (s' : Sim C Γ tb B n) : SimI C Γ (iRng2 (tCons ta (tCons tb tNil))) .own (mRng2 m n) := ⟨fun σ H env Fs R I h => s.run σ H env Fs _ I (s.mono env _ _ (fun d q v H1 F f dk r k =>
    s'.run σ H1 env Fs _ (I.step f dk) (s'.mono env _ _ (fun e q w H2 G f2 dk2 r2 k2 => by
    cases r with
    | int i =>
      cases r2 with
      | int j => exact ⟨i, j, rfl, ⟨q.1.1, q.1.2, q.2.1.1, q.2.1.2⟩, q.2.2 H2 _ _ _ (f.trans f2) dk2 walk_rng trivial kds_nil⟩
      | _ => exact (show False from q).elim
    | _ => exact (show False from q).elim) q)) h), fun env Q Q' k q => s.mono env _ _ (fun d q => s'.mono env _ _ (fun e q => by cases d <;> cases e <;> first | exact ⟨q.1, q.2.1, k _ q.2.2⟩ | exact q) q) q⟩
def enD : Nat → List D → List D
  | _, [] => []
  | i, d :: ds => .tup [.int (i : Nat), d] :: enD (i + 1) ds
theorem enD_len : ∀ (ds : List D) (i : Nat), (enD i ds).length = ds.length
  | [], _ => rfl
  | d :: ds, i => by simp [enD, enD_len ds]
theorem enD_get : ∀ (ds : List D) (k i : Nat) (d : D), ds[i]? = some d → (enD k ds)[i]? = some (.tup [.int ((k + i : Nat) : Int), d])
  | [], _, _, _, h => by simp at h
  | x :: ds, k, 0, d, h => by simp at h; subst h; simp [enD]
  | x :: ds, k, i + 1, d, h => by
    have := enD_get ds (k + 1) i d (by simpa using h)
    simp only [enD, List.getElem?_cons_succ, this]
    congr 4
    omega
theorem walk_enm {a : Addr} : Walk CT (Ite K a) (a :: F) (fun H => H a = some (.lst vs) ∧ Rps CT H vs ds F) (enD 0 ds) where
  keep := fun W H H' ⟨h, r⟩ f n => ⟨f.keep _ _ h (n _ List.mem_cons_self), r.keep f fun b hb => n b (List.mem_cons_of_mem _ hb)⟩
  there := fun H ⟨h, r⟩ b hb => (Rp.lst h r).tracked b hb
  go := fun i H ⟨h, r⟩ hi => by
    rw [enD_len, ← r.length] at hi
    exact ⟨vs, vs[i], SqL.of h, List.getElem?_eq_getElem hi⟩
  stop := fun H ⟨h, r⟩ => ⟨vs, SqL.of h, by rw [enD_len, r.length]; exact Nat.le_refl _⟩
  yld := fun i H x H' ⟨h, r⟩ hi ⟨T, y, e, hT, e', hy⟩ => by
    subst e e'
    obtain ⟨d, G, h1, h2, h3⟩ := r.getV (hy vs (SqL.of h))
    have h4 := enD_get ds 0 i d h1
    rw [Nat.zero_add] at h4
    refine ⟨_, [] ++ (G ++ []), h4, Fr.new hT, .tup upd_same (.cons (.int _) (.cons (h2.keep (W := fun _ => False) (Fr.new hT) fun _ _ z => z) .nil)), fun b hb => ?_⟩
    simp at hb
    exact List.mem_cons_of_mem _ (h3.mem hb)
end
end Pu
set_option Elab.async false
set_option linter.all false
set_option maxRecDepth 100000
namespace Pu
open PySem PySem.Spec PyProof.Rows L2
def wipeG (Γ : List Mo) : List Nat → List Mo
  | [] => Γ
  | v :: vs => (wipeG Γ vs).set v .x
def bYes : XB := fun _ Q => Q true
def lcLoop (b : XG) (mt : XB) (me : X1) (env : PEnv) : List D → List D → (List D → Prop) → Prop
  | [], acc, Q => Q acc
  | d :: ds, acc, Q => b d env fun env1 => mt env1 fun k => if k = true then me env1 fun y => acc.length < sizeLine ∧ lcLoop b mt me env ds (acc ++ [y]) Q else lcLoop b mt me env ds acc Q
def xLc (mi : XL) (b : XG) (mt : XB) (me : X1) : X1 := fun env Q => mi env fun ds => lcLoop b mt me env ds [] fun acc => Q (.lst acc)
section
variable {C : Cfg} {Γ Γ' Γn Γl Γo Γt Γe Γ1 Γ2 Γf : List Mo} {σ σ' : L2.St} {H H' H1 H2 : Hp} {env env' : PEnv} {Fs Fs' Fs1 Fs2 : Nat → List Addr} {v : V} {vs : List V} {d : D} {ds : List D} {F G : List Addr} {ta tb te : TE} {A B : Kd} {m n : X1} {K : PySem.W.Frag} {CT : RT}
theorem simt_yes : SimT C Γ tYes bYes := ⟨fun σ H env Fs Q I h => h H Fr.refl I.dk, fun _ _ _ k q => k _ q⟩
theorem Ok.forget (I : Ok C Γ σ H env Fs) {i : Nat} (fr : Free C i) : Ok C (Γ.set i .x) (σ.set i none) H env Fs := by
  have ne : ∀ {j : Nat} {m : Mo}, (Γ.set i .x)[j]? = some m → m ≠ .x → j ≠ i ∧ Γ[j]? = some m := fun g h => by
    rcases get_set g with ⟨_, e, _⟩ | r
    · exact absurd e h
    · exact r
  have lv : ∀ {m : Mo}, live m → m ≠ .x := fun l e => by rcases l with z | z <;> rw [z] at e <;> cases e
  refine ⟨by simp [I.le], by simp [I.ls], fun j m g l => ?_, fun j g => ?_, fun j g => I.nd j (ne g (by decide)).2, fun j k m g g' l => I.dj j k m (ne g (by decide)).2 (ne g' (lv l)).2 l, fun j m g l => I.nq j m (ne g (lv l)).2 l, I.dk, fun p hp => by
    have ne : i ≠ p.1 := fun e => fr (by rw [e]; exact List.mem_map.mpr ⟨p, hp, rfl⟩)
    rw [List.getElem?_set_ne ne]; exact I.pn p hp, fns_set I.fn fr (fun j n => by rw [List.getElem?_set_ne (Ne.symm n)]) fun _ _ => rfl⟩
  · obtain ⟨n, g⟩ := ne g (lv l)
    obtain ⟨v, d, h1, h2, h3⟩ := I.val j m g l
    exact ⟨v, d, by rw [List.getElem?_set_ne (Ne.symm n)]; exact h1, h2, h3⟩
  · obtain ⟨n, g⟩ := ne g (by decide)
    obtain ⟨p, h1, h2⟩ := I.dice j g
    exact ⟨p, h1, by rw [List.getElem?_set_ne (Ne.symm n)]; exact h2⟩
theorem Ok.wipe (I : Ok C Γ σ H env Fs) : ∀ ks : List Nat, (∀ k ∈ ks, Free C k) → Ok C (wipeG Γ ks) (L2.wipe σ ks) H env Fs
  | [], _ => I
  | k :: ks, h => (I.wipe ks fun j hj => h j (List.mem_cons_of_mem _ hj)).forget (h k List.mem_cons_self)
theorem wipe_eq {ks : List Nat} (hl : σ'.length = σ.length) (h : ∀ j : Nat, j ∉ ks → σ'[j]? = (L2.wipe σ ks)[j]?) (hl2 : σ'.length = (L2.wipe σ ks).length) : L2.wipe σ' ks = L2.wipe σ ks := by
  apply List.ext_getElem?
  intro j
  by_cases hj : j ∈ ks
  · have a : ∀ (τ : L2.St), τ.length = σ.length → (L2.wipe τ ks)[j]? = if j < σ.length then some none else none := fun τ e => by
      clear h hl hl2
      induction ks with
      | nil => exact absurd hj (by simp)
      | cons k ks ih =>
        unfold L2.wipe
        by_cases e2 : j = k
        · subst e2
          rw [List.getElem?_set, if_pos rfl, L2.wipe_length, e]
        · rw [List.getElem?_set_ne (Ne.symm e2)]
          exact ih (by simpa [e2] using hj)
    rw [a σ' hl, a σ rfl]
  · rw [L2.wipe_out hj, h j hj]
theorem Fr.hid {W : Addr → Prop} {p : Addr} {o : HO} (f : Fr W H H1) (h : H p = none) : Fr W H (upd H1 p o) := by
  refine ⟨fun a x e n => ?_, fun a x e n => ?_, fun a e => ?_⟩
  · rw [upd_ne (ne_of_none e h)]; exact f.keep a x e n
  · rw [upd_ne (ne_of_none e h)]; exact f.im a x e n
  · by_cases q : a = p
    · rw [q, upd_same] at e; cases e
    · rw [upd_ne q] at e; exact f.there a e
theorem im_of {H1 : Hp} {p : Addr} {o : HO} (e : H1 p = some o) (hi : Im o = false) : ∀ o', H1 p = some o' → Im o' = false := fun o' e' => by
  rw [e] at e'; cases e'; exact hi
theorem DiceS.upd {p : Addr} {o : HO} (x : DiceOk C H1) (f : Fr (Wq C) H H1) (h : H p = none) (x0 : DiceOk C H) (hi : ∀ o', H1 p = some o' → Im o' = false) : DiceOk C (L2.upd H1 p o) := ⟨fun q e => by
  obtain ⟨o1, u1, h1, h2, r⟩ := (x.dice q e).ex
  exact ⟨o1, u1, by rw [upd_ne (fun z => (x0.dice q e).t1 (by rw [z]; exact h))]; exact h1, by rw [upd_ne (fun z => (x0.dice q e).t2 (by rw [z]; exact h))]; exact h2, r⟩, by
  cases q : H1 p with
  | none => exact tabs_new x.tabs q
  | some o' =>
    refine tabs_upd x.tabs q (hi o' q) (fun t ht z => ?_)
    obtain ⟨ps, e⟩ := tab_at x0.tabs ht
    rw [z, h] at e
    exact (nomatch e), x.sep⟩
theorem Rps.upd {p : Addr} {o u : HO} (r : Rps CT H vs ds F) (h : H p = some u) (hi : Im u = false) (n : p ∉ F) : Rps CT (L2.upd H p o) vs ds F :=
  r.keep (W := fun a => a = p) (Fr.at rfl h hi) fun a ha e => n (e ▸ ha)
theorem Rp.upd {p : Addr} {o u : HO} (r : Rp CT H v d F) (h : H p = some u) (hi : Im u = false) (n : p ∉ F) : Rp CT (L2.upd H p o) v d F :=
  r.keep (W := fun a => a = p) (Fr.at rfl h hi) fun a ha e => n (e ▸ ha)
theorem mono_lcLoop {b : XG} {mt : XB} {me : X1} (hb : ∀ d env Q Q', (∀ e, Q e → Q' e) → b d env Q → b d env Q') (ht : Mono mt) (he : Mono me) : ∀ (ds acc : List D) (Q Q' : List D → Prop), (∀ x, Q x → Q' x) → lcLoop b mt me env ds acc Q → lcLoop b mt me env ds acc Q'
  | [], acc, Q, Q', k, q => k _ q
  | d :: ds, acc, Q, Q', k, q => hb _ _ _ _ (fun e q => ht _ _ _ (fun c q => by
    cases c with
    | true => exact he _ _ _ (fun y q => ⟨q.1, mono_lcLoop hb ht he ds _ Q Q' k q.2⟩) q
    | false => exact mono_lcLoop hb ht he ds acc Q Q' k q) q) q
theorem sim_lc {wi : TI} {g : TG} {tt : TT} {ws ks : List Nat} {mi : XL} {b : XG} {mt : XB} {me : X1} (frs : ∀ k ∈ ws, Free C k) (s : SimI C Γ wi A mi) (hw : wk Γ Γf = true) (hS : noO A.set Γf = true) (sg : SimG C (wipeG Γf ws) Γt ks g b) (hk : ks.all (fun k => decide (k ∈ ws)) = true)
    (st : SimT C Γt tt mt) (se : Sim C Γt te .own me) : Sim C Γ (tLc wi g tt te ws) .own (xLc mi b mt me) :=
  ⟨fun σ H env Fs Q I h => s.run σ H env Fs _ I (s.mono env _ _ (fun ds q H1 J S P f dk wlk p kd Dl hD => by
    have I1 : Ok C (wipeG Γf ws) (L2.wipe σ ws) H1 env Fs := ((I.step f dk).weak hw).wipe ws frs
    have lw : (L2.wipe σ ws).length = σ.length := L2.wipe_length σ ws
    have ho : ∀ j : Nat, (wipeG Γf ws)[j]? = some .o → Γf[j]? = some .o := by
      clear sg hk I1 lw frs
      induction ws with
      | nil => exact fun j g => g
      | cons k ws ih =>
        intro j g
        rcases get_set g with ⟨_, e, _⟩ | ⟨_, g⟩
        · cases e
        · exact ih j g
    refine ⟨fun i m H => m = ds.length - i ∧ i ≤ ds.length ∧ ∃ accV accD F, H Dl = some (.lst accV) ∧ Rps C.CT H accV accD F ∧ Fr (Wq C) H1 H ∧ DiceOk C H ∧ F.Nodup ∧ (∀ a ∈ F, H1 a = none ∧ a ≠ Dl) ∧
      lcLoop b mt me env (ds.drop i) accD (fun acc => ∀ v H' F, Fr (Wq C) _ H' → DiceOk C H' → Rp C.CT H' v (.lst acc) F → KdOk C Γ Fs _ .own F → Q v H'), ⟨ds.length, rfl, Nat.zero_le _, [], [], [], upd_same, .nil, Fr.refl.hid hD, dk.keep (Fr.new hD), List.nodup_nil, (fun _ z => nomatch z), q⟩, ?_⟩
    rintro i m H2 ⟨rfl, hi, accV, accD, F, e2, r2, f2, dk2, nd2, fr2, q2⟩
    have nqS : ∀ a ∈ S, ¬ Wq C a := kd.1.wq
    have p2 : P H2 := wlk.keep _ H1 H2 p f2 nqS
    by_cases hlt : i < ds.length
    · refine .inr ⟨wlk.go i H2 p2 hlt, fun H' => ∃ accV accD F, H' Dl = some (.lst accV) ∧ Rps C.CT H' accV accD F ∧ Fr (Wq C) H1 H' ∧ DiceOk C H' ∧ F.Nodup ∧ (∀ a ∈ F, H1 a = none ∧ a ≠ Dl) ∧
        lcLoop b mt me env (ds.drop (i + 1)) accD (fun acc => ∀ v H' F, Fr (Wq C) _ H' → DiceOk C H' → Rp C.CT H' v (.lst acc) F → KdOk C Γ Fs _ .own F → Q v H'), fun H' hN => ⟨ds.length - (i + 1), by omega, rfl, hlt, hN⟩, fun x H3 y => ?_⟩
      obtain ⟨d, G, e, f3, r3, sub⟩ := wlk.yld i H2 x H3 p2 hlt y
      have hd : ds.drop i = d :: ds.drop (i + 1) := by
        obtain ⟨h1, h2⟩ := List.getElem?_eq_some_iff.mp e
        rw [← h2, List.drop_eq_getElem_cons h1]
      rw [hd] at q2
      have dk3 : DiceOk C H3 := dk2.keep f3
      have f13 : Fr (Wq C) H1 H3 := f2.trans f3.wq
      refine sg.run _ H3 env Fs x d G _ (I1.step f13 dk3) r3 (kd.1.subm sub) (fun a ha j gj hb => ?_) (sg.mono _ _ _ _ (fun env4 q4 σ4 Fs4 I4 o4 fs4 l4 k4 => ⟨?_, ?_⟩) q2)
      · have gj := ho j gj
        exact absurd gj (of_decide_eq_true (List.all_eq_true.mp hS j (kd.2 a (sub a ha) j (wk_o hw gj) hb)))
      · refine wipe_eq (l4.trans lw) (fun j hj => k4 j fun z => hj (of_decide_eq_true (List.all_eq_true.mp hk j z))) l4
      · have e3 : H3 Dl = some (.lst accV) := f3.keep _ _ e2 fun z => z
        have r3' : Rps C.CT H3 accV accD F := r2.keep f3 fun _ _ z => z
        refine st.run σ4 H3 env4 Fs4 _ I4 (st.mono _ _ _ (fun c q5 H5 f5 dk5 => ?_) q4)
        have nqF : ∀ a ∈ F, ¬ Wq C a := (NoQS.new dk fun a ha => (fr2 a ha).1).wq
        have nqD : ¬ Wq C Dl := fun w => wq_there dk w hD
        have e5 : H5 Dl = some (.lst accV) := f5.keep _ _ e3 nqD
        have r5 : Rps C.CT H5 accV accD F := r3'.keep f5 nqF
        have f15 : Fr (Wq C) H1 H5 := f13.trans f5
        cases c with
        | true =>
          rw [if_pos rfl] at q5 ⊢
          refine se.run σ4 H5 env4 Fs4 _ (I4.step f5 dk5) (se.mono _ _ _ (fun y q6 w H6 G6 f6 dk6 r6 k6 => ?_) q5)
          have e6 : H6 Dl = some (.lst accV) := f6.keep _ _ e5 nqD
          have nG : Dl ∉ G6 := fun z => by
            have := k6.2.2 Dl z
            rw [e5] at this; cases this
          have nF : Dl ∉ F := fun z => (fr2 Dl z).2 rfl
          refine ⟨accV, e6, by rw [r5.length]; exact q6.1, accV ++ [w], accD ++ [y], F ++ (G6 ++ []), upd_same, ((r5.keep f6 nqF).upd e6 rfl nF).append (.cons (r6.upd e6 rfl nG) .nil), (f15.trans f6).hid hD, dk6.upd (f15.trans f6) hD dk (im_of e6 rfl), ?_, fun a ha => ?_, q6.2⟩
          · rw [List.append_nil]
            refine List.nodup_append.mpr ⟨nd2, k6.2.1, fun a ha b hb e => ?_⟩
            subst e
            exact r5.tracked a ha (k6.2.2 a hb)
          · rw [List.append_nil] at ha
            rcases List.mem_append.mp ha with ha | ha
            · exact fr2 a ha
            · exact ⟨f15.there a (k6.2.2 a ha), fun z => nG (z ▸ ha)⟩
        | false =>
          rw [if_neg Bool.false_ne_true] at q5 ⊢
          exact ⟨accV, accD, F, e5, r5, f15, dk5, nd2, fr2, q5⟩
    · have e : i = ds.length := by omega
      subst e
      rw [List.drop_length] at q2
      refine .inl ⟨wlk.stop H2 p2, q2 (.ref Dl) H2 (Dl :: F) (f.trans f2) dk2 (.lst e2 r2) ⟨NoQS.new dk fun a ha => ?_, List.nodup_cons.mpr ⟨fun z => (fr2 Dl z).2 rfl, nd2⟩, fun a ha => ?_⟩⟩
      · rcases List.mem_cons.mp ha with z | ha
        · rw [z]; exact hD
        · exact (fr2 a ha).1
      · rcases List.mem_cons.mp ha with z | ha
        · rw [z]; exact f.there _ hD
        · exact f.there _ (fr2 a ha).1) h),
   fun env Q Q' k q => s.mono env _ _ (fun ds q => mono_lcLoop sg.mono st.mono se.mono ds [] _ _ (fun acc q => k _ q) q) q⟩
end
end Pu
set_option Elab.async false
set_option linter.all false
set_option maxRecDepth 100000
namespace Pu
open PySem PySem.Spec PyProof.Rows L2
section
variable {C : Cfg} {Γ Γ' Γn Γl Γo Γt Γe Γ1 Γ2 : List Mo} {σ σ' : L2.St} {H H' H1 H2 : Hp} {env env' : PEnv} {Fs Fs' Fs1 Fs2 : Nat → List Addr} {v : V} {vs : List V} {d : D} {ds : List D} {F G : List Addr} {ta tb tc te : TE} {A B : Kd} {m n mc : X1} {K : PySem.W.Frag} {CT : RT}
structure SimO (C : Cfg) (Γ : List Mo) (t : TO) (m : PEnv → (Option Int → Prop) → Prop) : Prop where
  run : ∀ (σ : L2.St) (H : Hp) (env : PEnv) (Fs : Nat → List Addr) (Q : Option Int → Hp → Prop), Ok C Γ σ H env Fs →
    m env (fun b => ∀ H', Fr (Wq C) H H' → DiceOk C H' → Q b H') → t σ H Q
  mono : Mono m
def pNo : PEnv → (Option Int → Prop) → Prop := fun _ Q => Q none
def pYes (m : X1) : PEnv → (Option Int → Prop) → Prop := fun env Q => m env fun d => match d with
  | .int i => Q (some i)
  | _ => False
theorem simo_no : SimO C Γ tNoPart pNo := ⟨fun σ H env Fs Q I h => h H Fr.refl I.dk, fun _ _ _ k q => k _ q⟩
theorem simo_yes (s : Sim C Γ te A m) : SimO C Γ (tPart te) (pYes m) := ⟨fun σ H env Fs Q I h => s.run σ H env Fs _ I (s.mono env _ _ (fun d q v H1 F f dk r k => by
    cases r <;> first | exact ⟨_, rfl, q H1 f dk⟩ | exact (show False from q).elim) h), fun env Q Q' k q => s.mono env _ _ (fun d q => by cases d <;> first | exact k _ q | exact q) q⟩
def cutD {α : Type} (xs : List α) (lo hi : Option Int) : List α := (xs.drop (HT.sIx xs.length 0 lo)).take (HT.sIx xs.length xs.length hi - HT.sIx xs.length 0 lo)
def rSlU (K : PySem.W.Frag) : V → Option Int → Option Int → Hp → VK → Prop := fun x lo hi H Q => rSlA K x lo hi H Q ∨ rSlL K x lo hi H Q
theorem sl_U {X : Cx} : SlR X (rSlU X.K) := sl_tupA.or sl_list
def xSl (m : X1) (l u : PEnv → (Option Int → Prop) → Prop) : X1 := fun env Q => m env fun d => l env fun lo => u env fun hi => match d with
  | .tup xs => immL xs = true ∧ Q (.tup (cutD xs lo hi))
  | .lst xs => immL xs = true ∧ Q (.lst (cutD xs lo hi))
  | _ => False
theorem cut_whole {xs : List D} {lo hi : Option Int} (h : HT.sIx xs.length 0 lo = 0 ∧ HT.sIx xs.length xs.length hi = xs.length) : cutD xs lo hi = xs := by
  unfold cutD
  rw [h.1, h.2]
  simp
theorem Rps.cut (r : Rps CT H vs ds []) (lo hi : Option Int) : Rps CT H (cutV vs lo hi) (cutD ds lo hi) [] := by
  unfold cutV cutD
  rw [r.length]
  exact (r.drop _).take _
theorem sim_sl {tl th : TO} {l u : PEnv → (Option Int → Prop) → Prop} (s : Sim C Γ te A m) (s1 : SimO C Γ tl l) (s2 : SimO C Γ th u) : Sim C Γ (tSl (rSlU K) te tl th) .own (xSl m l u) :=
  ⟨fun σ H env Fs Q I h => s.run σ H env Fs _ I (s.mono env _ _ (fun d q v H1 F f dk r k => s1.run σ H1 env Fs _ (I.step f dk) (s1.mono env _ _ (fun lo q H2 f2 dk2 => s2.run σ H2 env Fs _ (I.step (f.trans f2) dk2) (s2.mono env _ _ (fun hi q H3 f3 dk3 => by
    have r3 := r.keep (f2.trans f3) k.1.wq
    have ff := f.trans (f2.trans f3)
    cases r3 with
    | tup ha ra =>
      have e := ra.imm q.1
      subst e
      refine .inl ⟨_, _, rfl, SqT.of ha, fun hh => ?_, fun hh p hp => ?_⟩
      · rw [ra.length] at hh
        have := q.2
        rw [cut_whole hh] at this
        exact this _ H3 [] ff dk3 (.tup ha ra) KdOk.own_nil
      · exact q.2 _ _ [] (ff.trans (Fr.new hp)) (dk3.keep (Fr.new hp)) (.tup upd_same ((ra.cut lo hi).keep (W := fun _ => False) (Fr.new hp) fun _ z => nomatch z)) KdOk.own_nil
    | lst ha ra =>
      have e := ra.imm q.1
      subst e
      exact .inr ⟨_, _, rfl, SqL.of ha, fun p hp => q.2 _ _ [p] (ff.trans (Fr.new hp)) (dk3.keep (Fr.new hp)) (.lst upd_same ((ra.cut lo hi).keep (W := fun _ => False) (Fr.new hp) fun _ z => nomatch z)) ⟨NoQS.new dk3 fun a ha => (by rw [List.mem_singleton.mp ha]; exact hp), (by simp), fun a ha => (by rw [List.mem_singleton.mp ha]; exact ff.there p hp)⟩⟩
    | _ => exact (show False from q).elim) q)) q)) h),
   fun env Q Q' k q => s.mono env _ _ (fun d q => s1.mono env _ _ (fun lo q => s2.mono env _ _ (fun hi q => by cases d <;> first | exact ⟨q.1, k _ q.2⟩ | exact q) q) q) q⟩
def oLen : O1 := fun d Q => match d with
  | .lst xs => Q (.int (xs.length : Nat))
  | .tup xs => Q (.int (xs.length : Nat))
  | _ => False
def rLen (K : PySem.W.Frag) : List V → Hp → VK → Prop := fun xs H Q => ∃ p ys, xs = [.ref p] ∧ (SqL K H p ys ∨ SqT K H p ys) ∧ Q (.int ys.length) H
theorem sc_len : SimC1 CT (rLen K) oLen := ⟨fun H v d F Q a q => by
  cases a with
  | lst ha ra => exact ⟨_, _, rfl, .inl (SqL.of ha), by rw [ra.length]; exact New.imm q (.int _)⟩
  | tup ha ra => exact ⟨_, _, rfl, .inr (SqT.of ha), by rw [ra.length]; exact New.imm q (.int _)⟩
  | _ => exact (show False from q).elim, fun d Q Q' k q => by cases d <;> first | exact k _ q | exact q⟩
def rListO (K : PySem.W.Frag) : List V → Hp → VK → Prop := fun xs H Q => ∃ p ys, xs = [.ref p] ∧ (SqL K H p ys ∨ SqT K H p ys) ∧ ∀ l, H l = none → Q (.ref l) (upd H l (.lst ys))
def oList : O1 := fun d Q => match d with
  | .lst xs => immL xs = true ∧ Q (.lst xs)
  | .tup xs => immL xs = true ∧ Q (.lst xs)
  | _ => False
theorem sc_list : SimC1 CT (rListO K) oList := ⟨fun H v d F Q a q => by
  cases a with
  | lst ha ra =>
    have e := ra.imm q.1; subst e
    exact ⟨_, _, rfl, .inl (SqL.of ha), fun l hl => New.at1 q.2 hl (.lst upd_same (ra.keep (W := fun _ => False) (Fr.new hl) fun _ z => nomatch z))⟩
  | tup ha ra =>
    have e := ra.imm q.1; subst e
    exact ⟨_, _, rfl, .inr (SqT.of ha), fun l hl => New.at1 q.2 hl (.lst upd_same (ra.keep (W := fun _ => False) (Fr.new hl) fun _ z => nomatch z))⟩
  | _ => exact (show False from q).elim, fun d Q Q' k q => by cases d <;> first | exact ⟨q.1, k _ q.2⟩ | exact q⟩
def rTupO (K : PySem.W.Frag) : List V → Hp → VK → Prop := fun xs H Q => ∃ p ys, xs = [.ref p] ∧ ((SqL K H p ys ∧ ∀ l, H l = none → Q (.ref l) (upd H l (.tup ys))) ∨ (SqT K H p ys ∧ Q (.ref p) H))
def oTup : O1 := fun d Q => match d with
  | .lst xs => immL xs = true ∧ Q (.tup xs)
  | .tup xs => immL xs = true ∧ Q (.tup xs)
  | _ => False
theorem sc_tup : SimC1 CT (rTupO K) oTup := ⟨fun H v d F Q a q => by
  cases a with
  | lst ha ra =>
    have e := ra.imm q.1; subst e
    exact ⟨_, _, rfl, .inl ⟨SqL.of ha, fun l hl => New.at q.2 hl (.tup upd_same (ra.keep (W := fun _ => False) (Fr.new hl) fun _ z => nomatch z))⟩⟩
  | tup ha ra =>
    have e := ra.imm q.1; subst e
    exact ⟨_, _, rfl, .inr ⟨SqT.of ha, New.imm q.2 (.tup ha ra)⟩⟩
  | _ => exact (show False from q).elim, fun d Q Q' k q => by cases d <;> first | exact ⟨q.1, k _ q.2⟩ | exact q⟩
def oSum : O1 := fun d Q => match d with
  | .lst xs => ∃ ns : List Int, xs = ns.map D.int ∧ Q (.int ns.sum)
  | _ => False
theorem sc_sum : SimC1 CT (rSum K) oSum := ⟨fun H v d F Q a q => by
  cases a with
  | lst ha ra =>
    obtain ⟨ns, rfl, q⟩ := q
    obtain ⟨rfl, _⟩ := ra.ints
    exact ⟨_, _, rfl, SqL.of ha, New.imm q (.int _)⟩
  | _ => exact (show False from q).elim, fun d Q Q' k q => by
  cases d <;> first | exact q | skip
  obtain ⟨ns, e, q⟩ := q
  exact ⟨ns, e, k _ q⟩⟩
def oAny (all : Bool) : O1 := fun d Q => match d with
  | .lst xs => ∃ bs : List Bool, xs = bs.map D.bl ∧ Q (.bl (if all then bs.all id else bs.any id))
  | _ => False
theorem mono_oAny {all : Bool} : Mono1 (oAny all) := fun d Q Q' k q => by
  cases d <;> first | exact q | skip
  obtain ⟨ns, e, q⟩ := q
  exact ⟨ns, e, k _ q⟩
theorem sc_all : SimC1 CT (rAll K) (oAny true) := ⟨fun H v d F Q a q => by
  cases a with
  | lst ha ra =>
    obtain ⟨ns, rfl, q⟩ := q
    obtain ⟨rfl, _⟩ := ra.bls
    exact ⟨_, _, rfl, SqL.of ha, New.imm q (.bl _)⟩
  | _ => exact (show False from q).elim, mono_oAny⟩
def oSortI : O1 := fun d Q => match d with
  | .lst xs => ∃ ns : List Int, xs = ns.map D.int ∧ ∀ ns' : List Int, ns'.Perm ns → ns'.Pairwise (· ≤ ·) → Q (.lst (ns'.map D.int))
  | _ => False
theorem sc_sortI : SimC1 CT (rSortedI K) oSortI := ⟨fun H v d F Q a q => by
  cases a with
  | lst ha ra =>
    obtain ⟨ns, rfl, q⟩ := q
    obtain ⟨rfl, _⟩ := ra.ints
    exact ⟨_, _, rfl, SqL.of ha, fun ns' p h1 h2 hp => New.at1 (q ns' h1 h2) hp (.lst upd_same Rps.of_ints)⟩
  | _ => exact (show False from q).elim, fun d Q Q' k q => by
  cases d <;> first | exact q | skip
  obtain ⟨ns, e, q⟩ := q
  exact ⟨ns, e, fun ns' h1 h2 => k _ (q ns' h1 h2)⟩⟩
def rAbs : List V → Hp → VK → Prop := fun xs H Q => ∃ i, xs = [.int i] ∧ Q (.int (if i < 0 then -i else i)) H
def rInt1 : List V → Hp → VK → Prop := fun xs H Q => (∃ i, xs = [.int i] ∧ Q (.int i) H) ∨ ∃ k, xs = [.bl k] ∧ Q (.int (if k then 1 else 0)) H
def oInt : O1 := fun d Q => match d with
  | .int i => Q (.int i)
  | .bl b => Q (.int (if b then 1 else 0))
  | _ => False
theorem sc_int : SimC1 CT rInt1 oInt := ⟨fun H v d F Q a q => by
  cases a with
  | int i => exact .inl ⟨_, rfl, New.imm q (.int _)⟩
  | bl i => exact .inr ⟨_, rfl, New.imm q (.int _)⟩
  | _ => exact (show False from q).elim, fun d Q Q' k q => by cases d <;> first | exact k _ q | exact q⟩
def rMx2 : List V → Hp → VK → Prop := fun xs H Q => ∃ i j, xs = [.int i, .int j] ∧ Q (.int (if j > i then j else i)) H
def rMn2 : List V → Hp → VK → Prop := fun xs H Q => ∃ i j, xs = [.int i, .int j] ∧ Q (.int (if j < i then j else i)) H
theorem sc_max2 : SimC2 CT rMx2 (oI fun i j => .int (if j > i then j else i)) := ⟨fun H v w d e F G Q a b q => by
  cases a <;> cases b <;> first | exact ⟨_, _, rfl, New.imm q (.int _)⟩ | exact (show False from q).elim, mono_oI⟩
theorem sc_min2 : SimC2 CT rMn2 (oI fun i j => .int (if j < i then j else i)) := ⟨fun H v w d e F G Q a b q => by
  cases a <;> cases b <;> first | exact ⟨_, _, rfl, New.imm q (.int _)⟩ | exact (show False from q).elim, mono_oI⟩
def xLRg1 (m : X1) : X1 := fun env Q => m env fun d => match d with
  | .int j => L2.RgOk 0 j ∧ Q (.lst (rgD 0 (j - 0).toNat))
  | _ => False
def atF (c0 : Nat) (f : Str) : O1 := fun d Q => match d with
  | .obj c gs => c = c0 ∧ (match gs.lookup f with | some x => Q x | none => False)
  | .fz c gs => c = c0 ∧ (match gs.lookup f with | some x => Q x | none => False)
  | _ => False
theorem lookup_F {f : Str} {x : D} : ∀ {fs : List (Str × V)} {gs : List (Str × D)} {F : List Addr}, fs.map (·.1) = gs.map (·.1) → Rps CT H (fs.map (·.2)) (gs.map (·.2)) F → gs.lookup f = some x → ∃ v G, fs.lookup f = some v ∧ Rp CT H v x G ∧ G.Sublist F
  | [], [], _, _, _, h => by simp at h
  | [], _ :: _, _, e, _, _ => by simp at e
  | _ :: _, [], _, e, _, _ => by simp at e
  | (a, p) :: fs, (b, q) :: gs, _, e, .cons (F := F) r rs, h => by
    simp only [List.map_cons, List.cons.injEq] at e
    obtain ⟨e1, e2⟩ := e
    have e1 : a = b := e1
    subst e1
    rw [List.lookup_cons] at h ⊢
    by_cases hf : (f == a) = true
    · rw [hf] at h ⊢
      cases h
      exact ⟨p, F, rfl, r, List.sublist_append_left _ _⟩
    · rw [Bool.not_eq_true] at hf
      rw [hf] at h ⊢
      obtain ⟨v, G, h1, h2, h3⟩ := lookup_F e2 rs h
      exact ⟨v, G, h1, h2, h3.trans (List.sublist_append_right _ _)⟩
theorem sim_fld {c0 : Nat} {f : Str} (hc : Cls K (C.CT c0)) (hn : NoAttr K (C.CT c0) f) (s : Sim C Γ te A m) : Sim C Γ (tFld K te f) A (x1 (atF c0 f) m) :=
  ⟨fun σ H env Fs Q I h => s.run σ H env Fs _ I (s.mono env _ _ (fun d q v H1 F f1 dk r k => by
    cases r with
    | obj ha hk ra =>
      obtain ⟨rfl, q⟩ := q
      cases e : List.lookup f _ with
      | none => rw [e] at q; exact q.elim
      | some x =>
        rw [e] at q
        obtain ⟨v, G, h1, h2, h3⟩ := lookup_F hk ra e
        exact ⟨_, _, _, _, v, rfl, ha, hc, hn, h1, q v H1 G f1 dk h2 (k.sub (h3.trans (List.sublist_cons_self _ _)))⟩
    | fz ha hz hk ra =>
      obtain ⟨rfl, q⟩ := q
      cases e : List.lookup f _ with
      | none => rw [e] at q; exact q.elim
      | some x =>
        rw [e] at q
        obtain ⟨v, G, h1, h2, h3⟩ := lookup_F hk ra e
        exact ⟨_, _, _, _, v, rfl, ha, hc, hn, h1, q v H1 G f1 dk h2 (k.sub h3)⟩
    | _ => exact (show False from q).elim) h),
   mono_x1 (fun d Q Q' k q => by
    cases d with
    | obj c gs =>
      refine ⟨q.1, ?_⟩
      have q2 := q.2
      revert q2
      cases List.lookup f gs with
      | none => exact fun z => z
      | some x => exact k x
    | fz c gs =>
      refine ⟨q.1, ?_⟩
      have q2 := q.2
      revert q2
      cases List.lookup f gs with
      | none => exact fun z => z
      | some x => exact k x
    | _ => exact q) s.mono⟩
def sAug (i : Nat) (o : O2) (m : X1) : XS := fun E env => xVar i env fun d => m env fun e => o d e fun x => E.nx (env.set i (some x))
theorem sim_aug {i : Nat} {mo : Mo} {r : TIp} {o : O2} (fr : Free C i) (g : Γ[i]? = some mo) (l : live mo) (h : SimO2 C.CT r o) (s : Sim C Γ te A m) : SimS C Γl Γ (Γ.set i .o) (tAug i te r) (sAug i o m) :=
  ⟨fun σ H env Fs D E I lk hh => by
    obtain ⟨v, d, h1, h2, h3⟩ := I.val i mo g l
    have hi : i < Γ.length := (List.getElem?_eq_some_iff.mp g).1
    have hh : xVar i env _ := hh
    unfold xVar at hh
    rw [h2] at hh
    refine ⟨v, h1, s.run σ H env Fs _ I (s.mono env _ _ (fun e q w H1 G f dk r2 k2 => ?_) hh)⟩
    refine h.run H1 v w d e (Fs i) G _ (h3.keep f (I.nq i mo g l).wq) r2 (h.mono d e _ _ (fun x q z H2 P f2 r3 nd fr3 => ?_) q)
    have kd : KdOk C Γ Fs H .own P := ⟨NoQS.new dk fr3, nd, fun a ha => f.there a (fr3 a ha)⟩
    refine lk.nx _ H2 _ _ (I.setO (f.trans f2.wq) (dk.keep f2) fr hi r3 kd) ⟨(f.trans f2.wq).mono fun _ w => .inl w, fun j gj a ha => ?_⟩ q
    rcases get_set gj with ⟨rfl, _, _⟩ | ⟨ne, gj⟩
    · rw [setF_same] at ha; exact .inr (kd.2.2 a ha)
    · rw [setF_ne ne] at ha; exact .inl ⟨j, gj, ha⟩,
   fun E E' env p q => mono_var env _ _ (fun d q => s.mono env _ _ (fun e q => h.mono d e _ _ (fun x q => p.1 _ q) q) q) q⟩
theorem Ok.root (I : Ok C Γ σ H env Fs) {i : Nat} (g : Γ[i]? = some .o) {a : Addr} {o u : HO} {d' : D} {F' : List Addr} (hv : σ[i]? = some (some (.ref a))) (ha : H a = some o) (hi : Im o = false) (hm : a ∈ Fs i)
    (r : Rp C.CT (upd H a u) (.ref a) d' F') (nd : F'.Nodup) (sub : ∀ b ∈ F', b ∈ Fs i ∨ ∀ (j : Nat) (m : Mo), Γ[j]? = some m → live m → b ∉ Fs j) (nq : NoQ C F') :
    Ok C Γ σ (upd H a u) (env.set i (some d')) (setF Fs i F') := by
  have fr : Fr (fun b => b = a) H (upd H a u) := Fr.at rfl ha hi
  have hΓ : i < Γ.length := (List.getElem?_eq_some_iff.mp g).1
  refine ⟨by simp [I.le], I.ls, fun j m gj l => ?_, I.dice, fun j gj => ?_, fun j k m gj gk l ne b hb hb' => ?_, fun j m gj l => ?_, I.dk.own (I.nq i _ g (.inl rfl)) hm ha hi, I.pn, fns_own (fns_upd I.fn ha hi) (by assumption) fun j n => setF_ne n⟩
  · by_cases e : j = i
    · subst e
      exact ⟨_, d', hv, by rw [List.getElem?_set_self (by rw [I.le]; exact hΓ)], by rw [setF_same]; exact r⟩
    · obtain ⟨v, d, h1, h2, h3⟩ := I.val j m gj l
      refine ⟨v, d, h1, by rw [List.getElem?_set_ne (Ne.symm e)]; exact h2, ?_⟩
      rw [setF_ne e]
      exact h3.keep fr fun b hb z => I.dj i j m g gj l (Ne.symm e) a hm (z ▸ hb)
  · by_cases e : j = i
    · subst e; rw [setF_same]; exact nd
    · rw [setF_ne e]; exact I.nd j gj
  · by_cases e : j = i
    · subst e
      rw [setF_same] at hb
      rw [setF_ne (Ne.symm ne)] at hb'
      rcases sub b hb with z | z
      · exact I.dj j k m g gk l ne b z hb'
      · exact z k m gk l hb'
    · rw [setF_ne e] at hb
      by_cases e2 : k = i
      · subst e2
        rw [setF_same] at hb'
        rcases sub b hb' with z | z
        · exact I.dj j k .o gj g (.inl rfl) ne b hb z
        · exact z j .o gj (.inl rfl) hb
      · rw [setF_ne e2] at hb'
        exact I.dj j k m gj gk l ne b hb hb'
  · by_cases e : j = i
    · subst e; rw [setF_same]; exact nq
    · rw [setF_ne e]; exact I.nq j m gj l
theorem Lk.root {D : Ends} {E : PEnds} (lk : Lk C Γ Fs H Γ Γl D E) (I : Ok C Γ σ H env Fs) (f : Fr (Wq C) H H1) (dk : DiceOk C H1) {i : Nat} (g : Γ[i]? = some .o) {a : Addr} {o u : HO} {d' : Pu.D} {F F' G : List Addr}
    (hv : σ[i]? = some (some (.ref a))) (ha : H1 a = some o) (hi : Im o = false) (e : Fs i = a :: F) (r : Rp C.CT (L2.upd H1 a u) (.ref a) d' (a :: F')) (nd : F'.Nodup) (na : a ∉ F') (sub : ∀ b ∈ F', b ∈ F ∨ H b = none)
    (q : E.nx (env.set i (some d'))) : D.nx σ (L2.upd H1 a u) := by
  have hm : a ∈ Fs i := by rw [e]; exact List.mem_cons_self
  have hs : ∀ b ∈ a :: F', b ∈ Fs i ∨ H b = none := fun b hb => by
    rcases List.mem_cons.mp hb with z | hb
    · rw [z]; exact .inl hm
    · rcases sub b hb with z | z
      · rw [e]; exact .inl (List.mem_cons_of_mem _ z)
      · exact .inr z
  have nq : NoQ C (a :: F') := (I.nq i _ g (.inl rfl)).grow I.dk hs
  have I1 := I.step f dk
  refine lk.nx σ _ _ _ (I1.root g hv ha hi hm r (List.nodup_cons.mpr ⟨na, nd⟩) (fun b hb => ?_) nq) ⟨?_, fun j gj b hb => ?_⟩ q
  · rcases hs b hb with z | z
    · exact .inl z
    · exact .inr fun j m gj l hb => I.tracked gj l b hb z
  · exact (f.mono fun _ w => .inl w).trans (Fr.at (.inr ⟨i, g, hm⟩) ha hi)
  · by_cases ej : j = i
    · subst ej
      rw [setF_same] at hb
      rcases hs b hb with z | z
      · exact .inl ⟨j, g, z⟩
      · exact .inr z
    · rw [setF_ne ej] at hb; exact .inl ⟨j, gj, hb⟩
def onL (xs : D) (k : List D → Prop) : Prop := match xs with
  | .lst ds => k ds
  | _ => False
theorem onL_mono {d : D} {k k' : List D → Prop} (h : ∀ ds, k ds → k' ds) (q : onL d k) : onL d k' := by cases d <;> first | exact h _ q | exact q
theorem Rp.onL {k : List D → Prop} (r : Rp CT H v d F) (q : onL d k) : ∃ a vs ds F', v = .ref a ∧ d = .lst ds ∧ F = a :: F' ∧ H a = some (.lst vs) ∧ Rps CT H vs ds F' ∧ k ds := by
  cases r with
  | lst ha ra => exact ⟨_, _, _, _, rfl, rfl, rfl, ha, ra, q⟩
  | _ => exact (show False from q).elim
def sApp (i : Nat) (m : X1) : XS := fun E env => xVar i env fun d => onL d fun xs => m env fun e => xs.length < sizeLine ∧ E.nx (env.set i (some (.lst (xs ++ [e]))))
theorem sim_app {i : Nat} (g : Γ[i]? = some .o) (s : Sim C Γ te .own m) : SimS C Γl Γ Γ (tDrop (tBM K "list" rAppend (tVar i) (tCons te tNil))) (sApp i m) :=
  ⟨fun σ H env Fs D E I lk hh => by
    obtain ⟨v, d, h1, h2, h3⟩ := I.val i _ g (.inl rfl)
    have hh : xVar i env _ := hh
    unfold xVar at hh
    rw [h2] at hh
    obtain ⟨a, vs, ds, F, rfl, rfl, eF, ha, ra, hh⟩ := h3.onL hh
    refine ⟨_, h1, .inl ⟨rfl, _, SqL.of ha⟩, s.run σ H env Fs _ I (s.mono env _ _ (fun e q w H1 G f dk r2 k2 => ?_) hh)⟩
    have nqa := I.nq i _ g (.inl rfl)
    rw [eF] at nqa
    have nda := I.nd i g
    rw [eF] at nda
    have ha1 := f.keep _ _ ha (nqa.wq a List.mem_cons_self)
    have ra1 := ra.keep f fun b hb => nqa.wq b (List.mem_cons_of_mem _ hb)
    have nG : a ∉ G := fun z => by
      have := k2.2.2 a z
      rw [ha] at this; cases this
    have nF : a ∉ F := (List.nodup_cons.mp nda).1
    refine ⟨a, vs, w, rfl, rfl, ha1, by rw [ra.length]; exact q.1, lk.root I f dk g h1 ha1 rfl eF (F' := F ++ (G ++ [])) (G := G) (.lst upd_same ((ra1.upd ha1 rfl nF).append (.cons (r2.upd ha1 rfl nG) .nil))) ?_ ?_ (fun b hb => ?_) q.2⟩
    · rw [List.append_nil]
      refine List.nodup_append.mpr ⟨(List.nodup_cons.mp nda).2, k2.2.1, fun b hb c hc z => ?_⟩
      subst z
      exact ra.tracked b hb (k2.2.2 b hc)
    · rw [List.append_nil]
      exact fun z => (List.mem_append.mp z).elim nF nG
    · rw [List.append_nil] at hb
      exact (List.mem_append.mp hb).imp id fun hb => k2.2.2 b hb,
   fun E E' env p q => mono_var env _ _ (fun d q => onL_mono (fun ds q => s.mono env _ _ (fun e q => ⟨q.1, p.1 _ q.2⟩) q) q) q⟩
theorem Rps.set : ∀ {vs : List V} {ds : List D} {F : List Addr} (j : Nat), Rps CT H vs ds F → Rp CT H v d G → ∃ F', Rps CT H (vs.set j v) (ds.set j d) F' ∧ (∀ b ∈ F', b ∈ F ∨ b ∈ G) ∧ ((F ++ G).Nodup → F'.Nodup)
  | _, _, _, _, .nil, _ => ⟨[], .nil, (fun b h => nomatch h), fun _ => List.nodup_nil⟩
  | _, _, _, 0, .cons (F := F1) (G := F2) r rs, q => ⟨G ++ F2, .cons q rs, (fun b h => (List.mem_append.mp h).elim .inr fun h => .inl (List.mem_append_right _ h)), fun n => by
    rw [List.append_assoc] at n
    have n2 := (List.nodup_append.mp n).2.1
    exact (List.perm_append_comm.nodup_iff).mp n2⟩
  | _, _, _, j + 1, .cons (F := F1) (G := F2) r rs, q => by
    obtain ⟨F', h1, h2, h3⟩ := Rps.set j rs q
    refine ⟨F1 ++ F', .cons r h1, fun b h => ?_, fun n => ?_⟩
    · rcases List.mem_append.mp h with h | h
      · exact .inl (List.mem_append_left _ h)
      · exact (h2 b h).imp (List.mem_append_right _) id
    · rw [List.append_assoc] at n
      obtain ⟨n1, n2, n3⟩ := List.nodup_append.mp n
      refine List.nodup_append.mpr ⟨n1, h3 n2, fun x hx y hy e => n3 x hx y ?_ e⟩
      exact List.mem_append.mpr (h2 y hy)
def putD {κ : Type} [DecidableEq κ] (kvs : List (κ × D)) (k : κ) (v : D) : List (κ × D) := if kvs.any fun kv => decide (kv.1 = k) then kvs.map fun kv => if kv.1 = k then (kv.1, v) else kv else kvs ++ [(k, v)]
def setD (d e x : D) (Q : D → Prop) : Prop := match d with
  | .lst xs => (match e with | .int i => (match ixN xs.length i with | some j => Q (.lst (xs.set j x)) | none => False) | _ => False)
  | .dK kvs => (match e.key? with | some k => kvs.length < sizeLine ∧ (kvs.map (·.1)).Nodup ∧ Q (.dK (putD kvs k x)) | none => False)
  | .dT kvs => (match e.tkey? with | some k => kvs.length < sizeLine ∧ (kvs.map (·.1)).Nodup ∧ Q (.dT (putD kvs k x)) | none => False)
  | _ => False
theorem keys_map {κ β : Type} [DecidableEq κ] {k : κ} {x : β} (l : List (κ × β)) : (l.map fun kv => if kv.1 = k then (kv.1, x) else kv).map (·.1) = l.map (·.1) := by
  rw [List.map_map]
  exact List.map_congr_left fun p _ => by show (if p.1 = k then (p.1, x) else p).1 = p.1; split <;> rfl
theorem mono_setD {d e x : D} {Q Q' : D → Prop} (h : ∀ y, Q y → Q' y) (q : setD d e x Q) : setD d e x Q' := by
  cases d with
  | lst xs =>
    cases e with
    | int i =>
      revert q
      unfold setD
      dsimp only
      cases ixN xs.length i with
      | none => exact fun z => z
      | some j => exact h _
    | _ => exact q
  | dK kvs =>
    revert q
    unfold setD
    dsimp only
    cases e.key? with
    | none => exact fun z => z
    | some k => exact fun q => ⟨q.1, q.2.1, h _ q.2.2⟩
  | dT kvs =>
    revert q
    unfold setD
    dsimp only
    cases e.tkey? with
    | none => exact fun z => z
    | some k => exact fun q => ⟨q.1, q.2.1, h _ q.2.2⟩
  | _ => exact q
def sPut (i : Nat) (me mv : X1) : XS := fun E env => mv env fun x => xVar i env fun d => me env fun e => setD d e x fun d' => E.nx (env.set i (some d'))
end
end Pu
set_option Elab.async false
set_option linter.all false
set_option maxRecDepth 100000
namespace Pu
open PySem PySem.Spec PyProof.Rows L2
section
variable {C : Cfg} {Γ Γ' Γn Γl Γo Γt Γe Γ1 Γ2 : List Mo} {σ σ' : L2.St} {H H' H1 H2 : Hp} {env env' : PEnv} {Fs Fs' Fs1 Fs2 : Nat → List Addr} {v : V} {vs : List V} {d : D} {ds : List D} {F G : List Addr} {ta tb tc te : TE} {A B : Kd} {m n mc : X1} {K : PySem.W.Frag} {CT : RT} {S : Stat}
abbrev XI := List D → (List (Str × D) → Prop) → Prop
def SpI (S : Stat) (c : Nat) (mf : XI) : Sp := fun vs H Q _ => ∃ (C : Cfg) (ds : List D) (F : List Addr) (x dx : Addr) (ws : List V), C.toStat = S ∧ C.pin = [(0, .ref x)] ∧ C.fns = [] ∧ vs = .ref x :: ws ∧ H x = some (.ins (S.CT c) dx []) ∧ Rps S.CT H ws ds F ∧ DiceOk C H ∧ NoQ C (x :: F) ∧ x ∉ F ∧
  mf ds (fun gs => ∀ H' G, Fr (fun a => Wq C a ∨ a = x) H H' → DiceOk C H' → Rp S.CT H' (.ref x) (.obj c gs) (x :: G) → (x :: G).Nodup → (∀ a ∈ G, H a = none) → Q .non H')
def mkO (c : Nat) (gs : List (Str × D)) : D := if Fz (gs.map (·.1)) = true then .fz c gs else .obj c gs
theorem mkO_rp {c : Nat} {gs : List (Str × D)} {x : Addr} (r : Rp CT H (.ref x) (.obj c gs) (x :: G)) (nd : (x :: G).Nodup) : ∃ G', Rp CT H (.ref x) (mkO c gs) G' ∧ G'.Nodup ∧ ∀ a ∈ G', a ∈ x :: G := by
  unfold mkO
  split
  · rename_i h
    cases r with
    | obj ha hk ra => exact ⟨G, .fz ha (by rw [hk]; exact h) hk ra, (List.nodup_cons.mp nd).2, fun a m => List.mem_cons_of_mem _ m⟩
  · exact ⟨_, r, nd, fun a m => m⟩
def xMake (c : Nat) (mf : XI) (r : XL) : X1 := fun env Q => r env fun ds => mf ds fun gs => Q (mkO c gs)
def MonoI (mf : XI) : Prop := ∀ ds Q Q', (∀ d, Q d → Q' d) → mf ds Q → mf ds Q'
theorem sim_make {c : Nat} {mf : XI} {t : TA} {r : XL} {Ad : Addr} (hC : C.toStat = S) (hA : S.CT c = Ad) (hm : MonoI mf) (s : SimL C Γ t A r) : Sim C Γ (tMake Ad (SpI S c mf) [] E0 t) .own (xMake c mf r) :=
  ⟨fun σ H env Fs Q I h => s.run σ H env Fs _ I (s.mono env _ _ (fun ds q vs H1 F f dk rr k x dx hx hd ne => by
    subst hC hA
    rw [List.append_nil]
    have hd2 : (upd H1 dx (.own x)) x = none := by rw [upd_ne (Ne.symm ne)]; exact hx
    have fn : Fr (Wq C) H1 (upd (upd H1 dx (.own x)) x (.ins (C.CT c) dx [])) := (Fr.new hd).trans (Fr.new hd2)
    have fn0 : Fr (fun _ => False) H1 (upd (upd H1 dx (.own x)) x (.ins (C.CT c) dx [])) := (Fr.new hd).trans (Fr.new hd2)
    have nx : x ∉ F := fun z => rr.tracked x z hx
    refine ⟨{ C with pin := [(0, .ref x)], fns := [] }, ds, F, x, dx, vs, rfl, rfl, rfl, rfl, upd_same, rr.keep fn k.1.wq, dk.keep fn0, k.1.grow dk (fun b hb => (List.mem_cons.mp hb).elim (fun z => .inr (by rw [z]; exact hx)) .inl), nx, hm ds _ _ (fun gs q H2 G f2 dk2 r2 nd fr => ?_) q⟩
    · have f02 : Fr (Wq C) H1 H2 := ⟨fun a o e n => f2.keep a o (fn.keep a o e n) (fun w => w.elim n fun z => by rw [z, hx] at e; cases e), fun a o e i => f2.im a o (fn.im a o e i) i, fun a e => fn.there a (f2.there a e)⟩
      have fr' : ∀ a ∈ x :: G, H1 a = none := fun a ha => by
        rcases List.mem_cons.mp ha with z | ha
        · rw [z]; exact hx
        · exact fn.there a (fr a ha)
      obtain ⟨G', r3, nd3, sub⟩ := mkO_rp r2 nd
      exact ⟨rfl, q (.ref x) H2 G' (f.trans f02) dk2 r3 ⟨NoQS.new dk (fun a ha => fr' a (sub a ha)), nd3, fun a ha => f.there a (fr' a (sub a ha))⟩⟩) h),
   fun env Q Q' k q => s.mono env _ _ (fun ds q => hm ds _ _ (fun gs q => k _ q) q) q⟩
def putFD (f : Str) (x : D) : List (Str × D) → List (Str × D)
  | [] => [(f, x)]
  | (g, y) :: r => if g = f then (g, x) :: r else (g, y) :: putFD f x r
theorem putF_rps {f : Str} (q : Rp CT H v d G) : ∀ {fs : List (Str × V)} {gs : List (Str × D)} {F : List Addr}, fs.map (·.1) = gs.map (·.1) → Rps CT H (fs.map (·.2)) (gs.map (·.2)) F →
    ∃ F', (putF f v fs).map (·.1) = (putFD f d gs).map (·.1) ∧ Rps CT H ((putF f v fs).map (·.2)) ((putFD f d gs).map (·.2)) F' ∧ (∀ b ∈ F', b ∈ F ∨ b ∈ G) ∧ ((F ++ G).Nodup → F'.Nodup)
  | [], [], _, _, .nil => ⟨G ++ [], rfl, .cons q .nil, (fun b h => by rw [List.append_nil] at h; exact .inr h), fun n => by rw [List.append_nil]; exact n⟩
  | [], _ :: _, _, e, _ => by simp at e
  | _ :: _, [], _, e, _ => by simp at e
  | (a, p) :: fs, (b, w) :: gs, _, e, .cons (F := F1) (G := F2) r rs => by
    simp only [List.map_cons, List.cons.injEq] at e
    obtain ⟨e1, e2⟩ := e
    have e1 : a = b := e1
    subst e1
    by_cases h : a = f
    · unfold putF putFD
      rw [if_pos h, if_pos h]
      refine ⟨G ++ F2, by simp [e2], .cons q rs, (fun b h => (List.mem_append.mp h).elim .inr fun h => .inl (List.mem_append_right _ h)), fun n => ?_⟩
      rw [List.append_assoc] at n
      exact (List.perm_append_comm.nodup_iff).mp (List.nodup_append.mp n).2.1
    · obtain ⟨F', h0, h1, h2, h3⟩ := putF_rps q e2 rs
      unfold putF putFD
      rw [if_neg h, if_neg h]
      refine ⟨F1 ++ F', by simp [h0], .cons r h1, fun b h => ?_, fun n => ?_⟩
      · rcases List.mem_append.mp h with h | h
        · exact .inl (List.mem_append_left _ h)
        · exact (h2 b h).imp (List.mem_append_right _) id
      · rw [List.append_assoc] at n
        obtain ⟨n1, n2, n3⟩ := List.nodup_append.mp n
        exact List.nodup_append.mpr ⟨n1, h3 n2, fun x hx y hy e => n3 x hx y (List.mem_append.mpr (h2 y hy)) e⟩
def onO (c0 : Nat) (d : D) (k : List (Str × D) → Prop) : Prop := match d with
  | .obj c gs => c = c0 ∧ gs.length < 1000 ∧ k gs
  | _ => False
theorem onO_mono {c0 : Nat} {k k' : List (Str × D) → Prop} (h : ∀ ds, k ds → k' ds) (q : onO c0 d k) : onO c0 d k' := by cases d <;> first | exact ⟨q.1, q.2.1, h _ q.2.2⟩ | exact q
def onM (c0 : Nat) (d : D) (k : List (Str × D) → Prop) : Prop := match d with
  | .obj c gs => c = c0 ∧ gs.length < 1000 ∧ Fz (gs.map (·.1)) = false ∧ k gs
  | _ => False
theorem onM_mono {c0 : Nat} {k k' : List (Str × D) → Prop} (h : ∀ ds, k ds → k' ds) (q : onM c0 d k) : onM c0 d k' := by cases d <;> first | exact ⟨q.1, q.2.1, q.2.2.1, h _ q.2.2.2⟩ | exact q
def sSetF (i c0 : Nat) (f : Str) (m : X1) : XS := fun E env => m env fun x => xVar i env fun d => onM c0 d fun gs => E.nx (env.set i (some (.obj c0 (putFD f x gs))))
theorem sim_sfld {i c0 : Nat} {f : Str} (g : Γ[i]? = some .o) (hc : Cls K (C.CT c0)) (hn : NoAttr K (C.CT c0) f) (s : Sim C Γ te .own m) : SimS C Γl Γ Γ (sFld K (tVar i) te f) (sSetF i c0 f m) :=
  ⟨fun σ H env Fs D E I lk hh => s.run σ H env Fs _ I (s.mono env _ _ (fun x q y H1 G f1 dk rx kx => by
    have I1 := I.step f1 dk
    obtain ⟨v, d, h1, h2, h3⟩ := I1.val i _ g (.inl rfl)
    have q : xVar i env _ := q
    unfold xVar at q
    rw [h2] at q
    have ndF := I.nd i g
    have dj : ∀ b ∈ G, b ∉ Fs i := fun b hb z => I.tracked g (.inl rfl) b z (kx.2.2 b hb)
    refine ⟨v, h1, ?_⟩
    generalize eF : Fs i = F at *
    cases h3 with
    | @obj a dx c fs gs F0 ha hk ra =>
      obtain ⟨rfl, lg, nz, q⟩ := q
      obtain ⟨F', h0, h4, h5, h6⟩ := putF_rps (f := f) rx hk ra
      have n1 := List.nodup_cons.mp ndF
      have na : a ∉ F' := fun z => (h5 a z).elim n1.1 fun w => dj a w List.mem_cons_self
      have le := congrArg List.length hk
      rw [List.length_map, List.length_map] at le
      have hz : Im (HO.ins (C.CT c) dx fs) = false := show Fz (fs.map (·.1)) = false by rw [hk]; exact nz
      refine ⟨a, _, dx, fs, rfl, ha, hc, hn, by rw [le]; exact lg, lk.root I f1 dk g (G := G) h1 ha hz eF (.obj upd_same h0 (h4.upd ha hz na)) (h6 (List.nodup_append.mpr ⟨n1.2, kx.2.1, fun b hb c hc z => dj c hc (List.mem_cons_of_mem _ (z ▸ hb))⟩)) na (fun b hb => (h5 b hb).imp id fun z => kx.2.2 b z) q⟩
    | _ => exact (show False from q).elim) hh),
   fun E E' env p q => s.mono env _ _ (fun x q => mono_var env _ _ (fun d q => onM_mono (fun gs q => p.1 _ q) q) q) q⟩
def fnI (N c : Nat) (body : XS) : XI := fun ds Q => body { nx := fun env => xVar 0 env fun d => onO c d Q, rt := fun _ => False } (env0 N (.obj c [] :: ds))
theorem monoI_fn {N c : Nat} {body : XS} (h : ∀ E E' env, PLe E E' → body E env → body E' env) : MonoI (fnI N c body) := fun ds Q Q' k q =>
  h { nx := fun env => xVar 0 env fun d => onO c d Q, rt := fun _ => False } _ _ ⟨fun env z => mono_var env _ _ (fun d q => onO_mono k q) z, fun _ z => z, fun _ z => z, fun _ z => z⟩ q
def GamI (N k : Nat) : List Mo := .o :: (List.replicate k .f ++ List.replicate (N - (k + 1)) .x)
theorem gamI_at {N k i : Nat} {mo : Mo} (h : (GamI N k)[i]? = some mo) : (i = 0 ∧ mo = .o) ∨ (∃ j, i = j + 1 ∧ j < k ∧ mo = .f) ∨ (i ≠ 0 ∧ mo = .x) := by
  cases i with
  | zero => simp [GamI] at h; exact .inl ⟨rfl, h.symm⟩
  | succ j =>
    simp only [GamI, List.getElem?_cons_succ] at h
    by_cases hj : j < k
    · rw [List.getElem?_append_left (by simpa using hj), List.getElem?_replicate, if_pos hj] at h
      cases h
      exact .inr (.inl ⟨j, rfl, hj, rfl⟩)
    · rw [List.getElem?_append_right (by simpa using hj), List.getElem?_replicate] at h
      split at h <;> cases h
      exact .inr (.inr ⟨by simp, rfl⟩)
theorem rps_at : ∀ {vs : List V} {ds : List D} {F : List Addr}, Rps CT H vs ds F → ∃ L : Nat → List Addr, ∀ i : Nat, i < ds.length → ∃ v d, vs[i]? = some v ∧ ds[i]? = some d ∧ Rp CT H v d (L i) ∧ (L i).Sublist F
  | _, _, _, .nil => ⟨fun _ => [], fun i h => by simp at h⟩
  | _, _, _, .cons (F := F) (G := G) r rs => by
    obtain ⟨L, h⟩ := rps_at rs
    refine ⟨fun i => if i = 0 then F else L (i - 1), fun i hi => ?_⟩
    cases i with
    | zero => exact ⟨_, _, rfl, rfl, by simpa using r, by simpa using List.sublist_append_left _ _⟩
    | succ i =>
      obtain ⟨v, d, h1, h2, h3, h4⟩ := h i (by simpa using hi)
      exact ⟨v, d, by simpa using h1, by simpa using h2, by simpa using h3, by simpa using h4.trans (List.sublist_append_right _ _)⟩
def fnI0 (n N c : Nat) (body : XS) : XI := fun ds Q => ds.length = n ∧ fnI N c body ds Q
theorem monoI_fn0 {n N c : Nat} {body : XS} (h : ∀ E E' env, PLe E E' → body E env → body E' env) : MonoI (fnI0 n N c body) := fun ds Q Q' k q => ⟨q.1, monoI_fn h ds Q Q' k q.2⟩
theorem init_body {N : List Str} {c n : Nat} {body : XS} {Γe : List Mo} {t : TS} {Q : VK} {E : XK} (hN : n + 1 ≤ N.length) (he : Γe[0]? = some .o) (hs : ∀ q v, SimS ⟨S, q, [(0, v)], []⟩ [] (GamI N.length n) Γe t body)
    (hsp : SpI S c (fnI0 n N.length c body) vs H Q E) : t { nx := fun _ H' => Q .non H', rt := Q } (L2.start N vs) H := by
  · obtain ⟨C, ds, F, x, dx, ws, hC, hpn, hfn, e, hx, r, dk, nq, nx, ld, q⟩ := hsp
    subst hC e
    obtain ⟨L, hL⟩ := rps_at r
    have lw := r.length
    have I : Ok C (GamI N.length n) (L2.start N (.ref x :: ws)) H (env0 N.length (.obj c [] :: ds)) (fun i => if i = 0 then [x] else L (i - 1)) := by
      refine ⟨?_, ?_, fun i m g l => ?_, fun i g => ?_, fun i g => ?_, fun i j m g g' l ne a ha hb => ?_, fun i m g l => ?_, dk, fun p hp' => ?_, fun p hp' => by rw [hfn] at hp'; cases hp'⟩
      · unfold env0 GamI; simp [ld]
      · unfold L2.start GamI; simp [lw, ld]
      · rcases gamI_at g with ⟨rfl, _⟩ | ⟨j, rfl, hj, _⟩ | ⟨_, z⟩
        · exact ⟨.ref x, .obj c [], rfl, rfl, by simpa using Rp.obj (gs := []) hx rfl .nil⟩
        · obtain ⟨v, d, h1, h2, h3, h4⟩ := hL j (by omega)
          refine ⟨v, d, ?_, ?_, by simpa using h3⟩
          · unfold L2.start
            have hi := (List.getElem?_eq_some_iff.mp h1).1
            simp only [List.map_cons, List.cons_append, List.getElem?_cons_succ]
            rw [List.getElem?_append_left (by simpa using hi), List.getElem?_map, h1] <;> rfl
          · unfold env0
            have hi := (List.getElem?_eq_some_iff.mp h2).1
            simp only [List.map_cons, List.cons_append, List.getElem?_cons_succ]
            rw [List.getElem?_append_left (by simpa using hi), List.getElem?_map, h2] <;> rfl
        · rcases l with e | e <;> rw [z] at e <;> cases e
      · rcases gamI_at g with ⟨_, z⟩ | ⟨_, _, _, z⟩ | ⟨_, z⟩ <;> cases z
      · rcases gamI_at g with ⟨rfl, _⟩ | ⟨_, _, _, z⟩ | ⟨_, z⟩
        · simp
        · cases z
        · cases z
      · rcases gamI_at g with ⟨rfl, _⟩ | ⟨_, _, _, z⟩ | ⟨_, z⟩
        · rcases gamI_at g' with ⟨rfl, _⟩ | ⟨k, rfl, hk, _⟩ | ⟨_, z⟩
          · exact ne rfl
          · obtain ⟨v, d, h1, h2, h3, h4⟩ := hL k (by omega)
            simp at ha hb
            subst ha
            exact nx (h4.mem hb)
          · rcases l with e | e <;> rw [z] at e <;> cases e
        · cases z
        · cases z
      · rcases gamI_at g with ⟨rfl, _⟩ | ⟨j, rfl, hj, _⟩ | ⟨_, z⟩
        · simpa using nq.sub (by simpa using (List.singleton_sublist.mpr List.mem_cons_self : [x].Sublist (x :: F)))
        · obtain ⟨v, d, h1, h2, h3, h4⟩ := hL j (by omega)
          simpa using nq.sub (h4.trans (List.sublist_cons_self _ _))
        · rcases l with e | e <;> rw [z] at e <;> cases e
      · rw [hpn] at hp'
        rw [List.mem_singleton.mp hp']
        rfl
    have own0 : ∀ (i : Nat) (a : Addr), (GamI N.length n)[i]? = some .o → a ∈ (if i = 0 then [x] else L (i - 1)) → a = x := fun i a g ha => by
      rcases gamI_at g with ⟨rfl, _⟩ | ⟨_, _, _, z⟩ | ⟨_, z⟩
      · simpa using ha
      · cases z
      · cases z
    refine (show SimS C [] (GamI N.length n) Γe t body by obtain ⟨st, q0, pin, fns⟩ := C; cases hpn; cases hfn; exact hs q0 _).run _ H _ _ _ { nx := fun env => xVar 0 env fun d => onO c d _, rt := fun _ => False } I ⟨fun σ' H' env' Fs' I' g q => ?_, fun _ _ _ _ _ _ q => q, fun _ _ _ _ _ _ q => q, fun _ _ _ _ _ _ _ _ _ _ q => q.elim⟩ q
    obtain ⟨v, d, h1, h2, h3⟩ := I'.val 0 _ he (.inl rfl)
    have hv : v = .ref x := by
      have := I'.pn (0, .ref x) (by rw [hpn]; simp)
      rw [h1] at this
      exact Option.some.inj (Option.some.inj this)
    subst hv
    have q : xVar 0 env' _ := q
    unfold xVar at q
    rw [h2] at q
    have nd := I'.nd 0 he
    have gr := g.gr 0 he
    generalize Fs' 0 = F2 at *
    cases h3 with
    | obj ha hk ra =>
      obtain ⟨rfl, _, q⟩ := q
      refine q H' _ (g.fr.mono fun a w => ?_) I'.dk (.obj ha hk ra) nd fun a ham => ?_
      · rcases w with w | ⟨i, gi, hm⟩
        · exact .inl w
        · exact .inr (own0 i a gi hm)
      · rcases gr a (List.mem_cons_of_mem _ ham) with ⟨j, gj, hm⟩ | z
        · have := own0 j a gj hm
          subst this
          exact absurd ham (List.nodup_cons.mp nd).1
        · exact z
    | _ => exact (show False from q).elim
end
end Pu
set_option Elab.async false
set_option linter.all false
set_option maxRecDepth 100000
namespace Pu
open PySem PySem.Spec PyProof.Rows L2
theorem rm1 {k : Nat} {A : Around} (hr : Room k A) : A.units + 1 < cLine := by have := hr.un; omega
theorem rm64 {k : Nat} {A : Around} (hr : Room k A) : A.units + 64 < cLine := by have := hr.un; omega
theorem rm65 {k : Nat} {A : Around} (hr : Room k A) : A.units + 65 < cLine := by have := hr.un; omega
class MX {α : Type} (m : PEnv → (α → Prop) → Prop) : Prop where
  mono : Mono m
class MO1 (o : O1) : Prop where
  mono : Mono1 o
class MO2 (o : O2) : Prop where
  mono : Mono2 o
class MG {β : Type} (b : β → PEnv → (PEnv → Prop) → Prop) : Prop where
  mono : ∀ d env Q Q', (∀ e, Q e → Q' e) → b d env Q → b d env Q'
class MS (m : XS) : Prop where
  mono : ∀ {E E' : PEnds} {env : PEnv}, PLe E E' → m E env → m E' env
class MF (mf : XF) : Prop where
  mono : MonoF mf
class MI (mf : XI) : Prop where
  mono : MonoI mf
theorem MS.all {m : XS} [h : MS m] : ∀ E E' env, PLe E E' → m E env → m E' env := fun _ _ _ p q => h.mono p q
section
variable {m n : X1} {a b : XB} {r : XL} {o o' : O2} {p : O1} {s t : XS} {g : XG} {gs : XGs}
instance {i : Nat} : MX (xVar i) := ⟨mono_var⟩
instance {d : D} : MX (xC d) := ⟨mono_c⟩
instance [h : MX m] : MX (xImm m) := ⟨fun env _ _ k q => h.mono env _ _ (fun _ ⟨e, q⟩ => ⟨e, k _ q⟩) q⟩
instance : MX xNil := ⟨mono_nil⟩
instance [h : MX m] [h' : MX r] : MX (xCons m r) := ⟨mono_cons h.mono h'.mono⟩
instance [h : MX r] : MX (xDice r) := ⟨fun env _ _ k q => h.mono env _ _ (fun _ q => k _ q) q⟩
instance [h : MX r] : MX (xTup r) := ⟨fun env _ _ k q => h.mono env _ _ (fun _ q => ⟨q.1, k _ q.2⟩) q⟩
instance [h : MX r] : MX (xLst r) := ⟨fun env _ _ k q => h.mono env _ _ (fun _ q => ⟨q.1, k _ q.2⟩) q⟩
instance [h : MO1 p] [h' : MX m] : MX (x1 p m) := ⟨mono_x1 h.mono h'.mono⟩
instance [h : MO2 o] [h' : MX m] [h'' : MX n] : MX (x2 o m n) := ⟨mono_x2 h.mono h'.mono h''.mono⟩
instance {mf : XF} [h : MF mf] [h' : MX r] : MX (xCall mf r) := ⟨fun env _ _ k q => h'.mono env _ _ (fun ds q => h.mono ds _ _ k q) q⟩
instance {c : Nat} {mf : XI} [h : MI mf] [h' : MX r] : MX (xMake c mf r) := ⟨fun env _ _ k q => h'.mono env _ _ (fun ds q => h.mono ds _ _ (fun _ q => k _ q) q) q⟩
instance [h : MX m] : MX (bTest m) := ⟨mono_bTest h.mono⟩
instance [h : MX a] [h' : MX b] : MX (bAnd a b) := ⟨fun env _ _ k q => h.mono env _ _ (fun c q => by
    cases c with
    | true => exact h'.mono env _ _ k q
    | false => exact k _ q) q⟩
instance [h : MX a] [h' : MX b] : MX (bOr a b) := ⟨fun env _ _ k q => h.mono env _ _ (fun c q => by
    cases c with
    | false => exact h'.mono env _ _ k q
    | true => exact k _ q) q⟩
instance [h : MX a] : MX (bNot a) := ⟨fun env _ _ k q => h.mono env _ _ (fun c q => k _ q) q⟩
instance : MX bYes := ⟨fun _ _ _ k q => k _ q⟩
instance [h : MX m] [h' : MX n] : MX (xAnd m n) := ⟨fun env _ _ k q => h.mono env _ _ (fun d q => by
    cases d <;> first | exact q | skip
    rename_i c
    cases c with
    | true => exact h'.mono env _ _ k q
    | false => exact k _ q) q⟩
instance [h : MX m] [h' : MX n] : MX (xOr m n) := ⟨fun env _ _ k q => h.mono env _ _ (fun d q => by
    cases d <;> first | exact q | skip
    rename_i c
    cases c with
    | false => exact h'.mono env _ _ k q
    | true => exact k _ q) q⟩
instance [h : MX m] : MX (xNot m) := ⟨fun env _ _ k q => h.mono env _ _ (fun d q => by cases d <;> first | exact q | exact k _ q) q⟩
instance [h : MX a] [h' : MX m] [h'' : MX n] : MX (xIf a m n) := ⟨fun env _ _ k q => h.mono env _ _ (fun c q => by
    cases c with
    | true => exact h'.mono env _ _ k q
    | false => exact h''.mono env _ _ k q) q⟩
instance {c : X1} [h : MO2 o] [h0 : MO2 o'] [h1 : MX m] [h2 : MX n] [h3 : MX c] : MX (xChain o o' m n c) := ⟨fun env _ _ k q => h1.mono env _ _ (fun x q => h2.mono env _ _ (fun y q => h.mono x y _ _ (fun z q => by
    cases z <;> first | exact q | skip
    rename_i c
    cases c with
    | true => exact h3.mono env _ _ (fun w q => h0.mono y w _ _ k q) q
    | false => exact k _ q) q) q) q⟩
instance : MX pNo := ⟨fun _ _ _ k q => k _ q⟩
instance [h : MX m] : MX (pYes m) := ⟨fun env _ _ k q => h.mono env _ _ (fun d q => by cases d <;> first | exact k _ q | exact q) q⟩
instance {l u : PEnv → (Option Int → Prop) → Prop} [h : MX m] [h1 : MX l] [h2 : MX u] : MX (xSl m l u) := ⟨fun env _ _ k q => h.mono env _ _ (fun d q => h1.mono env _ _ (fun lo q => h2.mono env _ _ (fun hi q => by cases d <;> first | exact ⟨q.1, k _ q.2⟩ | exact q) q) q) q⟩
instance [h : MX m] : MX (xLRg1 m) := ⟨fun env _ _ k q => h.mono env _ _ (fun d q => by cases d <;> first | exact ⟨q.1, k _ q.2⟩ | exact q) q⟩
instance {mi : XL} {mt : XB} {me : X1} [h : MX mi] [h1 : MG g] [h2 : MX mt] [h3 : MX me] : MX (xLc mi g mt me) := ⟨fun env _ _ k q => h.mono env _ _ (fun ds q => mono_lcLoop h1.mono h2.mono h3.mono ds [] _ _ (fun _ q => k _ q) q) q⟩
instance [h : MX m] : MX (mSeq m) := ⟨fun env _ _ k q => h.mono env _ _ (fun d q => by cases d <;> first | exact k _ q | exact q) q⟩
instance [h : MX m] : MX (mRng1 m) := ⟨fun env _ _ k q => h.mono env _ _ (fun d q => by cases d <;> first | exact ⟨q.1, k _ q.2⟩ | exact q) q⟩
instance [h : MX m] [h' : MX n] : MX (mRng2 m n) := ⟨fun env _ _ k q => h.mono env _ _ (fun d q => h'.mono env _ _ (fun e q => by cases d <;> cases e <;> first | exact ⟨q.1, q.2.1, k _ q.2.2⟩ | exact q) q) q⟩
instance {i : Nat} : MG (bName i) := ⟨fun _ _ _ _ k q => k _ q⟩
instance : MG bNil := ⟨fun d _ _ _ k q => by cases d <;> first | exact k _ q | exact q⟩
instance [h : MG g] [h' : MG gs] : MG (bCons g gs) := ⟨fun d _ _ _ k q => by
  cases d with
  | nil => exact q
  | cons d ds => exact h.mono _ _ _ _ (fun e q => h'.mono _ _ _ _ k q) q⟩
instance {n : Nat} [h : MG gs] : MG (bTup n gs) := ⟨fun d _ _ _ k q => by cases d <;> first | exact ⟨q.1, h.mono _ _ _ _ k q.2⟩ | exact q⟩
instance : MO2 oAdd := ⟨mono_oAdd⟩
instance {f : Int → Int → D} : MO2 (oI f) := ⟨mono_oI⟩
instance {c : Int → Int → Prop} {f : Int → Int → D} : MO2 (oIc c f) := ⟨mono_oIc⟩
instance : MO2 oEq := ⟨fun _ _ _ _ k q => ⟨q.1, q.2.1, k _ q.2.2⟩⟩
instance : MO2 oNe := ⟨fun _ _ _ _ k q => ⟨q.1, q.2.1, k _ q.2.2⟩⟩
instance : MO2 oIsN := ⟨fun _ _ _ _ k q => ⟨q.1, k _ q.2⟩⟩
instance : MO2 oNotN := ⟨fun _ _ _ _ k q => ⟨q.1, k _ q.2⟩⟩
instance {b : Bool} : MO2 (oIsB b) := ⟨fun d e _ _ k q => by cases d <;> cases e <;> first | exact k _ q | exact q⟩
instance : MO2 oIx := ⟨mono_oIx⟩
instance {b : Bool} : MO2 (oIn b) := ⟨mono_oIn⟩
instance : MO1 oLen := ⟨(sc_len (CT := rt0) (K := default)).mono⟩
end
end Pu
set_option Elab.async false
set_option linter.all false
set_option maxRecDepth 100000
namespace Pu
open PySem PySem.Spec PyProof.Rows L2
section
variable {C : Cfg} {Γ Γ' Γn Γl Γo Γt Γe Γ1 Γ2 : List Mo} {σ σ' : L2.St} {H H' H1 H2 : Hp} {env env' : PEnv} {Fs Fs' Fs1 Fs2 : Nat → List Addr} {v : V} {vs : List V} {d : D} {ds : List D} {F G : List Addr} {ta tb tc te : TE} {A B : Kd} {m n mc : X1} {K : PySem.W.Frag} {CT : RT} {S : Stat}
def sAsgG (b : XG) (m : X1) : XS := fun E env => m env fun d => b d env E.nx
theorem init_ok0 {P : Program} {w : World} {mg : Str → Option Value} {base : Heap} {x qual : Str} {st : Stmt} {f : Addr} {fd : FuncData} {N ps : List Str} {k c n : Nat} {body : XS} {Γe : List Mo}
    (Fn : L2.Fun K x qual st f fd) (Sc : FnScope N ps (defScope st)) (hp : n + 1 = ps.length) (hN : n + 1 ≤ N.length) (he : Γe[0]? = some .o)
    (hbody : ∀ (cdv : Value) (A : Around) (outer : List Env) (s : Shared) (H : Hp) (E : XK), Room k (A.deeper (envOfC qual (defScope st) s.heap.objs.size f cdv)) →
      ∃ t, PSs (cxOf CX0 P w K mg base N qual (defScope st) f cdv A outer s H E).nox (defBody st) t ∧ ∀ q v, SimS ⟨S, q, [(0, v)], []⟩ [] (GamI N.length n) Γe t body) :
    FnOk P w K mg base CX0 (k + 1) f fd ps (SpI S c (fnI0 n N.length c body)) := by
  refine Fn.ok Sc (fun vs H Q E ⟨C, ds, F, x, dx, ws, _, _, _, e, _, r, _, _, _, q⟩ => ?_) (fun cdv A outer s H vs Q E hr hsp => ?_)
  · rw [e, List.length_cons, r.length, q.1, hp]
  · obtain ⟨t, ht, hs⟩ := hbody cdv A outer s H E hr
    exact ⟨t, ht, init_body hN he hs hsp⟩
def ipAddU : TIp := fun x y H Q => (∃ i j, x = .int i ∧ y = .int j ∧ Q (.int (i + j)) H) ∨ ∃ i j, x = .str i ∧ y = .str j ∧ i.length + j.length ≤ sizeLine ∧ Q (.str (i ++ j)) H
theorem ip_addU {X : Cx} : PIp X .Add ipAddU := by
  intro pins s σ H x y v u Q I rx ry h
  rcases h with h | h
  · exact iop_add pins s σ H x y v u Q I rx ry h
  · exact iop_add_str pins s σ H x y v u Q I rx ry h
def oAdd1 : O2 := fun d e Q => match d, e with
  | .int i, .int j => Q (.int (i + j))
  | .str x, .str y => x.length + y.length ≤ sizeLine ∧ Q (.str (x ++ y))
  | _, _ => False
theorem so_add1 : SimO2 CT ipAddU oAdd1 := ⟨fun H v w d e F G Q a b q => by
  cases a with
  | int i => cases b <;> first | exact .inl ⟨_, _, rfl, rfl, New.imm q (.int _)⟩ | exact (show False from q).elim
  | str x => cases b <;> first | exact .inr ⟨_, _, rfl, rfl, q.1, New.imm q.2 (.str _)⟩ | exact (show False from q).elim
  | _ => exact (show False from q).elim, fun d e Q Q' k q => by cases d <;> cases e <;> first | exact k _ q | exact ⟨q.1, k _ q.2⟩ | exact q⟩
def rGetU (K : PySem.W.Frag) : R2 := fun x y H Q => rIxL K x y H Q ∨ ∃ a v, x = .ref a ∧ DGet H a y (some v) ∧ Q v H
def oGet : O2 := fun d e Q => match d with
  | .lst _ => oIx d e Q
  | .dK _ => oIx d e Q
  | .dT _ => oIx d e Q
  | _ => False
theorem so_get : SimPart CT (rGetU K) oGet := ⟨fun H v w d e F G Q a b q => by
  cases a with
  | lst ha ra =>
    cases b with
    | int i =>
      obtain ⟨v', d', P, h1, h2, h3, h4⟩ := ra.atI q
      exact .inl ⟨_, _, _, _, rfl, rfl, SqL.of ha, h1, h2 v' P h3 (h4.trans (List.sublist_cons_self _ _))⟩
    | _ => exact (show False from q).elim
  | dK ha hk ra =>
    have q : oIx (.dK _) e _ := q
    unfold oIx at q
    dsimp only at q
    cases ek : e.key? with
    | none => rw [ek] at q; exact q.elim
    | some k =>
      rw [ek] at q
      rcases look_val k hk ra with ⟨g1, _⟩ | ⟨x, v, P, g1, g2, g3, g4⟩
      · simp only [g1] at q
      · simp only [g1] at q
        exact .inr ⟨_, v, rfl, .inl ⟨_, k, .inl ha, b.key ek, g2.symm⟩, q v P g3 (g4.trans (List.sublist_cons_self _ _))⟩
  | dT ha hk ra =>
    have q : oIx (.dT _) e _ := q
    unfold oIx at q
    dsimp only at q
    cases ek : e.tkey? with
    | none => rw [ek] at q; exact q.elim
    | some k =>
      rw [ek] at q
      obtain ⟨b', eb, hb⟩ := b.tkey ek
      rcases look_val k hk ra with ⟨g1, _⟩ | ⟨x, v, P, g1, g2, g3, g4⟩
      · simp only [g1] at q
      · simp only [g1] at q
        exact .inr ⟨_, v, rfl, .inr ⟨_, k, b', .inl ha, eb, hb, g2.symm⟩, q v P g3 (g4.trans (List.sublist_cons_self _ _))⟩
  | _ => exact (show False from q).elim, fun d e Q Q' k q => by
  cases d with
  | lst xs => exact mono_oIx (.lst xs) e Q Q' k q
  | dK xs => exact mono_oIx (.dK xs) e Q Q' k q
  | dT xs => exact mono_oIx (.dT xs) e Q Q' k q
  | _ => exact q⟩
def sAugS (i : Nat) (me mv : X1) : XS := fun E env => xVar i env fun d => me env fun e => oGet d e fun old => mv env fun w => oAdd1 old w fun z => setD d e z fun d' => E.nx (env.set i (some d'))
end
end Pu
set_option Elab.async false
set_option linter.all false
set_option maxRecDepth 100000
namespace Pu
open PySem PySem.Spec PyProof.Rows L2
section
variable {m n : X1} {a b : XB} {r : XL} {o o' : O2} {p : O1} {s t : XS} {g : XG} {gs : XGs}
instance : MO1 oList := ⟨(sc_list (CT := rt0) (K := default)).mono⟩
instance : MO1 oTup := ⟨(sc_tup (CT := rt0) (K := default)).mono⟩
instance : MO1 oSum := ⟨(sc_sum (CT := rt0) (K := default)).mono⟩
instance {x : Bool} : MO1 (oAny x) := ⟨mono_oAny⟩
instance : MO1 oSortI := ⟨(sc_sortI (CT := rt0) (K := default)).mono⟩
instance : MO1 oInt := ⟨(sc_int (CT := rt0)).mono⟩
instance {c : Nat} {f : Str} : MO1 (atF c f) := ⟨fun d Q Q' k q => by
    cases d with
    | obj c gs =>
      refine ⟨q.1, ?_⟩
      have q2 := q.2
      revert q2
      cases List.lookup f gs with
      | none => exact fun z => z
      | some x => exact k x
    | fz c gs =>
      refine ⟨q.1, ?_⟩
      have q2 := q.2
      revert q2
      cases List.lookup f gs with
      | none => exact fun z => z
      | some x => exact k x
    | _ => exact q⟩
instance : MO2 oAdd1 := ⟨(so_add1 (CT := rt0)).mono⟩
instance : MO2 oGet := ⟨(so_get (CT := rt0) (K := default)).mono⟩
instance : MS sNext := ⟨fun p q => p.1 _ q⟩
instance [h : MS s] [h' : MS t] : MS (sSeq s t) := ⟨fun {E E' env} p q => h.mono (E := { E with nx := t E }) (E' := { E' with nx := t E' }) ⟨fun _ q => h'.mono p q, p.2.1, p.2.2.1, p.2.2.2⟩ q⟩
instance {i : Nat} [h : MX m] : MS (sSet i m) := ⟨fun p q => h.mono _ _ _ (fun _ q => p.1 _ q) q⟩
instance [h : MX a] [h1 : MS s] [h2 : MS t] : MS (sIf a s t) := ⟨fun p q => h.mono _ _ _ (fun k q => by
    cases k with
    | true => exact h1.mono p q
    | false => exact h2.mono p q) q⟩
instance [h : MX m] : MS (sRet m) := ⟨fun p q => h.mono _ _ _ p.2.1 q⟩
instance [h : MX m] : MS (sDrop m) := ⟨fun p q => h.mono _ _ _ (fun _ q => p.1 _ q) q⟩
instance : MS sNever := ⟨fun _ q => q⟩
instance : MS sBreak := ⟨fun p q => p.2.2.1 _ q⟩
instance : MS sCont := ⟨fun p q => p.2.2.2 _ q⟩
instance {mi : XL} [h : MX mi] [h1 : MG g] [h2 : MS s] : MS (sFor mi g s) := ⟨fun {E E' env} p q => h.mono _ _ _ (fun ds q => mono_sLoop h1.mono (MS.all (m := s)) ds E E' env p q) q⟩
instance [h : MX a] [h2 : MS s] : MS (sWhile a s) := ⟨fun {E E' env} p q => by
    obtain ⟨W, w0, hs⟩ := q
    refine ⟨W, w0, fun n env w => h.mono _ _ _ (fun k q => ?_) (hs n env w)⟩
    cases k with
    | true =>
      rw [if_pos rfl] at q ⊢
      exact h2.mono (E := { nx := fun env' => ∃ n', n' < n ∧ W n' env', rt := E.rt, bk := E.nx, ct := fun env' => ∃ n', n' < n ∧ W n' env' }) ⟨fun _ z => z, p.2.1, p.1, fun _ z => z⟩ q
    | false =>
      rw [if_neg Bool.false_ne_true] at q ⊢
      exact p.1 _ q⟩
instance {i : Nat} [h : MO2 o] [h' : MX m] : MS (sAug i o m) := ⟨fun p q => mono_var _ _ _ (fun d q => h'.mono _ _ _ (fun e q => h.mono d e _ _ (fun x q => p.1 _ q) q) q) q⟩
instance {i : Nat} [h' : MX m] : MS (sApp i m) := ⟨fun p q => mono_var _ _ _ (fun d q => onL_mono (fun ds q => h'.mono _ _ _ (fun e q => ⟨q.1, p.1 _ q.2⟩) q) q) q⟩
instance {i : Nat} [h : MX m] [h' : MX n] : MS (sPut i m n) := ⟨fun p q => h'.mono _ _ _ (fun x q => mono_var _ _ _ (fun d q => h.mono _ _ _ (fun e q => mono_setD (fun y q => p.1 _ q) q) q) q) q⟩
instance {i c : Nat} {f : Str} [h : MX m] : MS (sSetF i c f m) := ⟨fun p q => h.mono _ _ _ (fun x q => mono_var _ _ _ (fun d q => onM_mono (fun gs q => p.1 _ q) q) q) q⟩
instance [h : MX m] [h' : MG g] : MS (sAsgG g m) := ⟨fun p q => h.mono _ _ _ (fun d q => h'.mono _ _ _ _ p.1 q) q⟩
instance {i : Nat} [h : MX m] [h' : MX n] : MS (sAugS i m n) := ⟨fun p q => mono_var _ _ _ (fun d q => h.mono _ _ _ (fun e q => MO2.mono (o := oGet) d e _ _ (fun old q => h'.mono _ _ _ (fun w q => MO2.mono (o := oAdd1) old w _ _ (fun z q => mono_setD (fun y q => p.1 _ q) q) q) q) q) q) q⟩
end
end Pu
set_option Elab.async false
set_option linter.all false
set_option maxRecDepth 100000
namespace Pu
open PySem PySem.Spec PyProof.Rows L2
section
variable {X : Cx} {K : PySem.W.Frag}
theorem k_add (h : X.K = K) : OpR X (binaryOp .Add) (rAddU K) := h ▸ op_addU
theorem k_eq (h : X.K = K) (hu : X.A.units + 64 < cLine) : OpR X (compareOp .Eq) (rEqD K) := h ▸ op_eqD hu
theorem k_ne (h : X.K = K) (hu : X.A.units + 64 < cLine) : OpR X (compareOp .NotEq) (rNeD K) := h ▸ op_neD hu
theorem k_in (h : X.K = K) (hu : X.A.units + 65 < cLine) : OpR X (compareOp .In) (rInU K) := h ▸ op_inU hu
theorem k_notIn (h : X.K = K) (hu : X.A.units + 65 < cLine) : OpR X (compareOp .NotIn) (rNotInU K) := h ▸ op_notInU hu
theorem k_ix (h : X.K = K) (hu : X.A.units + 1 < cLine) : IxR X (rIxU K) := h ▸ ix_U hu
theorem k_sl (h : X.K = K) : SlR X (rSlU K) := h ▸ sl_U
theorem k_seq {tg l : Expr} {tl : TE} (h : X.K = K) (hl : PE X l tl) : PI X tg l (iSeq K tl) := h ▸ pi_seq hl
theorem k_fld {e : Expr} {f : Str} {pos : Pos} {ta : TE} (h : X.K = K) (he : PE X e ta) (hb : attributeBase e f X.env (eval e X.env) = eval e X.env) : PE X (.Attribute e f pos) (tFld K ta f) := h ▸ pe_fld he hb
theorem k_len (h : X.K = K) : CallR X (.builtin "len") (rLen K) := h ▸ call_len_seq
theorem k_tuple (h : X.K = K) : CallR X (.type "tuple") (rTupO K) := h ▸ call_tuple_of
theorem k_sum (h : X.K = K) (hc : X.calm = true) : CallR X (.builtin "sum") (rSum K) := h ▸ cr_sum hc
theorem k_all (h : X.K = K) (hc : X.calm = true) : CallR X (.builtin "all") (rAll K) := h ▸ cr_all hc
end
end Pu
set_option Elab.async false
set_option linter.all false
set_option maxRecDepth 100000
namespace Pu
open PySem PySem.Spec PyProof.Rows L2
section
variable {C : Cfg} {Γ Γ' Γn Γl Γo Γt Γe Γ1 Γ2 : List Mo} {σ σ' : L2.St} {H H' H1 H2 : Hp} {env env' : PEnv} {Fs Fs' Fs1 Fs2 : Nat → List Addr} {v : V} {vs : List V} {d : D} {ds : List D} {F G : List Addr} {ta tb tc te : TE} {A B : Kd} {m n mc : X1} {K : PySem.W.Frag} {CT : RT} {S : Stat} {X : Cx}
def D.ty : D → Option String
  | .non => some "NoneType"
  | .bl _ => some "bool"
  | .int _ => some "int"
  | .str _ => some "str"
  | .tup _ => some "tuple"
  | .lst _ => some "list"
  | .dK _ => some "dict"
  | .dT _ => some "dict"
  | .obj _ _ => none
  | .fz _ _ => none
  | .dN _ => none
  | .clo _ _ => none
def subB (t c : String) : Bool := t == c || (t == "bool" && c == "int")
def oIsA (c : String) : O1 := fun d Q => match d.ty with
  | some t => Q (.bl (subB t c))
  | none => False
class KitB (c : String) : Prop where
  h : ∀ (K : PySem.W.Frag) (d : D) (t : String), d.ty = some t → PySem.W.kitOne K (.type t) (.type c) = some (subB t c)
instance : KitB "int" := ⟨fun K d t h => by cases d <;> simp [D.ty] at h <;> subst h <;> rfl⟩
instance : KitB "bool" := ⟨fun K d t h => by cases d <;> simp [D.ty] at h <;> subst h <;> rfl⟩
instance : KitB "str" := ⟨fun K d t h => by cases d <;> simp [D.ty] at h <;> subst h <;> rfl⟩
instance : KitB "tuple" := ⟨fun K d t h => by cases d <;> simp [D.ty] at h <;> subst h <;> rfl⟩
instance : KitB "list" := ⟨fun K d t h => by cases d <;> simp [D.ty] at h <;> subst h <;> rfl⟩
instance : KitB "dict" := ⟨fun K d t h => by cases d <;> simp [D.ty] at h <;> subst h <;> rfl⟩
theorem Rp.ty {t : String} (r : Rp CT H v d F) (h : d.ty = some t) : TyX K H v (.type t) := by
  cases r <;> simp [D.ty] at h <;> subst h
  · exact .base .non
  · exact .base (.bl _)
  · exact .base (.int _)
  · exact .base (.str _)
  · exact .base (.tup (by assumption))
  · exact .base (.lst (by assumption))
  · exact .base (.dK (by assumption))
  · exact .base (.dT (by assumption))
theorem k_isa (h : X.K = K) : CallR X (.builtin "isinstance") (rIsi K) := h ▸ call_isi
theorem mono_oIsA {c : String} : Mono1 (oIsA c) := fun d Q Q' k q => by cases d <;> first | exact k _ q | exact q
theorem sim_isa {c : String} [kc : KitB c] (s : Sim C Γ te A m) : Sim C Γ (tCB (rIsi K) (tCons te (tCons (tC (.ty c)) tNil))) .own (x1 (oIsA c) m) :=
  ⟨fun σ H env Fs Q I h => s.run σ H env Fs _ I (s.mono env _ _ (fun d q v H1 F f dk r k => by
    cases e : d.ty with
    | none => unfold oIsA at q; rw [e] at q; exact q.elim
    | some t =>
      unfold oIsA at q; rw [e] at q
      exact ⟨v, .ty c, .type t, .type c, subB t c, rfl, .ty c, r.ty e, kc.h K d t e, q _ H1 [] f dk (.bl _) KdOk.own_nil⟩) h), mono_x1 mono_oIsA s.mono⟩
instance {c : String} : MO1 (oIsA c) := ⟨mono_oIsA⟩
theorem sim_dnewK : Sim C Γ tDNewK .own (xC (.dK [])) := ⟨fun σ H env Fs Q I h p hp => h (.ref p) _ [p] (Fr.new hp) (I.dk.keep (Fr.new hp)) (.dK upd_same rfl .nil) ⟨NoQS.new I.dk fun a ha => by rw [List.mem_singleton.mp ha]; exact hp, by simp, fun a ha => by rw [List.mem_singleton.mp ha]; exact hp⟩, mono_c⟩
end
end Pu
set_option Elab.async false
set_option linter.all false
set_option maxRecDepth 100000
namespace Pu
open PySem PySem.Spec PyProof.Rows L2
section
variable {C : Cfg} {Γ Γ' Γn Γl Γo Γt Γe Γ1 Γ2 : List Mo} {σ σ' : L2.St} {H H' H1 H2 : Hp} {env env' : PEnv} {Fs Fs' Fs1 Fs2 : Nat → List Addr} {v y : V} {vs : List V} {d x : D} {ds : List D} {F G : List Addr} {t : TA} {ta tb tc te t1 t2 : TE} {A B : Kd} {m n mc n1 n2 : X1} {K : PySem.W.Frag} {CT : RT} {S : Stat} {X : Cx}
theorem ps_never {st : Stmt} : PS X st tNever := ⟨fun _ _ _ _ _ _ h => h.elim⟩
abbrev UL := List D → List D → (List D → Prop) → Prop
structure LmOk (r : V → List V → Hp → VK → Prop) (u : UL) : Prop where
  run : ∀ {CT : RT} {H : Hp} {a : Addr} {vs ws : List V} {ds es : List D} {F G : List Addr} {Q : V → Hp → Prop}, H a = some (.lst vs) → Rps CT H vs ds F → Rps CT H ws es G →
    u ds es (fun ds' => ∀ (vs' : List V) (F' : List Addr) (z : V), Rps CT H vs' ds' F' → (∀ b ∈ F', b ∈ F ∨ b ∈ G) → ((F ++ G).Nodup → F'.Nodup) → Q z (upd H a (.lst vs'))) → r (.ref a) ws H Q
  mono : ∀ ds es (Q Q' : List D → Prop), (∀ e, Q e → Q' e) → u ds es Q → u ds es Q'
def sLm (i : Nat) (u : UL) (ms : XL) : XS := fun E env => xVar i env fun d => onL d fun xs => ms env fun es => u xs es fun ds => E.nx (env.set i (some (.lst ds)))
class MU (u : UL) : Prop where
  mono : ∀ ds es (Q Q' : List D → Prop), (∀ e, Q e → Q' e) → u ds es Q → u ds es Q'
theorem Rps.two_of {a b : D} (r : Rps CT H vs [a, b] F) : ∃ v w G1 G2, vs = [v, w] ∧ Rp CT H v a G1 ∧ Rp CT H w b G2 ∧ F = G1 ++ G2 := by
  cases r with
  | cons r1 r2 => cases r2 with
    | cons r2 r3 => cases r3; exact ⟨_, _, _, _, rfl, r1, r2, by simp⟩
theorem Rps.split : ∀ {vs : List V} {ds : List D} {F : List Addr} (j : Nat), Rps CT H vs ds F → ∃ F1 F2, Rps CT H (vs.take j) (ds.take j) F1 ∧ Rps CT H (vs.drop j) (ds.drop j) F2 ∧ F = F1 ++ F2
  | _, _, F, 0, r => ⟨[], F, .nil, r, rfl⟩
  | _, _, _, j + 1, .nil => ⟨[], [], .nil, .nil, rfl⟩
  | _, _, _, j + 1, .cons (F := F1) (G := F2) r rs => by
    obtain ⟨P, Q, h1, h2, h3⟩ := Rps.split j rs
    exact ⟨F1 ++ P, Q, .cons r h1, h2, by rw [h3, List.append_assoc]⟩
theorem Rps.erase : ∀ {vs : List V} {ds : List D} {F : List Addr} (j : Nat), Rps CT H vs ds F → ∃ F', Rps CT H (vs.eraseIdx j) (ds.eraseIdx j) F' ∧ F'.Sublist F
  | _, _, _, _, .nil => ⟨[], .nil, List.Sublist.slnil⟩
  | _, _, _, 0, .cons (F := F1) (G := F2) r rs => ⟨F2, rs, List.sublist_append_right _ _⟩
  | _, _, _, j + 1, .cons (F := F1) (G := F2) r rs => by
    obtain ⟨F', h1, h2⟩ := Rps.erase j rs
    exact ⟨F1 ++ F', .cons r h1, h2.append_left _⟩
instance {i : Nat} {u : UL} {ms : XL} [h : MU u] [h' : MX ms] : MS (sLm i u ms) := ⟨fun p q => mono_var _ _ _ (fun d q => onL_mono (fun ds q => h'.mono _ _ _ (fun e q => h.mono _ _ _ _ (fun ds q => p.1 _ q) q) q) q) q⟩
def sSwap (i : Nat) (m n1 n2 : X1) : XS := fun E env => m env fun d => match d with
  | .tup [x, y] => x.imm = true ∧ y.imm = true ∧ xVar i env fun d => n1 env fun e => setD d e x fun d' =>
      (fun env => xVar i env fun d => n2 env fun e => setD d e y fun d' => E.nx (env.set i (some d'))) (env.set i (some d'))
  | _ => False
instance {i : Nat} [h : MX m] [h1 : MX n1] [h2 : MX n2] : MS (sSwap i m n1 n2) := ⟨fun p q => h.mono _ _ _ (fun d q => by
    match d, q with
    | .tup [x, y], q => exact ⟨q.1, q.2.1, mono_var _ _ _ (fun d q => h1.mono _ _ _ (fun e q => mono_setD (fun d' q => mono_var _ _ _ (fun d q => h2.mono _ _ _ (fun e q => mono_setD (fun d' q => p.1 _ q) q) q) q) q) q) q.2.2⟩) q⟩
end
end Pu
set_option Elab.async false
set_option linter.all false
set_option maxRecDepth 100000
namespace Pu
open PySem PySem.Spec PyProof.Rows L2
open Sem (wp)
open AutoSeq1 (wpAny_loadPart')
theorem meets_enT (l : Addr) (xs : Array Value) (n : Nat) (dct : Option Addr) (sl : Array (Option Value)) :
    Meets (Builtin.«enumerate.__new__» ⟨[.type "enumerate", .ref l], []⟩) (fun _ R s => s.heap.get? l = some { cls := .type "tuple", dict := dct, data := .seq xs n, slots := sl } ∧
      R (.ok (.ret (.ref (s.heap.push { cls := .type "tuple_iterator", data := .fields #[.ref l, .int 0 0] }).objs.size)))
        { s with heap := (s.heap.push { cls := .type "tuple_iterator", data := .fields #[.ref l, .int 0 0] }).push { cls := .type "enumerate", data := .fields #[.none, .bool false, .ref s.heap.objs.size, rawInt 0, .none, .none] } }) :=
  .of_wp fun P w A R s q => by
    obtain ⟨hp, g, d, tk, os⟩ := s
    obtain ⟨ht, q⟩ := q
    have hsub := sub_enumerate
    have hT : Heap.IsTuple (Shared.heap ⟨hp, g, d, tk, os⟩) l xs := ⟨_, ht, rfl, n, rfl⟩
    wp_walk using wpAny_loadPart' ht
    refine wpAny_stack_any fun st => wpAny_pure ?_
    split
    · rename_i c _ _ _ _ _
      cases (c == Value.type "enumerate")
      · wp_walk using wpAny_loadPart' ht, wpAny_pyIter_tuple hT
        exact ⟨_, rfl, q⟩
      · wp_walk using wpAny_loadPart' ht, wpAny_pyIter_tuple hT
        exact ⟨_, rfl, q⟩
    · wp_walk using wpAny_loadPart' ht, wpAny_pyIter_tuple hT
      exact ⟨_, rfl, q⟩
theorem call_enT {P : Program} {w : World} {A : Around} {E : Value → Shared → Prop} {s : Shared} {l : Addr} {xs : Array Value} {Q : Value → Shared → Prop} (hT : s.heap.IsTuple l xs)
    (h : ∀ h', IsEnum h' (s.heap.objs.size + 1) s.heap.objs.size 0 .none → h'.IsTupleIter s.heap.objs.size l 0 → (∀ b o, s.heap.get? b = some o → h'.get? b = some o) → Q (.ref (s.heap.objs.size + 1)) { s with heap := h' }) :
    wpAny (model P w) A (call (.type "enumerate") [.ref l]) Q E s := by
  obtain ⟨⟨c, dct, dt, sl⟩, hl, hc, n, hd⟩ := hT
  replace hc : c = .type "tuple" := hc
  replace hd : dt = .seq xs n := hd
  subst hc hd
  refine callType_new F.called_enumerate (by decide) (F.typeCall_enumerate_1 _) (F.newCall_enumerate_1 _) (fun obj => F.args_object_init_2 obj _) F.entry_enumerate_new (meets_enT l xs n dct sl) ⟨hl, ?_⟩
  have hz : (s.heap.push { cls := .type "tuple_iterator", data := .fields #[.ref l, .int 0 0] }).objs.size = s.heap.objs.size + 1 := Heap.size_push ..
  show _ ∧ _
  rw [hz]
  have he : IsEnum ((s.heap.push { cls := .type "tuple_iterator", data := .fields #[.ref l, .int 0 0] }).push { cls := .type "enumerate", data := .fields #[.none, .bool false, .ref s.heap.objs.size, rawInt 0, .none, .none] }) (s.heap.objs.size + 1) s.heap.objs.size 0 .none := by
    have e := Heap.get?_push_size (s.heap.push { cls := .type "tuple_iterator", data := .fields #[.ref l, .int 0 0] }) (o := { cls := .type "enumerate", data := .fields #[.none, .bool false, .ref s.heap.objs.size, rawInt 0, .none, .none] }) rfl
    rw [hz] at e; exact e
  exact ⟨⟨_, he, rfl⟩, h _ he ⟨_, Heap.get?_push_of_some _ (Heap.get?_push_size _ rfl), rfl, rfl⟩ fun b o x => Heap.get?_push_of_some _ (Heap.get?_push_of_some _ x)⟩
theorem pyNext_enT_end {P : Program} {w : World} {A : Around} {E : Value → Shared → Prop} {s : Shared} {e it l : Addr} {i : Nat} {xs : Array Value} {old : Value} {Q : Option Value → Shared → Prop} (hh : A.handled = none)
    (he : IsEnum s.heap e it i old) (hit : s.heap.IsTupleIter it l i) (ht : s.heap.IsTuple l xs) (hx : xs[i]? = none) (hQ : ∀ h', Heap.ExtBut it s.heap h' → Q none { s with heap := h' }) : wpAny (model P w) A (pyNext (.ref e)) Q E s := by
  have ty : s.TypeIs (.ref e) "enumerate" := ⟨_, he, rfl⟩
  unfold pyNext
  refine wpAny_bind (wpAny_attempt (wpAny_callSpecial?_slot (name := Str.ofString "__next__") ty F.slot_enumerate_next (wpAny_call_entry F.slot_enumerate_next ty F.entry_enumerate_next ?_ (F.args_enumerate_next_1 _))))
  show wpAny _ _ (field (.ref e) 2 >>= _) _ _ _
  refine wpAny_bind (wpAny_field he rfl (x := .ref it) rfl (wpAny_bind (wpAny_nextOf_tuple_end hh hit ht hx fun h' x k ⟨o, ho, hc⟩ => ?_)))
  exact wpAny_bind (wpAny_isInstance (T := "StopIteration") (b := true) ⟨o, ho, hc⟩ isSubtype_stop (wpAny_pure (hQ _ k)))
def IteT (K : PySem.W.Frag) (a : Addr) : It :=
  ⟨fun i H => ∃ (xs : List V) (x : V), SqT K H a xs ∧ xs[i]? = some x, fun i H v H' => ∃ T x, v = .ref T ∧ H T = none ∧ H' = L2.upd H T (.tup [.int (i : Nat), x]) ∧ ∀ xs, SqT K H a xs → xs[i]? = some x,
    fun i H => ∃ xs : List V, SqT K H a xs ∧ xs.length ≤ i⟩
theorem turn_enT {P : Program} {w : World} {K : PySem.W.Frag} {elts : List Expr} {kk : Nat} {tpos : Pos} (a e it : Addr) (ha : a ≠ it) (hae : a ≠ e) :
    Turn P w K (.Tuple elts kk tpos) (IteT K a) [e, it] e (fun i h => (∃ old, IsEnum h e it ((i : Nat) : Int) old) ∧ h.IsTupleIter it a i ∧ e ≠ it) where
  mem := by simp
  obj := fun i h st b hb => by
    obtain ⟨⟨old, he⟩, ⟨o, ho, hc, hd⟩, _⟩ := st
    rcases (show b = e ∨ b = it by simpa using hb) with z | z
    · rw [z]; exact ⟨_, he, fun v q => nomatch q⟩
    · rw [z]; exact ⟨o, ho, fun v q => by rw [hd] at q; cases q⟩
  keep := fun i h h' st k => let ⟨⟨old, he⟩, hi, hne⟩ := st; ⟨⟨old, k e (by simp) _ he⟩, hi.at fun o q => k it (by simp) o q, hne⟩
  item := by
    intro X hP hw hK hc i pins s σ H E I hf st hg
    subst hP hw hK
    obtain ⟨⟨old, he⟩, hit, hne⟩ := st
    obtain ⟨xs, x, hq, hx⟩ := hg
    obtain ⟨its, rv, p, hz⟩ := I.tuple hq
    obtain ⟨u, hu, ru⟩ := rv.get hx
    have hel : e < s.heap.objs.size := Heap.lt_size he
    have hil : it < s.heap.objs.size := by obtain ⟨_, q, _⟩ := hit; exact Heap.lt_size q
    have hT0 : s.heap.IsTuple a its.toArray := p
    have hlt : i < its.toArray.size := by
      have := (List.getElem?_eq_some_iff.mp hu).1
      simpa using this
    refine wpAny_pyNext_enum_itemD (Draws.tuple (A := X.A.in1) (I.ok.hd hc) it a ha its.toArray) he ⟨hit, hT0⟩ hlt hne (by simp [hne, Ne.symm hae]) fun x' h' tk hP ho hst hT hsz hk => ?_
    obtain rfl : x' = u := by
      have e1 : its.toArray[i]? = some u := by simpa using hu
      rw [e1] at hP
      exact (Option.some.inj hP).symm
    refine ⟨_, rfl, wpAny_letOwnedTupleGo_enum (s := { s with heap := h', toks := tk + 1 }) ho fun h'' he' sb => ?_⟩
    have hT2 := (sb.2 s.heap.objs.size (Nat.ne_of_gt hel)).trans hT
    have new : ObjOk X.prog X.w (L2.upd H s.heap.objs.size (.tup [.int (i : Nat), x])) h'' s.heap.objs.size (.tup [.int (i : Nat), x]) :=
      ⟨by show 2 ≤ sizeLine; decide, [.int i tk, x'], .cons ⟨_, rfl⟩ (.cons ru .nil), ⟨_, hT2, rfl, _, rfl⟩⟩
    have I1 : Inv X pins σ (L2.upd H s.heap.objs.size (.tup [.int (i : Nat), x])) { s with heap := h'', toks := tk + 1 } :=
      I.turnedNew (ch := [e, it]) (fun b ob hb q => (sb.2 b (fun z => hb (by simp [z]))).trans (hk b ob (fun z => hb (by simp [z])) (fun z => hb (by simp [z])) q)) hf (Nat.le_refl _) new
    refine ⟨.ref s.heap.objs.size, _, I1, rfl, ⟨_, x, rfl, I.hok.fresh (Nat.le_refl _), rfl, fun ys hy => by rw [I.tuple_inj hy hq]; exact hx⟩, ⟨⟨x', ?_⟩, hst.1.at fun o q => (sb.2 it (Ne.symm hne)).trans q, hne⟩, fun b hb => ?_⟩
    · rw [show ((i + 1 : Nat) : Int) = (i : Int) + 1 by omega]; exact he'
    · have hb' : b < s.heap.objs.size := by
        rcases (show b = e ∨ b = it by simpa using hb) with z | z
        · rw [z]; exact hel
        · rw [z]; exact hil
      rw [L2.upd_ne (Nat.ne_of_lt hb')]
      exact (hf b hb).1
  done := by
    intro X hP hw hK hc i pins s σ H E I hf st hg
    subst hP hw hK
    obtain ⟨⟨old, he⟩, hit, hne⟩ := st
    obtain ⟨xs, hq, hx⟩ := hg
    obtain ⟨its, rv, p, hz⟩ := I.tuple hq
    obtain ⟨f0, f1, f2, f3, f4, f5⟩ := hf it (by simp)
    have hl := rv.length
    exact pyNext_enT_end (I.ok.hd hc) he hit (show s.heap.IsTuple a its.toArray from p) (by simp; omega) fun h' eb => ⟨rfl, I.turned (t' := s.toks) (fun b o hb q => eb b o hb q) f0 f1 f3 f4 f5⟩
  self := fun A i s Q E st h => let ⟨⟨_, he⟩, _⟩ := st; wpAny_pyIter_enum he h
def iEnumU (K : PySem.W.Frag) (ta : TA) : TI := fun σ H R => ta σ H fun vs H1 => ∃ a xs, vs = [.ref a] ∧ ((SqL K H1 a xs ∧ R (Ite K a) H1) ∨ (SqT K H1 a xs ∧ R (IteT K a) H1))
theorem pi_enumU {X : Cx} {e : Expr} {ta : TA} {p pos tpos : Pos} {elts : List Expr} {kk : Nat} (hg : Gl X "enumerate") (hm : X.mg "enumerate" = none) (ha : PA X [e] ta) (hs : starEach [e] X.env = [(false, eval e X.env)] := by rfl) :
    PI X (.Tuple elts kk tpos) (.Call (.Name "enumerate" p) [e] [] pos) (iEnumU X.K ta) := by
  refine ⟨fun pins s σ H R I h => Call_ (ld_blt I hg hm boot_enumerate (PyProof.Rows.callWith_type1 (thn (ha.run pos pins s σ H _ I h) fun us s1 ⟨vs, H1, I1, r1, a, xs, ex, q1⟩ => ?_) hs rfl))⟩
  subst ex
  cases r1 with
  | cons r rr =>
    cases rr
    cases r
    have e0 : ∀ b ∈ [s1.heap.objs.size + 1, s1.heap.objs.size], FpOk X pins H1 b := fun b hb => by
      have hle : s1.heap.objs.size ≤ b := by
        rcases (show b = s1.heap.objs.size + 1 ∨ b = s1.heap.objs.size by simpa using hb) with z | z
        · rw [z]; exact Nat.le_add_right _ _
        · rw [z]; exact Nat.le_refl _
      exact I1.fpOk hle (I1.hok.fresh hle)
    rcases q1 with ⟨hq, q⟩ | ⟨hq, q⟩
    · obtain ⟨its, rv, p', hz⟩ := I1.list hq
      exact call_enumerate_list p'.isList fun h' he hit hsz hk => wpAny_pyIter_enum he
        ⟨s1.heap.objs.size + 1, [s1.heap.objs.size + 1, s1.heap.objs.size], _, _, H1, rfl, (I1.kept (t' := s1.toks) hk : Inv X pins σ H1 { s1 with heap := h' }), turn_enum a _ _, ⟨⟨.none, he⟩, hit, Nat.succ_ne_self _⟩, e0, q⟩
    · obtain ⟨its, rv, p', hz⟩ := I1.tuple hq
      have hT : s1.heap.IsTuple a its.toArray := p'
      have hal : a < s1.heap.objs.size := by obtain ⟨o, ho, _⟩ := id hT; exact Heap.lt_size ho
      exact call_enT hT fun h' he hit hk => wpAny_pyIter_enum he
        ⟨s1.heap.objs.size + 1, [s1.heap.objs.size + 1, s1.heap.objs.size], _, _, H1, rfl, (I1.kept (t' := s1.toks) hk : Inv X pins σ H1 { s1 with heap := h' }), turn_enT a _ _ (Nat.ne_of_lt hal) (Nat.ne_of_lt (Nat.lt_succ_of_lt hal)), ⟨⟨.none, he⟩, hit, Nat.succ_ne_self _⟩, e0, q⟩
theorem k_enumU {X : Cx} {K : PySem.W.Frag} {e : Expr} {ta : TA} {p pos tpos : Pos} {elts : List Expr} {kk : Nat} (h : X.K = K) (hg : Gl X "enumerate") (hm : X.mg "enumerate" = none) (ha : PA X [e] ta) (hs : starEach [e] X.env = [(false, eval e X.env)] := by rfl) :
    PI X (.Tuple elts kk tpos) (.Call (.Name "enumerate" p) [e] [] pos) (iEnumU K ta) := h ▸ pi_enumU hg hm ha hs
theorem k_zip {X : Cx} {K : PySem.W.Frag} {e e2 : Expr} {ta : TA} {p pos tpos : Pos} {elts : List Expr} {kk : Nat} (h : X.K = K) (hg : Gl X "zip") (hm : X.mg "zip" = none) (ha : PA X [e, e2] ta)
    (hs : starEach [e, e2] X.env = (false, eval e X.env) :: starEach [e2] X.env := by rfl) (hpl : (backTo pos (starEach [e2] X.env)).any (·.1) = false := by rfl) :
    PI X (.Tuple elts kk tpos) (.Call (.Name "zip" p) [e, e2] [] pos) (RZ.iZipA K ta) := h ▸ RZ.pi_zipA hg hm ha hs hpl
section
variable {C : Cfg} {Γ Γ' Γn Γl Γo Γt Γe Γ1 Γ2 : List Mo} {σ σ' : L2.St} {H H' H1 H2 : Hp} {env env' : PEnv} {Fs Fs' Fs1 Fs2 : Nat → List Addr} {v : V} {vs ws : List V} {d : D} {ds es : List D} {F G : List Addr} {ta tb te : TE} {A B : Kd} {m n : X1} {K : PySem.W.Frag} {CT : RT}
theorem walk_enT {a : Addr} : Walk CT (IteT K a) F (fun H => H a = some (.tup vs) ∧ Rps CT H vs ds F) (enD 0 ds) where
  keep := fun W H H' ⟨h, r⟩ f n => ⟨f.im _ _ h rfl, r.keep f n⟩
  there := fun H ⟨h, r⟩ b hb => r.tracked b hb
  go := fun i H ⟨h, r⟩ hi => by
    rw [enD_len, ← r.length] at hi
    exact ⟨vs, vs[i], SqT.of h, List.getElem?_eq_getElem hi⟩
  stop := fun H ⟨h, r⟩ => ⟨vs, SqT.of h, by rw [enD_len, r.length]; exact Nat.le_refl _⟩
  yld := fun i H x H' ⟨h, r⟩ hi ⟨T, y, e, hT, e', hy⟩ => by
    subst e e'
    obtain ⟨d, G, h1, h2, h3⟩ := r.getV (hy vs (SqT.of h))
    have h4 := enD_get ds 0 i d h1
    rw [Nat.zero_add] at h4
    refine ⟨_, [] ++ (G ++ []), h4, Fr.new hT, .tup upd_same (.cons (.int _) (.cons (h2.keep (W := fun _ => False) (Fr.new hT) fun _ _ z => z) .nil)), fun b hb => ?_⟩
    simp at hb
    exact h3.mem hb
def mEnmU (m : X1) : XL := fun env Q => m env fun d => match d with
  | .lst ds => Q (enD 0 ds)
  | .tup ds => Q (enD 0 ds)
  | _ => False
theorem simi_enmU (s : Sim C Γ te A m) : SimI C Γ (iEnumU K (tCons te tNil)) A (mEnmU m) := ⟨fun σ H env Fs R I h => s.run σ H env Fs _ I (s.mono env _ _ (fun d q v H1 F f dk r k => by
    have kd := k.set I
    cases r with
    | lst ha ra => exact ⟨_, _, rfl, .inl ⟨SqL.of ha, q H1 _ _ _ f dk walk_enm ⟨ha, ra⟩ ⟨k.1, kd⟩⟩⟩
    | tup ha ra => exact ⟨_, _, rfl, .inr ⟨SqT.of ha, q H1 _ _ _ f dk walk_enT ⟨ha, ra⟩ ⟨k.1, kd⟩⟩⟩
    | _ => exact (show False from q).elim) h), fun env Q Q' k q => s.mono env _ _ (fun d q => by cases d <;> first | exact k _ q | exact q) q⟩
instance [h : MX m] : MX (mEnmU m) := ⟨fun env Q Q' k q => h.mono env _ _ (fun d q => by cases d <;> first | exact k _ q | exact q) q⟩
def zpD : List D → List D → List D
  | d :: ds, e :: es => .tup [d, e] :: zpD ds es
  | _, _ => []
theorem zpD_len : ∀ (ds es : List D), (zpD ds es).length = min ds.length es.length
  | [], _ => by simp [zpD]
  | _ :: _, [] => by simp [zpD]
  | d :: ds, e :: es => by simp only [zpD, List.length_cons, zpD_len ds es]; omega
theorem zpD_get : ∀ (ds es : List D) (i : Nat) (d e : D), ds[i]? = some d → es[i]? = some e → (zpD ds es)[i]? = some (.tup [d, e])
  | [], _, _, _, _, h, _ => by simp at h
  | _ :: _, [], _, _, _, _, h => by simp at h
  | x :: ds, y :: es, 0, d, e, h, h' => by simp at h h'; subst h h'; rfl
  | x :: ds, y :: es, i + 1, d, e, h, h' => by
    have := zpD_get ds es i d e (by simpa using h) (by simpa using h')
    simpa [zpD] using this
theorem walk_zpT {a b : Addr} : Walk CT (RZ.ItzT K a b) (F ++ G) (fun H => (H a = some (.tup vs) ∧ Rps CT H vs ds F) ∧ H b = some (.tup ws) ∧ Rps CT H ws es G) (zpD ds es) where
  keep := fun W H H' ⟨⟨h, r⟩, h', r'⟩ f n => ⟨⟨f.im _ _ h rfl, r.keep f fun b hb => n b (List.mem_append_left _ hb)⟩, f.im _ _ h' rfl, r'.keep f fun b hb => n b (List.mem_append_right _ hb)⟩
  there := fun H ⟨⟨h, r⟩, h', r'⟩ b hb => (List.mem_append.mp hb).elim (r.tracked b) (r'.tracked b)
  go := fun i H ⟨⟨h, r⟩, h', r'⟩ hi => by
    rw [zpD_len, ← r.length, ← r'.length] at hi
    have h1 : i < vs.length := by omega
    have h2 : i < ws.length := by omega
    exact ⟨vs, ws, vs[i], ws[i], SqT.of h, SqT.of h', List.getElem?_eq_getElem h1, List.getElem?_eq_getElem h2⟩
  stop := fun H ⟨⟨h, r⟩, h', r'⟩ => ⟨vs, ws, SqT.of h, SqT.of h', by rw [zpD_len, ← r.length, ← r'.length]; omega⟩
  yld := fun i H x H' ⟨⟨h, r⟩, h', r'⟩ hi ⟨T, y, z, e, hT, e', hy, hz⟩ => by
    subst e e'
    obtain ⟨d1, G1, h1, h2, h3⟩ := r.getV (hy vs (SqT.of h))
    obtain ⟨d2, G2, k1, k2, k3⟩ := r'.getV (hz ws (SqT.of h'))
    refine ⟨_, G1 ++ (G2 ++ []), zpD_get ds es i d1 d2 h1 k1, Fr.new hT, .tup upd_same (.cons (h2.keep (W := fun _ => False) (Fr.new hT) fun _ _ z => z) (.cons (k2.keep (W := fun _ => False) (Fr.new hT) fun _ _ z => z) .nil)), fun b hb => ?_⟩
    rw [List.append_nil] at hb
    exact (List.mem_append.mp hb).elim (fun m => List.mem_append_left _ (h3.mem m)) fun m => List.mem_append_right _ (k3.mem m)
theorem walk_zpL {a b : Addr} : Walk CT (Itz K a b) ((a :: F) ++ (b :: G)) (fun H => (H a = some (.lst vs) ∧ Rps CT H vs ds F) ∧ H b = some (.lst ws) ∧ Rps CT H ws es G) (zpD ds es) where
  keep := fun W H H' ⟨⟨h, r⟩, h', r'⟩ f n => ⟨⟨f.keep _ _ h (n _ (List.mem_append_left _ List.mem_cons_self)), r.keep f fun b hb => n b (List.mem_append_left _ (List.mem_cons_of_mem _ hb))⟩,
    f.keep _ _ h' (n _ (List.mem_append_right _ List.mem_cons_self)), r'.keep f fun b hb => n b (List.mem_append_right _ (List.mem_cons_of_mem _ hb))⟩
  there := fun H ⟨⟨h, r⟩, h', r'⟩ b hb => (List.mem_append.mp hb).elim ((Rp.lst h r).tracked b) ((Rp.lst h' r').tracked b)
  go := fun i H ⟨⟨h, r⟩, h', r'⟩ hi => by
    rw [zpD_len, ← r.length, ← r'.length] at hi
    have h1 : i < vs.length := by omega
    have h2 : i < ws.length := by omega
    exact ⟨vs, ws, vs[i], ws[i], SqL.of h, SqL.of h', List.getElem?_eq_getElem h1, List.getElem?_eq_getElem h2⟩
  stop := fun H ⟨⟨h, r⟩, h', r'⟩ => ⟨vs, ws, SqL.of h, SqL.of h', by rw [zpD_len, ← r.length, ← r'.length]; omega⟩
  yld := fun i H x H' ⟨⟨h, r⟩, h', r'⟩ hi ⟨T, y, z, e, hT, e', hy, hz⟩ => by
    subst e e'
    obtain ⟨d1, G1, h1, h2, h3⟩ := r.getV (hy vs (SqL.of h))
    obtain ⟨d2, G2, k1, k2, k3⟩ := r'.getV (hz ws (SqL.of h'))
    refine ⟨_, G1 ++ (G2 ++ []), zpD_get ds es i d1 d2 h1 k1, Fr.new hT, .tup upd_same (.cons (h2.keep (W := fun _ => False) (Fr.new hT) fun _ _ z => z) (.cons (k2.keep (W := fun _ => False) (Fr.new hT) fun _ _ z => z) .nil)), fun b hb => ?_⟩
    rw [List.append_nil] at hb
    exact (List.mem_append.mp hb).elim (fun m => List.mem_append_left _ (List.mem_cons_of_mem _ (h3.mem m))) fun m => List.mem_append_right _ (List.mem_cons_of_mem _ (k3.mem m))
def mzQ (ds : List D) (Q : List D → Prop) : Prop := match ds with
  | [.lst xs, .lst ys] => Q (zpD xs ys)
  | [.tup xs, .tup ys] => Q (zpD xs ys)
  | _ => False
theorem mzQ_of {Q : List D → Prop} (q : mzQ ds Q) : (∃ xs ys, ds = [.lst xs, .lst ys] ∧ Q (zpD xs ys)) ∨ ∃ xs ys, ds = [.tup xs, .tup ys] ∧ Q (zpD xs ys) := by
  unfold mzQ at q
  split at q
  · exact .inl ⟨_, _, rfl, q⟩
  · exact .inr ⟨_, _, rfl, q⟩
  · exact q.elim
def mZip (r : XL) : XL := fun env Q => r env fun ds => mzQ ds Q
theorem mono_zip {r : XL} (h : Mono r) : Mono (mZip r) := fun env Q Q' k q => h env _ _ (fun ds q => by
  rcases mzQ_of q with ⟨xs, ys, rfl, q⟩ | ⟨xs, ys, rfl, q⟩
  · exact k _ q
  · exact k _ q) q
theorem simi_zip {t : TA} {r : XL} (s : SimL C Γ t A r) : SimI C Γ (RZ.iZipA K t) A (mZip r) := ⟨fun σ H env Fs R I h => s.run σ H env Fs _ I (s.mono env _ _ (fun ds q vs H1 F f dk rr k => by
    have kd := k.set I
    rcases mzQ_of q with ⟨xs, ys, rfl, q⟩ | ⟨xs, ys, rfl, q⟩
    · obtain ⟨v, w, G1, G2, rfl, r1, r2, rfl⟩ := rr.two_of
      cases r1 with
      | lst h1 p1 => cases r2 with
        | lst h2 p2 => exact ⟨_, _, _, _, rfl, .inl ⟨SqL.of h1, SqL.of h2, q H1 _ _ _ f dk walk_zpL ⟨⟨h1, p1⟩, h2, p2⟩ ⟨k.1, kd⟩⟩⟩
    · obtain ⟨v, w, G1, G2, rfl, r1, r2, rfl⟩ := rr.two_of
      cases r1 with
      | tup h1 p1 => cases r2 with
        | tup h2 p2 => exact ⟨_, _, _, _, rfl, .inr ⟨SqT.of h1, SqT.of h2, q H1 _ _ _ f dk walk_zpT ⟨⟨h1, p1⟩, h2, p2⟩ ⟨k.1, kd⟩⟩⟩) h), mono_zip s.mono⟩
instance {r : XL} [h : MX r] : MX (mZip r) := ⟨mono_zip h.mono⟩
end
theorem k_ty {X : Cx} {x : Str} {c : String} {pos : Pos} (hg : Gl X x) (hm : X.mg x = none) (hv : bootBuiltins x = some (.type c)) (hn : x ≠ "__name__" := by decide) (hd : (x == ("__debug__" : Str)) = false := by decide) : PE X (.Name x pos) (tC (.ty c)) :=
  pe_bltn hg hm hv rfl hn hd
theorem k_gtup {X : Cx} {K : PySem.W.Frag} {es : List Expr} {k : Nat} {t : TGs} {n : Nat} {pos : Pos} (hK : X.K = K) (hc : X.calm = true) (h : PGs X es t) (hn : (assignEach es X.env).length = n := by rfl) (hst : (assignEach es X.env).findIdx? (·.1) = none := by rfl) :
    PG X (.Tuple es k pos) (gTup K n t) := hK ▸ pg_tup hc h hn hst
end Pu
set_option Elab.async false
set_option linter.all false
set_option maxRecDepth 100000
namespace Pu
open PySem PySem.Spec PyProof.Rows L2
def dInts (zs : List Int) : List D := zs.map D.int
def vInts (zs : List Int) : List V := zs.map V.int
def dD (cs zs : List Int) : D := .lst (.lst (dInts cs) :: dInts zs)
structure DS (p : Addr × Addr) (H : Hp) (cs zs : List Int) : Prop where
  ne : p.1 ≠ p.2
  a1 : H p.1 = some (.lst (.ref p.2 :: vInts zs))
  a2 : H p.2 = some (.lst (vInts cs))
section
variable {C : Cfg} {Γ Γ' Γ1 Γ2 : List Mo} {σ σ' : L2.St} {H H' H1 H2 : Hp} {env env' tl : PEnv} {v : V} {d : D} {F G : List Addr} {ta tb te : TE} {A B : Kd} {m n : X1} {CT : RT} {S : Stat} {p : Addr × Addr} {cs zs : List Int}
theorem rps_dInts : ∀ zs : List Int, Rps CT H (vInts zs) (dInts zs) []
  | [] => .nil
  | z :: zs => .cons (.int z) (rps_dInts zs)
theorem DS.rp (s : DS p H cs zs) : Rp CT H (.ref p.1) (dD cs zs) (p.1 :: (p.2 :: []) ++ []) := .lst s.a1 (.cons (.lst s.a2 (rps_dInts cs)) (rps_dInts zs))
structure OkD (p : Addr × Addr) (Γ : List Mo) (σ : L2.St) (H : Hp) (cs zs : List Int) (tl : PEnv) : Prop where
  ds : DS p H cs zs
  l1 : tl.length = Γ.length
  l2 : σ.length = Γ.length + 1
  s0 : σ[0]? = some (some (.ref p.1))
  val : ∀ i : Nat, Γ[i]? = some .f → ∃ z, σ[i + 1]? = some (some (.int z)) ∧ tl[i]? = some (some (.int z))
  fx : ∀ (i : Nat) (mo : Mo), Γ[i]? = some mo → mo = .f ∨ mo = .x
abbrev C0 (S : Stat) : Cfg := ⟨{ S with TT := [] }, none, [], []⟩
def eD (cs zs : List Int) (tl : PEnv) : PEnv := some (dD cs zs) :: tl
theorem OkD.ok (I : OkD p Γ σ H cs zs tl) : Ok (C0 S) (.f :: Γ) σ H (eD cs zs tl) (fun j => if j = 0 then p.1 :: (p.2 :: []) ++ [] else []) := by
  refine ⟨by simp [eD, I.l1], by simp [I.l2], fun i mo h l => ?_, fun i h => ?_, fun i h => ?_, fun i j mo h _ _ _ => ?_, fun _ _ _ _ => ⟨(fun _ e => nomatch e), fun _ e => nomatch e⟩, ⟨(fun _ e => nomatch e), (fun _ e => nomatch e), fun _ e => nomatch e⟩, (fun _ e => nomatch e), (fun _ e => nomatch e)⟩
  · cases i with
    | zero => exact ⟨_, _, I.s0, rfl, I.ds.rp⟩
    | succ i =>
      have h : Γ[i]? = some mo := by simpa using h
      rcases I.fx i mo h with e | e
      · subst e
        obtain ⟨z, h1, h2⟩ := I.val i h
        exact ⟨_, _, h1, by simpa [eD] using h2, .int z⟩
      · subst e; rcases l with l | l <;> cases l
  · cases i with
    | zero => cases h
    | succ i =>
      have h : Γ[i]? = some .q := by simpa using h
      rcases I.fx i _ h with e | e <;> cases e
  · cases i with
    | zero => cases h
    | succ i =>
      have h : Γ[i]? = some .o := by simpa using h
      rcases I.fx i _ h with e | e <;> cases e
  · cases i with
    | zero => cases h
    | succ i =>
      have h : Γ[i]? = some .o := by simpa using h
      rcases I.fx i _ h with e | e <;> cases e
abbrev WD (p : Addr × Addr) : Addr → Prop := fun a => a = p.1 ∨ a = p.2
theorem wq0 {a : Addr} : ¬ Wq (C0 S) a := fun w => by
  rcases w with ⟨_, e, _⟩ | ⟨_, e, _⟩
  · cases e
  · cases e
theorem DS.keep {W : Addr → Prop} (s : DS p H cs zs) (f : Fr W H H') (n1 : ¬ W p.1) (n2 : ¬ W p.2) : DS p H' cs zs := ⟨s.ne, f.keep _ _ s.a1 n1, f.keep _ _ s.a2 n2⟩
theorem OkD.keep (I : OkD p Γ σ H cs zs tl) (f : Fr (Wq (C0 S)) H H') : OkD p Γ σ H' cs zs tl := ⟨I.ds.keep f wq0 wq0, I.l1, I.l2, I.s0, I.val, I.fx⟩
def wkD : List Mo → List Mo → Bool
  | [], [] => true
  | a :: r, b :: s => (decide (b = .x) || decide (a = b)) && wkD r s
  | _, _ => false
theorem wkD_at : ∀ {Γ Γ' : List Mo}, wkD Γ Γ' = true → Γ.length = Γ'.length ∧ ∀ (i : Nat) (mo : Mo), Γ'[i]? = some mo → mo = .x ∨ Γ[i]? = some mo
  | [], [], _ => ⟨rfl, fun i mo h => by simp at h⟩
  | a :: r, b :: s, h => by
    simp only [wkD, Bool.and_eq_true, Bool.or_eq_true, decide_eq_true_eq] at h
    obtain ⟨h1, h2⟩ := wkD_at h.2
    refine ⟨by simp [h1], fun i mo e => ?_⟩
    cases i with
    | zero =>
      simp at e; subst e
      rcases h.1 with z | z
      · exact .inl z
      · exact .inr (by simp [z])
    | succ i => simpa using h2 i mo (by simpa using e)
  | [], _ :: _, h => by simp [wkD] at h
  | _ :: _, [], h => by simp [wkD] at h
theorem OkD.weak (I : OkD p Γ σ H cs zs tl) (h : wkD Γ Γ' = true) : OkD p Γ' σ H cs zs tl := by
  obtain ⟨h1, h2⟩ := wkD_at h
  refine ⟨I.ds, I.l1.trans h1, by rw [I.l2, h1], I.s0, fun i e => ?_, fun i mo e => ?_⟩
  · rcases h2 i _ e with z | z
    · cases z
    · exact I.val i z
  · rcases h2 i _ e with z | z
    · exact .inr z
    · exact I.fx i mo z
structure DEnds where
  nx : List Int → List Int → PEnv → Prop
  rt : List Int → List Int → Int → Prop
abbrev XD := DEnds → List Int → List Int → PEnv → Prop
structure SimD (S : Stat) (p : Addr × Addr) (Γ Γ' : List Mo) (t : TS) (b : XD) : Prop where
  run : ∀ (σ : L2.St) (H : Hp) (cs zs : List Int) (tl : PEnv) (D : Ends) (E : DEnds), OkD p Γ σ H cs zs tl →
    (∀ σ' H' cs' zs' tl', OkD p Γ' σ' H' cs' zs' tl' → Fr (WD p) H H' → E.nx cs' zs' tl' → D.nx σ' H') →
    (∀ H' cs' zs' z, DS p H' cs' zs' → Fr (WD p) H H' → E.rt cs' zs' z → D.rt (.int z) H') → b E cs zs tl → t D σ H
def mDraw : XF := fun ds Q => match ds with
  | [_, .int n] => 0 < n ∧ n < 2 ^ 30 ∧ ∀ r, 0 ≤ r → r < n → Q (.int r)
  | _ => False
theorem mDraw_of {ds : List D} {Q : D → Prop} (h : mDraw ds Q) : ∃ d n, ds = [d, .int n] ∧ 0 < n ∧ n < 2 ^ 30 ∧ ∀ r, 0 ≤ r → r < n → Q (.int r) := by
  unfold mDraw at h
  split at h
  · exact ⟨_, _, rfl, h⟩
  · exact h.elim
theorem mo_mDraw : MonoF mDraw := fun ds Q Q' k h => by
  obtain ⟨d, n, rfl, h1, h2, h3⟩ := mDraw_of h
  exact ⟨h1, h2, fun r a b => k _ (h3 r a b)⟩
instance : MF mDraw := ⟨mo_mDraw⟩
instance {r : XL} [h : MX r] : MX (xDice r) := ⟨fun env Q Q' k q => h.mono env _ _ (fun ds q => k _ q) q⟩
end
end Pu
set_option Elab.async false
set_option linter.all false
set_option maxRecDepth 100000
namespace Pu
open PySem PySem.Spec PyProof.Rows L2
section
variable {cs : List Int} {i b m c n z : Int} {tl : PEnv} {Q : D → Prop} {E : DEnds} {e2 e3 e4 : Option D}
end
end Pu
set_option Elab.async false
set_option linter.all false
set_option maxRecDepth 100000
namespace Pu
open PySem PySem.Spec PyProof.Rows L2
section
variable {C : Cfg} {Γ Γ' Γn Γl Γo Γt Γe Γ1 Γ2 : List Mo} {σ σ' : L2.St} {H H' H1 H2 : Hp} {env env' : PEnv} {v : V} {d : D} {ds : List D} {S : Stat} {K : PySem.W.Frag} {ns : List Int}
theorem cut_ints (ns : List Int) (lo hi : Option Int) : ∃ ms : List Int, cutV (ns.map V.int) lo hi = vInts ms ∧ ms.length ≤ ns.length := by
  refine ⟨(ns.drop (HT.sIx (ns.map V.int).length 0 lo)).take (HT.sIx (ns.map V.int).length (ns.map V.int).length hi - HT.sIx (ns.map V.int).length 0 lo), ?_, ?_⟩
  · unfold cutV vInts
    rw [List.map_take, List.map_drop]
  · rw [List.length_take, List.length_drop]
    omega
end
def spLaw (K : PySem.W.Frag) : Sp := fun vs H Q _ => ∃ (a : Addr) (ns : List Int), vs = [.ref a] ∧ SqL K H a (ns.map V.int) ∧ ns.length ≤ 63 ∧ ∀ H', Q (.bl true) H'
def spLawT (T : List NdefX.NTab) (K : PySem.W.Frag) : Sp := fun vs H Q _ => ∃ (a : Addr) (ns : List Int), vs = [.ref a] ∧ SqL K H a (ns.map V.int) ∧ ns.length ≤ 63 ∧ NdefX.TabsN T H ∧ ∀ H', Q (.bl true) H'
def gamL (n : Nat) : List Mo := .x :: .q :: List.replicate n .x
def lawEnds : PEnds := { nx := fun _ => False, rt := fun d => d = .bl true, bk := fun _ => False, ct := fun _ => False }
end Pu
set_option Elab.async false
set_option linter.all false
set_option maxRecDepth 100000
namespace PuS
open PySem PySem.Spec PyProof.Rows SrtO
open HT (lexLt)
theorem lex_asym : ∀ a b : List Int, lexLt a b = true → lexLt b a = false
  | [], [], h => rfl
  | [], _ :: _, h => rfl
  | _ :: _, [], h => by cases h
  | x :: a, y :: b, h => by
    rw [HT.lexLt_cons] at h ⊢
    by_cases e : x = y
    · rw [if_pos e] at h
      rw [if_pos e.symm]
      exact lex_asym a b h
    · rw [if_neg e, decide_eq_true_eq] at h
      rw [if_neg (Ne.symm e), decide_eq_false_iff_not]
      omega
theorem lex_tr : ∀ a b c : List Int, lexLt b a = false → lexLt c b = false → lexLt c a = false
  | [], b, [], _, _ => rfl
  | [], _ :: _, _ :: _, _, _ => rfl
  | [], [], _ :: _, _, _ => rfl
  | _ :: _, [], _, h, _ => by cases h
  | _ :: _, _ :: _, [], _, h => by cases h
  | x :: a, y :: b, z :: c, h1, h2 => by
    rw [HT.lexLt_cons] at h1 h2 ⊢
    by_cases e1 : y = x
    · by_cases e2 : z = y
      · rw [if_pos e1] at h1
        rw [if_pos e2] at h2
        rw [if_pos (e2.trans e1)]
        exact lex_tr a b c h1 h2
      · rw [if_neg e2, decide_eq_false_iff_not] at h2
        rw [if_neg (by omega), decide_eq_false_iff_not]
        omega
    · rw [if_neg e1, decide_eq_false_iff_not] at h1
      by_cases e2 : z = y
      · rw [if_neg (by omega), decide_eq_false_iff_not]
        omega
      · rw [if_neg e2, decide_eq_false_iff_not] at h2
        rw [if_neg (by omega), decide_eq_false_iff_not]
        omega
theorem swo_lexL {α : Type} (k : α → List Int) : Swo fun v u => lexLt (k v) (k u) := ⟨fun x y h => lex_asym _ _ h, fun x y z h1 h2 => lex_tr _ _ _ h1 h2⟩
section
variable {prog : Program} {w : World} {A : Around} {E : Value → Shared → Prop} {s : Shared}
theorem lexl {Q : Bool → Shared → Prop} {b fin : Bool} {xs ys : List Value} {ns ms : List Int} (i : Nat) (hx : IntsAre xs ns) (hy : IntsAre ys ms) (hf : fin = decide (ns.length < ms.length)) (h : Q (lexLt ns ms) s) : PySem.W.KatLex prog w A b fin Q (xs.zip ys) i s := by
  induction hx generalizing ys ms i with
  | nil =>
    have e : fin = lexLt [] ms := by
      rw [hf]
      cases ms <;> rfl
    refine PySem.W.kat_nil ?_
    rw [e]; exact h
  | @cons p t xs ns hx ih =>
    cases hy with
    | nil =>
      have e : fin = false := by rw [hf]; exact decide_eq_false (by simp)
      refine PySem.W.kat_nil ?_
      rw [e]; exact h
    | @cons q u ys ms hy =>
      rw [HT.lexLt_cons] at h
      show PySem.W.KatLex prog w A b fin Q ((.int p t, .int q u) :: xs.zip ys) i s
      refine PySem.W.kat_cons (SeqAt.EqAt.int_int p t q u prog w _ _ (PySem.W.kat_go (fun e1 => ?_) (fun e1 => ?_)))
      · have e : p = q := by simpa using e1
        rw [if_pos e] at h
        exact PySem.W.kat_yes (ih (i + 1) hy (by rw [hf]; simp) h)
      · have e : ¬ p = q := by simpa using e1
        rw [if_neg e] at h
        exact PySem.W.kat_no (TS.oneLt_ints _ h)
theorem ti_cmp {vs : List Value} {k : Value → List Int} (hp : ∀ v ∈ vs, TS.TupInts s.heap v (k v)) : Cmp prog w A s (tuples' true) (fun p => p.1 ∈ vs) (lt2 fun v u => lexLt (k v) (k u)) := by
  intro p q hm hm'
  obtain ⟨a, xs, e, ⟨o, ho, hc, n, hd⟩, i⟩ := hp _ hm
  obtain ⟨a', xs', e', ⟨o', ho', hc', n', hd'⟩, i'⟩ := hp _ hm'
  show wpAny (model prog w) A (keyLt' (tuples' true) p.1 q.1) (fun r s' => s' = s ∧ r = lexLt (k p.1) (k q.1)) (fun _ _ => False) s
  generalize k p.1 = ns at i ⊢
  generalize k q.1 = ms at i' ⊢
  rw [e, e']
  refine PySem.W.kat_lt ho hd ho' hd' (lexl 0 i i' ?_ ⟨rfl, rfl⟩)
  rw [← i.length, ← i'.length]
  simp
theorem ti_firsts {h : Heap} {k : Value → List Int} : ∀ vs : List Value, (∀ v ∈ vs, TS.TupInts h v (k v) ∧ k v ≠ []) → ∃ fs, PySem.W.KatTups h vs fs ∧ fs.length = vs.length ∧ ∀ f, f ∈ fs → ∃ n t, f = Value.int n t
  | [], _ => ⟨[], PySem.W.KatTups.nil, rfl, fun f hf => by simp at hf⟩
  | v :: vs, x => by
    obtain ⟨fs, kt, hl, hi⟩ := ti_firsts vs fun u hu => x u (List.mem_cons_of_mem _ hu)
    obtain ⟨⟨a, xs, e0, ⟨o, ho, hc, n, hdt⟩, i⟩, hn⟩ := x v List.mem_cons_self
    generalize k v = ns at i hn
    subst e0
    obtain ⟨y, ys, e⟩ : ∃ y ys, xs.toList = y :: ys := by
      cases q : xs.toList with
      | nil => rw [q] at i; cases i; exact absurd rfl hn
      | cons y ys => exact ⟨y, ys, rfl⟩
    obtain ⟨m, t, hy⟩ := i.all y (by rw [e]; exact List.mem_cons_self)
    refine ⟨y :: fs, PySem.W.KatTups.cons ho hc hdt ?_ kt, by simp [hl], fun f hf => ?_⟩
    · have z : xs.toList[0]? = some y := by rw [e] <;> rfl
      rw [Array.getElem?_toList] at z
      exact z
    · rcases List.mem_cons.mp hf with e | hf
      · exact ⟨m, t, e.trans hy⟩
      · exact hi f hf
theorem ti_sortable {a : Addr} {vs : List Value} {k : Value → List Int} (h0 : 0 < vs.length) (hp : ∀ v ∈ vs, TS.TupInts s.heap v (k v) ∧ k v ≠ []) (ha : ∀ o, s.heap.get? a = some o → o.cls ≠ .type "tuple") : SortableO prog w A s a vs fun v u => lexLt (k v) (k u) := by
  intro h' keep
  have hp' : ∀ v ∈ vs, TS.TupInts h' v (k v) ∧ k v ≠ [] := fun v hm => ⟨(hp v hm).1.keeps fun b o e c => keep b o (fun z => by subst z; exact ha o e c) e, (hp v hm).2⟩
  obtain ⟨fs, h1, h2, h3⟩ := ti_firsts vs hp'
  refine ⟨tuples' true, fun Q E hq => ?_, ti_cmp fun v hm => (hp' v hm).1⟩
  refine PySem.W.kat_kind (T := .type "int") h1 (by omega) (fun f hm => ?_) (by rfl) ?_
  · obtain ⟨x, t, rfl⟩ := h3 f hm
    exact PySem.W.Looks.now
  · rw [show (Value.type "int" != Value.type "tuple") = true by first | decide +kernel | rfl | decide]
    exact hq
end
end PuS
namespace Pu
open PySem PySem.Spec PyProof.Rows L2
def rSortTI (K : PySem.W.Frag) : List V → Hp → VK → Prop := fun vs H Q => ∃ (a : Addr) (xs : List V) (k : V → List Int), vs = [V.ref a] ∧ SqL K H a xs ∧ (∀ x ∈ xs, (k x ≠ [] ∨ xs.length < 2) ∧ ∃ t, x = V.ref t ∧ H t = some (.tup ((k x).map V.int))) ∧
  ∀ ys p, ys.Perm xs → ys.Pairwise (fun x y => HT.lexLt (k y) (k x) = false) → H p = none → Q (.ref p) (upd H p (.lst ys))
theorem cr_sortTI {X : Cx} : CallR X (.builtin "sorted") (rSortTI X.K) := by
  intro pins s σ H vs us Q I r h
  obtain ⟨a, xs, k, rfl, hs, hx, q⟩ := h
  obtain ⟨its, rv, hl, hz⟩ := I.list hs
  obtain ⟨u, rfl, ru⟩ := vals1 r
  obtain rfl : u = Value.ref a := ru
  obtain ⟨e1, e2⟩ := refs_back rv fun x m => by
    obtain ⟨_, t, e, _⟩ := hx x m
    exact ⟨t, e⟩
  have hp : ∀ v ∈ its, TS.TupInts s.heap v (k (backV v)) ∧ (k (backV v) ≠ [] ∨ its.length < 2) := fun v hv => by
    obtain ⟨t, rfl⟩ := e2 v hv
    have hm : V.ref t ∈ xs := by rw [e1]; exact List.mem_map.mpr ⟨_, hv, rfl⟩
    obtain ⟨hn, t', e, ht⟩ := hx _ hm
    cases e
    obtain ⟨i2, rv2, hT, _⟩ := I.tuple (SqT.of (K := X.K) ht)
    exact ⟨⟨t, i2.toArray, rfl, hT, (show IntsAre i2 (k (V.ref t)) from rv2.ints)⟩, hn.imp id fun h => by rw [← rv.length]; exact h⟩
  refine SrtO.sorted_ord (PuS.swo_lexL fun u => k (backV u)) hl.isList (by rw [← rv.length]; exact hz) (fun h2 h₁ a' ha kk => ?_) fun out h1 h2 => ?_
  · refine PuS.ti_sortable (s := { s with heap := h₁ }) (by omega) (fun v hm => ⟨(hp v hm).1.keeps fun b o e _ => (kk b o e).2, (hp v hm).2.resolve_right (by omega)⟩) fun o e => ?_
    have e' := e.symm.trans ha
    cases e'
    intro c
    exact absurd (Value.type.inj c) (by decide)
  · have h3 : ∀ u ∈ out, ∃ a, u = Value.ref a := fun u hu => e2 u (h2.perm.mem_iff.mp hu)
    obtain ⟨n, hn⟩ := PyProof.Rows.sortedAll_at s.heap its out.toArray
    have hb : (out.map backV).Perm xs := by rw [e1]; exact h2.perm.map backV
    refine ⟨.ref _, upd H (s.heap.objs.size + 1) (.lst (out.map backV)), I.laid (t' := s.toks) (fun b o e => PyProof.Rows.sortedAll_old e) (Nat.le_succ _) ⟨?_, out, n, vals_back h3, hn⟩, rfl, q _ _ hb ?_ (I.hok.fresh (Nat.le_succ _))⟩
    · rw [hb.length_eq]; exact hz
    · exact List.pairwise_map.mpr h1
def rSortA (K : PySem.W.Frag) : List V → Hp → VK → Prop := fun vs H Q => rSortedI K vs H Q ∨ rSortTI K vs H Q
theorem k_sortA {X : Cx} {K : PySem.W.Frag} (h : X.K = K) : CallR X (.builtin "sorted") (rSortA K) := by
  subst h
  intro pins s σ H vs us Q I r h
  rcases h with h | h
  · exact cr_sortedI pins s σ H vs us Q I r h
  · exact cr_sortTI pins s σ H vs us Q I r h
def rowsD (rows : List (List Int)) : List D := rows.map fun ns => .tup (dInts ns)
def oSortT : O1 := fun d Q => match d with
  | .lst xs => ∃ rows : List (List Int), xs = rowsD rows ∧ (∀ r ∈ rows, r ≠ [] ∨ rows.length < 2) ∧ ∀ rows' : List (List Int), rows'.Perm rows → rows'.Pairwise (fun a b => HT.lexLt b a = false) → Q (.lst (rowsD rows'))
  | _ => False
def oSortA : O1 := fun d Q => oSortI d Q ∨ oSortT d Q
def kOf (H : Hp) : V → List Int
  | .ref t => match H t with
    | some (.tup ws) => ws.map fun v => match v with | .int i => i | _ => 0
    | _ => []
  | _ => []
theorem kOf_tup {H : Hp} {t : Addr} {ns : List Int} (h : H t = some (.tup (ns.map V.int))) : kOf H (.ref t) = ns := by
  show (match H t with | some (.tup ws) => ws.map (fun v => match v with | .int i => i | _ => 0) | _ => []) = ns
  rw [h]
  show (ns.map V.int).map _ = ns
  rw [List.map_map]
  exact (List.map_congr_left fun _ _ => rfl).trans (List.map_id ns)
section
variable {CT : RT} {H : Hp} {vs : List V} {F : List Addr} {K : PySem.W.Frag}
theorem dInts_inv : ∀ {ns : List Int} {vs : List V} {F : List Addr}, Rps CT H vs (dInts ns) F → vs = ns.map V.int
  | [], _, _, r => by cases r; rfl
  | n :: ns, _, _, r => by
    cases r with
    | cons q r =>
      cases q
      rw [dInts_inv r]
      rfl
theorem rowsD_inv : ∀ {rows : List (List Int)} {vs : List V} {F : List Addr}, Rps CT H vs (rowsD rows) F → vs.map (kOf H) = rows ∧ ∀ x ∈ vs, ∃ t, x = V.ref t ∧ H t = some (.tup ((kOf H x).map V.int))
  | [], _, _, r => by cases r; exact ⟨rfl, fun x h => by simp at h⟩
  | n :: rows, _, _, r => by
    cases r with
    | @cons v _ _ _ vs _ q r =>
      obtain ⟨h1, h2⟩ := rowsD_inv r
      cases q with
      | @tup t ws _ _ ht rt =>
        have e := dInts_inv rt
        subst e
        refine ⟨by rw [List.map_cons, kOf_tup ht, h1], fun x hx => ?_⟩
        rcases List.mem_cons.mp hx with e | hx
        · exact ⟨t, e, by rw [e, kOf_tup ht]; exact ht⟩
        · exact h2 x hx
theorem rowsD_of : ∀ {vs : List V}, (∀ x ∈ vs, ∃ t, x = V.ref t ∧ H t = some (.tup ((kOf H x).map V.int))) → Rps CT H vs (rowsD (vs.map (kOf H))) []
  | [], _ => .nil
  | v :: vs, h => by
    obtain ⟨t, e, ht⟩ := h v List.mem_cons_self
    subst e
    exact .cons (F := []) (.tup ht (rps_dInts _)) (rowsD_of fun x hx => h x (List.mem_cons_of_mem _ hx))
theorem mono_oSortT : Mono1 oSortT := fun d Q Q' k q => by
  cases d <;> first | exact q | skip
  obtain ⟨rows, e, h, q⟩ := q
  exact ⟨rows, e, h, fun r h1 h2 => k _ (q r h1 h2)⟩
theorem sc_sortT : SimC1 CT (rSortTI K) oSortT := ⟨fun H v d F Q a q => by
  cases a with
  | lst ha ra =>
    obtain ⟨rows, rfl, hne, q⟩ := q
    obtain ⟨h1, h2⟩ := rowsD_inv ra
    refine ⟨_, _, kOf H, rfl, SqL.of ha, fun x hx => ⟨(hne _ (by rw [← h1]; exact List.mem_map.mpr ⟨x, hx, rfl⟩)).imp id fun h => by rw [← h1, List.length_map] at h; exact h, h2 x hx⟩, fun ys p hp hw hn => ?_⟩
    have h3 : ∀ x ∈ ys, ∃ t, x = V.ref t ∧ H t = some (.tup ((kOf H x).map V.int)) := fun x hx => h2 x (hp.mem_iff.mp hx)
    refine New.at1 (q (ys.map (kOf H)) (by rw [← h1]; exact hp.map _) (List.pairwise_map.mpr hw)) hn (.lst upd_same ((rowsD_of h3).keep (W := fun _ => False) (Fr.new hn) fun _ z => nomatch z))
  | _ => exact (show False from q).elim, mono_oSortT⟩
theorem sc_sortA : SimC1 CT (rSortA K) oSortA := ⟨fun H v d F Q a q => q.elim (fun q => .inl (sc_sortI.run H v d F Q a q)) fun q => .inr (sc_sortT.run H v d F Q a q),
  fun d Q Q' k q => q.elim (fun q => .inl ((sc_sortI (CT := rt0) (K := default)).mono d Q Q' k q)) fun q => .inr (mono_oSortT d Q Q' k q)⟩
instance : MO1 oSortA := ⟨(sc_sortA (CT := rt0) (K := default)).mono⟩
end
end Pu
set_option Elab.async false
set_option linter.all false
set_option maxRecDepth 100000
namespace Pu
open PySem PySem.Spec PyProof.Rows L2
def keyD : Key → D
  | .inl i => .int i
  | .inr x => .str x
theorem rp_key {CT : RT} {H : Hp} : ∀ k : Key, Rp CT H (kV k) (keyD k) []
  | .inl i => .int i
  | .inr x => .str x
theorem rps_keys {CT : RT} {H : Hp} : ∀ ks : List Key, Rps CT H (ks.map kV) (ks.map keyD) []
  | [] => .nil
  | k :: ks => .cons (F := []) (rp_key k) (rps_keys ks)
def tkD (k : List Key) : D := .tup (k.map keyD)
def oListT : O1 := fun d Q => match d with
  | .dT kvs => Q (.lst (kvs.map fun kv => tkD kv.1))
  | _ => False
def oListK : O1 := fun d Q => match d with
  | .dK kvs => Q (.lst (kvs.map fun kv => keyD kv.1))
  | _ => False
theorem keys_rps {CT : RT} {H : Hp} : ∀ {kvs : List (List Key × V)} {kds : List (List Key × D)} {bs : List Addr}, kvs.map (·.1) = kds.map (·.1) → IsKeys H kvs bs → Rps CT H (bs.map V.ref) (kds.map fun kv => tkD kv.1) []
  | [], [], _, _, h => by cases h; exact .nil
  | [], _ :: _, _, e, _ => by simp at e
  | _ :: _, [], _, e, _ => by simp at e
  | p :: kvs, q :: kds, _, e, h => by
    simp only [List.map_cons, List.cons.injEq] at e
    cases h with
    | cons h1 h2 =>
      refine .cons (F := []) (.tup (H := H) h1 ?_) (keys_rps e.2 h2)
      rw [e.1]
      exact rps_keys _
theorem l_dT : ∃ r, (∀ X : Cx, X.calm = true → CallR X (.type "list") r) ∧ ∀ CT, SimC1 CT r oListT := by
  refine ⟨_, fun X hc => call_list_dT hc, fun CT => ⟨fun H v d F Q a q => ?_, fun d Q Q' k q => by cases d <;> first | exact k _ q | exact q⟩⟩
  cases a with
  | dT ha he ra => exact ⟨_, _, rfl, Rd.of ha, fun p bs hp hb => New.at1 q hp (.lst upd_same ((keys_rps he hb).keep (W := fun _ => False) (Fr.new hp) fun _ z => nomatch z))⟩
  | _ => exact (show False from q).elim
noncomputable def rListT := l_dT.choose
theorem sc_listK {CT : RT} : SimC1 CT rListD oListK := ⟨fun H v d F Q a q => by
  cases a with
  | @dK a kvs kds F ha he ra =>
    refine ⟨_, _, rfl, ha, fun p hp => ?_⟩
    have e : (kvs.map fun kv => kV kv.1) = (kds.map (·.1)).map kV := by rw [← he, List.map_map] <;> rfl
    have e2 : (kds.map fun kv => keyD kv.1) = (kds.map (·.1)).map keyD := by rw [List.map_map] <;> rfl
    have q : New CT H Q (.lst (kds.map fun kv => keyD kv.1)) := q
    rw [e2] at q
    rw [e]
    exact New.at1 q hp (.lst upd_same (rps_keys _))
  | _ => exact (show False from q).elim, fun d Q Q' k q => by cases d <;> first | exact k _ q | exact q⟩
def rListA (K : PySem.W.Frag) : List V → Hp → VK → Prop := fun vs H Q => rListO K vs H Q ∨ rListT vs H Q ∨ rListD vs H Q
theorem k_listA {X : Cx} {K : PySem.W.Frag} (h : X.K = K) (hc : X.calm = true) : CallR X (.type "list") (rListA K) := by
  subst h
  intro pins s σ H vs us Q I r h
  rcases h with h | h | h
  · exact call_list_of pins s σ H vs us Q I r h
  · exact l_dT.choose_spec.1 X hc pins s σ H vs us Q I r h
  · exact call_list_dK hc pins s σ H vs us Q I r h
def oListA : O1 := fun d Q => oList d Q ∨ oListT d Q ∨ oListK d Q
theorem sc_listA {CT : RT} {K : PySem.W.Frag} : SimC1 CT (rListA K) oListA := ⟨fun H v d F Q a q => by
  rcases q with q | q | q
  · exact .inl (sc_list.run H v d F Q a q)
  · exact .inr (.inl ((l_dT.choose_spec.2 CT).run H v d F Q a q))
  · exact .inr (.inr (sc_listK.run H v d F Q a q)), fun d Q Q' k q => by
  rcases q with q | q | q
  · exact .inl ((sc_list (CT := rt0) (K := default)).mono d Q Q' k q)
  · exact .inr (.inl ((l_dT.choose_spec.2 CT).mono d Q Q' k q))
  · exact .inr (.inr ((sc_listK (CT := rt0)).mono d Q Q' k q))⟩
instance : MO1 oListA := ⟨(sc_listA (CT := rt0) (K := default)).mono⟩
def oLenT : O1 := fun d Q => match d with
  | .dT kvs => Q (.int ((kvs.length : Nat) : Int))
  | _ => False
def oLenK : O1 := fun d Q => match d with
  | .dK kvs => Q (.int ((kvs.length : Nat) : Int))
  | _ => False
theorem sc_lenT {CT : RT} : SimC1 CT rLenT oLenT := ⟨fun H v d F Q a q => by
  cases a with
  | @dT a kvs kds F ha he ra =>
    have e : kvs.length = kds.length := by simpa using congrArg List.length he
    refine ⟨_, _, rfl, ha, ?_⟩
    rw [e]
    exact New.imm q (.int _)
  | _ => exact (show False from q).elim, fun d Q Q' k q => by cases d <;> first | exact k _ q | exact q⟩
theorem l_lenK : ∃ r, (∀ X : Cx, CallR X (.builtin "len") r) ∧ ∀ CT, SimC1 CT r oLenK := by
  refine ⟨_, fun X => call_lenD, fun CT => ⟨fun H v d F Q a q => ?_, fun d Q Q' k q => by cases d <;> first | exact k _ q | exact q⟩⟩
  cases a with
  | @dK a kvs kds F ha he ra =>
    have e : kvs.length = kds.length := by simpa using congrArg List.length he
    refine ⟨_, _, rfl, ha, ?_⟩
    rw [e]
    exact New.imm q (.int _)
  | _ => exact (show False from q).elim
noncomputable def rLenK := l_lenK.choose
def rLenA (K : PySem.W.Frag) : List V → Hp → VK → Prop := fun vs H Q => rLen K vs H Q ∨ rLenT vs H Q ∨ rLenK vs H Q
theorem k_lenA {X : Cx} {K : PySem.W.Frag} (h : X.K = K) : CallR X (.builtin "len") (rLenA K) := by
  subst h
  intro pins s σ H vs us Q I r h
  rcases h with h | h | h
  · exact (k_len rfl) pins s σ H vs us Q I r h
  · exact call_len_dT pins s σ H vs us Q I r h
  · exact l_lenK.choose_spec.1 X pins s σ H vs us Q I r h
def oLenA : O1 := fun d Q => oLen d Q ∨ oLenT d Q ∨ oLenK d Q
theorem sc_lenA {CT : RT} {K : PySem.W.Frag} : SimC1 CT (rLenA K) oLenA := ⟨fun H v d F Q a q => by
  rcases q with q | q | q
  · exact .inl (sc_len.run H v d F Q a q)
  · exact .inr (.inl (sc_lenT.run H v d F Q a q))
  · exact .inr (.inr ((l_lenK.choose_spec.2 CT).run H v d F Q a q)), fun d Q Q' k q => by
  rcases q with q | q | q
  · exact .inl ((sc_len (CT := rt0) (K := default)).mono d Q Q' k q)
  · exact .inr (.inl ((sc_lenT (CT := rt0)).mono d Q Q' k q))
  · exact .inr (.inr ((l_lenK.choose_spec.2 rt0).mono d Q Q' k q))⟩
instance : MO1 oLenA := ⟨(sc_lenA (CT := rt0) (K := default)).mono⟩
end Pu
set_option Elab.async false
set_option linter.all false
set_option maxRecDepth 100000
namespace Pu
open PySem PySem.Spec PyProof.Rows L2
section
variable {C : Cfg} {Γ Γ' Γn Γl Γo Γt Γe Γ1 Γ2 : List Mo} {σ σ' : L2.St} {H H' H1 H2 : Hp} {env env' : PEnv} {Fs Fs' Fs1 Fs2 : Nat → List Addr} {v : V} {vs : List V} {d : D} {ds : List D} {F G : List Addr} {ta tb tc te ti : TE} {A B : Kd} {m n mc : X1} {K : PySem.W.Frag} {CT : RT} {S : Stat} {X : Cx}
theorem fn_never {P : Program} {w : World} {mg : Str → Option Value} {base : Heap} {CX : CXT} {k : Nat} {f : Addr} {fd : FuncData} {ps : List Str} {pm : List Bool} (hp : pm.length = ps.length) : FnOk P w K mg base CX k f fd ps (SpM S pm (fun _ _ => False)) :=
  ⟨fun vs H Q E ⟨C, ds, F, _, _, a, _⟩ => by rw [a.len.1, hp], fun A outer s H args us vs Q E _ _ _ _ ⟨_, _, _, _, _, _, _, _, q⟩ => q.elim⟩
def oIsAny (cs : List String) : O1 := fun d Q => match d.ty with
  | some t => Q (.bl (cs.any fun c => subB t c))
  | none => False
theorem mono_oIsAny {cs : List String} : Mono1 (oIsAny cs) := fun d Q Q' k q => by cases d <;> first | exact k _ q | exact q
instance {cs : List String} : MO1 (oIsAny cs) := ⟨mono_oIsAny⟩
class KitBs (cs : List String) : Prop where
  h : ∀ (K : PySem.W.Frag) (d : D) (t : String), d.ty = some t → PySem.W.kitAny K (.type t) (cs.map Value.type) = some (cs.any fun c => subB t c)
instance : KitBs ["tuple", "list"] := ⟨fun K d t h => by cases d <;> simp [D.ty] at h <;> subst h <;> rfl⟩
instance : KitBs ["bool", "str"] := ⟨fun K d t h => by cases d <;> simp [D.ty] at h <;> subst h <;> rfl⟩
abbrev XE := PEnv → (D → PEnv → Prop) → Prop
def Apart (Γ : List Mo) (Fs : Nat → List Addr) (F : List Addr) : Prop := ∀ (j : Nat) (m : Mo), Γ[j]? = some m → live m → ∀ a ∈ F, a ∉ Fs j
structure SimE (C : Cfg) (Γ : List Mo) (t : TE) (m : XE) : Prop where
  run : ∀ (σ : L2.St) (H : Hp) (env : PEnv) (Fs : Nat → List Addr) (Q : VK), Ok C Γ σ H env Fs →
    m env (fun d env' => ∀ v H' F Fs', Ok C Γ σ H' env' Fs' → Go C Γ Fs H Γ Fs' H' → Rp C.CT H' v d F → F.Nodup → NoQ C F → Apart Γ Fs' F → Mine Γ Fs H F → Q v H') → t σ H Q
  mono : ∀ env (Q Q' : D → PEnv → Prop), (∀ d e, Q d e → Q' d e) → m env Q → m env Q'
class MXE (m : XE) : Prop where
  mono : ∀ env (Q Q' : D → PEnv → Prop), (∀ d e, Q d e → Q' d e) → m env Q → m env Q'
def sSetE (i : Nat) (m : XE) : XS := fun E env => m env fun d env' => E.nx (env'.set i (some d))
instance {i : Nat} {m : XE} [h : MXE m] : MS (sSetE i m) := ⟨fun p q => h.mono _ _ _ (fun d e q => p.1 _ q) q⟩
def sRetE (m : XE) : XS := fun E env => m env fun d _ => E.rt d
instance {m : XE} [h : MXE m] : MS (sRetE m) := ⟨fun p q => h.mono _ _ _ (fun d e q => p.2.1 _ q) q⟩
def sAppE (j : Nat) (m : XE) : XS := fun E env => m env fun e env' => xVar j env' fun d => onL d fun xs => xs.length < sizeLine ∧ E.nx (env'.set j (some (.lst (xs ++ [e]))))
def isL (d : Option (Option D)) : Prop := match d with
  | some (some (.lst _)) => True
  | _ => False
def sAppE' (j : Nat) (m : XE) : XS := fun E env => isL env[j]? ∧ sAppE j m E env
instance {j : Nat} {m : XE} [h : MXE m] : MS (sAppE' j m) := ⟨fun p q => ⟨q.1, h.mono _ _ _ (fun d e q => mono_var _ _ _ (fun d q => onL_mono (fun ds q => ⟨q.1, p.1 _ q.2⟩) q) q) q.2⟩⟩
theorem sim_appE {j : Nat} {m : XE} (g : Γ[j]? = some .o) (s : SimE C Γ te m) : SimS C Γl Γ Γ (tDrop (tBM K "list" rAppend (tVar j) (tCons te tNil))) (sAppE' j m) :=
  ⟨fun σ H env Fs D E I lk ⟨hL, hh⟩ => by
    obtain ⟨v, d, h1, h2, h3⟩ := I.val j _ g (.inl rfl)
    rw [h2] at hL
    obtain ⟨a, vs, ds, F0, rfl, rfl, eF0, ha, ra, _⟩ := h3.onL (k := fun _ => True) (by cases d <;> first | exact True.intro | exact hL.elim)
    refine ⟨_, h1, .inl ⟨rfl, _, SqL.of ha⟩, s.run σ H env Fs _ I (s.mono env _ _ (fun e env1 q w H1 G Fs1 I1 g1 r1 nd nq ap mi => ?_) hh)⟩
    obtain ⟨v', d', h1', h2', h3'⟩ := I1.val j _ g (.inl rfl)
    rw [h1] at h1'; cases h1'
    have q : xVar j env1 _ := q
    unfold xVar at q
    rw [h2'] at q
    obtain ⟨b, us, es, F1, ev, rfl, eF, hb, rb, q⟩ := h3'.onL q
    cases ev
    have ndj := I1.nd j g
    rw [eF] at ndj
    have apj := ap j _ g (.inl rfl)
    have nG : a ∉ G := fun z => apj a z (by rw [eF]; exact List.mem_cons_self)
    have nF : a ∉ F1 := (List.nodup_cons.mp ndj).1
    have nda : (F1 ++ G).Nodup := List.nodup_append.mpr ⟨(List.nodup_cons.mp ndj).2, nd, fun x hx y hy z => apj y hy (by rw [eF, ← z]; exact List.mem_cons_of_mem _ hx)⟩
    have rr : Rp C.CT (upd H1 a (.lst (us ++ [w]))) (.ref a) (.lst (es ++ [e])) (a :: (F1 ++ (G ++ []))) := .lst upd_same ((rb.upd hb rfl nF).append (.cons (r1.upd hb rfl nG) .nil))
    rw [List.append_nil] at rr
    have nqj := I1.nq j _ g (.inl rfl)
    rw [eF] at nqj
    have nq2 : NoQ C (a :: (F1 ++ G)) := NoQS.app (F := a :: F1) nqj nq
    have ma : a ∈ Fs1 j := by rw [eF]; exact List.mem_cons_self
    refine ⟨a, us, w, rfl, rfl, hb, by rw [rb.length]; exact q.1, lk.nx σ _ _ _ (I1.root g h1 hb rfl ma rr (List.nodup_cons.mpr ⟨fun z => (List.mem_append.mp z).elim nF nG, nda⟩) (fun x hx => ?_) nq2) ⟨Fr.behind g1 (Fr.at (.inr ⟨j, g, ma⟩) hb rfl), fun k gk x hx => ?_⟩ q.2⟩
    · rcases List.mem_cons.mp hx with z | hx
      · rw [z]; exact .inl ma
      · rcases List.mem_append.mp hx with z | z
        · exact .inl (by rw [eF]; exact List.mem_cons_of_mem _ z)
        · exact .inr fun k mk gk lk hz => ap k mk gk lk x z hz
    · by_cases ek : k = j
      · subst ek
        rw [setF_same] at hx
        have hx : x ∈ Fs1 k ∨ x ∈ G := by
          rcases List.mem_cons.mp hx with z | hx
          · rw [z]; exact .inl ma
          · rcases List.mem_append.mp hx with z | z
            · exact .inl (by rw [eF]; exact List.mem_cons_of_mem _ z)
            · exact .inr z
        exact hx.elim (g1.gr k gk x) (mi x)
      · rw [setF_ne ek] at hx
        exact g1.gr k gk x hx,
   fun E E' env p q => ⟨q.1, s.mono env _ _ (fun d e q => mono_var _ _ _ (fun d q => onL_mono (fun ds q => ⟨q.1, p.1 _ q.2⟩) q) q) q.2⟩⟩
theorem Rps.erase2 : ∀ {vs : List V} {ds : List D} {F : List Addr} (j : Nat) (d : D), Rps CT H vs ds F → ds[j]? = some d → ∃ v Fd F', vs[j]? = some v ∧ Rp CT H v d Fd ∧ Rps CT H (vs.eraseIdx j) (ds.eraseIdx j) F' ∧ F.Perm (Fd ++ F')
  | _, _, _, _, _, .nil, e => by simp at e
  | _, _, _, 0, d, .cons (F := F1) (G := F2) r rs, e => by
    simp at e; subst e
    exact ⟨_, F1, F2, rfl, r, rs, .refl _⟩
  | _, _, _, j + 1, d, .cons (F := F1) (G := F2) r rs, e => by
    obtain ⟨v, Fd, F', h1, h2, h3, h4⟩ := Rps.erase2 j d rs (by simpa using e)
    refine ⟨v, Fd, F1 ++ F', by simpa using h1, h2, .cons r h3, ?_⟩
    have : (F1 ++ F2).Perm (F1 ++ (Fd ++ F')) := h4.append_left F1
    exact this.trans (by rw [← List.append_assoc, ← List.append_assoc]; exact (List.perm_append_comm).append_right F')
def popQ (xs : List D) (e : D) (Q : D → List D → Prop) : Prop := match e with
  | .int k => -(2 ^ 63) ≤ k ∧ k < 2 ^ 63 ∧ (match seqIndex? k xs.length with
    | some j => (match xs[j]? with | some x => Q x (xs.eraseIdx j) | none => False)
    | none => False)
  | _ => False
theorem popQ_mono {xs : List D} {e : D} {Q Q' : D → List D → Prop} (h : ∀ x ys, Q x ys → Q' x ys) (q : popQ xs e Q) : popQ xs e Q' := by
  unfold popQ at q ⊢
  split at q
  · refine ⟨q.1, q.2.1, ?_⟩
    have q := q.2.2
    split at q
    · split at q
      · exact h _ _ q
      · exact q
    · exact q
  · exact q
def xPop (i : Nat) (n : X1) : XE := fun env Q => xVar i env fun d => onL d fun xs => n env fun e => popQ xs e fun x ys => Q x (env.set i (some (.lst ys)))
instance {i : Nat} [h : MX n] : MXE (xPop i n) := ⟨fun env Q Q' k q => mono_var _ _ _ (fun d q => onL_mono (fun ds q => h.mono _ _ _ (fun e q => popQ_mono (fun x ys q => k _ _ q) q) q) q) q⟩
theorem sim_pop {i : Nat} (g : Γ[i]? = some .o) (s : Sim C Γ ti B n) : SimE C Γ (tBM K "list" rPopAt (tVar i) (tCons ti tNil)) (xPop i n) :=
  ⟨fun σ H env Fs Q I hh => by
    obtain ⟨v, d, h1, h2, h3⟩ := I.val i _ g (.inl rfl)
    have hh : xVar i env _ := hh
    unfold xVar at hh
    rw [h2] at hh
    obtain ⟨a, vs, ds, F, rfl, rfl, eF, ha, ra, hh⟩ := h3.onL hh
    refine ⟨_, h1, .inl ⟨rfl, _, SqL.of ha⟩, s.run σ H env Fs _ I (s.mono env _ _ (fun e q w H1 G f dk r2 k2 => ?_) hh)⟩
    unfold popQ at q
    split at q
    · rename_i k
      cases r2
      obtain ⟨q1, q2, q⟩ := q
      cases ej : seqIndex? k ds.length with
      | none => rw [ej] at q; exact q.elim
      | some j =>
        rw [ej] at q
        dsimp only at q
        cases ex : ds[j]? with
        | none => rw [ex] at q; exact q.elim
        | some x =>
          rw [ex] at q
          dsimp only at q
          have nqa := I.nq i _ g (.inl rfl)
          rw [eF] at nqa
          have nda := I.nd i g
          rw [eF] at nda
          have ha1 := f.keep _ _ ha (nqa.wq a List.mem_cons_self)
          have ra1 := ra.keep f fun b hb => nqa.wq b (List.mem_cons_of_mem _ hb)
          obtain ⟨y, Fd, F', hy, ry, re, pm⟩ := ra1.erase2 j x ex
          have nF : a ∉ F := (List.nodup_cons.mp nda).1
          have nd2 : (Fd ++ F').Nodup := pm.nodup_iff.mp (List.nodup_cons.mp nda).2
          have mF : ∀ b, b ∈ Fd ∨ b ∈ F' → b ∈ F := fun b hb => pm.mem_iff.mpr (List.mem_append.mpr hb)
          have nFd : a ∉ Fd := fun z => nF (mF a (.inl z))
          have nF' : a ∉ F' := fun z => nF (mF a (.inr z))
          have ma : a ∈ Fs i := by rw [eF]; exact List.mem_cons_self
          have I1 := I.step f dk
          refine ⟨a, vs, k, j, y, rfl, rfl, ha1, q1, q2, by rw [ra.length]; exact ej, hy, ?_⟩
          refine q y _ Fd (setF Fs i (a :: F')) (I1.root g h1 ha1 rfl ma (F' := a :: F') (.lst upd_same (re.upd ha1 rfl nF')) (List.nodup_cons.mpr ⟨nF', (List.nodup_append.mp nd2).2.1⟩) (fun b hb => .inl ?_) ?_) ⟨?_, fun k gk b hb => ?_⟩ (ry.upd ha1 rfl nFd) (List.nodup_append.mp nd2).1 ?_ ?_ ?_
          · rw [eF]
            rcases List.mem_cons.mp hb with z | z
            · rw [z]; exact List.mem_cons_self
            · exact List.mem_cons_of_mem _ (mF b (.inr z))
          · exact nqa.subm fun b hb => (List.mem_cons.mp hb).elim (fun z => z ▸ List.mem_cons_self) fun z => List.mem_cons_of_mem _ (mF _ (.inr z))
          · exact (f.mono fun _ w => .inl w).trans (Fr.at (.inr ⟨i, g, ma⟩) ha1 rfl)
          · by_cases ek : k = i
            · subst ek
              rw [setF_same] at hb
              refine .inl ⟨k, g, ?_⟩
              rw [eF]
              rcases List.mem_cons.mp hb with z | z
              · rw [z]; exact List.mem_cons_self
              · exact List.mem_cons_of_mem _ (mF b (.inr z))
            · rw [setF_ne ek] at hb; exact .inl ⟨k, gk, hb⟩
          · exact nqa.subm fun b hb => List.mem_cons_of_mem _ (mF _ (.inl hb))
          · intro k mk gk lk b hb hz
            by_cases ek : k = i
            · subst ek
              rw [setF_same] at hz
              rcases List.mem_cons.mp hz with z | z
              · exact nFd (z ▸ hb)
              · exact (List.nodup_append.mp nd2).2.2 b hb b z rfl
            · rw [setF_ne ek] at hz
              exact I.dj i k mk g gk lk (Ne.symm ek) b (by rw [eF]; exact List.mem_cons_of_mem _ (mF b (.inl hb))) hz
          · exact fun b hb => .inl ⟨i, g, by rw [eF]; exact List.mem_cons_of_mem _ (mF b (.inl hb))⟩
    · exact q.elim,
   fun env Q Q' k q => mono_var _ _ _ (fun d q => onL_mono (fun ds q => s.mono _ _ _ (fun e q => popQ_mono (fun x ys q => k _ _ q) q) q) q) q⟩
end
end Pu
set_option Elab.async false
set_option linter.all false
set_option maxRecDepth 100000
set_option maxHeartbeats 4000000
namespace Pu
open PySem PySem.Spec PyProof.Rows L2
section
variable {P : Program} {w : World} {A : Around} {E : Value → Shared → Prop} {s : Shared}
end
end Pu
set_option Elab.async false
set_option linter.all false
set_option maxRecDepth 100000
namespace Pu
open PySem PySem.Spec PyProof.Rows L2
section
variable {X : Cx}
theorem ints_of {CT : RT} {H : Hp} : ∀ {vs : List V} {ns : List Int} {F : List Addr}, Rps CT H vs (ns.map D.int) F → vs = ns.map V.int ∧ F = []
  | _, [], _, .nil => ⟨rfl, rfl⟩
  | _, n :: ns, _, .cons r rs => by
    obtain ⟨h1, h2⟩ := ints_of rs
    cases r
    exact ⟨by rw [h1] <;> rfl, by rw [h2] <;> rfl⟩
end
end Pu
set_option Elab.async false
set_option linter.all false
set_option maxRecDepth 100000
namespace Pu
open PySem PySem.Spec PyProof.Rows L2
def oLtT : O2 := fun d e Q => match d, e with
  | .tup xs, .tup ys => ∃ ns ms : List Int, xs = ns.map D.int ∧ ys = ms.map D.int ∧ Q (.bl (HT.lexLt ns ms))
  | _, _ => False
theorem mono_oLtT : Mono2 oLtT := fun d e Q Q' h q => by
  cases d <;> first | exact q | skip
  cases e <;> first | exact q | skip
  obtain ⟨ns, ms, h1, h2, q⟩ := q
  exact ⟨ns, ms, h1, h2, h _ q⟩
instance : MO2 oLtT := ⟨mono_oLtT⟩
theorem so_ltT {CT : RT} {K : PySem.W.Frag} : SimO2 CT (rLtT K) oLtT := ⟨fun H v w d e F G Q a b q => by
  cases a with
  | tup ha ra =>
    cases b with
    | tup hb rb =>
      obtain ⟨ns, ms, rfl, rfl, q⟩ := q
      obtain ⟨rfl, _⟩ := ints_of ra
      obtain ⟨rfl, _⟩ := ints_of rb
      exact ⟨_, _, ns, ms, rfl, rfl, SqT.of ha, SqT.of hb, New.imm q (.bl _)⟩
    | _ => exact (show False from q).elim
  | _ => exact (show False from q).elim, mono_oLtT⟩
theorem k_ltT {X : Cx} {K : PySem.W.Frag} (h : X.K = K) (hu : X.A.units < cLine) : OpR X (compareOp .Lt) (rLtT K) := h ▸ op_ltT hu
theorem lex_asym : ∀ {a b : List Int}, HT.lexLt a b = true → HT.lexLt b a = false
  | [], [], h => by simp [HT.lexLt] at h
  | [], _ :: _, _ => rfl
  | _ :: _, [], h => by simp [HT.lexLt] at h
  | x :: a, y :: b, h => by
    unfold HT.lexLt at h ⊢
    split at h
    · rename_i e
      rw [if_pos e.symm]; exact lex_asym h
    · rename_i e
      have h := of_decide_eq_true h
      rw [if_neg (Ne.symm e), decide_eq_false (by omega)]
end Pu
set_option Elab.async false
set_option linter.all false
set_option maxRecDepth 100000
namespace Pu
open PySem PySem.Spec PyProof.Rows L2
section
variable {C : Cfg} {Γ Γ' Γn Γl Γo Γt Γe Γ1 Γ2 : List Mo} {σ σ' : L2.St} {H H' H1 H2 : Hp} {env env' : PEnv} {Fs Fs' Fs1 Fs2 : Nat → List Addr} {v : V} {vs : List V} {d : D} {ds : List D} {F G : List Addr} {ta tb tc te ti tn : TE} {t : TA} {A B : Kd} {m n mc : X1} {K : PySem.W.Frag} {CT : RT} {S : Stat} {X : Cx}
theorem Ok.inner (I : Ok C Γ σ H env Fs) {i : Nat} (g : Γ[i]? = some .o) {a : Addr} {o u : HO} {v : V} {d' : D} {F' : List Addr} (hv : σ[i]? = some (some v)) (ha : H a = some o) (hi : Im o = false) (hm : a ∈ Fs i)
    (r : Rp C.CT (upd H a u) v d' F') (nd : F'.Nodup) (sub : ∀ b ∈ F', b ∈ Fs i ∨ ∀ (j : Nat) (m : Mo), Γ[j]? = some m → live m → b ∉ Fs j) (nq : NoQ C F') :
    Ok C Γ σ (upd H a u) (env.set i (some d')) (setF Fs i F') := by
  have fr : Fr (fun b => b = a) H (upd H a u) := Fr.at rfl ha hi
  have hΓ : i < Γ.length := (List.getElem?_eq_some_iff.mp g).1
  refine ⟨by simp [I.le], I.ls, fun j m gj l => ?_, I.dice, fun j gj => ?_, fun j k m gj gk l ne b hb hb' => ?_, fun j m gj l => ?_, I.dk.own (I.nq i _ g (.inl rfl)) hm ha hi, I.pn, fns_own (fns_upd I.fn ha hi) (by assumption) fun j n => setF_ne n⟩
  · by_cases e : j = i
    · subst e
      exact ⟨_, d', hv, by rw [List.getElem?_set_self (by rw [I.le]; exact hΓ)], by rw [setF_same]; exact r⟩
    · obtain ⟨v, d, h1, h2, h3⟩ := I.val j m gj l
      refine ⟨v, d, h1, by rw [List.getElem?_set_ne (Ne.symm e)]; exact h2, ?_⟩
      rw [setF_ne e]
      exact h3.keep fr fun b hb z => I.dj i j m g gj l (Ne.symm e) a hm (z ▸ hb)
  · by_cases e : j = i
    · subst e; rw [setF_same]; exact nd
    · rw [setF_ne e]; exact I.nd j gj
  · by_cases e : j = i
    · subst e
      rw [setF_same] at hb
      rw [setF_ne (Ne.symm ne)] at hb'
      rcases sub b hb with z | z
      · exact I.dj j k m g gk l ne b z hb'
      · exact z k m gk l hb'
    · rw [setF_ne e] at hb
      by_cases e2 : k = i
      · subst e2
        rw [setF_same] at hb'
        rcases sub b hb' with z | z
        · exact I.dj j k .o gj g (.inl rfl) ne b hb z
        · exact z j .o gj (.inl rfl) hb
      · rw [setF_ne e2] at hb'
        exact I.dj j k m gj gk l ne b hb hb'
  · by_cases e : j = i
    · subst e; rw [setF_same]; exact nq
    · rw [setF_ne e]; exact I.nq j m gj l
theorem Lk.inner {D : Ends} {E : PEnds} (lk : Lk C Γ Fs H Γ Γl D E) (I : Ok C Γ σ H env Fs) (f : Fr (Wq C) H H1) (dk : DiceOk C H1) {i : Nat} (g : Γ[i]? = some .o) {a : Addr} {o u : HO} {v : V} {d' : Pu.D} {F' : List Addr}
    (hv : σ[i]? = some (some v)) (ha : H1 a = some o) (hi : Im o = false) (hm : a ∈ Fs i) (r : Rp C.CT (L2.upd H1 a u) v d' F') (nd : F'.Nodup) (hs : ∀ b ∈ F', b ∈ Fs i ∨ H b = none)
    (q : E.nx (env.set i (some d'))) : D.nx σ (L2.upd H1 a u) := by
  have nq : NoQ C F' := (I.nq i _ g (.inl rfl)).grow I.dk hs
  have I1 := I.step f dk
  refine lk.nx σ _ _ _ (I1.inner g hv ha hi hm r nd (fun b hb => ?_) nq) ⟨(f.mono fun _ w => .inl w).trans (Fr.at (.inr ⟨i, g, hm⟩) ha hi), fun j gj b hb => ?_⟩ q
  · rcases hs b hb with z | z
    · exact .inl z
    · exact .inr fun j m gj l hb => I.tracked gj l b hb z
  · by_cases ej : j = i
    · subst ej
      rw [setF_same] at hb
      exact (hs b hb).imp (fun z => ⟨j, g, z⟩) id
    · rw [setF_ne ej] at hb; exact .inl ⟨j, gj, hb⟩
end
end Pu
set_option Elab.async false
set_option linter.all false
set_option maxRecDepth 100000
namespace Pu
open PySem PySem.Spec PyProof.Rows L2
section
variable {C : Cfg} {Γ Γ' Γn Γl Γo Γt Γe Γ1 Γ2 : List Mo} {σ σ' : L2.St} {H H' H1 H2 : Hp} {env env' : PEnv} {Fs Fs' Fs1 Fs2 : Nat → List Addr} {v : V} {vs : List V} {d : D} {ds : List D} {F G : List Addr} {ta tb tc te ti tn tm tv : TE} {t : TA} {A B A' : Kd} {m n mc mv : X1} {K : PySem.W.Frag} {CT : RT} {S : Stat} {X : Cx}
end
end Pu
set_option Elab.async false
set_option linter.all false
set_option maxRecDepth 100000
namespace Pu
open PySem PySem.Spec PyProof.Rows L2
section
variable {C : Cfg} {Γ Γ' Γn Γl Γo Γt Γe Γ1 Γ2 : List Mo} {σ σ' : L2.St} {H H' H1 H2 : Hp} {env env' : PEnv} {Fs Fs' Fs1 Fs2 : Nat → List Addr} {v : V} {vs : List V} {d : D} {ds : List D} {F G : List Addr} {ta tb tc te ti tn tm tv : TE} {t : TA} {A B A' B' : Kd} {m n mc mv : X1} {K : PySem.W.Frag} {CT : RT} {S : Stat} {X : Cx}
structure Part (C : Cfg) (Fs : Nat → List Addr) (H : Hp) (i : Nat) (v : V) (z : Int) (xs : List D) (j : Nat) (b : Addr) (ws : List V) (bs : List D) : Prop where
  at' : ∃ a us, v = .ref a ∧ H a = some (.lst us) ∧ L2.atI us z = some (.ref b)
  hb : H b = some (.lst ws)
  rb : Rps C.CT H ws bs []
  mem : b ∈ Fs i
  put : ∀ (ws' : List V) (bs' : List D), Rps C.CT H ws' bs' [] → ∃ F', Rp C.CT (upd H b (.lst ws')) v (.lst (xs.set j (.lst bs'))) F' ∧ F'.Nodup ∧ ∀ c ∈ F', c ∈ Fs i
theorem Part.fin {D : Ends} {E : PEnds} {i : Nat} {v : V} {z : Int} {xs bs bs' : List Pu.D} {j : Nat} {b : Addr} {ws ws' : List V} (lk : Lk C Γ Fs H Γ Γl D E) (I : Ok C Γ σ H env Fs) (f : Fr (Wq C) H H1) (dk : DiceOk C H1) (g : Γ[i]? = some .o) (hv : σ[i]? = some (some v))
    (p : Part C Fs H1 i v z xs j b ws bs) (r : Rps C.CT H1 ws' bs' []) (q : E.nx (env.set i (some (.lst (xs.set j (.lst bs')))))) : D.nx σ (L2.upd H1 b (.lst ws')) := by
  obtain ⟨F', h1, h2, h3⟩ := p.put ws' bs' r
  exact lk.inner I f dk g hv p.hb rfl p.mem h1 h2 (fun c hc => .inl (h3 c hc)) q
end
end Pu
set_option Elab.async false
set_option linter.all false
set_option maxRecDepth 100000
namespace Pu
open PySem PySem.Spec PyProof.Rows L2
section
variable {C : Cfg} {Γ Γ' Γn Γl Γo Γt Γe Γ1 Γ2 Γf Γu : List Mo} {σ σ' : L2.St} {H H' H1 H2 : Hp} {env env' : PEnv} {Fs Fs' Fs1 Fs2 : Nat → List Addr} {v : V} {vs : List V} {d : D} {ds : List D} {F G : List Addr} {ta tb te : TE} {A B : Kd} {m n : X1} {K : PySem.W.Frag} {CT : RT}
mutual
theorem Rp.thaw {p : Addr} {od : Obj} {u o : HO} (hp : H p = some (.frz od u)) : ∀ {v : V} {d : D} {F : List Addr}, Rp CT H v d F → Rp CT (upd H p o) v d F
  | _, _, _, .non => .non
  | _, _, _, .bl b => .bl b
  | _, _, _, .int b => .int b
  | _, _, _, .str b => .str b
  | _, _, _, .tup h r => .tup (by rw [upd_ne (fun z => by rw [z, hp] at h; cases h)]; exact h) (Rps.thaw hp r)
  | _, _, _, .lst h r => .lst (by rw [upd_ne (fun z => by rw [z, hp] at h; cases h)]; exact h) (Rps.thaw hp r)
  | _, _, _, .dK h k r => .dK (by rw [upd_ne (fun z => by rw [z, hp] at h; cases h)]; exact h) k (Rps.thaw hp r)
  | _, _, _, .dT h k r => .dT (by rw [upd_ne (fun z => by rw [z, hp] at h; cases h)]; exact h) k (Rps.thaw hp r)
  | _, _, _, .obj h k r => .obj (by rw [upd_ne (fun z => by rw [z, hp] at h; cases h)]; exact h) k (Rps.thaw hp r)
  | _, _, _, .fz h e k r => .fz (by rw [upd_ne (fun z => by rw [z, hp] at h; cases h)]; exact h) e k (Rps.thaw hp r)
  | _, _, _, .dN h k z r1 r => .dN (by rw [upd_ne (fun z => by rw [z, hp] at h; cases h)]; exact h) k z (Rps.thaw hp r1) (Rps.thaw hp r)
  | _, _, _, .clo x r nc => .clo ⟨by rw [upd_ne (fun z => by have := x.hf; rw [z, hp] at this; exact (CT.ok _ _ _ _).like.nz _ _ (Option.some.inj this).symm)]; exact x.hf, by rw [upd_ne (fun z => by have := x.hc; rw [z, hp] at this; cases this)]; exact x.hc, x.nm, x.nn, x.nd, x.len, fun i c v e1 e2 => by
      obtain ⟨o1, u1, h1, h2, h3⟩ := x.cw i c v e1 e2
      exact ⟨o1, u1, by rw [upd_ne (fun z => by rw [z, hp] at h1; cases h1)]; exact h1, h2, h3⟩⟩ (Rps.thaw hp r) nc
theorem Rps.thaw {p : Addr} {od : Obj} {u o : HO} (hp : H p = some (.frz od u)) : ∀ {vs : List V} {ds : List D} {F : List Addr}, Rps CT H vs ds F → Rps CT (upd H p o) vs ds F
  | _, _, _, .nil => .nil
  | _, _, _, .cons h r => .cons (Rp.thaw hp h) (Rps.thaw hp r)
end
def immAt : List Nat → PEnv → Bool
  | [], _ => true
  | j :: js, env => (match env[j]? with | some (some d) => d.imm | _ => false) && immAt js env
theorem immAt_at {j : Nat} {env : PEnv} : ∀ {us : List Nat}, immAt us env = true → j ∈ us → ∃ d, env[j]? = some (some d) ∧ d.imm = true
  | k :: us, h, m => by
    simp only [immAt, Bool.and_eq_true] at h
    rcases List.mem_cons.mp m with e | m
    · subst e
      have h1 := h.1
      split at h1
      · exact ⟨_, by assumption, h1⟩
      · cases h1
    · exact immAt_at h.2 m
def lkOk (us : List Nat) : Nat → List Mo → List Mo → Bool
  | _, [], [] => true
  | n, a :: as, b :: bs => (decide (b = .x) || (decide (b = .f) && decide (n ∈ us) && (decide (a = .o) || decide (a = .f)))) && lkOk us (n + 1) as bs
  | _, _, _ => false
theorem lkOk_len {us : List Nat} : ∀ {n : Nat} {as bs : List Mo}, lkOk us n as bs = true → as.length = bs.length
  | _, [], [], _ => rfl
  | n, a :: as, b :: bs, h => by
    simp only [lkOk, Bool.and_eq_true] at h
    simp [lkOk_len h.2]
  | _, [], _ :: _, h => by simp [lkOk] at h
  | _, _ :: _, [], h => by simp [lkOk] at h
theorem lkOk_at {us : List Nat} : ∀ {n : Nat} {as bs : List Mo} {i : Nat} {b : Mo}, lkOk us n as bs = true → bs[i]? = some b → b = .x ∨ (b = .f ∧ n + i ∈ us ∧ ∃ a, as[i]? = some a ∧ live a)
  | n, a :: as, b :: bs, 0, c, h, e => by
    simp only [lkOk, Bool.and_eq_true, Bool.or_eq_true, decide_eq_true_eq] at h
    simp at e; subst e
    rcases h.1 with z | ⟨⟨z, m⟩, l⟩
    · exact .inl z
    · exact .inr ⟨z, m, a, rfl, l⟩
  | n, a :: as, b :: bs, i + 1, c, h, e => by
    simp only [lkOk, Bool.and_eq_true] at h
    have := lkOk_at (i := i) h.2 (by simpa using e)
    rw [Nat.add_right_comm] at this
    simpa [Nat.add_assoc] using this
  | _, [], [], _, _, _, e => by simp at e
  | _, [], _ :: _, _, _, h, _ => by simp [lkOk] at h
  | _, _ :: _, [], _, _, h, _ => by simp [lkOk] at h
end
end Pu
set_option Elab.async false
set_option linter.all false
set_option maxRecDepth 100000
set_option maxHeartbeats 1000000
namespace Pu
open PySem PySem.Spec PyProof.Rows L2
section
variable {prog : Program} {w : World} {A : Around} {E : Value → Shared → Prop} {s : Shared} {z TI TO T i1 i2 l1 l2 : Addr} {f : Bool} {oT : Obj} {k : Nat} {xs ys : Array Value} {x y : Value}
end
end Pu
set_option Elab.async false
set_option linter.all false
set_option maxRecDepth 100000
set_option maxHeartbeats 1000000
namespace Pu
open PySem PySem.Spec PyProof.Rows L2
section
variable {prog : Program} {w : World} {A : Around} {E : Value → Shared → Prop} {s s0 : Shared} {z TI TO T i1 i2 l1 l2 S : Addr} {f : Bool} {oT : Obj} {k i : Nat} {xs ys : Array Value} {x y : Value} {Ts : List Addr} {c : Nat} {R : Result → Shared → Prop}
abbrev lsO (acc : Array Value) (c : Nat) : Obj := { cls := .type "list", dict := none, data := .seq acc c, slots := #[] }
structure Out (S bs : Addr) (xs ys : Array Value) (s : Shared) (Ts : List Addr) (c : Nat) : Prop where
  ls : s.heap.get? S = some (lsO (Ts.map Value.ref).toArray c)
  pw : Ts.Pairwise (· < ·)
  lt : ∀ T ∈ Ts, bs ≤ T ∧ T < s.heap.objs.size
  at' : ∀ (j : Nat) (T : Addr), Ts[j]? = some T → ∃ x y, xs[j]? = some x ∧ ys[j]? = some y ∧ IsPair s.heap T x y
structure Zs (z TI TO i1 i2 l1 l2 S bs : Addr) (xs ys : Array Value) (s0 s : Shared) (Ts : List Addr) (c : Nat) : Prop where
  zs : (IsZip s.heap z TI TO .none ∧ Ts = []) ∨ ∃ T f oT, IsZipHeld s.heap z TI TO T f ∧ s.heap.get? T = some oT
  ti : IsPair s.heap TI (.ref i1) (.ref i2)
  to : ∃ a b, IsPair s.heap TO a b
  a1 : s.heap.IsTupleIter i1 l1 Ts.length
  a2 : s.heap.IsTupleIter i2 l2 Ts.length
  b1 : s.heap.IsTuple l1 xs
  b2 : s.heap.IsTuple l2 ys
  out : Out S bs xs ys s Ts c
  kp : ∀ b o, s0.heap.get? b = some o → s.heap.get? b = some o
  sz : bs ≤ s.heap.objs.size
  eq : s = { s0 with heap := s.heap }
structure ZApart (z TI TO i1 i2 l1 l2 S bs : Addr) (s0 : Shared) : Prop where
  D : ZipApart z TI TO i1 i2 l1 l2
  ge : ∀ b ∈ [z, TI, TO, i1, i2, S], s0.heap.objs.size ≤ b ∧ b < bs
  lt : ∀ b ∈ [l1, l2], b < s0.heap.objs.size
  ne : S ≠ z ∧ S ≠ TI ∧ S ≠ TO ∧ S ≠ i1 ∧ S ≠ i2
theorem Zs.push {bs : Addr} (ap : ZApart z TI TO i1 i2 l1 l2 S bs s0) (q : Zs z TI TO i1 i2 l1 l2 S bs xs ys s0 s Ts c) {h' : Heap} {T0 : Addr} {f0 : Bool} (hx : xs[Ts.length]? = some x) (hy : ys[Ts.length]? = some y)
    (az : IsZipHeld h' z TI TO T0 f0) (aT : ∃ oT, h'.get? T0 = some oT) (to : ∃ a b, IsPair h' TO a b) (a1 : h'.IsTupleIter i1 l1 (Ts.length + 1)) (a2 : h'.IsTupleIter i2 l2 (Ts.length + 1)) (pr : IsPair h' s.heap.objs.size x y) (hsz : h'.objs.size = s.heap.objs.size + 1)
    (kp : ∀ c o, c ≠ z → c ≠ TO → c ≠ i1 → c ≠ i2 → s.heap.get? c = some o → h'.get? c = some o) :
    ∃ c', Zs z TI TO i1 i2 l1 l2 S bs xs ys s0 { s with heap := h'.update S (Obj.mapSeq (·.push (.ref s.heap.objs.size))) } (Ts ++ [s.heap.objs.size]) c' := by
  obtain ⟨n1, n2, n3, n4, n5⟩ := ap.ne
  have gS : h'.get? S = some (lsO (Ts.map Value.ref).toArray c) := kp _ _ n1 n3 n4 n5 q.out.ls
  have hS := Heap.get?_update_self (Obj.mapSeq (·.push (Value.ref s.heap.objs.size))) gS rfl
  have up : ∀ b o, b ≠ S → h'.get? b = some o → (h'.update S (Obj.mapSeq (·.push (Value.ref s.heap.objs.size)))).get? b = some o := fun b o hb e => (Heap.get?_update_other _ _ (Ne.symm hb)).trans e
  have ltS : S < s.heap.objs.size := Heap.lt_size q.out.ls
  have usz : (h'.update S (Obj.mapSeq (·.push (Value.ref s.heap.objs.size)))).objs.size = s.heap.objs.size + 1 := by rw [← hsz]; exact Heap.size_update ..
  have old : ∀ b o, b ∉ [z, TI, TO, i1, i2, S] → s.heap.get? b = some o → (h'.update S (Obj.mapSeq (·.push (Value.ref s.heap.objs.size)))).get? b = some o := fun b o hb e => by
    simp only [List.mem_cons, List.not_mem_nil, or_false, not_or] at hb
    exact up b o hb.2.2.2.2.2 (kp b o hb.1 hb.2.2.1 hb.2.2.2.1 hb.2.2.2.2.1 e)
  have low : ∀ b, b < s0.heap.objs.size → b ∉ [z, TI, TO, i1, i2, S] := fun b hb m => absurd (ap.ge b m).1 (Nat.not_le_of_lt hb)
  have high : ∀ b, bs ≤ b → b ∉ [z, TI, TO, i1, i2, S] := fun b hb m => absurd (ap.ge b m).2 (Nat.not_lt_of_le hb)
  have l1 := low _ (ap.lt l1 (by simp))
  have l2 := low _ (ap.lt l2 (by simp))
  have em : ∃ c', Obj.mapSeq (·.push (Value.ref s.heap.objs.size)) (lsO (Ts.map Value.ref).toArray c) = lsO ((Ts ++ [s.heap.objs.size]).map Value.ref).toArray c' := ⟨_, by rw [List.map_append, List.map_singleton, ← List.push_toArray]; rfl⟩
  obtain ⟨c', em⟩ := em
  refine ⟨c', .inr ?_, up _ _ n2.symm (kp _ _ ap.D.TIz ap.D.TITO ap.D.TIi1 ap.D.TIi2 q.ti), ?_, ?_, ?_, ?_, ?_, ⟨hS.trans ?_, ?_, ?_, ?_⟩, fun b o e => old b o (low b (Heap.lt_size e)) (q.kp b o e), ?_, ?_⟩
  · obtain ⟨oT, eT⟩ := aT
    by_cases e : T0 = S
    · exact ⟨T0, f0, _, up _ _ n1.symm az, by rw [e]; exact hS⟩
    · exact ⟨T0, f0, oT, up _ _ n1.symm az, up _ _ e eT⟩
  · obtain ⟨a, b, e⟩ := to
    exact ⟨a, b, up _ _ n3.symm e⟩
  · rw [List.length_append]; exact a1.at fun o e => up _ o n4.symm e
  · rw [List.length_append]; exact a2.at fun o e => up _ o n5.symm e
  · obtain ⟨o, e, r⟩ := q.b1
    exact ⟨o, old _ o l1 e, r⟩
  · obtain ⟨o, e, r⟩ := q.b2
    exact ⟨o, old _ o l2 e, r⟩
  · rw [em]
  · exact List.pairwise_append.mpr ⟨q.out.pw, List.pairwise_singleton _ _, fun a ha b hb => by rw [List.mem_singleton.mp hb]; exact (q.out.lt a ha).2⟩
  · intro T hT
    show bs ≤ T ∧ T < (h'.update S _).objs.size
    rw [usz]
    rcases List.mem_append.mp hT with m | m
    · have := q.out.lt T m
      exact ⟨this.1, Nat.lt_succ_of_lt this.2⟩
    · rw [List.mem_singleton.mp m]
      exact ⟨q.sz, Nat.lt_succ_self _⟩
  · intro j T hT
    by_cases hj : j < Ts.length
    · rw [List.getElem?_append_left hj] at hT
      obtain ⟨x, y, e1, e2, e3⟩ := q.out.at' j T hT
      exact ⟨x, y, e1, e2, old _ _ (high T (q.out.lt T (List.mem_of_getElem? hT)).1) e3⟩
    · rw [List.getElem?_append_right (by omega)] at hT
      have ej : j = Ts.length := by
        have := (List.getElem?_eq_some_iff.mp hT).1
        simp at this
        omega
      subst ej
      rw [Nat.sub_self] at hT
      cases hT
      exact ⟨x, y, hx, hy, up _ _ (Nat.ne_of_gt ltS) pr⟩
  · show bs ≤ (h'.update S _).objs.size
    rw [usz]
    exact Nat.le_succ_of_le q.sz
  · show _ = _
    rw [q.eq]
end
end Pu
set_option Elab.async false
set_option linter.all false
set_option maxRecDepth 100000
set_option maxHeartbeats 1000000
namespace Pu
open PySem PySem.Spec PyProof.Rows L2
section
variable {prog : Program} {w : World} {A : Around} {E : Value → Shared → Prop} {s s0 : Shared} {z TI TO T i1 i2 l1 l2 S bs : Addr} {f : Bool} {oT : Obj} {k i : Nat} {xs ys : Array Value} {x y : Value} {Ts : List Addr} {c : Nat} {R : Result → Shared → Prop} {res : Value}
end
end Pu
set_option Elab.async false
set_option linter.all false
set_option maxRecDepth 100000
set_option maxHeartbeats 1000000
namespace Pu
open PySem PySem.Spec PyProof.Rows L2
end Pu
set_option Elab.async false
set_option linter.all false
set_option maxRecDepth 100000
namespace Pu
open PySem PySem.Spec PyProof.Rows L2
section
variable {C : Cfg} {Γ Γ' Γn Γl Γo Γt Γe Γ1 Γ2 Γf Γu : List Mo} {σ σ' : L2.St} {H H' H1 H2 : Hp} {env env' : PEnv} {Fs Fs' Fs1 Fs2 : Nat → List Addr} {v : V} {vs : List V} {d : D} {ds : List D} {F G : List Addr} {ta tb te : TE} {A B : Kd} {m n : X1} {K : PySem.W.Frag} {CT : RT}
end
end Pu
set_option Elab.async false
set_option linter.all false
set_option maxRecDepth 100000
set_option maxHeartbeats 1000000
namespace PuS
open PySem PySem.Spec PySem.W PyProof.Rows SrtO
section
variable {prog : Program} {w : World} {s : Shared} {A : Around} {E : Value → Shared → Prop}
theorem tup_type {M : Model} {h : Heap} {v : Value} {ns : List Int} (x : TS.TupInts h v ns) : Looks M h (typeOf v) (.type "tuple") := by
  obtain ⟨a, xs, rfl, ⟨o, ho, hc, n, hd⟩, i⟩ := x; have := (Looks.ld (M := M) (part := none) ho).andThen (f := fun o => (pure o.cls : Sem Value)) .now
  rw [hc] at this
  exact this
theorem tup_isT {M : Model} {h : Heap} {v : Value} {ns : List Int} (x : TS.TupInts h v ns) : Looks M h (isInstance v (.type "tuple")) true := (tup_type x).andThen (Looks.of_pure sub_tuple_self)
theorem lt_tup {v u : Value} {ns ms : List Int} {Q : Bool → Shared → Prop} (hu : A.units < cLine) (hv : TS.TupInts s.heap v ns) (hw : TS.TupInts s.heap u ms) (h : Q (HT.lexLt ns ms) s) : wpAny (model prog w) A (keyLt' oneType' v u) Q E s := by
  have tv : Looks (model prog w) s.heap (typeOf v) (.type "tuple") := tup_type hv
  have sp : Looks (model prog w) s.heap (specialOf v "__lt__") (some (.builtin "tuple.__lt__")) := tv.andThen (Looks.of_pure PySem.F.slot_tuple_lt.lookup)
  have iv : Looks (model prog w) s.heap (isInstance v (.type "tuple")) true := tup_isT hv
  have iu : ∀ M : Model, Looks M s.heap (isInstance u (.type "tuple")) true := fun M => tup_isT hw
  obtain ⟨a, xs, rfl, ⟨⟨c1, d1, t1, s1⟩, ho, hc, n, hd⟩, ia⟩ := hv
  obtain ⟨b, ys, rfl, ⟨⟨c2, d2, t2, s2⟩, ho', hc', n', hd'⟩, ib⟩ := hw
  simp only at hc hd hc' hd'
  subst hc hd hc' hd'
  have callT : ∀ (A : Around) (E : Value → Shared → Prop) (Q : Value → Shared → Prop), Q (.bool (HT.lexLt ns ms)) s → wpAny (model prog w) A (call (.builtin "tuple.__lt__") [.ref a, .ref b]) Q E s := fun A E Q h => by
    refine wpAny_call (codeAny_call_builtin PySem.F.slot_tuple_lt.plain PySem.F.entry_tuple_lt (@check_slot (model prog w) _ _ _ "tuple.__lt__" "tuple" "__lt__" (.ref a) [.ref b] [] _ (by decide +kernel) (by decide +kernel) iv (PySem.F.args_tuple_lt_2 _ _) ?_)); refine wpAny_mono (NtL.nt_lt_ints a b (.type "tuple") (.type "tuple") xs ys n n' d1 d2 s1 s2 ns ms ia ib prog w _ (wants Q E) s ⟨ho, ho', iu, h⟩) (fun fin s' q => ?_) fun _ _ z => z
    cases fin with
    | done f => exact q
    | again c => exact q
  rw [keyLt'_oneType, oneLt'_eq]; simp only [if_true]
  exact wpAny_bind (wpAny_cRoomFor hu (wpAny_bind (NtL.csib (E := E) sp (PySem.F.slot_tuple_lt.bind _) (callT _ _ _ (wpAny_truthy_bool h)))))
theorem firsts_of {M : Model} {k : Value → List Int} : ∀ (vs : List Value) {Q : List (Option Value) → Shared → Prop}, (∀ v ∈ vs, TS.TupInts s.heap v (k v)) → (∀ fs : List (Option Value), (∀ v r, vs = v :: r → k v = [] → fs[0]? = some none) → Q fs s) → wpAny M A (vs.mapM firstOfTuple') Q E s
  | [], _, _, h => by rw [List.mapM_nil]; exact wpAny_pure (h [] fun v r e => nomatch e)
  | v :: vs, Q, t, h => by
    obtain ⟨a, xs, e0, ⟨o, ho, hc, n, hd⟩, i⟩ := t v List.mem_cons_self
    rw [List.mapM_cons]
    refine wpAny_bind ?_
    rw [kas_first_eq, e0]; refine wpAny_bind (Looks.here (show Looks M s.heap (typeOf (.ref a)) o.cls from (Looks.ld ho).andThen .now) ?_); rw [hc, if_neg (by first | decide | simp)]; refine wpAny_bind (listItems_at ho hd (wpAny_pure ?_))
    refine wpAny_bind (firsts_of vs (Q := fun bs s' => wpAny M A (pure (xs[0]? :: bs)) Q E s') (fun u hu => t u (List.mem_cons_of_mem _ hu)) fun fs _ => wpAny_pure (h _ fun v' r e en => ?_))
    cases e
    rw [en] at i
    have : xs.toList = [] := by cases hx : xs.toList with
      | nil => rfl
      | cons y ys => rw [hx] at i; cases i
    have e2 : xs[0]? = none := by rw [← Array.getElem?_toList, this]; rfl
    rw [e2]
    rfl
theorem kind_e {M : Model} {vs : List Value} {k : Value → List Int} {Q : SortKind → Shared → Prop} {v : Value} {r : List Value} (e : vs = v :: r) (en : k v = []) (t : ∀ v ∈ vs, TS.TupInts s.heap v (k v)) (h : Q oneType' s) : wpAny M A (keyKind' vs.toArray) Q E s := by
  rw [kat_kind_eq, List.mapM_toArray, map_eq_pure_bind]; refine wpAny_bind (wpAny_bind (firsts_of vs t fun fs hf => wpAny_pure ?_))
  have f0 := hf v r e en
  have n1 : (fs.toArray.all fun x => x.isSome) = false := by
    rw [List.all_toArray, List.all_eq_false]
    exact ⟨none, List.mem_of_getElem? f0, by simp⟩
  have n2 : ((fs.toArray[0]?).bind id).isSome = false := by rw [List.getElem?_toArray, f0]; rfl
  rw [if_neg (by rw [n1]; exact Bool.false_ne_true), if_neg (by rw [n2]; exact Bool.false_ne_true)]; rw [oneTypeOnly'_eq, List.mapM_toArray, map_eq_pure_bind]
  refine wpAny_bind (wpAny_bind (wpAny_bind (kas_mapM (r := Value.type "tuple") _ (fun v hv Q' hq => (tup_type (t v hv)).here hq) (wpAny_pure ?_))))
  have h0 : (vs.map fun _ => Value.type "tuple").toArray[0]? = some (Value.type "tuple") := by rw [e]; rfl
  have hall : ((vs.map fun _ => Value.type "tuple").toArray.all fun x => x == Value.type "tuple") = true := by
    rw [List.all_toArray, List.all_map, List.all_eq_true]
    intro _ _
    show (Value.type "tuple" == Value.type "tuple") = true
    first | decide | simp
  rw [h0]
  simp only [hall, if_true]; exact wpAny_pure (wpAny_pure h)
theorem te_sortable {a : Addr} {vs : List Value} {k : Value → List Int} {v : Value} {r : List Value} (hu : A.units < cLine) (e : vs = v :: r) (en : k v = []) (hp : ∀ v ∈ vs, TS.TupInts s.heap v (k v)) (ha : ∀ o, s.heap.get? a = some o → o.cls ≠ .type "tuple") : SortableO prog w A s a vs fun v u => HT.lexLt (k v) (k u) := by
  intro h' keep
  have hp' : ∀ v ∈ vs, TS.TupInts h' v (k v) := fun v hm => (hp v hm).keeps fun b o e c => keep b o (fun z => by subst z; exact ha o e c) e
  exact ⟨oneType', fun Q E hq => kind_e (s := { s with heap := h' }) e en hp' hq, fun p q hm hm' => lt_tup (Q := fun r s' => s' = { s with heap := h' } ∧ r = HT.lexLt (k p.1) (k q.1)) (E := fun _ _ => False) (s := { s with heap := h' }) hu (hp' _ hm) (hp' _ hm') ⟨rfl, rfl⟩⟩
end
end PuS
namespace Pu
open PySem PySem.Spec PyProof.Rows L2
def rSortTE (K : PySem.W.Frag) : List V → Hp → VK → Prop := fun vs H Q => ∃ (a : Addr) (x0 : V) (xs : List V) (k : V → List Int), vs = [V.ref a] ∧ SqL K H a (x0 :: xs) ∧ k x0 = [] ∧ (∀ x ∈ x0 :: xs, ∃ t, x = V.ref t ∧ H t = some (.tup ((k x).map V.int))) ∧
  ∀ ys p, ys.Perm (x0 :: xs) → ys.Pairwise (fun x y => HT.lexLt (k y) (k x) = false) → H p = none → Q (.ref p) (upd H p (.lst ys))
theorem cr_sortTE {X : Cx} (hu : X.A.units + 64 < cLine) : CallR X (.builtin "sorted") (rSortTE X.K) := by
  intro pins s σ H vs us Q I r h; obtain ⟨a, x0, xs, k, rfl, hs, h0, hx, q⟩ := h; obtain ⟨its, rv, hl, hz⟩ := I.list hs; obtain ⟨u, rfl, ru⟩ := vals1 r; obtain rfl : u = Value.ref a := ru; obtain ⟨e1, e2⟩ := refs_back rv fun x m => by
    obtain ⟨t, e, _⟩ := hx x m
    exact ⟨t, e⟩
  have hp : ∀ v ∈ its, TS.TupInts s.heap v (k (backV v)) := fun v hv => by
    obtain ⟨t, rfl⟩ := e2 v hv
    have hm : V.ref t ∈ x0 :: xs := by rw [e1]; exact List.mem_map.mpr ⟨_, hv, rfl⟩
    obtain ⟨t', e, ht⟩ := hx _ hm
    cases e
    obtain ⟨i2, rv2, hT, _⟩ := I.tuple (SqT.of (K := X.K) ht)
    exact ⟨t, i2.toArray, rfl, hT, (show IntsAre i2 (k (V.ref t)) from rv2.ints)⟩
  obtain ⟨v0, r0, ei⟩ : ∃ v0 r0, its = v0 :: r0 := by
    cases its with
    | nil => simp at e1
    | cons v0 r0 => exact ⟨v0, r0, rfl⟩
  have en : k (backV v0) = [] := by
    rw [ei, List.map_cons] at e1
    rw [← (List.cons.inj e1).1]; exact h0
  refine SrtO.sorted_ord (PuS.swo_lexL fun u => k (backV u)) hl.isList (by rw [← rv.length]; exact hz) (fun h2 h₁ a' ha kk => ?_) fun out h1 h2 => ?_
  · refine PuS.te_sortable (s := { s with heap := h₁ }) ?_ ei en (fun v hm => (hp v hm).keeps fun b o e _ => (kk b o e).2) fun o e => ?_
    · show X.A.units + 1 + 1 < cLine
      omega
    · have e' := e.symm.trans ha
      cases e'
      intro c; exact absurd (Value.type.inj c) (by decide)
  · have h3 := fun (u : Value) (hu : u ∈ out) => (show ∃ a, u = Value.ref a from e2 u (h2.perm.mem_iff.mp hu))
    obtain ⟨n, hn⟩ := PyProof.Rows.sortedAll_at s.heap its out.toArray
    have hb : (out.map backV).Perm (x0 :: xs) := by rw [e1]; exact h2.perm.map backV
    refine ⟨.ref _, upd H (s.heap.objs.size + 1) (.lst (out.map backV)), I.laid (t' := s.toks) (fun b o e => PyProof.Rows.sortedAll_old e) (Nat.le_succ _) ⟨?_, out, n, vals_back h3, hn⟩, rfl, q _ _ hb ?_ (I.hok.fresh (Nat.le_succ _))⟩
    · rw [hb.length_eq]; exact hz
    · exact List.pairwise_map.mpr h1
def oSortE : O1 := fun d Q => match d with
  | .lst xs => ∃ rows : List (List Int), xs = rowsD ([] :: rows) ∧ ∀ rows' : List (List Int), rows'.Perm ([] :: rows) → rows'.Pairwise (fun a b => HT.lexLt b a = false) → Q (.lst (rowsD rows'))
  | _ => False
theorem mono_oSortE : Mono1 oSortE := fun d Q Q' k q => by
  cases d <;> first | exact q | skip
  obtain ⟨rows, e, q⟩ := q
  exact ⟨rows, e, fun r h1 h2 => k _ (q r h1 h2)⟩
instance : MO1 oSortE := ⟨mono_oSortE⟩
theorem sc_sortE {CT : RT} {K : PySem.W.Frag} : SimC1 CT (rSortTE K) oSortE := ⟨fun H v d F Q a q => by
  cases a with
  | lst ha ra =>
    obtain ⟨rows, rfl, q⟩ := q
    obtain ⟨h1, h2⟩ := rowsD_inv ra
    rename_i vs _
    cases vs with
    | nil => simp at h1
    | cons x0 xs =>
      refine ⟨_, x0, xs, kOf H, rfl, SqL.of ha, (List.cons.inj h1).1, h2, fun ys p hp hw hn => ?_⟩
      have h3 : ∀ x ∈ ys, ∃ t, x = V.ref t ∧ H t = some (.tup ((kOf H x).map V.int)) := fun x hx => h2 x (hp.mem_iff.mp hx)
      refine New.at1 (q (ys.map (kOf H)) (by rw [← h1]; exact hp.map _) (List.pairwise_map.mpr hw)) hn (.lst upd_same ((rowsD_of h3).keep (W := fun _ => False) (Fr.new hn) fun _ z => nomatch z))
  | _ => exact (show False from q).elim, mono_oSortE⟩
theorem k_sortE {X : Cx} {K : PySem.W.Frag} (h : X.K = K) (hu : X.A.units + 64 < cLine) : CallR X (.builtin "sorted") (rSortTE K) := h ▸ cr_sortTE hu
end Pu
set_option Elab.async false
set_option linter.all false
set_option maxRecDepth 100000
set_option maxHeartbeats 1000000
namespace Pu
open PySem PySem.Spec PySem.W PyProof.Rows L2
section
variable {prog : Program} {w : World} {A : Around} {E : Value → Shared → Prop} {s : Shared}
end
section
variable {C : Cfg} {Γ Γ' Γn Γl Γo Γt Γe Γ1 Γ2 Γf Γu : List Mo} {σ σ' : L2.St} {H H' H1 H2 : Hp} {env env' : PEnv} {Fs Fs' Fs1 Fs2 : Nat → List Addr} {v : V} {vs : List V} {d : D} {ds : List D} {F G : List Addr} {ta tb te : TE} {A B : Kd} {m n : X1} {K : PySem.W.Frag} {CT : RT}
end
end Pu
set_option Elab.async false
set_option linter.all false
set_option maxRecDepth 100000
namespace Pu
open PySem PySem.Spec PyProof.Rows L2
section
variable {X : Cx}
end
end Pu
set_option Elab.async false
set_option linter.all false
set_option maxRecDepth 100000
set_option maxHeartbeats 4000000
namespace Pu
open PySem PySem.Spec PyProof.Rows L2
section
variable {P : Program} {w : World} {A : Around} {E : Value → Shared → Prop} {s : Shared}
end
end Pu
set_option Elab.async false
set_option linter.all false
set_option maxRecDepth 100000
namespace Pu
open PySem PySem.Spec PyProof.Rows L2
section
variable {X : Cx}
end
end Pu
set_option Elab.async false
set_option linter.all false
set_option maxRecDepth 100000
namespace Pu
open PySem PySem.Spec PyProof.Rows L2
section
variable {C : Cfg} {Γ Γ' Γn Γl Γo Γt Γe Γ1 Γ2 Γf : List Mo} {σ σ' : L2.St} {H H' H1 H2 : Hp} {env env' : PEnv} {Fs Fs' Fs1 Fs2 : Nat → List Addr} {v : V} {vs : List V} {d : D} {ds : List D} {F G : List Addr} {ta tb te tk tv : TE} {A B : Kd} {m n : X1} {K : PySem.W.Frag} {CT : RT}
theorem look_at {κ : Type} [DecidableEq κ] {k : κ} {d : D} : ∀ {kvs : List (κ × V)} {kds : List (κ × D)}, kvs.map (·.1) = kds.map (·.1) → (kds.map (·.1)).Nodup → lookD kds k = some d →
    ∃ j, (kds.map (·.2))[j]? = some d ∧ (∀ v, (kvs.map (·.2))[j]? = some v → valV kvs k = some v) ∧ (putD kds k d).map (·.1) = kds.map (·.1) ∧ ∀ x, (putD kds k x).map (·.1) = kds.map (·.1) ∧ (putD kds k x).map (·.2) = (kds.map (·.2)).set j x := by
  have core : ∀ {kvs : List (κ × V)} {kds : List (κ × D)}, kvs.map (·.1) = kds.map (·.1) → (kds.map (·.1)).Nodup → lookD kds k = some d →
      ∃ j, (kds.map (·.2))[j]? = some d ∧ (∀ v, (kvs.map (·.2))[j]? = some v → valV kvs k = some v) ∧ (kds.any fun kv => decide (kv.1 = k)) = true ∧ ∀ x, (kds.map fun kv => if kv.1 = k then (kv.1, x) else kv).map (·.2) = (kds.map (·.2)).set j x := by
    intro kvs
    induction kvs with
    | nil => intro kds e _ h; cases kds with
      | nil => cases h
      | cons => simp at e
    | cons p kvs ih =>
      intro kds e nd h
      cases kds with
      | nil => simp at e
      | cons q kds =>
        simp only [List.map_cons, List.cons.injEq, List.nodup_cons] at e nd
        by_cases hq : q.1 = k
        · unfold lookD at h
          rw [List.find?_cons, decide_eq_true hq] at h
          simp at h
          have hno : ∀ x ∈ kds, ¬ x.1 = k := fun x hx z => nd.1 (by rw [hq, ← z]; exact List.mem_map.mpr ⟨x, hx, rfl⟩)
          refine ⟨0, by simp [h], fun v hv => ?_, by simp [hq], fun x => ?_⟩
          · simp at hv
            rw [← hv]
            exact valV_pos (e.1.trans hq)
          · have m1 : (kds.map fun kv => if kv.1 = k then (kv.1, x) else kv) = kds := by
              conv => rhs; rw [← List.map_id kds]
              exact List.map_congr_left fun x hx => by rw [if_neg (hno x hx)] <;> rfl
            rw [List.map_cons, m1, if_pos hq]
            rfl
        · have a1 : lookD (q :: kds) k = lookD kds k := by unfold lookD; rw [List.find?_cons, decide_eq_false hq]
          rw [a1] at h
          obtain ⟨j, h1, h2, h3, h4⟩ := ih e.2 nd.2 h
          refine ⟨j + 1, by simpa using h1, fun v hv => ?_, by rw [List.any_cons, h3, Bool.or_true], fun x => ?_⟩
          · rw [valV_neg (fun z => hq (e.1 ▸ z))]
            exact h2 v (by simpa using hv)
          · rw [List.map_cons, if_neg hq, List.map_cons, h4 x]
            rfl
  intro kvs kds e nd h
  obtain ⟨j, h1, h2, h3, h4⟩ := core e nd h
  have ek : ∀ x, (putD kds k x).map (·.1) = kds.map (·.1) ∧ (putD kds k x).map (·.2) = (kds.map (·.2)).set j x := fun x => by
    unfold putD
    rw [h3, if_pos rfl]
    exact ⟨keys_map kds, h4 x⟩
  exact ⟨j, h1, h2, (ek d).1, ek⟩
end
end Pu
set_option Elab.async false
set_option linter.all false
set_option maxRecDepth 100000
namespace Pu
open PySem PySem.Spec PyProof.Rows L2 HT
section
variable {prog : Program} {w : World} {A : Around} {E : Value → Shared → Prop} {s : Shared}
end
section
variable {C : Cfg} {Γ : List Mo} {σ : L2.St} {H : Hp} {env : PEnv} {Fs : Nat → List Addr} {d : D} {te : TE} {A : Kd} {m : X1} {K : PySem.W.Frag} {CT : RT}
end
section
variable {C : Cfg} {Γ Γ' Γl Γ1 Γ2 : List Mo} {σ : L2.St} {H : Hp} {env : PEnv} {Fs : Nat → List Addr} {d : D} {te : TE} {A : Kd} {m : X1} {K : PySem.W.Frag} {CT : RT}
theorem wk_refl : ∀ Γ : List Mo, wk Γ Γ = true
  | [] => rfl
  | a :: Γ => by show (wk1 a a && wk Γ Γ) = true; rw [wk_refl Γ]; cases a <;> rfl
theorem wk_kill : ∀ (Γ : List Mo) (j : Nat), wk Γ (Γ.set j .x) = true
  | [], _ => rfl
  | a :: Γ, 0 => by show (wk1 a .x && wk Γ Γ) = true; rw [wk_refl Γ]; cases a <;> rfl
  | a :: Γ, j + 1 => by show (wk1 a a && wk Γ (Γ.set j .x)) = true; rw [wk_kill Γ j]; cases a <;> rfl
end
end Pu
set_option Elab.async false
set_option linter.all false
set_option maxRecDepth 100000
set_option synthInstance.maxHeartbeats 0
set_option synthInstance.maxSize 100000
namespace Pu
open PySem PySem.Spec PyProof.Rows L2
def b_is_integer : XS := sRet (xAnd (x1 (oIsA "int") (xVar 0)) (xNot (x1 (oIsA "bool") (xVar 0))))
def m_is_integer : XF := fnM 1 b_is_integer
theorem mo_is_integer : MonoF m_is_integer := monoF_fn (by unfold b_is_integer; exact MS.all)
instance : MF m_is_integer := ⟨mo_is_integer⟩
def b_is_number : XS := sRet (xAnd (xCall m_is_integer (xCons (xVar 0) xNil)) (x2 (oI fun i j => .bl (decide (j ≤ i))) (xVar 0) (xC (.int 0))))
def m_is_number : XF := fnM 1 b_is_number
theorem mo_is_number : MonoF m_is_number := monoF_fn (by unfold b_is_number; exact MS.all)
instance : MF m_is_number := ⟨mo_is_number⟩
def b_is_below : XS := sRet (xAnd (xCall m_is_number (xCons (xVar 0) xNil)) (x2 (oI fun i j => .bl (decide (i < j))) (xVar 0) (xVar 1)))
def m_is_below : XF := fnM 2 b_is_below
theorem mo_is_below : MonoF m_is_below := monoF_fn (by unfold b_is_below; exact MS.all)
instance : MF m_is_below := ⟨mo_is_below⟩
def b_is_lot : XS := sSeq (sIf (bOr (bNot (bTest (x1 (oIsA "tuple") (xVar 0)))) (bNot (bTest (x1 (oAny true) (xLc (mSeq (xVar 0)) (bName 4) bYes (xCall m_is_below (xCons (xVar 4) (xCons (xVar 1) xNil)))))))) (sRet (xC (.bl false))) sNext) (sRet (x1 (oAny true) (xLc (mZip (xCons (xVar 0) (xCons (xSl (xVar 0) (pYes (xC (.int 1))) pNo) xNil))) (bTup 2 (bCons (bName 2) (bCons (bName 3) bNil))) bYes (x2 (oI fun i j => .bl (decide (i < j))) (xVar 2) (xVar 3)))))
def m_is_lot : XF := fnM 5 b_is_lot
theorem mo_is_lot : MonoF m_is_lot := monoF_fn (by unfold b_is_lot; exact MS.all)
instance : MF m_is_lot := ⟨mo_is_lot⟩
def b_are_office_works : XS := sSeq (sIf (bOr (bNot (bTest (x1 (oIsA "tuple") (xVar 1)))) (bNot (bTest (xChain (oI fun i j => .bl (decide (i ≤ j))) (oI fun i j => .bl (decide (i ≤ j))) (xC (.int 1)) (x1 oLenA (xVar 1)) (xC (.int 10)))))) (sRet (xC (.bl false))) sNext) (sRet (x1 (oAny true) (xLc (mSeq (xVar 1)) (bName 2) bYes (xAnd (xCall m_is_lot (xCons (xVar 2) (xCons (xVar 0) xNil))) (x2 (oI fun i j => .bl (decide (j < i))) (x1 oLenA (xVar 2)) (xC (.int 0)))))))
def m_are_office_works : XF := fnM 3 b_are_office_works
theorem mo_are_office_works : MonoF m_are_office_works := monoF_fn (by unfold b_are_office_works; exact MS.all)
instance : MF m_are_office_works := ⟨mo_are_office_works⟩
def b_Office_init : XS := sSeq (sIf (bOr (bNot (bTest (xCall m_is_integer (xCons (xVar 1) xNil)))) (bNot (bTest (xChain (oI fun i j => .bl (decide (i ≤ j))) (oI fun i j => .bl (decide (i ≤ j))) (xC (.int 1)) (xVar 1) (xC (.int 6)))))) sNever sNext) (sSeq (sIf (bNot (bTest (xCall m_are_office_works (xCons (xVar 1) (xCons (xVar 2) xNil))))) sNever sNext) (sSeq (sSetF 0 3 "desks" (xImm (xVar 1))) (sSetF 0 3 "works" (xImm (xVar 2)))))
def i_Office : XI := fnI0 2 3 3 b_Office_init
theorem mo_Office_init : MonoI i_Office := monoI_fn0 (by unfold b_Office_init; exact MS.all)
instance : MI i_Office := ⟨mo_Office_init⟩
abbrev m__law_draw : XF := mDraw
theorem mo__law_draw : MonoF m__law_draw := mo_mDraw
def b__law_mixed : XS := sSeq (sSet 4 (x1 oListA (xVar 2))) (sSeq (sFor (mRng1 (xIf (bTest (x2 (oI fun i j => .bl (decide (j < i))) (x1 oLenA (xVar 2)) (xC (.int 1)))) (xImm (xVar 3)) (xC (.int 0)))) (bName 5) (sSeq (sSet 6 (xCall m__law_draw (xDice (xCons (x2 (oI fun i j => .int (i - j)) (x1 oLenA (xVar 4)) (xC (.int 1))) xNil)))) (sIf (bNot (bTest (x2 oIx (x2 oIx (xVar 1) (x2 oIx (xVar 4) (xVar 6))) (x2 oIx (xVar 4) (x2 oAdd (xVar 6) (xC (.int 1))))))) (sSwap 4 (xTup (xCons (xImm (x2 oIx (xVar 4) (x2 oAdd (xVar 6) (xC (.int 1))))) (xCons (xImm (x2 oIx (xVar 4) (xVar 6))) xNil))) (xVar 6) (x2 oAdd (xVar 6) (xC (.int 1)))) sNext))) (sRet (x1 oTup (xVar 4))))
def m__law_mixed : XF := fnM 7 b__law_mixed
theorem mo__law_mixed : MonoF m__law_mixed := monoF_fn (by unfold b__law_mixed; exact MS.all)
instance : MF m__law_mixed := ⟨mo__law_mixed⟩
end Pu
set_option Elab.async false
set_option linter.all false
set_option maxRecDepth 100000
set_option synthInstance.maxHeartbeats 0
set_option synthInstance.maxSize 100000
namespace Pu
open PySem PySem.Spec PyProof.Rows L2
end Pu
set_option Elab.async false
set_option linter.all false
set_option maxRecDepth 100000
set_option synthInstance.maxHeartbeats 0
set_option synthInstance.maxSize 100000
namespace Pu
open PySem PySem.Spec PyProof.Rows L2
end Pu
set_option Elab.async false
set_option linter.all false
set_option maxRecDepth 100000
set_option synthInstance.maxHeartbeats 0
set_option synthInstance.maxSize 100000
namespace Pu
open PySem PySem.Spec PyProof.Rows L2
end Pu
set_option Elab.async false
set_option linter.all false
set_option maxRecDepth 100000
set_option synthInstance.maxHeartbeats 0
set_option synthInstance.maxSize 100000
namespace Pu
open PySem PySem.Spec PyProof.Rows L2
end Pu
set_option Elab.async false
set_option linter.all false
set_option maxRecDepth 100000
set_option synthInstance.maxHeartbeats 0
set_option synthInstance.maxSize 100000
namespace Pu
open PySem PySem.Spec PyProof.Rows L2
end Pu
set_option Elab.async false
set_option linter.all false
set_option maxRecDepth 100000
set_option synthInstance.maxHeartbeats 0
set_option synthInstance.maxSize 100000
namespace Pu
open PySem PySem.Spec PyProof.Rows L2
end Pu
set_option Elab.async false
set_option linter.all false
set_option maxRecDepth 100000
set_option synthInstance.maxHeartbeats 0
set_option synthInstance.maxSize 100000
namespace Pu
open PySem PySem.Spec PyProof.Rows L2
end Pu
set_option Elab.async false
set_option linter.all false
set_option maxRecDepth 100000
set_option synthInstance.maxHeartbeats 0
set_option synthInstance.maxSize 100000
namespace Pu
open PySem PySem.Spec PyProof.Rows L2
end Pu
set_option Elab.async false
set_option linter.all false
set_option maxRecDepth 100000
set_option synthInstance.maxHeartbeats 0
set_option synthInstance.maxSize 100000
namespace Pu
open PySem PySem.Spec PyProof.Rows L2
end Pu
set_option Elab.async false
set_option linter.all false
set_option maxRecDepth 100000
namespace Pu
open PySem PySem.Spec PyProof.Rows L2
section
variable {C : Cfg} {Γ Γ' Γn Γl Γo Γt Γe Γ1 Γ2 : List Mo} {σ σ' : L2.St} {H H' H1 H2 : Hp} {env env' : PEnv} {Fs Fs' Fs1 Fs2 : Nat → List Addr} {v : V} {vs : List V} {d d' : D} {ds : List D} {F G G' : List Addr} {ta tb tc te : TE} {A B : Kd} {m n mc ms : X1} {K : PySem.W.Frag} {CT : RT} {S : Stat} {pm : List Bool}
abbrev XE2 := List D → (D → D → Prop) → Prop
def MonoE (mf : XE2) : Prop := ∀ ds Q Q', (∀ r d, Q r d → Q' r d) → mf ds Q → mf ds Q'
class ME (mf : XE2) : Prop where
  mono : MonoE mf
variable {P : Program} {w : World} {mg : Str → Option Value} {base : Heap} {x qual : Str} {st : Stmt} {f : Addr} {fd : FuncData} {N ps : List Str}
end
end Pu
set_option Elab.async false
set_option linter.all false
set_option maxRecDepth 100000
namespace Pu
open PySem PySem.Spec PyProof.Rows L2
section
variable {C : Cfg} {Γ Γ' Γn Γl Γo Γt Γe Γ1 Γ2 : List Mo} {σ σ' : L2.St} {H H' H1 H2 : Hp} {env env' : PEnv} {Fs Fs' Fs1 Fs2 : Nat → List Addr} {v : V} {vs : List V} {d d' : D} {ds : List D} {F G G' : List Addr} {ta tb tc te tv tm : TE} {A B : Kd} {m n mc ms mv : X1} {K : PySem.W.Frag} {CT : RT} {S : Stat} {pm : List Bool}
end
end Pu
set_option Elab.async false
set_option linter.all false
set_option maxRecDepth 100000
namespace Pu
open PySem PySem.Spec PyProof.Rows L2
section
variable {C : Cfg} {Γ Γl : List Mo} {σ : L2.St} {H : Hp} {env : PEnv} {Fs : Nat → List Addr} {v : V} {vs : List V} {d : D} {ds : List D} {F G : List Addr} {te : TE} {A : Kd} {m : X1} {K : PySem.W.Frag} {CT : RT}
end
end Pu
set_option Elab.async false
set_option linter.all false
set_option maxRecDepth 100000
set_option synthInstance.maxHeartbeats 0
set_option synthInstance.maxSize 100000
namespace Pu
open PySem PySem.Spec PyProof.Rows L2
end Pu
set_option Elab.async false
set_option linter.all false
set_option maxRecDepth 100000
namespace Pu
open PySem PySem.Spec PyProof.Rows L2
section
variable {C : Cfg} {Γ : List Mo} {σ : L2.St} {H : Hp} {env : PEnv} {Fs : Nat → List Addr} {CT : RT}
end
end Pu
set_option Elab.async false
set_option linter.all false
set_option maxRecDepth 100000
set_option synthInstance.maxHeartbeats 0
set_option synthInstance.maxSize 100000
namespace Pu
open PySem PySem.Spec PyProof.Rows L2
end Pu
set_option Elab.async false
set_option linter.all false
set_option maxRecDepth 100000
set_option maxHeartbeats 1000000
namespace Pu
open PySem PySem.Spec PySem.W PyProof.Rows L2
section
variable {prog : Program} {w : World} {A : Around} {E : Value → Shared → Prop} {s : Shared}
end
section
variable {C : Cfg} {Γ : List Mo} {σ : L2.St} {H : Hp} {env : PEnv} {Fs : Nat → List Addr} {v : V} {vs : List V} {d : D} {ds : List D} {F G : List Addr} {ta td : TE} {A B : Kd} {m n : X1} {K : PySem.W.Frag} {CT : RT}
end
end Pu
set_option Elab.async false
set_option linter.all false
set_option maxRecDepth 100000
set_option synthInstance.maxHeartbeats 0
set_option synthInstance.maxSize 100000
namespace Pu
open PySem PySem.Spec PyProof.Rows L2
end Pu
set_option Elab.async false
set_option linter.all false
set_option maxRecDepth 100000
namespace Pu
open PySem PySem.Spec PyProof.Rows L2
section
variable {C : Cfg} {Γ : List Mo} {te tb : TE} {A B : Kd} {m n : X1}
end
end Pu
set_option Elab.async false
set_option linter.all false
set_option maxRecDepth 100000
namespace Pu
open PySem PySem.Spec PyProof.Rows L2
section
variable {X : Cx}
end
end Pu
set_option Elab.async false
set_option linter.all false
set_option maxRecDepth 100000
set_option synthInstance.maxHeartbeats 0
set_option synthInstance.maxSize 100000
namespace Pu
open PySem PySem.Spec PyProof.Rows L2
end Pu
set_option Elab.async false
set_option linter.all false
set_option maxRecDepth 100000
namespace Pu
open PySem PySem.Spec PySem.W PyProof.Rows L2
abbrev IL (h : Heap) (l : Addr) (items : Array Value) (n : Nat) : Prop := h.get? l = some { cls := .type "list", dict := none, data := .seq items n, slots := #[] }
section
variable {prog : Program} {w : World} {A : Around} {R : Result → Shared → Prop} {E : Value → Shared → Prop}
end
section
variable {X : Cx}
end
section
variable {C : Cfg} {Γ Γl : List Mo} {σ : L2.St} {H : Hp} {env : PEnv} {Fs : Nat → List Addr} {v : V} {vs : List V} {d : D} {ds : List D} {F G : List Addr} {te : TE} {A : Kd} {m : X1} {K : PySem.W.Frag} {CT : RT}
end
section
variable {X : Cx}
end
end Pu
set_option Elab.async false
set_option linter.all false
set_option maxRecDepth 100000
set_option synthInstance.maxHeartbeats 0
set_option synthInstance.maxSize 100000
namespace Pu
open PySem PySem.Spec PyProof.Rows L2
end Pu
set_option Elab.async false
set_option linter.all false
set_option maxRecDepth 100000
namespace PuN
open PySem
open Sem (wp)
abbrev En := NestedKey × Value × Value
def dep (n : Nat) (k : NestedKey) : Prop := k.depth ≤ n
def KeyAt (h : Heap) (k : NestedKey) (v : Value) : Prop := NestedIs h k v ∧ k.depth ≤ 8 ∧ ∀ x t, v ≠ .str x t
def Lies (w : World) (xs : List En) (es : Array DictEntry) : Prop := es.toList = xs.map fun x => ⟨x.1.hash w, x.2.1, x.2.2⟩
def idx (xs : List En) (k : NestedKey) : Option Nat := xs.findIdx? fun x => decide (x.1 = k)
def look (xs : List En) (k : NestedKey) : Option Value := (xs.find? fun x => decide (x.1 = k)).map (·.2.2)
section
variable {prog : Program} {w : World} {A : Around} {E : Value → Shared → Prop} {s : Shared} {xs : List En} {es : Array DictEntry} {k : NestedKey} {key : Value} {d : Addr}
theorem Lies.at {w : World} {xs : List En} {es : Array DictEntry} (l : Lies w xs es) (i : Nat) : es[i]? = (xs[i]?).map fun x => ⟨x.1.hash w, x.2.1, x.2.2⟩ := by
  have e : es.toList[i]? = _ := congrArg (fun l => l[i]?) l
  rw [Array.getElem?_toList, List.getElem?_map] at e
  exact e
theorem Lies.size {w : World} {xs : List En} {es : Array DictEntry} (l : Lies w xs es) : es.size = xs.length := by
  have e := congrArg List.length l
  rw [List.length_map] at e
  rw [← e]; simp
def hasK (xs : List En) (k : NestedKey) (i : Nat) : Bool := match xs[i]? with
  | some x => decide (x.1 = k)
  | none => false
theorem hasK_uniq (hn : (xs.map (·.1)).Nodup) {i j : Nat} (hi : hasK xs k i = true) (hj : hasK xs k j = true) : i = j := by
  unfold hasK at hi hj
  cases ei : xs[i]? with
  | none => rw [ei] at hi; cases hi
  | some x =>
    cases ej : xs[j]? with
    | none => rw [ej] at hj; cases hj
    | some y =>
      rw [ei] at hi; rw [ej] at hj
      have e1 : (xs.map (·.1))[i]? = some k := by rw [List.getElem?_map, ei]; simpa using hi
      have e2 : (xs.map (·.1))[j]? = some k := by rw [List.getElem?_map, ej]; simpa using hj
      have li := (List.getElem?_eq_some_iff.mp e1).1
      exact (List.getElem?_inj li hn).mp (e1.trans e2.symm)
theorem places_idx (l : Lies w xs es) (hn : (xs.map (·.1)).Nodup) : (placesWithHash es.size (fun i => es[i]?.map (·.hash)) (k.hash w)).find? (hasK xs k) = idx xs k := by
  unfold idx
  cases e : xs.findIdx? fun x => decide (x.1 = k) with
  | none =>
    rw [List.findIdx?_eq_none_iff] at e
    refine List.find?_eq_none.mpr fun i _ => ?_
    unfold hasK
    cases q : xs[i]? with
    | none => simp
    | some x =>
      have := e x (List.mem_of_getElem? q)
      simpa using this
  | some i =>
    obtain ⟨hl, hp, _⟩ := List.findIdx?_eq_some_iff_getElem.mp e
    have hk : hasK xs k i = true := by
      unfold hasK
      rw [List.getElem?_eq_getElem hl]
      exact hp
    have hm : i ∈ placesWithHash es.size (fun i => es[i]?.map (·.hash)) (k.hash w) := by
      refine List.mem_filter.mpr ⟨List.mem_range.mpr (by rw [l.size]; exact hl), ?_⟩
      show (es[i]?.map (·.hash) == some (k.hash w)) = true
      rw [l.at i, List.getElem?_eq_getElem hl]
      have : xs[i].1 = k := of_decide_eq_true hp
      simp [this]
    cases q : (placesWithHash es.size (fun i => es[i]?.map (·.hash)) (k.hash w)).find? (hasK xs k) with
    | none => exact absurd hk (List.find?_eq_none.mp q i hm)
    | some j => rw [hasK_uniq hn (List.find?_some q) hk]
theorem in_places {i : Nat} (h : i ∈ placesWithHash es.size (fun i => es[i]?.map (·.hash)) (k.hash w)) : ∃ e, es[i]? = some e ∧ (e.hash == k.hash w) = true := by
  have h2 : (es[i]?.map (·.hash) == some (k.hash w)) = true := (List.mem_filter.mp h).2
  cases q : es[i]? with
  | none => rw [q] at h2; simp at h2
  | some e => rw [q] at h2; exact ⟨e, rfl, by simpa using h2⟩
theorem nodup_places {n : Nat} {f : Nat → Option Int} {g : Int} : (placesWithHash n f g).Nodup := List.Pairwise.filter _ List.nodup_range
theorem not_done {done rest : List Nat} {i : Nat} (hn : (xs.map (·.1)).Nodup) (nd : (done ++ i :: rest).Nodup) (hk : hasK xs k i = true) : done.find? (hasK xs k) = none := by
  refine List.find?_eq_none.mpr fun j hj q => ?_
  have e := hasK_uniq hn q hk
  subst e
  exact (List.nodup_append.mp nd).2.2 j hj j List.mem_cons_self rfl
theorem quietAt (x : KeyAt s.heap k key) : QuietAt prog w 8 s key := quiet_key k key 8 s x.1 x.2.1
theorem mayTell {st : List Value} {Q : Bool → Shared → Prop} (x : KeyAt s.heap k key) (hs : ∀ v ∈ st, ∃ k', KeyAt s.heap k' v) (h : Q false s) : wpAny (model prog w) A (tableMayTell key st) Q E s := by
  unfold tableMayTell
  by_cases e : st.isEmpty = true
  · rw [if_pos e]; exact wpAny_pure h
  · rw [if_neg e]
    refine wpAny_bind (quietAt x A E _ ?_)
    rw [if_neg (by decide)]
    refine wpAny_bind ?_
    refine wpAny_forIn_list _ (fun rest b u => u = s ∧ b = (none, ()) ∧ ∀ v ∈ rest, v ∈ st) _ (fun v rest b u hu => ?_) (fun b u hu => ?_) _ _ ⟨rfl, rfl, fun _ m => m⟩
    · obtain ⟨rfl, rfl, sub⟩ := hu
      obtain ⟨k', y⟩ := hs v (sub v List.mem_cons_self)
      refine wpAny_bind (quietAt y A E _ ?_)
      rw [if_neg (by decide)]
      exact wpAny_pure ⟨rfl, rfl, fun v m => sub v (List.mem_cons_of_mem _ m)⟩
    · obtain ⟨rfl, rfl, _⟩ := hu
      exact wpAny_pure h
theorem asked {o : Obj} {ep : Nat} {i : Nat} {e : DictEntry} {F : Bool → Sem α} {Q : α → Shared → Prop} (hu : A.units + 8 < cLine) (l : Lies w xs es) (hx : ∀ x ∈ xs, KeyAt s.heap x.1 x.2.1) (x : KeyAt s.heap k key) (he : es[i]? = some e)
    (h : wpAny (model prog w) A (F (hasK xs k i)) Q E s) : wpAny (model prog w) A (eqBool e.key key >>= F) Q E s := by
  rw [l.at i] at he
  cases q : xs[i]? with
  | none => rw [q] at he; cases he
  | some y =>
    rw [q] at he
    cases he
    obtain ⟨n1, n2, _⟩ := hx y (List.mem_of_getElem? q)
    refine wpAny_bind (eqAt_key y.1 k A s y.2.1 key n1 x.1 (by have := x.2.1; omega) prog w E _ ?_)
    have e2 : NestedKey.beq y.1 k = hasK xs k i := by
      unfold hasK
      rw [q]
      exact (NestedKey.decide_eq y.1 k).symm
    rw [e2]
    exact h
theorem walkPlain {o : Obj} {ep : Nat} {P : List Nat} {Q : Option Nat → Shared → Prop} (hu : A.units + 8 < cLine) (ho : s.heap.get? d = some o) (hd : o.data = .dict es ep) (l : Lies w xs es) (hx : ∀ x ∈ xs, KeyAt s.heap x.1 x.2.1) (x : KeyAt s.heap k key)
    (hp : ∀ i ∈ P, ∃ e, es[i]? = some e ∧ (e.hash == k.hash w) = true) (h : Q (P.find? (hasK xs k)) s) : wpAny (model prog w) A (dictWalkPlain d key (k.hash w) es P) Q E s := by
  unfold dictWalkPlain
  refine wpAny_bind ?_
  refine wpAny_forIn_list _ (fun rest b u => u = s ∧ b = (none, ()) ∧ ∃ done, P = done ++ rest ∧ done.find? (hasK xs k) = none) _ (fun i rest b u hI => ?_) (fun b u hI => ?_) _ _ ⟨rfl, rfl, [], rfl, rfl⟩
  · obtain ⟨rfl, rfl, done, eP, hnone⟩ := hI
    obtain ⟨e, he, hh⟩ := hp i (by rw [eP]; exact List.mem_append_right _ List.mem_cons_self)
    rw [he]
    dsimp only
    rw [if_pos hh]
    refine wpAny_bind (wpAny_dictEpoch ho hd (asked (o := o) (ep := ep) hu l hx x he (wpAny_bind (wpAny_dictEpoch ho hd ?_))))
    rw [if_neg (show ¬ (ep != ep) = true by simp)]
    cases q : hasK xs k i with
    | true =>
      rw [if_pos rfl]
      rw [eP, List.find?_append, hnone, List.find?_cons_of_pos q] at h
      exact wpAny_bind (wpAny_rule (wpAny_pure (wpAny_pure h)))
    | false =>
      rw [if_neg Bool.false_ne_true]
      exact wpAny_bind (wpAny_rule (wpAny_pure ⟨rfl, rfl, done ++ [i], by rw [eP]; simp, by rw [List.find?_append, hnone]; simp [q]⟩))
  · obtain ⟨rfl, rfl, done, eP, hnone⟩ := hI
    rw [List.append_nil] at eP
    rw [eP, hnone] at h
    exact wpAny_pure h
theorem find {o : Obj} {ep : Nat} {Q : Option Nat → Shared → Prop} (hu : A.units + 8 < cLine) (ho : s.heap.get? d = some o) (hd : o.data = .dict es ep) (l : Lies w xs es) (hn : (xs.map (·.1)).Nodup) (hx : ∀ x ∈ xs, KeyAt s.heap x.1 x.2.1) (x : KeyAt s.heap k key)
    (h : Q (idx xs k) s) : wpAny (model prog w) A (dictFind d key (k.hash w)) Q E s := by
  rw [← places_idx l hn] at h
  have pl : ∀ i ∈ placesWithHash es.size (fun i => es[i]?.map (·.hash)) (k.hash w), ∃ e, es[i]? = some e ∧ (e.hash == k.hash w) = true := fun i m => in_places m
  have nd := nodup_places (n := es.size) (f := fun i => es[i]?.map (·.hash)) (g := k.hash w)
  have st : ∀ v ∈ (placesWithHash es.size (fun i => es[i]?.map (·.hash)) (k.hash w)).filterMap (fun i => es[i]?.map (·.key)), ∃ k', KeyAt s.heap k' v := fun v m => by
    obtain ⟨i, _, q⟩ := List.mem_filterMap.mp m
    rw [l.at i] at q
    cases q2 : xs[i]? with
    | none => rw [q2] at q; cases q
    | some y => rw [q2] at q; cases q; exact ⟨y.1, hx y (List.mem_of_getElem? q2)⟩
  have same : (es.any fun e => e.key == key && e.hash != k.hash w) = false := by
    rw [← Array.any_toList, l, List.any_map, List.any_eq_false]
    intro y hy q
    simp only [Function.comp_apply, Bool.and_eq_true, beq_iff_eq, bne_iff_ne, ne_eq] at q
    have e := NestedIs.inj _ _ _ (q.1 ▸ (hx y hy).1) x.1
    exact q.2 (by rw [e])
  generalize hP : placesWithHash es.size (fun i => es[i]?.map (·.hash)) (k.hash w) = P at h pl nd st
  unfold dictFind
  refine wpAny_holding (wpAny_bind (wpAny_dictEntries ho hd ?_))
  have fin : wpAny (model prog w) A (dictWalkPlain d key (k.hash w) es P) Q E s := walkPlain hu ho hd l hx x pl h
  generalize hst : P.filterMap (fun i => es[i]?.map (·.key)) = st0 at st
  have xc := x.2.2
  obtain ⟨kk, ek, xa⟩ : ∃ kk, kk = k ∧ NestedIs s.heap kk key := ⟨k, rfl, x.1⟩
  have two : ∀ {F : Bool → Sem (Option Nat)}, wpAny (model prog w) A (F false) Q E s → wpAny (model prog w) A (if (st0 == [key]) = true then (pure false >>= F) else (tableMayTell key st0 >>= F)) Q E s := fun {F} q => by
    by_cases h1 : (st0 == [key]) = true
    · rw [if_pos h1]; exact wpAny_bind (wpAny_pure q)
    · rw [if_neg h1]; exact wpAny_bind (mayTell x st q)
  have one : ∀ {G : Sem (Option Nat)} {c : Bool}, (c = true → wpAny (model prog w) A (dictWalkPlain d key (k.hash w) es P) Q E s) → (c = false → wpAny (model prog w) A G Q E s) →
      wpAny (model prog w) A (if c = true then dictWalkPlain d key (k.hash w) es P else G) Q E s := fun {G c} q1 q2 => by
    cases c with
    | true => rw [if_pos rfl]; exact q1 rfl
    | false => rw [if_neg Bool.false_ne_true]; exact q2 rfl
  cases xa with
  | text x1 t => exact absurd rfl (xc x1 t)
  | _ =>
    dsimp only
    rw [hP, hst]
    refine one (fun _ => fin) (fun _ => ?_)
    try rw [if_neg (by rw [same]; decide)]
    refine two ?_
    rw [if_neg (by simp)]
    refine wpAny_bind ?_
    refine wpAny_forIn_list _ (fun rest b u => u = s ∧ ∃ done, P = done ++ rest ∧ b = (none, done.find? (hasK xs k))) _ (fun i rest b u hI => ?_) (fun b u hI => ?_) _ _ ⟨rfl, [], rfl, rfl⟩
    · obtain ⟨rfl, done, eP, eb⟩ := hI
      obtain ⟨e, he, hh⟩ := pl i (by rw [eP]; exact List.mem_append_right _ List.mem_cons_self)
      have nd' : (done ++ i :: rest).Nodup := by rw [← eP]; exact nd
      subst eb
      rw [he]
      dsimp only
      rw [if_pos hh]
      refine wpAny_bind (wpAny_dictEpoch ho hd (asked (o := o) (ep := ep) hu l hx x he (wpAny_bind (wpAny_dictEpoch ho hd ?_))))
      rw [if_neg (show ¬ (ep != ep) = true by simp)]
      cases q : hasK xs k i with
      | true =>
        have hno := not_done hn nd' q
        rw [if_pos rfl, hno]
        rw [if_neg (by simp)]
        refine wpAny_bind (wpAny_rule ?_)
        by_cases h2 : st0.length < 2
        · rw [if_pos h2]
          rw [eP, List.find?_append, hno, List.find?_cons_of_pos q] at h
          exact wpAny_pure (wpAny_pure h)
        · rw [if_neg h2]
          exact wpAny_pure ⟨rfl, done ++ [i], by rw [eP]; simp, by rw [List.find?_append, hno]; simp [q]⟩
      | false =>
        rw [if_neg Bool.false_ne_true]
        refine wpAny_bind (wpAny_rule ?_)
        rw [if_neg (by simp)]
        exact wpAny_pure ⟨rfl, done ++ [i], by rw [eP]; simp, by rw [List.find?_append]; simp [q]⟩
    · obtain ⟨rfl, done, eP, eb⟩ := hI
      rw [List.append_nil] at eP
      subst eb
      rw [eP] at h
      exact wpAny_pure h
end
end PuN
namespace PuN
open PySem
open Sem (wp)
section
variable {prog : Program} {w : World} {A : Around} {E : Value → Shared → Prop} {s : Shared} {xs : List En} {k : NestedKey} {key v : Value} {d : Addr}
def DictN (w : World) (h : Heap) (d : Addr) (xs : List En) : Prop := ∃ o es ep, h.get? d = some o ∧ o.ExactDict ∧ o.data = .dict es ep ∧ Lies w xs es
theorem DictN.typeIs (x : DictN w s.heap d xs) : s.TypeIs (.ref d) "dict" := let ⟨o, _, _, ho, hc, _⟩ := x; ⟨o, ho, hc.1⟩
theorem look_idx : look xs k = (idx xs k).bind fun i => (xs[i]?).map (·.2.2) := by
  unfold look idx
  induction xs with
  | nil => rfl
  | cons x xs ih =>
    by_cases h : x.1 = k
    · simp [h, List.findIdx?_cons]
    · rw [List.find?_cons_of_neg (by simpa using h), List.findIdx?_cons]
      rw [ih]
      simp only [h, decide_false]
      cases xs.findIdx? (fun x => decide (x.1 = k)) <;> rfl
def Keyed (h : Heap) (xs : List En) : Prop := (xs.map (·.1)).Nodup ∧ ∀ x ∈ xs, KeyAt h x.1 x.2.1
theorem got {Q : Option Value → Shared → Prop} (hu : A.units + 8 < cLine) (m : DictN w s.heap d xs) (hx : Keyed s.heap xs) (x : KeyAt s.heap k key) (h : Q (look xs k) { s with toks := s.toks + k.draws }) :
    wpAny (model prog w) A (dictGet d key) Q E s := by
  obtain ⟨o, es, ep, ho, hc, hd, l⟩ := m
  unfold dictGet
  refine wpAny_holding (wpAny_bind (pyHash_key k key A s _ x.1 (by have := x.2.1; omega) ?_))
  refine wpAny_bind (find (s := { s with toks := s.toks + k.draws }) hu ho hd l hx.1 hx.2 x ?_)
  rw [look_idx] at h
  cases e : idx xs k with
  | none => rw [e] at h; exact wpAny_pure h
  | some i =>
    rw [e] at h
    refine wpAny_bind (wpAny_dictEntries (s := { s with toks := s.toks + k.draws }) ho hd (wpAny_pure ?_))
    rw [l.at i, Option.map_map]
    exact h
def putE (xs : List En) (k : NestedKey) (key v : Value) : List En := if (look xs k).isSome then xs.map (fun x => if x.1 = k then (x.1, x.2.1, v) else x) else xs ++ [(k, key, v)]
theorem look_none (h : idx xs k = none) : look xs k = none := by rw [look_idx, h]; rfl
theorem look_some {i : Nat} (h : idx xs k = some i) : (look xs k).isSome = true := by
  obtain ⟨hl, _⟩ := List.findIdx?_eq_some_iff_getElem.mp h
  rw [look_idx, h]
  simp [hl]
theorem modify_at : ∀ {xs : List En} {i : Nat}, (xs.map (·.1)).Nodup → hasK xs k i = true →
    (xs.map fun x => (⟨x.1.hash w, x.2.1, x.2.2⟩ : DictEntry)).modify i (fun e => { e with val := v }) = (xs.map (fun x => if x.1 = k then (x.1, x.2.1, v) else x)).map fun x => (⟨x.1.hash w, x.2.1, x.2.2⟩ : DictEntry)
  | [], i, _, h => by simp [hasK] at h
  | x :: xs, 0, nd, h => by
    have hk : x.1 = k := by simpa [hasK] using h
    rw [List.map_cons, List.nodup_cons] at nd
    have no : ∀ y ∈ xs, ¬ y.1 = k := fun y hy e => nd.1 (by rw [hk, ← e]; exact List.mem_map.mpr ⟨y, hy, rfl⟩)
    have e : xs.map (fun x => if x.1 = k then (x.1, x.2.1, v) else x) = xs := by
      conv => rhs; rw [← List.map_id xs]
      exact List.map_congr_left fun y hy => by rw [if_neg (no y hy)]; rfl
    rw [List.map_cons, List.map_cons, e, if_pos hk]
    rfl
  | x :: xs, i + 1, nd, h => by
    rw [List.map_cons, List.nodup_cons] at nd
    have h' : hasK xs k i = true := by simpa [hasK] using h
    have hne : ¬ x.1 = k := fun e => by
      unfold hasK at h'
      cases q : xs[i]? with
      | none => rw [q] at h'; cases h'
      | some y => rw [q] at h'; exact nd.1 (List.mem_map.mpr ⟨y, List.mem_of_getElem? q, (of_decide_eq_true h').trans e.symm⟩)
    rw [List.map_cons, List.map_cons, if_neg hne]
    show _ :: (xs.map _).modify i _ = _ :: _
    rw [modify_at nd.2 h']
theorem stored {Q : Unit → Shared → Prop} (hu : A.units + 8 < cLine) (m : DictN w s.heap d xs) (hx : Keyed s.heap xs) (x : KeyAt s.heap k key) (hz : xs.length ≤ sizeLine)
    (h : ∀ h', DictN w h' d (putE xs k key v) → Heap.SameBut d s.heap h' → Q () { s with heap := h', toks := s.toks + k.draws }) : wpAny (model prog w) A (dictSet d key v) Q E s := by
  obtain ⟨o, es, ep, ho, hc, hd, l⟩ := m
  unfold dictSet
  refine wpAny_holding (wpAny_bind (pyHash_key k key A s _ x.1 (by have := x.2.1; omega) ?_))
  unfold dictSetHashed
  refine wpAny_holding (wpAny_bind (find (s := { s with toks := s.toks + k.draws }) hu ho hd l hx.1 hx.2 x ?_))
  cases e : idx xs k with
  | none =>
    have en : putE xs k key v = xs ++ [(k, key, v)] := by unfold putE; rw [look_none e]; rfl
    refine wpAny_bind (wpAny_rule (wpAny_updateDictKeys (hz := by rw [l.size]; exact hz) (s := { s with toks := s.toks + k.draws }) ho hd (h _ ⟨_, _, ep + 1, Heap.get?_update_self _ ho (Obj.isFreed_of_dict (Obj.data_mapDictKeys hd _)), hc.mapDictKeys _, Obj.data_mapDictKeys hd _, ?_⟩ (Heap.SameBut.update ..))))
    rw [en]
    show (es.push _).toList = _
    rw [Array.toList_push, l, List.map_append]
    rfl
  | some i =>
    have hk : hasK xs k i = true := by
      obtain ⟨hl, hp, _⟩ := List.findIdx?_eq_some_iff_getElem.mp e
      unfold hasK
      rw [List.getElem?_eq_getElem hl]
      exact hp
    have en : putE xs k key v = xs.map (fun x => if x.1 = k then (x.1, x.2.1, v) else x) := by unfold putE; rw [if_pos (look_some e)]
    refine wpAny_bind (wpAny_rule (wpAny_bind (wpAny_updateDict (s := { s with toks := s.toks + k.draws }) ho hd (wpAny_point (h _ ⟨_, _, ep, Heap.get?_update_self _ ho (Obj.isFreed_of_dict (Obj.data_mapDict hd _)), hc.mapDict _, Obj.data_mapDict hd _, ?_⟩ (Heap.SameBut.update ..))))))
    rw [en]
    show (es.modify i _).toList = _
    rw [Array.toList_modify, l]
    exact modify_at hx.1 hk
theorem Keyed.put {h : Heap} (hx : Keyed h xs) (x : KeyAt h k key) : Keyed h (putE xs k key v) := by
  unfold putE
  cases e : idx xs k with
  | none =>
    rw [look_none e, if_neg (by decide)]
    refine ⟨?_, fun y hy => ?_⟩
    · rw [List.map_append, List.nodup_append]
      refine ⟨hx.1, by simp, fun a ha b hb q => ?_⟩
      have hb : b = k := by simpa using hb
      subst q hb
      obtain ⟨y, hy, q⟩ := List.mem_map.mp ha
      have := List.findIdx?_eq_none_iff.mp e y hy
      simp [q] at this
    · rcases List.mem_append.mp hy with hy | hy
      · exact hx.2 y hy
      · rw [List.mem_singleton.mp hy]; exact x
  | some i =>
    rw [if_pos (look_some e)]
    refine ⟨?_, fun y hy => ?_⟩
    · rw [List.map_map]
      have : ((fun x : En => x.1) ∘ fun x : En => if x.1 = k then (x.1, x.2.1, v) else x) = fun x => x.1 := funext fun y => by
        show (if y.1 = k then (y.1, y.2.1, v) else y).1 = y.1
        split <;> rfl
      rw [this]; exact hx.1
    · obtain ⟨z, hz, q⟩ := List.mem_map.mp hy
      have := hx.2 z hz
      have q : (if z.1 = k then (z.1, z.2.1, v) else z) = y := q
      subst q
      split <;> exact this
theorem at_in {Q : Value → Shared → Prop} (hu : A.units + 64 < cLine) (hd : (d == sysModules) = false) (m : DictN w s.heap d xs) (hx : Keyed s.heap xs) (x : KeyAt s.heap k key) (h : Q (.bool (look xs k).isSome) { s with toks := s.toks + k.draws }) :
    wpAny (model prog w) A (compareOp .In key (.ref d)) Q E s := by
  show wpAny _ _ (do return .bool (← contains (.ref d) key)) Q E s
  refine wpAny_bind (wpAny_contains_slot m.typeIs F.slot_dict_contains ?_)
  refine call_meetsIn F.slot_dict_contains m.typeIs F.entry_dict_contains (F.args_dict_contains_2 _ _) (S := fun A' R s' => A' = A ∧ s' = s ∧ R (.ok (.ret (.bool (look xs k).isSome))) { s with toks := s.toks + k.draws }) (fun A' R s' hS => ?_) ⟨rfl, rfl, wpAny_truthy_bool (wpAny_pure h)⟩
  obtain ⟨rfl, rfl, hq⟩ := hS
  show wpAny _ _ (dictGet d key >>= _) _ _ _
  refine wpAny_bind (got (by rw [Around.in1_units]; omega) m hx x ?_)
  cases e : look xs k with
  | some p => rw [e] at hq; exact wpAny_pure hq
  | none => rw [e] at hq; exact wpAny_bind (wpAny_pendingKey_other hd (wpAny_pure hq))
theorem at_store {Q : Unit → Shared → Prop} (hu : A.units + 64 < cLine) (m : DictN w s.heap d xs) (hx : Keyed s.heap xs) (x : KeyAt s.heap k key) (hz : xs.length ≤ sizeLine)
    (h : ∀ h', DictN w h' d (putE xs k key v) → Heap.SameBut d s.heap h' → Q () { s with heap := h', toks := s.toks + k.draws }) : wpAny (model prog w) A (setItem (.ref d) key v) Q E s := by
  unfold setItem
  refine wpAny_holding (wpAny_bind (wpAny_sequenceKey m.typeIs (by decide) ?_))
  refine wpAny_bind (wpAny_callSpecial?_slot (name := Str.ofString "__setitem__") m.typeIs F.slot_dict_setitem (wpAny_call_entry F.slot_dict_setitem m.typeIs F.entry_dict_setitem ?_ (F.args_dict_setitem_3 _ _ _)))
  show wpAny _ _ (Builtin.Dict.notOrdered "__setitem__" ⟨[.ref d, key, v], []⟩ >>= _) _ _ s
  refine wpAny_bind (wpAny_notOrdered_dict m.typeIs ?_)
  show wpAny _ _ (dictSet d key v >>= _) _ _ s
  exact wpAny_bind (stored (by rw [Around.in1_units]; omega) m hx x hz fun h' m' hs => wpAny_pure ⟨.none, rfl, wpAny_pure (h h' m' hs)⟩)
end
end PuN
set_option Elab.async false
set_option linter.all false
set_option maxRecDepth 100000
namespace Pu
open PySem PySem.Spec PyProof.Rows L2
section
variable {C : Cfg} {Γ Γ' Γn Γl Γo Γt Γe Γ1 Γ2 Γf Γu Γw : List Mo} {σ σ' : L2.St} {H H' H1 H2 : Hp} {env env' : PEnv} {Fs Fs' Fs1 Fs2 : Nat → List Addr} {v : V} {vs : List V} {d : D} {ds : List D} {F G : List Addr} {ta tb te : TE} {A B : Kd} {m n : X1} {K : PySem.W.Frag} {CT : RT}
theorem Ok.imms {us : List Nat} {W : Addr → Prop} (I : Ok C Γ σ H env Fs) (hl : lkOk us 0 Γ Γu = true) (hi : immAt us env = true) (f : Fr W H H') (dk : DiceOk C H') : Ok C Γu σ H' env Fs := by
  have len := lkOk_len hl
  refine ⟨I.le.trans len, I.ls.trans len, fun j mo g l => ?_, fun j g => ?_, fun j g => ?_, fun j k mo g _ _ _ => ?_, fun j mo g l => ?_, dk, I.pn, fns_weak (fns_fr I.fn f) fun j g => by rcases lkOk_at hl g with z | ⟨z, _⟩ <;> cases z⟩
  · rcases lkOk_at hl g with z | ⟨z, m, b, gb, lb⟩
    · rw [z] at l; rcases l with l | l <;> cases l
    · obtain ⟨v, d, h1, h2, h3⟩ := I.val j b gb lb
      rw [Nat.zero_add] at m
      obtain ⟨d', e1, e2⟩ := immAt_at hi m
      rw [h2] at e1
      cases e1
      refine ⟨v, d, h1, h2, h3.keep f fun x hx => ?_⟩
      rw [h3.imm e2] at hx
      cases hx
  · rcases lkOk_at hl g with z | ⟨z, _⟩ <;> cases z
  · rcases lkOk_at hl g with z | ⟨z, _⟩ <;> cases z
  · rcases lkOk_at hl g with z | ⟨z, _⟩ <;> cases z
  · rcases lkOk_at hl g with z | ⟨z, _, b, gb, lb⟩
    · rw [z] at l; rcases l with l | l <;> cases l
    · exact I.nq j b gb lb
structure SimI1 (C : Cfg) (Γ : List Mo) (wi : TI) (m : XL) : Prop where
  run : ∀ (σ : L2.St) (H : Hp) (env : PEnv) (Fs : Nat → List Addr) (R : It → Hp → Prop), Ok C Γ σ H env Fs →
    m env (fun ds => ∀ H' J S P, Fr (Wq C) H H' → DiceOk C H' → Walk C.CT J S P ds → P H' → NoQ C S → (∀ a ∈ S, H a = none) → R J H') → wi σ H R
  mono : Mono m
def lcLoop2 (b : XG) (mt : XB) (us : List Nat) (mi1 : XL) (b1 : XG) (mt1 : XB) (me : X1) (env : PEnv) : List D → List D → (List D → Prop) → Prop
  | [], acc, Q => Q acc
  | d :: ds, acc, Q => b d env fun env1 => mt env1 fun k => if k = true then mi1 env1 fun ds1 => immAt us env1 = true ∧ lcLoop b1 mt1 me env1 ds1 acc fun acc1 => lcLoop2 b mt us mi1 b1 mt1 me env ds acc1 Q else lcLoop2 b mt us mi1 b1 mt1 me env ds acc Q
theorem mono_lcLoop2 {us : List Nat} {b b1 : XG} {mt mt1 : XB} {mi1 : XL} {me : X1} (hb : ∀ d env Q Q', (∀ e, Q e → Q' e) → b d env Q → b d env Q') (ht : Mono mt) (hm : Mono mi1) (hb1 : ∀ d env Q Q', (∀ e, Q e → Q' e) → b1 d env Q → b1 d env Q') (ht1 : Mono mt1) (he : Mono me) :
    ∀ (ds acc : List D) (Q Q' : List D → Prop), (∀ x, Q x → Q' x) → lcLoop2 b mt us mi1 b1 mt1 me env ds acc Q → lcLoop2 b mt us mi1 b1 mt1 me env ds acc Q'
  | [], acc, Q, Q', k, q => k _ q
  | d :: ds, acc, Q, Q', k, q => hb _ _ _ _ (fun env1 q => ht _ _ _ (fun c q => by
      cases c with
      | true =>
        rw [if_pos rfl] at q ⊢
        exact hm _ _ _ (fun ds1 q => ⟨q.1, mono_lcLoop hb1 ht1 he ds1 acc _ _ (fun acc1 q => mono_lcLoop2 hb ht hm hb1 ht1 he ds acc1 Q Q' k q) q.2⟩) q
      | false =>
        rw [if_neg Bool.false_ne_true] at q ⊢
        exact mono_lcLoop2 hb ht hm hb1 ht1 he ds acc Q Q' k q) q) q
def xLc2 (mi : XL) (b : XG) (mt : XB) (us : List Nat) (mi1 : XL) (b1 : XG) (mt1 : XB) (me : X1) : X1 := fun env Q => mi env fun ds => lcLoop2 b mt us mi1 b1 mt1 me env ds [] fun acc => Q (.lst acc)
def LAt (C : Cfg) (H1 : Hp) (Dl : Addr) (H : Hp) (accD : List D) : Prop := ∃ accV F, H Dl = some (.lst accV) ∧ Rps C.CT H accV accD F ∧ Fr (Wq C) H1 H ∧ DiceOk C H ∧ F.Nodup ∧ ∀ a ∈ F, H1 a = none ∧ a ≠ Dl
theorem wipeG_o {ws : List Nat} {Γf : List Mo} : ∀ j : Nat, (wipeG Γf ws)[j]? = some .o → Γf[j]? = some .o := by
  induction ws with
  | nil => exact fun j g => g
  | cons k ws ih =>
    intro j g
    rcases get_set g with ⟨_, e, _⟩ | ⟨_, g⟩
    · cases e
    · exact ih j g
theorem sim_lc2 {wi wi1 : TI} {g g1 : TG} {tt tt1 : TT} {ws ks us ws1 ks1 : List Nat} {mi mi1 : XL} {b b1 : XG} {mt mt1 : XB} {me : X1} {Γt1 : List Mo} (frs : ∀ k ∈ ws, Free C k) (s : SimI C Γ wi A mi) (hw : wk Γ Γf = true) (hS : noO A.set Γf = true) (sg : SimG C (wipeG Γf ws) Γt ks g b) (hk : ks.all (fun k => decide (k ∈ ws)) = true)
    (st : SimT C Γt tt mt) (s1 : SimI1 C Γt wi1 mi1) (hl : lkOk us 0 Γt Γu = true) (frs1 : ∀ k ∈ ws1, Free C k) (sg1 : SimG C (wipeG Γu ws1) Γt1 ks1 g1 b1) (hk1 : ks1.all (fun k => decide (k ∈ ws1)) = true) (st1 : SimT C Γt1 tt1 mt1) (se : Sim C Γt1 te .own me) :
    Sim C Γ (tLc2 wi g tt wi1 g1 tt1 te ws ws1) .own (xLc2 mi b mt us mi1 b1 mt1 me) :=
  ⟨fun σ H env Fs Q I h => s.run σ H env Fs _ I (s.mono env _ _ (fun ds q H1 J S P f dk wlk p kd Dl hD => by
    have I1 : Ok C (wipeG Γf ws) (L2.wipe σ ws) H1 env Fs := ((I.step f dk).weak hw).wipe ws frs
    have lw : (L2.wipe σ ws).length = σ.length := L2.wipe_length σ ws
    have ho : ∀ j : Nat, (wipeG Γf ws)[j]? = some .o → Γf[j]? = some .o := wipeG_o
    have nqD : ¬ Wq C Dl := fun w => wq_there dk w hD
    refine ⟨fun i m H => m = ds.length - i ∧ i ≤ ds.length ∧ ∃ accD, LAt C H1 Dl H accD ∧
      lcLoop2 b mt us mi1 b1 mt1 me env (ds.drop i) accD (fun acc => ∀ v H' F, Fr (Wq C) _ H' → DiceOk C H' → Rp C.CT H' v (.lst acc) F → KdOk C Γ Fs _ .own F → Q v H'), ⟨ds.length, rfl, Nat.zero_le _, [], ⟨[], [], upd_same, .nil, Fr.refl.hid hD, dk.keep (Fr.new hD), List.nodup_nil, (fun _ z => nomatch z)⟩, q⟩, ?_⟩
    rintro i m H2 ⟨rfl, hi, accD, ⟨accV, F, e2, r2, f2, dk2, nd2, fr2⟩, q2⟩
    have nqS : ∀ a ∈ S, ¬ Wq C a := kd.1.wq
    have p2 : P H2 := wlk.keep _ H1 H2 p f2 nqS
    by_cases hlt : i < ds.length
    · refine .inr ⟨wlk.go i H2 p2 hlt, fun H' => ∃ accD, LAt C H1 Dl H' accD ∧
        lcLoop2 b mt us mi1 b1 mt1 me env (ds.drop (i + 1)) accD (fun acc => ∀ v H' F, Fr (Wq C) _ H' → DiceOk C H' → Rp C.CT H' v (.lst acc) F → KdOk C Γ Fs _ .own F → Q v H'), fun H' hN => ⟨ds.length - (i + 1), by omega, rfl, hlt, hN⟩, fun x H3 y => ?_⟩
      obtain ⟨d, G, e, f3, r3, sub⟩ := wlk.yld i H2 x H3 p2 hlt y
      have hd : ds.drop i = d :: ds.drop (i + 1) := by
        obtain ⟨h1, h2⟩ := List.getElem?_eq_some_iff.mp e
        rw [← h2, List.drop_eq_getElem_cons h1]
      rw [hd] at q2
      have dk3 : DiceOk C H3 := dk2.keep f3
      have f13 : Fr (Wq C) H1 H3 := f2.trans f3.wq
      refine sg.run _ H3 env Fs x d G _ (I1.step f13 dk3) r3 (kd.1.subm sub) (fun a ha j gj hb => ?_) (sg.mono _ _ _ _ (fun env4 q4 σ4 Fs4 I4 o4 fs4 l4 k4 => ⟨?_, ?_⟩) q2)
      · have gj := ho j gj
        exact absurd gj (of_decide_eq_true (List.all_eq_true.mp hS j (kd.2 a (sub a ha) j (wk_o hw gj) hb)))
      · refine wipe_eq (l4.trans lw) (fun j hj => k4 j fun z => hj (of_decide_eq_true (List.all_eq_true.mp hk j z))) l4
      · have e3 : H3 Dl = some (.lst accV) := f3.keep _ _ e2 fun z => z
        have r3' : Rps C.CT H3 accV accD F := r2.keep f3 fun _ _ z => z
        refine st.run σ4 H3 env4 Fs4 _ I4 (st.mono _ _ _ (fun c q5 H5 f5 dk5 => ?_) q4)
        have nqF : ∀ a ∈ F, ¬ Wq C a := (NoQS.new dk fun a ha => (fr2 a ha).1).wq
        have e5 : H5 Dl = some (.lst accV) := f5.keep _ _ e3 nqD
        have r5 : Rps C.CT H5 accV accD F := r3'.keep f5 nqF
        have f15 : Fr (Wq C) H1 H5 := f13.trans f5
        cases c with
        | true =>
          rw [if_pos rfl] at q5 ⊢
          refine s1.run σ4 H5 env4 Fs4 _ (I4.step f5 dk5) (s1.mono _ _ _ (fun ds1 q6 H6 J1 S1 P1 f6 dk6 wlk1 p6 nS1 new1 => ?_) q5)
          obtain ⟨im, q6⟩ := q6
          have I6 := (I4.step f5 dk5).step f6 dk6
          have nd1 : ∀ a ∈ S1, a ≠ Dl := fun a ha z => by
            have := new1 a ha
            rw [z, e5] at this; cases this
          refine ⟨fun j k H => k = ds1.length - j ∧ j ≤ ds1.length ∧ ∃ accD, LAt C H1 Dl H accD ∧ Fr (fun x => Wq C x ∨ x = Dl) H6 H ∧
            lcLoop b1 mt1 me env4 (ds1.drop j) accD (fun acc1 => lcLoop2 b mt us mi1 b1 mt1 me env (ds.drop (i + 1)) acc1 _), ⟨ds1.length, rfl, Nat.zero_le _, accD, ⟨accV, F, f6.keep _ _ e5 nqD, r5.keep f6 nqF, f15.trans f6, dk6, nd2, fr2⟩, Fr.refl, q6⟩, ?_⟩
          rintro j k H7 ⟨rfl, hj, accD7, ⟨accV7, F7, e7, r7, f7, dk7, nd7, fr7⟩, f67, q7⟩
          have p7 : P1 H7 := wlk1.keep _ H6 H7 p6 f67 fun a ha z => z.elim (nS1.wq a ha) (nd1 a ha)
          by_cases hlt1 : j < ds1.length
          · refine .inr ⟨wlk1.go j H7 p7 hlt1, fun H' => ∃ accD, LAt C H1 Dl H' accD ∧ Fr (fun x => Wq C x ∨ x = Dl) H6 H' ∧
              lcLoop b1 mt1 me env4 (ds1.drop (j + 1)) accD (fun acc1 => lcLoop2 b mt us mi1 b1 mt1 me env (ds.drop (i + 1)) acc1 _), fun H' hN => ⟨ds1.length - (j + 1), by omega, rfl, hlt1, hN⟩, fun x H8 y => ?_⟩
            obtain ⟨d8, G8, e8, f8, r8, sub8⟩ := wlk1.yld j H7 x H8 p7 hlt1 y
            have hd8 : ds1.drop j = d8 :: ds1.drop (j + 1) := by
              obtain ⟨h1, h2⟩ := List.getElem?_eq_some_iff.mp e8
              rw [← h2, List.drop_eq_getElem_cons h1]
            rw [hd8] at q7
            have dk8 : DiceOk C H8 := dk7.keep f8
            have f68 : Fr (fun x => Wq C x ∨ x = Dl) H6 H8 := f67.trans (f8.mono fun _ z => z.elim)
            have I8 : Ok C (wipeG Γu ws1) (L2.wipe σ4 ws1) H8 env4 Fs4 := (I6.imms hl im f68 dk8).wipe ws1 frs1
            have lw1 : (L2.wipe σ4 ws1).length = σ4.length := L2.wipe_length σ4 ws1
            refine sg1.run _ H8 env4 Fs4 x d8 G8 _ I8 r8 (nS1.subm sub8) (fun a ha j gj hb => ?_) (sg1.mono _ _ _ _ (fun env9 q9 σ9 Fs9 I9 o9 fs9 l9 k9 => ⟨?_, ?_⟩) q7)
            · have gj := wipeG_o j gj
              rcases lkOk_at hl gj with z | ⟨z, _⟩ <;> cases z
            · refine wipe_eq (l9.trans lw1) (fun j hj => k9 j fun z => hj (of_decide_eq_true (List.all_eq_true.mp hk1 j z))) l9
            · have e8' : H8 Dl = some (.lst accV7) := f8.keep _ _ e7 fun z => z
              have r8' : Rps C.CT H8 accV7 accD7 F7 := r7.keep f8 fun _ _ z => z
              have f18 : Fr (Wq C) H1 H8 := f7.trans f8.wq
              refine st1.run σ9 H8 env9 Fs9 _ I9 (st1.mono _ _ _ (fun c q10 H10 f10 dk10 => ?_) q9)
              have nqF7 : ∀ a ∈ F7, ¬ Wq C a := (NoQS.new dk fun a ha => (fr7 a ha).1).wq
              have e10 : H10 Dl = some (.lst accV7) := f10.keep _ _ e8' nqD
              have r10 : Rps C.CT H10 accV7 accD7 F7 := r8'.keep f10 nqF7
              have f110 : Fr (Wq C) H1 H10 := f18.trans f10
              have f610 : Fr (fun x => Wq C x ∨ x = Dl) H6 H10 := f68.trans (f10.mono fun _ z => .inl z)
              cases c with
              | true =>
                rw [if_pos rfl] at q10 ⊢
                refine se.run σ9 H10 env9 Fs9 _ (I9.step f10 dk10) (se.mono _ _ _ (fun y q11 w H11 G11 f11 dk11 r11 k11 => ?_) q10)
                have e11 : H11 Dl = some (.lst accV7) := f11.keep _ _ e10 nqD
                have nG : Dl ∉ G11 := fun z => by
                  have := k11.2.2 Dl z
                  rw [e10] at this; cases this
                have nF : Dl ∉ F7 := fun z => (fr7 Dl z).2 rfl
                refine ⟨accV7, e11, by rw [r10.length]; exact q11.1, accD7 ++ [y], ⟨accV7 ++ [w], F7 ++ (G11 ++ []), upd_same, ((r10.keep f11 nqF7).upd e11 rfl nF).append (.cons (r11.upd e11 rfl nG) .nil), (f110.trans f11).hid hD, dk11.upd (f110.trans f11) hD dk (im_of e11 rfl), ?_, fun a ha => ?_⟩, (f610.trans (f11.mono fun _ z => .inl z)).trans ((Fr.at rfl e11 rfl).mono fun _ z => .inr z.symm), q11.2⟩
                · rw [List.append_nil]
                  refine List.nodup_append.mpr ⟨nd7, k11.2.1, fun a ha b hb e => ?_⟩
                  subst e
                  exact r10.tracked a ha (k11.2.2 a hb)
                · rw [List.append_nil] at ha
                  rcases List.mem_append.mp ha with ha | ha
                  · exact fr7 a ha
                  · exact ⟨f110.there a (k11.2.2 a ha), fun z => nG (z ▸ ha)⟩
              | false =>
                rw [if_neg Bool.false_ne_true] at q10 ⊢
                exact ⟨accD7, ⟨accV7, F7, e10, r10, f110, dk10, nd7, fr7⟩, f610, q10⟩
          · have e : j = ds1.length := by omega
            subst e
            rw [List.drop_length] at q7
            exact .inl ⟨wlk1.stop H7 p7, accD7, ⟨accV7, F7, e7, r7, f7, dk7, nd7, fr7⟩, q7⟩
        | false =>
          rw [if_neg Bool.false_ne_true] at q5 ⊢
          exact ⟨accD, ⟨accV, F, e5, r5, f15, dk5, nd2, fr2⟩, q5⟩
    · have e : i = ds.length := by omega
      subst e
      rw [List.drop_length] at q2
      refine .inl ⟨wlk.stop H2 p2, q2 (.ref Dl) H2 (Dl :: F) (f.trans f2) dk2 (.lst e2 r2) ⟨NoQS.new dk fun a ha => ?_, List.nodup_cons.mpr ⟨fun z => (fr2 Dl z).2 rfl, nd2⟩, fun a ha => ?_⟩⟩
      · rcases List.mem_cons.mp ha with z | ha
        · rw [z]; exact hD
        · exact (fr2 a ha).1
      · rcases List.mem_cons.mp ha with z | ha
        · rw [z]; exact f.there _ hD
        · exact f.there _ (fr2 a ha).1) h),
   fun env Q Q' k q => s.mono env _ _ (fun ds q => mono_lcLoop2 sg.mono st.mono s1.mono sg1.mono st1.mono se.mono ds [] _ _ (fun acc q => k _ q) q) q⟩
instance {us : List Nat} {mi mi1 : XL} {b b1 : XG} {mt mt1 : XB} {me : X1} [h0 : MX mi] [h1 : MG b] [h2 : MX mt] [h3 : MX mi1] [h4 : MG b1] [h5 : MX mt1] [h6 : MX me] : MX (xLc2 mi b mt us mi1 b1 mt1 me) := ⟨fun env Q Q' k q => h0.mono env _ _ (fun ds q => mono_lcLoop2 h1.mono h2.mono h3.mono h4.mono h5.mono h6.mono ds [] _ _ (fun acc q => k _ q) q) q⟩
theorem simi1_own (s : Sim C Γ te .own m) : SimI1 C Γ (iSeq K te) (mSeq m) := ⟨fun σ H env Fs R I h => s.run σ H env Fs _ I (s.mono env _ _ (fun d q v H1 F f dk r k => by
    cases r with
    | lst ha ra => exact ⟨_, rfl, .inl ⟨⟨_, SqL.of ha⟩, q H1 _ _ _ f dk walk_lst ⟨ha, ra⟩ k.1 k.2.2⟩⟩
    | tup ha ra => exact ⟨_, rfl, .inr ⟨⟨_, SqT.of ha⟩, q H1 _ _ _ f dk walk_tpl ⟨ha, ra⟩ k.1 k.2.2⟩⟩
    | _ => exact (show False from q).elim) h), fun env Q Q' k q => s.mono env _ _ (fun d q => by cases d <;> first | exact k _ q | exact q) q⟩
end
end Pu
set_option Elab.async false
set_option linter.all false
set_option maxRecDepth 100000
namespace Pu
open PySem PySem.Spec PyProof.Rows L2
section
variable {kx vx t i t1 i1 : Expr} {fs fs1 : List Expr} {gens : List Comprehension} {scope : Scope} {pos : Pos} {d : Nat} {it acc : Value} {env : Env} {D : Addr}
end
section
variable {prog : Program} {w : World} {A : Around} {R : Result → Shared → Prop} {s : Shared} {kx vx t i : Expr} {gens : List Comprehension} {scope : Scope} {pos : Pos} {fs : List Expr} {rest : Sem Fin → Sem Fin} {d : Nat} {it acc : Value} {env : Env}
end
abbrev Rest := L2.St → Hp → (Hp → Prop) → Prop
section
variable {X : Cx}
structure RestOk (X : Cx) (sem : Sem Fin → Sem Fin) (vs : List Nat) (rest : Rest) : Prop where
  run : ∀ (pins : List (Addr × Obj)) (s : Shared) (σ : L2.St) (H : Hp) (Nx : Hp → Prop) (k : Sem Fin) (Q : Fin → Shared → Prop) (E : Value → Shared → Prop), Inv X pins σ H s → rest σ H Nx →
    (∀ s' H', Inv X pins (L2.wipe σ vs) H' s' → Nx H' → wpAny (model X.prog X.w) X.A k Q E s') → wpAny (model X.prog X.w) X.A (sem k) Q E s
end
end Pu
set_option Elab.async false
set_option linter.all false
set_option maxRecDepth 100000
namespace Pu
open PySem PySem.Spec PyProof.Rows L2
section
variable {X : Cx}
end
end Pu
set_option Elab.async false
set_option linter.all false
set_option maxRecDepth 100000
namespace Pu
open PySem PySem.Spec PyProof.Rows L2
section
variable {C : Cfg} {Γ Γ' Γn Γl Γo Γt Γe Γ1 Γ2 Γf Γu Γt1 : List Mo} {σ σ' : L2.St} {H H' H1 H2 : Hp} {env env' : PEnv} {Fs Fs' Fs1 Fs2 : Nat → List Addr} {v : V} {vs : List V} {d : D} {ds : List D} {F G : List Addr} {ta tb te tk tv : TE} {A B : Kd} {m n : X1} {K : PySem.W.Frag} {CT : RT}
abbrev DRest := PEnv → List (Key × D) → (List (Key × D) → Prop) → Prop
def MonoR (r : DRest) : Prop := ∀ env acc Q Q', (∀ x, Q x → Q' x) → r env acc Q → r env acc Q'
class MR (r : DRest) : Prop where
  mono : MonoR r
def DAt (C : Cfg) (H1 : Hp) (Dl : Addr) (H : Hp) (acc : List (Key × D)) : Prop := ∃ accV F, H Dl = some (.dK accV) ∧ accV.map (·.1) = acc.map (·.1) ∧ Rps C.CT H (accV.map (·.2)) (acc.map (·.2)) F ∧ Fr (Wq C) H1 H ∧ DiceOk C H ∧ F.Nodup ∧ ∀ a ∈ F, H1 a = none ∧ a ≠ Dl
theorem DAt.keep {Dl : Addr} {acc : List (Key × D)} (da : DAt C H1 Dl H acc) (dk : DiceOk C H1) (hD : H1 Dl = none) (f : Fr (Wq C) H H') (dk' : DiceOk C H') : DAt C H1 Dl H' acc := by
  obtain ⟨accV, F, e, ke, r, fr, _, nd, new⟩ := da
  have nqF : ∀ a ∈ F, ¬ Wq C a := (NoQS.new dk fun a ha => (new a ha).1).wq
  exact ⟨accV, F, f.keep _ _ e fun w => wq_there dk w hD, ke, r.keep f nqF, fr.trans f, dk', nd, new⟩
structure SimRest (C : Cfg) (Γ : List Mo) (t : Addr → Rest) (r : DRest) : Prop where
  run : ∀ (σ : L2.St) (H : Hp) (env : PEnv) (Fs : Nat → List Addr) (H1 : Hp) (Dl : Addr) (acc : List (Key × D)) (Nx : Hp → Prop), DiceOk C H1 → H1 Dl = none → Ok C Γ σ H env Fs → DAt C H1 Dl H acc →
    r env acc (fun acc1 => ∀ H', DAt C H1 Dl H' acc1 → Fr (fun x => Wq C x ∨ x = Dl) H H' → Nx H') → t Dl σ H Nx
  mono : MonoR r
end
end Pu
set_option Elab.async false
set_option linter.all false
set_option maxRecDepth 100000
namespace Pu
open PySem PySem.Spec PyProof.Rows L2
open PuN (En DictN Keyed KeyAt look Lies putE)
mutual
inductive KV1 (H : Hp) : NestedKey → V → Prop
  | non : KV1 H .none .non
  | bl (b : Bool) : KV1 H (.num (if b = true then 1 else 0)) (.bl b)
  | int (i : Int) : KV1 H (.num i) (.int i)
  | tup {a : Addr} {vs : List V} {ks : List NestedKey} : H a = some (.tup vs) → KVL H ks vs → KV1 H (.tup ks) (.ref a)
inductive KVL (H : Hp) : List NestedKey → List V → Prop
  | nil : KVL H [] []
  | cons {k : NestedKey} {v : V} {ks : List NestedKey} {vs : List V} : KV1 H k v → KVL H ks vs → KVL H (k :: ks) (v :: vs)
end
section
variable {CT : RT} {H : Hp} {P : Program} {w : World} {h : Heap}
mutual
theorem Rp.kv : ∀ {v : V} {d : D} {F : List Addr} {k : NestedKey}, Rp CT H v d F → d.nk = some k → KV1 H k v
  | _, _, _, _, .non, e => by simp only [D.nk, Option.some.injEq] at e; subst e; exact .non
  | _, _, _, _, .bl b, e => by simp only [D.nk, Option.some.injEq] at e; subst e; exact .bl b
  | _, _, _, _, .int i, e => by simp only [D.nk, Option.some.injEq] at e; subst e; exact .int i
  | _, _, _, _, .str b, e => by simp [D.nk] at e
  | _, _, _, _, .tup (ds := ds) h r, e => by
    simp only [D.nk] at e
    cases q : nkL ds with
    | none => rw [q] at e; cases e
    | some ks => rw [q] at e; cases e; exact .tup h (Rps.kv r q)
  | _, _, _, _, .lst h r, e => by simp [D.nk] at e
  | _, _, _, _, .dK h _ r, e => by simp [D.nk] at e
  | _, _, _, _, .dT h _ r, e => by simp [D.nk] at e
  | _, _, _, _, .obj h _ r, e => by simp [D.nk] at e
  | _, _, _, _, .fz h _ _ r, e => by simp [D.nk] at e
  | _, _, _, _, .dN _ _ _ _ _, e => by simp [D.nk] at e
theorem Rps.kv : ∀ {vs : List V} {ds : List D} {F : List Addr} {ks : List NestedKey}, Rps CT H vs ds F → nkL ds = some ks → KVL H ks vs
  | _, _, _, _, .nil, e => by simp only [nkL, Option.some.injEq] at e; subst e; exact .nil
  | _, _, _, _, .cons (d := d) (ds := ds) r rs, e => by
    simp only [nkL] at e
    cases q : d.nk with
    | none => rw [q] at e; cases e
    | some k =>
      cases q2 : nkL ds with
      | none => rw [q, q2] at e; cases e
      | some ks => rw [q, q2] at e; cases e; exact .cons (Rp.kv r q) (Rps.kv rs q2)
end
mutual
theorem nk_imm : ∀ {d : D} {k : NestedKey}, d.nk = some k → d.imm = true
  | .non, _, _ => rfl
  | .bl _, _, _ => rfl
  | .int _, _, _ => rfl
  | .str _, _, e => by simp [D.nk] at e
  | .tup ds, _, e => by
    simp only [D.nk] at e
    cases q : nkL ds with
    | none => rw [q] at e; cases e
    | some ks => exact nkL_imm q
  | .lst _, _, e => by simp [D.nk] at e
  | .dK _, _, e => by simp [D.nk] at e
  | .dT _, _, e => by simp [D.nk] at e
  | .obj _ _, _, e => by simp [D.nk] at e
  | .fz _ _, _, e => by simp [D.nk] at e
  | .dN _, _, e => by simp [D.nk] at e
theorem nkL_imm : ∀ {ds : List D} {ks : List NestedKey}, nkL ds = some ks → immL ds = true
  | [], _, _ => rfl
  | d :: ds, _, e => by
    simp only [nkL] at e
    cases q : d.nk with
    | none => rw [q] at e; cases e
    | some k =>
      cases q2 : nkL ds with
      | none => rw [q, q2] at e; cases e
      | some ks => simp only [immL, nk_imm q, nkL_imm q2, Bool.and_self]
end
theorem ref_tup {a : Addr} {vs : List V} (ok : HOk P w H h) (e : H a = some (.tup vs)) : ∃ its o n, Vals vs its ∧ h.get? a = some o ∧ o.cls = .type "tuple" ∧ o.data = .seq its.toArray n := by
  obtain ⟨_, its, r, o, h1, h2, n, h3⟩ := (show ObjOk P w H h a (.tup vs) from ok a _ e)
  exact ⟨its, o, n, r, h1, h2, h3⟩
mutual
theorem KV1.is : ∀ {k : NestedKey} {v : V} {u : Value}, KV1 H k v → HOk P w H h → RelV v u → NestedIs h k u
  | _, _, _, .non, _, r => by cases (show _ = Value.none from r); exact .none
  | _, _, _, .bl b, _, r => by cases (show _ = Value.bool b from r); exact .bool rfl
  | _, _, _, .int i, _, r => by obtain ⟨t, rfl⟩ := r; exact .int i t
  | _, _, _, .tup (a := a) e ks, ok, r => by
    obtain ⟨its, o, n, rv, h1, h2, h3⟩ := ref_tup ok e
    cases (show _ = Value.ref a from r)
    exact .tup h1 h2 h3 (KVL.is ks ok rv)
theorem KVL.is : ∀ {ks : List NestedKey} {vs : List V} {us : List Value}, KVL H ks vs → HOk P w H h → Vals vs us → NestedAll h ks us
  | _, _, _, .nil, _, r => by cases r; exact .nil
  | _, _, _, .cons k ks, ok, r => by cases r with | cons r rs => exact .cons (KV1.is k ok r) (KVL.is ks ok rs)
end
mutual
theorem KV1.hash : ∀ {k : NestedKey} {v : V}, KV1 H k v → ∀ w w' : World, k.hash w = k.hash w'
  | _, _, .non, w, w' => rfl
  | _, _, .bl b, w, w' => rfl
  | _, _, .int i, w, w' => rfl
  | _, _, .tup _ ks, w, w' => by rw [NestedKey.hash, NestedKey.hash, KVL.hash ks w w']
theorem KVL.hash : ∀ {ks : List NestedKey} {vs : List V}, KVL H ks vs → ∀ w w' : World, NestedKey.hashes w ks = NestedKey.hashes w' ks
  | _, _, .nil, w, w' => rfl
  | _, _, .cons k ks, w, w' => by rw [NestedKey.hashes, NestedKey.hashes, KV1.hash k w w', KVL.hash ks w w']
end
theorem KV1.no_str {k : NestedKey} {v : V} {u : Value} (x : KV1 H k v) (r : RelV v u) : ∀ (z : Str) (t : Tok), u ≠ .str z t := fun z t e => by
  subst e
  cases x with
  | non => cases r
  | bl b => cases r
  | int i => obtain ⟨_, q⟩ := r; cases q
  | tup _ _ => cases r
theorem KV1.at {k : NestedKey} {v : V} {u : Value} (x : KV1 H k v) (hk : k.depth ≤ 8) (ok : HOk P w H h) (r : RelV v u) : KeyAt h k u := ⟨x.is ok r, hk, x.no_str r⟩
end
def NAt (H : Hp) (a : Addr) (xs : List NE) : Prop := H a = some (hN a xs) ∨ (xs = [] ∧ H a = some (.dK []))
def NKeys (H : Hp) (xs : List NE) : Prop := ∀ x ∈ xs, KV1 H x.k x.key ∧ x.k.depth ≤ 8
abbrev ReN (x : NE) (y : En) : Prop := y.1 = x.k ∧ RelV x.key y.2.1 ∧ RelV x.val y.2.2
def NLook (xs : List NE) (k : NestedKey) : Option V := (xs.find? fun x => decide (x.k = k)).map NE.val
def NPut (xs : List NE) (k : NestedKey) (key v : V) : List NE := if (NLook xs k).isSome then xs.map (fun x => if x.k = k then { x with val := v } else x) else xs ++ [⟨k, key, v⟩]
section
variable {H : Hp} {P : Program} {w : World} {h : Heap} {a : Addr} {xs : List NE} {ys : List En}
theorem ens : ∀ {xs : List NE} {es : List DictEntry}, Paired (fun (x : NE) (e : DictEntry) => (∀ w : World, e.hash = x.k.hash w) ∧ RelV x.key e.key ∧ RelV x.val e.val) xs es →
    ∃ ys : List En, Paired ReN xs ys ∧ ∀ w : World, es = ys.map fun y => ⟨y.1.hash w, y.2.1, y.2.2⟩
  | _, _, .nil => ⟨[], .nil, fun _ => rfl⟩
  | _, _, .cons (a := x) (b := e) r t => by
    obtain ⟨ys, h1, h2⟩ := ens t
    exact ⟨(x.k, e.key, e.val) :: ys, .cons ⟨rfl, r.2.1, r.2.2⟩ h1, fun w => by rw [List.map_cons, ← h2 w, ← r.1 w]⟩
theorem ReN.look : ∀ {xs : List NE} {ys : List En} (k : NestedKey), Paired ReN xs ys → RelO (NLook xs k) (PuN.look ys k)
  | _, _, k, .nil => True.intro
  | _, _, k, .cons (a := x) (b := y) r t => by
    have ih := ReN.look k t
    unfold NLook PuN.look at ih ⊢
    by_cases e : x.k = k
    · rw [List.find?_cons_of_pos (by simpa using e), List.find?_cons_of_pos (by simpa [r.1] using e)]
      exact r.2.2
    · rw [List.find?_cons_of_neg (by simpa using e), List.find?_cons_of_neg (by simpa [r.1] using e)]
      exact ih
theorem ReN.keys (r : Paired ReN xs ys) : ys.map (·.1) = xs.map NE.k := by
  induction r with
  | nil => rfl
  | cons r _ ih => rw [List.map_cons, List.map_cons, ih, r.1]
theorem ReN.length (r : Paired ReN xs ys) : ys.length = xs.length := by
  have := congrArg List.length (ReN.keys r)
  simpa using this
theorem ReN.keyed (r : Paired ReN xs ys) (ok : HOk P w H h) (nk : NKeys H xs) (nd : (xs.map NE.k).Nodup) : Keyed h ys := by
  refine ⟨by rw [ReN.keys r]; exact nd, fun y hy => ?_⟩
  have : ∀ {xs : List NE} {ys : List En}, Paired ReN xs ys → ∀ y ∈ ys, ∃ x ∈ xs, ReN x y := by
    intro xs ys r
    induction r with
    | nil => intro y hy; cases hy
    | @cons x y xs ys r t ih =>
      intro z hz
      rcases List.mem_cons.mp hz with e | hz
      · exact ⟨x, List.mem_cons_self, by rw [e]; exact r⟩
      · obtain ⟨x', m, q⟩ := ih z hz
        exact ⟨x', List.mem_cons_of_mem _ m, q⟩
  obtain ⟨x, hx, e1, e2, e3⟩ := this r y hy
  obtain ⟨h1, h2⟩ := nk x hx
  rw [e1]
  exact h1.at h2 ok e2
theorem nat_rd (ok : HOk P w H h) (e : NAt H a xs) : xs.length ≤ sizeLine ∧ (a == sysModules) = false ∧ (xs.map NE.k).Nodup ∧ ∃ ys, Paired ReN xs ys ∧ DictN w h a ys := by
  rcases e with e | ⟨rfl, e⟩
  · obtain ⟨⟨h1, h2, h3, o, es, ep, h4, h5, h6, h7⟩, _, _⟩ := (show ObjOk P w H h a (hN a xs) from ok a _ e)
    obtain ⟨ys, p, l⟩ := ens h7
    exact ⟨h3, h1, h2, ys, p, o, es, ep, h4, h5, h6, l w⟩
  · obtain ⟨h1, h2, vs, rel, o, es, ep, h4, h5, h6, _, h7, _⟩ := dk_of ok e
    cases rel
    refine ⟨Nat.zero_le _, h2, List.nodup_nil, [], .nil, o, es, ep, h4, h5, h6, ?_⟩
    have e0 : es.toList = [] := by generalize es.toList = l at h7; cases h7; rfl
    rw [Lies, e0]
    rfl
theorem NDict.stay {h1 h2 : Heap} (x : NDict a xs h1) (k : ∀ o, h1.get? a = some o → h2.get? a = some o) : NDict a xs h2 := by
  obtain ⟨y1, y2, y3, o, es, ep, y4, y5⟩ := x
  exact ⟨y1, y2, y3, o, es, ep, k o y4, y5⟩
theorem lies_ne : ∀ {xs : List NE} {ys : List En} {es : List DictEntry}, Paired ReN xs ys → (∀ x ∈ xs, ∀ w w' : World, x.k.hash w = x.k.hash w') → es = ys.map (fun y => (⟨y.1.hash w, y.2.1, y.2.2⟩ : DictEntry)) →
    Paired (fun (x : NE) (e : DictEntry) => (∀ w : World, e.hash = x.k.hash w) ∧ RelV x.key e.key ∧ RelV x.val e.val) xs es
  | _, _, _, .nil, _, e => by subst e; exact .nil
  | _, _, _, .cons (a := x) (b := y) r t, hh, e => by
    subst e
    exact .cons ⟨fun w' => by show y.1.hash w = _; rw [r.1]; exact hh x List.mem_cons_self _ _, r.2.1, r.2.2⟩ (lies_ne t (fun z hz => hh z (List.mem_cons_of_mem _ hz)) rfl)
theorem nat_new {H' : Hp} (hd : (a == sysModules) = false) (nd : (xs.map NE.k).Nodup) (hz : xs.length ≤ sizeLine) (r : Paired ReN xs ys) (hh : ∀ x ∈ xs, ∀ w w' : World, x.k.hash w = x.k.hash w') (m : DictN w h a ys) : ObjOk P w H' h a (hN a xs) := by
  obtain ⟨o, es, ep, h4, h5, h6, l⟩ := m
  exact ⟨⟨hd, nd, hz, o, es, ep, h4, h5, h6, lies_ne r hh l⟩, ⟨o, h4⟩, fun h1 h2 x k => x.stay k⟩
theorem ReN.put {k : NestedKey} {key v : V} {ku vu : Value} (r : Paired ReN xs ys) (rk : RelV key ku) (rv : RelV v vu) : Paired ReN (NPut xs k key v) (putE ys k ku vu) := by
  have e : (NLook xs k).isSome = (PuN.look ys k).isSome := by
    have q := ReN.look k r
    revert q
    cases NLook xs k <;> cases PuN.look ys k <;> intro q <;> first | rfl | exact q.elim
  unfold NPut putE
  rw [e]
  split
  · have : ∀ {xs : List NE} {ys : List En}, Paired ReN xs ys → Paired ReN (xs.map (fun x => if x.k = k then { x with val := v } else x)) (ys.map fun x => if x.1 = k then (x.1, x.2.1, vu) else x) := by
      intro xs ys r
      induction r with
      | nil => exact .nil
      | @cons x y xs ys r t ih =>
        rw [List.map_cons, List.map_cons]
        refine .cons ?_ ih
        rw [r.1]
        by_cases z : x.k = k
        · rw [if_pos z, if_pos z]; exact ⟨rfl, r.2.1, rv⟩
        · rw [if_neg z, if_neg z]; exact r
    exact this r
  · have : ∀ {xs : List NE} {ys : List En} {x : NE} {y : En}, Paired ReN xs ys → ReN x y → Paired ReN (xs ++ [x]) (ys ++ [y]) := by
      intro xs ys x y r q
      induction r with
      | nil => exact .cons q .nil
      | cons r _ ih => exact .cons r ih
    exact this r ⟨rfl, rk, rv⟩
theorem nput_len {k : NestedKey} {key v : V} : (NPut xs k key v).length ≤ xs.length + 1 := by unfold NPut; split <;> simp
end
section
variable {X : Cx} {K : PySem.W.Frag} {CT : RT} {H : Hp}
def rInN (neg : Bool) : R2 := fun y x H Q => ∃ a xs k, x = .ref a ∧ NAt H a xs ∧ NKeys H xs ∧ KV1 H k y ∧ k.depth ≤ 8 ∧ Q (.bl (xor neg (NLook xs k).isSome)) H
theorem relO_some {o : Option V} {p : Option Value} (r : RelO o p) : o.isSome = p.isSome := by cases o <;> cases p <;> first | rfl | exact r.elim
theorem k_inN (hu : X.A.units + 64 < cLine) : OpR X (compareOp .In) (rInN false) := by
  intro pins s σ H y x v u Q I ry rx h
  obtain ⟨a, xs, k, rfl, ha, nk, hk, hd, q⟩ := h
  cases (show u = Value.ref a from rx)
  obtain ⟨z, hs, nd, ys, rel, dd⟩ := nat_rd I.hok ha
  refine PuN.at_in hu hs dd (ReN.keyed rel I.hok nk nd) (hk.at hd I.hok ry) ⟨.bl _, H, I.tok _, rfl, ?_⟩
  have e := relO_some (ReN.look k rel)
  rw [Bool.false_xor, e] at q
  exact q
def NPutAt (H : Hp) (a : Addr) (i v : V) (Q : Hp → Prop) : Prop := ∃ xs k, NAt H a xs ∧ NKeys H xs ∧ KV1 H k i ∧ k.depth ≤ 8 ∧ xs.length < sizeLine ∧ Q (upd H a (hN a (NPut xs k i v)))
def rSetN : V → V → V → Hp → (Hp → Prop) → Prop := fun o i v H Q => ∃ a, o = .ref a ∧ NPutAt H a i v Q
theorem nat_mut {a : Addr} {xs : List NE} (h : NAt H a xs) : Mut (H a) := by
  rcases h with h | ⟨_, h⟩ <;> rw [h] <;> exact True.intro
theorem nput_keys {xs : List NE} {k : NestedKey} {key v : V} (nk : NKeys H xs) (hk : KV1 H k key) (hd : k.depth ≤ 8) : NKeys H (NPut xs k key v) := by
  unfold NPut
  split
  · intro x hx
    obtain ⟨y, hy, e⟩ := List.mem_map.mp hx
    have e : (if y.k = k then { y with val := v } else y) = x := e
    have := nk y hy
    subst e
    split <;> exact this
  · intro x hx
    rcases List.mem_append.mp hx with hx | hx
    · exact nk x hx
    · rw [List.mem_singleton.mp hx]; exact ⟨hk, hd⟩
theorem laidN {pins : List (Addr × Obj)} {σ : L2.St} {s : Shared} {a : Addr} {xs : List NE} {ys : List En} {k : NestedKey} {key v : V} {ku vu : Value} {h' : Heap} {tk : Nat} (I : Inv X pins σ H s) (ha : NAt H a xs) (nk : NKeys H xs) (hk : KV1 H k key) (hd : k.depth ≤ 8) (hl : xs.length < sizeLine) (hs : (a == sysModules) = false) (nd : (xs.map NE.k).Nodup) (rel : Paired ReN xs ys)
    (rk : RelV key ku) (rv : RelV v vu) (m : DictN X.w h' a (putE ys k ku vu)) (sb : Heap.SameBut a s.heap h') : Inv X pins σ (upd H a (hN a (NPut xs k key v))) { s with heap := h', toks := tk } := by
  have rel2 := ReN.put (k := k) rel rk rv
  have kd := (ReN.keyed rel I.hok nk nd).put (v := vu) (hk.at hd I.hok rk)
  have he : ∃ q, h'.get? a = some q := let ⟨q, _, _, hq, _⟩ := m; ⟨q, hq⟩
  have nk2 := nput_keys (v := v) nk hk hd
  exact d_write I (nat_mut ha) sb he (nat_new hs (by rw [← ReN.keys rel2]; exact kd.1) (by have := nput_len (xs := xs) (k := k) (key := key) (v := v); omega) rel2 (fun x hx => (nk2 x hx).1.hash) m)
theorem set_N (hu : X.A.units + 64 < cLine) : PSet X rSetN := by
  intro pins s σ H o i v ov iv u Q I ro ri rv h
  obtain ⟨a, rfl, xs, k, ha, nk, hk, hd, hl, q⟩ := h
  cases (show ov = Value.ref a from ro)
  obtain ⟨z, hs, nd, ys, rel, dd⟩ := nat_rd I.hok ha
  exact PuN.at_store hu dd (ReN.keyed rel I.hok nk nd) (hk.at hd I.hok ri) (by rw [ReN.length rel]; exact z) fun h' m sb => ⟨_, laidN I ha nk hk hd hl hs nd rel ri rv m sb, q⟩
end
end Pu
set_option Elab.async false
set_option linter.all false
set_option maxRecDepth 100000
namespace Pu
open PySem PySem.Spec PyProof.Rows L2
def D.nv : D → Option (List (D × D))
  | .dN kvs => some kvs
  | .dK [] => some []
  | _ => none
def mkN : List (D × D) → D
  | [] => .dK []
  | kvs => .dN kvs
theorem nv_mkN (kvs : List (D × D)) : (mkN kvs).nv = some kvs := by cases kvs <;> rfl
def lookN (kds : List (D × D)) (k : NestedKey) : Option D := (kds.find? fun kd => decide (kd.1.nk = some k)).map (·.2)
def putN (kds : List (D × D)) (k : NestedKey) (key x : D) : List (D × D) := if (lookN kds k).isSome then kds.map (fun p => if p.1.nk = some k then (p.1, x) else p) else kds ++ [(key, x)]
section
variable {C : Cfg} {Γ Γ' Γn Γl Γo Γt Γe Γ1 Γ2 Γf Γu Γt1 : List Mo} {σ σ' : L2.St} {H H' H1 H2 : Hp} {env env' : PEnv} {Fs Fs' Fs1 Fs2 : Nat → List Addr} {v : V} {vs : List V} {d : D} {ds : List D} {F G : List Addr} {ta tb te tk tv : TE} {A B : Kd} {m n : X1} {K : PySem.W.Frag} {CT : RT} {xs : List NE} {kds : List (D × D)}
structure NRp (CT : RT) (H : Hp) (xs : List NE) (kds : List (D × D)) (F : List Addr) : Prop where
  ks : xs.map (fun x => some x.k) = kds.map (fun kd => D.nk kd.1)
  dp : ∀ x ∈ xs, x.k.depth ≤ 8
  kr : Rps CT H (xs.map NE.key) (kds.map (·.1)) []
  vr : Rps CT H (xs.map NE.val) (kds.map (·.2)) F
theorem NRp.nil : NRp CT H [] [] [] := ⟨rfl, (fun _ h => nomatch h), .nil, .nil⟩
theorem NRp.length (r : NRp CT H xs kds F) : xs.length = kds.length := by have := congrArg List.length r.ks; simpa using this
theorem nv_at (r : Rp CT H v d F) (h : d.nv = some kds) : ∃ a xs F0, v = .ref a ∧ F = a :: F0 ∧ NAt H a xs ∧ NRp CT H xs kds F0 := by
  cases r with
  | dN e k z r1 r2 => cases h; exact ⟨_, _, _, rfl, rfl, .inl e, k, z, r1, r2⟩
  | @dK a kvs kx F0 e k r1 =>
    cases kx with
    | nil =>
      cases h
      have e0 : kvs = [] := List.map_eq_nil_iff.mp k
      subst e0
      cases r1
      exact ⟨a, [], [], rfl, rfl, .inr ⟨rfl, e⟩, NRp.nil⟩
    | cons p t => cases h
  | _ => cases h
theorem NRp.keys : ∀ {xs : List NE} {kds : List (D × D)} {F : List Addr}, NRp CT H xs kds F → NKeys H xs
  | [], [], _, _, x, hx => nomatch hx
  | [], _ :: _, _, r, _, _ => by have := r.length; simp at this
  | _ :: _, [], _, r, _, _ => by have := r.length; simp at this
  | y :: xs, kd :: kds, F, ⟨ks, dp, kr, vr⟩, x, hx => by
    simp only [List.map_cons, List.cons.injEq] at ks
    rw [List.map_cons, List.map_cons] at kr vr
    generalize eF : ([] : List Addr) = F0 at kr
    cases kr with
    | @cons _ _ F1 F2 _ _ k1 kr =>
      obtain ⟨rfl, rfl⟩ := List.append_eq_nil_iff.mp eF.symm
      cases vr with
      | cons v1 vr =>
        rcases List.mem_cons.mp hx with e | hx
        · subst e; exact ⟨k1.kv ks.1.symm, dp _ List.mem_cons_self⟩
        · exact NRp.keys ⟨ks.2, fun z hz => dp z (List.mem_cons_of_mem _ hz), kr, vr⟩ x hx
theorem NRp.look (k : NestedKey) : ∀ {xs : List NE} {kds : List (D × D)} {F : List Addr}, NRp CT H xs kds F →
    (NLook xs k = none ∧ lookN kds k = none) ∨ ∃ z x P, NLook xs k = some z ∧ lookN kds k = some x ∧ Rp CT H z x P ∧ P.Sublist F
  | [], [], _, _ => .inl ⟨rfl, rfl⟩
  | [], _ :: _, _, r => by have := r.length; simp at this
  | _ :: _, [], _, r => by have := r.length; simp at this
  | y :: xs, kd :: kds, F, ⟨ks, dp, kr, vr⟩ => by
    simp only [List.map_cons, List.cons.injEq] at ks
    rw [List.map_cons, List.map_cons] at kr vr
    generalize eF : ([] : List Addr) = F0 at kr
    cases kr with
    | @cons _ _ F1 F2 _ _ k1 kr =>
      obtain ⟨rfl, rfl⟩ := List.append_eq_nil_iff.mp eF.symm
      cases vr with
      | @cons _ _ G1 G2 _ _ v1 vr =>
        unfold NLook lookN
        by_cases e : y.k = k
        · rw [List.find?_cons_of_pos (by simpa using e), List.find?_cons_of_pos (by rw [← ks.1]; simpa using e)]
          exact .inr ⟨_, _, G1, rfl, rfl, v1, List.sublist_append_left _ _⟩
        · rw [List.find?_cons_of_neg (by simpa using e), List.find?_cons_of_neg (by rw [← ks.1]; simpa using e)]
          rcases NRp.look k ⟨ks.2, fun z hz => dp z (List.mem_cons_of_mem _ hz), kr, vr⟩ with h | ⟨z, x, P, h1, h2, h3, h4⟩
          · exact .inl h
          · exact .inr ⟨z, x, P, h1, h2, h3, h4.trans (List.sublist_append_right _ _)⟩
theorem NRp.isSome (k : NestedKey) (r : NRp CT H xs kds F) : (NLook xs k).isSome = (lookN kds k).isSome := by
  rcases r.look k with ⟨h1, h2⟩ | ⟨z, x, P, h1, h2, _⟩ <;> rw [h1, h2] <;> rfl
theorem NRp.keep {W : Addr → Prop} (r : NRp CT H xs kds F) (f : Fr W H H') (n : ∀ a ∈ F, ¬ W a) : NRp CT H' xs kds F := ⟨r.ks, r.dp, r.kr.keep f (fun _ m => nomatch m), r.vr.keep f n⟩
def oInN (neg : Bool) : O2 := fun d e Q => match e.nv, d.nk with
  | some kds, some k => k.depth ≤ 8 ∧ Q (.bl (xor neg (lookN kds k).isSome))
  | _, _ => False
theorem mono_oInN {neg : Bool} : Mono2 (oInN neg) := fun d e Q Q' h q => by
  revert q
  unfold oInN
  cases e.nv <;> cases d.nk <;> first | exact fun z => z | exact fun q => ⟨q.1, h _ q.2⟩
instance {neg : Bool} : MO2 (oInN neg) := ⟨mono_oInN⟩
theorem so_inN {neg : Bool} : SimO2 CT (rInN neg) (oInN neg) := ⟨fun H v w d e F G Q a b q => by
  unfold oInN at q
  cases e1 : e.nv with
  | none => rw [e1] at q; exact q.elim
  | some kds =>
    cases e2 : d.nk with
    | none => rw [e1, e2] at q; exact q.elim
    | some k =>
      rw [e1, e2] at q
      obtain ⟨p, xs, F0, rfl, rfl, ha, r⟩ := nv_at b e1
      refine ⟨p, xs, k, rfl, ha, r.keys, a.kv e2, q.1, ?_⟩
      rw [r.isSome k]
      exact New.imm (CT := CT) q.2 (.bl _), mono_oInN⟩
def setDN (d e x : D) (Q : D → Prop) : Prop := match d.nv, e.nk with
  | some kds, some k => (k.depth ≤ 8 ∧ kds.length < sizeLine ∧ (kds.map fun p => p.1.nk).Nodup) ∧ Q (.dN (putN kds k e x))
  | _, _ => False
theorem mono_setDN {d e x : D} {Q Q' : D → Prop} (h : ∀ y, Q y → Q' y) (q : setDN d e x Q) : setDN d e x Q' := by
  revert q
  unfold setDN
  cases d.nv <;> cases e.nk <;> first | exact fun z => z | exact fun q => ⟨q.1, h _ q.2⟩
theorem nput_map {k : NestedKey} {y : V} {x : D} (rx : Rp CT H y x G) : ∀ {xs : List NE} {kds : List (D × D)} {F : List Addr}, NRp CT H xs kds F → (xs.map NE.k).Nodup →
    ∃ F', NRp CT H (xs.map (fun z => if z.k = k then { z with val := y } else z)) (kds.map (fun p => if p.1.nk = some k then (p.1, x) else p)) F' ∧ (∀ b ∈ F', b ∈ F ∨ b ∈ G) ∧ ((F ++ G).Nodup → F'.Nodup)
  | [], [], _, r, _ => by cases r.vr; exact ⟨[], NRp.nil, (fun b h => nomatch h), fun _ => List.nodup_nil⟩
  | [], _ :: _, _, r, _ => by have := r.length; simp at this
  | _ :: _, [], _, r, _ => by have := r.length; simp at this
  | z :: xs, kd :: kds, F, ⟨ks, dp, kr, vr⟩, nd => by
    simp only [List.map_cons, List.cons.injEq, List.nodup_cons] at ks nd
    rw [List.map_cons, List.map_cons] at kr vr
    generalize eF : ([] : List Addr) = F0 at kr
    cases kr with
    | @cons _ _ F1 F2 _ _ k1 kr =>
      obtain ⟨rfl, rfl⟩ := List.append_eq_nil_iff.mp eF.symm
      cases vr with
      | @cons _ _ G1 G2 _ _ v1 vr =>
        have r0 : NRp CT H xs kds G2 := ⟨ks.2, fun z hz => dp z (List.mem_cons_of_mem _ hz), kr, vr⟩
        obtain ⟨F', h1, h2, h3⟩ := nput_map rx r0 nd.2
        rw [List.map_cons, List.map_cons]
        by_cases e : z.k = k
        · have hno : ∀ q ∈ xs, ¬ q.k = k := fun q hq z2 => nd.1 (by rw [e, ← z2]; exact List.mem_map.mpr ⟨q, hq, rfl⟩)
          have m1 : xs.map (fun z => if z.k = k then { z with val := y } else z) = xs := by
            conv => rhs; rw [← List.map_id xs]
            exact List.map_congr_left fun q hq => by rw [if_neg (hno q hq)] <;> rfl
          have hno2 : ∀ q ∈ kds, ¬ q.1.nk = some k := fun q hq z2 => by
            have : some k ∈ kds.map (fun kd => D.nk kd.1) := List.mem_map.mpr ⟨q, hq, z2⟩
            rw [← ks.2] at this
            obtain ⟨q2, hq2, e2⟩ := List.mem_map.mp this
            exact hno q2 hq2 (Option.some.inj e2)
          have m2 : kds.map (fun p => if p.1.nk = some k then (p.1, x) else p) = kds := by
            conv => rhs; rw [← List.map_id kds]
            exact List.map_congr_left fun q hq => by rw [if_neg (hno2 q hq)] <;> rfl
          rw [m1, m2, if_pos e, if_pos (by rw [← ks.1, e])]
          refine ⟨G ++ G2, ⟨by simp only [List.map_cons]; rw [ks.1, ks.2], fun q hq => ?_, .cons (F := []) k1 kr, .cons rx vr⟩, fun b h => (List.mem_append.mp h).elim .inr fun h => .inl (List.mem_append_right _ h), fun n => ?_⟩
          · rcases List.mem_cons.mp hq with e3 | hq
            · subst e3; exact dp z List.mem_cons_self
            · exact dp q (List.mem_cons_of_mem _ hq)
          · rw [List.append_assoc] at n
            exact (List.perm_append_comm.nodup_iff).mp (List.nodup_append.mp n).2.1
        · rw [if_neg e, if_neg (by rw [← ks.1]; exact fun z2 => e (Option.some.inj z2))]
          refine ⟨G1 ++ F', ⟨by simp only [List.map_cons]; rw [ks.1]; exact congrArg _ h1.ks, fun q hq => ?_, .cons (F := []) k1 h1.kr, .cons v1 h1.vr⟩, fun b h => ?_, fun n => ?_⟩
          · rcases List.mem_cons.mp hq with e3 | hq
            · subst e3; exact dp _ List.mem_cons_self
            · exact h1.dp q hq
          · rcases List.mem_append.mp h with h | h
            · exact .inl (List.mem_append_left _ h)
            · exact (h2 b h).imp (List.mem_append_right _) id
          · rw [List.append_assoc] at n
            obtain ⟨n1, n2, n3⟩ := List.nodup_append.mp n
            exact List.nodup_append.mpr ⟨n1, h3 n2, fun x hx y hy e => n3 x hx y (List.mem_append.mpr (h2 y hy)) e⟩
theorem nput_rps {k : NestedKey} {w y : V} {e x : D} {P : List Addr} (r : NRp CT H xs kds F) (nd : (xs.map NE.k).Nodup) (re : Rp CT H w e P) (ek : e.nk = some k) (hk : k.depth ≤ 8) (rx : Rp CT H y x G) :
    ∃ F', NRp CT H (NPut xs k w y) (putN kds k e x) F' ∧ (∀ b ∈ F', b ∈ F ∨ b ∈ G) ∧ ((F ++ G).Nodup → F'.Nodup) := by
  unfold NPut putN
  rw [r.isSome k]
  split
  · exact nput_map rx r nd
  · obtain rfl := re.imm (nk_imm ek)
    refine ⟨F ++ (G ++ []), ⟨by rw [List.map_append, List.map_append, r.ks]; simp [ek], fun z hz => ?_, ?_, ?_⟩, fun b h => ?_, fun n => ?_⟩
    · rcases List.mem_append.mp hz with hz | hz
      · exact r.dp z hz
      · rw [List.mem_singleton.mp hz]; exact hk
    · rw [List.map_append, List.map_append]
      exact r.kr.append (.cons (F := []) (G := []) re .nil)
    · rw [List.map_append, List.map_append]
      exact r.vr.append (.cons rx .nil)
    · rw [List.append_nil] at h; exact List.mem_append.mp h
    · rw [List.append_nil]; exact n
end
end Pu
set_option Elab.async false
set_option linter.all false
set_option maxRecDepth 100000
namespace Pu
open PySem PySem.Spec PyProof.Rows L2
section
variable {C : Cfg} {Γ Γ' Γn Γl Γo Γt Γe Γ1 Γ2 Γf Γu Γt1 : List Mo} {σ σ' : L2.St} {H H' H1 H2 : Hp} {env env' : PEnv} {Fs Fs' Fs1 Fs2 : Nat → List Addr} {v : V} {vs : List V} {d : D} {ds : List D} {F G : List Addr} {ta tb te tk tv : TE} {A B : Kd} {m n : X1} {K : PySem.W.Frag} {CT : RT} {kds : List (D × D)}
theorem nodup_some {xs : List NE} (e : xs.map (fun x => some x.k) = kds.map (fun kd => D.nk kd.1)) (nd : (kds.map fun p => p.1.nk).Nodup) : (xs.map NE.k).Nodup := by
  rw [← e] at nd
  have : xs.map (fun x => some x.k) = (xs.map NE.k).map some := by rw [List.map_map]; rfl
  rw [this] at nd
  exact (List.pairwise_map.mp nd).imp fun h e => h (by rw [e])
theorem nat_some {a : Addr} {xs : List NE} (h : NAt H a xs) : ∃ o, H a = some o ∧ Im o = false := by
  rcases h with h | ⟨_, h⟩
  · exact ⟨_, h, im_hN⟩
  · exact ⟨_, h, rfl⟩
theorem set_runN {e x : D} {w y : V} {P : List Addr} {k : D → Prop} {Qh : Hp → Prop} (r : Rp CT H v d F) (re : Rp CT H w e P) (rx : Rp CT H y x G) (ndF : F.Nodup) (dj : ∀ b ∈ G, b ∉ F) (ndG : G.Nodup) (q : setDN d e x k)
    (fin : ∀ (a : Addr) (o u : HO) (d' : D) (F0 F' : List Addr), v = .ref a → H a = some o → Im o = false → F = a :: F0 → Rp CT (L2.upd H a u) (.ref a) d' (a :: F') → F'.Nodup → a ∉ F' → (∀ b ∈ F', b ∈ F0 ∨ b ∈ G) → k d' → Qh (L2.upd H a u)) : rSetN v w y H Qh := by
  unfold setDN at q
  cases e1 : d.nv with
  | none => rw [e1] at q; exact q.elim
  | some kds =>
    cases e2 : e.nk with
    | none => rw [e1, e2] at q; exact q.elim
    | some kk =>
      rw [e1, e2] at q
      obtain ⟨⟨hd, hl, nd⟩, q⟩ := q
      obtain ⟨p, xs, F0, rfl, rfl, ha, rr⟩ := nv_at r e1
      have n1 := List.nodup_cons.mp ndF
      have n2 : (F0 ++ G).Nodup := List.nodup_append.mpr ⟨n1.2, ndG, fun b hb c hc z => dj c hc (List.mem_cons_of_mem _ (z ▸ hb))⟩
      obtain ⟨F', h1, h2, h3⟩ := nput_rps (k := kk) (w := w) rr (nodup_some rr.ks nd) re e2 hd rx
      have nF : p ∉ F' := fun z => (h2 _ z).elim n1.1 fun z => dj p z List.mem_cons_self
      obtain ⟨o, ho, hi⟩ := nat_some ha
      have h1' := h1.keep (W := fun a => a = p) (Fr.at (o := hN p (NPut xs kk w y)) rfl ho hi) fun a ha e => nF (e ▸ ha)
      exact ⟨p, rfl, xs, kk, ha, rr.keys, re.kv e2, hd, by rw [rr.length]; exact hl, fin p o _ _ F0 F' rfl ho hi rfl (.dN upd_same h1'.ks h1'.dp h1'.kr h1'.vr) (h3 n2) nF h2 q⟩
def sPutN (i : Nat) (me mv : X1) : XS := fun E env => mv env fun x => xVar i env fun d => me env fun e => setDN d e x fun d' => E.nx (env.set i (some d'))
theorem sim_putN {i : Nat} {B : Kd} {mv : X1} (g : Γ[i]? = some .o) (sv : Sim C Γ te .own mv) (s : Sim C Γ tb B n) : SimS C Γl Γ Γ (tAsg te (gSub (tVar i) tb rSetN)) (sPutN i n mv) :=
  ⟨fun σ H env Fs D E I lk hh => sv.run σ H env Fs _ I (sv.mono env _ _ (fun x q y H1 G f dk rx kx => by
    have I1 := I.step f dk
    obtain ⟨v, d, h1, h2, h3⟩ := I1.val i _ g (.inl rfl)
    have q : xVar i env _ := q
    unfold xVar at q
    rw [h2] at q
    refine ⟨v, h1, s.run σ H1 env Fs _ I1 (s.mono env _ _ (fun e q w H2 P f2 dk2 re ke => ?_) q)⟩
    have f12 := f.trans f2
    have I2 := I1.step f2 dk2
    obtain ⟨v', d', h1', h2', h3'⟩ := I2.val i _ g (.inl rfl)
    rw [h1] at h1'; cases h1'
    rw [h2] at h2'; cases h2'
    refine set_runN h3' re (rx.keep f2 kx.1.wq) (I.nd i g) (fun b hb z => I.tracked g (.inl rfl) b z (kx.2.2 b hb)) kx.2.1 q fun a o u d' F0 F' ev ha hi eF r nd na sub q => ?_
    subst ev
    exact lk.root I f12 dk2 g (G := G) h1 ha hi eF r nd na (fun b hb => (sub b hb).imp id fun z => kx.2.2 b z) q) hh),
   fun E E' env p q => sv.mono env _ _ (fun x q => mono_var env _ _ (fun d q => s.mono env _ _ (fun e q => mono_setDN (fun y q => p.1 _ q) q) q) q) q⟩
instance {i : Nat} {m n : X1} [h : MX m] [h' : MX n] : MS (sPutN i m n) := ⟨fun p q => h'.mono _ _ _ (fun x q => mono_var _ _ _ (fun d q => h.mono _ _ _ (fun e q => mono_setDN (fun y q => p.1 _ q) q) q) q) q⟩
abbrev DRestN := PEnv → List (D × D) → (List (D × D) → Prop) → Prop
def MonoRN (r : DRestN) : Prop := ∀ env acc Q Q', (∀ x, Q x → Q' x) → r env acc Q → r env acc Q'
class MRN (r : DRestN) : Prop where
  mono : MonoRN r
def DAtN (C : Cfg) (H1 : Hp) (Dl : Addr) (H : Hp) (acc : List (D × D)) : Prop := ∃ xs F, NAt H Dl xs ∧ (acc = [] → H Dl = some (.dK [])) ∧ NRp C.CT H xs acc F ∧ Fr (Wq C) H1 H ∧ DiceOk C H ∧ F.Nodup ∧ ∀ a ∈ F, H1 a = none ∧ a ≠ Dl
theorem NAt.keep {W : Addr → Prop} {a : Addr} {xs : List NE} (h : NAt H a xs) (f : Fr W H H') (n : ¬ W a) : NAt H' a xs := h.imp (fun h => f.keep _ _ h n) fun ⟨e, h⟩ => ⟨e, f.keep _ _ h n⟩
theorem DAtN.keep {Dl : Addr} {acc : List (D × D)} (da : DAtN C H1 Dl H acc) (dk : DiceOk C H1) (hD : H1 Dl = none) (f : Fr (Wq C) H H') (dk' : DiceOk C H') : DAtN C H1 Dl H' acc := by
  obtain ⟨xs, F, e, e0, r, fr, _, nd, new⟩ := da
  have nqF : ∀ a ∈ F, ¬ Wq C a := (NoQS.new dk fun a ha => (new a ha).1).wq
  exact ⟨xs, F, e.keep f fun w => wq_there dk w hD, fun z => f.keep _ _ (e0 z) fun w => wq_there dk w hD, r.keep f nqF, fr.trans f, dk', nd, new⟩
structure SimRestN (C : Cfg) (Γ : List Mo) (t : Addr → Rest) (r : DRestN) : Prop where
  run : ∀ (σ : L2.St) (H : Hp) (env : PEnv) (Fs : Nat → List Addr) (H1 : Hp) (Dl : Addr) (acc : List (D × D)) (Nx : Hp → Prop), DiceOk C H1 → H1 Dl = none → Ok C Γ σ H env Fs → DAtN C H1 Dl H acc →
    r env acc (fun acc1 => ∀ H', DAtN C H1 Dl H' acc1 → Fr (fun x => Wq C x ∨ x = Dl) H H' → Nx H') → t Dl σ H Nx
  mono : MonoRN r
end
end Pu
set_option Elab.async false
set_option linter.all false
set_option maxRecDepth 100000
namespace Pu
open PySem PySem.Spec PyProof.Rows L2
section
variable {C : Cfg} {Γ Γ' Γl : List Mo} {σ : L2.St} {H : Hp} {env : PEnv} {Fs : Nat → List Addr}
end
end Pu
set_option Elab.async false
set_option linter.all false
set_option maxRecDepth 100000
set_option synthInstance.maxHeartbeats 0
set_option synthInstance.maxSize 100000
namespace Pu
open PySem PySem.Spec PyProof.Rows L2
end Pu
set_option Elab.async false
set_option linter.all false
set_option maxRecDepth 100000
set_option synthInstance.maxHeartbeats 0
set_option synthInstance.maxSize 100000
namespace Pu
open PySem PySem.Spec PyProof.Rows L2
end Pu
set_option Elab.async false
set_option linter.all false
set_option maxRecDepth 100000
set_option synthInstance.maxHeartbeats 0
set_option synthInstance.maxSize 100000
namespace Pu
open PySem PySem.Spec PyProof.Rows L2
end Pu
set_option Elab.async false
set_option linter.all false
set_option maxRecDepth 100000
namespace Pu
open PySem PySem.Spec PyProof.Rows L2
section
variable {C : Cfg} {Γ Γ1 : List Mo} {K : PySem.W.Frag}
end
end Pu
set_option Elab.async false
set_option linter.all false
set_option maxRecDepth 100000
set_option synthInstance.maxHeartbeats 0
set_option synthInstance.maxSize 100000
namespace Pu
open PySem PySem.Spec PyProof.Rows L2
end Pu
set_option Elab.async false
set_option linter.all false
set_option maxRecDepth 100000
set_option synthInstance.maxHeartbeats 0
set_option synthInstance.maxSize 100000
namespace Pu
open PySem PySem.Spec PyProof.Rows L2
end Pu
set_option Elab.async false
set_option linter.all false
set_option maxRecDepth 100000
namespace Pu
open PySem PySem.Spec PyProof.Rows L2
section
variable {X : Cx}
end
section
variable {C : Cfg} {Γ : List Mo} {K : PySem.W.Frag} {te : TE} {A : Kd} {m : X1}
end
end Pu
set_option Elab.async false
set_option linter.all false
set_option maxRecDepth 100000
set_option synthInstance.maxHeartbeats 0
set_option synthInstance.maxSize 100000
namespace Pu
open PySem PySem.Spec PyProof.Rows L2
end Pu
set_option Elab.async false
set_option linter.all false
set_option maxRecDepth 100000
set_option synthInstance.maxHeartbeats 0
set_option synthInstance.maxSize 100000
namespace Pu
open PySem PySem.Spec PyProof.Rows L2
def b_pairs_of : XS := sRet (xLc2 (mEnmU (xVar 0)) (bTup 2 (bCons (bName 1) (bCons (bName 2) bNil))) bYes [2] (mSeq (xSl (xVar 0) (pYes (x2 oAdd (xVar 1) (xC (.int 1)))) pNo)) (bName 3) bYes (xTup (xCons (xImm (xVar 2)) (xCons (xImm (xVar 3)) xNil))))
def m_pairs_of : XF := fnM 4 b_pairs_of
theorem mo_pairs_of : MonoF m_pairs_of := monoF_fn (by unfold b_pairs_of; exact MS.all)
instance : MF m_pairs_of := ⟨mo_pairs_of⟩
end Pu
set_option Elab.async false
set_option linter.all false
set_option maxRecDepth 100000
namespace Pu
open PySem PySem.Spec PyProof.Rows L2
section
end
end Pu
set_option Elab.async false
set_option linter.all false
set_option maxRecDepth 100000
namespace Pu
open PySem PySem.Spec PyProof.Rows L2
section
variable {X : Cx} {pins : List (Addr × Obj)} {σ : L2.St} {H : Hp} {s : Shared}
end
section
variable {C : Cfg} {Γ Γl : List Mo} {σ : L2.St} {H : Hp} {env : PEnv} {Fs : Nat → List Addr} {v : V} {vs : List V} {d : D} {ds : List D} {F G : List Addr} {te : TE} {A : Kd} {m : X1} {K : PySem.W.Frag} {CT : RT}
end
end Pu
set_option Elab.async false
set_option linter.all false
set_option maxRecDepth 100000
set_option synthInstance.maxHeartbeats 0
set_option synthInstance.maxSize 100000
namespace Pu
open PySem PySem.Spec PyProof.Rows L2
end Pu
set_option Elab.async false
set_option linter.all false
set_option maxRecDepth 100000
namespace Pu
open PySem PySem.Spec PyProof.Rows L2
section
variable {C : Cfg} {Γ : List Mo} {te : TE} {m : X1} {K : PySem.W.Frag}
end
end Pu
set_option Elab.async false
set_option linter.all false
set_option maxRecDepth 100000
namespace Pu
open PySem PySem.Spec PyProof.Rows L2
section
variable {C : Cfg} {Γ Γf Γt : List Mo} {A B : Kd} {te : TE} {K : PySem.W.Frag} {CT : RT}
end
end Pu
set_option Elab.async false
set_option linter.all false
set_option maxRecDepth 100000
set_option synthInstance.maxHeartbeats 0
set_option synthInstance.maxSize 100000
namespace Pu
open PySem PySem.Spec PyProof.Rows L2
def b_all_lots : XS := sSeq (sSet 1 (xLst (xCons (xTup xNil) xNil))) (sSeq (sFor (mRng1 (xVar 0)) (bName 2) (sSet 1 (x2 oAdd (xVar 1) (xLc (mSeq (xVar 1)) (bName 3) bYes (x2 oAdd (xVar 3) (xTup (xCons (xImm (xVar 2)) xNil))))))) (sRet (x1 oSortE (xVar 1))))
def m_all_lots : XF := fnM 4 b_all_lots
theorem mo_all_lots : MonoF m_all_lots := monoF_fn (by unfold b_all_lots; exact MS.all)
instance : MF m_all_lots := ⟨mo_all_lots⟩
end Pu
set_option Elab.async false
set_option linter.all false
namespace Pu
open PySem PySem.Spec PyProof.Rows L2
theorem so_shl {CT : RT} : SimO2 CT (rI CPow fun i j => .int (i * 2 ^ j.toNat)) (oIc CPow fun i j => .int (i * 2 ^ j.toNat)) := so_Ic fun _ _ _ => .int _
end Pu
set_option Elab.async false
set_option linter.all false
set_option maxRecDepth 100000
set_option synthInstance.maxHeartbeats 0
set_option synthInstance.maxSize 100000
namespace Pu
open PySem PySem.Spec PyProof.Rows L2
end Pu
set_option Elab.async false
set_option linter.all false
set_option maxRecDepth 100000
namespace Pu
open PySem PySem.Spec PyProof.Rows L2
end Pu
set_option Elab.async false
set_option linter.all false
set_option maxRecDepth 100000
set_option synthInstance.maxHeartbeats 0
set_option synthInstance.maxSize 100000
namespace Pu
open PySem PySem.Spec PyProof.Rows L2
end Pu
set_option Elab.async false
set_option linter.all false
set_option maxRecDepth 100000
set_option synthInstance.maxHeartbeats 0
set_option synthInstance.maxSize 100000
namespace Pu
open PySem PySem.Spec PyProof.Rows L2
end Pu
set_option Elab.async false
set_option linter.all false
set_option maxRecDepth 100000
set_option synthInstance.maxHeartbeats 0
set_option synthInstance.maxSize 100000
namespace Pu
open PySem PySem.Spec PyProof.Rows L2
end Pu
set_option Elab.async false
set_option linter.all false
set_option maxRecDepth 100000
namespace Pu
open PySem PySem.Spec PyProof.Rows L2 Evl
def DQp : Addr × Addr → HO → HO → Prop := fun p o u => ∃ (s c : Int) (cs : List Int), cs.length ≤ 63 ∧ p.1 ≠ p.2 ∧ o = .lst [.int s, .int c, .ref p.2] ∧ u = .lst (vInts cs)
section
variable {σ : L2.St} {H H' H1 H2 : Hp} {te : TE} {K : PySem.W.Frag} {p : Addr × Addr} {s c n : Int} {cs ns : List Int} {W : Addr → Prop}
theorem fr_ex (e : Ex H H') : Fr W H H' := ⟨fun x o h _ => e x o h, fun x o h _ => e x o h, fun x h => fresh_back e h⟩
theorem ev_sum (h : EvL te σ H (ns.map V.int)) : Ev (tCB (rSum K) (tCons te tNil)) σ H (.int ns.sum) := fun H1 e Q q => h H1 e _ fun p H2 hp e2 h2 => ⟨p, ns, rfl, sq_of h2, q H2 e2⟩
theorem rc_int {i : Int} : RC rInt1 [.int i] H (.int i) := fun H1 _ Q q => .inl ⟨i, rfl, q H1 (Ex.refl _)⟩
theorem rc_abs {i : Int} : RC rAbs [.int i] H (.int (if i < 0 then -i else i)) := fun H1 _ Q q => ⟨i, rfl, q H1 (Ex.refl _)⟩
abbrev qAdd : R2 := rI0 fun i j => .int (i + j)
abbrev qMul : R2 := rI CMul fun i j => .int (i * j)
abbrev qMod : R2 := rI (fun _ j => j ≠ 0) fun i j => .int (i.fmod j)
abbrev qDiv : R2 := rI CDivN fun i j => .int (i.fdiv j)
abbrev qPow : R2 := rI CPow fun i j => .int (i ^ j.toNat)
abbrev qGt : R2 := rI0 fun i j => .bl (decide (j < i))
abbrev qGe : R2 := rI0 fun i j => .bl (decide (j ≤ i))
abbrev qc (i : Int) : TE := tC (.int i)
abbrev qInt (t : TE) : TE := tCB rInt1 (tCons t tNil)
abbrev qIx (K : PySem.W.Frag) (i : Nat) (j : Int) : TE := tOp (rIxL K) (tVar i) (qc j)
def tDrawA (K : PySem.W.Frag) : TS := tSeq (tAsg (tOp qMod (qInt (qIx K 2 0)) (tVar 1)) (gName 3)) (tSeq (tAsg (tOp qDiv (qInt (qIx K 2 0)) (tVar 1)) (gSub (tVar 2) (qc 0) rSetL)) (tSeq (tIfS (tB (tOp rEq (qIx K 2 0) (qc 0))) (tDrop (tBM K "list" rPopAt (tVar 2) (tCons (qc 0) tNil))) tNext) (tRet (tVar 3))))
def tDrawB (K : PySem.W.Frag) : TS := tSeq (tAsg (tOp qMod (qInt (tOp qMul (tOp qAdd (qIx K 0 0) (tOp qMul (qc 7919) (qIx K 0 1))) (qc 48271))) (qc 2147483647)) (gName 4)) (tSeq (tAsg (tOp qMod (qInt (tOp qMul (tVar 4) (tOp qAdd (tOp qDiv (tVar 4) (qc 1009)) (qc 69621)))) (qc 2147483647)) (gName 4)) (tSeq (tAsg (tOp qMod (qInt (tOp qMul (tVar 4) (tOp qAdd (tOp qDiv (tVar 4) (qc 2003)) (qc 40692)))) (qc 2147483399)) (gName 4)) (tRet (tOp qMod (qInt (tOp qDiv (tVar 4) (qc 16))) (tVar 1)))))
def tDrawP (K : PySem.W.Frag) : TS := tSeq (tAsg (tOp qAdd (qIx K 0 1) (qc 1)) (gSub (tVar 0) (qc 1) rSetL)) (tSeq (tAsg (qIx K 0 2) (gName 2)) (tSeq (tIfS (tB (tOp qGt (tCB (rLenS K) (tCons (tVar 2) tNil)) (qc 0))) (tDrawA K) tNext) (tDrawB K)))
def Pend (p : Addr × Addr) (H : Hp) (n : Int) (rt : V → Hp → Prop) : Prop := ∀ (z : Int) (H' : Hp) (s c : Int) (cs : List Int), 0 ≤ z → z < n → cs.length ≤ 63 → H' p.1 = some (.lst [.int s, .int c, .ref p.2]) → H' p.2 = some (.lst (vInts cs)) → Fr (WD p) H H' → rt (.int z) H'
theorem Pend.go {rt : V → Hp → Prop} (k : Pend p H n rt) (f : Fr (WD p) H H1) : Pend p H1 n rt := fun z H' s c cs a1 a2 a3 a4 a5 a6 => k z H' s c cs a1 a2 a3 a4 a5 (f.trans a6)
theorem at0_z {z : Int} : atI (vInts (z :: cs)) 0 = some (.int z) := by
  unfold atI ixN
  simp [vInts]
theorem fml {i j : Int} (h : 0 < j) : 0 ≤ i.fmod j ∧ i.fmod j < j := ⟨Int.fmod_nonneg_of_pos i h, Int.fmod_lt_of_pos i h⟩
theorem cm1 {i j : Int} (h : -(2 ^ 64) < j ∧ j < 2 ^ 64) : CMul i j := .inr h
theorem cm2 {i j : Int} (h : -(2 ^ 64) < i ∧ i < 2 ^ 64) : CMul i j := .inl h
theorem drawB_run {D : L2.Ends} {e2 : Option V} (hn : 0 < n) (iv : cs.length ≤ 63) (a1 : H p.1 = some (.lst [.int s, .int c, .ref p.2])) (a2 : H p.2 = some (.lst (vInts cs))) (k : Pend p H n D.rt) : tDrawB K D [some (.ref p.1), some (.int n), e2, none, none] H := by
  unfold tDrawB
  refine q_asg (ev_op (ev_cb (ea_cons (ev_op (ev_op (ev_op (ev_var rfl) ev_c (rv_ixL (v := .int s) (sq_of a1) rfl)) (ev_op ev_c (ev_op (ev_var rfl) ev_c (rv_ixL (v := .int c) (sq_of a1) rfl)) (rv_I (cm2 (by decide)))) rv_I0) ev_c (rv_I (cm1 (by decide)))) ea_nil) rc_int) ev_c (rv_I (by decide))) fun H3 e3 => ?_
  have m1 := fml (i := (s + 7919 * c) * 48271) (j := 2147483647) (by decide)
  generalize ((s + 7919 * c) * 48271).fmod 2147483647 = m at m1 ⊢
  refine q_asg (ev_op (ev_cb (ea_cons (ev_op (ev_var rfl) (ev_op (ev_op (ev_var rfl) ev_c (rv_I ⟨by decide, by decide⟩)) ev_c rv_I0) (rv_I (cm2 ⟨by omega, by omega⟩))) ea_nil) rc_int) ev_c (rv_I (by decide))) fun H4 e4 => ?_
  have m2 := fml (i := m * (m.fdiv 1009 + 69621)) (j := 2147483647) (by decide)
  generalize (m * (m.fdiv 1009 + 69621)).fmod 2147483647 = m' at m2 ⊢
  refine q_asg (ev_op (ev_cb (ea_cons (ev_op (ev_var rfl) (ev_op (ev_op (ev_var rfl) ev_c (rv_I ⟨by decide, by decide⟩)) ev_c rv_I0) (rv_I (cm2 ⟨by omega, by omega⟩))) ea_nil) rc_int) ev_c (rv_I (by decide))) fun H5 e5 => ?_
  generalize (m' * (m'.fdiv 2003 + 40692)).fmod 2147483399 = m''
  refine s_ret (ev_op (ev_cb (ea_cons (ev_op (ev_var rfl) ev_c (rv_I ⟨by decide, by decide⟩)) ea_nil) rc_int) (ev_var rfl) (rv_I (show n ≠ 0 by omega))) fun H6 e6 => ?_
  have z := fml (i := m''.fdiv 16) hn
  have e := ((e3.trans e4).trans e5).trans e6
  exact k _ H6 s c cs z.1 z.2 iv (e _ _ a1) (e _ _ a2) (fr_ex e)
theorem drawA_run {D : L2.Ends} {z : Int} (ne : p.1 ≠ p.2) (hn : 0 < n) (hn2 : n < 2 ^ 30) (iv : (z :: cs).length ≤ 63) (a1 : H p.1 = some (.lst [.int s, .int c, .ref p.2])) (a2 : H p.2 = some (.lst (vInts (z :: cs)))) (k : Pend p H n D.rt) : tDrawA K D [some (.ref p.1), some (.int n), some (.ref p.2), none, none] H := by
  unfold tDrawA
  refine q_asg (ev_op (ev_cb (ea_cons (ev_op (ev_var rfl) ev_c (rv_ixL (v := .int z) (sq_of a2) at0_z)) ea_nil) rc_int) (ev_var rfl) (rv_I (show n ≠ 0 by omega))) fun H3 e3 => ?_
  have zz := fml (i := z) hn
  generalize z.fmod n = dg at zz ⊢
  refine q_setL (l := p.2) (xs := vInts (z :: cs)) (j := 0) (e3 _ _ a2) (ev_op (ev_cb (ea_cons (ev_op (ev_var rfl) ev_c (rv_ixL (v := .int z) (sq_of (e3 _ _ a2)) at0_z)) ea_nil) rc_int) (ev_var rfl) (rv_I ⟨by omega, by omega⟩)) (ev_var rfl) ev_c (by simp [vInts]) fun H4 e4 => ?_
  generalize z.fdiv n = z'
  have b1 : (upd H4 p.2 (.lst (vInts (z' :: cs)))) p.1 = some (.lst [.int s, .int c, .ref p.2]) := by rw [upd_ne ne]; exact e4 _ _ (e3 _ _ a1)
  have b2 : (upd H4 p.2 (.lst (vInts (z' :: cs)))) p.2 = some (.lst (vInts (z' :: cs))) := upd_same
  have f1 : Fr (WD p) H (upd H4 p.2 (.lst (vInts (z' :: cs)))) := ((fr_ex e3).trans (fr_ex e4)).trans (Fr.at (.inr rfl) (e4 _ _ (e3 _ _ a2)) rfl)
  rw [show ((vInts (z :: cs)).set 0 (V.int z')) = vInts (z' :: cs) from rfl]
  generalize upd H4 p.2 (.lst (vInts (z' :: cs))) = H5 at b1 b2 f1 ⊢
  refine q_when (et_B (ev_op (ev_op (ev_var rfl) ev_c (rv_ixL (v := .int z') (sq_of b2) at0_z)) ev_c (rv_eq rfl))) (fun _ H6 e6 => ?_) fun _ H6 e6 => ?_
  · refine ⟨_, rfl, .inl ⟨rfl, _, SqL.of (e6 _ _ b2)⟩, p.2, _, 0, 0, .int z', rfl, rfl, e6 _ _ b2, by decide, by decide, ?_, rfl, ?_⟩
    · unfold seqIndex?
      simp [vInts]
    · rw [show (vInts (z' :: cs)).eraseIdx 0 = vInts cs from rfl]
      have c1 : (upd H6 p.2 (.lst (vInts cs))) p.1 = some (.lst [.int s, .int c, .ref p.2]) := by rw [upd_ne ne]; exact e6 _ _ b1
      have f2 : Fr (WD p) H (upd H6 p.2 (.lst (vInts cs))) := (f1.trans (fr_ex e6)).trans (Fr.at (.inr rfl) (e6 _ _ b2) rfl)
      show tRet (tVar 3) D _ (upd H6 p.2 (.lst (vInts cs)))
      refine s_ret (ev_var rfl) fun H7 e7 => ?_
      exact k _ H7 s c cs zz.1 zz.2 (by simp at iv; omega) (e7 _ _ c1) (e7 _ _ upd_same) (f2.trans (fr_ex e7))
  · refine s_ret (ev_var rfl) fun H7 e7 => ?_
    exact k _ H7 s c (z' :: cs) zz.1 zz.2 iv (e7 _ _ (e6 _ _ b1)) (e7 _ _ (e6 _ _ b2)) (f1.trans (fr_ex (e6.trans e7)))
theorem drawP_run {D : L2.Ends} (ne : p.1 ≠ p.2) (hn : 0 < n) (hn2 : n < 2 ^ 30) (iv : cs.length ≤ 63) (a1 : H p.1 = some (.lst [.int s, .int c, .ref p.2])) (a2 : H p.2 = some (.lst (vInts cs))) (k : Pend p H n D.rt) : tDrawP K D [some (.ref p.1), some (.int n), none, none, none] H := by
  unfold tDrawP
  refine q_setL (l := p.1) (xs := [.int s, .int c, .ref p.2]) (j := 1) a1 (ev_op (ev_op (ev_var rfl) ev_c (rv_ixL (v := .int c) (sq_of a1) rfl)) ev_c rv_I0) (ev_var rfl) ev_c (by simp) fun H1 e1 => ?_
  have b1 : (upd H1 p.1 (.lst [.int s, .int (c + 1), .ref p.2])) p.1 = some (.lst [.int s, .int (c + 1), .ref p.2]) := upd_same
  have b2 : (upd H1 p.1 (.lst [.int s, .int (c + 1), .ref p.2])) p.2 = some (.lst (vInts cs)) := by rw [upd_ne (Ne.symm ne)]; exact e1 _ _ a2
  have f1 : Fr (WD p) H (upd H1 p.1 (.lst [.int s, .int (c + 1), .ref p.2])) := (fr_ex e1).trans (Fr.at (.inl rfl) (e1 _ _ a1) rfl)
  rw [show ([V.int s, V.int c, V.ref p.2].set 1 (V.int (c + 1))) = [V.int s, V.int (c + 1), V.ref p.2] from rfl]
  generalize upd H1 p.1 (.lst [.int s, .int (c + 1), .ref p.2]) = H2 at b1 b2 f1 ⊢
  refine q_asg (ev_op (ev_var rfl) ev_c (rv_ixL (v := .ref p.2) (sq_of b1) rfl)) fun H3 e3 => ?_
  have b1 := e3 _ _ b1
  have b2 := e3 _ _ b2
  have f1 : Fr (WD p) H H3 := f1.trans (fr_ex e3)
  refine q_when (et_B (ev_op (ev_len (ev_var rfl) (sq_of b2)) ev_c rv_I0)) (fun h H4 e4 => ?_) fun _ H4 e4 => ?_
  · cases cs with
    | nil => simp [vInts] at h
    | cons z cs => exact drawA_run ne hn hn2 iv (e4 _ _ b1) (e4 _ _ b2) (k.go (f1.trans (fr_ex e4)))
  · exact drawB_run hn iv (e4 _ _ b1) (e4 _ _ b2) (k.go (f1.trans (fr_ex e4)))
end
theorem drawP_ok {P : Program} {w : World} {K : PySem.W.Frag} {mg : Str → Option Value} {base : Heap} {x qual : Str} {st : Stmt} {f : Addr} {fd : FuncData} {N ps : List Str} {k : Nat} {S : Stat}
    (Fn : Fun K x qual st f fd) (Sc : FnScope N ps (defScope st)) (hp : ps.length = 2) (hN : N.length = 5) (hS : S.DQ = DQp)
    (hbody : ∀ (cdv : Value) (A : Around) (outer : List Env) (s : Shared) (H : Hp) (E : XK), Room k (A.deeper (envOfC qual (defScope st) s.heap.objs.size f cdv)) →
      PSs (cxOf CX0 P w K mg base N qual (defScope st) f cdv A outer s H E).nox (defBody st) (tDrawP K)) :
    FnOk P w K mg base CX0 (k + 1) f fd ps (SpM S [true, false] mDraw) := by
  refine Fn.ok Sc (fun vs H Q E ⟨C, ds, F, _, _, a, _⟩ => by rw [a.len.1, hp]; rfl) (fun cdv A outer s H vs Q E hr ⟨C, ds, F, hC, hpn, a, dk, nq, q⟩ => ?_)
  obtain ⟨d, n, rfl, h1, h2, h3⟩ := mDraw_of q
  cases a with
  | @dice p pm' vs' ds' F' e a =>
    cases a with
    | val r a =>
      cases a
      cases r
      obtain ⟨o, u, e1, e2, e3⟩ := (dk.dice p e).ex
      have hD : C.DQ = DQp := by rw [← hS, ← hC]
      rw [hD] at e3
      obtain ⟨sd, c, cs, iv, ne, rfl, rfl⟩ := e3
      refine ⟨tDrawP K, hbody cdv A outer s H E hr, ?_⟩
      have es : L2.start N [.ref p.1, .int n] = [some (.ref p.1), some (.int n), none, none, none] := by simp [L2.start, hN, List.replicate]
      rw [es]
      refine drawP_run ne h1 h2 iv e1 e2 fun z H' s c cs z0 z1 iv2 b1 b2 ff => ?_
      refine h3 z z0 z1 (.int z) H' [] (ff.mono fun a ha => .inl ⟨p, e, ha⟩) ⟨fun p' e' => ?_, tabs_fr dk.tabs ff fun t ht w => ?_, dk.sep⟩ (.int z) List.nodup_nil fun _ m => nomatch m
      rotate_left
      · rcases w with w | w
        · exact not_tbl dk.tabs e1 (fun _ z => nomatch z) t ht w
        · exact not_tbl dk.tabs e2 (fun _ z => nomatch z) t ht w
      rw [e] at e'; cases e'
      exact ⟨_, _, b1, b2, by rw [hD]; exact ⟨s, c, cs, iv2, ne, rfl, rfl⟩⟩
end Pu
set_option Elab.async false
set_option linter.all false
set_option maxRecDepth 100000
namespace Pu
open PySem PySem.Spec PyProof.Rows L2 Evl
section
variable {σ : L2.St} {H H' H1 H2 : Hp} {te : TE} {K : PySem.W.Frag} {s c n : Int} {cs ns ms : List Int} {W : Addr → Prop} {a : Addr}
abbrev qSc (K : PySem.W.Frag) (k : Int) : TE := tSl (rSlL K) (tVar 0) tNoPart (tPart (qc k))
abbrev qAbs (t : TE) : TE := tCB rAbs (tCons t tNil)
def tPoolS (K : PySem.W.Frag) : TE := tOp qAdd (tOp qAdd (tOp qMod (qInt (tCB (rSum K) (tCons (qSc K 1) tNil))) (qc 1000003)) (tCB (rLenS K) (tCons (tVar 0) tNil))) (qc 1)
def tPoolT : TE := tOp qMod (qInt (tOp qAdd (tOp qAdd (tOp qMul (tVar 1) (qc 48271)) (tOp qMod (qInt (tVar 2)) (qc 2147483629))) (qc 11))) (qc 2147483647)
def tPoolU (K : PySem.W.Frag) : TE := tLc (iList K (qSc K 63)) (gName 2) (tB (tOp qGe (qAbs (tVar 2)) (tOp qPow (qc 10) (qc 18)))) (qAbs (tVar 2)) [2]
def tPoolP (K : PySem.W.Frag) : TS := tSeq (tAsg (tPoolS K) (gName 1)) (tSeq (tFor (iList K (qSc K 63)) (gName 2) (tAsg tPoolT (gName 1))) (tRet (tLst (tCons (tVar 1) (tCons (qc 0) (tCons (tPoolU K) tNil))))))
theorem vInts_at {i : Nat} {x : V} (h : (vInts ms)[i]? = some x) : ∃ z, ms[i]? = some z ∧ x = .int z := by
  unfold vInts at h
  rw [List.getElem?_map] at h
  cases e : ms[i]? with
  | none => rw [e] at h; cases h
  | some z => rw [e] at h; exact ⟨z, rfl, (Option.some.inj h).symm⟩
theorem poolU_ev {x y : Option V} (hσ : σ = [some (.ref a), x, y]) (hS : SqL K H a (ns.map V.int)) : ∃ cs : List Int, cs.length ≤ 63 ∧ EvL (tPoolU K) σ H (vInts cs) := by
  obtain ⟨ms, e1, e2⟩ := cut_ints ns none (some 63)
  have ml : ms.length ≤ 63 := by
    have : (cutV (ns.map V.int) none (some 63)).length ≤ 63 := by
      unfold cutV
      rw [List.length_take, List.length_drop]
      have : HT.sIx (ns.map V.int).length (ns.map V.int).length (some 63) ≤ 63 := by
        rw [show (some (63 : Int)) = some ((63 : Nat) : Int) from rfl, HT.sIx_nat]
        omega
      omega
    rw [e1] at this
    simpa [vInts] using this
  have key := el_lcNL (K := K) (σ := σ) (H := H) (tl := qSc K 63) (j := 2) (vs := [2]) (t := tB (tOp qGe (qAbs (tVar 2)) (tOp qPow (qc 10) (qc 18)))) (te := qAbs (tVar 2)) (xs := vInts ms)
    (fun i => decide ((10 : Int) ^ (18 : Int).toNat ≤ (if ms.getD i 0 < 0 then - ms.getD i 0 else ms.getD i 0))) (fun i => .int (if ms.getD i 0 < 0 then - ms.getD i 0 else ms.getD i 0))
    (by rw [← e1]; subst hσ; exact el_sl (ev_var rfl) eo_none (eo_some ev_c) hS) (by simp [vInts]; omega) (fun x => by subst hσ; rfl)
    (fun i x H1 e hx => by
      obtain ⟨z, hz, rfl⟩ := vInts_at hx
      rw [List.getD_eq_getElem?_getD, hz]
      subst hσ
      exact et_B (ev_op (ev_cb (ea_cons (ev_var rfl) ea_nil) rc_abs) (ev_op ev_c ev_c (rv_I ⟨by decide, by decide, by decide⟩)) rv_I0))
    (fun i x H1 e hx _ => by
      obtain ⟨z, hz, rfl⟩ := vInts_at hx
      rw [List.getD_eq_getElem?_getD, hz]
      subst hσ
      exact ev_cb (ea_cons (ev_var rfl) ea_nil) rc_abs)
  refine ⟨((List.range (vInts ms).length).filter fun i => decide ((10 : Int) ^ (18 : Int).toNat ≤ (if ms.getD i 0 < 0 then - ms.getD i 0 else ms.getD i 0))).map fun i => (if ms.getD i 0 < 0 then - ms.getD i 0 else ms.getD i 0), ?_, ?_⟩
  · rw [List.length_map]
    refine Nat.le_trans (List.length_filter_le _ _) ?_
    simp [vInts]
    exact ml
  · have eg : given (vInts ms).length (fun i => decide ((10 : Int) ^ (18 : Int).toNat ≤ (if ms.getD i 0 < 0 then - ms.getD i 0 else ms.getD i 0))) (fun i => .int (if ms.getD i 0 < 0 then - ms.getD i 0 else ms.getD i 0)) = vInts (((List.range (vInts ms).length).filter fun i => decide ((10 : Int) ^ (18 : Int).toNat ≤ (if ms.getD i 0 < 0 then - ms.getD i 0 else ms.getD i 0))).map fun i => (if ms.getD i 0 < 0 then - ms.getD i 0 else ms.getD i 0)) := by
      unfold given vInts
      rw [List.map_map]
      rfl
    rw [← eg]
    exact key
theorem poolP_run {D : L2.Ends} (hS : SqL K H a (ns.map V.int)) (k : ∀ (p : Addr × Addr) (H' : Hp) (s c : Int) (cs : List Int), cs.length ≤ 63 → p.1 ≠ p.2 → H' p.1 = some (.lst [.int s, .int c, .ref p.2]) → H' p.2 = some (.lst (vInts cs)) → Ex H H' → D.rt (.ref p.1) H') : tPoolP K D [some (.ref a), none, none] H := by
  unfold tPoolP
  obtain ⟨m1, e1, _⟩ := cut_ints ns none (some 1)
  have h1 : ∀ {σ : L2.St} {H1 : Hp}, σ[0]? = some (some (.ref a)) → Ex H H1 → EvL (qSc K 1) σ H1 (m1.map V.int) := fun h e => by
    rw [show m1.map V.int = vInts m1 from rfl, ← e1]
    exact el_sl (ev_var h) eo_none (eo_some ev_c) (ex_l e hS)
  refine q_asg (v := .int _) (ev_op (ev_op (ev_op (ev_cb (ea_cons (ev_sum (h1 rfl (Ex.refl _))) ea_nil) rc_int) ev_c (rv_I (by decide))) (ev_len (ev_var rfl) hS) rv_I0) ev_c rv_I0) fun H1 ee1 => ?_
  generalize (m1.sum.fmod 1000003 + ((ns.map V.int).length : Int) + 1) = sd
  obtain ⟨m2, e2, _⟩ := cut_ints ns none (some 63)
  refine q_forNLn (K := K) (xs := vInts m2) (by rw [← e2]; exact el_sl (ev_var rfl) eo_none (eo_some ev_c) (ex_l ee1 hS)) (fun p i σ' H' => ∃ z y, σ' = [some (.ref a), some (.int z), y] ∧ Ex H1 H' ∧ H' p = some (.lst (vInts m2))) (fun p H2 hp ee2 hh => ⟨sd, none, rfl, ee2, hh⟩) (fun p i σ' H' _ h => sq_of h.choose_spec.choose_spec.2.2) (fun p i x σ' H' hx h => ?_) (fun p σ' H' h => ?_)
  · obtain ⟨z, y, rfl, ee2, hh⟩ := h
    obtain ⟨w, _, rfl⟩ := vInts_at hx
    refine s_asg (ev_op (ev_cb (ea_cons (ev_op (ev_op (ev_op (ev_var rfl) ev_c (rv_I (cm1 (by decide)))) (ev_op (ev_cb (ea_cons (ev_var rfl) ea_nil) rc_int) ev_c (rv_I (by decide))) rv_I0) ev_c rv_I0) ea_nil) rc_int) ev_c (rv_I (by decide))) fun H3 ee3 => ?_
    exact ⟨_, _, rfl, ee2.trans ee3, ee3 _ _ hh⟩
  · obtain ⟨z, y, rfl, ee2, hh⟩ := h
    obtain ⟨cs, cl, hU⟩ := poolU_ev (K := K) (H := H') (a := a) (x := some (.int z)) (y := y) rfl (ex_l (ee1.trans ee2) hS)
    refine ⟨_, rfl, ?_⟩
    have go : ∀ Q : VK, (∀ b H3, H3 b = some (.lst (vInts cs)) → Ex H' H3 → Q (.ref b) H3) → tPoolU K [some (.ref a), some (.int z), y] H' Q := fun Q q => hU H' (Ex.refl _) Q fun b H3 _ ee h3 => q b H3 h3 ee
    refine go (fun x H2 => [V.int z, V.int 0, x].length ≤ sizeLine ∧ ∀ l, H2 l = none → D.rt (V.ref l) (upd H2 l (HO.lst [.int z, .int 0, x]))) fun b H3 h3 ee3 => ⟨by show 3 ≤ sizeLine; decide, fun l hl => ?_⟩
    have ne : l ≠ b := fun e => by rw [e, h3] at hl; cases hl
    exact k (l, b) _ z 0 cs cl ne upd_same (by rw [upd_ne (Ne.symm ne)]; exact h3) (((ee1.trans ee2).trans ee3).trans (Ex.new hl))
end
def spPool (K : PySem.W.Frag) : Sp := fun vs H Q _ => ∃ (a : Addr) (ns : List Int), vs = [.ref a] ∧ SqL K H a (ns.map V.int) ∧
  ∀ (p : Addr × Addr) (H' : Hp) (s c : Int) (cs : List Int), cs.length ≤ 63 → p.1 ≠ p.2 → H' p.1 = some (.lst [.int s, .int c, .ref p.2]) → H' p.2 = some (.lst (vInts cs)) → Ex H H' → Q (.ref p.1) H'
theorem pool_ok {P : Program} {w : World} {K : PySem.W.Frag} {mg : Str → Option Value} {base : Heap} {x qual : Str} {st : Stmt} {f : Addr} {fd : FuncData} {k : Nat}
    (Fn : Fun K x qual st f fd) (Sc : FnScope ["script", "seed", "cell"] ["script"] (defScope st))
    (hbody : ∀ (cdv : Value) (A : Around) (outer : List Env) (s : Shared) (H : Hp) (E : XK), Room k (A.deeper (envOfC qual (defScope st) s.heap.objs.size f cdv)) →
      PSs (cxOf CX0 P w K mg base ["script", "seed", "cell"] qual (defScope st) f cdv A outer s H E).nox (defBody st) (tPoolP K)) :
    FnOk P w K mg base CX0 (k + 1) f fd ["script"] (spPool K) := by
  refine Fn.ok Sc (fun vs H Q E ⟨a, ns, e, _⟩ => by rw [e]; rfl) (fun cdv A outer s H vs Q E hr ⟨a, ns, e, hS, q⟩ => ?_)
  subst e
  exact ⟨_, hbody cdv A outer s H E hr, poolP_run hS q⟩
theorem law_okPT {P : Program} {w : World} {K : PySem.W.Frag} {mg : Str → Option Value} {base : Heap} {x qual : Str} {st : Stmt} {f : Addr} {fd : FuncData} {N : List Str} {k n : Nat} {S : Stat} {b : XS} {Γe : List Mo}
    (Fn : Fun K x qual st f fd) (Sc : FnScope N ["script"] (defScope st)) (hN : N.length = n + 2) (hS : S.DQ = DQp)
    (hbody : ∀ (cdv : Value) (A : Around) (outer : List Env) (s : Shared) (H : Hp) (E : XK), Room k (A.deeper (envOfC qual (defScope st) s.heap.objs.size f cdv)) →
      ∃ t, PSs (cxOf CX0 P w K mg base N qual (defScope st) f cdv A outer s H E).nox (defBody st) (tSeq (tAsg (tCall (spPool K) [] E0 (tCons (tVar 0) tNil)) (gName 1)) t) ∧ ∀ q, SimS ⟨S, q, [], []⟩ [] (gamL n) Γe t b)
    (hpure : b lawEnds (List.replicate (n + 2) none)) : FnOk P w K mg base CX0 (k + 1) f fd ["script"] (spLawT S.TT K) := by
  refine Fn.ok Sc (fun vs H Q E ⟨a, ns, e, _⟩ => by rw [e]; rfl) (fun cdv A outer s H vs Q E hr ⟨a, ns, e, hS1, hl, hT, q⟩ => ?_)
  subst e
  obtain ⟨t, ht, hs⟩ := hbody cdv A outer s H E hr
  refine ⟨_, ht, ?_⟩
  refine ⟨.ref a, ?_, a, ns, rfl, hS1, fun p H' sd c cs iv ne a1 a2 ff => ?_⟩
  · unfold L2.start; rfl
  have hl2 : (L2.start N [.ref a]).length = n + 2 := by unfold L2.start; simp [hN]
  have I : Ok ⟨S, some p, [], []⟩ (gamL n) ((L2.start N [.ref a]).set 1 (some (.ref p.1))) H' (List.replicate (n + 2) none) (fun _ => []) := by
    refine ⟨by simp [gamL], by rw [List.length_set, hl2]; simp [gamL], fun i m h l => ?_, fun i h => ?_, fun i h => ?_, fun i j m h => ?_, fun _ _ _ _ => NoQS.nil, ⟨fun p' e => ?_, hT.ext ff, fun p' e t ht => by
      cases e
      have hT2 : NdefX.TabsN S.TT H' := hT.ext ff
      exact ⟨not_tbl hT2 a1 (fun _ z => nomatch z) t ht, not_tbl hT2 a2 (fun _ z => nomatch z) t ht⟩⟩, (fun _ e => nomatch e), fun _ e => nomatch e⟩
    · match i, h with
      | 0, h => cases h; rcases l with l | l <;> cases l
      | 1, h => cases h; rcases l with l | l <;> cases l
      | i + 2, h =>
        have h : (List.replicate n Mo.x)[i]? = some m := h
        rw [List.getElem?_replicate] at h
        split at h <;> cases h
        rcases l with l | l <;> cases l
    · match i, h with
      | 0, h => cases h
      | 1, h => exact ⟨p, rfl, by rw [List.getElem?_set_self (by rw [hl2]; omega)]⟩
      | i + 2, h =>
        have h : (List.replicate n Mo.x)[i]? = some .q := h
        rw [List.getElem?_replicate] at h
        split at h <;> cases h
    · match i, h with
      | 0, h => cases h
      | 1, h => cases h
      | i + 2, h =>
        have h : (List.replicate n Mo.x)[i]? = some .o := h
        rw [List.getElem?_replicate] at h
        split at h <;> cases h
    · match i, h with
      | 0, h => cases h
      | 1, h => cases h
      | i + 2, h =>
        have h : (List.replicate n Mo.x)[i]? = some .o := h
        rw [List.getElem?_replicate] at h
        split at h <;> cases h
    · cases e
      exact ⟨_, _, a1, a2, by show S.DQ _ _ _; rw [hS]; exact ⟨sd, c, cs, iv, ne, rfl, rfl⟩⟩
  refine (hs (some p)).run _ H' _ _ _ lawEnds I ⟨fun _ _ _ _ _ _ z => z.elim, fun _ _ _ _ _ _ z => z.elim, fun _ _ _ _ _ _ z => z.elim, fun v H2 d F _ _ r _ _ _ e => ?_⟩ hpure
  have e : d = .bl true := e
  subst e
  cases r
  exact q _
theorem law_okP {P : Program} {w : World} {K : PySem.W.Frag} {mg : Str → Option Value} {base : Heap} {x qual : Str} {st : Stmt} {f : Addr} {fd : FuncData} {N : List Str} {k n : Nat} {S : Stat} {b : XS} {Γe : List Mo}
    (Fn : Fun K x qual st f fd) (Sc : FnScope N ["script"] (defScope st)) (hN : N.length = n + 2) (hS : S.DQ = DQp)
    (hbody : ∀ (cdv : Value) (A : Around) (outer : List Env) (s : Shared) (H : Hp) (E : XK), Room k (A.deeper (envOfC qual (defScope st) s.heap.objs.size f cdv)) →
      ∃ t, PSs (cxOf CX0 P w K mg base N qual (defScope st) f cdv A outer s H E).nox (defBody st) (tSeq (tAsg (tCall (spPool K) [] E0 (tCons (tVar 0) tNil)) (gName 1)) t) ∧ ∀ q, SimS ⟨S, q, [], []⟩ [] (gamL n) Γe t b)
    (hpure : b lawEnds (List.replicate (n + 2) none)) (hT : S.TT = [] := by rfl) : FnOk P w K mg base CX0 (k + 1) f fd ["script"] (spLaw K) :=
  (law_okPT Fn Sc hN hS hbody hpure).imp fun vs H Q E ⟨a, ns, h1, h2, h3, q⟩ => ⟨a, ns, h1, h2, h3, (by rw [hT]; exact fun p hp => nomatch hp), q⟩
end Pu
set_option Elab.async false
set_option linter.all false
set_option maxRecDepth 100000
namespace Pu
open PySem PySem.Spec PyProof.Rows L2
section
variable {C : Cfg} {Γ : List Mo} {te : TE} {m : X1} {K : PySem.W.Frag}
end
end Pu
set_option Elab.async false
set_option linter.all false
set_option maxRecDepth 100000
namespace Pu
open PySem PySem.Spec PyProof.Rows L2
section
variable {C : Cfg} {Γ Γ' Γl Γ1 Γ2 : List Mo} {σ : L2.St} {H : Hp} {env : PEnv} {Fs : Nat → List Addr} {d : D} {te : TE} {A : Kd} {m : X1} {K : PySem.W.Frag} {CT : RT}
end
end Pu
set_option Elab.async false
set_option linter.all false
set_option maxRecDepth 100000
set_option synthInstance.maxHeartbeats 0
set_option synthInstance.maxSize 100000
namespace Pu
open PySem PySem.Spec PyProof.Rows L2
end Pu
set_option Elab.async false
set_option linter.all false
set_option maxRecDepth 100000
namespace Pu
open PySem PySem.Spec PyProof.Rows L2
section
variable {A : Around} {E : Value → Shared → Prop} {s : Shared} {K : PySem.W.Frag} {prog : Program} {w : World}
end
section
variable {X : Cx} {n : Nat}
end
end Pu
set_option Elab.async false
set_option linter.all false
set_option maxRecDepth 100000
namespace Pu
open PySem PySem.Spec PyProof.Rows L2
structure OwnC (K : PySem.W.Frag) (C : Addr) : Prop where
  cl : Cls K C
  ha : PySem.W.findIn K (.ref C) "__class__" = some (some (.builtin "object.__class__"))
  hn : PySem.W.specialIn K (.builtin "object.__class__") "__get__" = some (some (.builtin "getset_descriptor.__get__"))
  htk : PySem.W.takesIn K (.builtin "object.__class__") = some true
  hm : PySem.W.mroIn K C (.type "object") = some true
  hne : PySem.W.findIn K (.ref C) "__ne__" = some (some (.builtin "object.__ne__"))
  ho : PySem.W.subIn K (.ref C) (.type "object") = some true
section
variable {C : Cfg} {Γ : List Mo} {te tb : TE} {A B : Kd} {m n : X1} {K : PySem.W.Frag} {S : Stat}
def rRepr : List V → Hp → VK → Prop := fun xs H Q => ∃ i, xs = [.int i] ∧ i.natAbs.log2 < 1920 ∧ Q (.str (toString i)) H
def oRepr : O1 := fun d Q => match d with
  | .int i => i.natAbs.log2 < 1920 ∧ Q (.str (toString i))
  | _ => False
theorem k_repr {X : Cx} : CallR X (.builtin "repr") rRepr := SkE.call_repr_int
theorem sc_repr {CT : RT} : SimC1 CT rRepr oRepr := ⟨fun H v d F Q a q => by
  cases a with
  | int i => exact ⟨i, rfl, q.1, New.imm q.2 (.str _)⟩
  | _ => exact (show False from q).elim, fun d Q Q' k q => by cases d <;> first | exact ⟨q.1, k _ q.2⟩ | exact q⟩
instance : MO1 oRepr := ⟨(sc_repr (CT := rt0)).mono⟩
end
end Pu
set_option Elab.async false
set_option linter.all false
set_option maxRecDepth 100000
set_option synthInstance.maxHeartbeats 0
set_option synthInstance.maxSize 100000
namespace Pu
open PySem PySem.Spec PyProof.Rows L2
end Pu
set_option Elab.async false
set_option linter.all false
set_option maxRecDepth 100000
namespace Pu
open PySem PySem.Spec PyProof.Rows L2
def NLk (H : Hp) (d : Addr) (o : Obj) (xs : List NE) : Prop := H d = some (.frz o (hN d xs)) ∨ (xs = [] ∧ H d = some (.frz o (.dK [])))
section
variable {X : Cx} {pins : List (Addr × Obj)} {σ : L2.St} {H : Hp} {s : Shared} {d : Addr} {o : Obj} {xs : List NE}
theorem frzN (I : Inv X pins σ H s) (h : NLk H d o xs) :
    (d == sysModules) = false ∧ ∃ (es : Array DictEntry) (ep : Nat), o.data = .dict es ep ∧ es.size = xs.length ∧ s.heap.DictRaw d es ep ∧
      ∀ (i : Nat) (x : NE) (hi : i < es.size), xs[i]? = some x → RelV x.key es[i].key ∧ RelV x.val es[i].val := by
  rcases h with h | ⟨rfl, h⟩
  · obtain ⟨hd, ⟨hs, _, _, o', es, ep, ho, hx, hdt, pr⟩, _⟩ := I.hok d _ h
    rw [hd] at ho
    cases ho
    have hl : es.size = xs.length := by have := Paired.length pr; rw [Array.length_toList] at this; exact this.symm
    refine ⟨hs, es, ep, hdt, hl, ⟨o, hd, hx, hdt⟩, fun i x hi e => ?_⟩
    obtain ⟨b, hb, _, e1, e2⟩ := paired_get pr e
    rw [Array.getElem?_toList, Array.getElem?_eq_getElem hi] at hb
    cases hb
    exact ⟨e1, e2⟩
  · obtain ⟨hs, hgd, hx, es, ep, vs, hdt, hsz, kv, hm⟩ := I.frzK h
    exact ⟨hs, es, ep, hdt, hsz, ⟨o, hgd, hx, hdt⟩, fun i x hi e => by simp at e⟩
end
def ItkN (d : Addr) (o : Obj) (xs : List NE) : It :=
  ⟨fun i H => NLk H d o xs ∧ i < xs.length, fun i H x H' => H' = H ∧ ∃ e, xs[i]? = some e ∧ x = e.key, fun i H => NLk H d o xs ∧ xs.length ≤ i⟩
section
variable {P : Program} {w : World} {K : PySem.W.Frag} {tg : Expr} {d : Addr} {o : Obj} {es : Array DictEntry} {ep : Nat} {xs : List NE}
theorem turn_keysN (it : Addr) (hod : o.data = .dict es ep) : Turn P w K tg (ItkN d o xs) [it] it (fun i h => h.IsKeyIter it d i es.size ep) where
  mem := by simp
  obj := fun i h st b hb => by
    have e : b = it := by simpa using hb
    subst e
    obtain ⟨oi, e, c, dd⟩ := st
    exact ⟨oi, e, fun v z => by rw [dd] at z; cases z⟩
  keep := fun i h h' st k => st.at fun oi e => k it (by simp) oi e
  item := by
    intro X hP hw hK hc i pins s σ H E I hf st ⟨hd, hi⟩
    subst hP hw hK
    obtain ⟨f0, f1, f2, f3, f4, f5⟩ := hf it (by simp)
    obtain ⟨hs, es', ep', hdt, hsz, raw, ent⟩ := frzN I hd
    obtain ⟨rfl, rfl⟩ := dict_ep hod hdt
    have hi' : i < es'.size := by rw [hsz]; exact hi
    refine wpAny_pyNext_keys_item_raw st raw hi' fun h' st' sb => ?_
    have I1 : Inv X pins σ H { s with heap := h' } := I.turned (t' := s.toks) (fun b ob hb e => (sb.2 b hb).trans e) f0 f1 f3 f4 f5
    obtain ⟨oi, e, c, dd⟩ := id st'
    exact ⟨_, rfl, go_of (s := { s with heap := h' }) e c dd (by decide) ⟨_, H, I1, (ent i _ hi' (List.getElem?_eq_getElem hi)).1, ⟨rfl, _, List.getElem?_eq_getElem hi, rfl⟩, st', fun b hb => (hf b hb).1⟩⟩
  done := by
    intro X hP hw hK hc i pins s σ H E I hf st ⟨hd, hi⟩
    subst hP hw hK
    obtain ⟨f0, f1, f2, f3, f4, f5⟩ := hf it (by simp)
    obtain ⟨hs, es', ep', hdt, hsz, raw, ent⟩ := frzN I hd
    obtain ⟨rfl, rfl⟩ := dict_ep hod hdt
    exact wpAny_pyNext_keys_end_raw (I.ok.hd hc) st raw (by rw [hsz]; exact hi) fun h' eb => ⟨rfl, I.turned (t' := s.toks) (fun b ob hb e => eb b ob hb e) f0 f1 f3 f4 f5⟩
  self := fun A i s Q E st h => wpAny_pyIter_keyiter st h
end
def iKeysN (td : TE) : TI := fun σ H R => td σ H fun x H1 => ∃ d o xs, x = .ref d ∧ NLk H1 d o xs ∧ R (ItkN d o xs) H1
section
variable {X : Cx} {tg e : Expr} {td : TE} {apos cpos : Pos}
theorem pi_keysN (he : PE X e td) : PI X tg e (iKeysN td) := by
  refine ⟨fun pins s σ H R I h => ?_⟩
  refine thn (he.run pins s σ H _ I h) fun u s1 ⟨x, H1, I1, rx, d, o, xs, ex, hd, q⟩ => ?_
  subst ex
  obtain rfl : u = Value.ref d := rx
  obtain ⟨hs, es, ep, hdt, hsz, raw, ent⟩ := frzN I1 hd
  exact wpAny_pyIter_dict_raw hs raw (pi_one (tk := s1.toks) I1 _ (turn_keysN _ hdt) ⟨_, Heap.get?_push_size _ rfl, rfl, rfl⟩ q)
end
end Pu
set_option Elab.async false
set_option linter.all false
set_option maxRecDepth 100000
namespace Pu
open PySem PySem.Spec PyProof.Rows L2
section
variable {CT : RT} {H H' : Hp}
mutual
theorem Rp.nofrz {p : Addr} {od : Obj} {u : HO} (hp : H p = some (.frz od u)) : ∀ {v : V} {d : D} {F : List Addr}, Rp CT H v d F → p ∉ F
  | _, _, _, .non, m => absurd m (by simp)
  | _, _, _, .bl b, m => absurd m (by simp)
  | _, _, _, .int b, m => absurd m (by simp)
  | _, _, _, .str b, m => absurd m (by simp)
  | _, _, _, .tup h r, m => Rps.nofrz hp r m
  | _, _, _, .lst h r, m => by
    rcases List.mem_cons.mp m with e | m
    · subst e; rw [h] at hp; cases hp
    · exact Rps.nofrz hp r m
  | _, _, _, .dK h _ r, m => by
    rcases List.mem_cons.mp m with e | m
    · subst e; rw [h] at hp; cases hp
    · exact Rps.nofrz hp r m
  | _, _, _, .dT h _ r, m => by
    rcases List.mem_cons.mp m with e | m
    · subst e; rw [h] at hp; cases hp
    · exact Rps.nofrz hp r m
  | _, _, _, .obj h _ r, m => by
    rcases List.mem_cons.mp m with e | m
    · subst e; rw [h] at hp; cases hp
    · exact Rps.nofrz hp r m
  | _, _, _, .fz h _ _ r, m => Rps.nofrz hp r m
  | _, _, _, .dN h _ _ _ r, m => by
    rcases List.mem_cons.mp m with e | m
    · subst e; rw [h] at hp; cases hp
    · exact Rps.nofrz hp r m
  | _, _, _, .clo x r _, m => by
    rcases List.mem_append.mp m with m | m
    · obtain ⟨o, e⟩ := x.cs p m
      rw [e] at hp; cases hp
    · exact Rps.nofrz hp r m
theorem Rps.nofrz {p : Addr} {od : Obj} {u : HO} (hp : H p = some (.frz od u)) : ∀ {vs : List V} {ds : List D} {F : List Addr}, Rps CT H vs ds F → p ∉ F
  | _, _, _, .nil, m => absurd m (by simp)
  | _, _, _, .cons h r, m => by
    rcases List.mem_append.mp m with m | m
    · exact Rp.nofrz hp h m
    · exact Rps.nofrz hp r m
end
end
def selK (kds : List (D × D)) : List D := kds.map (·.1)
section
variable {CT : RT} {a : Addr} {od : Obj} {xs : List NE} {kds : List (D × D)} {H : Hp}
abbrev LkN (CT : RT) (a : Addr) (od : Obj) (xs : List NE) (kds : List (D × D)) (H : Hp) : Prop := NLk H a od xs ∧ NRp CT H xs kds []
theorem NLk.keep {W : Addr → Prop} {H' : Hp} (h : NLk H a od xs) (f : Fr W H H') : NLk H' a od xs := h.imp (fun h => f.im _ _ h rfl) fun ⟨e, h⟩ => ⟨e, f.im _ _ h rfl⟩
theorem LkN.keep {W : Addr → Prop} {H' : Hp} (h : LkN CT a od xs kds H) (f : Fr W H H') : LkN CT a od xs kds H' := ⟨h.1.keep f, h.2.keep f fun _ m => nomatch m⟩
theorem NRp.at1 (r : NRp CT H xs kds []) {i : Nat} {e : NE} (hx : xs[i]? = some e) : ∃ kd, kds[i]? = some kd ∧ Rp CT H e.key kd.1 [] ∧ Rp CT H e.val kd.2 [] := by
  have hi : i < kds.length := by rw [← r.length]; exact (List.getElem?_eq_some_iff.mp hx).1
  refine ⟨kds[i], List.getElem?_eq_getElem hi, r.kr.at (j := i) (by rw [List.getElem?_map, hx]; rfl) (by rw [List.getElem?_map, List.getElem?_eq_getElem hi]; rfl), r.vr.at (j := i) (by rw [List.getElem?_map, hx]; rfl) (by rw [List.getElem?_map, List.getElem?_eq_getElem hi]; rfl)⟩
theorem walk_kN (hl : xs.length = kds.length) : Walk CT (ItkN a od xs) [] (LkN CT a od xs kds) (selK kds) := by
  have h2 : (selK kds).length = xs.length := by simp [selK, hl]
  refine ⟨fun W H H' h f n => h.keep f, fun _ _ _ m => (nomatch m), fun i H h hi => ⟨h.1, by rw [← h2]; exact hi⟩, fun H h => ⟨h.1, by rw [h2]; exact Nat.le_refl _⟩, fun i H x H' h hi ⟨e1, e, e2, e3⟩ => ?_⟩
  subst e1 e3
  obtain ⟨kd, h3, h4, h5⟩ := h.2.at1 e2
  exact ⟨kd.1, [], by rw [selK, List.getElem?_map, h3]; rfl, Fr.refl, h4, fun _ m => (nomatch m)⟩
end
structure WkN (wi : TE → TI) (sel : List (D × D) → List D) : Prop where
  run : ∀ {CT : RT} {a : Addr} {i : Nat} {σ : L2.St} {H : Hp} {od : Obj} {xs : List NE} {kds : List (D × D)} {R : It → Hp → Prop}, σ[i]? = some (some (.ref a)) → NLk H a od xs → xs.length = kds.length →
    (∀ J, Walk CT J [] (LkN CT a od xs kds) (sel kds) → R J H) → wi (tVar i) σ H R
theorem wk_kN : WkN iKeysN selK := ⟨fun h1 h2 hl h => ⟨_, h1, _, _, _, rfl, h2, h _ (walk_kN hl)⟩⟩
abbrev pinI (C : Cfg) (i : Nat) (v : V) : Cfg := ⟨C.toStat, C.q, (i, v) :: C.pin, C.fns⟩
section
variable {C : Cfg} {Γ Γ' Γn Γl Γo Γt Γe Γ1 Γ2 Γf Γu : List Mo} {σ σ' : L2.St} {H H' H1 H2 : Hp} {env env' : PEnv} {Fs Fs' Fs1 Fs2 : Nat → List Addr} {v : V} {vs : List V} {d : D} {ds : List D} {F G : List Addr} {ta tb te : TE} {A B : Kd} {m n : X1} {K : PySem.W.Frag} {CT : RT} {i : Nat} {a : Addr} {u : HO} {od : Obj}
theorem Ok.lockO (I : Ok C Γ σ H env Fs) (gi : Γ[i]? = some .o) (hv : σ[i]? = some (some (.ref a))) (hF : a ∈ Fs i) (ha : H a = some u) (hu : Im u = false) : Ok (pinI C i (.ref a)) (Γ.set i .x) σ (upd H a (.frz od u)) env Fs := by
  have fr : Fr (fun x => x = a) H (upd H a (.frz od u)) := Fr.at rfl ha hu
  have nq := I.nq i _ gi (.inl rfl)
  have old : ∀ (j : Nat) (m : Mo), (Γ.set i .x)[j]? = some m → m ≠ .x → Γ[j]? = some m ∧ j ≠ i := fun j m g hm => by
    rcases get_set g with ⟨_, e, _⟩ | ⟨ne, g⟩
    · exact absurd e.symm (fun z => hm z.symm)
    · exact ⟨g, ne⟩
  have lv : ∀ {m : Mo}, live m → m ≠ .x := fun l => by rcases l with l | l <;> rw [l] <;> exact fun z => nomatch z
  refine ⟨by rw [List.length_set]; exact I.le, by rw [List.length_set]; exact I.ls, fun j m g l => ?_, fun j g => ?_, fun j g => ?_, fun j k m g g' l ne => ?_, fun j m g l => ?_, I.dk.own nq hF ha hu, fun p hp => ?_, fns_gen (fns_upd I.fn ha hu) (fun _ _ h1 _ => h1) fun j v z1 z2 => ⟨List.mem_cons_of_mem _ z1, fun z => z2 ((get_set z).elim (fun w => nomatch w.2.1) fun w => w.2), rfl⟩⟩
  · obtain ⟨g, ne⟩ := old j m g (lv l)
    obtain ⟨v, d, h1, h2, h3⟩ := I.val j m g l
    refine ⟨v, d, h1, h2, h3.keep fr fun x hx e => ?_⟩
    subst e
    exact I.dj i j m gi g l (Ne.symm ne) x hF hx
  · exact I.dice j (old j _ g (fun z => nomatch z)).1
  · exact I.nd j (old j _ g (fun z => nomatch z)).1
  · exact I.dj j k m (old j _ g (fun z => nomatch z)).1 (old k m g' (lv l)).1 l ne
  · exact I.nq j m (old j m g (lv l)).1 l
  · rcases List.mem_cons.mp hp with e | hp
    · subst e; exact hv
    · exact I.pn p hp
def sForN (sel : List (D × D) → List D) (i : Nat) (b : XG) (body : XS) : XS := fun E env => ∃ d kds, env[i]? = some (some d) ∧ d.nv = some kds ∧ immL (kds.map (·.2)) = true ∧
  sLoop b body (sel kds) { nx := fun e => E.nx (e.set i (some d)), rt := E.rt, bk := fun _ => False, ct := fun _ => False } env
theorem mono_sForN {sel : List (D × D) → List D} {b : XG} {body : XS} (hb : ∀ d env Q Q', (∀ e, Q e → Q' e) → b d env Q → b d env Q') (h : ∀ E E' env, PLe E E' → body E env → body E' env) : ∀ (E E' : PEnds) (env : PEnv), PLe E E' → sForN sel i b body E env → sForN sel i b body E' env :=
  fun E E' env p ⟨d, kds, h1, h2, h3, q⟩ => ⟨d, kds, h1, h2, h3, mono_sLoop hb h _ { nx := fun e => E.nx (e.set i (some d)), rt := E.rt, bk := fun _ => False, ct := fun _ => False } { nx := fun e => E'.nx (e.set i (some d)), rt := E'.rt, bk := fun _ => False, ct := fun _ => False } _ ⟨fun e q => p.1 _ q, p.2.1, fun _ q => q, fun _ q => q⟩ q⟩
theorem sim_forN {wi : TE → TI} {sel : List (D × D) → List D} {g : TG} {tb : TS} {b : XG} {body : XS} {ks : List Nat} (wk1 : WkN wi sel) (gi : Γ[i]? = some .o) (hw : wk (Γ.set i .x) Γl = true)
    (sg : ∀ v, SimG (pinI C i v) Γl Γt ks g b) (sb : ∀ v, SimS (pinI C i v) Γl Γt Γe tb body) (hb : wk Γe Γl = true) : SimS C Γo Γ (Γl.set i .o) (tLock (tFor (wi (tVar i)) g tb)) (sForN sel i b body) :=
  ⟨fun σ H env Fs D E I l ⟨d, kds, h2, hn, him, q⟩ => by
    obtain ⟨v, d', h1, h2', h3⟩ := I.val i .o gi (.inl rfl)
    rw [h2] at h2'
    cases h2'
    obtain ⟨a, xs, F0, rfl, eF, hN, rN⟩ := nv_at h3 hn
    have e0 : F0 = [] := rN.vr.imm him
    subst e0
    have hi : i < Γ.length := (List.getElem?_eq_some_iff.mp gi).1
    have lx : (Γ.set i .x).length = Γl.length := wk_len hw
    have hil : i < Γl.length := by rw [← lx, List.length_set]; exact hi
    have haF : a ∈ Fs i := by rw [eF]; exact List.mem_cons_self
    have glx : Γl[i]? = some .x := by
      have h : Γl[i]? = some Γl[i] := List.getElem?_eq_getElem hil
      obtain ⟨b', g', w'⟩ := wk_at hw h
      rw [List.getElem?_set_self hi] at g'
      cases g'
      rw [h]
      cases e : Γl[i] <;> rw [e] at w' <;> first | rfl | exact absurd w' (by decide)
    obtain ⟨u, ha, hu, mu⟩ : ∃ u, H a = some u ∧ Im u = false ∧ Mut (some u) := by
      rcases hN with e | ⟨_, e⟩
      · exact ⟨_, e, im_hN, trivial⟩
      · exact ⟨_, e, rfl, trivial⟩
    refine ⟨a, u, ha, mu, fun od => ?_⟩
    have nl : NLk (upd H a (.frz od u)) a od xs := by
      rcases hN with e | ⟨e0, e⟩
      · rw [ha] at e; cases e; exact .inl upd_same
      · rw [ha] at e; cases e; exact .inr ⟨e0, upd_same⟩
    have frL : Fr (fun x => x = a) H (upd H a (.frz od u)) := Fr.at rfl ha hu
    have IL0 : Ok (pinI C i (.ref a)) (Γ.set i .x) σ (upd H a (.frz od u)) env Fs := I.lockO gi h1 haF ha hu
    have IL : Ok (pinI C i (.ref a)) Γl σ (upd H a (.frz od u)) env Fs := IL0.weak hw
    have lkn : LkN C.CT a od xs kds (upd H a (.frz od u)) := ⟨nl, rN.keep frL fun _ z => nomatch z⟩
    -- the loop
    have key : ∀ (J : It) (D' : Ends), Walk C.CT J [] (LkN C.CT a od xs kds) (sel kds) →
        Lk (pinI C i (.ref a)) Γl Fs (upd H a (.frz od u)) Γl Γl D' { nx := fun e => E.nx (e.set i (some d)), rt := E.rt, bk := fun _ => False, ct := fun _ => False } →
        tFor (fun σ' H' R => LkN C.CT a od xs kds H' → R J H') g tb D' σ (upd H a (.frz od u)) := fun J D' wlk l' => by
      have si : SimI (pinI C i (.ref a)) Γl (fun σ' H' R => LkN C.CT a od xs kds H' → R J H') .own (fun env Q => Q (sel kds)) :=
        ⟨fun σ' H' env' Fs' R I' q p => q H' J [] _ Fr.refl I'.dk wlk p ⟨NoQS.nil, fun _ m => nomatch m⟩, fun env Q Q' k q => k _ q⟩
      have wr : wk Γl Γl = true := by
        have : ∀ Γ : List Mo, wk Γ Γ = true := fun Γ => by
          induction Γ with
          | nil => rfl
          | cons m t ih => simp only [wk, ih, Bool.and_true]; cases m <;> rfl
        exact this Γl
      exact (sim_for (Γo := Γl) si wr rfl (sg _) (sb _) hb).run σ _ env Fs D' { nx := fun e => E.nx (e.set i (some d)), rt := E.rt, bk := fun _ => False, ct := fun _ => False } IL l' q
    have old : ∀ (j : Nat) (m : Mo), Γl[j]? = some m → m ≠ .x → j ≠ i := fun j m g hm e => by
      subst e
      rw [glx] at g
      cases g
      exact hm rfl
    have oldo : ∀ j : Nat, Γl[j]? = some .o → Γ[j]? = some .o := fun j g => by
      have := wk_o hw g
      rw [List.getElem?_set_ne (Ne.symm (old j _ g (fun z => nomatch z)))] at this
      exact this
    have lv : ∀ {m : Mo}, live m → m ≠ .x := fun l => by rcases l with l | l <;> rw [l] <;> exact fun z => nomatch z
    have back : ∀ {H' : Hp}, Fr (WO (pinI C i (.ref a)) Γl Fs) (upd H a (.frz od u)) H' → H' a = some (.frz od u) ∧ Fr (fun x => WO C Γ Fs x ∧ x ≠ a) H (upd H' a u) := fun {H'} f => by
      have hz : H' a = some (.frz od u) := f.im a _ upd_same rfl
      refine ⟨hz, fun x o e n => ?_, fun x o e n => ?_, fun x e => ?_⟩
      · by_cases z : x = a
        · subst z; rw [upd_same]; rw [ha] at e; exact e
        · rw [upd_ne z]
          refine f.keep x o (by rw [upd_ne z]; exact e) fun w => n ⟨?_, z⟩
          rcases w with w | ⟨j, gj, hb⟩
          · exact .inl w
          · exact .inr ⟨j, oldo j gj, hb⟩
      · by_cases z : x = a
        · subst z; rw [upd_same]; rw [ha] at e; exact e
        · rw [upd_ne z]; exact f.im x o (by rw [upd_ne z]; exact e) n
      · by_cases z : x = a
        · subst z; rw [upd_same] at e; cases e
        · rw [upd_ne z] at e
          have := f.there x e
          rw [upd_ne z] at this; exact this
    have dkb : ∀ {H' : Hp}, DiceOk C H' → H' a = some (.frz od u) → DiceOk C (upd H' a u) := fun dk hz => dk.thaw ((I.nq i _ gi (.inl rfl)).subm fun b hb => by rw [List.mem_singleton.mp hb]; exact haF) hz
    have mine : ∀ {F : List Addr}, Mine Γl Fs (upd H a (.frz od u)) F → Mine Γ Fs H F := fun m b hb => by
      rcases m b hb with ⟨j, gj, z⟩ | z
      · exact .inl ⟨j, oldo j gj, z⟩
      · by_cases e : b = a
        · subst e; rw [upd_same] at z; cases z
        · rw [upd_ne e] at z; exact .inr z
    refine wk1.run h1 nl rN.length fun J wlk => (key J _ wlk ⟨fun σ' H' env' Fs' I' g' q' => ?_, fun _ _ _ _ _ _ q => q.elim, fun _ _ _ _ _ _ q => q.elim, fun v H' d' F f dk r nd nq mi q' => ?_⟩) lkn
    · obtain ⟨hz, fb⟩ := back g'.fr
      refine ⟨hz, l.nx σ' (upd H' a u) (env'.set i (some d)) (setF Fs' i [a]) ?_ ⟨fb.mono fun x w => w.1, fun j gj => ?_⟩ q'⟩
      · refine ⟨by rw [List.length_set, List.length_set]; exact I'.le, by rw [List.length_set]; exact I'.ls, fun j m g lm => ?_, fun j g => ?_, fun j g => ?_, fun j k m g gk lm ne => ?_, fun j m g lm => ?_, dkb I'.dk hz, (fun p hp => I'.pn p (List.mem_cons_of_mem _ hp)), fun p hp => ?_⟩
        · rcases get_set g with ⟨e, em, _⟩ | ⟨ne, g⟩
          · subst e
            refine ⟨.ref a, d, I'.pn (j, .ref a) List.mem_cons_self, by rw [List.getElem?_set_self (by rw [I'.le]; exact hil)], ?_⟩
            rw [setF_same, ← eF]
            exact h3.keep fb fun x hx w => w.2 (by rw [eF] at hx; simpa using hx)
          · obtain ⟨v, d', h1, h2, h3⟩ := I'.val j m g lm
            refine ⟨v, d', h1, by rw [List.getElem?_set_ne (Ne.symm ne)]; exact h2, ?_⟩
            rw [setF_ne ne]
            exact h3.thaw hz
        · rcases get_set g with ⟨e, em, _⟩ | ⟨ne, g⟩
          · cases em
          · exact I'.dice j g
        · rcases get_set g with ⟨e, em, _⟩ | ⟨ne, g⟩
          · subst e; rw [setF_same]; exact List.nodup_cons.mpr ⟨(fun m => nomatch m), List.nodup_nil⟩
          · rw [setF_ne ne]; exact I'.nd j g
        · rcases get_set g with ⟨e, _, _⟩ | ⟨nj, g1⟩
          · subst e
            rw [setF_same, setF_ne (Ne.symm ne)]
            rcases get_set gk with ⟨e, _, _⟩ | ⟨nk, gk⟩
            · exact absurd e.symm ne
            · intro x hx
              rw [List.mem_singleton.mp hx]
              obtain ⟨_, _, _, _, h3⟩ := I'.val k m gk lm
              exact h3.nofrz hz
          · rw [setF_ne nj]
            rcases get_set gk with ⟨e, _, _⟩ | ⟨nk, gk⟩
            · subst e
              rw [setF_same]
              intro x hx z
              rw [List.mem_singleton.mp z] at hx
              obtain ⟨_, _, _, _, h3⟩ := I'.val j _ g1 (.inl rfl)
              exact h3.nofrz hz hx
            · rw [setF_ne nk]; exact I'.dj j k m g1 gk lm ne
        · rcases get_set g with ⟨e, _, _⟩ | ⟨ne, g⟩
          · subst e
            rw [setF_same, ← eF]
            exact I.nq j _ gi (.inl rfl)
          · rw [setF_ne ne]; exact I'.nq j m g lm
        · have q := fns_thaw (u := u) I'.fn hz p hp
          have q0 := I.fn p hp
          cases p with
          | fn b o => exact q
          | ap j v b =>
            have ne : j ≠ i := fun e => q0.2.1 (e ▸ gi)
            exact ⟨q0.1, fun z => q.2.1 (by rw [List.getElem?_set_ne (Ne.symm ne)] at z; exact z), by rw [setF_ne ne]; exact q.2.2⟩
      · rcases get_set gj with ⟨e, _, _⟩ | ⟨ne, gj⟩
        · subst e
          rw [setF_same]
          intro x hx
          rw [List.mem_singleton.mp hx]
          exact .inl ⟨j, gi, haF⟩
        · rw [setF_ne ne]; exact mine (g'.gr j gj)
    · obtain ⟨hz, fb⟩ := back f
      exact ⟨hz, l.rt v _ d' F (fb.mono fun x w => w.1) (dkb dk hz) (r.thaw hz) nd nq (mine mi) q'⟩,
   mono_sForN (sg (.non)).mono (sb (.non)).mono⟩
instance {sel : List (D × D) → List D} {g : XG} {s : XS} [h1 : MG g] [h2 : MS s] : MS (sForN sel i g s) := ⟨fun {E E' env} p q => mono_sForN h1.mono (MS.all (m := s)) E E' env p q⟩
theorem free_1 {i a : Nat} {st : Stat} {q : Option (Addr × Addr)} {v : V} {fs : List FX} (h : i ≠ a) : Free ⟨st, q, [(a, v)], fs⟩ i := by unfold Free; simpa using h
end
end Pu
set_option Elab.async false
set_option linter.all false
set_option maxRecDepth 100000
namespace Pu
open PySem PySem.Spec PyProof.Rows L2
section
variable {C : Cfg} {Γ Γ' Γl : List Mo} {σ : L2.St} {H : Hp} {env : PEnv} {Fs : Nat → List Addr} {v : V} {vs : List V} {d : D} {ds : List D} {F G : List Addr} {ta tb tc te : TE} {A B A' : Kd} {m n p : X1} {K : PySem.W.Frag} {CT : RT}
def getN2 (d e z : D) (Q : D → Prop) : Prop := match d.nv, e.nk with
  | some kds, some k => k.depth ≤ 8 ∧ immL (kds.map (·.2)) = true ∧ z.imm = true ∧ Q ((lookN kds k).getD z)
  | _, _ => False
theorem mono_ng {d e z : D} {Q Q' : D → Prop} (h : ∀ x, Q x → Q' x) (q : getN2 d e z Q) : getN2 d e z Q' := by
  unfold getN2 at q ⊢
  revert q
  cases d.nv <;> cases e.nk <;> intro q <;> first | exact q.elim | exact ⟨q.1, q.2.1, q.2.2.1, h _ q.2.2.2⟩
def xNGet2 (m n p : X1) : X1 := fun env Q => m env fun d => d.nv.isSome = true ∧ n env fun e => p env fun z => getN2 d e z Q
instance [h : MX m] [h' : MX n] [h2 : MX p] : MX (xNGet2 m n p) := ⟨fun env Q Q' k q => h.mono env _ _ (fun d q => ⟨q.1, h'.mono env _ _ (fun e q => h2.mono env _ _ (fun z q => mono_ng k q) q) q.2⟩) q⟩
end
end Pu
set_option Elab.async false
set_option linter.all false
set_option maxRecDepth 100000
namespace Pu
open PySem PySem.Spec PyProof.Rows L2
def tDispN1 (tk tv : TE) : TE := fun σ H Q => ∀ p, H p = none → tPairs [(tk, tv)] σ (upd H p (.dK [])) fun ps H2 => H2 p = some (.dK []) ∧ ∃ x y k, ps = [(x, y)] ∧ KV1 H2 k x ∧ k.depth ≤ 8 ∧ Q (.ref p) (upd H2 p (hN p [⟨k, x, y⟩]))
theorem pe_dispN1 {X : Cx} {k v : Expr} {pos : Pos} {tk tv : TE} (hu : X.A.units + 64 < cLine) (hk : PE X k tk) (hv : PE X v tv) : PE X (.Dict [some k] [v] pos) (tDispN1 tk tv) := by
  refine ⟨fun pins s σ H Q I q => ?_⟩
  have hn := I.hok.fresh (Nat.le_refl s.heap.objs.size)
  have I1 := I.laid (a := s.heap.objs.size) (o := .dK []) (h' := s.heap.push { cls := .type "dict", data := .dict #[] }) (t' := s.toks) (fun _ _ q => Heap.get?_push_of_some _ q) (Nat.le_refl _) (dk_empty s.heap I.big)
  refine wpAny_Dict_any rfl rfl (by simp) (by simp) ?_
  refine thn ((pps_cons (pos := pos) hk hv pps_nil).run pins _ σ _ _ I1 (q _ hn)) fun ws s2 ⟨ps, H2, I2, rel, e, x, y, kk, ep, kv, hd, q2⟩ => ?_
  subst ep
  cases rel with
  | @cons _ b _ _ r rr =>
    cases rr
    obtain ⟨ku, vu⟩ := b
    unfold storeAll
    rw [List.forIn_cons]
    obtain ⟨z, hs, nd, ys, rl, dd⟩ := nat_rd I2.hok (xs := []) (.inr ⟨rfl, e⟩)
    refine wpAny_bind (wpAny_bind (PuN.stored (v := vu) (by omega) dd (ReN.keyed rl I2.hok (fun _ h => nomatch h) nd) (kv.at hd I2.hok r.1) (by rw [ReN.length rl]; exact z) fun h' m sb => wpAny_pure ?_))
    dsimp only
    rw [List.forIn_nil]
    exact wpAny_pure ⟨.ref s.heap.objs.size, _, laidN (xs := []) I2 (.inr ⟨rfl, e⟩) (fun _ h => nomatch h) kv hd (by rw [sizeLine_eq]; decide) hs nd rl r.1 r.2 m sb, rfl, q2⟩
section
variable {C : Cfg} {Γ Γ' Γl : List Mo} {σ : L2.St} {H : Hp} {env : PEnv} {Fs : Nat → List Addr} {v : V} {vs : List V} {d : D} {ds : List D} {F G : List Addr} {ta tb tc te : TE} {A B A' : Kd} {m n p : X1} {K : PySem.W.Frag} {CT : RT}
def dispN1 (e z : D) (Q : D → Prop) : Prop := match e.nk with
  | some k => k.depth ≤ 8 ∧ Q (.dN [(e, z)])
  | none => False
theorem mono_dn {e z : D} {Q Q' : D → Prop} (h : ∀ x, Q x → Q' x) (q : dispN1 e z Q) : dispN1 e z Q' := by
  unfold dispN1 at q ⊢
  revert q
  cases e.nk <;> intro q <;> first | exact q.elim | exact ⟨q.1, h _ q.2⟩
def xDispN1 (m n : X1) : X1 := fun env Q => m env fun e => n env fun z => dispN1 e z Q
instance [h : MX m] [h' : MX n] : MX (xDispN1 m n) := ⟨fun env Q Q' k q => h.mono env _ _ (fun e q => h'.mono env _ _ (fun z q => mono_dn k q) q) q⟩
theorem sim_dispN1 (s : Sim C Γ ta A m) (s' : Sim C Γ tb .own n) : Sim C Γ (tDispN1 ta tb) .own (xDispN1 m n) :=
  ⟨fun σ H env Fs Q I h p hp => by
    have f0 : Fr (fun _ => False) H (upd H p (.dK [])) := Fr.new hp
    have I0 := I.step f0.wq (I.dk.keep f0)
    refine s.run σ _ env Fs _ I0 (s.mono env _ _ (fun k q x H1 F f1 dk1 r1 k1 => s'.run σ H1 env Fs _ (I0.step f1 dk1) (s'.mono env _ _ (fun y q w H2 G f2 dk2 r2 k2 => ?_) q)) h)
    unfold dispN1 at q
    cases ek : k.nk with
    | none => rw [ek] at q; exact q.elim
    | some kk =>
      rw [ek] at q
      have f0' := r1.imm (nk_imm ek)
      subst f0'
      have r1' := r1.keep f2 k1.1.wq
      have nqp : ¬ Wq C p := fun w => wq_there I.dk w hp
      have hp1 : H1 p = some (.dK []) := f1.keep _ _ upd_same nqp
      have hp2 : H2 p = some (.dK []) := f2.keep _ _ hp1 nqp
      have np : p ∉ G := fun z => by
        have := k2.2.2 p z
        rw [hp1] at this; cases this
      have f02 : Fr (Wq C) H H2 := (f0.wq.trans f1).trans f2
      have fr : ∀ a ∈ p :: (G ++ []), H a = none := fun a ha => by
        rcases List.mem_cons.mp ha with z | ha
        · rw [z]; exact hp
        · rw [List.append_nil] at ha
          exact f0.there a (f1.there a (k2.2.2 a ha))
      refine ⟨hp2, x, w, kk, rfl, r1'.kv ek, q.1, q.2 (.ref p) _ (p :: (G ++ [])) (f02.hid hp) (dk2.upd f02 hp I.dk (im_of hp2 rfl)) (.dN upd_same ?_ (fun z hz => by rw [List.mem_singleton.mp hz]; exact q.1) (.cons (F := []) (r1'.upd hp2 rfl (fun z => nomatch z)) .nil) (.cons (r2.upd hp2 rfl np) .nil)) ⟨NoQS.new I.dk fr, ?_, fr⟩⟩
      · show [some kk] = [k.nk]
        rw [ek]
      · rw [List.append_nil]
        exact List.nodup_cons.mpr ⟨np, k2.2.1⟩,
   fun env Q Q' k q => s.mono env _ _ (fun e q => s'.mono env _ _ (fun z q => mono_dn k q) q) q⟩
end
section
variable {C : Cfg} {Γ : List Mo} {ta : TE} {A : Kd} {m : X1}
end
end Pu
set_option Elab.async false
set_option linter.all false
set_option maxRecDepth 100000
namespace Pu
open PySem PySem.Spec PyProof.Rows L2
section
variable {C : Cfg} {Γ Γ' Γl Γ1 Γ2 : List Mo} {σ : L2.St} {H : Hp} {env : PEnv} {Fs : Nat → List Addr} {d : D} {te : TE} {A : Kd} {m : X1} {K : PySem.W.Frag} {CT : RT}
def sSetMv (i j : Nat) : XS := fun E env => xVar j env fun d => E.nx (env.set i (some d))
instance {i j : Nat} : MS (sSetMv i j) := ⟨fun p q => mono_var _ _ _ (fun d q => p.1 _ q) q⟩
theorem sim_setMv {i j : Nat} (fr : Free C i) (gj : Γ[j]? = some .o) (ne : i ≠ j) (hi : i < Γ.length) : SimS C Γl Γ ((Γ.set j .x).set i .o) (tAsg (tVar j) (gName i)) (sSetMv i j) :=
  ⟨fun σ H env Fs D E I lk hh => by
    obtain ⟨v, d, j1, j2, j3⟩ := I.val j _ gj (.inl rfl)
    have hh : xVar j env _ := hh
    unfold xVar at hh
    rw [j2] at hh
    have I2 : Ok C (Γ.set j .x) σ H env Fs := I.weak (wk_kill Γ j)
    have dead : ∀ b ∈ Fs j, ∀ (k : Nat) (m : Mo), (Γ.set j .x)[k]? = some m → live m → b ∉ Fs k := fun b hb k m gk l hb' => by
      by_cases e : j = k
      · subst e
        rw [List.getElem?_set_self (List.getElem?_eq_some_iff.mp gj).1] at gk
        cases gk
        rcases l with l | l <;> cases l
      · rw [List.getElem?_set_ne e] at gk
        exact I.dj j k m gj gk l e b hb hb'
    refine ⟨v, j1, lk.nx _ H _ (setF Fs i (Fs j)) (I2.setA fr (.inl rfl) (by rw [List.length_set]; exact hi) j3 (I.nq j _ gj (.inl rfl)) (fun b hb k gk _ => dead b hb k _ gk (.inl rfl)) fun _ => ⟨I.nd j gj, fun b hb k m gk l _ => dead b hb k m gk l⟩) ⟨Fr.refl, fun k gk b hb => ?_⟩ hh⟩
    rcases get_set gk with ⟨rfl, _, _⟩ | ⟨nk, gk⟩
    · rw [setF_same] at hb
      exact .inl ⟨j, gj, hb⟩
    · rw [setF_ne nk] at hb
      rcases get_set gk with ⟨_, e, _⟩ | ⟨_, gk⟩
      · cases e
      · exact .inl ⟨k, gk, hb⟩,
   fun E E' env p q => mono_var _ _ _ (fun d q => p.1 _ q) q⟩
theorem w_setMv {i j : Nat} {E : PEnds} : sSetMv i j E env = xVar j env fun d => E.nx (env.set i (some d)) := rfl
end
end Pu
set_option Elab.async false
set_option linter.all false
set_option maxRecDepth 100000
namespace Pu
open PySem PySem.Spec PyProof.Rows L2
end Pu
set_option Elab.async false
set_option linter.all false
set_option maxRecDepth 100000
namespace Pu
open PySem PySem.Spec PyProof.Rows L2
section
variable {CT : RT} {K : PySem.W.Frag}
end
end Pu
set_option Elab.async false
set_option linter.all false
set_option maxRecDepth 100000
set_option synthInstance.maxHeartbeats 0
set_option synthInstance.maxSize 100000
namespace Pu
open PySem PySem.Spec PyProof.Rows L2
end Pu
set_option Elab.async false
set_option linter.all false
set_option maxRecDepth 100000
namespace Pu
open PySem PySem.Spec PyProof.Rows L2
section
variable {C : Cfg} {Γ : List Mo} {ta tb : TE} {m n : X1} {K : PySem.W.Frag} {A B : Kd}
end
end Pu
set_option Elab.async false
set_option linter.all false
set_option maxRecDepth 100000
namespace PuN
open PySem PySem.Spec PyProof.Rows L2
open Sem (wp)
def mergeE (acc rest : List En) : List En := rest.foldl (fun a q => putE a q.1 q.2.1 q.2.2) acc
def SeqKept (h h' : Heap) : Prop := ∀ a o vs n, h.get? a = some o → o.data = .seq vs n → h'.get? a = some o
theorem SeqKept.trans {h h1 h2 : Heap} (a : SeqKept h h1) (b : SeqKept h1 h2) : SeqKept h h2 := fun x o vs n e d => b x o vs n (a x o vs n e d) d
theorem KeyAt.later {h h' : Heap} {k : NestedKey} {v : Value} (x : KeyAt h k v) (s : SeqKept h h') : KeyAt h' k v := ⟨x.1.at s, x.2.1, x.2.2⟩
theorem Keyed.later {h h' : Heap} {xs : List En} (x : Keyed h xs) (s : SeqKept h h') : Keyed h' xs := ⟨x.1, fun y hy => (x.2 y hy).later s⟩
section
variable {prog : Program} {w : World} {A : Around} {E : Value → Shared → Prop}
end
end PuN
set_option Elab.async false
set_option linter.all false
set_option maxRecDepth 100000
namespace Pu
open PySem PySem.Spec PyProof.Rows L2
open PuN (En DictN Keyed KeyAt mergeE)
section
variable {X : Cx} {K : PySem.W.Frag}
end
section
variable {CT : RT} {H : Hp}
end
section
variable {C : Cfg} {Γ : List Mo} {te : TE} {A : Kd} {m : X1} {K : PySem.W.Frag}
end
end Pu
set_option Elab.async false
set_option linter.all false
set_option maxRecDepth 100000
namespace Pu
open PySem PySem.Spec PyProof.Rows L2
section
variable {prog : Program} {w : World} {A : Around} {E : Value → Shared → Prop} {s : Shared}
end
end Pu
set_option Elab.async false
set_option linter.all false
set_option maxRecDepth 100000
set_option synthInstance.maxHeartbeats 0
set_option synthInstance.maxSize 100000
namespace Pu
open PySem PySem.Spec PyProof.Rows L2
end Pu
set_option Elab.async false
set_option linter.all false
set_option maxRecDepth 100000
namespace PuC
open PySem PySem.Spec PyProof.Rows L2 LamX NdefX
section
variable {M : Model} {A : Around} {E : Value → Shared → Prop} {s₀ s : Shared} {m cm : Str → Option Value} {env : Env} {own : List (Str × Addr)}
end
section
variable {M : Model} {s : Shared} {A : Around} {E : Value → Shared → Prop}
end
structure GScope (N ps fr : List Str) (sc : Scope) : Prop where
  kind : sc.kind = .function
  co : sc.isCoroutine = false
  gen : sc.isGenerator = false
  nd : N.Nodup
  ahead : N.take (ps.length + fr.length) = ps ++ fr
  par : ∀ x ∈ ps, sc.names.lookup x = some .local ∨ sc.names.lookup x = some .cell
  fre : ∀ y ∈ sc.names, y.2 = .free → y.1 ∈ fr
  frd : ∀ x ∈ fr, sc.names.lookup x = some .free
  own : ∀ y ∈ sc.names, y.2 = .cell → sc.names.lookup y.1 = some .cell
section
variable {CX : CXT} {P : Program} {w : World} {K : PySem.W.Frag} {mg : Str → Option Value} {base : Heap} {N ps fr : List Str} {F : NF} {f : Addr} {A : Around} {outer : List Env} {s t1 : Shared} {H : Hp} {E : XK} {us : List Value} {vs : List V} {ws : List (Option V)}
end
def ftOf (st : Stmt) (name qual : Str) (fr : List Str) : FT := ⟨fun f cl c' => FnO f (NF.of st name qual cl c'), qual, fr⟩
end PuC
set_option Elab.async false
set_option linter.all false
set_option maxRecDepth 100000
namespace PuC
open PySem PySem.Spec PyProof.Rows L2 LamX NdefX
section
variable {X : Cx} {H : Hp} {s : Shared} {pins : List (Addr × Obj)} {σ : L2.St}
end
end PuC
set_option Elab.async false
set_option linter.all false
set_option maxRecDepth 100000
namespace Pu
open PySem PySem.Spec PyProof.Rows L2
section
variable {W : Addr → Prop} {H H' H1 H2 : Hp} {cs : List Addr} {os : Addr → Obj} {CT : RT}
def CellsT (H : Hp) (cs : List Addr) : Prop := ∀ c ∈ cs, ∃ o w, H c = some (PuC.cellX c o) ∧ o.data = .cell w
theorem CellsT.out {a : Addr} {o : HO} (x : CellsT H cs) (e : H a = some o) (n : ∀ ob w, ob.data = .cell w → o ≠ PuC.cellX a ob) : a ∉ cs := fun m => by
  obtain ⟨ob, w, e2, hd⟩ := x a m
  rw [e] at e2
  exact n ob w hd (Option.some.inj e2)
theorem not_cell_hN {a c : Addr} {xs : List NE} {ob : Obj} {w : Option Value} (hd : ob.data = .cell w) : hN a xs ≠ PuC.cellX c ob := fun e => by
  have := im_hN (a := a) (xs := xs)
  rw [e, im_cell hd] at this
  cases this
theorem CloAt.untr {n : Nat} {f c' : Addr} {cl : List (Str × Addr)} {ws : List V} (x : PuC.CloAt (CT.fn n) H f cl c' ws) (hc : CellsT H cs) (nc : ∀ c ∈ cs, c ∉ cl.map (·.2)) : PuC.CloAt (CT.fn n) (PuC.untr H cs) f cl c' ws := by
  refine ⟨?_, ?_, x.nm, x.nn, x.nd, x.len, fun i c v e1 e2 => ?_⟩
  · rw [PuC.untr_out (hc.out x.hf fun ob w hd => cell_not hd (.inl (CT.ok n f cl c')))]; exact x.hf
  · rw [PuC.untr_out (hc.out x.hc fun ob w hd => cell_not hd (.inr ⟨_, _, rfl⟩))]; exact x.hc
  · obtain ⟨o, u, h1, h2, h3⟩ := x.cw i c v e1 e2
    exact ⟨o, u, by rw [PuC.untr_out fun m => nc c m (List.mem_of_getElem? e1)]; exact h1, h2, h3⟩
mutual
theorem Rp.untr (hc : CellsT H cs) : ∀ {v : V} {d : D} {F : List Addr}, Rp CT H v d F → (∀ c ∈ cs, c ∉ F) → Rp CT (PuC.untr H cs) v d F
  | _, _, _, .non, _ => .non
  | _, _, _, .bl b, _ => .bl b
  | _, _, _, .int b, _ => .int b
  | _, _, _, .str b, _ => .str b
  | _, _, _, .tup h r, n => .tup (by rw [PuC.untr_out (hc.out h fun _ _ _ => fun z => nomatch z)]; exact h) (Rps.untr hc r n)
  | _, _, _, .lst h r, n => .lst (by rw [PuC.untr_out (hc.out h fun _ _ _ => fun z => nomatch z)]; exact h) (Rps.untr hc r fun c m z => n c m (List.mem_cons_of_mem _ z))
  | _, _, _, .dK h k r, n => .dK (by rw [PuC.untr_out (hc.out h fun _ _ _ => fun z => nomatch z)]; exact h) k (Rps.untr hc r fun c m z => n c m (List.mem_cons_of_mem _ z))
  | _, _, _, .dT h k r, n => .dT (by rw [PuC.untr_out (hc.out h fun _ _ _ => fun z => nomatch z)]; exact h) k (Rps.untr hc r fun c m z => n c m (List.mem_cons_of_mem _ z))
  | _, _, _, .obj h k r, n => .obj (by rw [PuC.untr_out (hc.out h fun _ _ _ => fun z => nomatch z)]; exact h) k (Rps.untr hc r fun c m z => n c m (List.mem_cons_of_mem _ z))
  | _, _, _, .fz h z k r, n => .fz (by rw [PuC.untr_out (hc.out h fun _ _ _ => fun z => nomatch z)]; exact h) z k (Rps.untr hc r n)
  | _, _, _, .dN h k z r1 r, n => .dN (by rw [PuC.untr_out (hc.out h fun _ _ hd => not_cell_hN hd)]; exact h) k z (Rps.untr hc r1 fun _ _ z => nomatch z) (Rps.untr hc r fun c m z => n c m (List.mem_cons_of_mem _ z))
  | _, _, _, .clo x r nc, n => .clo (CloAt.untr x hc fun c m z => n c m (List.mem_append_left _ z)) (Rps.untr hc r fun c m z => n c m (List.mem_append_right _ z)) nc
theorem Rps.untr (hc : CellsT H cs) : ∀ {vs : List V} {ds : List D} {F : List Addr}, Rps CT H vs ds F → (∀ c ∈ cs, c ∉ F) → Rps CT (PuC.untr H cs) vs ds F
  | _, _, _, .nil, _ => .nil
  | _, _, _, .cons h r, n => .cons (Rp.untr hc h fun c m z => n c m (List.mem_append_left _ z)) (Rps.untr hc r fun c m z => n c m (List.mem_append_right _ z))
end
end
end Pu
set_option Elab.async false
set_option linter.all false
set_option maxRecDepth 100000
namespace Pu
open PySem PySem.Spec PyProof.Rows L2
section
variable {C : Cfg} {Γ Γ' Γn Γl Γo Γt Γe Γ1 Γ2 : List Mo} {σ σ' : L2.St} {H H' H1 H2 : Hp} {env env' : PEnv} {Fs Fs' Fs1 Fs2 : Nat → List Addr} {v : V} {vs : List V} {d : D} {ds : List D} {F G : List Addr} {A B : Kd} {S : Stat} {cs : List Addr} {os : Addr → Obj}
end
end Pu
set_option Elab.async false
set_option linter.all false
set_option maxRecDepth 100000
namespace Pu
open PySem PySem.Spec PyProof.Rows L2
structure CloF (C : Cfg) (g : Str → Addr) (ys : List Str) (js : List Nat) (j n : Nat) (js' : List Nat) : Prop where
  ex : ∃ f c', (j, V.ref f) ∈ C.pin ∧ FX.fn f ((C.CT.fn n).ho f ((C.CT.fn n).fr.map fun y => (y, g y)) c') ∈ C.fns ∧ FX.fn c' (LamX.CodeO c' (C.CT.fn n).qn) ∈ C.fns
  nn : (C.CT.fn n).fr.Nodup
  len : js'.length = (C.CT.fn n).fr.length
  sub : ∀ p ∈ (C.CT.fn n).fr.zip js', p ∈ ys.zip js
theorem CloF.pair {C : Cfg} {g : Str → Addr} {ys : List Str} {js : List Nat} {j n : Nat} {js' : List Nat} (cf : CloF C g ys js j n js') {i : Nat} {y : Str} (h : (C.CT.fn n).fr[i]? = some y) : ∃ (k' k : Nat), js'[i]? = some k' ∧ ys[k]? = some y ∧ js[k]? = some k' := by
  have hl := (List.getElem?_eq_some_iff.mp h).1
  have len := cf.len
  have hl2 : i < js'.length := by omega
  have hj : js'[i]? = some js'[i] := List.getElem?_eq_getElem hl2
  have hm := cf.sub (y, js'[i]) (List.mem_iff_getElem?.mpr ⟨i, by rw [List.getElem?_zip_eq_some]; exact ⟨h, hj⟩⟩)
  obtain ⟨k, hk⟩ := List.mem_iff_getElem?.mp hm
  rw [List.getElem?_zip_eq_some] at hk
  exact ⟨_, k, hj, hk.1, hk.2⟩
section
variable {C : Cfg} {Γ Γ' Γn Γl Γo Γt Γe Γ1 Γ2 : List Mo} {σ σ' : L2.St} {H H' H1 H2 : Hp} {env env' : PEnv} {Fs Fs' Fs1 Fs2 : Nat → List Addr} {v : V} {vs : List V} {d : D} {ds : List D} {F G : List Addr} {A B : Kd} {S : Stat} {cs : List Addr} {os : Addr → Obj} {g : Str → Addr} {ys : List Str} {js : List Nat}
structure SimAC (C : Cfg) (Γ : List Mo) (cs : List Addr) (js : List Nat) (t : TA) (m : XL) : Prop where
  run : ∀ (σ : L2.St) (H : Hp) (env : PEnv) (Fs : Nat → List Addr) (Q : List V → Hp → Prop), Ok C Γ σ H env Fs →
    m env (fun ds => ∀ vs H', Fr (Wq C) H H' → DiceOk C H' → (∀ os : Addr → Obj, (∀ c ∈ cs, H' c = none) → cs.Nodup → PuC.CellsW os cs (js.map (NdefX.slotAt σ)) → (∀ c ∈ cs, ∃ w, (os c).data = .cell w) → ∃ F, Rps C.CT (PuC.trk H' cs os) vs ds F ∧ NoQ C F) → Q vs H') → t σ H Q
  mono : Mono m
end
end Pu
set_option Elab.async false
set_option linter.all false
set_option maxRecDepth 100000
namespace Pu
open PySem PySem.Spec PyProof.Rows L2
section
variable {C : Cfg} {Γ Γ' Γn Γl Γo Γt Γe Γ1 Γ2 : List Mo} {σ σ' : L2.St} {H H' H1 H2 : Hp} {env env' : PEnv} {Fs Fs' Fs1 Fs2 : Nat → List Addr} {v : V} {vs : List V} {d : D} {ds : List D} {F G : List Addr} {A B : Kd} {S : Stat} {cs : List Addr} {os : Addr → Obj} {g : Str → Addr} {ys : List Str} {js : List Nat}
end
end Pu
set_option Elab.async false
set_option linter.all false
set_option maxRecDepth 100000
namespace Pu
open PySem PySem.Spec PyProof.Rows L2
abbrev FTab := List (Nat × Nat × XF)
def tabOf (tb : FTab) (n : Nat) : Nat × XF := (tb.lookup n).getD (0, fun _ _ => False)
class MFT (tb : FTab) : Prop where
  mono : ∀ n, MonoF (tabOf tb n).2
instance : MFT [] := ⟨fun _ _ _ _ _ q => q⟩
instance {n k : Nat} {m : XF} {tb : FTab} [h : MF m] [t : MFT tb] : MFT ((n, k, m) :: tb) := ⟨fun i => by
  unfold tabOf
  rw [List.lookup_cons]
  by_cases e : (i == n) = true
  · rw [e]; exact h.mono
  · rw [Bool.not_eq_true] at e
    rw [e]; exact t.mono i⟩
structure NDef where
  st : Stmt
  name : Str
  qual : Str
  fr : List Str
def NDef.ft (d : NDef) : PuC.FT := PuC.ftOf d.st d.name d.qual d.fr
def noDef : NDef := ⟨.Pass ⟨0, 0, 0, 0⟩, "", "", []⟩
def rtOf (ct : Nat → Addr) (l : List (Nat × NDef)) : RT := ⟨ct, fun n => ((l.lookup n).getD noDef).ft, fun n f cl c => ⟨_, _, rfl⟩⟩
section
variable {C : Cfg} {Γ : List Mo} {t : TA} {A : Kd} {r : XL} {S : Stat} {i : Nat} {mo : Mo} {tb : FTab} {P : Program} {w : World} {K : PySem.W.Frag} {mg : Str → Option Value} {base : Heap} {k j : Nat}
end
end Pu
set_option Elab.async false
set_option linter.all false
set_option maxRecDepth 100000
namespace Pu
open PySem PySem.Spec PyProof.Rows L2
section
variable {P : Program} {w : World} {K : PySem.W.Frag} {mg : Str → Option Value} {base : Heap}
end
end Pu
set_option Elab.async false
set_option linter.all false
set_option maxRecDepth 100000
namespace Pu
open PySem PySem.Spec PyProof.Rows L2
mutual
def D.noB (ns : List Str) : D → Bool
  | .tup xs => noBL ns xs
  | .lst xs => noBL ns xs
  | .dK kvs => noBK ns kvs
  | .dT kvs => noBT ns kvs
  | .dN kvs => noBN ns kvs
  | .obj _ fs => !decide (fs.map (·.1) = ns) && noBF ns fs
  | .fz _ fs => !decide (fs.map (·.1) = ns) && noBF ns fs
  | .clo _ _ => false
  | _ => true
def noBL (ns : List Str) : List D → Bool
  | [] => true
  | d :: ds => D.noB ns d && noBL ns ds
def noBF (ns : List Str) : List (Str × D) → Bool
  | [] => true
  | (_, d) :: ds => D.noB ns d && noBF ns ds
def noBK (ns : List Str) : List (Key × D) → Bool
  | [] => true
  | (_, d) :: ds => D.noB ns d && noBK ns ds
def noBT (ns : List Str) : List (List Key × D) → Bool
  | [] => true
  | (_, d) :: ds => D.noB ns d && noBT ns ds
def noBN (ns : List Str) : List (D × D) → Bool
  | [] => true
  | (k, d) :: ds => D.noB ns k && D.noB ns d && noBN ns ds
end
theorem noBF_eq {ns : List Str} : ∀ fs : List (Str × D), noBF ns fs = noBL ns (fs.map (·.2))
  | [] => rfl
  | (_, d) :: ds => by show (D.noB ns d && noBF ns ds) = (D.noB ns d && noBL ns (ds.map (·.2))); rw [noBF_eq ds]
theorem noBK_eq {ns : List Str} : ∀ fs : List (Key × D), noBK ns fs = noBL ns (fs.map (·.2))
  | [] => rfl
  | (_, d) :: ds => by show (D.noB ns d && noBK ns ds) = (D.noB ns d && noBL ns (ds.map (·.2))); rw [noBK_eq ds]
theorem noBT_eq {ns : List Str} : ∀ fs : List (List Key × D), noBT ns fs = noBL ns (fs.map (·.2))
  | [] => rfl
  | (_, d) :: ds => by show (D.noB ns d && noBT ns ds) = (D.noB ns d && noBL ns (ds.map (·.2))); rw [noBT_eq ds]
theorem noBN_eq {ns : List Str} : ∀ fs : List (D × D), noBN ns fs = (noBL ns (fs.map (·.1)) && noBL ns (fs.map (·.2)))
  | [] => rfl
  | (k, d) :: ds => by
    show (D.noB ns k && D.noB ns d && noBN ns ds) = ((D.noB ns k && noBL ns (ds.map (·.1))) && (D.noB ns d && noBL ns (ds.map (·.2))))
    rw [noBN_eq ds]
    cases D.noB ns k <;> cases D.noB ns d <;> cases noBL ns (ds.map (·.1)) <;> rfl
section
variable {C : Cfg} {Γ Γ' Γn Γl Γo Γt Γe Γ1 Γ2 : List Mo} {σ σ' : L2.St} {H H' H1 H2 : Hp} {env env' : PEnv} {Fs Fs' Fs1 Fs2 : Nat → List Addr} {v : V} {vs : List V} {d : D} {ds : List D} {F G : List Addr} {ta te1 te2 : TE} {A B : Kd} {m1 m2 : X1} {K : PySem.W.Frag} {CT : RT} {S : Stat} {ns : List Str} {x : Addr}
structure Ox (ns : List Str) (x : Addr) (H H' : Hp) : Prop where
  at_ : ∃ c dx fs, H x = some (.ins c dx fs) ∧ fs.map (·.1) = ns
  keep : ∀ a o, a ≠ x → H a = some o → H' a = some o
mutual
theorem Rp.ox (k : Ox ns x H H') : ∀ {v : V} {d : D} {F : List Addr}, Rp CT H v d F → D.noB ns d = true → Rp CT H' v d F
  | _, _, _, .non, _ => .non
  | _, _, _, .bl b, _ => .bl b
  | _, _, _, .int b, _ => .int b
  | _, _, _, .str b, _ => .str b
  | _, _, _, .tup h r, n => .tup (k.keep _ _ (fun z => by obtain ⟨c, dx, fs, e, _⟩ := k.at_; rw [z, e] at h; cases h) h) (Rps.ox k r n)
  | _, _, _, .lst h r, n => .lst (k.keep _ _ (fun z => by obtain ⟨c, dx, fs, e, _⟩ := k.at_; rw [z, e] at h; cases h) h) (Rps.ox k r n)
  | _, _, _, .dK (kds := kds) h e r, n => .dK (k.keep _ _ (fun z => by obtain ⟨c, dx, fs, e, _⟩ := k.at_; rw [z, e] at h; cases h) h) e (Rps.ox k r (by rw [← noBK_eq]; exact n))
  | _, _, _, .dT (kds := kds) h e r, n => .dT (k.keep _ _ (fun z => by obtain ⟨c, dx, fs, e, _⟩ := k.at_; rw [z, e] at h; cases h) h) e (Rps.ox k r (by rw [← noBT_eq]; exact n))
  | _, _, _, .obj (gs := gs) h e r, n => by
    have n : (!decide (gs.map (·.1) = ns) && noBF ns gs) = true := n
    simp only [Bool.and_eq_true, Bool.not_eq_true', decide_eq_false_iff_not] at n
    exact .obj (k.keep _ _ (fun z => by obtain ⟨c, dx, fs, e2, e3⟩ := k.at_; rw [z, e2] at h; cases h; exact n.1 (e ▸ e3)) h) e (Rps.ox k r (by rw [← noBF_eq]; exact n.2))
  | _, _, _, .fz (gs := gs) h z e r, n => by
    have n : (!decide (gs.map (·.1) = ns) && noBF ns gs) = true := n
    simp only [Bool.and_eq_true, Bool.not_eq_true', decide_eq_false_iff_not] at n
    exact .fz (k.keep _ _ (fun z => by obtain ⟨c, dx, fs, e2, e3⟩ := k.at_; rw [z, e2] at h; cases h; exact n.1 (e ▸ e3)) h) z e (Rps.ox k r (by rw [← noBF_eq]; exact n.2))
  | _, _, _, .dN (kds := kds) h e z r1 r, n => by
    have n : noBN ns kds = true := n
    rw [noBN_eq, Bool.and_eq_true] at n
    exact .dN (k.keep _ _ (fun z => by obtain ⟨c, dx, fs, e, _⟩ := k.at_; rw [z, e] at h; cases h) h) e z (Rps.ox k r1 n.1) (Rps.ox k r n.2)
  | _, _, _, .clo _ _ _, n => by cases n
theorem Rps.ox (k : Ox ns x H H') : ∀ {vs : List V} {ds : List D} {F : List Addr}, Rps CT H vs ds F → noBL ns ds = true → Rps CT H' vs ds F
  | _, _, _, .nil, _ => .nil
  | _, _, _, .cons h r, n => by
    have n : (D.noB ns _ && noBL ns _) = true := n
    rw [Bool.and_eq_true] at n
    exact .cons (Rp.ox k h n.1) (Rps.ox k r n.2)
end
end
end Pu
set_option Elab.async false
set_option linter.all false
set_option maxRecDepth 100000
namespace PuC
open PySem PySem.Spec PyProof.Rows L2 PySem.W
section
variable {P : Program} {w : World} {A : Around} {Er : Value → Shared → Prop} {s : Shared} {a b : Value} {Z : Value → Shared → Prop}
end
end PuC
namespace Pu
open PySem PySem.Spec PyProof.Rows L2
end Pu
set_option Elab.async false
set_option linter.all false
set_option maxRecDepth 100000
namespace Pu
open PySem PySem.Spec PyProof.Rows L2
section
variable {C : Cfg} {Γ Γ' Γn Γl Γo Γt Γe Γ1 Γ2 Γf Γu : List Mo} {σ σ' : L2.St} {H H' H1 H2 : Hp} {env env' : PEnv} {Fs Fs' Fs1 Fs2 : Nat → List Addr} {v : V} {vs : List V} {d : D} {ds : List D} {F G : List Addr} {ta tb te : TE} {A B : Kd} {m n : X1} {K : PySem.W.Frag} {CT : RT} {i : Nat} {a : Addr} {u : HO} {od : Obj} {S : Stat} {pm : List Bool}
end
end Pu
set_option Elab.async false
set_option linter.all false
set_option maxRecDepth 100000
namespace Pu
open PySem PySem.Spec PyProof.Rows L2
structure WkX (wi : TE → TI) (sel : D → Option (List D)) : Prop where
  run : ∀ {CT : RT} {H : Hp} {v : V} {d : D} {F : List Addr} {ds : List D}, Rp CT H v d F → sel d = some ds →
    ∃ (a : Addr) (u : HO), v = .ref a ∧ F = [a] ∧ H a = some u ∧ Im u = false ∧ Mut (some u) ∧ ∀ od : Obj, ∃ Lk : Hp → Prop, Lk (upd H a (.frz od u)) ∧
      ∀ {i : Nat} {σ : L2.St} {H1 : Hp} {R : It → Hp → Prop}, σ[i]? = some (some (.ref a)) → Lk H1 → (∀ J, Walk CT J [] Lk ds → Lk H1 → R J H1) → wi (tVar i) σ H1 R
section
variable {C : Cfg} {Γ Γ' Γn Γl Γo Γt Γe Γ1 Γ2 Γf Γu : List Mo} {σ σ' : L2.St} {H H' H1 H2 : Hp} {env env' : PEnv} {Fs Fs' Fs1 Fs2 : Nat → List Addr} {v : V} {vs : List V} {d : D} {ds : List D} {F G : List Addr} {ta tb te : TE} {A B : Kd} {m n : X1} {K : PySem.W.Frag} {CT : RT} {i : Nat} {a : Addr} {u : HO} {od : Obj}
end
end Pu
set_option Elab.async false
set_option linter.all false
set_option maxRecDepth 100000
namespace PuN
open PySem PySem.Spec PyProof.Rows
section
variable {prog : Program} {w : World} {A : Around} {E : Value → Shared → Prop} {s : Shared} {d : Addr} {xs : List En} {k : NestedKey} {key v : Value}
end
end PuN
namespace Pu
open PySem PySem.Spec PyProof.Rows L2
section
variable {C : Cfg} {Γ Γ' Γl : List Mo} {σ : L2.St} {H : Hp} {env : PEnv} {Fs : Nat → List Addr} {v : V} {vs : List V} {d : D} {ds : List D} {F G : List Addr} {ta tb tc te : TE} {A B A' : Kd} {m n p : X1} {K : PySem.W.Frag} {CT : RT}
end
end Pu
set_option Elab.async false
set_option linter.all false
set_option maxRecDepth 100000
namespace Pu
open PySem PySem.Spec PyProof.Rows L2
end Pu
set_option Elab.async false
set_option linter.all false
set_option maxRecDepth 100000
namespace Pu
open PySem PySem.Spec PyProof.Rows L2
section
variable {C : Cfg} {Γ : List Mo} {H : Hp} {vs ws : List V} {ds es : List D} {F G : List Addr} {CT : RT} {K : PySem.W.Frag} {A : Kd}
end
end Pu
set_option Elab.async false
set_option linter.all false
set_option maxRecDepth 100000
set_option synthInstance.maxHeartbeats 0
set_option synthInstance.maxSize 100000
namespace Pu
open PySem PySem.Spec PyProof.Rows L2
end Pu
set_option Elab.async false
set_option linter.all false
set_option maxRecDepth 100000
set_option synthInstance.maxHeartbeats 0
set_option synthInstance.maxSize 100000
namespace Pu
open PySem PySem.Spec PyProof.Rows L2
end Pu
set_option Elab.async false
set_option linter.all false
set_option maxRecDepth 100000
namespace Pu
open PySem PySem.Spec PyProof.Rows L2
section
variable {C : Cfg} {Γ : List Mo} {σ : L2.St} {H : Hp} {env : PEnv} {Fs : Nat → List Addr} {K : PySem.W.Frag}
end
end Pu
set_option Elab.async false
set_option linter.all false
set_option maxRecDepth 100000
namespace Pu
open PySem PySem.Spec PyProof.Rows L2
section
variable {C : Cfg} {Γ : List Mo} {te : TE} {m : X1}
end
end Pu
set_option Elab.async false
set_option linter.all false
set_option maxRecDepth 100000
set_option maxHeartbeats 1000000
namespace Pu
open PySem PySem.Spec PyProof.Rows L2
section
variable {prog : Program} {w : World} {A : Around} {E : Value → Shared → Prop} {s : Shared} {z TI TO T i1 i2 l1 l2 : Addr} {f : Bool} {oT : Obj} {k : Nat} {xs ys : Array Value} {x y : Value}
end
end Pu
set_option Elab.async false
set_option linter.all false
set_option maxRecDepth 100000
set_option maxHeartbeats 1000000
namespace Pu
open PySem PySem.Spec PyProof.Rows L2
section
variable {prog : Program} {w : World} {A : Around} {E : Value → Shared → Prop} {s s0 : Shared} {z TI TO T i1 i2 l1 l2 S : Addr} {f : Bool} {oT : Obj} {k i : Nat} {xs ys : Array Value} {x y : Value} {Ts : List Addr} {c : Nat} {R : Result → Shared → Prop}
abbrev lsOLi (acc : Array Value) (c : Nat) : Obj := { cls := .type "list", dict := none, data := .seq acc c, slots := #[] }
structure OutLi (S bs : Addr) (xs ys : Array Value) (s : Shared) (Ts : List Addr) (c : Nat) : Prop where
  ls : s.heap.get? S = some (lsOLi (Ts.map Value.ref).toArray c)
  pw : Ts.Pairwise (· < ·)
  lt : ∀ T ∈ Ts, bs ≤ T ∧ T < s.heap.objs.size
  at' : ∀ (j : Nat) (T : Addr), Ts[j]? = some T → ∃ x y, xs[j]? = some x ∧ ys[j]? = some y ∧ IsPair s.heap T x y
structure ZsLi (z TI TO i1 i2 l1 l2 S bs : Addr) (xs ys : Array Value) (s0 s : Shared) (Ts : List Addr) (c : Nat) : Prop where
  zs : (IsZip s.heap z TI TO .none ∧ Ts = []) ∨ ∃ T f oT, IsZipHeld s.heap z TI TO T f ∧ s.heap.get? T = some oT
  ti : IsPair s.heap TI (.ref i1) (.ref i2)
  to : ∃ a b, IsPair s.heap TO a b
  a1 : s.heap.IsListIter i1 l1 Ts.length
  a2 : s.heap.IsListIter i2 l2 Ts.length
  b1 : s.heap.IsList l1 xs
  b2 : s.heap.IsList l2 ys
  out : OutLi S bs xs ys s Ts c
  kp : ∀ b o, s0.heap.get? b = some o → s.heap.get? b = some o
  sz : bs ≤ s.heap.objs.size
  eq : s = { s0 with heap := s.heap }
structure ZApartLi (z TI TO i1 i2 l1 l2 S bs : Addr) (s0 : Shared) : Prop where
  D : ZipApart z TI TO i1 i2 l1 l2
  ge : ∀ b ∈ [z, TI, TO, i1, i2, S], s0.heap.objs.size ≤ b ∧ b < bs
  lt : ∀ b ∈ [l1, l2], b < s0.heap.objs.size
  ne : S ≠ z ∧ S ≠ TI ∧ S ≠ TO ∧ S ≠ i1 ∧ S ≠ i2
theorem ZsLi.push {bs : Addr} (ap : ZApartLi z TI TO i1 i2 l1 l2 S bs s0) (q : ZsLi z TI TO i1 i2 l1 l2 S bs xs ys s0 s Ts c) {h' : Heap} {T0 : Addr} {f0 : Bool} (hx : xs[Ts.length]? = some x) (hy : ys[Ts.length]? = some y)
    (az : IsZipHeld h' z TI TO T0 f0) (aT : ∃ oT, h'.get? T0 = some oT) (to : ∃ a b, IsPair h' TO a b) (a1 : h'.IsListIter i1 l1 (Ts.length + 1)) (a2 : h'.IsListIter i2 l2 (Ts.length + 1)) (pr : IsPair h' s.heap.objs.size x y) (hsz : h'.objs.size = s.heap.objs.size + 1)
    (kp : ∀ c o, c ≠ z → c ≠ TO → c ≠ i1 → c ≠ i2 → s.heap.get? c = some o → h'.get? c = some o) :
    ∃ c', ZsLi z TI TO i1 i2 l1 l2 S bs xs ys s0 { s with heap := h'.update S (Obj.mapSeq (·.push (.ref s.heap.objs.size))) } (Ts ++ [s.heap.objs.size]) c' := by
  obtain ⟨n1, n2, n3, n4, n5⟩ := ap.ne
  have gS : h'.get? S = some (lsOLi (Ts.map Value.ref).toArray c) := kp _ _ n1 n3 n4 n5 q.out.ls
  have hS := Heap.get?_update_self (Obj.mapSeq (·.push (Value.ref s.heap.objs.size))) gS rfl
  have up : ∀ b o, b ≠ S → h'.get? b = some o → (h'.update S (Obj.mapSeq (·.push (Value.ref s.heap.objs.size)))).get? b = some o := fun b o hb e => (Heap.get?_update_other _ _ (Ne.symm hb)).trans e
  have ltS : S < s.heap.objs.size := Heap.lt_size q.out.ls
  have usz : (h'.update S (Obj.mapSeq (·.push (Value.ref s.heap.objs.size)))).objs.size = s.heap.objs.size + 1 := by rw [← hsz]; exact Heap.size_update ..
  have old : ∀ b o, b ∉ [z, TI, TO, i1, i2, S] → s.heap.get? b = some o → (h'.update S (Obj.mapSeq (·.push (Value.ref s.heap.objs.size)))).get? b = some o := fun b o hb e => by
    simp only [List.mem_cons, List.not_mem_nil, or_false, not_or] at hb
    exact up b o hb.2.2.2.2.2 (kp b o hb.1 hb.2.2.1 hb.2.2.2.1 hb.2.2.2.2.1 e)
  have low : ∀ b, b < s0.heap.objs.size → b ∉ [z, TI, TO, i1, i2, S] := fun b hb m => absurd (ap.ge b m).1 (Nat.not_le_of_lt hb)
  have high : ∀ b, bs ≤ b → b ∉ [z, TI, TO, i1, i2, S] := fun b hb m => absurd (ap.ge b m).2 (Nat.not_lt_of_le hb)
  have l1 := low _ (ap.lt l1 (by simp))
  have l2 := low _ (ap.lt l2 (by simp))
  have em : ∃ c', Obj.mapSeq (·.push (Value.ref s.heap.objs.size)) (lsOLi (Ts.map Value.ref).toArray c) = lsOLi ((Ts ++ [s.heap.objs.size]).map Value.ref).toArray c' := ⟨_, by rw [List.map_append, List.map_singleton, ← List.push_toArray]; rfl⟩
  obtain ⟨c', em⟩ := em
  refine ⟨c', .inr ?_, up _ _ n2.symm (kp _ _ ap.D.TIz ap.D.TITO ap.D.TIi1 ap.D.TIi2 q.ti), ?_, ?_, ?_, ?_, ?_, ⟨hS.trans ?_, ?_, ?_, ?_⟩, fun b o e => old b o (low b (Heap.lt_size e)) (q.kp b o e), ?_, ?_⟩
  · obtain ⟨oT, eT⟩ := aT
    by_cases e : T0 = S
    · exact ⟨T0, f0, _, up _ _ n1.symm az, by rw [e]; exact hS⟩
    · exact ⟨T0, f0, oT, up _ _ n1.symm az, up _ _ e eT⟩
  · obtain ⟨a, b, e⟩ := to
    exact ⟨a, b, up _ _ n3.symm e⟩
  · rw [List.length_append]; exact a1.at fun o e => up _ o n4.symm e
  · rw [List.length_append]; exact a2.at fun o e => up _ o n5.symm e
  · obtain ⟨o, e, r⟩ := q.b1
    exact ⟨o, old _ o l1 e, r⟩
  · obtain ⟨o, e, r⟩ := q.b2
    exact ⟨o, old _ o l2 e, r⟩
  · rw [em]
  · exact List.pairwise_append.mpr ⟨q.out.pw, List.pairwise_singleton _ _, fun a ha b hb => by rw [List.mem_singleton.mp hb]; exact (q.out.lt a ha).2⟩
  · intro T hT
    show bs ≤ T ∧ T < (h'.update S _).objs.size
    rw [usz]
    rcases List.mem_append.mp hT with m | m
    · have := q.out.lt T m
      exact ⟨this.1, Nat.lt_succ_of_lt this.2⟩
    · rw [List.mem_singleton.mp m]
      exact ⟨q.sz, Nat.lt_succ_self _⟩
  · intro j T hT
    by_cases hj : j < Ts.length
    · rw [List.getElem?_append_left hj] at hT
      obtain ⟨x, y, e1, e2, e3⟩ := q.out.at' j T hT
      exact ⟨x, y, e1, e2, old _ _ (high T (q.out.lt T (List.mem_of_getElem? hT)).1) e3⟩
    · rw [List.getElem?_append_right (by omega)] at hT
      have ej : j = Ts.length := by
        have := (List.getElem?_eq_some_iff.mp hT).1
        simp at this
        omega
      subst ej
      rw [Nat.sub_self] at hT
      cases hT
      exact ⟨x, y, hx, hy, up _ _ (Nat.ne_of_gt ltS) pr⟩
  · show bs ≤ (h'.update S _).objs.size
    rw [usz]
    exact Nat.le_succ_of_le q.sz
  · show _ = _
    rw [q.eq]
end
end Pu
set_option Elab.async false
set_option linter.all false
set_option maxRecDepth 100000
set_option maxHeartbeats 1000000
namespace Pu
open PySem PySem.Spec PyProof.Rows L2
section
variable {prog : Program} {w : World} {A : Around} {E : Value → Shared → Prop} {s s0 : Shared} {z TI TO T i1 i2 l1 l2 S bs : Addr} {f : Bool} {oT : Obj} {k i : Nat} {xs ys : Array Value} {x y : Value} {Ts : List Addr} {c : Nat} {R : Result → Shared → Prop} {res : Value}
end
end Pu
set_option Elab.async false
set_option linter.all false
set_option maxRecDepth 100000
set_option maxHeartbeats 1000000
namespace Pu
open PySem PySem.Spec PyProof.Rows L2
end Pu
set_option Elab.async false
set_option linter.all false
set_option maxRecDepth 100000
namespace Pu
open PySem PySem.Spec PyProof.Rows L2
section
variable {C : Cfg} {Γ Γ' Γn Γl Γo Γt Γe Γ1 Γ2 Γf Γu : List Mo} {σ σ' : L2.St} {H H' H1 H2 : Hp} {env env' : PEnv} {Fs Fs' Fs1 Fs2 : Nat → List Addr} {v : V} {vs : List V} {d : D} {ds : List D} {F G : List Addr} {ta tb te : TE} {A B : Kd} {m n : X1} {K : PySem.W.Frag} {CT : RT}
end
end Pu
set_option Elab.async false
set_option linter.all false
set_option maxRecDepth 100000
namespace Pu
open PySem PySem.Spec PyProof.Rows L2
section
variable {C : Cfg} {Γ : List Mo} {te : TE} {A : Kd} {m : X1} {K : PySem.W.Frag}
end
end Pu
set_option Elab.async false
set_option linter.all false
set_option maxRecDepth 100000
set_option synthInstance.maxHeartbeats 0
set_option synthInstance.maxSize 100000
namespace Pu
open PySem PySem.Spec PyProof.Rows L2
end Pu
set_option Elab.async false
set_option linter.all false
set_option maxRecDepth 100000
namespace PuSN
open PySem PySem.Spec PyProof.Rows SrtO
open HT (lexLt)
section
variable {prog : Program} {w : World} {A : Around} {E : Value → Shared → Prop} {s : Shared}
def PairIs (h : Heap) (v : Value) (ns : List Int) : Prop := ∃ a n t b ms, v = .ref a ∧ IsTup h a #[.int n t, .ref b] ∧ TS.TupInts h (.ref b) ms ∧ ns = n :: ms
theorem PairIs.keeps {h h' : Heap} {v : Value} {ns : List Int} (p : PairIs h v ns) (k : ∀ b o, h.get? b = some o → o.cls = .type "tuple" → h'.get? b = some o) : PairIs h' v ns := by
  obtain ⟨a, n, t, b, ms, e, ⟨o, ho, hc, hd⟩, ti, ek⟩ := p
  exact ⟨a, n, t, b, ms, e, ⟨o, k a o ho hc, hc, hd⟩, ti.keeps fun b o e c => k b o e c, ek⟩
end
end PuSN
namespace Pu
open PySem PySem.Spec PyProof.Rows L2
section
variable {CT : RT} {H : Hp} {vs : List V} {F : List Addr} {K : PySem.W.Frag}
end
end Pu
set_option Elab.async false
set_option linter.all false
set_option maxRecDepth 100000
namespace Pu
open PySem PySem.Spec PyProof.Rows L2
section
variable {X : Cx}
end
section
variable {C : Cfg} {Γ : List Mo} {K : PySem.W.Frag} {te : TE} {A : Kd} {m : X1}
end
end Pu
set_option Elab.async false
set_option linter.all false
set_option maxRecDepth 100000
set_option synthInstance.maxHeartbeats 0
set_option synthInstance.maxSize 100000
namespace Pu
open PySem PySem.Spec PyProof.Rows L2
end Pu
set_option Elab.async false
set_option linter.all false
set_option maxRecDepth 100000
namespace Pu
open PySem PySem.Spec PyProof.Rows L2
section
variable {C : Cfg} {Γ Γl Γo Γ1 : List Mo} {σ : L2.St} {H : Hp} {env : PEnv} {Fs : Nat → List Addr} {t : TS} {m : XS} {i : Nat} {js : List Nat}
end
end Pu
set_option Elab.async false
set_option linter.all false
set_option maxRecDepth 100000
namespace Pu
open PySem PySem.Spec PyProof.Rows L2
section
variable {C : Cfg} {Γ Γl Γo Γ1 : List Mo} {σ : L2.St} {H : Hp} {env : PEnv} {Fs : Nat → List Addr} {t : TS} {m : XS} {i k : Nat} {js : List Nat}
end
end Pu
set_option Elab.async false
set_option linter.all false
set_option maxRecDepth 100000
set_option synthInstance.maxHeartbeats 0
set_option synthInstance.maxSize 100000
namespace Pu
open PySem PySem.Spec PyProof.Rows L2
end Pu
set_option Elab.async false
set_option linter.all false
set_option maxRecDepth 100000
namespace Pu
open PySem PySem.Spec PyProof.Rows L2
def rInT (neg : Bool) (K : PySem.W.Frag) : R2 := fun x y H Q => ∃ d ds, Dp K H x d ∧ Dp K H y (.tuple ds) ∧ SeqAt.shaped d = true ∧ SeqAt.shaped (.tuple ds) = true ∧ Q (.bl (xor neg (ds.any fun z => z.eqv d))) H
theorem op_inT {X : Cx} (hu : X.A.units + 65 < cLine) : OpR X (compareOp .In) (rInT false X.K) := by
  intro pins s σ H x y v u Q I rx ry h
  obtain ⟨d, ds, hx, hy, s1, s2, q⟩ := h
  obtain ⟨as, r1⟩ := Dp.reads I d x v hx rx
  obtain ⟨bs, r2⟩ := Dp.reads I (.tuple ds) y u hy ry
  have c2 := SeqAt.canLay_of_shaped s2
  have d1 := SeqAt.depth_of_shaped s1
  refine SeqAt.in_tuple_reads r2 r1 (by simpa [PyData.canLay0] using c2) (SeqAt.canLay_of_shaped s1) (by omega) ?_
  rw [Bool.false_xor] at q
  exact ⟨.bl (ds.any fun z => z.eqv d), H, I, rfl, q⟩
theorem op_notInT {X : Cx} (hu : X.A.units + 65 < cLine) : OpR X (compareOp .NotIn) (rInT true X.K) := by
  intro pins s σ H x y v u Q I rx ry h
  obtain ⟨d, ds, hx, hy, s1, s2, q⟩ := h
  obtain ⟨as, r1⟩ := Dp.reads I d x v hx rx
  obtain ⟨bs, r2⟩ := Dp.reads I (.tuple ds) y u hy ry
  have c2 := SeqAt.canLay_of_shaped s2
  have d1 := SeqAt.depth_of_shaped s1
  refine SeqAt.notIn_tuple_reads r2 r1 (by simpa [PyData.canLay0] using c2) (SeqAt.canLay_of_shaped s1) (by omega) ?_
  rw [Bool.true_xor] at q
  exact ⟨.bl (!(ds.any fun z => z.eqv d)), H, I, rfl, q⟩
def oInT (neg : Bool) : O2 := fun d e Q => match e with
  | .tup xs => Sh d ∧ Sh (.tup xs) ∧ Q (.bl (xor neg (xs.any fun z => D.eqb z d)))
  | _ => False
theorem mono_oInT {neg : Bool} : Mono2 (oInT neg) := fun d e Q Q' h q => by
  cases e <;> first | exact q | exact ⟨q.1, q.2.1, h _ q.2.2⟩
instance {neg : Bool} : MO2 (oInT neg) := ⟨mono_oInT⟩
theorem so_inT {CT : RT} {K : PySem.W.Frag} {neg : Bool} : SimO2 CT (rInT neg K) (oInT neg) := ⟨fun H v w d e F G Q a b q => by
  cases b with
  | tup hb rb =>
    obtain ⟨h1, h2, q⟩ := q
    refine ⟨_, _, a.dp (SeqAt.canLay_of_shaped h1), (Rp.tup hb rb).dp (SeqAt.canLay_of_shaped h2), h1, h2, ?_⟩
    rw [any_py]
    exact New.imm (CT := CT) q (.bl _)
  | _ => exact (show False from q).elim, mono_oInT⟩
theorem k_inT {X : Cx} {K : PySem.W.Frag} (h : X.K = K) (hu : X.A.units + 65 < cLine) : OpR X (compareOp .In) (rInT false K) := h ▸ op_inT hu
theorem k_notInT {X : Cx} {K : PySem.W.Frag} (h : X.K = K) (hu : X.A.units + 65 < cLine) : OpR X (compareOp .NotIn) (rInT true K) := h ▸ op_notInT hu
end Pu
set_option Elab.async false
set_option linter.all false
set_option maxRecDepth 100000
namespace Pu
open PySem PySem.Spec PyProof.Rows L2
end Pu
set_option Elab.async false
set_option linter.all false
set_option maxRecDepth 100000
set_option synthInstance.maxHeartbeats 0
set_option synthInstance.maxSize 100000
namespace Pu
open PySem PySem.Spec PyProof.Rows L2
def b_are_pairs : XS := sSeq (sIf (bOr (bNot (bTest (x1 (oIsA "tuple") (xVar 1)))) (bNot (bTest (x1 (oAny true) (xLc (mSeq (xVar 1)) (bName 4) bYes (xAnd (xCall m_is_lot (xCons (xVar 4) (xCons (xVar 0) xNil))) (x2 oEq (x1 oLenA (xVar 4)) (xC (.int 2))))))))) (sRet (xC (.bl false))) sNext) (sRet (x1 (oAny true) (xLc (mZip (xCons (xVar 1) (xCons (xSl (xVar 1) (pYes (xC (.int 1))) pNo) xNil))) (bTup 2 (bCons (bName 2) (bCons (bName 3) bNil))) bYes (x2 oLtT (xVar 2) (xVar 3)))))
def m_are_pairs : XF := fnM 5 b_are_pairs
theorem mo_are_pairs : MonoF m_are_pairs := monoF_fn (by unfold b_are_pairs; exact MS.all)
instance : MF m_are_pairs := ⟨mo_are_pairs⟩
def b_teams_of : XS := sRet (xLc (mSeq (xCall m_all_lots (xCons (xVar 0) xNil))) (bName 2) (bTest (x1 (oAny true) (xLc (mSeq (xCall m_pairs_of (xCons (xVar 2) xNil))) (bName 3) bYes (x2 (oInT false) (xVar 3) (xVar 1))))) (xImm (xVar 2)))
def m_teams_of : XF := fnM 4 b_teams_of
theorem mo_teams_of : MonoF m_teams_of := monoF_fn (by unfold b_teams_of; exact MS.all)
instance : MF m_teams_of := ⟨mo_teams_of⟩
def b_is_within_team : XS := sRet (x1 (oAny true) (xLc (mSeq (xVar 0)) (bName 2) bYes (x2 (oIn false) (xVar 2) (xVar 1))))
def m_is_within_team : XF := fnM 3 b_is_within_team
theorem mo_is_within_team : MonoF m_is_within_team := monoF_fn (by unfold b_is_within_team; exact MS.all)
instance : MF m_is_within_team := ⟨mo_is_within_team⟩
def b_covered (self : XF) : XS := sSeq (sIf (bTest (x2 oEq (x1 oLenA (xVar 0)) (xC (.int 0)))) (sRet (xLst xNil)) sNext) (sSeq (sIf (bTest (x2 oEq (xVar 2) (xC (.int 0)))) (sRet (xC .non)) sNext) (sSeq (sFor (mSeq (xVar 1)) (bName 3) (sIf (bTest (xCall m_is_within_team (xCons (x2 oIx (xVar 0) (xC (.int 0))) (xCons (xVar 3) xNil)))) (sSeq (sSet 4 (xLc (mSeq (xVar 0)) (bName 6) (bNot (bTest (xCall m_is_within_team (xCons (xVar 6) (xCons (xVar 3) xNil))))) (xImm (xVar 6)))) (sSeq (sSet 5 (xCall self (xCons (xVar 4) (xCons (xVar 1) (xCons (x2 (oI fun i j => .int (i - j)) (xVar 2) (xC (.int 1))) xNil))))) (sIf (bTest (x2 oNotN (xVar 5) (xC .non))) (sRet (x2 oAdd (xLst (xCons (xImm (xVar 3)) xNil)) (xVar 5))) sNext))) sNext)) (sRet (xC .non))))
def m_covered_n : Nat → XF
  | 0 => fun _ _ => False
  | n + 1 => fnM 7 (b_covered (m_covered_n n))
theorem mo_covered_n : ∀ n, MonoF (m_covered_n n)
  | 0 => fun _ _ _ _ q => q
  | n + 1 => by
    haveI : MF (m_covered_n n) := ⟨mo_covered_n n⟩
    exact monoF_fn (by unfold b_covered; exact MS.all)
def m_covered : XF := m_covered_n 8
theorem mo_covered : MonoF m_covered := mo_covered_n 8
instance : MF m_covered := ⟨mo_covered⟩
def b_fewest_teams : XS := sSeq (sIf (bOr (bNot (bTest (xCall m_is_below (xCons (xVar 0) (xCons (x2 oAdd (xC (.int 5)) (xC (.int 1))) xNil))))) (bTest (x2 oEq (xVar 0) (xC (.int 0))))) sNever sNext) (sSeq (sIf (bNot (bTest (xCall m_are_pairs (xCons (xVar 0) (xCons (xVar 1) xNil))))) sNever sNext) (sSeq (sSet 2 (x2 oAdd (x1 oListA (xVar 1)) (xLc (mRng1 (xVar 0)) (bName 6) bYes (xTup (xCons (xImm (xVar 6)) xNil))))) (sSeq (sSet 3 (xCall m_teams_of (xCons (xVar 0) (xCons (xVar 1) xNil)))) (sSeq (sSet 4 (xC (.int 1))) (sSeq (sSet 5 (xCall m_covered (xCons (xVar 2) (xCons (xVar 3) (xCons (xVar 4) xNil))))) (sSeq (sWhile (bTest (x2 oIsN (xVar 5) (xC .non))) (sSeq (sAug 4 oAdd1 (xC (.int 1))) (sSet 5 (xCall m_covered (xCons (xVar 2) (xCons (xVar 3) (xCons (xVar 4) xNil))))))) (sRet (xVar 5))))))))
def m_fewest_teams : XF := fnM 7 b_fewest_teams
theorem mo_fewest_teams : MonoF m_fewest_teams := monoF_fn (by unfold b_fewest_teams; exact MS.all)
instance : MF m_fewest_teams := ⟨mo_fewest_teams⟩
def b_office_for : XS := sSeq (sSet 2 (xCall m_fewest_teams (xCons (xVar 0) (xCons (xVar 1) xNil)))) (sSeq (sSet 3 (xLc (mRng1 (xVar 0)) (bName 4) bYes (x1 oTup (xLc (mEnmU (xVar 2)) (bTup 2 (bCons (bName 5) (bCons (bName 6) bNil))) (bTest (x2 (oIn false) (xVar 4) (xVar 6))) (xImm (xVar 5)))))) (sRet (xMake 3 i_Office (xCons (x1 oLenA (xVar 2)) (xCons (x1 oTup (xVar 3)) xNil)))))
def m_office_for : XF := fnM 7 b_office_for
theorem mo_office_for : MonoF m_office_for := monoF_fn (by unfold b_office_for; exact MS.all)
instance : MF m_office_for := ⟨mo_office_for⟩
def b_fewest_desks : XS := sRet (x1 oLenA (xCall m_fewest_teams (xCons (xVar 0) (xCons (xVar 1) xNil))))
def m_fewest_desks : XF := fnM 2 b_fewest_desks
theorem mo_fewest_desks : MonoF m_fewest_desks := monoF_fn (by unfold b_fewest_desks; exact MS.all)
instance : MF m_fewest_desks := ⟨mo_fewest_desks⟩
def b__law_some_pairs : XS := sSeq (sSet 2 (xLst xNil)) (sSeq (sFor (mRng1 (xVar 1)) (bName 3) (sSet 2 (x2 oAdd (xVar 2) (xLc (mRng2 (x2 oAdd (xVar 3) (xC (.int 1))) (xVar 1)) (bName 7) bYes (xTup (xCons (xImm (xVar 3)) (xCons (xImm (xVar 7)) xNil))))))) (sSeq (sSet 4 (xCall m__law_draw (xDice (xCons (xC (.int 5)) xNil)))) (sSeq (sIf (bTest (x2 oEq (xVar 4) (xC (.int 0)))) (sRet (x1 oTup (xVar 2))) sNext) (sSeq (sIf (bTest (x2 oEq (xVar 4) (xC (.int 1)))) (sRet (x1 oTup (xLc (mSeq (xVar 2)) (bName 6) (bTest (x2 oEq (x2 oIx (xVar 6) (xC (.int 1))) (x2 oAdd (x2 oIx (xVar 6) (xC (.int 0))) (xC (.int 1))))) (xImm (xVar 6))))) sNext) (sSeq (sSet 5 (x2 oIx (xLst (xCons (xC (.int 2)) (xCons (xC (.int 3)) (xCons (xC (.int 4)) xNil)))) (x2 (oI fun i j => .int (i - j)) (xVar 4) (xC (.int 2))))) (sSeq (sIf (bTest (x2 oEq (xVar 4) (xC (.int 4)))) (sRet (x1 oTup (xLc (mSeq (xVar 2)) (bName 6) (bTest (x2 (oI fun i j => .bl (decide (j < i))) (xCall m__law_draw (xDice (xCons (xVar 5) xNil))) (xC (.int 0)))) (xImm (xVar 6))))) sNext) (sRet (x1 oTup (xLc (mSeq (xVar 2)) (bName 6) (bTest (x2 oEq (xCall m__law_draw (xDice (xCons (xVar 5) xNil))) (xC (.int 0)))) (xImm (xVar 6)))))))))))
def m__law_some_pairs : XF := fnM 8 b__law_some_pairs
theorem mo__law_some_pairs : MonoF m__law_some_pairs := monoF_fn (by unfold b__law_some_pairs; exact MS.all)
instance : MF m__law_some_pairs := ⟨mo__law_some_pairs⟩
end Pu
set_option Elab.async false
set_option linter.all false
set_option maxRecDepth 100000
namespace Pu
open PySem PySem.Spec PyProof.Rows L2
end Pu
set_option Elab.async false
set_option linter.all false
namespace Pu
open PySem PySem.Spec PyProof.Rows L2
theorem so_bor {CT : RT} : SimO2 CT (rI0 fun i j => .int (Builtin.bitOr i j)) (oI fun i j => .int (Builtin.bitOr i j)) := so_I fun _ _ _ => .int _
end Pu
set_option Elab.async false
set_option linter.all false
set_option maxRecDepth 100000
set_option synthInstance.maxHeartbeats 0
set_option synthInstance.maxSize 100000
namespace Pu
open PySem PySem.Spec PyProof.Rows L2
def b__law_mixed_2 : XS := sSeq (sSet 2 (x1 oListA (xVar 1))) (sSeq (sSet 3 (xLst xNil)) (sSeq (sFor (mRng1 (x1 oLenA (xVar 1))) (bName 4) (sAppE' 3 (xPop 2 (xCall m__law_draw (xDice (xCons (x1 oLenA (xVar 2)) xNil)))))) (sRet (xVar 3))))
def m__law_mixed_2 : XF := fnM 5 b__law_mixed_2
theorem mo__law_mixed_2 : MonoF m__law_mixed_2 := monoF_fn (by unfold b__law_mixed_2; exact MS.all)
instance : MF m__law_mixed_2 := ⟨mo__law_mixed_2⟩
def b__law_crowds : XS := sSeq (sSet 2 (xLst (xCons (xTup xNil) xNil))) (sSeq (sFor (mRng1 (xVar 0)) (bName 3) (sSet 2 (x2 oAdd (xVar 2) (xLc (mSeq (xVar 2)) (bName 4) (bTest (x2 oEq (x1 oLenA (xLc (mSeq (xVar 4)) (bName 5) (bTest (x2 (oInT true) (xTup (xCons (xImm (xVar 5)) (xCons (xImm (xVar 3)) xNil))) (xVar 1))) (xImm (xVar 5)))) (xC (.int 0)))) (x2 oAdd (xVar 4) (xTup (xCons (xImm (xVar 3)) xNil))))))) (sRet (xSl (xVar 2) (pYes (xC (.int 1))) pNo)))
def m__law_crowds : XF := fnM 6 b__law_crowds
theorem mo__law_crowds : MonoF m__law_crowds := monoF_fn (by unfold b__law_crowds; exact MS.all)
instance : MF m__law_crowds := ⟨mo__law_crowds⟩
def b__law_fewest : XS := sSeq (sSet 2 (x2 oAdd (xLc (mRng1 (xVar 0)) (bName 9) bYes (xTup (xCons (xImm (xVar 9)) xNil))) (x1 oListA (xVar 1)))) (sSeq (sSet 3 (xLst xNil)) (sSeq (sFor (mSeq (xCall m__law_crowds (xCons (xVar 0) (xCons (xVar 1) xNil)))) (bName 4) (sApp 3 (x1 oSum (xLc (mRng1 (x1 oLenA (xVar 2))) (bName 10) (bTest (x2 oEq (x1 oLenA (xLc (mSeq (x2 oIx (xVar 2) (xVar 10))) (bName 11) (bTest (x2 (oIn true) (xVar 11) (xVar 4))) (xImm (xVar 11)))) (xC (.int 0)))) (x2 (oIc CPow fun i j => .int (i * 2 ^ j.toNat)) (xC (.int 1)) (xVar 10)))))) (sSeq (sSet 5 (xDispN1 (xC (.int 0)) (xC (.bl true)))) (sSeq (sFor (mRng1 (xC (.int 12))) (bName 6) (sSeq (sIf (bTest (x2 (oInN false) (x2 (oI fun i j => .int (i - j)) (x2 (oIc CPow fun i j => .int (i * 2 ^ j.toNat)) (xC (.int 1)) (x1 oLenA (xVar 2))) (xC (.int 1))) (xVar 5))) (sRet (xImm (xVar 6))) sNext) (sSeq (sSet 7 (xC (.dK []))) (sSeq (sForN selK 5 (bName 8) (sFor (mSeq (xVar 3)) (bName 4) (sPutN 7 (x2 (oI fun i j => .int (Builtin.bitOr i j)) (xVar 8) (xVar 4)) (xC (.bl true))))) (sSetMv 5 7))))) (sRet (xC .non))))))
def m__law_fewest : XF := fnM 12 b__law_fewest
theorem mo__law_fewest : MonoF m__law_fewest := monoF_fn (by unfold b__law_fewest; exact MS.all)
instance : MF m__law_fewest := ⟨mo__law_fewest⟩
def b_law_k50 : XS := sSeq (sFor (mRng1 (xC (.int 4))) (bName 2) (sSeq (sSet 3 (x2 oAdd (xC (.int 1)) (xCall m__law_draw (xDice (xCons (xC (.int 5)) xNil))))) (sSeq (sSet 4 (xCall m__law_some_pairs (xDice (xCons (xVar 3) xNil)))) (sSeq (sSet 5 (xCall m_fewest_desks (xCons (xVar 3) (xCons (xVar 4) xNil)))) (sSeq (sIf (bOr (bTest (x2 oNe (x1 oRepr (xVar 5)) (x1 oRepr (xCall m__law_fewest (xCons (xVar 3) (xCons (xVar 4) xNil)))))) (bTest (x2 (oI fun i j => .bl (decide (j < i))) (xVar 5) (xC (.int 6))))) (sRet (xC (.bl false))) sNext) (sSeq (sIf (bOr (bTest (x2 oNe (xCall m_fewest_desks (xCons (xVar 3) (xCons (xTup xNil) xNil))) (xVar 3))) (bTest (x2 oNe (x1 (atF 3 "desks") (xCall m_office_for (xCons (xVar 3) (xCons (xTup xNil) xNil)))) (xVar 3)))) (sRet (xC (.bl false))) sNext) (sSeq (sSet 6 (xLst xNil)) (sSeq (sFor (mRng1 (xVar 3)) (bName 7) (sSet 6 (x2 oAdd (xVar 6) (xLc (mRng2 (x2 oAdd (xVar 7) (xC (.int 1))) (xVar 3)) (bName 10) bYes (xTup (xCons (xImm (xVar 7)) (xCons (xImm (xVar 10)) xNil))))))) (sIf (bTest (x2 oNe (xCall m_fewest_desks (xCons (xVar 3) (xCons (x1 oTup (xVar 6)) xNil))) (xC (.int 1)))) (sRet (xC (.bl false))) sNext))))))))) (sSeq (sSet 8 (xCall m__law_mixed_2 (xDice (xCons (xLst (xCons (xC (.int 0)) (xCons (xC (.int 1)) (xCons (xC (.int 2)) (xCons (xC (.int 3)) (xCons (xC (.int 4)) xNil)))))) xNil)))) (sSeq (sSet 9 (xLst xNil)) (sSeq (sFor (mSeq (xSl (xVar 8) pNo (pYes (xC (.int 2))))) (bName 7) (sSet 9 (x2 oAdd (xVar 9) (xLc (mSeq (xSl (xVar 8) (pYes (xC (.int 2))) pNo)) (bName 10) bYes (xTup (xCons (x2 (oI fun i j => .int (if j < i then j else i)) (xVar 7) (xVar 10)) (xCons (x2 (oI fun i j => .int (if j > i then j else i)) (xVar 7) (xVar 10)) xNil))))))) (sRet (xAnd (x2 oEq (xCall m_fewest_desks (xCons (xC (.int 5)) (xCons (x1 oTup (x1 oSortA (xVar 9))) xNil))) (xC (.int 6))) (x2 oEq (xCall m__law_fewest (xCons (xC (.int 5)) (xCons (x1 oTup (x1 oSortA (xVar 9))) xNil))) (xC (.int 6))))))))
end Pu
set_option Elab.async false
set_option linter.all false
set_option maxRecDepth 100000
set_option synthInstance.maxHeartbeats 0
set_option synthInstance.maxSize 100000
namespace Pu
open PySem PySem.Spec PyProof.Rows L2
def topS (i : Nat) : Stmt := PySem.Challenge.pw_latestword_k50_whole_fewest_desks.main.body.getD i (.Pass ⟨0, 0, 0, 0⟩)
abbrev DQ0 : Addr × Addr → HO → HO → Prop := DQp
section
abbrev s_is_integer : Stmt := topS 6
abbrev s_is_number : Stmt := topS 7
abbrev s_is_below : Stmt := topS 8
abbrev s_is_lot : Stmt := topS 9
abbrev s_all_lots : Stmt := topS 11
abbrev s_pairs_of : Stmt := topS 12
abbrev s_are_office_works : Stmt := topS 16
abbrev s_are_pairs : Stmt := topS 20
abbrev s_teams_of : Stmt := topS 21
abbrev s_is_within_team : Stmt := topS 22
abbrev s_covered : Stmt := topS 23
abbrev s_fewest_teams : Stmt := topS 24
abbrev s_office_for : Stmt := topS 25
abbrev s_fewest_desks : Stmt := topS 26
abbrev s__law_pool : Stmt := topS 28
abbrev s__law_draw : Stmt := topS 29
abbrev s__law_mixed : Stmt := topS 30
abbrev s__law_some_pairs : Stmt := topS 31
abbrev s__law_crowds : Stmt := topS 32
abbrev s__law_fewest : Stmt := topS 33
abbrev s_law : Stmt := topS 34
abbrev s_Office_init : Stmt := inClass (topS 17) 0
structure Facts (K : PySem.W.Frag) (mg : Str → Option Value) where
  f_is_integer : Addr
  fd_is_integer : FuncData
  F_is_integer : L2.Fun K "is_integer" "is_integer" s_is_integer f_is_integer fd_is_integer
  m_is_integer : mg "is_integer" = some (.ref f_is_integer)
  f_is_number : Addr
  fd_is_number : FuncData
  F_is_number : L2.Fun K "is_number" "is_number" s_is_number f_is_number fd_is_number
  m_is_number : mg "is_number" = some (.ref f_is_number)
  f_is_below : Addr
  fd_is_below : FuncData
  F_is_below : L2.Fun K "is_below" "is_below" s_is_below f_is_below fd_is_below
  m_is_below : mg "is_below" = some (.ref f_is_below)
  f_is_lot : Addr
  fd_is_lot : FuncData
  F_is_lot : L2.Fun K "is_lot" "is_lot" s_is_lot f_is_lot fd_is_lot
  m_is_lot : mg "is_lot" = some (.ref f_is_lot)
  f_all_lots : Addr
  fd_all_lots : FuncData
  F_all_lots : L2.Fun K "all_lots" "all_lots" s_all_lots f_all_lots fd_all_lots
  m_all_lots : mg "all_lots" = some (.ref f_all_lots)
  f_pairs_of : Addr
  fd_pairs_of : FuncData
  F_pairs_of : L2.Fun K "pairs_of" "pairs_of" s_pairs_of f_pairs_of fd_pairs_of
  m_pairs_of : mg "pairs_of" = some (.ref f_pairs_of)
  f_are_office_works : Addr
  fd_are_office_works : FuncData
  F_are_office_works : L2.Fun K "are_office_works" "are_office_works" s_are_office_works f_are_office_works fd_are_office_works
  m_are_office_works : mg "are_office_works" = some (.ref f_are_office_works)
  f_are_pairs : Addr
  fd_are_pairs : FuncData
  F_are_pairs : L2.Fun K "are_pairs" "are_pairs" s_are_pairs f_are_pairs fd_are_pairs
  m_are_pairs : mg "are_pairs" = some (.ref f_are_pairs)
  f_teams_of : Addr
  fd_teams_of : FuncData
  F_teams_of : L2.Fun K "teams_of" "teams_of" s_teams_of f_teams_of fd_teams_of
  m_teams_of : mg "teams_of" = some (.ref f_teams_of)
  f_is_within_team : Addr
  fd_is_within_team : FuncData
  F_is_within_team : L2.Fun K "is_within_team" "is_within_team" s_is_within_team f_is_within_team fd_is_within_team
  m_is_within_team : mg "is_within_team" = some (.ref f_is_within_team)
  f_covered : Addr
  fd_covered : FuncData
  F_covered : L2.Fun K "covered" "covered" s_covered f_covered fd_covered
  m_covered : mg "covered" = some (.ref f_covered)
  f_fewest_teams : Addr
  fd_fewest_teams : FuncData
  F_fewest_teams : L2.Fun K "fewest_teams" "fewest_teams" s_fewest_teams f_fewest_teams fd_fewest_teams
  m_fewest_teams : mg "fewest_teams" = some (.ref f_fewest_teams)
  f_office_for : Addr
  fd_office_for : FuncData
  F_office_for : L2.Fun K "office_for" "office_for" s_office_for f_office_for fd_office_for
  m_office_for : mg "office_for" = some (.ref f_office_for)
  f_fewest_desks : Addr
  fd_fewest_desks : FuncData
  F_fewest_desks : L2.Fun K "fewest_desks" "fewest_desks" s_fewest_desks f_fewest_desks fd_fewest_desks
  m_fewest_desks : mg "fewest_desks" = some (.ref f_fewest_desks)
  f__law_pool : Addr
  fd__law_pool : FuncData
  F__law_pool : L2.Fun K "_law_pool" "_law_pool" s__law_pool f__law_pool fd__law_pool
  m__law_pool : mg "_law_pool" = some (.ref f__law_pool)
  f__law_draw : Addr
  fd__law_draw : FuncData
  F__law_draw : L2.Fun K "_law_draw" "_law_draw" s__law_draw f__law_draw fd__law_draw
  m__law_draw : mg "_law_draw" = some (.ref f__law_draw)
  f__law_mixed : Addr
  fd__law_mixed : FuncData
  F__law_mixed : L2.Fun K "_law_mixed" "_law_mixed" s__law_mixed f__law_mixed fd__law_mixed
  m__law_mixed : mg "_law_mixed" = some (.ref f__law_mixed)
  f__law_some_pairs : Addr
  fd__law_some_pairs : FuncData
  F__law_some_pairs : L2.Fun K "_law_some_pairs" "_law_some_pairs" s__law_some_pairs f__law_some_pairs fd__law_some_pairs
  m__law_some_pairs : mg "_law_some_pairs" = some (.ref f__law_some_pairs)
  f__law_crowds : Addr
  fd__law_crowds : FuncData
  F__law_crowds : L2.Fun K "_law_crowds" "_law_crowds" s__law_crowds f__law_crowds fd__law_crowds
  m__law_crowds : mg "_law_crowds" = some (.ref f__law_crowds)
  f__law_fewest : Addr
  fd__law_fewest : FuncData
  F__law_fewest : L2.Fun K "_law_fewest" "_law_fewest" s__law_fewest f__law_fewest fd__law_fewest
  m__law_fewest : mg "_law_fewest" = some (.ref f__law_fewest)
  f_law : Addr
  fd_law : FuncData
  F_law : L2.Fun K "law" "law" s_law f_law fd_law
  m_law : mg "law" = some (.ref f_law)
  C_Office : Addr
  f_Office_init : Addr
  fd_Office_init : FuncData
  F_Office_init : L2.Fun K "__init__" "Office.__init__" s_Office_init f_Office_init fd_Office_init
  m_Office : mg "Office" = some (.ref C_Office)
  mk_Office : Mk K C_Office f_Office_init
  cl_Office : Cls K C_Office
  na_Office_desks : NoAttr K C_Office "desks"
  na_Office_works : NoAttr K C_Office "works"
  n_abs : mg "abs" = none
  n_all : mg "all" = none
  n_bool : mg "bool" = none
  n_enumerate : mg "enumerate" = none
  n_int : mg "int" = none
  n_isinstance : mg "isinstance" = none
  n_len : mg "len" = none
  n_list : mg "list" = none
  n_max : mg "max" = none
  n_min : mg "min" = none
  n_range : mg "range" = none
  n_repr : mg "repr" = none
  n_sorted : mg "sorted" = none
  n_sum : mg "sum" = none
  n_tuple : mg "tuple" = none
  n_zip : mg "zip" = none
  t_MOST_COVERED : Tok
  m_MOST_COVERED : mg "MOST_COVERED" = some (.int (5) t_MOST_COVERED)
  t_MOST_DESKS : Tok
  m_MOST_DESKS : mg "MOST_DESKS" = some (.int (6) t_MOST_DESKS)
  t_MOST_WORKS : Tok
  m_MOST_WORKS : mg "MOST_WORKS" = some (.int (10) t_MOST_WORKS)
variable {P : Program} {w : World} {K : PySem.W.Frag} {mg : Str → Option Value} {base : Heap}
def S0 (T : Facts K mg) : Stat := { CT := rtOf (fun c => match c with | 3 => T.C_Office | _ => 0) [], DQ := DQ0, TT := [] }
theorem sc_is_integer : FnScope ["thing"] ["thing"] (defScope s_is_integer) := ⟨rfl, rfl, rfl, by decide +kernel, rfl, by decide +kernel, by decide +kernel⟩
theorem bn_is_integer (T : Facts K mg) : Binds K T.fd_is_integer ["thing"] [] := T.F_is_integer.binds fun _ _ _ _ _ _ us hl => match us, hl with | [_], _ => rfl
theorem ok_is_integer (T : Facts K mg) : FnOk P w K mg base CX0 1 T.f_is_integer T.fd_is_integer ["thing"] (SpM (S0 T) [false] m_is_integer) := by
  refine fn_ok (N := ["thing"]) (body := b_is_integer) (Γe := []) T.F_is_integer sc_is_integer rfl (by decide) (fun cdv A outer s H E hr => ⟨_, pss_one (ps_ret (pe_and (pe_callB (id := "isinstance") (k_isa (K := K) rfl) (by rfl) T.n_isinstance (by decide +kernel) (pa_cons (pv 0) (pa_cons (k_ty (c := "int") (by rfl) T.n_int (by decide +kernel)) pa_nil))) (pe_one (pe_not (pe_callB (id := "isinstance") (k_isa (K := K) rfl) (by rfl) T.n_isinstance (by decide +kernel) (pa_cons (pv 0) (pa_cons (k_ty (c := "bool") (by rfl) T.n_bool (by decide +kernel)) pa_nil))))))), fun q => ?_⟩)
  exact sim_ret (sim_and (sim_isa (c := "int") (sim_varF (i := 0) rfl)) (sim_not (sim_isa (c := "bool") (sim_varF (i := 0) rfl))))
theorem sc_is_number : FnScope ["thing"] ["thing"] (defScope s_is_number) := ⟨rfl, rfl, rfl, by decide +kernel, rfl, by decide +kernel, by decide +kernel⟩
theorem bn_is_number (T : Facts K mg) : Binds K T.fd_is_number ["thing"] [] := T.F_is_number.binds fun _ _ _ _ _ _ us hl => match us, hl with | [_], _ => rfl
theorem ok_is_number (T : Facts K mg) : FnOk P w K mg base CX0 2 T.f_is_number T.fd_is_number ["thing"] (SpM (S0 T) [false] m_is_number) := by
  refine fn_ok (N := ["thing"]) (body := b_is_number) (Γe := []) T.F_is_number sc_is_number rfl (by decide) (fun cdv A outer s H E hr => ⟨_, pss_one (ps_ret (pe_and (pe_call (ok_is_integer T) (hr.mono (by first | decide | omega)) (by rfl) T.m_is_integer T.F_is_integer.kp (bn_is_integer T) .nil pass0 (pa_cons (pv 0) pa_nil)) (pe_one (pe_cmpR op_ge (pv 0) pe_int (nomark _))))), fun q => ?_⟩)
  exact sim_ret (sim_and (sim_call rfl mo_is_integer (sima_val (sim_varF (i := 0) rfl) sima_nil)) (sim_op so_ge (sim_varF (i := 0) rfl) sim_int))
theorem sc_is_below : FnScope ["thing", "many"] ["thing", "many"] (defScope s_is_below) := ⟨rfl, rfl, rfl, by decide +kernel, rfl, by decide +kernel, by decide +kernel⟩
theorem bn_is_below (T : Facts K mg) : Binds K T.fd_is_below ["thing", "many"] [] := T.F_is_below.binds fun _ _ _ _ _ _ us hl => match us, hl with | [_, _], _ => rfl
theorem ok_is_below (T : Facts K mg) : FnOk P w K mg base CX0 3 T.f_is_below T.fd_is_below ["thing", "many"] (SpM (S0 T) [false, false] m_is_below) := by
  refine fn_ok (N := ["thing", "many"]) (body := b_is_below) (Γe := []) T.F_is_below sc_is_below rfl (by decide) (fun cdv A outer s H E hr => ⟨_, pss_one (ps_ret (pe_and (pe_call (ok_is_number T) (hr.mono (by first | decide | omega)) (by rfl) T.m_is_number T.F_is_number.kp (bn_is_number T) .nil pass0 (pa_cons (pv 0) pa_nil)) (pe_one (pe_cmpR op_lt (pv 0) (pv 1) (nomark _))))), fun q => ?_⟩)
  exact sim_ret (sim_and (sim_call rfl mo_is_number (sima_val (sim_varF (i := 0) rfl) sima_nil)) (sim_op so_lt (sim_varF (i := 0) rfl) (sim_varF (i := 1) rfl)))
theorem sc_is_lot : FnScope ["thing", "many", "low", "high", "part"] ["thing", "many"] (defScope s_is_lot) := ⟨rfl, rfl, rfl, by decide +kernel, rfl, by decide +kernel, by decide +kernel⟩
theorem bn_is_lot (T : Facts K mg) : Binds K T.fd_is_lot ["thing", "many"] [] := T.F_is_lot.binds fun _ _ _ _ _ _ us hl => match us, hl with | [_, _], _ => rfl
theorem ok_is_lot (T : Facts K mg) : FnOk P w K mg base CX0 4 T.f_is_lot T.fd_is_lot ["thing", "many"] (SpM (S0 T) [false, false] m_is_lot) := by
  refine fn_ok (N := ["thing", "many", "low", "high", "part"]) (body := b_is_lot) (Γe := []) T.F_is_lot sc_is_lot rfl (by decide) (fun cdv A outer s H E hr => ⟨_, pss_cons (ps_if (PW.pt (pw_or (pt_not (pt_val (pe_callB (id := "isinstance") (k_isa (K := K) rfl) (by rfl) T.n_isinstance (by decide +kernel) (pa_cons (pv 0) (pa_cons (k_ty (c := "tuple") (by rfl) T.n_tuple (by decide +kernel)) pa_nil))))) (pw_or1 (pt_not (pt_val (pe_callB (id := "all") (k_all (K := K) rfl rfl) (by rfl) T.n_all (by decide +kernel) (pa_cons (pe_lc (own := [("part", 4)]) rfl sc_is_lot.nd (k_seq (K := K) rfl (pv 0)) (blkOk_by (by rfl)) (fun _ _ _ _ _ => (pg_name (i := 4) sc_is_lot.nd rfl (by first | exact Or.inl rfl | exact Or.inr rfl))) (fun _ _ _ _ _ => pts_nil) (fun _ _ _ _ _ => (pe_call (ok_is_below T) (hr.mono (by first | decide | omega)) (by rfl) T.m_is_below T.F_is_below.kp (bn_is_below T) .nil pass0 (pa_cons (pv 4) (pa_cons (pv 1) pa_nil))))) pa_nil))))))) (pss_one (ps_ret pe_bl)) pss_nil) (pss_one (ps_ret (pe_callB (id := "all") (k_all (K := K) rfl rfl) (by rfl) T.n_all (by decide +kernel) (pa_cons (pe_lc (own := [("low", 2), ("high", 3)]) rfl sc_is_lot.nd (k_zip (K := K) rfl (by rfl) T.n_zip (pa_cons (pv 0) (pa_cons (pe_slice (k_sl (K := K) rfl) (pv 0) (po_some pe_int) po_none) pa_nil))) (blkOk_by (by rfl)) (fun _ _ _ _ _ => (k_gtup (K := K) (n := 2) rfl rfl (pgs_cons (pg_name (i := 2) sc_is_lot.nd rfl (by first | exact Or.inl rfl | exact Or.inr rfl)) (pgs_cons (pg_name (i := 3) sc_is_lot.nd rfl (by first | exact Or.inl rfl | exact Or.inr rfl)) pgs_nil)))) (fun _ _ _ _ _ => pts_nil) (fun _ _ _ _ _ => pe_cmpR op_lt (pv 2) (pv 3) (nomark _))) pa_nil)))), fun q => ?_⟩)
  exact sim_seq (sim_if (simt_or (simt_not (simt_B (sim_isa (c := "tuple") (sim_varF (i := 0) rfl)))) (simt_not (simt_B (sim_call1 sc_all (sim_lc (Γf := [.f, .f, .x, .x, .x]) (ws := [4]) (ks := [4]) (by intro k hk; exact free_nil) (simi_seq (sim_varF (i := 0) rfl)) rfl rfl (simg_name (i := 4) free_nil (by decide) (by decide)) (by decide) simt_yes (sim_call rfl mo_is_below (sima_val (sim_varF (i := 4) rfl) (sima_val (sim_varF (i := 1) rfl) sima_nil)))))))) (sim_ret sim_bl) sim_next) (sim_ret (sim_call1 sc_all (sim_lc (Γf := [.f, .f, .x, .x, .x]) (ws := [2, 3]) (ks := [2, 3]) (by intro k hk; exact free_nil) (simi_zip (siml_cons (sim_varF (i := 0) rfl) (siml_cons (sim_sl (sim_varF (i := 0) rfl) (simo_yes sim_int) simo_no) siml_nil))) rfl rfl (simg_tup (simgs_cons (simg_name (i := 2) free_nil (by decide) (by decide)) (simgs_cons (simg_name (i := 3) free_nil (by decide) (by decide)) simgs_nil))) (by decide) simt_yes (sim_op so_lt (sim_varF (i := 2) rfl) (sim_varF (i := 3) rfl)))))
theorem sc_all_lots : FnScope ["many", "lots", "number", "lot"] ["many"] (defScope s_all_lots) := ⟨rfl, rfl, rfl, by decide +kernel, rfl, by decide +kernel, by decide +kernel⟩
theorem bn_all_lots (T : Facts K mg) : Binds K T.fd_all_lots ["many"] [] := T.F_all_lots.binds fun _ _ _ _ _ _ us hl => match us, hl with | [_], _ => rfl
theorem ok_all_lots (T : Facts K mg) : FnOk P w K mg base CX0 1 T.f_all_lots T.fd_all_lots ["many"] (SpM (S0 T) [false] m_all_lots) := by
  refine fn_ok (N := ["many", "lots", "number", "lot"]) (body := b_all_lots) (Γe := []) T.F_all_lots sc_all_lots rfl (by decide) (fun cdv A outer s H E hr => ⟨_, pss_cons (ps_set (i := 1) sc_all_lots.nd rfl (by first | exact Or.inl rfl | exact Or.inr rfl) (pe_lst (pa_cons (pe_tup pa_nil) pa_nil))) (pss_cons (ps_for PassesOwn.never rfl (pi_range1 (by rfl) T.n_range (pa_cons (pv 0) pa_nil)) (pg_name (i := 2) sc_all_lots.nd rfl (by first | exact Or.inl rfl | exact Or.inr rfl)) (pss_one (ps_set (i := 1) sc_all_lots.nd rfl (by first | exact Or.inl rfl | exact Or.inr rfl) (pe_op (k_add (K := K) rfl) (pv 1) (pe_lc (own := [("lot", 3)]) rfl sc_all_lots.nd (k_seq (K := K) rfl (pv 1)) (blkOk_by (by rfl)) (fun _ _ _ _ _ => (pg_name (i := 3) sc_all_lots.nd rfl (by first | exact Or.inl rfl | exact Or.inr rfl))) (fun _ _ _ _ _ => pts_nil) (fun _ _ _ _ _ => pe_op (k_add (K := K) rfl) (pv 3) (pe_tup (pa_cons (pv 2) pa_nil)))))))) (pss_one (ps_ret (pe_callB (id := "sorted") (k_sortE (K := K) rfl (rm64 hr)) (by rfl) T.n_sorted (by decide +kernel) (pa_cons (pv 1) pa_nil))))), fun q => ?_⟩)
  exact sim_seq (sim_setO (i := 1) free_nil (by decide) (sim_lst (siml_cons (A := .own) (B := .own) (sim_tup siml_nil) siml_nil))) (sim_seq (sim_for (Γl := [.f, .o, .x, .x]) (simi_rng1 (sim_varF (i := 0) rfl)) rfl rfl (simg_name (i := 2) free_nil (by decide) (by decide)) (sim_setO (i := 1) free_nil (by decide) (sim_op so_add (sim_varO (i := 1) rfl) (sim_lc (Γf := [.f, .f, .f, .x]) (ws := [3]) (ks := [3]) (by intro k hk; exact free_nil) (simi_seq (sim_varO (i := 1) rfl)) rfl rfl (simg_name (i := 3) free_nil (by decide) (by decide)) (by decide) simt_yes (sim_op so_add (sim_varF (i := 3) rfl) (sim_tup (siml_cons (A := .own) (B := .own) (sim_imm (sim_varF (i := 2) rfl)) siml_nil)))))) rfl) (sim_ret (sim_call1 sc_sortE (sim_varO (i := 1) rfl))))
theorem sc_pairs_of : FnScope ["lot", "at", "one", "other"] ["lot"] (defScope s_pairs_of) := ⟨rfl, rfl, rfl, by decide +kernel, rfl, by decide +kernel, by decide +kernel⟩
theorem bn_pairs_of (T : Facts K mg) : Binds K T.fd_pairs_of ["lot"] [] := T.F_pairs_of.binds fun _ _ _ _ _ _ us hl => match us, hl with | [_], _ => rfl
theorem ok_pairs_of (T : Facts K mg) : FnOk P w K mg base CX0 1 T.f_pairs_of T.fd_pairs_of ["lot"] (SpM (S0 T) [false] m_pairs_of) := by
  refine fn_ok (N := ["lot", "at", "one", "other"]) (body := b_pairs_of) (Γe := []) T.F_pairs_of sc_pairs_of rfl (by decide) (fun cdv A outer s H E hr => ⟨_, pss_one (ps_ret (pe_lc2 (own := [("at", 1), ("one", 2), ("other", 3)]) (vs1 := [3]) rfl sc_pairs_of.nd (k_enumU (K := K) rfl (by rfl) T.n_enumerate (pa_cons (pv 0) pa_nil)) (blkOk_by (by rfl)) (by decide) (fun _ _ _ _ _ => (k_gtup (K := K) (n := 2) rfl rfl (pgs_cons (pg_name (i := 1) sc_pairs_of.nd rfl (by first | exact Or.inl rfl | exact Or.inr rfl)) (pgs_cons (pg_name (i := 2) sc_pairs_of.nd rfl (by first | exact Or.inl rfl | exact Or.inr rfl)) pgs_nil)))) (fun _ _ _ _ _ => pts_nil) (fun _ _ _ _ _ => k_seq (K := K) rfl (pe_slice (k_sl (K := K) rfl) (pv 0) (po_some (pe_op (k_add (K := K) rfl) (pv 1) pe_int)) po_none)) (fun _ _ _ _ _ => (pg_name (i := 3) sc_pairs_of.nd rfl (by first | exact Or.inl rfl | exact Or.inr rfl))) (fun _ _ _ _ _ => pts_nil) (fun _ _ _ _ _ => pe_tup (pa_cons (pv 2) (pa_cons (pv 3) pa_nil))))), fun q => ?_⟩)
  exact sim_ret (sim_lc2 (Γf := [.f, .x, .x, .x]) (ws := [1, 2, 3]) (ks := [1, 2]) (us := [2]) (Γu := [.x, .x, .f, .x]) (ws1 := [3]) (ks1 := [3]) (by intro k hk; exact free_nil) (simi_enmU (sim_varF (i := 0) rfl)) rfl rfl (simg_tup (simgs_cons (simg_name (i := 1) free_nil (by decide) (by decide)) (simgs_cons (simg_name (i := 2) free_nil (by decide) (by decide)) simgs_nil))) (by decide) simt_yes (simi1_own (sim_sl (sim_varF (i := 0) rfl) (simo_yes (sim_op so_add (sim_varF (i := 1) rfl) sim_int)) simo_no)) rfl (by intro k hk; exact free_nil) (simg_name (i := 3) free_nil (by decide) (by decide)) (by decide) simt_yes (sim_tup (siml_cons (A := .own) (B := .own) (sim_imm (sim_varF (i := 2) rfl)) (siml_cons (A := .own) (B := .own) (sim_imm (sim_varF (i := 3) rfl)) siml_nil))))
theorem sc_are_office_works : FnScope ["desks", "works", "lot"] ["desks", "works"] (defScope s_are_office_works) := ⟨rfl, rfl, rfl, by decide +kernel, rfl, by decide +kernel, by decide +kernel⟩
theorem bn_are_office_works (T : Facts K mg) : Binds K T.fd_are_office_works ["desks", "works"] [] := T.F_are_office_works.binds fun _ _ _ _ _ _ us hl => match us, hl with | [_, _], _ => rfl
theorem ok_are_office_works (T : Facts K mg) : FnOk P w K mg base CX0 5 T.f_are_office_works T.fd_are_office_works ["desks", "works"] (SpM (S0 T) [false, false] m_are_office_works) := by
  refine fn_ok (N := ["desks", "works", "lot"]) (body := b_are_office_works) (Γe := []) T.F_are_office_works sc_are_office_works rfl (by decide) (fun cdv A outer s H E hr => ⟨_, pss_cons (ps_if (PW.pt (pw_or (pt_not (pt_val (pe_callB (id := "isinstance") (k_isa (K := K) rfl) (by rfl) T.n_isinstance (by decide +kernel) (pa_cons (pv 1) (pa_cons (k_ty (c := "tuple") (by rfl) T.n_tuple (by decide +kernel)) pa_nil))))) (pw_or1 (pt_not (pt_chain op_le op_le pe_int (pe_callB (id := "len") (k_lenA (K := K) rfl) (by rfl) T.n_len (by decide +kernel) (pa_cons (pv 1) pa_nil)) (pe_glob (v := .int (10)) (by rfl) T.m_MOST_WORKS ⟨_, rfl⟩)))))) (pss_one (ps_ret pe_bl)) pss_nil) (pss_one (ps_ret (pe_callB (id := "all") (k_all (K := K) rfl rfl) (by rfl) T.n_all (by decide +kernel) (pa_cons (pe_lc (own := [("lot", 2)]) rfl sc_are_office_works.nd (k_seq (K := K) rfl (pv 1)) (blkOk_by (by rfl)) (fun _ _ _ _ _ => (pg_name (i := 2) sc_are_office_works.nd rfl (by first | exact Or.inl rfl | exact Or.inr rfl))) (fun _ _ _ _ _ => pts_nil) (fun _ _ _ _ _ => pe_and (pe_call (ok_is_lot T) (hr.mono (by first | decide | omega)) (by rfl) T.m_is_lot T.F_is_lot.kp (bn_is_lot T) .nil pass0 (pa_cons (pv 2) (pa_cons (pv 0) pa_nil))) (pe_one (pe_cmpR op_gt (pe_callB (id := "len") (k_lenA (K := K) rfl) (by rfl) T.n_len (by decide +kernel) (pa_cons (pv 2) pa_nil)) pe_int (nomark _))))) pa_nil)))), fun q => ?_⟩)
  exact sim_seq (sim_if (simt_or (simt_not (simt_B (sim_isa (c := "tuple") (sim_varF (i := 1) rfl)))) (simt_not (simt_test (sim_chain so_le so_le sim_int (sim_call1 sc_lenA (sim_varF (i := 1) rfl)) sim_int)))) (sim_ret sim_bl) sim_next) (sim_ret (sim_call1 sc_all (sim_lc (Γf := [.f, .f, .x]) (ws := [2]) (ks := [2]) (by intro k hk; exact free_nil) (simi_seq (sim_varF (i := 1) rfl)) rfl rfl (simg_name (i := 2) free_nil (by decide) (by decide)) (by decide) simt_yes (sim_and (sim_call rfl mo_is_lot (sima_val (sim_varF (i := 2) rfl) (sima_val (sim_varF (i := 0) rfl) sima_nil))) (sim_op so_gt (sim_call1 sc_lenA (sim_varF (i := 2) rfl)) sim_int)))))
theorem sc_Office_init : FnScope ["self", "desks", "works"] ["self", "desks", "works"] (defScope s_Office_init) := ⟨rfl, rfl, rfl, by decide +kernel, rfl, by decide +kernel, by decide +kernel⟩
theorem bn_Office_init (T : Facts K mg) : Binds K T.fd_Office_init ["self", "desks", "works"] [] := T.F_Office_init.binds fun _ _ _ _ _ _ us hl => match us, hl with | [_, _, _], _ => rfl
theorem ok_Office_init (T : Facts K mg) : FnOk P w K mg base CX0 6 T.f_Office_init T.fd_Office_init ["self", "desks", "works"] (SpI (S0 T) 3 i_Office) := by
  refine init_ok0 (N := ["self", "desks", "works"]) (n := 2) (c := 3) (body := b_Office_init) (Γe := [.o, .f, .f]) T.F_Office_init sc_Office_init rfl (by decide) rfl (fun cdv A outer s H E hr => ⟨_, pss_cons (ps_if (PW.pt (pw_or (pt_not (pt_val (pe_call (ok_is_integer T) (hr.mono (by first | decide | omega)) (by rfl) T.m_is_integer T.F_is_integer.kp (bn_is_integer T) .nil pass0 (pa_cons (pv 1) pa_nil)))) (pw_or1 (pt_not (pt_chain op_le op_le pe_int (pv 1) (pe_glob (v := .int (6)) (by rfl) T.m_MOST_DESKS ⟨_, rfl⟩)))))) (pss_one ps_never) pss_nil) (pss_cons (ps_if (pt_not (pt_val (pe_call (ok_are_office_works T) (hr.mono (by first | decide | omega)) (by rfl) T.m_are_office_works T.F_are_office_works.kp (bn_are_office_works T) .nil pass0 (pa_cons (pv 1) (pa_cons (pv 2) pa_nil))))) (pss_one ps_never) pss_nil) (pss_cons (ps_fld (pv 0) (pv 1) rfl) (pss_one (ps_fld (pv 0) (pv 2) rfl)))), fun q v => ?_⟩)
  exact sim_seq (sim_if (simt_or (simt_not (simt_B (sim_call rfl mo_is_integer (sima_val (sim_varF (i := 1) rfl) sima_nil)))) (simt_not (simt_test (sim_chain so_le so_le sim_int (sim_varF (i := 1) rfl) sim_int)))) sim_never sim_next) (sim_seq (sim_if (simt_not (simt_B (sim_call rfl mo_are_office_works (sima_val (sim_varF (i := 1) rfl) (sima_val (sim_varF (i := 2) rfl) sima_nil))))) sim_never sim_next) (sim_seq (sim_sfld (i := 0) (c0 := 3) rfl T.cl_Office T.na_Office_desks (sim_imm (sim_varF (i := 1) rfl))) (sim_sfld (i := 0) (c0 := 3) rfl T.cl_Office T.na_Office_works (sim_imm (sim_varF (i := 2) rfl)))))
theorem sc_are_pairs : FnScope ["many", "thing", "low", "high", "part"] ["many", "thing"] (defScope s_are_pairs) := ⟨rfl, rfl, rfl, by decide +kernel, rfl, by decide +kernel, by decide +kernel⟩
theorem bn_are_pairs (T : Facts K mg) : Binds K T.fd_are_pairs ["many", "thing"] [] := T.F_are_pairs.binds fun _ _ _ _ _ _ us hl => match us, hl with | [_, _], _ => rfl
theorem ok_are_pairs (T : Facts K mg) : FnOk P w K mg base CX0 5 T.f_are_pairs T.fd_are_pairs ["many", "thing"] (SpM (S0 T) [false, false] m_are_pairs) := by
  refine fn_ok (N := ["many", "thing", "low", "high", "part"]) (body := b_are_pairs) (Γe := []) T.F_are_pairs sc_are_pairs rfl (by decide) (fun cdv A outer s H E hr => ⟨_, pss_cons (ps_if (PW.pt (pw_or (pt_not (pt_val (pe_callB (id := "isinstance") (k_isa (K := K) rfl) (by rfl) T.n_isinstance (by decide +kernel) (pa_cons (pv 1) (pa_cons (k_ty (c := "tuple") (by rfl) T.n_tuple (by decide +kernel)) pa_nil))))) (pw_or1 (pt_not (pt_val (pe_callB (id := "all") (k_all (K := K) rfl rfl) (by rfl) T.n_all (by decide +kernel) (pa_cons (pe_lc (own := [("part", 4)]) rfl sc_are_pairs.nd (k_seq (K := K) rfl (pv 1)) (blkOk_by (by rfl)) (fun _ _ _ _ _ => (pg_name (i := 4) sc_are_pairs.nd rfl (by first | exact Or.inl rfl | exact Or.inr rfl))) (fun _ _ _ _ _ => pts_nil) (fun _ _ _ _ _ => pe_and (pe_call (ok_is_lot T) (hr.mono (by first | decide | omega)) (by rfl) T.m_is_lot T.F_is_lot.kp (bn_is_lot T) .nil pass0 (pa_cons (pv 4) (pa_cons (pv 0) pa_nil))) (pe_one (pe_cmpR (k_eq (K := K) rfl (rm64 hr)) (pe_callB (id := "len") (k_lenA (K := K) rfl) (by rfl) T.n_len (by decide +kernel) (pa_cons (pv 4) pa_nil)) pe_int (nomark _))))) pa_nil))))))) (pss_one (ps_ret pe_bl)) pss_nil) (pss_one (ps_ret (pe_callB (id := "all") (k_all (K := K) rfl rfl) (by rfl) T.n_all (by decide +kernel) (pa_cons (pe_lc (own := [("low", 2), ("high", 3)]) rfl sc_are_pairs.nd (k_zip (K := K) rfl (by rfl) T.n_zip (pa_cons (pv 1) (pa_cons (pe_slice (k_sl (K := K) rfl) (pv 1) (po_some pe_int) po_none) pa_nil))) (blkOk_by (by rfl)) (fun _ _ _ _ _ => (k_gtup (K := K) (n := 2) rfl rfl (pgs_cons (pg_name (i := 2) sc_are_pairs.nd rfl (by first | exact Or.inl rfl | exact Or.inr rfl)) (pgs_cons (pg_name (i := 3) sc_are_pairs.nd rfl (by first | exact Or.inl rfl | exact Or.inr rfl)) pgs_nil)))) (fun _ _ _ _ _ => pts_nil) (fun _ _ _ _ _ => pe_cmpR (k_ltT (K := K) rfl (Nat.lt_of_succ_lt (rm1 hr))) (pv 2) (pv 3) (nomark _))) pa_nil)))), fun q => ?_⟩)
  exact sim_seq (sim_if (simt_or (simt_not (simt_B (sim_isa (c := "tuple") (sim_varF (i := 1) rfl)))) (simt_not (simt_B (sim_call1 sc_all (sim_lc (Γf := [.f, .f, .x, .x, .x]) (ws := [4]) (ks := [4]) (by intro k hk; exact free_nil) (simi_seq (sim_varF (i := 1) rfl)) rfl rfl (simg_name (i := 4) free_nil (by decide) (by decide)) (by decide) simt_yes (sim_and (sim_call rfl mo_is_lot (sima_val (sim_varF (i := 4) rfl) (sima_val (sim_varF (i := 0) rfl) sima_nil))) (sim_op so_eq (sim_call1 sc_lenA (sim_varF (i := 4) rfl)) sim_int))))))) (sim_ret sim_bl) sim_next) (sim_ret (sim_call1 sc_all (sim_lc (Γf := [.f, .f, .x, .x, .x]) (ws := [2, 3]) (ks := [2, 3]) (by intro k hk; exact free_nil) (simi_zip (siml_cons (sim_varF (i := 1) rfl) (siml_cons (sim_sl (sim_varF (i := 1) rfl) (simo_yes sim_int) simo_no) siml_nil))) rfl rfl (simg_tup (simgs_cons (simg_name (i := 2) free_nil (by decide) (by decide)) (simgs_cons (simg_name (i := 3) free_nil (by decide) (by decide)) simgs_nil))) (by decide) simt_yes (sim_op so_ltT (sim_varF (i := 2) rfl) (sim_varF (i := 3) rfl)))))
theorem sc_teams_of : FnScope ["many", "pairs", "lot", "pair"] ["many", "pairs"] (defScope s_teams_of) := ⟨rfl, rfl, rfl, by decide +kernel, rfl, by decide +kernel, by decide +kernel⟩
theorem bn_teams_of (T : Facts K mg) : Binds K T.fd_teams_of ["many", "pairs"] [] := T.F_teams_of.binds fun _ _ _ _ _ _ us hl => match us, hl with | [_, _], _ => rfl
theorem ok_teams_of (T : Facts K mg) : FnOk P w K mg base CX0 2 T.f_teams_of T.fd_teams_of ["many", "pairs"] (SpM (S0 T) [false, false] m_teams_of) := by
  refine fn_ok (N := ["many", "pairs", "lot", "pair"]) (body := b_teams_of) (Γe := []) T.F_teams_of sc_teams_of rfl (by decide) (fun cdv A outer s H E hr => ⟨_, pss_one (ps_ret (pe_lc (own := [("lot", 2)]) rfl sc_teams_of.nd (k_seq (K := K) rfl (pe_call (ok_all_lots T) (hr.mono (by first | decide | omega)) (by rfl) T.m_all_lots T.F_all_lots.kp (bn_all_lots T) .nil pass0 (pa_cons (pv 0) pa_nil))) (blkOk_by (by rfl)) (fun _ _ _ _ _ => (pg_name (i := 2) sc_teams_of.nd rfl (by first | exact Or.inl rfl | exact Or.inr rfl))) (fun _ _ _ _ _ => pts_one (pt_val (pe_callB (id := "all") (k_all (K := K) rfl rfl) (by rfl) T.n_all (by decide +kernel) (pa_cons (pe_lc (own := [("pair", 3)]) rfl sc_teams_of.nd (k_seq (K := K) rfl (pe_call (ok_pairs_of T) (hr.mono (by first | decide | omega)) (by rfl) T.m_pairs_of T.F_pairs_of.kp (bn_pairs_of T) .nil pass0 (pa_cons (pv 2) pa_nil))) (blkOk_by (by rfl)) (fun _ _ _ _ _ => (pg_name (i := 3) sc_teams_of.nd rfl (by first | exact Or.inl rfl | exact Or.inr rfl))) (fun _ _ _ _ _ => pts_nil) (fun _ _ _ _ _ => pe_cmpR (k_inT (K := K) rfl (rm65 hr)) (pv 3) (pv 1) (by rfl))) pa_nil)))) (fun _ _ _ _ _ => (pv 2)))), fun q => ?_⟩)
  exact sim_ret (sim_lc (Γf := [.f, .f, .x, .x]) (ws := [2]) (ks := [2]) (by intro k hk; exact free_nil) (simi_seq (sim_call rfl mo_all_lots (sima_val (sim_varF (i := 0) rfl) sima_nil))) rfl rfl (simg_name (i := 2) free_nil (by decide) (by decide)) (by decide) (simt_B (sim_call1 sc_all (sim_lc (Γf := [.f, .f, .f, .x]) (ws := [3]) (ks := [3]) (by intro k hk; exact free_nil) (simi_seq (sim_call rfl mo_pairs_of (sima_val (sim_varF (i := 2) rfl) sima_nil))) rfl rfl (simg_name (i := 3) free_nil (by decide) (by decide)) (by decide) simt_yes (sim_op so_inT (sim_varF (i := 3) rfl) (sim_varF (i := 1) rfl))))) (sim_imm (sim_varF (i := 2) rfl)))
theorem sc_is_within_team : FnScope ["lot", "team", "work"] ["lot", "team"] (defScope s_is_within_team) := ⟨rfl, rfl, rfl, by decide +kernel, rfl, by decide +kernel, by decide +kernel⟩
theorem bn_is_within_team (T : Facts K mg) : Binds K T.fd_is_within_team ["lot", "team"] [] := T.F_is_within_team.binds fun _ _ _ _ _ _ us hl => match us, hl with | [_, _], _ => rfl
theorem ok_is_within_team (T : Facts K mg) : FnOk P w K mg base CX0 1 T.f_is_within_team T.fd_is_within_team ["lot", "team"] (SpM (S0 T) [false, false] m_is_within_team) := by
  refine fn_ok (N := ["lot", "team", "work"]) (body := b_is_within_team) (Γe := []) T.F_is_within_team sc_is_within_team rfl (by decide) (fun cdv A outer s H E hr => ⟨_, pss_one (ps_ret (pe_callB (id := "all") (k_all (K := K) rfl rfl) (by rfl) T.n_all (by decide +kernel) (pa_cons (pe_lc (own := [("work", 2)]) rfl sc_is_within_team.nd (k_seq (K := K) rfl (pv 0)) (blkOk_by (by rfl)) (fun _ _ _ _ _ => (pg_name (i := 2) sc_is_within_team.nd rfl (by first | exact Or.inl rfl | exact Or.inr rfl))) (fun _ _ _ _ _ => pts_nil) (fun _ _ _ _ _ => pe_cmpR (k_in (K := K) rfl (rm65 hr)) (pv 2) (pv 1) (by rfl))) pa_nil))), fun q => ?_⟩)
  exact sim_ret (sim_call1 sc_all (sim_lc (Γf := [.f, .f, .x]) (ws := [2]) (ks := [2]) (by intro k hk; exact free_nil) (simi_seq (sim_varF (i := 0) rfl)) rfl rfl (simg_name (i := 2) free_nil (by decide) (by decide)) (by decide) simt_yes (sim_op so_in (sim_varF (i := 2) rfl) (sim_varF (i := 1) rfl))))
theorem sc_covered : FnScope ["needed", "teams", "most", "team", "left", "rest", "lot"] ["needed", "teams", "most"] (defScope s_covered) := ⟨rfl, rfl, rfl, by decide +kernel, rfl, by decide +kernel, by decide +kernel⟩
theorem bn_covered (T : Facts K mg) : Binds K T.fd_covered ["needed", "teams", "most"] [] := T.F_covered.binds fun _ _ _ _ _ _ us hl => match us, hl with | [_, _, _], _ => rfl
theorem ok_covered_n : ∀ (n : Nat) (T : Facts K mg), FnOk P w K mg base CX0 (1 + n) T.f_covered T.fd_covered ["needed", "teams", "most"] (SpM (S0 T) [false, false, false] (m_covered_n n))
  | 0, T => fn_never rfl
  | n + 1, T => by
    have ih : ∀ T : Facts K mg, FnOk P w K mg base CX0 (1 + n) T.f_covered T.fd_covered ["needed", "teams", "most"] (SpM (S0 T) [false, false, false] (m_covered_n n)) := fun T => ok_covered_n n T
    have mo_self := mo_covered_n n
    show FnOk P w K mg base CX0 (1 + n + 1) T.f_covered T.fd_covered ["needed", "teams", "most"] (SpM (S0 T) [false, false, false] (fnM 7 (b_covered (m_covered_n n))))
    refine fn_ok (N := ["needed", "teams", "most", "team", "left", "rest", "lot"]) (body := _) (Γe := []) T.F_covered sc_covered rfl (by decide) (fun cdv A outer s H E hr => ⟨_, pss_cons (ps_if (pt_cmpR (k_eq (K := K) rfl (rm64 hr)) (pe_callB (id := "len") (k_lenA (K := K) rfl) (by rfl) T.n_len (by decide +kernel) (pa_cons (pv 0) pa_nil)) pe_int (nomark _)) (pss_one (ps_ret (pe_lst pa_nil))) pss_nil) (pss_cons (ps_if (pt_cmpR (k_eq (K := K) rfl (rm64 hr)) (pv 2) pe_int (nomark _)) (pss_one (ps_ret pe_non)) pss_nil) (pss_cons (ps_for PassesOwn.never rfl (k_seq (K := K) rfl (pv 1)) (pg_name (i := 3) sc_covered.nd rfl (by first | exact Or.inl rfl | exact Or.inr rfl)) (pss_one (ps_if (pt_val (pe_call (ok_is_within_team T) (hr.mono (by first | decide | omega)) (by rfl) T.m_is_within_team T.F_is_within_team.kp (bn_is_within_team T) .nil pass0 (pa_cons (pe_ix (k_ix (K := K) rfl (rm1 hr)) (pv 0) pe_int (fun _ _ => rfl)) (pa_cons (pv 3) pa_nil)))) (pss_cons (ps_setLc (i := 4) (own := [("lot", 6)]) rfl sc_covered.nd rfl rfl (sw_true rfl rfl rfl (by decide +kernel)) (k_seq (K := K) rfl (pv 0)) (blkOk_by (by rfl)) (fun _ _ _ _ _ => (pg_name (i := 6) sc_covered.nd rfl (by first | exact Or.inl rfl | exact Or.inr rfl))) (fun _ _ _ _ _ => pts_one (pt_not (pt_val (pe_call (ok_is_within_team T) (hr.mono (by first | decide | omega)) (by rfl) T.m_is_within_team T.F_is_within_team.kp (bn_is_within_team T) .nil pass0 (pa_cons (pv 6) (pa_cons (pv 3) pa_nil)))))) (fun _ _ _ _ _ => (pv 6))) (pss_cons (ps_set (i := 5) sc_covered.nd rfl (by first | exact Or.inl rfl | exact Or.inr rfl) (pe_call (ih T) (hr.mono (by omega)) (by rfl) T.m_covered T.F_covered.kp (bn_covered T) .nil pass0 (pa_cons (pv 4) (pa_cons (pv 1) (pa_cons (pe_op op_sub (pv 2) pe_int) pa_nil))))) (pss_one (ps_if (pt_cmpR op_notN (pv 5) pe_non (nomark _)) (pss_one (ps_ret (pe_op (k_add (K := K) rfl) (pe_lst (pa_cons (pv 3) pa_nil)) (pv 5)))) pss_nil)))) pss_nil))) (pss_one (ps_ret pe_non)))), fun q => ?_⟩)
    exact sim_seq (sim_if (simt_test (sim_op so_eq (sim_call1 sc_lenA (sim_varF (i := 0) rfl)) sim_int)) (sim_ret (sim_lst siml_nil)) sim_next) (sim_seq (sim_if (simt_test (sim_op so_eq (sim_varF (i := 2) rfl) sim_int)) (sim_ret sim_non) sim_next) (sim_seq (sim_for (Γl := [.f, .f, .f, .x, .x, .x, .x]) (simi_seq (sim_varF (i := 1) rfl)) rfl rfl (simg_name (i := 3) free_nil (by decide) (by decide)) (sim_if (simt_B (sim_call rfl mo_is_within_team (sima_val (sim_part so_ix (sim_varF (i := 0) rfl) sim_int) (sima_val (sim_varF (i := 3) rfl) sima_nil)))) (sim_weak (Γ2 := [.f, .f, .f, .f, .x, .x, .x]) (sim_seq (sim_setO (i := 4) free_nil (by decide) (sim_lc (Γf := [.f, .f, .f, .f, .x, .x, .x]) (ws := [6]) (ks := [6]) (by intro k hk; exact free_nil) (simi_seq (sim_varF (i := 0) rfl)) rfl rfl (simg_name (i := 6) free_nil (by decide) (by decide)) (by decide) (simt_not (simt_B (sim_call rfl mo_is_within_team (sima_val (sim_varF (i := 6) rfl) (sima_val (sim_varF (i := 3) rfl) sima_nil))))) (sim_imm (sim_varF (i := 6) rfl)))) (sim_seq (sim_setO (i := 5) free_nil (by decide) (sim_call rfl mo_self (sima_val (sim_varO (i := 4) rfl) (sima_val (sim_varF (i := 1) rfl) (sima_val (sim_op so_sub (sim_varF (i := 2) rfl) sim_int) sima_nil))))) (sim_if (simt_test (sim_op so_notN (sim_varO (i := 5) rfl) sim_non)) (sim_ret (sim_op so_add (sim_lst (siml_cons (A := .own) (B := .own) (sim_imm (sim_varF (i := 3) rfl)) siml_nil)) (sim_varO (i := 5) rfl))) sim_next))) rfl) sim_next) rfl) (sim_ret sim_non)))
theorem ok_covered (T : Facts K mg) : FnOk P w K mg base CX0 9 T.f_covered T.fd_covered ["needed", "teams", "most"] (SpM (S0 T) [false, false, false] m_covered) := ok_covered_n 8 T
theorem sc_fewest_teams : FnScope ["many", "pairs", "needed", "teams", "most", "found", "work"] ["many", "pairs"] (defScope s_fewest_teams) := ⟨rfl, rfl, rfl, by decide +kernel, rfl, by decide +kernel, by decide +kernel⟩
theorem bn_fewest_teams (T : Facts K mg) : Binds K T.fd_fewest_teams ["many", "pairs"] [] := T.F_fewest_teams.binds fun _ _ _ _ _ _ us hl => match us, hl with | [_, _], _ => rfl
theorem ok_fewest_teams (T : Facts K mg) : FnOk P w K mg base CX0 10 T.f_fewest_teams T.fd_fewest_teams ["many", "pairs"] (SpM (S0 T) [false, false] m_fewest_teams) := by
  refine fn_ok (N := ["many", "pairs", "needed", "teams", "most", "found", "work"]) (body := b_fewest_teams) (Γe := []) T.F_fewest_teams sc_fewest_teams rfl (by decide) (fun cdv A outer s H E hr => ⟨_, pss_cons (ps_if (PW.pt (pw_or (pt_not (pt_val (pe_call (ok_is_below T) (hr.mono (by first | decide | omega)) (by rfl) T.m_is_below T.F_is_below.kp (bn_is_below T) .nil pass0 (pa_cons (pv 0) (pa_cons (pe_op (k_add (K := K) rfl) (pe_glob (v := .int (5)) (by rfl) T.m_MOST_COVERED ⟨_, rfl⟩) pe_int) pa_nil))))) (pw_or1 (pt_cmpR (k_eq (K := K) rfl (rm64 hr)) (pv 0) pe_int (nomark _))))) (pss_one ps_never) pss_nil) (pss_cons (ps_if (pt_not (pt_val (pe_call (ok_are_pairs T) (hr.mono (by first | decide | omega)) (by rfl) T.m_are_pairs T.F_are_pairs.kp (bn_are_pairs T) .nil pass0 (pa_cons (pv 0) (pa_cons (pv 1) pa_nil))))) (pss_one ps_never) pss_nil) (pss_cons (ps_set (i := 2) sc_fewest_teams.nd rfl (by first | exact Or.inl rfl | exact Or.inr rfl) (pe_op (k_add (K := K) rfl) (pe_callTy (T := "list") (k_listA (K := K) rfl rfl) (by rfl) T.n_list (by decide +kernel) (pa_cons (pv 1) pa_nil)) (pe_lc (own := [("work", 6)]) rfl sc_fewest_teams.nd (pi_range1 (by rfl) T.n_range (pa_cons (pv 0) pa_nil)) (blkOk_by (by rfl)) (fun _ _ _ _ _ => (pg_name (i := 6) sc_fewest_teams.nd rfl (by first | exact Or.inl rfl | exact Or.inr rfl))) (fun _ _ _ _ _ => pts_nil) (fun _ _ _ _ _ => pe_tup (pa_cons (pv 6) pa_nil))))) (pss_cons (ps_set (i := 3) sc_fewest_teams.nd rfl (by first | exact Or.inl rfl | exact Or.inr rfl) (pe_call (ok_teams_of T) (hr.mono (by first | decide | omega)) (by rfl) T.m_teams_of T.F_teams_of.kp (bn_teams_of T) .nil pass0 (pa_cons (pv 0) (pa_cons (pv 1) pa_nil)))) (pss_cons (ps_set (i := 4) sc_fewest_teams.nd rfl (by first | exact Or.inl rfl | exact Or.inr rfl) pe_int) (pss_cons (ps_set (i := 5) sc_fewest_teams.nd rfl (by first | exact Or.inl rfl | exact Or.inr rfl) (pe_call (ok_covered T) (hr.mono (by first | decide | omega)) (by rfl) T.m_covered T.F_covered.kp (bn_covered T) .nil pass0 (pa_cons (pv 2) (pa_cons (pv 3) (pa_cons (pv 4) pa_nil))))) (pss_cons (ps_while PassesOwn.never (pt_cmpR op_isN (pv 5) pe_non (nomark _)) (pss_cons (ps_aug (i := 4) sc_fewest_teams.nd rfl (by first | exact Or.inl rfl | exact Or.inr rfl) pe_int ip_addU) (pss_one (ps_set (i := 5) sc_fewest_teams.nd rfl (by first | exact Or.inl rfl | exact Or.inr rfl) (pe_call (ok_covered T) (hr.mono (by first | decide | omega)) (by rfl) T.m_covered T.F_covered.kp (bn_covered T) .nil pass0 (pa_cons (pv 2) (pa_cons (pv 3) (pa_cons (pv 4) pa_nil)))))))) (pss_one (ps_ret (pv 5))))))))), fun q => ?_⟩)
  exact sim_seq (sim_if (simt_or (simt_not (simt_B (sim_call rfl mo_is_below (sima_val (sim_varF (i := 0) rfl) (sima_val (sim_op so_add sim_int sim_int) sima_nil))))) (simt_test (sim_op so_eq (sim_varF (i := 0) rfl) sim_int))) sim_never sim_next) (sim_seq (sim_if (simt_not (simt_B (sim_call rfl mo_are_pairs (sima_val (sim_varF (i := 0) rfl) (sima_val (sim_varF (i := 1) rfl) sima_nil))))) sim_never sim_next) (sim_seq (sim_setO (i := 2) free_nil (by decide) (sim_op so_add (sim_call1 sc_listA (sim_varF (i := 1) rfl)) (sim_lc (Γf := [.f, .f, .x, .x, .x, .x, .x]) (ws := [6]) (ks := [6]) (by intro k hk; exact free_nil) (simi_rng1 (sim_varF (i := 0) rfl)) rfl rfl (simg_name (i := 6) free_nil (by decide) (by decide)) (by decide) simt_yes (sim_tup (siml_cons (A := .own) (B := .own) (sim_imm (sim_varF (i := 6) rfl)) siml_nil))))) (sim_seq (sim_setO (i := 3) free_nil (by decide) (sim_call rfl mo_teams_of (sima_val (sim_varF (i := 0) rfl) (sima_val (sim_varF (i := 1) rfl) sima_nil)))) (sim_seq (sim_setO (i := 4) free_nil (by decide) sim_int) (sim_seq (sim_setO (i := 5) free_nil (by decide) (sim_call rfl mo_covered (sima_val (sim_varO (i := 2) rfl) (sima_val (sim_varO (i := 3) rfl) (sima_val (sim_varO (i := 4) rfl) sima_nil))))) (sim_seq (sim_while (Γl := [.f, .f, .o, .o, .o, .o, .x]) rfl (simt_test (sim_op so_isN (sim_varO (i := 5) rfl) sim_non)) (sim_seq (sim_aug (i := 4) (mo := .o) free_nil rfl (by first | exact Or.inl rfl | exact Or.inr rfl) so_add1 sim_int) (sim_setO (i := 5) free_nil (by decide) (sim_call rfl mo_covered (sima_val (sim_varO (i := 2) rfl) (sima_val (sim_varO (i := 3) rfl) (sima_val (sim_varO (i := 4) rfl) sima_nil)))))) rfl) (sim_retO (i := 5) rfl)))))))
theorem sc_office_for : FnScope ["many", "pairs", "teams", "works", "work", "desk", "team"] ["many", "pairs"] (defScope s_office_for) := ⟨rfl, rfl, rfl, by decide +kernel, rfl, by decide +kernel, by decide +kernel⟩
theorem bn_office_for (T : Facts K mg) : Binds K T.fd_office_for ["many", "pairs"] [] := T.F_office_for.binds fun _ _ _ _ _ _ us hl => match us, hl with | [_, _], _ => rfl
theorem ok_office_for (T : Facts K mg) : FnOk P w K mg base CX0 11 T.f_office_for T.fd_office_for ["many", "pairs"] (SpM (S0 T) [false, false] m_office_for) := by
  refine fn_ok (N := ["many", "pairs", "teams", "works", "work", "desk", "team"]) (body := b_office_for) (Γe := []) T.F_office_for sc_office_for rfl (by decide) (fun cdv A outer s H E hr => ⟨_, pss_cons (ps_set (i := 2) sc_office_for.nd rfl (by first | exact Or.inl rfl | exact Or.inr rfl) (pe_call (ok_fewest_teams T) (hr.mono (by first | decide | omega)) (by rfl) T.m_fewest_teams T.F_fewest_teams.kp (bn_fewest_teams T) .nil pass0 (pa_cons (pv 0) (pa_cons (pv 1) pa_nil)))) (pss_cons (ps_setLc (i := 3) (own := [("work", 4)]) rfl sc_office_for.nd rfl rfl (sw_true rfl rfl rfl (by decide +kernel)) (pi_range1 (by rfl) T.n_range (pa_cons (pv 0) pa_nil)) (blkOk_by (by rfl)) (fun _ _ _ _ _ => (pg_name (i := 4) sc_office_for.nd rfl (by first | exact Or.inl rfl | exact Or.inr rfl))) (fun _ _ _ _ _ => pts_nil) (fun _ _ _ _ _ => (pe_callTy (T := "tuple") (k_tuple (K := K) rfl) (by rfl) T.n_tuple (by decide +kernel) (pa_cons (pe_lc (own := [("desk", 5), ("team", 6)]) rfl sc_office_for.nd (k_enumU (K := K) rfl (by rfl) T.n_enumerate (pa_cons (pv 2) pa_nil)) (blkOk_by (by rfl)) (fun _ _ _ _ _ => (k_gtup (K := K) (n := 2) rfl rfl (pgs_cons (pg_name (i := 5) sc_office_for.nd rfl (by first | exact Or.inl rfl | exact Or.inr rfl)) (pgs_cons (pg_name (i := 6) sc_office_for.nd rfl (by first | exact Or.inl rfl | exact Or.inr rfl)) pgs_nil)))) (fun _ _ _ _ _ => pts_one (pt_cmpR (k_in (K := K) rfl (rm65 hr)) (pv 4) (pv 6) (by rfl))) (fun _ _ _ _ _ => (pv 5))) pa_nil)))) (pss_one (ps_ret (pe_make T.mk_Office (ok_Office_init T) (hr.mono (by decide)) (by rfl) T.m_Office (bn_Office_init T) .nil pass0 (pa_cons (pe_callB (id := "len") (k_lenA (K := K) rfl) (by rfl) T.n_len (by decide +kernel) (pa_cons (pv 2) pa_nil)) (pa_cons (pe_callTy (T := "tuple") (k_tuple (K := K) rfl) (by rfl) T.n_tuple (by decide +kernel) (pa_cons (pv 3) pa_nil)) pa_nil)))))), fun q => ?_⟩)
  exact sim_seq (sim_setO (i := 2) free_nil (by decide) (sim_call rfl mo_fewest_teams (sima_val (sim_varF (i := 0) rfl) (sima_val (sim_varF (i := 1) rfl) sima_nil)))) (sim_seq (sim_setO (i := 3) free_nil (by decide) (sim_lc (Γf := [.f, .f, .o, .x, .x, .x, .x]) (ws := [4]) (ks := [4]) (by intro k hk; exact free_nil) (simi_rng1 (sim_varF (i := 0) rfl)) rfl rfl (simg_name (i := 4) free_nil (by decide) (by decide)) (by decide) simt_yes (sim_call1 sc_tup (sim_lc (Γf := [.f, .f, .f, .x, .f, .x, .x]) (ws := [5, 6]) (ks := [5, 6]) (by intro k hk; exact free_nil) (simi_enmU (sim_varO (i := 2) rfl)) rfl rfl (simg_tup (simgs_cons (simg_name (i := 5) free_nil (by decide) (by decide)) (simgs_cons (simg_name (i := 6) free_nil (by decide) (by decide)) simgs_nil))) (by decide) (simt_test (sim_op so_in (sim_varF (i := 4) rfl) (sim_varF (i := 6) rfl))) (sim_imm (sim_varF (i := 5) rfl)))))) (sim_ret (sim_make rfl rfl mo_Office_init (siml_cons (sim_call1 sc_lenA (sim_varO (i := 2) rfl)) (siml_cons (sim_call1 sc_tup (sim_varO (i := 3) rfl)) siml_nil)))))
theorem sc_fewest_desks : FnScope ["many", "pairs"] ["many", "pairs"] (defScope s_fewest_desks) := ⟨rfl, rfl, rfl, by decide +kernel, rfl, by decide +kernel, by decide +kernel⟩
theorem bn_fewest_desks (T : Facts K mg) : Binds K T.fd_fewest_desks ["many", "pairs"] [] := T.F_fewest_desks.binds fun _ _ _ _ _ _ us hl => match us, hl with | [_, _], _ => rfl
theorem ok_fewest_desks (T : Facts K mg) : FnOk P w K mg base CX0 11 T.f_fewest_desks T.fd_fewest_desks ["many", "pairs"] (SpM (S0 T) [false, false] m_fewest_desks) := by
  refine fn_ok (N := ["many", "pairs"]) (body := b_fewest_desks) (Γe := []) T.F_fewest_desks sc_fewest_desks rfl (by decide) (fun cdv A outer s H E hr => ⟨_, pss_one (ps_ret (pe_callB (id := "len") (k_lenA (K := K) rfl) (by rfl) T.n_len (by decide +kernel) (pa_cons (pe_call (ok_fewest_teams T) (hr.mono (by first | decide | omega)) (by rfl) T.m_fewest_teams T.F_fewest_teams.kp (bn_fewest_teams T) .nil pass0 (pa_cons (pv 0) (pa_cons (pv 1) pa_nil))) pa_nil))), fun q => ?_⟩)
  exact sim_ret (sim_call1 sc_lenA (sim_call rfl mo_fewest_teams (sima_val (sim_varF (i := 0) rfl) (sima_val (sim_varF (i := 1) rfl) sima_nil))))
theorem sc__law_pool : FnScope ["script", "seed", "cell"] ["script"] (defScope s__law_pool) := ⟨rfl, rfl, rfl, by decide +kernel, rfl, by decide +kernel, by decide +kernel⟩
theorem bn__law_pool (T : Facts K mg) : Binds K T.fd__law_pool ["script"] [] := T.F__law_pool.binds fun _ _ _ _ _ _ us hl => match us, hl with | [_], _ => rfl
theorem ok__law_pool (T : Facts K mg) : FnOk P w K mg base CX0 1 T.f__law_pool T.fd__law_pool ["script"] (spPool K) := pool_ok T.F__law_pool sc__law_pool (fun cdv A outer s H E hr => (pss_cons (ps_set (i := 1) sc__law_pool.nd rfl (by first | exact Or.inl rfl | exact Or.inr rfl) (pe_op op_add (pe_op op_add (pe_op op_modN (pe_callTy (T := "int") call_int1 (by rfl) T.n_int (by decide +kernel) (pa_cons (pe_callB (id := "sum") (cr_sum rfl) (by rfl) T.n_sum (by decide +kernel) (pa_cons (pe_slice sl_list (pv 0) po_none (po_some pe_int)) pa_nil)) pa_nil)) pe_int) (pe_callB (id := "len") call_len_seq (by rfl) T.n_len (by decide +kernel) (pa_cons (pv 0) pa_nil))) pe_int)) (pss_cons (ps_for PassesOwn.never rfl (pi_list (pe_slice sl_list (pv 0) po_none (po_some pe_int))) (pg_name (i := 2) sc__law_pool.nd rfl (by first | exact Or.inl rfl | exact Or.inr rfl)) (pss_one (ps_set (i := 1) sc__law_pool.nd rfl (by first | exact Or.inl rfl | exact Or.inr rfl) (pe_op op_modN (pe_callTy (T := "int") call_int1 (by rfl) T.n_int (by decide +kernel) (pa_cons (pe_op op_add (pe_op op_add (pe_op op_mul (pv 1) pe_int) (pe_op op_modN (pe_callTy (T := "int") call_int1 (by rfl) T.n_int (by decide +kernel) (pa_cons (pv 2) pa_nil)) pe_int)) pe_int) pa_nil)) pe_int)))) (pss_one (ps_ret (pe_lst (pa_cons (pv 1) (pa_cons pe_int (pa_cons (pe_lc (own := [("cell", 2)]) rfl sc__law_pool.nd (pi_list (pe_slice sl_list (pv 0) po_none (po_some pe_int))) (blkOk_by (by rfl)) (fun _ _ _ _ _ => (pg_name (i := 2) sc__law_pool.nd rfl (by first | exact Or.inl rfl | exact Or.inr rfl))) (fun _ _ _ _ _ => pts_one (pt_cmpR op_ge (pe_callB (id := "abs") call_abs (by rfl) T.n_abs (by decide +kernel) (pa_cons (pv 2) pa_nil)) (pe_op op_pow pe_int pe_int) (nomark _))) (fun _ _ _ _ _ => (pe_callB (id := "abs") call_abs (by rfl) T.n_abs (by decide +kernel) (pa_cons (pv 2) pa_nil)))) pa_nil)))))))))
theorem sc__law_draw : FnScope ["pool", "many", "cells", "digit", "mixed"] ["pool", "many"] (defScope s__law_draw) := ⟨rfl, rfl, rfl, by decide +kernel, rfl, by decide +kernel, by decide +kernel⟩
theorem bn__law_draw (T : Facts K mg) : Binds K T.fd__law_draw ["pool", "many"] [] := T.F__law_draw.binds fun _ _ _ _ _ _ us hl => match us, hl with | [_, _], _ => rfl
theorem ok__law_draw (T : Facts K mg) : FnOk P w K mg base CX0 1 T.f__law_draw T.fd__law_draw ["pool", "many"] (SpM (S0 T) [true, false] m__law_draw) :=
  drawP_ok (N := ["pool", "many", "cells", "digit", "mixed"]) T.F__law_draw sc__law_draw rfl rfl rfl (fun cdv A outer s H E hr => (pss_cons (ps_asg (pe_op op_add (pe_ix ix_list (pv 0) pe_int (fun _ _ => rfl)) pe_int) (pg_sub (pv 0) pe_int set_list)) (pss_cons (ps_set (i := 2) sc__law_draw.nd rfl (by first | exact Or.inl rfl | exact Or.inr rfl) (pe_ix ix_list (pv 0) pe_int (fun _ _ => rfl))) (pss_cons (ps_if (pt_cmpR op_gt (pe_callB (id := "len") call_len_seq (by rfl) T.n_len (by decide +kernel) (pa_cons (pv 2) pa_nil)) pe_int (nomark _)) (pss_cons (ps_set (i := 3) sc__law_draw.nd rfl (by first | exact Or.inl rfl | exact Or.inr rfl) (pe_op op_modN (pe_callTy (T := "int") call_int1 (by rfl) T.n_int (by decide +kernel) (pa_cons (pe_ix ix_list (pv 2) pe_int (fun _ _ => rfl)) pa_nil)) (pv 1))) (pss_cons (ps_asg (pe_op op_fdivN (pe_callTy (T := "int") call_int1 (by rfl) T.n_int (by decide +kernel) (pa_cons (pe_ix ix_list (pv 2) pe_int (fun _ _ => rfl)) pa_nil)) (pv 1)) (pg_sub (pv 2) pe_int set_list)) (pss_cons (ps_if (pt_cmpR op_eq (pe_ix ix_list (pv 2) pe_int (fun _ _ => rfl)) pe_int (nomark _)) (pss_one (ps_expr (pe_bm PySem.F.plainAttrs_list PySem.F.slot_list_pop PySem.F.type_list_pop mt_popAt (pv 2) (pa_cons pe_int pa_nil)))) pss_nil) (pss_one (ps_ret (pv 3)))))) pss_nil) (pss_cons (ps_set (i := 4) sc__law_draw.nd rfl (by first | exact Or.inl rfl | exact Or.inr rfl) (pe_op op_modN (pe_callTy (T := "int") call_int1 (by rfl) T.n_int (by decide +kernel) (pa_cons (pe_op op_mul (pe_op op_add (pe_ix ix_list (pv 0) pe_int (fun _ _ => rfl)) (pe_op op_mul pe_int (pe_ix ix_list (pv 0) pe_int (fun _ _ => rfl)))) pe_int) pa_nil)) pe_int)) (pss_cons (ps_set (i := 4) sc__law_draw.nd rfl (by first | exact Or.inl rfl | exact Or.inr rfl) (pe_op op_modN (pe_callTy (T := "int") call_int1 (by rfl) T.n_int (by decide +kernel) (pa_cons (pe_op op_mul (pv 4) (pe_op op_add (pe_op op_fdivN (pv 4) pe_int) pe_int)) pa_nil)) pe_int)) (pss_cons (ps_set (i := 4) sc__law_draw.nd rfl (by first | exact Or.inl rfl | exact Or.inr rfl) (pe_op op_modN (pe_callTy (T := "int") call_int1 (by rfl) T.n_int (by decide +kernel) (pa_cons (pe_op op_mul (pv 4) (pe_op op_add (pe_op op_fdivN (pv 4) pe_int) pe_int)) pa_nil)) pe_int)) (pss_one (ps_ret (pe_op op_modN (pe_callTy (T := "int") call_int1 (by rfl) T.n_int (by decide +kernel) (pa_cons (pe_op op_fdivN (pv 4) pe_int) pa_nil)) (pv 1)))))))))))
theorem sc__law_mixed : FnScope ["pool", "things", "left", "put", "k"] ["pool", "things"] (defScope s__law_mixed) := ⟨rfl, rfl, rfl, by decide +kernel, rfl, by decide +kernel, by decide +kernel⟩
theorem bn__law_mixed (T : Facts K mg) : Binds K T.fd__law_mixed ["pool", "things"] [] := T.F__law_mixed.binds fun _ _ _ _ _ _ us hl => match us, hl with | [_, _], _ => rfl
theorem ok__law_mixed (T : Facts K mg) : FnOk P w K mg base CX0 2 T.f__law_mixed T.fd__law_mixed ["pool", "things"] (SpM (S0 T) [true, false] m__law_mixed_2) := by
  refine fn_ok (N := ["pool", "things", "left", "put", "k"]) (body := b__law_mixed_2) (Γe := []) T.F__law_mixed sc__law_mixed rfl (by decide) (fun cdv A outer s H E hr => ⟨_, pss_cons (ps_set (i := 2) sc__law_mixed.nd rfl (by first | exact Or.inl rfl | exact Or.inr rfl) (pe_callTy (T := "list") (k_listA (K := K) rfl rfl) (by rfl) T.n_list (by decide +kernel) (pa_cons (pv 1) pa_nil))) (pss_cons (ps_set (i := 3) sc__law_mixed.nd rfl (by first | exact Or.inl rfl | exact Or.inr rfl) (pe_lst pa_nil)) (pss_cons (ps_for PassesOwn.never rfl (pi_range1 (by rfl) T.n_range (pa_cons (pe_callB (id := "len") (k_lenA (K := K) rfl) (by rfl) T.n_len (by decide +kernel) (pa_cons (pv 1) pa_nil)) pa_nil)) (pg_name (i := 4) sc__law_mixed.nd rfl (by first | exact Or.inl rfl | exact Or.inr rfl)) (pss_one (ps_expr (pe_bm PySem.F.plainAttrs_list PySem.F.slot_list_append PySem.F.type_list_append mt_append (pv 3) (pa_cons (pe_bm PySem.F.plainAttrs_list PySem.F.slot_list_pop PySem.F.type_list_pop mt_popAt (pv 2) (pa_cons (pe_call (ok__law_draw T) (hr.mono (by first | decide | omega)) (by rfl) T.m__law_draw T.F__law_draw.kp (bn__law_draw T) .nil pass0 (pa_cons (pv 0) (pa_cons (pe_callB (id := "len") (k_lenA (K := K) rfl) (by rfl) T.n_len (by decide +kernel) (pa_cons (pv 2) pa_nil)) pa_nil))) pa_nil)) pa_nil))))) (pss_one (ps_ret (pv 3))))), fun q => ?_⟩)
  exact sim_seq (sim_setO (i := 2) free_nil (by decide) (sim_call1 sc_listA (sim_varF (i := 1) rfl))) (sim_seq (sim_setO (i := 3) free_nil (by decide) (sim_lst siml_nil)) (sim_seq (sim_for (Γl := [.q, .f, .o, .o, .x]) (simi_rng1 (sim_call1 sc_lenA (sim_varF (i := 1) rfl))) rfl rfl (simg_name (i := 4) free_nil (by decide) (by decide)) (sim_appE (j := 3) rfl (sim_pop (i := 2) rfl (sim_call rfl mo__law_draw (sima_dice (i := 0) rfl (sima_val (sim_call1 sc_lenA (sim_varO (i := 2) rfl)) sima_nil))))) rfl) (sim_retO (i := 3) rfl)))
theorem sc__law_some_pairs : FnScope ["pool", "many", "every", "one", "kind", "thin", "pair", "other"] ["pool", "many"] (defScope s__law_some_pairs) := ⟨rfl, rfl, rfl, by decide +kernel, rfl, by decide +kernel, by decide +kernel⟩
theorem bn__law_some_pairs (T : Facts K mg) : Binds K T.fd__law_some_pairs ["pool", "many"] [] := T.F__law_some_pairs.binds fun _ _ _ _ _ _ us hl => match us, hl with | [_, _], _ => rfl
theorem ok__law_some_pairs (T : Facts K mg) : FnOk P w K mg base CX0 2 T.f__law_some_pairs T.fd__law_some_pairs ["pool", "many"] (SpM (S0 T) [true, false] m__law_some_pairs) := by
  refine fn_ok (N := ["pool", "many", "every", "one", "kind", "thin", "pair", "other"]) (body := b__law_some_pairs) (Γe := []) T.F__law_some_pairs sc__law_some_pairs rfl (by decide) (fun cdv A outer s H E hr => ⟨_, pss_cons (ps_set (i := 2) sc__law_some_pairs.nd rfl (by first | exact Or.inl rfl | exact Or.inr rfl) (pe_lst pa_nil)) (pss_cons (ps_for PassesOwn.never rfl (pi_range1 (by rfl) T.n_range (pa_cons (pv 1) pa_nil)) (pg_name (i := 3) sc__law_some_pairs.nd rfl (by first | exact Or.inl rfl | exact Or.inr rfl)) (pss_one (ps_set (i := 2) sc__law_some_pairs.nd rfl (by first | exact Or.inl rfl | exact Or.inr rfl) (pe_op (k_add (K := K) rfl) (pv 2) (pe_lc (own := [("other", 7)]) rfl sc__law_some_pairs.nd (pi_range2 (by rfl) T.n_range (pa_cons (pe_op (k_add (K := K) rfl) (pv 3) pe_int) (pa_cons (pv 1) pa_nil))) (blkOk_by (by rfl)) (fun _ _ _ _ _ => (pg_name (i := 7) sc__law_some_pairs.nd rfl (by first | exact Or.inl rfl | exact Or.inr rfl))) (fun _ _ _ _ _ => pts_nil) (fun _ _ _ _ _ => pe_tup (pa_cons (pv 3) (pa_cons (pv 7) pa_nil)))))))) (pss_cons (ps_set (i := 4) sc__law_some_pairs.nd rfl (by first | exact Or.inl rfl | exact Or.inr rfl) (pe_call (ok__law_draw T) (hr.mono (by first | decide | omega)) (by rfl) T.m__law_draw T.F__law_draw.kp (bn__law_draw T) .nil pass0 (pa_cons (pv 0) (pa_cons pe_int pa_nil)))) (pss_cons (ps_if (pt_cmpR (k_eq (K := K) rfl (rm64 hr)) (pv 4) pe_int (nomark _)) (pss_one (ps_ret (pe_callTy (T := "tuple") (k_tuple (K := K) rfl) (by rfl) T.n_tuple (by decide +kernel) (pa_cons (pv 2) pa_nil)))) pss_nil) (pss_cons (ps_if (pt_cmpR (k_eq (K := K) rfl (rm64 hr)) (pv 4) pe_int (nomark _)) (pss_one (ps_ret (pe_callTy (T := "tuple") (k_tuple (K := K) rfl) (by rfl) T.n_tuple (by decide +kernel) (pa_cons (pe_lc (own := [("pair", 6)]) rfl sc__law_some_pairs.nd (k_seq (K := K) rfl (pv 2)) (blkOk_by (by rfl)) (fun _ _ _ _ _ => (pg_name (i := 6) sc__law_some_pairs.nd rfl (by first | exact Or.inl rfl | exact Or.inr rfl))) (fun _ _ _ _ _ => pts_one (pt_cmpR (k_eq (K := K) rfl (rm64 hr)) (pe_ix (k_ix (K := K) rfl (rm1 hr)) (pv 6) pe_int (fun _ _ => rfl)) (pe_op (k_add (K := K) rfl) (pe_ix (k_ix (K := K) rfl (rm1 hr)) (pv 6) pe_int (fun _ _ => rfl)) pe_int) (nomark _))) (fun _ _ _ _ _ => (pv 6))) pa_nil)))) pss_nil) (pss_cons (ps_set (i := 5) sc__law_some_pairs.nd rfl (by first | exact Or.inl rfl | exact Or.inr rfl) (pe_ix (k_ix (K := K) rfl (rm1 hr)) (pe_lst (pa_cons pe_int (pa_cons pe_int (pa_cons pe_int pa_nil)))) (pe_op op_sub (pv 4) pe_int) (fun _ _ => rfl))) (pss_cons (ps_if (pt_cmpR (k_eq (K := K) rfl (rm64 hr)) (pv 4) pe_int (nomark _)) (pss_one (ps_ret (pe_callTy (T := "tuple") (k_tuple (K := K) rfl) (by rfl) T.n_tuple (by decide +kernel) (pa_cons (pe_lc (own := [("pair", 6)]) rfl sc__law_some_pairs.nd (k_seq (K := K) rfl (pv 2)) (blkOk_by (by rfl)) (fun _ _ _ _ _ => (pg_name (i := 6) sc__law_some_pairs.nd rfl (by first | exact Or.inl rfl | exact Or.inr rfl))) (fun _ _ _ _ _ => pts_one (pt_cmpR op_gt (pe_call (ok__law_draw T) (hr.mono (by first | decide | omega)) (by rfl) T.m__law_draw T.F__law_draw.kp (bn__law_draw T) .nil pass0 (pa_cons (pv 0) (pa_cons (pv 5) pa_nil))) pe_int (nomark _))) (fun _ _ _ _ _ => (pv 6))) pa_nil)))) pss_nil) (pss_one (ps_ret (pe_callTy (T := "tuple") (k_tuple (K := K) rfl) (by rfl) T.n_tuple (by decide +kernel) (pa_cons (pe_lc (own := [("pair", 6)]) rfl sc__law_some_pairs.nd (k_seq (K := K) rfl (pv 2)) (blkOk_by (by rfl)) (fun _ _ _ _ _ => (pg_name (i := 6) sc__law_some_pairs.nd rfl (by first | exact Or.inl rfl | exact Or.inr rfl))) (fun _ _ _ _ _ => pts_one (pt_cmpR (k_eq (K := K) rfl (rm64 hr)) (pe_call (ok__law_draw T) (hr.mono (by first | decide | omega)) (by rfl) T.m__law_draw T.F__law_draw.kp (bn__law_draw T) .nil pass0 (pa_cons (pv 0) (pa_cons (pv 5) pa_nil))) pe_int (nomark _))) (fun _ _ _ _ _ => (pv 6))) pa_nil)))))))))), fun q => ?_⟩)
  exact sim_seq (sim_setO (i := 2) free_nil (by decide) (sim_lst siml_nil)) (sim_seq (sim_for (Γl := [.q, .f, .o, .x, .x, .x, .x, .x]) (simi_rng1 (sim_varF (i := 1) rfl)) rfl rfl (simg_name (i := 3) free_nil (by decide) (by decide)) (sim_setO (i := 2) free_nil (by decide) (sim_op so_add (sim_varO (i := 2) rfl) (sim_lc (Γf := [.q, .f, .o, .f, .x, .x, .x, .x]) (ws := [7]) (ks := [7]) (by intro k hk; exact free_nil) (simi_rng2 (sim_op so_add (sim_varF (i := 3) rfl) sim_int) (sim_varF (i := 1) rfl)) rfl rfl (simg_name (i := 7) free_nil (by decide) (by decide)) (by decide) simt_yes (sim_tup (siml_cons (A := .own) (B := .own) (sim_imm (sim_varF (i := 3) rfl)) (siml_cons (A := .own) (B := .own) (sim_imm (sim_varF (i := 7) rfl)) siml_nil)))))) rfl) (sim_seq (sim_setO (i := 4) free_nil (by decide) (sim_call rfl mo__law_draw (sima_dice (i := 0) rfl (sima_val sim_int sima_nil)))) (sim_seq (sim_if (simt_test (sim_op so_eq (sim_varO (i := 4) rfl) sim_int)) (sim_ret (sim_call1 sc_tup (sim_varO (i := 2) rfl))) sim_next) (sim_seq (sim_if (simt_test (sim_op so_eq (sim_varO (i := 4) rfl) sim_int)) (sim_ret (sim_call1 sc_tup (sim_lc (Γf := [.q, .f, .f, .x, .o, .x, .x, .x]) (ws := [6]) (ks := [6]) (by intro k hk; exact free_nil) (simi_seq (sim_varO (i := 2) rfl)) rfl rfl (simg_name (i := 6) free_nil (by decide) (by decide)) (by decide) (simt_test (sim_op so_eq (sim_part so_ix (sim_varF (i := 6) rfl) sim_int) (sim_op so_add (sim_part so_ix (sim_varF (i := 6) rfl) sim_int) sim_int))) (sim_imm (sim_varF (i := 6) rfl))))) sim_next) (sim_seq (sim_setO (i := 5) free_nil (by decide) (sim_part so_ix (sim_lst (siml_cons (A := .own) (B := .own) sim_int (siml_cons (A := .own) (B := .own) sim_int (siml_cons (A := .own) (B := .own) sim_int siml_nil)))) (sim_op so_sub (sim_varO (i := 4) rfl) sim_int))) (sim_seq (sim_if (simt_test (sim_op so_eq (sim_varO (i := 4) rfl) sim_int)) (sim_ret (sim_call1 sc_tup (sim_lc (Γf := [.q, .f, .f, .x, .o, .o, .x, .x]) (ws := [6]) (ks := [6]) (by intro k hk; exact free_nil) (simi_seq (sim_varO (i := 2) rfl)) rfl rfl (simg_name (i := 6) free_nil (by decide) (by decide)) (by decide) (simt_test (sim_op so_gt (sim_call rfl mo__law_draw (sima_dice (i := 0) rfl (sima_val (sim_varO (i := 5) rfl) sima_nil))) sim_int)) (sim_imm (sim_varF (i := 6) rfl))))) sim_next) (sim_ret (sim_call1 sc_tup (sim_lc (Γf := [.q, .f, .f, .x, .o, .o, .x, .x]) (ws := [6]) (ks := [6]) (by intro k hk; exact free_nil) (simi_seq (sim_varO (i := 2) rfl)) rfl rfl (simg_name (i := 6) free_nil (by decide) (by decide)) (by decide) (simt_test (sim_op so_eq (sim_call rfl mo__law_draw (sima_dice (i := 0) rfl (sima_val (sim_varO (i := 5) rfl) sima_nil))) sim_int)) (sim_imm (sim_varF (i := 6) rfl)))))))))))
theorem sc__law_crowds : FnScope ["many", "pairs", "found", "work", "lot", "one"] ["many", "pairs"] (defScope s__law_crowds) := ⟨rfl, rfl, rfl, by decide +kernel, rfl, by decide +kernel, by decide +kernel⟩
theorem bn__law_crowds (T : Facts K mg) : Binds K T.fd__law_crowds ["many", "pairs"] [] := T.F__law_crowds.binds fun _ _ _ _ _ _ us hl => match us, hl with | [_, _], _ => rfl
theorem ok__law_crowds (T : Facts K mg) : FnOk P w K mg base CX0 1 T.f__law_crowds T.fd__law_crowds ["many", "pairs"] (SpM (S0 T) [false, false] m__law_crowds) := by
  refine fn_ok (N := ["many", "pairs", "found", "work", "lot", "one"]) (body := b__law_crowds) (Γe := []) T.F__law_crowds sc__law_crowds rfl (by decide) (fun cdv A outer s H E hr => ⟨_, pss_cons (ps_set (i := 2) sc__law_crowds.nd rfl (by first | exact Or.inl rfl | exact Or.inr rfl) (pe_lst (pa_cons (pe_tup pa_nil) pa_nil))) (pss_cons (ps_for PassesOwn.never rfl (pi_range1 (by rfl) T.n_range (pa_cons (pv 0) pa_nil)) (pg_name (i := 3) sc__law_crowds.nd rfl (by first | exact Or.inl rfl | exact Or.inr rfl)) (pss_one (ps_set (i := 2) sc__law_crowds.nd rfl (by first | exact Or.inl rfl | exact Or.inr rfl) (pe_op (k_add (K := K) rfl) (pv 2) (pe_lc (own := [("lot", 4)]) rfl sc__law_crowds.nd (k_seq (K := K) rfl (pv 2)) (blkOk_by (by rfl)) (fun _ _ _ _ _ => (pg_name (i := 4) sc__law_crowds.nd rfl (by first | exact Or.inl rfl | exact Or.inr rfl))) (fun _ _ _ _ _ => pts_one (pt_cmpR (k_eq (K := K) rfl (rm64 hr)) (pe_callB (id := "len") (k_lenA (K := K) rfl) (by rfl) T.n_len (by decide +kernel) (pa_cons (pe_lc (own := [("one", 5)]) rfl sc__law_crowds.nd (k_seq (K := K) rfl (pv 4)) (blkOk_by (by rfl)) (fun _ _ _ _ _ => (pg_name (i := 5) sc__law_crowds.nd rfl (by first | exact Or.inl rfl | exact Or.inr rfl))) (fun _ _ _ _ _ => pts_one (pt_cmpR (k_notInT (K := K) rfl (rm65 hr)) (pe_tup (pa_cons (pv 5) (pa_cons (pv 3) pa_nil))) (pv 1) (by rfl))) (fun _ _ _ _ _ => (pv 5))) pa_nil)) pe_int (nomark _))) (fun _ _ _ _ _ => pe_op (k_add (K := K) rfl) (pv 4) (pe_tup (pa_cons (pv 3) pa_nil)))))))) (pss_one (ps_ret (pe_slice (k_sl (K := K) rfl) (pv 2) (po_some pe_int) po_none)))), fun q => ?_⟩)
  exact sim_seq (sim_setO (i := 2) free_nil (by decide) (sim_lst (siml_cons (A := .own) (B := .own) (sim_tup siml_nil) siml_nil))) (sim_seq (sim_for (Γl := [.f, .f, .o, .x, .x, .x]) (simi_rng1 (sim_varF (i := 0) rfl)) rfl rfl (simg_name (i := 3) free_nil (by decide) (by decide)) (sim_setO (i := 2) free_nil (by decide) (sim_op so_add (sim_varO (i := 2) rfl) (sim_lc (Γf := [.f, .f, .f, .f, .x, .x]) (ws := [4]) (ks := [4]) (by intro k hk; exact free_nil) (simi_seq (sim_varO (i := 2) rfl)) rfl rfl (simg_name (i := 4) free_nil (by decide) (by decide)) (by decide) (simt_test (sim_op so_eq (sim_call1 sc_lenA (sim_lc (Γf := [.f, .f, .f, .f, .f, .x]) (ws := [5]) (ks := [5]) (by intro k hk; exact free_nil) (simi_seq (sim_varF (i := 4) rfl)) rfl rfl (simg_name (i := 5) free_nil (by decide) (by decide)) (by decide) (simt_test (sim_op so_inT (sim_tup (siml_cons (A := .own) (B := .own) (sim_imm (sim_varF (i := 5) rfl)) (siml_cons (A := .own) (B := .own) (sim_imm (sim_varF (i := 3) rfl)) siml_nil))) (sim_varF (i := 1) rfl))) (sim_imm (sim_varF (i := 5) rfl)))) sim_int)) (sim_op so_add (sim_varF (i := 4) rfl) (sim_tup (siml_cons (A := .own) (B := .own) (sim_imm (sim_varF (i := 3) rfl)) siml_nil)))))) rfl) (sim_ret (sim_sl (sim_varO (i := 2) rfl) (simo_yes sim_int) simo_no)))
theorem sc__law_fewest : FnScope ["many", "pairs", "marks", "lots", "lot", "layer", "turn", "later", "mask", "work", "k", "one"] ["many", "pairs"] (defScope s__law_fewest) := ⟨rfl, rfl, rfl, by decide +kernel, rfl, by decide +kernel, by decide +kernel⟩
theorem bn__law_fewest (T : Facts K mg) : Binds K T.fd__law_fewest ["many", "pairs"] [] := T.F__law_fewest.binds fun _ _ _ _ _ _ us hl => match us, hl with | [_, _], _ => rfl
theorem ok__law_fewest (T : Facts K mg) : FnOk P w K mg base CX0 2 T.f__law_fewest T.fd__law_fewest ["many", "pairs"] (SpM (S0 T) [false, false] m__law_fewest) := by
  refine fn_ok (N := ["many", "pairs", "marks", "lots", "lot", "layer", "turn", "later", "mask", "work", "k", "one"]) (body := b__law_fewest) (Γe := []) T.F__law_fewest sc__law_fewest rfl (by decide) (fun cdv A outer s H E hr => ⟨_, pss_cons (ps_set (i := 2) sc__law_fewest.nd rfl (by first | exact Or.inl rfl | exact Or.inr rfl) (pe_op (k_add (K := K) rfl) (pe_lc (own := [("work", 9)]) rfl sc__law_fewest.nd (pi_range1 (by rfl) T.n_range (pa_cons (pv 0) pa_nil)) (blkOk_by (by rfl)) (fun _ _ _ _ _ => (pg_name (i := 9) sc__law_fewest.nd rfl (by first | exact Or.inl rfl | exact Or.inr rfl))) (fun _ _ _ _ _ => pts_nil) (fun _ _ _ _ _ => pe_tup (pa_cons (pv 9) pa_nil))) (pe_callTy (T := "list") (k_listA (K := K) rfl rfl) (by rfl) T.n_list (by decide +kernel) (pa_cons (pv 1) pa_nil)))) (pss_cons (ps_set (i := 3) sc__law_fewest.nd rfl (by first | exact Or.inl rfl | exact Or.inr rfl) (pe_lst pa_nil)) (pss_cons (ps_for PassesOwn.never rfl (k_seq (K := K) rfl (pe_call (ok__law_crowds T) (hr.mono (by first | decide | omega)) (by rfl) T.m__law_crowds T.F__law_crowds.kp (bn__law_crowds T) .nil pass0 (pa_cons (pv 0) (pa_cons (pv 1) pa_nil)))) (pg_name (i := 4) sc__law_fewest.nd rfl (by first | exact Or.inl rfl | exact Or.inr rfl)) (pss_one (ps_expr (pe_bm PySem.F.plainAttrs_list PySem.F.slot_list_append PySem.F.type_list_append mt_append (pv 3) (pa_cons (pe_callB (id := "sum") (k_sum (K := K) rfl rfl) (by rfl) T.n_sum (by decide +kernel) (pa_cons (pe_lc (own := [("k", 10)]) rfl sc__law_fewest.nd (pi_range1 (by rfl) T.n_range (pa_cons (pe_callB (id := "len") (k_lenA (K := K) rfl) (by rfl) T.n_len (by decide +kernel) (pa_cons (pv 2) pa_nil)) pa_nil)) (blkOk_by (by rfl)) (fun _ _ _ _ _ => (pg_name (i := 10) sc__law_fewest.nd rfl (by first | exact Or.inl rfl | exact Or.inr rfl))) (fun _ _ _ _ _ => pts_one (pt_cmpR (k_eq (K := K) rfl (rm64 hr)) (pe_callB (id := "len") (k_lenA (K := K) rfl) (by rfl) T.n_len (by decide +kernel) (pa_cons (pe_lc (own := [("one", 11)]) rfl sc__law_fewest.nd (k_seq (K := K) rfl (pe_ix (k_ix (K := K) rfl (rm1 hr)) (pv 2) (pv 10) (fun _ _ => rfl))) (blkOk_by (by rfl)) (fun _ _ _ _ _ => (pg_name (i := 11) sc__law_fewest.nd rfl (by first | exact Or.inl rfl | exact Or.inr rfl))) (fun _ _ _ _ _ => pts_one (pt_cmpR (k_notIn (K := K) rfl (rm65 hr)) (pv 11) (pv 4) (by rfl))) (fun _ _ _ _ _ => (pv 11))) pa_nil)) pe_int (nomark _))) (fun _ _ _ _ _ => pe_op op_shl pe_int (pv 10))) pa_nil)) pa_nil))))) (pss_cons (ps_set (i := 5) sc__law_fewest.nd rfl (by first | exact Or.inl rfl | exact Or.inr rfl) (pe_dispN1 (rm64 hr) pe_int pe_bl)) (pss_cons (ps_for PassesOwn.never rfl (pi_range1 (by rfl) T.n_range (pa_cons pe_int pa_nil)) (pg_name (i := 6) sc__law_fewest.nd rfl (by first | exact Or.inl rfl | exact Or.inr rfl)) (pss_cons (ps_if (pt_cmpR (k_inN (rm64 hr)) (pe_op op_sub (pe_op op_shl pe_int (pe_callB (id := "len") (k_lenA (K := K) rfl) (by rfl) T.n_len (by decide +kernel) (pa_cons (pv 2) pa_nil))) pe_int) (pv 5) (by rfl)) (pss_one (ps_ret (pv 6))) pss_nil) (pss_cons (ps_set (i := 7) sc__law_fewest.nd rfl (by first | exact Or.inl rfl | exact Or.inr rfl) pe_dnewK) (pss_cons (ps_lock (ps_for PassesOwn.never rfl (pi_keysN (pv 5)) (pg_name (i := 8) sc__law_fewest.nd rfl (by first | exact Or.inl rfl | exact Or.inr rfl)) (pss_one (ps_for PassesOwn.never rfl (k_seq (K := K) rfl (pv 3)) (pg_name (i := 4) sc__law_fewest.nd rfl (by first | exact Or.inl rfl | exact Or.inr rfl)) (pss_one (ps_asg pe_bl (pg_sub (pv 7) (pe_op op_or (pv 8) (pv 4)) (set_N (rm64 hr))))))))) (pss_one (ps_set (i := 5) sc__law_fewest.nd rfl (by first | exact Or.inl rfl | exact Or.inr rfl) (pv 7))))))) (pss_one (ps_ret pe_non)))))), fun q => ?_⟩)
  exact sim_seq (sim_setO (i := 2) free_nil (by decide) (sim_op so_add (sim_lc (Γf := [.f, .f, .x, .x, .x, .x, .x, .x, .x, .x, .x, .x]) (ws := [9]) (ks := [9]) (by intro k hk; exact free_nil) (simi_rng1 (sim_varF (i := 0) rfl)) rfl rfl (simg_name (i := 9) free_nil (by decide) (by decide)) (by decide) simt_yes (sim_tup (siml_cons (A := .own) (B := .own) (sim_imm (sim_varF (i := 9) rfl)) siml_nil))) (sim_call1 sc_listA (sim_varF (i := 1) rfl)))) (sim_seq (sim_setO (i := 3) free_nil (by decide) (sim_lst siml_nil)) (sim_seq (sim_for (Γl := [.f, .f, .o, .o, .x, .x, .x, .x, .x, .x, .x, .x]) (simi_seq (sim_call rfl mo__law_crowds (sima_val (sim_varF (i := 0) rfl) (sima_val (sim_varF (i := 1) rfl) sima_nil)))) rfl rfl (simg_name (i := 4) free_nil (by decide) (by decide)) (sim_app (i := 3) rfl (sim_call1 sc_sum (sim_lc (Γf := [.f, .f, .o, .o, .f, .x, .x, .x, .x, .x, .x, .x]) (ws := [10]) (ks := [10]) (by intro k hk; exact free_nil) (simi_rng1 (sim_call1 sc_lenA (sim_varO (i := 2) rfl))) rfl rfl (simg_name (i := 10) free_nil (by decide) (by decide)) (by decide) (simt_test (sim_op so_eq (sim_call1 sc_lenA (sim_lc (Γf := [.f, .f, .f, .o, .f, .x, .x, .x, .x, .x, .f, .x]) (ws := [11]) (ks := [11]) (by intro k hk; exact free_nil) (simi_seq (sim_part so_ix (sim_varO (i := 2) rfl) (sim_varF (i := 10) rfl))) rfl rfl (simg_name (i := 11) free_nil (by decide) (by decide)) (by decide) (simt_test (sim_op so_notIn (sim_varF (i := 11) rfl) (sim_varF (i := 4) rfl))) (sim_imm (sim_varF (i := 11) rfl)))) sim_int)) (sim_op so_shl sim_int (sim_varF (i := 10) rfl))))) rfl) (sim_seq (sim_setO (i := 5) free_nil (by decide) (sim_dispN1 sim_int sim_bl)) (sim_seq (sim_for (Γl := [.f, .f, .o, .f, .x, .o, .x, .x, .x, .x, .x, .x]) (simi_rng1 sim_int) rfl rfl (simg_name (i := 6) free_nil (by decide) (by decide)) (sim_seq (sim_if (simt_test (sim_op so_inN (sim_op so_sub (sim_op so_shl sim_int (sim_call1 sc_lenA (sim_varO (i := 2) rfl))) sim_int) (sim_varO (i := 5) rfl))) (sim_ret (sim_imm (sim_varF (i := 6) rfl))) sim_next) (sim_seq (sim_setO (i := 7) free_nil (by decide) sim_dnewK) (sim_seq (sim_forN (i := 5) (Γl := [.f, .f, .o, .f, .x, .x, .f, .o, .x, .x, .x, .x]) wk_kN rfl rfl (fun _ => (simg_name (i := 8) (free_1 (by decide)) (by decide) (by decide))) (fun _ => (sim_for (Γl := [.f, .f, .o, .f, .x, .x, .f, .o, .f, .x, .x, .x]) (simi_seq (sim_varF (i := 3) rfl)) rfl rfl (simg_name (i := 4) (free_1 (by decide)) (by decide) (by decide)) (sim_putN (i := 7) rfl sim_bl (sim_op so_bor (sim_varF (i := 8) rfl) (sim_varF (i := 4) rfl))) rfl)) rfl) (sim_setMv (i := 5) (j := 7) free_nil rfl (by decide) (by decide))))) rfl) (sim_ret sim_non)))))
theorem sc_law : FnScope ["script", "pool", "turn", "many", "pairs", "shown", "every", "one", "order", "beside", "other"] ["script"] (defScope s_law) := ⟨rfl, rfl, rfl, by decide +kernel, rfl, by decide +kernel, by decide +kernel⟩
theorem ok_law (T : Facts K mg) (hp : b_law_k50 lawEnds (List.replicate 11 none)) : FnOk P w K mg base CX0 12 T.f_law T.fd_law ["script"] (spLaw K) := by
  refine law_okP (N := ["script", "pool", "turn", "many", "pairs", "shown", "every", "one", "order", "beside", "other"]) (n := 9) (b := b_law_k50) (S := S0 T) (Γe := []) T.F_law sc_law rfl rfl (fun cdv A outer s H E hr => ⟨_, pss_cons (ps_set (i := 1) sc_law.nd rfl (by first | exact Or.inl rfl | exact Or.inr rfl) (pe_call (ok__law_pool T) (hr.mono (by decide)) (by rfl) T.m__law_pool T.F__law_pool.kp (bn__law_pool T) .nil pass0 (pa_cons (pv 0) pa_nil))) (pss_cons (ps_for PassesOwn.never rfl (pi_range1 (by rfl) T.n_range (pa_cons pe_int pa_nil)) (pg_name (i := 2) sc_law.nd rfl (by first | exact Or.inl rfl | exact Or.inr rfl)) (pss_cons (ps_set (i := 3) sc_law.nd rfl (by first | exact Or.inl rfl | exact Or.inr rfl) (pe_op (k_add (K := K) rfl) pe_int (pe_call (ok__law_draw T) (hr.mono (by first | decide | omega)) (by rfl) T.m__law_draw T.F__law_draw.kp (bn__law_draw T) .nil pass0 (pa_cons (pv 1) (pa_cons pe_int pa_nil))))) (pss_cons (ps_set (i := 4) sc_law.nd rfl (by first | exact Or.inl rfl | exact Or.inr rfl) (pe_call (ok__law_some_pairs T) (hr.mono (by first | decide | omega)) (by rfl) T.m__law_some_pairs T.F__law_some_pairs.kp (bn__law_some_pairs T) .nil pass0 (pa_cons (pv 1) (pa_cons (pv 3) pa_nil)))) (pss_cons (ps_set (i := 5) sc_law.nd rfl (by first | exact Or.inl rfl | exact Or.inr rfl) (pe_call (ok_fewest_desks T) (hr.mono (by first | decide | omega)) (by rfl) T.m_fewest_desks T.F_fewest_desks.kp (bn_fewest_desks T) .nil pass0 (pa_cons (pv 3) (pa_cons (pv 4) pa_nil)))) (pss_cons (ps_if (PW.pt (pw_or (pt_cmpR (k_ne (K := K) rfl (rm64 hr)) (pe_callB (id := "repr") k_repr (by rfl) T.n_repr (by decide +kernel) (pa_cons (pv 5) pa_nil)) (pe_callB (id := "repr") k_repr (by rfl) T.n_repr (by decide +kernel) (pa_cons (pe_call (ok__law_fewest T) (hr.mono (by first | decide | omega)) (by rfl) T.m__law_fewest T.F__law_fewest.kp (bn__law_fewest T) .nil pass0 (pa_cons (pv 3) (pa_cons (pv 4) pa_nil))) pa_nil)) (nomark _)) (pw_or1 (pt_cmpR op_gt (pv 5) pe_int (nomark _))))) (pss_one (ps_ret pe_bl)) pss_nil) (pss_cons (ps_if (PW.pt (pw_or (pt_cmpR (k_ne (K := K) rfl (rm64 hr)) (pe_call (ok_fewest_desks T) (hr.mono (by first | decide | omega)) (by rfl) T.m_fewest_desks T.F_fewest_desks.kp (bn_fewest_desks T) .nil pass0 (pa_cons (pv 3) (pa_cons (pe_tup pa_nil) pa_nil))) (pv 3) (nomark _)) (pw_or1 (pt_cmpR (k_ne (K := K) rfl (rm64 hr)) (k_fld (K := K) rfl (pe_call (ok_office_for T) (hr.mono (by first | decide | omega)) (by rfl) T.m_office_for T.F_office_for.kp (bn_office_for T) .nil pass0 (pa_cons (pv 3) (pa_cons (pe_tup pa_nil) pa_nil))) rfl) (pv 3) (nomark _))))) (pss_one (ps_ret pe_bl)) pss_nil) (pss_cons (ps_set (i := 6) sc_law.nd rfl (by first | exact Or.inl rfl | exact Or.inr rfl) (pe_lst pa_nil)) (pss_cons (ps_for PassesOwn.never rfl (pi_range1 (by rfl) T.n_range (pa_cons (pv 3) pa_nil)) (pg_name (i := 7) sc_law.nd rfl (by first | exact Or.inl rfl | exact Or.inr rfl)) (pss_one (ps_set (i := 6) sc_law.nd rfl (by first | exact Or.inl rfl | exact Or.inr rfl) (pe_op (k_add (K := K) rfl) (pv 6) (pe_lc (own := [("other", 10)]) rfl sc_law.nd (pi_range2 (by rfl) T.n_range (pa_cons (pe_op (k_add (K := K) rfl) (pv 7) pe_int) (pa_cons (pv 3) pa_nil))) (blkOk_by (by rfl)) (fun _ _ _ _ _ => (pg_name (i := 10) sc_law.nd rfl (by first | exact Or.inl rfl | exact Or.inr rfl))) (fun _ _ _ _ _ => pts_nil) (fun _ _ _ _ _ => pe_tup (pa_cons (pv 7) (pa_cons (pv 10) pa_nil)))))))) (pss_one (ps_if (pt_cmpR (k_ne (K := K) rfl (rm64 hr)) (pe_call (ok_fewest_desks T) (hr.mono (by first | decide | omega)) (by rfl) T.m_fewest_desks T.F_fewest_desks.kp (bn_fewest_desks T) .nil pass0 (pa_cons (pv 3) (pa_cons (pe_callTy (T := "tuple") (k_tuple (K := K) rfl) (by rfl) T.n_tuple (by decide +kernel) (pa_cons (pv 6) pa_nil)) pa_nil))) pe_int (nomark _)) (pss_one (ps_ret pe_bl)) pss_nil)))))))))) (pss_cons (ps_set (i := 8) sc_law.nd rfl (by first | exact Or.inl rfl | exact Or.inr rfl) (pe_call (ok__law_mixed T) (hr.mono (by first | decide | omega)) (by rfl) T.m__law_mixed T.F__law_mixed.kp (bn__law_mixed T) .nil pass0 (pa_cons (pv 1) (pa_cons (pe_lst (pa_cons pe_int (pa_cons pe_int (pa_cons pe_int (pa_cons pe_int (pa_cons pe_int pa_nil)))))) pa_nil)))) (pss_cons (ps_set (i := 9) sc_law.nd rfl (by first | exact Or.inl rfl | exact Or.inr rfl) (pe_lst pa_nil)) (pss_cons (ps_for PassesOwn.never rfl (k_seq (K := K) rfl (pe_slice (k_sl (K := K) rfl) (pv 8) po_none (po_some pe_int))) (pg_name (i := 7) sc_law.nd rfl (by first | exact Or.inl rfl | exact Or.inr rfl)) (pss_one (ps_set (i := 9) sc_law.nd rfl (by first | exact Or.inl rfl | exact Or.inr rfl) (pe_op (k_add (K := K) rfl) (pv 9) (pe_lc (own := [("other", 10)]) rfl sc_law.nd (k_seq (K := K) rfl (pe_slice (k_sl (K := K) rfl) (pv 8) (po_some pe_int) po_none)) (blkOk_by (by rfl)) (fun _ _ _ _ _ => (pg_name (i := 10) sc_law.nd rfl (by first | exact Or.inl rfl | exact Or.inr rfl))) (fun _ _ _ _ _ => pts_nil) (fun _ _ _ _ _ => pe_tup (pa_cons (pe_callB (call_min2 rfl) (by rfl) T.n_min (by decide +kernel) (pa_cons (pv 7) (pa_cons (pv 10) pa_nil))) (pa_cons (pe_callB (call_max2 rfl) (by rfl) T.n_max (by decide +kernel) (pa_cons (pv 7) (pa_cons (pv 10) pa_nil))) pa_nil)))))))) (pss_one (ps_ret (pe_and (pe_cmpR (k_eq (K := K) rfl (rm64 hr)) (pe_call (ok_fewest_desks T) (hr.mono (by first | decide | omega)) (by rfl) T.m_fewest_desks T.F_fewest_desks.kp (bn_fewest_desks T) .nil pass0 (pa_cons pe_int (pa_cons (pe_callTy (T := "tuple") (k_tuple (K := K) rfl) (by rfl) T.n_tuple (by decide +kernel) (pa_cons (pe_callB (id := "sorted") (k_sortA (K := K) rfl) (by rfl) T.n_sorted (by decide +kernel) (pa_cons (pv 9) pa_nil)) pa_nil)) pa_nil))) pe_int (nomark _)) (pe_one (pe_cmpR (k_eq (K := K) rfl (rm64 hr)) (pe_call (ok__law_fewest T) (hr.mono (by first | decide | omega)) (by rfl) T.m__law_fewest T.F__law_fewest.kp (bn__law_fewest T) .nil pass0 (pa_cons pe_int (pa_cons (pe_callTy (T := "tuple") (k_tuple (K := K) rfl) (by rfl) T.n_tuple (by decide +kernel) (pa_cons (pe_callB (id := "sorted") (k_sortA (K := K) rfl) (by rfl) T.n_sorted (by decide +kernel) (pa_cons (pv 9) pa_nil)) pa_nil)) pa_nil))) pe_int (nomark _)))))))))), fun q => ?_⟩) hp
  exact sim_seq (sim_for (Γl := [.x, .q, .x, .x, .x, .x, .x, .x, .x, .x, .x]) (simi_rng1 sim_int) rfl rfl (simg_name (i := 2) free_nil (by decide) (by decide)) (sim_seq (sim_setO (i := 3) free_nil (by decide) (sim_op so_add sim_int (sim_call rfl mo__law_draw (sima_dice (i := 1) rfl (sima_val sim_int sima_nil))))) (sim_seq (sim_setO (i := 4) free_nil (by decide) (sim_call rfl mo__law_some_pairs (sima_dice (i := 1) rfl (sima_val (sim_varO (i := 3) rfl) sima_nil)))) (sim_seq (sim_setO (i := 5) free_nil (by decide) (sim_call rfl mo_fewest_desks (sima_val (sim_varO (i := 3) rfl) (sima_val (sim_varO (i := 4) rfl) sima_nil)))) (sim_seq (sim_if (simt_or (simt_test (sim_op so_ne (sim_call1 sc_repr (sim_varO (i := 5) rfl)) (sim_call1 sc_repr (sim_call rfl mo__law_fewest (sima_val (sim_varO (i := 3) rfl) (sima_val (sim_varO (i := 4) rfl) sima_nil)))))) (simt_test (sim_op so_gt (sim_varO (i := 5) rfl) sim_int))) (sim_ret sim_bl) sim_next) (sim_seq (sim_if (simt_or (simt_test (sim_op so_ne (sim_call rfl mo_fewest_desks (sima_val (sim_varO (i := 3) rfl) (sima_val (sim_tup siml_nil) sima_nil))) (sim_varO (i := 3) rfl))) (simt_test (sim_op so_ne (sim_fld (c0 := 3) T.cl_Office T.na_Office_desks (sim_call rfl mo_office_for (sima_val (sim_varO (i := 3) rfl) (sima_val (sim_tup siml_nil) sima_nil)))) (sim_varO (i := 3) rfl)))) (sim_ret sim_bl) sim_next) (sim_seq (sim_setO (i := 6) free_nil (by decide) (sim_lst siml_nil)) (sim_seq (sim_for (Γl := [.x, .q, .f, .o, .o, .o, .o, .x, .x, .x, .x]) (simi_rng1 (sim_varO (i := 3) rfl)) rfl rfl (simg_name (i := 7) free_nil (by decide) (by decide)) (sim_setO (i := 6) free_nil (by decide) (sim_op so_add (sim_varO (i := 6) rfl) (sim_lc (Γf := [.x, .q, .f, .o, .o, .o, .o, .f, .x, .x, .x]) (ws := [10]) (ks := [10]) (by intro k hk; exact free_nil) (simi_rng2 (sim_op so_add (sim_varF (i := 7) rfl) sim_int) (sim_varO (i := 3) rfl)) rfl rfl (simg_name (i := 10) free_nil (by decide) (by decide)) (by decide) simt_yes (sim_tup (siml_cons (A := .own) (B := .own) (sim_imm (sim_varF (i := 7) rfl)) (siml_cons (A := .own) (B := .own) (sim_imm (sim_varF (i := 10) rfl)) siml_nil)))))) rfl) (sim_if (simt_test (sim_op so_ne (sim_call rfl mo_fewest_desks (sima_val (sim_varO (i := 3) rfl) (sima_val (sim_call1 sc_tup (sim_varO (i := 6) rfl)) sima_nil))) sim_int)) (sim_ret sim_bl) sim_next)))))))) rfl) (sim_seq (sim_setO (i := 8) free_nil (by decide) (sim_call rfl mo__law_mixed_2 (sima_dice (i := 1) rfl (sima_val (sim_lst (siml_cons (A := .own) (B := .own) sim_int (siml_cons (A := .own) (B := .own) sim_int (siml_cons (A := .own) (B := .own) sim_int (siml_cons (A := .own) (B := .own) sim_int (siml_cons (A := .own) (B := .own) sim_int siml_nil)))))) sima_nil)))) (sim_seq (sim_setO (i := 9) free_nil (by decide) (sim_lst siml_nil)) (sim_seq (sim_for (Γl := [.x, .q, .x, .x, .x, .x, .x, .x, .o, .o, .x]) (simi_seq (sim_sl (sim_varO (i := 8) rfl) simo_no (simo_yes sim_int))) rfl rfl (simg_name (i := 7) free_nil (by decide) (by decide)) (sim_setO (i := 9) free_nil (by decide) (sim_op so_add (sim_varO (i := 9) rfl) (sim_lc (Γf := [.x, .q, .x, .x, .x, .x, .x, .f, .o, .o, .x]) (ws := [10]) (ks := [10]) (by intro k hk; exact free_nil) (simi_seq (sim_sl (sim_varO (i := 8) rfl) (simo_yes sim_int) simo_no)) rfl rfl (simg_name (i := 10) free_nil (by decide) (by decide)) (by decide) simt_yes (sim_tup (siml_cons (A := .own) (B := .own) (sim_call2 sc_min2 (sim_varF (i := 7) rfl) (sim_varF (i := 10) rfl)) (siml_cons (A := .own) (B := .own) (sim_call2 sc_max2 (sim_varF (i := 7) rfl) (sim_varF (i := 10) rfl)) siml_nil)))))) rfl) (sim_ret (sim_and (sim_op so_eq (sim_call rfl mo_fewest_desks (sima_val sim_int (sima_val (sim_call1 sc_tup (sim_call1 sc_sortA (sim_varO (i := 9) rfl))) sima_nil))) sim_int) (sim_op so_eq (sim_call rfl mo__law_fewest (sima_val sim_int (sima_val (sim_call1 sc_tup (sim_call1 sc_sortA (sim_varO (i := 9) rfl))) sima_nil))) sim_int))))))
end
theorem all_mk {l : PySem.W.OpenLaw} {w : World} {K : PySem.W.Frag} {h : Heap} {mg : Str → Option Value} {fa f_is_integer f_is_number f_is_below f_is_lot f_all_lots f_pairs_of f_are_office_works f_are_pairs f_teams_of f_is_within_team f_covered f_fewest_teams f_office_for f_fewest_desks f__law_pool f__law_draw f__law_mixed f__law_some_pairs f__law_crowds f__law_fewest f_law C_Office f_Office_init : Addr}
    {od_is_integer an_is_integer : Option Addr} {sl_is_integer : Array (Option Value)} {oc_is_integer kV_is_integer dc_is_integer pm_is_integer cd_is_integer ct_is_integer : Value}
    {od_is_number an_is_number : Option Addr} {sl_is_number : Array (Option Value)} {oc_is_number kV_is_number dc_is_number pm_is_number cd_is_number ct_is_number : Value}
    {od_is_below an_is_below : Option Addr} {sl_is_below : Array (Option Value)} {oc_is_below kV_is_below dc_is_below pm_is_below cd_is_below ct_is_below : Value}
    {od_is_lot an_is_lot : Option Addr} {sl_is_lot : Array (Option Value)} {oc_is_lot kV_is_lot dc_is_lot pm_is_lot cd_is_lot ct_is_lot : Value}
    {od_all_lots an_all_lots : Option Addr} {sl_all_lots : Array (Option Value)} {oc_all_lots kV_all_lots dc_all_lots pm_all_lots cd_all_lots ct_all_lots : Value}
    {od_pairs_of an_pairs_of : Option Addr} {sl_pairs_of : Array (Option Value)} {oc_pairs_of kV_pairs_of dc_pairs_of pm_pairs_of cd_pairs_of ct_pairs_of : Value}
    {od_are_office_works an_are_office_works : Option Addr} {sl_are_office_works : Array (Option Value)} {oc_are_office_works kV_are_office_works dc_are_office_works pm_are_office_works cd_are_office_works ct_are_office_works : Value}
    {od_are_pairs an_are_pairs : Option Addr} {sl_are_pairs : Array (Option Value)} {oc_are_pairs kV_are_pairs dc_are_pairs pm_are_pairs cd_are_pairs ct_are_pairs : Value}
    {od_teams_of an_teams_of : Option Addr} {sl_teams_of : Array (Option Value)} {oc_teams_of kV_teams_of dc_teams_of pm_teams_of cd_teams_of ct_teams_of : Value}
    {od_is_within_team an_is_within_team : Option Addr} {sl_is_within_team : Array (Option Value)} {oc_is_within_team kV_is_within_team dc_is_within_team pm_is_within_team cd_is_within_team ct_is_within_team : Value}
    {od_covered an_covered : Option Addr} {sl_covered : Array (Option Value)} {oc_covered kV_covered dc_covered pm_covered cd_covered ct_covered : Value}
    {od_fewest_teams an_fewest_teams : Option Addr} {sl_fewest_teams : Array (Option Value)} {oc_fewest_teams kV_fewest_teams dc_fewest_teams pm_fewest_teams cd_fewest_teams ct_fewest_teams : Value}
    {od_office_for an_office_for : Option Addr} {sl_office_for : Array (Option Value)} {oc_office_for kV_office_for dc_office_for pm_office_for cd_office_for ct_office_for : Value}
    {od_fewest_desks an_fewest_desks : Option Addr} {sl_fewest_desks : Array (Option Value)} {oc_fewest_desks kV_fewest_desks dc_fewest_desks pm_fewest_desks cd_fewest_desks ct_fewest_desks : Value}
    {od__law_pool an__law_pool : Option Addr} {sl__law_pool : Array (Option Value)} {oc__law_pool kV__law_pool dc__law_pool pm__law_pool cd__law_pool ct__law_pool : Value}
    {od__law_draw an__law_draw : Option Addr} {sl__law_draw : Array (Option Value)} {oc__law_draw kV__law_draw dc__law_draw pm__law_draw cd__law_draw ct__law_draw : Value}
    {od__law_mixed an__law_mixed : Option Addr} {sl__law_mixed : Array (Option Value)} {oc__law_mixed kV__law_mixed dc__law_mixed pm__law_mixed cd__law_mixed ct__law_mixed : Value}
    {od__law_some_pairs an__law_some_pairs : Option Addr} {sl__law_some_pairs : Array (Option Value)} {oc__law_some_pairs kV__law_some_pairs dc__law_some_pairs pm__law_some_pairs cd__law_some_pairs ct__law_some_pairs : Value}
    {od__law_crowds an__law_crowds : Option Addr} {sl__law_crowds : Array (Option Value)} {oc__law_crowds kV__law_crowds dc__law_crowds pm__law_crowds cd__law_crowds ct__law_crowds : Value}
    {od__law_fewest an__law_fewest : Option Addr} {sl__law_fewest : Array (Option Value)} {oc__law_fewest kV__law_fewest dc__law_fewest pm__law_fewest cd__law_fewest ct__law_fewest : Value}
    {od_law an_law : Option Addr} {sl_law : Array (Option Value)} {oc_law kV_law dc_law pm_law cd_law ct_law : Value}
    {od_Office_init an_Office_init : Option Addr} {sl_Office_init : Array (Option Value)} {oc_Office_init kV_Office_init dc_Office_init pm_Office_init cd_Office_init ct_Office_init : Value}
    {t_MOST_COVERED : Tok}
    {t_MOST_DESKS : Tok}
    {t_MOST_WORKS : Tok}
    (X : K.In h) (G : h.Ns mainGlobals mg) (hfa : mg "law" = some (.ref fa))
    (a_is_integer : PySem.W.nsIn K mainGlobals "is_integer" = some (some (.ref f_is_integer)))
    (l_is_integer : K.lookup f_is_integer = some ⟨oc_is_integer, od_is_integer, .func (PySem.W.fnOf "is_integer" "is_integer" (defArgs s_is_integer) (defBody s_is_integer) (defScope s_is_integer) .none kV_is_integer dc_is_integer pm_is_integer an_is_integer cd_is_integer ct_is_integer), sl_is_integer⟩)
    (c_is_integer : PySem.W.codeIn K cd_is_integer "is_integer" = true)
    (k_is_integer : PySem.W.keepIn K (.ref f_is_integer) = true)
    (a_is_number : PySem.W.nsIn K mainGlobals "is_number" = some (some (.ref f_is_number)))
    (l_is_number : K.lookup f_is_number = some ⟨oc_is_number, od_is_number, .func (PySem.W.fnOf "is_number" "is_number" (defArgs s_is_number) (defBody s_is_number) (defScope s_is_number) .none kV_is_number dc_is_number pm_is_number an_is_number cd_is_number ct_is_number), sl_is_number⟩)
    (c_is_number : PySem.W.codeIn K cd_is_number "is_number" = true)
    (k_is_number : PySem.W.keepIn K (.ref f_is_number) = true)
    (a_is_below : PySem.W.nsIn K mainGlobals "is_below" = some (some (.ref f_is_below)))
    (l_is_below : K.lookup f_is_below = some ⟨oc_is_below, od_is_below, .func (PySem.W.fnOf "is_below" "is_below" (defArgs s_is_below) (defBody s_is_below) (defScope s_is_below) .none kV_is_below dc_is_below pm_is_below an_is_below cd_is_below ct_is_below), sl_is_below⟩)
    (c_is_below : PySem.W.codeIn K cd_is_below "is_below" = true)
    (k_is_below : PySem.W.keepIn K (.ref f_is_below) = true)
    (a_is_lot : PySem.W.nsIn K mainGlobals "is_lot" = some (some (.ref f_is_lot)))
    (l_is_lot : K.lookup f_is_lot = some ⟨oc_is_lot, od_is_lot, .func (PySem.W.fnOf "is_lot" "is_lot" (defArgs s_is_lot) (defBody s_is_lot) (defScope s_is_lot) .none kV_is_lot dc_is_lot pm_is_lot an_is_lot cd_is_lot ct_is_lot), sl_is_lot⟩)
    (c_is_lot : PySem.W.codeIn K cd_is_lot "is_lot" = true)
    (k_is_lot : PySem.W.keepIn K (.ref f_is_lot) = true)
    (a_all_lots : PySem.W.nsIn K mainGlobals "all_lots" = some (some (.ref f_all_lots)))
    (l_all_lots : K.lookup f_all_lots = some ⟨oc_all_lots, od_all_lots, .func (PySem.W.fnOf "all_lots" "all_lots" (defArgs s_all_lots) (defBody s_all_lots) (defScope s_all_lots) .none kV_all_lots dc_all_lots pm_all_lots an_all_lots cd_all_lots ct_all_lots), sl_all_lots⟩)
    (c_all_lots : PySem.W.codeIn K cd_all_lots "all_lots" = true)
    (k_all_lots : PySem.W.keepIn K (.ref f_all_lots) = true)
    (a_pairs_of : PySem.W.nsIn K mainGlobals "pairs_of" = some (some (.ref f_pairs_of)))
    (l_pairs_of : K.lookup f_pairs_of = some ⟨oc_pairs_of, od_pairs_of, .func (PySem.W.fnOf "pairs_of" "pairs_of" (defArgs s_pairs_of) (defBody s_pairs_of) (defScope s_pairs_of) .none kV_pairs_of dc_pairs_of pm_pairs_of an_pairs_of cd_pairs_of ct_pairs_of), sl_pairs_of⟩)
    (c_pairs_of : PySem.W.codeIn K cd_pairs_of "pairs_of" = true)
    (k_pairs_of : PySem.W.keepIn K (.ref f_pairs_of) = true)
    (a_are_office_works : PySem.W.nsIn K mainGlobals "are_office_works" = some (some (.ref f_are_office_works)))
    (l_are_office_works : K.lookup f_are_office_works = some ⟨oc_are_office_works, od_are_office_works, .func (PySem.W.fnOf "are_office_works" "are_office_works" (defArgs s_are_office_works) (defBody s_are_office_works) (defScope s_are_office_works) .none kV_are_office_works dc_are_office_works pm_are_office_works an_are_office_works cd_are_office_works ct_are_office_works), sl_are_office_works⟩)
    (c_are_office_works : PySem.W.codeIn K cd_are_office_works "are_office_works" = true)
    (k_are_office_works : PySem.W.keepIn K (.ref f_are_office_works) = true)
    (a_are_pairs : PySem.W.nsIn K mainGlobals "are_pairs" = some (some (.ref f_are_pairs)))
    (l_are_pairs : K.lookup f_are_pairs = some ⟨oc_are_pairs, od_are_pairs, .func (PySem.W.fnOf "are_pairs" "are_pairs" (defArgs s_are_pairs) (defBody s_are_pairs) (defScope s_are_pairs) .none kV_are_pairs dc_are_pairs pm_are_pairs an_are_pairs cd_are_pairs ct_are_pairs), sl_are_pairs⟩)
    (c_are_pairs : PySem.W.codeIn K cd_are_pairs "are_pairs" = true)
    (k_are_pairs : PySem.W.keepIn K (.ref f_are_pairs) = true)
    (a_teams_of : PySem.W.nsIn K mainGlobals "teams_of" = some (some (.ref f_teams_of)))
    (l_teams_of : K.lookup f_teams_of = some ⟨oc_teams_of, od_teams_of, .func (PySem.W.fnOf "teams_of" "teams_of" (defArgs s_teams_of) (defBody s_teams_of) (defScope s_teams_of) .none kV_teams_of dc_teams_of pm_teams_of an_teams_of cd_teams_of ct_teams_of), sl_teams_of⟩)
    (c_teams_of : PySem.W.codeIn K cd_teams_of "teams_of" = true)
    (k_teams_of : PySem.W.keepIn K (.ref f_teams_of) = true)
    (a_is_within_team : PySem.W.nsIn K mainGlobals "is_within_team" = some (some (.ref f_is_within_team)))
    (l_is_within_team : K.lookup f_is_within_team = some ⟨oc_is_within_team, od_is_within_team, .func (PySem.W.fnOf "is_within_team" "is_within_team" (defArgs s_is_within_team) (defBody s_is_within_team) (defScope s_is_within_team) .none kV_is_within_team dc_is_within_team pm_is_within_team an_is_within_team cd_is_within_team ct_is_within_team), sl_is_within_team⟩)
    (c_is_within_team : PySem.W.codeIn K cd_is_within_team "is_within_team" = true)
    (k_is_within_team : PySem.W.keepIn K (.ref f_is_within_team) = true)
    (a_covered : PySem.W.nsIn K mainGlobals "covered" = some (some (.ref f_covered)))
    (l_covered : K.lookup f_covered = some ⟨oc_covered, od_covered, .func (PySem.W.fnOf "covered" "covered" (defArgs s_covered) (defBody s_covered) (defScope s_covered) .none kV_covered dc_covered pm_covered an_covered cd_covered ct_covered), sl_covered⟩)
    (c_covered : PySem.W.codeIn K cd_covered "covered" = true)
    (k_covered : PySem.W.keepIn K (.ref f_covered) = true)
    (a_fewest_teams : PySem.W.nsIn K mainGlobals "fewest_teams" = some (some (.ref f_fewest_teams)))
    (l_fewest_teams : K.lookup f_fewest_teams = some ⟨oc_fewest_teams, od_fewest_teams, .func (PySem.W.fnOf "fewest_teams" "fewest_teams" (defArgs s_fewest_teams) (defBody s_fewest_teams) (defScope s_fewest_teams) .none kV_fewest_teams dc_fewest_teams pm_fewest_teams an_fewest_teams cd_fewest_teams ct_fewest_teams), sl_fewest_teams⟩)
    (c_fewest_teams : PySem.W.codeIn K cd_fewest_teams "fewest_teams" = true)
    (k_fewest_teams : PySem.W.keepIn K (.ref f_fewest_teams) = true)
    (a_office_for : PySem.W.nsIn K mainGlobals "office_for" = some (some (.ref f_office_for)))
    (l_office_for : K.lookup f_office_for = some ⟨oc_office_for, od_office_for, .func (PySem.W.fnOf "office_for" "office_for" (defArgs s_office_for) (defBody s_office_for) (defScope s_office_for) .none kV_office_for dc_office_for pm_office_for an_office_for cd_office_for ct_office_for), sl_office_for⟩)
    (c_office_for : PySem.W.codeIn K cd_office_for "office_for" = true)
    (k_office_for : PySem.W.keepIn K (.ref f_office_for) = true)
    (a_fewest_desks : PySem.W.nsIn K mainGlobals "fewest_desks" = some (some (.ref f_fewest_desks)))
    (l_fewest_desks : K.lookup f_fewest_desks = some ⟨oc_fewest_desks, od_fewest_desks, .func (PySem.W.fnOf "fewest_desks" "fewest_desks" (defArgs s_fewest_desks) (defBody s_fewest_desks) (defScope s_fewest_desks) .none kV_fewest_desks dc_fewest_desks pm_fewest_desks an_fewest_desks cd_fewest_desks ct_fewest_desks), sl_fewest_desks⟩)
    (c_fewest_desks : PySem.W.codeIn K cd_fewest_desks "fewest_desks" = true)
    (k_fewest_desks : PySem.W.keepIn K (.ref f_fewest_desks) = true)
    (a__law_pool : PySem.W.nsIn K mainGlobals "_law_pool" = some (some (.ref f__law_pool)))
    (l__law_pool : K.lookup f__law_pool = some ⟨oc__law_pool, od__law_pool, .func (PySem.W.fnOf "_law_pool" "_law_pool" (defArgs s__law_pool) (defBody s__law_pool) (defScope s__law_pool) .none kV__law_pool dc__law_pool pm__law_pool an__law_pool cd__law_pool ct__law_pool), sl__law_pool⟩)
    (c__law_pool : PySem.W.codeIn K cd__law_pool "_law_pool" = true)
    (k__law_pool : PySem.W.keepIn K (.ref f__law_pool) = true)
    (a__law_draw : PySem.W.nsIn K mainGlobals "_law_draw" = some (some (.ref f__law_draw)))
    (l__law_draw : K.lookup f__law_draw = some ⟨oc__law_draw, od__law_draw, .func (PySem.W.fnOf "_law_draw" "_law_draw" (defArgs s__law_draw) (defBody s__law_draw) (defScope s__law_draw) .none kV__law_draw dc__law_draw pm__law_draw an__law_draw cd__law_draw ct__law_draw), sl__law_draw⟩)
    (c__law_draw : PySem.W.codeIn K cd__law_draw "_law_draw" = true)
    (k__law_draw : PySem.W.keepIn K (.ref f__law_draw) = true)
    (a__law_mixed : PySem.W.nsIn K mainGlobals "_law_mixed" = some (some (.ref f__law_mixed)))
    (l__law_mixed : K.lookup f__law_mixed = some ⟨oc__law_mixed, od__law_mixed, .func (PySem.W.fnOf "_law_mixed" "_law_mixed" (defArgs s__law_mixed) (defBody s__law_mixed) (defScope s__law_mixed) .none kV__law_mixed dc__law_mixed pm__law_mixed an__law_mixed cd__law_mixed ct__law_mixed), sl__law_mixed⟩)
    (c__law_mixed : PySem.W.codeIn K cd__law_mixed "_law_mixed" = true)
    (k__law_mixed : PySem.W.keepIn K (.ref f__law_mixed) = true)
    (a__law_some_pairs : PySem.W.nsIn K mainGlobals "_law_some_pairs" = some (some (.ref f__law_some_pairs)))
    (l__law_some_pairs : K.lookup f__law_some_pairs = some ⟨oc__law_some_pairs, od__law_some_pairs, .func (PySem.W.fnOf "_law_some_pairs" "_law_some_pairs" (defArgs s__law_some_pairs) (defBody s__law_some_pairs) (defScope s__law_some_pairs) .none kV__law_some_pairs dc__law_some_pairs pm__law_some_pairs an__law_some_pairs cd__law_some_pairs ct__law_some_pairs), sl__law_some_pairs⟩)
    (c__law_some_pairs : PySem.W.codeIn K cd__law_some_pairs "_law_some_pairs" = true)
    (k__law_some_pairs : PySem.W.keepIn K (.ref f__law_some_pairs) = true)
    (a__law_crowds : PySem.W.nsIn K mainGlobals "_law_crowds" = some (some (.ref f__law_crowds)))
    (l__law_crowds : K.lookup f__law_crowds = some ⟨oc__law_crowds, od__law_crowds, .func (PySem.W.fnOf "_law_crowds" "_law_crowds" (defArgs s__law_crowds) (defBody s__law_crowds) (defScope s__law_crowds) .none kV__law_crowds dc__law_crowds pm__law_crowds an__law_crowds cd__law_crowds ct__law_crowds), sl__law_crowds⟩)
    (c__law_crowds : PySem.W.codeIn K cd__law_crowds "_law_crowds" = true)
    (k__law_crowds : PySem.W.keepIn K (.ref f__law_crowds) = true)
    (a__law_fewest : PySem.W.nsIn K mainGlobals "_law_fewest" = some (some (.ref f__law_fewest)))
    (l__law_fewest : K.lookup f__law_fewest = some ⟨oc__law_fewest, od__law_fewest, .func (PySem.W.fnOf "_law_fewest" "_law_fewest" (defArgs s__law_fewest) (defBody s__law_fewest) (defScope s__law_fewest) .none kV__law_fewest dc__law_fewest pm__law_fewest an__law_fewest cd__law_fewest ct__law_fewest), sl__law_fewest⟩)
    (c__law_fewest : PySem.W.codeIn K cd__law_fewest "_law_fewest" = true)
    (k__law_fewest : PySem.W.keepIn K (.ref f__law_fewest) = true)
    (a_law : PySem.W.nsIn K mainGlobals "law" = some (some (.ref f_law)))
    (l_law : K.lookup f_law = some ⟨oc_law, od_law, .func (PySem.W.fnOf "law" "law" (defArgs s_law) (defBody s_law) (defScope s_law) .none kV_law dc_law pm_law an_law cd_law ct_law), sl_law⟩)
    (c_law : PySem.W.codeIn K cd_law "law" = true)
    (k_law : PySem.W.keepIn K (.ref f_law) = true)
    (a_Office : PySem.W.nsIn K mainGlobals "Office" = some (some (.ref C_Office)))
    (i_Office : PySem.W.findIn K (.ref C_Office) "__init__" = some (some (.ref f_Office_init)))
    (j_Office : PySem.W.isFn K (.ref f_Office_init) = true)
    (l_Office_init : K.lookup f_Office_init = some ⟨oc_Office_init, od_Office_init, .func (PySem.W.fnOf "__init__" "Office.__init__" (defArgs s_Office_init) (defBody s_Office_init) (defScope s_Office_init) .none kV_Office_init dc_Office_init pm_Office_init an_Office_init cd_Office_init ct_Office_init), sl_Office_init⟩)
    (c_Office_init : PySem.W.codeIn K cd_Office_init "Office.__init__" = true)
    (k_Office_init : PySem.W.keepIn K (.ref f_Office_init) = true)
    (pg_Office : PySem.W.plainGet K C_Office Str.empty = true)
    (hd_Office : PySem.W.hasDictIn K C_Office = true)
    (po_Office : PySem.W.plainOver K C_Office = true)
    (sa_Office : PySem.W.findIn K (.ref C_Office) "__setattr__" = some (some (.builtin "object.__setattr__")))
    (mk_Office : PySem.W.makesIn K C_Office = true)
    (kc_Office : PySem.W.keepIn K (.ref C_Office) = true)
    (na_Office_desks : PySem.W.findIn K (.ref C_Office) "desks" = some none)
    (na_Office_works : PySem.W.findIn K (.ref C_Office) "works" = some none)
    (n_abs : PySem.W.nsIn K mainGlobals "abs" = some none)
    (n_all : PySem.W.nsIn K mainGlobals "all" = some none)
    (n_bool : PySem.W.nsIn K mainGlobals "bool" = some none)
    (n_enumerate : PySem.W.nsIn K mainGlobals "enumerate" = some none)
    (n_int : PySem.W.nsIn K mainGlobals "int" = some none)
    (n_isinstance : PySem.W.nsIn K mainGlobals "isinstance" = some none)
    (n_len : PySem.W.nsIn K mainGlobals "len" = some none)
    (n_list : PySem.W.nsIn K mainGlobals "list" = some none)
    (n_max : PySem.W.nsIn K mainGlobals "max" = some none)
    (n_min : PySem.W.nsIn K mainGlobals "min" = some none)
    (n_range : PySem.W.nsIn K mainGlobals "range" = some none)
    (n_repr : PySem.W.nsIn K mainGlobals "repr" = some none)
    (n_sorted : PySem.W.nsIn K mainGlobals "sorted" = some none)
    (n_sum : PySem.W.nsIn K mainGlobals "sum" = some none)
    (n_tuple : PySem.W.nsIn K mainGlobals "tuple" = some none)
    (n_zip : PySem.W.nsIn K mainGlobals "zip" = some none)
    (a_MOST_COVERED : PySem.W.nsIn K mainGlobals "MOST_COVERED" = some (some (.int (5) t_MOST_COVERED)))
    (a_MOST_DESKS : PySem.W.nsIn K mainGlobals "MOST_DESKS" = some (some (.int (6) t_MOST_DESKS)))
    (a_MOST_WORKS : PySem.W.nsIn K mainGlobals "MOST_WORKS" = some (some (.int (10) t_MOST_WORKS)))
    (hp : b_law_k50 lawEnds (List.replicate 11 none)) :
    ∃ fd : FuncData, (∀ (s : Shared) (v : Value), BindsTo s fd ⟨[v], []⟩ [("script", v)]) ∧ ∀ base : Heap, K.In base → base.Ns mainGlobals mg → FnOk l.prog w K mg base CX0 12 fa fd ["script"] (spLaw K) := by
  have e := hfa.symm.trans (PySem.W.mg_of X G a_law)
  cases e
  let T : Facts K mg := {
    f_is_integer := f_is_integer,
    fd_is_integer := PySem.W.fnOf "is_integer" "is_integer" (defArgs s_is_integer) (defBody s_is_integer) (defScope s_is_integer) .none kV_is_integer dc_is_integer pm_is_integer an_is_integer cd_is_integer ct_is_integer,
    F_is_integer := fun_mk (st := s_is_integer) l_is_integer c_is_integer k_is_integer,
    m_is_integer := PySem.W.mg_of X G a_is_integer,
    f_is_number := f_is_number,
    fd_is_number := PySem.W.fnOf "is_number" "is_number" (defArgs s_is_number) (defBody s_is_number) (defScope s_is_number) .none kV_is_number dc_is_number pm_is_number an_is_number cd_is_number ct_is_number,
    F_is_number := fun_mk (st := s_is_number) l_is_number c_is_number k_is_number,
    m_is_number := PySem.W.mg_of X G a_is_number,
    f_is_below := f_is_below,
    fd_is_below := PySem.W.fnOf "is_below" "is_below" (defArgs s_is_below) (defBody s_is_below) (defScope s_is_below) .none kV_is_below dc_is_below pm_is_below an_is_below cd_is_below ct_is_below,
    F_is_below := fun_mk (st := s_is_below) l_is_below c_is_below k_is_below,
    m_is_below := PySem.W.mg_of X G a_is_below,
    f_is_lot := f_is_lot,
    fd_is_lot := PySem.W.fnOf "is_lot" "is_lot" (defArgs s_is_lot) (defBody s_is_lot) (defScope s_is_lot) .none kV_is_lot dc_is_lot pm_is_lot an_is_lot cd_is_lot ct_is_lot,
    F_is_lot := fun_mk (st := s_is_lot) l_is_lot c_is_lot k_is_lot,
    m_is_lot := PySem.W.mg_of X G a_is_lot,
    f_all_lots := f_all_lots,
    fd_all_lots := PySem.W.fnOf "all_lots" "all_lots" (defArgs s_all_lots) (defBody s_all_lots) (defScope s_all_lots) .none kV_all_lots dc_all_lots pm_all_lots an_all_lots cd_all_lots ct_all_lots,
    F_all_lots := fun_mk (st := s_all_lots) l_all_lots c_all_lots k_all_lots,
    m_all_lots := PySem.W.mg_of X G a_all_lots,
    f_pairs_of := f_pairs_of,
    fd_pairs_of := PySem.W.fnOf "pairs_of" "pairs_of" (defArgs s_pairs_of) (defBody s_pairs_of) (defScope s_pairs_of) .none kV_pairs_of dc_pairs_of pm_pairs_of an_pairs_of cd_pairs_of ct_pairs_of,
    F_pairs_of := fun_mk (st := s_pairs_of) l_pairs_of c_pairs_of k_pairs_of,
    m_pairs_of := PySem.W.mg_of X G a_pairs_of,
    f_are_office_works := f_are_office_works,
    fd_are_office_works := PySem.W.fnOf "are_office_works" "are_office_works" (defArgs s_are_office_works) (defBody s_are_office_works) (defScope s_are_office_works) .none kV_are_office_works dc_are_office_works pm_are_office_works an_are_office_works cd_are_office_works ct_are_office_works,
    F_are_office_works := fun_mk (st := s_are_office_works) l_are_office_works c_are_office_works k_are_office_works,
    m_are_office_works := PySem.W.mg_of X G a_are_office_works,
    f_are_pairs := f_are_pairs,
    fd_are_pairs := PySem.W.fnOf "are_pairs" "are_pairs" (defArgs s_are_pairs) (defBody s_are_pairs) (defScope s_are_pairs) .none kV_are_pairs dc_are_pairs pm_are_pairs an_are_pairs cd_are_pairs ct_are_pairs,
    F_are_pairs := fun_mk (st := s_are_pairs) l_are_pairs c_are_pairs k_are_pairs,
    m_are_pairs := PySem.W.mg_of X G a_are_pairs,
    f_teams_of := f_teams_of,
    fd_teams_of := PySem.W.fnOf "teams_of" "teams_of" (defArgs s_teams_of) (defBody s_teams_of) (defScope s_teams_of) .none kV_teams_of dc_teams_of pm_teams_of an_teams_of cd_teams_of ct_teams_of,
    F_teams_of := fun_mk (st := s_teams_of) l_teams_of c_teams_of k_teams_of,
    m_teams_of := PySem.W.mg_of X G a_teams_of,
    f_is_within_team := f_is_within_team,
    fd_is_within_team := PySem.W.fnOf "is_within_team" "is_within_team" (defArgs s_is_within_team) (defBody s_is_within_team) (defScope s_is_within_team) .none kV_is_within_team dc_is_within_team pm_is_within_team an_is_within_team cd_is_within_team ct_is_within_team,
    F_is_within_team := fun_mk (st := s_is_within_team) l_is_within_team c_is_within_team k_is_within_team,
    m_is_within_team := PySem.W.mg_of X G a_is_within_team,
    f_covered := f_covered,
    fd_covered := PySem.W.fnOf "covered" "covered" (defArgs s_covered) (defBody s_covered) (defScope s_covered) .none kV_covered dc_covered pm_covered an_covered cd_covered ct_covered,
    F_covered := fun_mk (st := s_covered) l_covered c_covered k_covered,
    m_covered := PySem.W.mg_of X G a_covered,
    f_fewest_teams := f_fewest_teams,
    fd_fewest_teams := PySem.W.fnOf "fewest_teams" "fewest_teams" (defArgs s_fewest_teams) (defBody s_fewest_teams) (defScope s_fewest_teams) .none kV_fewest_teams dc_fewest_teams pm_fewest_teams an_fewest_teams cd_fewest_teams ct_fewest_teams,
    F_fewest_teams := fun_mk (st := s_fewest_teams) l_fewest_teams c_fewest_teams k_fewest_teams,
    m_fewest_teams := PySem.W.mg_of X G a_fewest_teams,
    f_office_for := f_office_for,
    fd_office_for := PySem.W.fnOf "office_for" "office_for" (defArgs s_office_for) (defBody s_office_for) (defScope s_office_for) .none kV_office_for dc_office_for pm_office_for an_office_for cd_office_for ct_office_for,
    F_office_for := fun_mk (st := s_office_for) l_office_for c_office_for k_office_for,
    m_office_for := PySem.W.mg_of X G a_office_for,
    f_fewest_desks := f_fewest_desks,
    fd_fewest_desks := PySem.W.fnOf "fewest_desks" "fewest_desks" (defArgs s_fewest_desks) (defBody s_fewest_desks) (defScope s_fewest_desks) .none kV_fewest_desks dc_fewest_desks pm_fewest_desks an_fewest_desks cd_fewest_desks ct_fewest_desks,
    F_fewest_desks := fun_mk (st := s_fewest_desks) l_fewest_desks c_fewest_desks k_fewest_desks,
    m_fewest_desks := PySem.W.mg_of X G a_fewest_desks,
    f__law_pool := f__law_pool,
    fd__law_pool := PySem.W.fnOf "_law_pool" "_law_pool" (defArgs s__law_pool) (defBody s__law_pool) (defScope s__law_pool) .none kV__law_pool dc__law_pool pm__law_pool an__law_pool cd__law_pool ct__law_pool,
    F__law_pool := fun_mk (st := s__law_pool) l__law_pool c__law_pool k__law_pool,
    m__law_pool := PySem.W.mg_of X G a__law_pool,
    f__law_draw := f__law_draw,
    fd__law_draw := PySem.W.fnOf "_law_draw" "_law_draw" (defArgs s__law_draw) (defBody s__law_draw) (defScope s__law_draw) .none kV__law_draw dc__law_draw pm__law_draw an__law_draw cd__law_draw ct__law_draw,
    F__law_draw := fun_mk (st := s__law_draw) l__law_draw c__law_draw k__law_draw,
    m__law_draw := PySem.W.mg_of X G a__law_draw,
    f__law_mixed := f__law_mixed,
    fd__law_mixed := PySem.W.fnOf "_law_mixed" "_law_mixed" (defArgs s__law_mixed) (defBody s__law_mixed) (defScope s__law_mixed) .none kV__law_mixed dc__law_mixed pm__law_mixed an__law_mixed cd__law_mixed ct__law_mixed,
    F__law_mixed := fun_mk (st := s__law_mixed) l__law_mixed c__law_mixed k__law_mixed,
    m__law_mixed := PySem.W.mg_of X G a__law_mixed,
    f__law_some_pairs := f__law_some_pairs,
    fd__law_some_pairs := PySem.W.fnOf "_law_some_pairs" "_law_some_pairs" (defArgs s__law_some_pairs) (defBody s__law_some_pairs) (defScope s__law_some_pairs) .none kV__law_some_pairs dc__law_some_pairs pm__law_some_pairs an__law_some_pairs cd__law_some_pairs ct__law_some_pairs,
    F__law_some_pairs := fun_mk (st := s__law_some_pairs) l__law_some_pairs c__law_some_pairs k__law_some_pairs,
    m__law_some_pairs := PySem.W.mg_of X G a__law_some_pairs,
    f__law_crowds := f__law_crowds,
    fd__law_crowds := PySem.W.fnOf "_law_crowds" "_law_crowds" (defArgs s__law_crowds) (defBody s__law_crowds) (defScope s__law_crowds) .none kV__law_crowds dc__law_crowds pm__law_crowds an__law_crowds cd__law_crowds ct__law_crowds,
    F__law_crowds := fun_mk (st := s__law_crowds) l__law_crowds c__law_crowds k__law_crowds,
    m__law_crowds := PySem.W.mg_of X G a__law_crowds,
    f__law_fewest := f__law_fewest,
    fd__law_fewest := PySem.W.fnOf "_law_fewest" "_law_fewest" (defArgs s__law_fewest) (defBody s__law_fewest) (defScope s__law_fewest) .none kV__law_fewest dc__law_fewest pm__law_fewest an__law_fewest cd__law_fewest ct__law_fewest,
    F__law_fewest := fun_mk (st := s__law_fewest) l__law_fewest c__law_fewest k__law_fewest,
    m__law_fewest := PySem.W.mg_of X G a__law_fewest,
    f_law := fa,
    fd_law := PySem.W.fnOf "law" "law" (defArgs s_law) (defBody s_law) (defScope s_law) .none kV_law dc_law pm_law an_law cd_law ct_law,
    F_law := fun_mk (st := s_law) l_law c_law k_law,
    m_law := PySem.W.mg_of X G a_law,
    f_Office_init := f_Office_init,
    fd_Office_init := PySem.W.fnOf "__init__" "Office.__init__" (defArgs s_Office_init) (defBody s_Office_init) (defScope s_Office_init) .none kV_Office_init dc_Office_init pm_Office_init an_Office_init cd_Office_init ct_Office_init,
    F_Office_init := fun_mk (st := s_Office_init) l_Office_init c_Office_init k_Office_init,
    C_Office := C_Office,
    m_Office := PySem.W.mg_of X G a_Office,
    mk_Office := ⟨mk_Office, i_Office, j_Office, kc_Office⟩,
    cl_Office := ⟨pg_Office, hd_Office, po_Office, sa_Office⟩,
    na_Office_desks := na_Office_desks,
    na_Office_works := na_Office_works,
    n_abs := PySem.W.mg_none_of X G n_abs,
    n_all := PySem.W.mg_none_of X G n_all,
    n_bool := PySem.W.mg_none_of X G n_bool,
    n_enumerate := PySem.W.mg_none_of X G n_enumerate,
    n_int := PySem.W.mg_none_of X G n_int,
    n_isinstance := PySem.W.mg_none_of X G n_isinstance,
    n_len := PySem.W.mg_none_of X G n_len,
    n_list := PySem.W.mg_none_of X G n_list,
    n_max := PySem.W.mg_none_of X G n_max,
    n_min := PySem.W.mg_none_of X G n_min,
    n_range := PySem.W.mg_none_of X G n_range,
    n_repr := PySem.W.mg_none_of X G n_repr,
    n_sorted := PySem.W.mg_none_of X G n_sorted,
    n_sum := PySem.W.mg_none_of X G n_sum,
    n_tuple := PySem.W.mg_none_of X G n_tuple,
    n_zip := PySem.W.mg_none_of X G n_zip,
    t_MOST_COVERED := t_MOST_COVERED,
    m_MOST_COVERED := PySem.W.mg_of X G a_MOST_COVERED,
    t_MOST_DESKS := t_MOST_DESKS,
    m_MOST_DESKS := PySem.W.mg_of X G a_MOST_DESKS,
    t_MOST_WORKS := t_MOST_WORKS,
    m_MOST_WORKS := PySem.W.mg_of X G a_MOST_WORKS }
  exact ⟨T.fd_law, fun s v => .of_eq rfl, fun base _ _ => ok_law T hp⟩
end Pu
set_option Elab.async false
set_option linter.all false
set_option maxRecDepth 100000
namespace Pu
open PySem PySem.Spec PyProof.Rows L2
abbrev FEv (mf : XF) (ds : List D) (d : D) : Prop := ∀ Q : D → Prop, Q d → mf ds Q
abbrev FP (mf : XF) (ds : List D) (P : D → Prop) : Prop := ∀ Q : D → Prop, (∀ d, P d → Q d) → mf ds Q
theorem lc_ev {i : Nat} {mt : XB} {me : X1} {env : PEnv} (t : D → Bool) (e : D → D) : ∀ (ds acc : List D) (Q : List D → Prop), acc.length + ds.length ≤ sizeLine → (∀ d ∈ ds, ∀ Q, Q (t d) → mt (env.set i (some d)) Q) → (∀ d ∈ ds, t d = true → ∀ Q : D → Prop, Q (e d) → me (env.set i (some d)) Q) →
    Q (acc ++ (ds.filter t).map e) → lcLoop (bName i) mt me env ds acc Q
  | [], acc, Q, _, _, _, q => by simpa [lcLoop] using q
  | d :: ds, acc, Q, hl, ht, he, q => by
    simp at hl
    refine ht d List.mem_cons_self _ ?_
    cases h : t d with
    | true =>
      rw [if_pos rfl]
      refine he d List.mem_cons_self h _ ⟨by omega, lc_ev t e ds _ Q (by simp; omega) (fun x hx => ht x (List.mem_cons_of_mem _ hx)) (fun x hx => he x (List.mem_cons_of_mem _ hx)) ?_⟩
      rw [List.filter_cons_of_pos h, List.map_cons] at q
      simpa using q
    | false =>
      rw [if_neg Bool.false_ne_true]
      refine lc_ev t e ds _ Q (by omega) (fun x hx => ht x (List.mem_cons_of_mem _ hx)) (fun x hx => he x (List.mem_cons_of_mem _ hx)) ?_
      rwa [List.filter_cons_of_neg (by rw [h]; decide)] at q
theorem lc_map {i : Nat} {me : X1} {env : PEnv} (e : D → D) (ds : List D) (Q : List D → Prop) (hl : ds.length ≤ sizeLine) (he : ∀ d ∈ ds, ∀ Q : D → Prop, Q (e d) → me (env.set i (some d)) Q) (q : Q (ds.map e)) : lcLoop (bName i) bYes me env ds [] Q :=
  lc_ev (fun _ => true) e ds [] Q (by simpa using hl) (fun _ _ _ q => q) (fun d hd _ => he d hd) (by rw [List.filter_eq_self.mpr fun _ _ => rfl]; simpa using q)
theorem lc_F {i : Nat} {mt : XB} {me : X1} {env : PEnv} (e : D → D) : ∀ (ds acc : List D) (Q : List D → Prop), acc.length + ds.length ≤ sizeLine → (∀ d ∈ ds, ∀ Q : Bool → Prop, (∀ k, Q k) → mt (env.set i (some d)) Q) → (∀ d ∈ ds, ∀ Q : D → Prop, Q (e d) → me (env.set i (some d)) Q) →
    (∀ ys : List D, ys.Sublist ds → Q (acc ++ ys.map e)) → lcLoop (bName i) mt me env ds acc Q
  | [], acc, Q, _, _, _, q => by simpa [lcLoop] using q [] (List.Sublist.refl _)
  | d :: ds, acc, Q, hl, ht, he, q => by
    simp at hl
    refine ht d List.mem_cons_self _ fun k => ?_
    cases k with
    | true =>
      rw [if_pos rfl]
      refine he d List.mem_cons_self _ ⟨by omega, lc_F e ds _ Q (by simp; omega) (fun x hx => ht x (List.mem_cons_of_mem _ hx)) (fun x hx => he x (List.mem_cons_of_mem _ hx)) fun ys s => ?_⟩
      have := q (d :: ys) (s.cons_cons d)
      simpa using this
    | false =>
      rw [if_neg Bool.false_ne_true]
      exact lc_F e ds _ Q (by omega) (fun x hx => ht x (List.mem_cons_of_mem _ hx)) (fun x hx => he x (List.mem_cons_of_mem _ hx)) fun ys s => q ys (s.cons d)
theorem loop_ev {b : XG} {body : XS} {E : PEnds} (W : List D → PEnv → Prop) (hb : ∀ d ds env, W (d :: ds) env → b d env fun env1 => body { nx := W ds, rt := E.rt, bk := E.nx, ct := W ds } env1) (hm : ∀ d env Q Q', (∀ e, Q e → Q' e) → b d env Q → b d env Q') (hs : ∀ {E E' env}, PLe E E' → body E env → body E' env) :
    ∀ (ds : List D) (env : PEnv), W ds env → (∀ env, W [] env → E.nx env) → sLoop b body ds E env
  | [], env, w, q => q env w
  | d :: ds, env, w, q => hm _ _ _ _ (fun env1 h => hs (E := { nx := W ds, rt := E.rt, bk := E.nx, ct := W ds }) ⟨fun e we => loop_ev W hb hm hs ds e we q, fun _ z => z, fun _ z => z, fun e we => loop_ev W hb hm hs ds e we q⟩ h) (hb d ds env w)
section
variable {Q : D → Prop} {i n : Int} {ns ms : List Int}
theorem is_below_ev (h0 : 0 ≤ i) (h1 : i < n) : FEv m_is_below [.int i, .int n] (.bl true) := fun Q q => by
  have e0 : decide (0 ≤ i) = true := decide_eq_true h0
  show (if decide (0 ≤ i) = true then Q (.bl (decide (i < n))) else _)
  rw [if_pos e0, decide_eq_true h1]
  exact q
def lotOk (n : Int) : List Int → Prop
  | [] => True
  | [x] => 0 ≤ x ∧ x < n
  | x :: y :: r => 0 ≤ x ∧ x < n ∧ x < y ∧ lotOk n (y :: r)
theorem lotOk_all : ∀ {l : List Int}, lotOk n l → ∀ x ∈ l, 0 ≤ x ∧ x < n
  | [], _, x, h => nomatch h
  | [y], h, x, hx => by rw [List.mem_singleton.mp hx]; exact h
  | y :: z :: r, h, x, hx => by
    rcases List.mem_cons.mp hx with e | hx
    · rw [e]; exact ⟨h.1, h.2.1⟩
    · exact lotOk_all h.2.2.2 x hx
end
end Pu
set_option Elab.async false
set_option linter.all false
set_option maxRecDepth 100000
namespace Pu
open PySem PySem.Spec PyProof.Rows L2
section
variable {Q : D → Prop} {i n : Int} {ns ms r : List Int} {ws : List (List Int)}
def rD (r : List Int) : D := .tup (dInts r)
def wD (ws : List (List Int)) : D := .tup (rowsD ws)
def oD (n : Int) (ws : List (List Int)) : D := .fz 3 [("desks", .int n), ("works", wD ws)]
theorem dInts_len : (dInts r).length = r.length := by simp [dInts]
theorem rowsD_len : (rowsD ws).length = ws.length := by simp [rowsD]
theorem mem_dInts {d : D} (h : d ∈ dInts r) : ∃ x, x ∈ r ∧ d = .int x := by
  obtain ⟨x, hx, e⟩ := List.mem_map.mp h
  exact ⟨x, hx, e.symm⟩
theorem all_bls {ds : List D} {f : D → D} (h : ∀ d ∈ ds, f d = .bl true) (q : Q (.bl true)) : oAny true (.lst (ds.map f)) Q := by
  refine ⟨List.replicate ds.length true, ?_, ?_⟩
  · rw [List.map_replicate]
    exact List.eq_replicate_iff.mpr ⟨by simp, fun b hb => by obtain ⟨d, hd, e⟩ := List.mem_map.mp hb; rw [← e]; exact h d hd⟩
  · rw [if_pos rfl]
    rw [show (List.replicate ds.length true).all id = true by rw [List.all_eq_true]; intro x hx; exact (List.mem_replicate.mp hx).2]
    exact q
theorem pairs_lt : ∀ l : List Int, lotOk n l → ∀ d ∈ zpD (dInts l) (dInts (l.drop 1)), ∃ x y : Int, d = .tup [.int x, .int y] ∧ x < y
  | [], _, d, hd => by cases hd
  | [x], _, d, hd => by cases hd
  | x :: y :: l, h, d, hd => by
    rcases List.mem_cons.mp hd with e | hd
    · exact ⟨x, y, e, h.2.2.1⟩
    · exact pairs_lt (y :: l) h.2.2.2 d hd
theorem lc_mapB {b : XG} {me : X1} {env : PEnv} (e : D → D) : ∀ (ds acc : List D) (Q : List D → Prop), acc.length + ds.length ≤ sizeLine → (∀ d ∈ ds, ∀ R : D → Prop, R (e d) → b d env fun env1 => me env1 R) → Q (acc ++ ds.map e) → lcLoop b bYes me env ds acc Q
  | [], acc, Q, _, _, q => by simpa [lcLoop] using q
  | d :: ds, acc, Q, hl, he, q => by
    simp at hl
    refine he d List.mem_cons_self (fun y => acc.length < sizeLine ∧ lcLoop b bYes me env ds (acc ++ [y]) Q) ⟨by omega, lc_mapB e ds _ Q (by simp; omega) (fun x hx => he x (List.mem_cons_of_mem _ hx)) (by simpa using q)⟩
theorem immL_dInts : ∀ r : List Int, immL (dInts r) = true
  | [] => rfl
  | x :: r => immL_dInts r
theorem cut_drop {ds : List D} {k : Nat} : cutD ds (some (k : Int)) none = ds.drop k := by
  unfold cutD
  rw [HT.sIx_nat, HT.sIx_none]
  by_cases h : k ≤ ds.length
  · rw [Nat.min_eq_left h, List.take_of_length_le (by simp)]
  · rw [Nat.min_eq_right (by omega), List.drop_length, List.drop_eq_nil_of_le (by omega), List.take_nil]
theorem cut_take {ds : List D} {k : Nat} : cutD ds none (some (k : Int)) = ds.take k := by
  unfold cutD
  rw [HT.sIx_nat, HT.sIx_none, List.drop_zero, Nat.sub_zero]
  by_cases h : k ≤ ds.length
  · rw [Nat.min_eq_left h]
  · rw [Nat.min_eq_right (by omega), List.take_length, List.take_of_length_le (by omega)]
theorem dInts_drop (k : Nat) : (dInts r).drop k = dInts (r.drop k) := by simp [dInts, List.map_drop]
theorem dInts_take (k : Nat) : (dInts r).take k = dInts (r.take k) := by simp [dInts, List.map_take]
theorem is_lot_ev {l : List Int} (hl : l.length ≤ 100) (h : lotOk n l) : FEv m_is_lot [rD l, .int n] (.bl true) := fun Q q => by
  have h100 : 100 ≤ sizeLine := by decide
  refine lc_map (fun _ => .bl true) _ _ (by rw [dInts_len]; omega) (fun d hd Q q => ?_) (all_bls (fun _ _ => rfl) ?_)
  · obtain ⟨x, hx, e⟩ := mem_dInts hd
    subst e
    have h2 := lotOk_all h x hx
    exact is_below_ev h2.1 h2.2 Q q
  · refine ⟨immL_dInts l, ?_⟩
    dsimp only [xNil]
    rw [show cutD (dInts l) (some 1) none = (dInts l).drop 1 from cut_drop (k := 1), dInts_drop]
    refine lc_mapB (fun _ => .bl true) _ [] _ (by rw [zpD_len, dInts_len]; simp; omega) (fun d hd R hR => ?_) (by rw [List.nil_append]; exact all_bls (fun _ _ => rfl) q)
    obtain ⟨x, y, e, hxy⟩ := pairs_lt l h d hd
    subst e
    have e1 : decide (x < y) = true := decide_eq_true hxy
    refine ⟨rfl, ?_⟩
    show R (.bl (decide (x < y)))
    rw [e1]; exact hR
def rangeI (n : Int) : List Int := (List.range n.toNat).map fun k => Int.ofNat k
def WsOk (n : Int) (ws : List (List Int)) : Prop := 1 ≤ n ∧ n ≤ 6 ∧ 1 ≤ ws.length ∧ ws.length ≤ 10 ∧ ∀ l ∈ ws, lotOk n l ∧ l ≠ [] ∧ l.length ≤ 6
theorem mem_rowsD {d : D} (h : d ∈ rowsD ws) : ∃ l, l ∈ ws ∧ d = rD l := by
  obtain ⟨x, hx, e⟩ := List.mem_map.mp h
  exact ⟨x, hx, e.symm⟩
theorem are_office_works_ev (h : WsOk n ws) : FEv m_are_office_works [.int n, wD ws] (.bl true) := fun Q q => by
  obtain ⟨h1, h2, h3, h4, h5⟩ := h
  have h100 : 100 ≤ sizeLine := by decide
  refine .inl ?_
  have e1 : decide ((1 : Int) ≤ ((rowsD ws).length : Nat)) = true := decide_eq_true (by rw [rowsD_len]; omega)
  have e2 : decide ((((rowsD ws).length : Nat) : Int) ≤ 10) = true := decide_eq_true (by rw [rowsD_len]; omega)
  show (if decide ((1 : Int) ≤ ((rowsD ws).length : Nat)) = true then _ else _)
  rw [if_pos e1]
  show (if (!decide ((((rowsD ws).length : Nat) : Int) ≤ 10)) = true then _ else _)
  rw [e2, if_neg (by decide)]
  refine lc_map (fun _ => .bl true) _ _ (by rw [rowsD_len]; omega) (fun d hd Q q => ?_) (all_bls (fun _ _ => rfl) q)
  obtain ⟨l, hm, e⟩ := mem_rowsD hd
  subst e
  obtain ⟨g1, g2, g3⟩ := h5 l hm
  refine is_lot_ev (by omega) g1 _ ?_
  show (if true = true then _ else _)
  rw [if_pos rfl]
  refine .inl ?_
  have e3 : decide ((0 : Int) < ((dInts l).length : Nat)) = true := decide_eq_true (by
    rw [dInts_len]
    have := List.length_pos_iff.mpr g2
    omega)
  show Q (.bl (decide ((0 : Int) < ((dInts l).length : Nat))))
  rw [e3]; exact q
theorem imm_wD : ∀ ws : List (List Int), immL (rowsD ws) = true
  | [] => rfl
  | l :: ws => by
    show (D.imm (.tup (dInts l)) && immL (rowsD ws)) = true
    rw [imm_wD ws, show D.imm (.tup (dInts l)) = true from immL_dInts l]
    rfl
def logF (ws : List (List Int)) (r : List Int) (d : Int) : List Int := r.filter fun x => (ws.getD x.toNat []).contains d
theorem atD_some {xs : List D} {x : Int} {d : D} (h0 : 0 ≤ x) (h : xs[x.toNat]? = some d) (q : Q d) : atD xs x Q := by
  have hl := (List.getElem?_eq_some_iff.mp h).1
  unfold atD atI ixN
  rw [if_pos h0, if_pos (by omega)]
  show (match xs[x.toNat]? with | some x => Q x | none => False)
  rw [h]
  exact q
theorem eqb_int {a b : Int} : D.eqb (.int a) (.int b) = decide (a = b) := by
  show PyData.eqv (.int a) (.int b) = _
  simp [PyData.eqv]
  by_cases h : a = b <;> simp [h]
theorem any_ints (l : List Int) (b : Int) : ((dInts l).any fun z => D.eqb z (.int b)) = l.contains b := by
  induction l with
  | nil => rfl
  | cons x l ih =>
    show (D.eqb (.int x) (.int b) || (dInts l).any fun z => D.eqb z (.int b)) = _
    rw [ih, eqb_int, List.contains_cons]
    congr 1
    rw [Bool.eq_iff_iff, decide_eq_true_iff, beq_iff_eq]
    exact eq_comm
theorem flat_ints : ∀ l : List Int, (dInts l).all D.flat = true
  | [] => rfl
  | x :: l => flat_ints l
theorem in_ints {b : Int} {l : List Int} (q : Q (.bl (l.contains b))) : oIn false (.int b) (rD l) Q := by
  refine ⟨rfl, flat_ints l, ?_⟩
  rw [any_ints, Bool.false_xor]
  exact q
theorem immL_rows : ∀ ws : List (List Int), immL (rowsD ws) = true := imm_wD
theorem eqv_ints : ∀ a b : List Int, PyData.eqvAll (pyL (dInts a)) (pyL (dInts b)) = decide (a = b)
  | [], [] => rfl
  | [], _ :: _ => rfl
  | _ :: _, [] => rfl
  | x :: a, y :: b => by
    show (PyData.eqv (.int x) (.int y) && PyData.eqvAll (pyL (dInts a)) (pyL (dInts b))) = _
    rw [eqv_ints a b, show PyData.eqv (.int x) (.int y) = decide (x = y) from eqb_int, Bool.eq_iff_iff]
    simp
theorem eqv_rows : ∀ a b : List (List Int), PyData.eqvAll (pyL (rowsD a)) (pyL (rowsD b)) = decide (a = b)
  | [], [] => rfl
  | [], _ :: _ => rfl
  | _ :: _, [] => rfl
  | x :: a, y :: b => by
    show (PyData.eqv (.tuple (pyL (dInts x))) (.tuple (pyL (dInts y))) && PyData.eqvAll (pyL (rowsD a)) (pyL (rowsD b))) = _
    rw [eqv_rows a b, show PyData.eqv (.tuple (pyL (dInts x))) (.tuple (pyL (dInts y))) = decide (x = y) from eqv_ints x y, Bool.eq_iff_iff]
    simp
theorem lay_ints : ∀ a : List Int, PyData.canLayAll0 (pyL (dInts a)) = true
  | [] => rfl
  | x :: a => by
    show (true && PyData.canLayAll0 (pyL (dInts a))) = true
    rw [lay_ints a] <;> rfl
theorem lay_rows : ∀ a : List (List Int), PyData.canLayAll0 (pyL (rowsD a)) = true
  | [] => rfl
  | x :: a => by
    show (PyData.canLayAll0 (pyL (dInts x)) && PyData.canLayAll0 (pyL (rowsD a))) = true
    rw [lay_ints x, lay_rows a] <;> rfl
theorem dep_ints : ∀ a : List Int, PyData.depthAll (pyL (dInts a)) = 0
  | [] => rfl
  | x :: a => by
    show max 0 (PyData.depthAll (pyL (dInts a))) = 0
    rw [dep_ints a] <;> rfl
theorem dep_rows : ∀ a : List (List Int), PyData.depthAll (pyL (rowsD a)) ≤ 1
  | [] => by decide
  | x :: a => by
    show max (PyData.depthAll (pyL (dInts x)) + 1) (PyData.depthAll (pyL (rowsD a))) ≤ 1
    rw [dep_ints x]
    exact Nat.max_le.mpr ⟨Nat.le_refl _, dep_rows a⟩
theorem sh_rows (a : List (List Int)) : Sh (.tup (rowsD a)) := by
  show (PyData.canLayAll0 (pyL (rowsD a)) && decide (PyData.depthAll (pyL (rowsD a)) + 1 ≤ 64)) = true
  rw [lay_rows a, decide_eq_true (by have := dep_rows a; omega)]
  rfl
theorem sh_ints (a : List Int) : Sh (rD a) := by
  show (PyData.canLayAll0 (pyL (dInts a)) && decide (PyData.depthAll (pyL (dInts a)) + 1 ≤ 64)) = true
  rw [lay_ints a, dep_ints a] <;> rfl
def logsF (n : Int) (ws : List (List Int)) (r : List Int) : List (List Int) := (rangeI n).map (logF ws r)
def RowOk (ws : List (List Int)) (r : List Int) : Prop := r.length ≤ 100 ∧ ∀ x ∈ r, 0 ≤ x ∧ x < (ws.length : Int)
section
end
end
end Pu
set_option Elab.async false
set_option linter.all false
set_option maxRecDepth 100000
namespace Pu
open PySem PySem.Spec PyProof.Rows L2
section
variable {Q : D → Prop} {i n : Int} {ns ms r : List Int} {ws : List (List Int)}
def pD (n : Int) (ws : List (List Int)) : D := .tup [.int n, wD ws]
def W (ws : List (List Int)) (x : Int) : List Int := ws.getD x.toNat []
def meetsF (ws : List (List Int)) (x y : Int) : Bool := (W ws x).any fun d => (W ws y).contains d
def WsLen (ws : List (List Int)) : Prop := ∀ l ∈ ws, l.length ≤ 6
def nearF (ws : List (List Int)) : List (List Bool) := (rangeI ws.length).map fun x => (rangeI ws.length).map fun y => meetsF ws x y
def blD (l : List Bool) : D := .lst (l.map .bl)
def nD (near : List (List Bool)) : D := .lst (near.map blD)
section
end
end
end Pu
set_option Elab.async false
set_option linter.all false
set_option maxRecDepth 100000
set_option synthInstance.maxHeartbeats 0
set_option synthInstance.maxSize 100000
namespace Pu
open PySem PySem.Spec PyProof.Rows L2
section
variable {Q : D → Prop} {i n : Int} {ns ms r : List Int} {ws : List (List Int)} {dd : D} {e5 e6 e7 : Option D}
theorem lot_of : ∀ {l : List Int}, l.Pairwise (· < ·) → (∀ x ∈ l, 0 ≤ x ∧ x < n) → lotOk n l
  | [], _, _ => trivial
  | [x], _, h => h x List.mem_cons_self
  | x :: y :: r, p, h => ⟨(h x List.mem_cons_self).1, (h x List.mem_cons_self).2, (List.pairwise_cons.mp p).1 y List.mem_cons_self, lot_of (List.pairwise_cons.mp p).2 fun z hz => h z (List.mem_cons_of_mem _ hz)⟩
theorem rangeI_pw (n : Int) : (rangeI n).Pairwise (· < ·) := by
  unfold rangeI
  rw [List.pairwise_map]
  exact List.pairwise_lt_range.imp fun h => Int.ofNat_lt.mpr h
theorem rangeI_mem {x : Int} (h : x ∈ rangeI n) : 0 ≤ x ∧ x < n := by
  obtain ⟨k, hk, e⟩ := List.mem_map.mp h
  have := List.mem_range.mp hk
  have e : x = (k : Int) := e.symm
  omega
end
end Pu
set_option Elab.async false
set_option linter.all false
set_option maxRecDepth 100000
set_option synthInstance.maxHeartbeats 0
set_option synthInstance.maxSize 100000
namespace Pu
open PySem PySem.Spec PyProof.Rows L2
section
variable {Q : D → Prop} {i n : Int} {ns ms r : List Int} {ws : List (List Int)} {dd : D} {e5 e6 e7 : Option D}
section
end
def InW (ws : List (List Int)) (r : List Int) : Prop := ∀ x ∈ r, 0 ≤ x ∧ x < (ws.length : Int)
theorem atD_int {l : List Int} {x : Int} (h0 : 0 ≤ x) (h1 : x < (l.length : Int)) (q : Q (.int (l.getD x.toNat 0))) : atD (dInts l) x Q := by
  have hj : x.toNat < l.length := by omega
  refine atD_some h0 ?_ q
  unfold dInts
  rw [List.getElem?_map, List.getElem?_eq_getElem hj, List.getD_eq_getElem?_getD, List.getElem?_eq_getElem hj]
  rfl
end
end Pu
set_option Elab.async false
set_option linter.all false
set_option maxRecDepth 100000
set_option synthInstance.maxHeartbeats 0
set_option synthInstance.maxSize 100000
namespace Pu
open PySem PySem.Spec PyProof.Rows L2
section
variable {Q : D → Prop} {i n : Int} {ns ms r s : List Int} {ws : List (List Int)} {dd : D} {e5 e6 e7 : Option D}
theorem erase_ints : ∀ (s : List Int) (k : Nat), (dInts s).eraseIdx k = dInts (s.eraseIdx k)
  | [], _ => rfl
  | _ :: _, 0 => rfl
  | x :: s, k + 1 => by
    show D.int x :: (dInts s).eraseIdx k = D.int x :: dInts (s.eraseIdx k)
    rw [erase_ints s k]
section
end
end
end Pu
set_option Elab.async false
set_option linter.all false
set_option maxRecDepth 100000
namespace Pu
section
variable {ap : Int → Int → Prop}
inductive Rch (ap : Int → Int → Prop) : List Int → List Int → Prop
  | refl (r : List Int) : Rch ap r r
  | step {r A B : List Int} {x y : Int} : Rch ap r (A ++ x :: y :: B) → ap x y → Rch ap r (A ++ y :: x :: B)
theorem Rch.trans {r s t : List Int} (a : Rch ap r s) (b : Rch ap s t) : Rch ap r t := by
  induction b with
  | refl => exact a
  | step h e ih => exact .step ih e
theorem Rch.cons {r s : List Int} (z : Int) (a : Rch ap r s) : Rch ap (z :: r) (z :: s) := by
  induction a with
  | refl => exact .refl _
  | @step A B x y h e ih => exact .step (A := z :: A) ih e
theorem Rch.len {r s : List Int} (a : Rch ap r s) : s.length = r.length := by
  induction a with
  | refl => rfl
  | step h e ih => rw [← ih]; simp
theorem Rch.mem {r s : List Int} (a : Rch ap r s) : ∀ x, x ∈ s ↔ x ∈ r := by
  induction a with
  | refl => exact fun x => Iff.rfl
  | step h e ih =>
    intro x
    rw [← ih x]
    simp only [List.mem_append, List.mem_cons]
    constructor
    · rintro (h | h | h | h)
      · exact .inl h
      · exact .inr (.inr (.inl h))
      · exact .inr (.inl h)
      · exact .inr (.inr (.inr h))
    · rintro (h | h | h | h)
      · exact .inl h
      · exact .inr (.inr (.inl h))
      · exact .inr (.inl h)
      · exact .inr (.inr (.inr h))
end
section
variable {ws : List (List Int)} {n : Int}
def apF (ws : List (List Int)) (x y : Int) : Prop := meetsF ws x y = false
theorem apF_no {x y d : Int} (h : apF ws x y) (hx : (W ws x).contains d = true) (hy : (W ws y).contains d = true) : False := by
  have : meetsF ws x y = true := List.any_eq_true.mpr ⟨d, by simpa using hx, hy⟩
  rw [show meetsF ws x y = false from h] at this
  cases this
theorem logF_cons {x d : Int} {r : List Int} : logF ws (x :: r) d = if (W ws x).contains d = true then x :: logF ws r d else logF ws r d := by
  unfold logF
  rw [List.filter_cons]
  rfl
theorem logF_app {d : Int} {r s : List Int} : logF ws (r ++ s) d = logF ws r d ++ logF ws s d := by
  unfold logF
  rw [List.filter_append]
theorem Rch.logs {r s : List Int} (a : Rch (apF ws) r s) (d : Int) : logF ws s d = logF ws r d := by
  induction a with
  | refl => rfl
  | @step A B x y h e ih =>
    rw [← ih, logF_app, logF_app, logF_cons, logF_cons, logF_cons, logF_cons]
    by_cases hx : (W ws x).contains d = true
    · by_cases hy : (W ws y).contains d = true
      · exact (apF_no e hx hy).elim
      · rw [if_pos hx, if_neg hy, if_pos hx, if_neg hy]
    · by_cases hy : (W ws y).contains d = true
      · rw [if_neg hx, if_pos hy, if_neg hx]
      · rw [if_neg hx, if_neg hy, if_neg hx]
end
end Pu
set_option Elab.async false
set_option linter.all false
set_option maxRecDepth 100000
set_option synthInstance.maxHeartbeats 0
set_option synthInstance.maxSize 100000
namespace Pu
open PySem PySem.Spec PyProof.Rows L2
section
variable {Q : D → Prop} {n : Int} {r s : List Int} {ws : List (List Int)} {e4 e5 e6 e7 : Option D} {K T : List (List Int)} {kvs : List (List Key × D)}
def kk (s : List Int) : List Key := s.map Sum.inl
theorem kk_inj : ∀ {a b : List Int}, kk a = kk b → a = b
  | [], [], _ => rfl
  | [], _ :: _, h => by simp [kk] at h
  | _ :: _, [], h => by simp [kk] at h
  | x :: a, y :: b, h => by
    simp only [kk, List.map_cons, List.cons.injEq, Sum.inl.injEq] at h
    rw [h.1, kk_inj (a := a) (b := b) h.2]
def Fd (K : List (List Int)) (kvs : List (List Key × D)) : Prop := kvs.map (·.1) = K.map kk ∧ ∀ kv ∈ kvs, ∃ z, kv.2 = .int z
def words (w : Nat) : Nat → List (List Int)
  | 0 => [[]]
  | m + 1 => (rangeI w).flatMap fun x => (words w m).map (x :: ·)
end
end Pu
set_option Elab.async false
set_option linter.all false
set_option maxRecDepth 100000
set_option synthInstance.maxHeartbeats 0
set_option synthInstance.maxSize 100000
namespace Pu
open PySem PySem.Spec PyProof.Rows L2
section
variable {Q : D → Prop} {n : Int} {r s here row : List Int} {ws : List (List Int)} {e3 e4 e5 e6 e7 : Option D} {K T : List (List Int)} {kvs : List (List Key × D)}
def swapL (s : List Int) (k : Nat) : List Int := s.take k ++ [s.getD (k + 1) 0, s.getD k 0] ++ s.drop (k + 2)
theorem dInts_app (a b : List Int) : dInts a ++ dInts b = dInts (a ++ b) := by unfold dInts; rw [List.map_append]
end
end Pu
set_option Elab.async false
set_option linter.all false
set_option maxRecDepth 100000
set_option synthInstance.maxHeartbeats 0
set_option synthInstance.maxSize 100000
namespace Pu
open PySem PySem.Spec PyProof.Rows L2
section
variable {Q : D → Prop} {n : Int} {r s here row : List Int} {ws : List (List Int)} {e3 e4 e5 e6 e7 : Option D} {K T K' T' L : List (List Int)} {kvs kvs' : List (List Key × D)}
structure IV (ws : List (List Int)) (row : List Int) (K T : List (List Int)) : Prop where
  nd : K.Nodup
  row_in : row ∈ K
  rch : ∀ s ∈ K, Rch (apF ws) row s
  sub : ∀ s ∈ T, s ∈ K
  tl : T.length ≤ K.length
def Dn (ws : List (List Int)) (K : List (List Int)) (s : List Int) : Prop := ∀ j, j + 1 < s.length → apF ws (s.getD j 0) (s.getD (j + 1) 0) → swapL s j ∈ K
theorem Dn.mono (h : Dn ws K s) (k : ∀ s ∈ K, s ∈ K') : Dn ws K' s := fun j hj a => k _ (h j hj a)
structure Mo2 (K T K' T' : List (List Int)) : Prop where
  k : ∀ s ∈ K, s ∈ K'
  n : ∀ s ∈ K', s ∈ K ∨ s ∈ T'
  t : ∀ s ∈ T, s ∈ T'
  c : K'.length + T.length = K.length + T'.length
theorem Mo2.refl : Mo2 K T K T := ⟨fun _ h => h, fun _ h => .inl h, fun _ h => h, rfl⟩
theorem Mo2.trans {K2 T2 : List (List Int)} (a : Mo2 K T K' T') (b : Mo2 K' T' K2 T2) : Mo2 K T K2 T2 := ⟨fun s h => b.k s (a.k s h), fun s h => (b.n s h).elim (fun h => (a.n s h).imp id (b.t s)) .inr, fun s h => b.t s (a.t s h), by have := a.c; have := b.c; omega⟩
end
end Pu
set_option Elab.async false
set_option linter.all false
set_option maxRecDepth 100000
set_option synthInstance.maxHeartbeats 0
set_option synthInstance.maxSize 100000
namespace Pu
open PySem PySem.Spec PyProof.Rows L2
section
variable {Q : D → Prop} {n : Int} {r s here row : List Int} {ws : List (List Int)} {e2 e3 e4 e5 e6 e7 : Option D} {K T K' T' L : List (List Int)} {kvs kvs' : List (List Key × D)}
def lay (L : List (List Int)) : Nat := if L = [] then 0 else 1
end
end Pu
set_option Elab.async false
set_option linter.all false
set_option maxRecDepth 100000
set_option synthInstance.maxHeartbeats 0
set_option synthInstance.maxSize 100000
namespace Pu
open PySem PySem.Spec PyProof.Rows L2
section
variable {Q : D → Prop} {n : Int} {r s o m row : List Int} {ws : List (List Int)} {e2 e3 e4 e5 e6 e7 e8 e9 e10 e11 e12 e13 e14 : Option D} {K T : List (List Int)} {kvs : List (List Key × D)}
structure Tn (n : Int) (ws : List (List Int)) (row : List Int) (K : List (List Int)) (kvs : List (List Key × D)) : Prop where
  w : WsOk n ws
  r : InW ws row
  l : row.length ≤ 7
  f : Fd K kvs
  i : IV ws row K []
  d : ∀ s ∈ K, Dn ws K s
end
end Pu
set_option Elab.async false
set_option linter.all false
namespace Pu
open PySem PySem.Spec PyProof.Rows L2
section
variable {Q : D → Prop} {R : List D → Prop} {B : Bool → Prop} {N : PEnv → Prop} {env : PEnv} {d e : D} {o : Option D} {i : Nat} {E : PEnds} {m n : X1} {r : XL} {a b : XB} {s t : XS} {f : XF}
def boo (d : D) (B : Bool → Prop) : Prop := match d with
  | .bl b => B b
  | _ => False
theorem u_len_lst {xs : List D} : oLenA (.lst xs) Q = Q (.int (xs.length : Nat)) := by simp [oLenA, oLen, oLenT, oLenK]
theorem u_len_tup {xs : List D} : oLenA (.tup xs) Q = Q (.int (xs.length : Nat)) := by simp [oLenA, oLen, oLenT, oLenK]
theorem u_len_dT {xs : List (List Key × D)} : oLenA (.dT xs) Q = Q (.int (xs.length : Nat)) := by simp [oLenA, oLen, oLenT, oLenK]
theorem u_len_dK {xs : List (Key × D)} : oLenA (.dK xs) Q = Q (.int (xs.length : Nat)) := by simp [oLenA, oLen, oLenT, oLenK]
end
end Pu
set_option Elab.async false
set_option linter.all false
set_option maxRecDepth 100000
set_option synthInstance.maxHeartbeats 0
set_option synthInstance.maxSize 100000
namespace Pu
open PySem PySem.Spec PyProof.Rows L2
section
variable {Q : D → Prop} {n : Int} {r s o m row : List Int} {ws : List (List Int)} {e0 e1 e2 e3 e4 e5 e6 e7 e8 e9 e10 e11 e12 e13 e14 : Option D} {K T : List (List Int)} {kvs : List (List Key × D)}
structure LS (fch fdr fex ffl fma fne fro fsp fal : XF) : Prop where
  ch : ∀ {ws : List (List Int)} {r : List Int}, 1 ≤ ws.length → ws.length ≤ 10 → InW ws r → r.length ≤ 200 → FP fch [.non, nD (nearF ws), rD r] (fun d => ∃ s, d = rD s ∧ s.length ≤ r.length + 1 ∧ InW ws s)
  dr : ∀ {k : Int}, 0 < k → k < 2 ^ 30 → FP fdr [.non, .int k] (fun d => ∃ z, d = .int z ∧ 0 ≤ z ∧ z < k)
  ex : ∀ {ws : List (List Int)} {row : List Int}, InW ws row → ws.length ≤ 10 → row.length ≤ 7 → FP fex [nD (nearF ws), rD row] (fun d => ∃ K kvs, d = .dT kvs ∧ Fd K kvs ∧ IV ws row K [] ∧ ∀ s ∈ K, Dn ws K s)
  fl : ∀ x y : Bool, FEv ffl [.bl x, .bl y] (.bl (x == y))
  ma : ∀ {n : Int} {ws : List (List Int)}, WsOk n ws → FEv fma [pD n ws] (oD n ws)
  ne : ∀ {n : Int} {ws : List (List Int)}, WsLen ws → ws.length ≤ 10 → FEv fne [pD n ws] (nD (nearF ws))
  ro : ∀ {n most : Int} {ws : List (List Int)}, 0 ≤ most → most ≤ 100 → 1 ≤ ws.length → ws.length ≤ 10 → FP fro [.non, pD n ws, .int most] (fun d => ∃ r : List Int, d = rD r ∧ (r.length : Int) ≤ most ∧ InW ws r)
  sp : FP fsp [.non] (fun d => ∃ n ws, d = pD n ws ∧ WsOk n ws)
  al : ∀ {n : Int} {ws : List (List Int)} {r s : List Int}, WsOk n ws → RowOk ws r → RowOk ws s → FEv fal [oD n ws, rD r, rD s] (.bl (decide (logsF n ws r = logsF n ws s)))
section
variable {fch fdr fex ffl fma fne fro fsp fal : XF} [MF fch] [MF fdr] [MF fex] [MF ffl] [MF fma] [MF fne] [MF fro] [MF fsp] [MF fal]
end
end
end Pu
set_option Elab.async false
set_option linter.all false
set_option maxRecDepth 100000
set_option synthInstance.maxHeartbeats 0
set_option synthInstance.maxSize 100000
namespace Pu
open PySem PySem.Spec PyProof.Rows L2
section
variable {Q : D → Prop} {n : Int} {r s o m row : List Int} {ws : List (List Int)} {e0 e1 e2 e3 e4 e5 e6 e7 e8 e9 e10 e11 e12 e13 e14 : Option D} {K T : List (List Int)} {kvs : List (List Key × D)}
variable {fch fdr fex ffl fma fne fro fsp fal : XF} [MF fch] [MF fdr] [MF fex] [MF ffl] [MF fma] [MF fne] [MF fro] [MF fsp] [MF fal]
end
end Pu
set_option Elab.async false
set_option linter.all false
set_option maxRecDepth 100000
namespace Pu
open PySem PySem.Spec PyProof.Rows L2
section
variable {Q : D → Prop} {R : List D → Prop} {B : Bool → Prop} {env : PEnv} {d e x y : D} {o : Option D} {i j : Nat} {E : PEnds} {m n m1 m2 m3 : X1} {r : XL} {a b : XB} {s t : XS} {f : XF} {g : XG} {xs ds : List D} {k l : Bool} {O : O2} {P : O1}
theorem Zaa : xVar 0 (some d :: env) Q = Q d := (rfl)
theorem Zab : xVar (i + 1) (o :: env) Q = xVar i env Q := (rfl)
theorem w_c : xC d env Q = Q d := (rfl)
theorem Zac : xImm m env Q = m env fun d => d.imm = true ∧ Q d := (rfl)
theorem Zad : xNil env R = R [] := (rfl)
theorem Zae : xCons m r env R = m env fun d => r env fun ds => R (d :: ds) := (rfl)
theorem Zaf : xDice r env R = r env fun ds => R (.non :: ds) := (rfl)
theorem Zag : xCall f r env Q = r env fun ds => f ds Q := (rfl)
theorem Zah : x1 P m env Q = m env fun d => P d Q := (rfl)
theorem Zai : x2 O m n env Q = m env fun d => n env fun e => O d e Q := (rfl)
theorem Zaj : xTup r env Q = r env fun ds => ds.length ≤ sizeLine ∧ Q (.tup ds) := (rfl)
theorem Zak : xLst r env Q = r env fun ds => ds.length ≤ sizeLine ∧ Q (.lst ds) := (rfl)
theorem Zal : xIf a m n env Q = a env fun k => if k = true then m env Q else n env Q := (rfl)
theorem Zam : bAnd a b env B = a env fun c => if c = true then b env B else B false := (rfl)
theorem Zan : bOr a b env B = a env fun c => if c = true then B true else b env B := (rfl)
theorem Zao : bNot a env B = a env fun c => B (!c) := (rfl)
theorem Zap : bYes env B = B true := (rfl)
theorem Zaq : bTest m env B = m env fun d => boo d B := by unfold bTest boo; rfl
theorem Zar : boo (.bl k) B = B k := (rfl)
theorem Zas : xAnd m n env Q = m env fun d => boo d fun c => if c = true then n env Q else Q (.bl false) := by unfold xAnd boo; rfl
theorem Zat : xOr m n env Q = m env fun d => boo d fun c => if c = true then Q (.bl true) else n env Q := by unfold xOr boo; rfl
theorem Zau : xNot m env Q = m env fun d => boo d fun c => Q (.bl (!c)) := by unfold xNot boo; rfl
theorem Zav {O' : O2} : xChain O O' m1 m2 m3 env Q = m1 env fun x => m2 env fun y => O x y fun z => boo z fun k => if k = true then m3 env fun w => O' y w Q else Q (.bl false) := by unfold xChain boo; rfl
theorem Zaw : sSeq s t E env = s { nx := t E, rt := E.rt, bk := E.bk, ct := E.ct } env := (rfl)
theorem Zax : sSet i m E env = m env fun d => E.nx (env.set i (some d)) := (rfl)
theorem w_sif : sIf a s t E env = a env fun k => if k = true then s E env else t E env := (rfl)
theorem Zay : sIf a (sRet m) t E env = a env fun k => if k = true then m env E.rt else t E env := (rfl)
theorem Zaz : sIf a (sSeq s (sRet m)) t E env = a env fun k => if k = true then s { nx := sRet m E, rt := E.rt, bk := E.bk, ct := E.ct } env else t E env := (rfl)
theorem ZaA : sIf a sNever t E env = a env fun k => if k = true then False else t E env := (rfl)
theorem ZaB : sIf a sBreak t E env = a env fun k => if k = true then E.bk env else t E env := (rfl)
theorem ZaC : sIf a sCont t E env = a env fun k => if k = true then E.ct env else t E env := (rfl)
theorem ZaD : sRet m E env = m env E.rt := (rfl)
theorem ZaE : sNext E env = E.nx env := (rfl)
theorem ZaF : sBreak E env = E.bk env := (rfl)
theorem ZaG : sCont E env = E.ct env := (rfl)
theorem ZaH : sNever E env = False := (rfl)
theorem ZaI : sDrop m E env = m env fun _ => E.nx env := (rfl)
theorem ZaJ : List.set (o :: env) 0 (some d) = some d :: env := (rfl)
theorem ZaK : List.set (o :: env) (i + 1) (some d) = o :: List.set env i (some d) := (rfl)
theorem ZaL : List.set (o :: env) 0 none = none :: env := (rfl)
theorem ZaM : List.set (o :: env) (i + 1) none = o :: List.set env i none := (rfl)
theorem ZaN : bName i d env = fun Q => Q (env.set i (some d)) := (rfl)
def seqQ (d : D) (R : List D → Prop) : Prop := match d with
  | .lst ds => R ds
  | .tup ds => R ds
  | _ => False
theorem ZaO : mSeq m env R = m env fun d => seqQ d R := by unfold mSeq seqQ; rfl
theorem ZaP : seqQ (.lst ds) R = R ds := (rfl)
theorem ZaQ : seqQ (.tup ds) R = R ds := (rfl)
def rngQ (d : D) (R : List D → Prop) : Prop := match d with
  | .int j => RgOk j ∧ R (rgD 0 j.toNat)
  | _ => False
theorem ZaR : mRng1 m env R = m env fun d => rngQ d R := by unfold mRng1 rngQ; rfl
def rng2Q (d e : D) (R : List D → Prop) : Prop := match d, e with
  | .int i, .int j => RgOk i ∧ RgOk j ∧ R (rgD i (j - i).toNat)
  | _, _ => False
theorem ZaS : mRng2 m n env R = m env fun d => n env fun e => rng2Q d e R := by unfold mRng2 rng2Q; rfl
def enmQ (d : D) (R : List D → Prop) : Prop := match d with
  | .lst ds => R (enD 0 ds)
  | .tup ds => R (enD 0 ds)
  | _ => False
theorem ZaT : mEnmU m env R = m env fun d => enmQ d R := by unfold mEnmU enmQ; rfl
theorem ZaU : enmQ (.lst ds) R = R (enD 0 ds) := (rfl)
theorem ZaV : enmQ (.tup ds) R = R (enD 0 ds) := (rfl)
theorem ZaW : oGet (.lst xs) e Q = oIx (.lst xs) e Q := (rfl)
theorem ZaX {kvs : List (Key × D)} : oGet (.dK kvs) e Q = oIx (.dK kvs) e Q := (rfl)
theorem ZaY {kvs : List (List Key × D)} : oGet (.dT kvs) e Q = oIx (.dT kvs) e Q := (rfl)
theorem ZaZ {mi : XL} : sFor mi g s E env = mi env fun ds => sLoop g s ds E env := (rfl)
theorem Za0 {mi : XL} : xLc mi g a m env Q = mi env fun ds => lcLoop g a m env ds [] fun acc => Q (.lst acc) := (rfl)
theorem Za1 : sApp i m E env = xVar i env fun d => onL d fun xs => m env fun e => xs.length < sizeLine ∧ E.nx (env.set i (some (.lst (xs ++ [e])))) := (rfl)
theorem Za2 {k : List D → Prop} : onL (.lst xs) k = k xs := (rfl)
theorem Za3 : sPut i m n E env = n env fun x => xVar i env fun d => m env fun e => setD d e x fun d' => E.nx (env.set i (some d')) := (rfl)
theorem Za4 : sAug i O m E env = xVar i env fun d => m env fun e => O d e fun x => E.nx (env.set i (some x)) := (rfl)
theorem Za5 : sAugS i m n E env = xVar i env fun d => m env fun e => oGet d e fun old => n env fun w => oAdd1 old w fun z => setD d e z fun d' => E.nx (env.set i (some d')) := (rfl)
theorem Za6 {u : UL} : sLm i u r E env = xVar i env fun d => onL d fun xs => r env fun es => u xs es fun ds => E.nx (env.set i (some (.lst ds))) := (rfl)
theorem Za7 {z : XE} : sSetE i z E env = z env fun d env' => E.nx (env'.set i (some d)) := (rfl)
theorem Za8 {z : XE} : sRetE z E env = z env fun d _ => E.rt d := (rfl)
theorem Za9 {z : XE} : sAppE' i z E env = (isL env[i]? ∧ z env fun e env' => xVar i env' fun d => onL d fun xs => xs.length < sizeLine ∧ E.nx (env'.set i (some (.lst (xs ++ [e]))))) := (rfl)
theorem Zba {z : D → PEnv → Prop} : xPop i n env z = xVar i env fun d => onL d fun xs => n env fun e => popQ xs e fun x ys => z x (env.set i (some (.lst ys))) := (rfl)
theorem Zbb : sAsgG g m E env = m env fun d => g d env E.nx := (rfl)
def slcQ (d : D) (lo hi : Option Int) (Q : D → Prop) : Prop := match d with
  | .tup xs => immL xs = true ∧ Q (.tup (cutD xs lo hi))
  | .lst xs => immL xs = true ∧ Q (.lst (cutD xs lo hi))
  | _ => False
theorem Zbc {lo hi : PEnv → (Option Int → Prop) → Prop} : xSl m lo hi env Q = m env fun d => lo env fun l => hi env fun h => slcQ d l h Q := by unfold xSl slcQ; rfl
def lrgQ (d : D) (Q : D → Prop) : Prop := match d with
  | .int j => L2.RgOk 0 j ∧ Q (.lst (rgD 0 (j - 0).toNat))
  | _ => False
theorem Zbd : xLRg1 m env Q = m env fun d => lrgQ d Q := by unfold xLRg1 lrgQ; rfl
theorem Zbe {R : Option Int → Prop} : pNo env R = R none := (rfl)
def intQ (d : D) (R : Int → Prop) : Prop := match d with
  | .int i => R i
  | _ => False
theorem Zbg {z : Int} {R : Int → Prop} : intQ (.int z) R = R z := (rfl)
theorem Zbf {R : Option Int → Prop} : pYes m env R = m env fun d => intQ d fun i => R (some i) := by unfold pYes intQ; rfl
theorem Zbh {gs : XGs} {N : PEnv → Prop} {k : Nat} : bTup k gs (.tup ds) env N = (ds.length = k ∧ gs ds env N) := (rfl)
theorem Zbi {gs : XGs} {N : PEnv → Prop} : bCons g gs (d :: ds) env N = g d env fun env1 => gs ds env1 N := (rfl)
theorem Zbj {N : PEnv → Prop} : bNil [] env N = N env := (rfl)
theorem Zbk {G : Int → Int → D} {a b : Int} : oI G (.int a) (.int b) Q = Q (G a b) := (rfl)
theorem Zbl {c : Int → Int → Prop} {G : Int → Int → D} {a b : Int} : oIc c G (.int a) (.int b) Q = (c a b ∧ Q (G a b)) := (rfl)
theorem Zbm {a b : Int} : oAdd (.int a) (.int b) Q = Q (.int (a + b)) := (rfl)
theorem Zbn {a b : Int} : oAdd1 (.int a) (.int b) Q = Q (.int (a + b)) := (rfl)
theorem Zbo {a : Int} : oInt (.int a) Q = Q (.int a) := (rfl)
theorem Zbp {k : Bool} : oInt (.bl k) Q = Q (.int (if k then 1 else 0)) := (rfl)
theorem Zbq : oLenA (.lst xs) Q = Q (.int (xs.length : Nat)) := u_len_lst
theorem Zbr : oLenA (.tup xs) Q = Q (.int (xs.length : Nat)) := u_len_tup
theorem Zbs {kvs : List (List Key × D)} : oLenA (.dT kvs) Q = Q (.int (kvs.length : Nat)) := u_len_dT
theorem Zbt {kvs : List (Key × D)} : oLenA (.dK kvs) Q = Q (.int (kvs.length : Nat)) := u_len_dK
theorem Zbu : oIsN d .non Q = Q (.bl d.isN) := by unfold oIsN; simp [D.isN]
theorem Zbv : oNotN d .non Q = Q (.bl (!d.isN)) := by unfold oNotN; simp [D.isN]
theorem Zbw {a b : Bool} {neg : Bool} : oIsB neg (.bl a) (.bl b) Q = Q (.bl (xor neg (decide (a = b)))) := by cases a <;> cases b <;> cases neg <;> rfl
theorem Zbx : oTup (.lst xs) Q = (immL xs = true ∧ Q (.tup xs)) := (rfl)
theorem Zby : oTup (.tup xs) Q = (immL xs = true ∧ Q (.tup xs)) := (rfl)
end
end Pu
set_option Elab.async false
set_option linter.all false
set_option maxRecDepth 100000
namespace Pu
open PySem PySem.Spec PyProof.Rows L2
section
variable {Q : D → Prop} {R : List D → Prop} {a b i n : Int} {r s l ns : List Int} {ws us : List (List Int)} {near : List (List Bool)} {bs : List Bool} {p q : Bool} {α β : Type} {e : α → D} {xs ys : List α}
theorem Zb8 : D.imm (.int a) = true := (rfl)
theorem Zb9 : D.imm (.bl p) = true := (rfl)
theorem Zca : D.imm .non = true := (rfl)
theorem Zcb : D.imm (rD r) = true := immL_dInts r
theorem Zcc : D.imm (wD ws) = true := imm_wD ws
theorem Zcd : immL [] = true := (rfl)
theorem Zce {d : D} {ds : List D} : immL (d :: ds) = (D.imm d && immL ds) := (rfl)
theorem Zcf {ds : List D} : D.imm (.tup ds) = immL ds := by simp [D.imm]
theorem Zbz : List.map D.int r = dInts r := (rfl)
theorem ZbA : List.map rD ws = rowsD ws := (rfl)
theorem ZbC : immL (dInts r) = true := immL_dInts r
theorem ZbE : immL (rowsD ws) = true := immL_rows ws
theorem y_W : ws.getD a.toNat [] = W ws a := (rfl)
theorem Zcg : D.tup (dInts r) = rD r := (rfl)
theorem Zch : D.tup (rowsD ws) = wD ws := (rfl)
theorem Zci : ((dInts r).length : Nat) = r.length := dInts_len
theorem Zcj : ((rowsD ws).length : Nat) = ws.length := rowsD_len
theorem Zck : oLenA (rD r) Q = Q (.int (r.length : Nat)) := by unfold rD; rw [Zbr, dInts_len]
theorem Zcl : oLenA (wD ws) Q = Q (.int (ws.length : Nat)) := by unfold wD; rw [Zbr, rowsD_len]
theorem Zcm : oLenA (nD near) Q = Q (.int (near.length : Nat)) := by unfold nD; rw [Zbq, List.length_map]
theorem sh_int : Sh (.int a) := (rfl)
theorem sh_bl : Sh (.bl p) := by cases p <;> rfl
theorem eqb_rD : D.eqb (rD r) (rD s) = decide (r = s) := eqv_ints r s
theorem eqb_wD : D.eqb (wD ws) (wD us) = decide (ws = us) := eqv_rows ws us
theorem eqb_bl : D.eqb (.bl p) (.bl q) = (p == q) := (rfl)
theorem Zcn : oEq (.int a) (.int b) Q = Q (.bl (decide (a = b))) := by unfold oEq; rw [eqb_int]; simp [sh_int]
theorem Zco : oNe (.int a) (.int b) Q = Q (.bl (!decide (a = b))) := by unfold oNe; rw [eqb_int]; simp [sh_int]
theorem Zcp : oEq (rD r) (rD s) Q = Q (.bl (decide (r = s))) := by unfold oEq; rw [eqb_rD]; simp [sh_ints]
theorem Zcq : oNe (rD r) (rD s) Q = Q (.bl (!decide (r = s))) := by unfold oNe; rw [eqb_rD]; simp [sh_ints]
theorem sh_wD : Sh (wD ws) := sh_rows ws
theorem Zcr : oEq (wD ws) (wD us) Q = Q (.bl (decide (ws = us))) := by unfold oEq; rw [eqb_wD]; simp [sh_wD]
theorem Zcs : oNe (wD ws) (wD us) Q = Q (.bl (!decide (ws = us))) := by unfold oNe; rw [eqb_wD]; simp [sh_wD]
theorem Zct : oEq (.bl p) (.bl q) Q = Q (.bl (p == q)) := by unfold oEq; rw [eqb_bl]; simp [sh_bl]
theorem Zcu : oNe (.bl p) (.bl q) Q = Q (.bl (!(p == q))) := by unfold oNe; rw [eqb_bl]; simp [sh_bl]
theorem Zcv : oIn false (.int b) (rD l) Q = Q (.bl (l.contains b)) := propext ⟨fun h => by
  obtain ⟨_, _, h⟩ := h
  rw [any_ints, Bool.false_xor] at h; exact h, in_ints⟩
theorem Zcw : oIn true (.int b) (rD l) Q = Q (.bl (!l.contains b)) := propext ⟨fun h => by
  obtain ⟨_, _, h⟩ := h
  rw [any_ints, Bool.true_xor] at h; exact h, fun q => ⟨rfl, flat_ints l, by rw [any_ints, Bool.true_xor]; exact q⟩⟩
theorem Zcx {c : Int} : atF 3 "works" (oD c ws) Q = Q (wD ws) := propext ⟨fun h => h.2, fun h => ⟨rfl, h⟩⟩
theorem Zcy {c : Int} : atF 3 "desks" (oD c ws) Q = Q (.int c) := propext ⟨fun h => h.2, fun h => ⟨rfl, h⟩⟩
theorem Zcz : oIx (pD n ws) (.int 0) Q = Q (.int n) := (rfl)
theorem ZcA : oIx (pD n ws) (.int 1) Q = Q (wD ws) := (rfl)
theorem y_ixR (h0 : 0 ≤ i) (h1 : i < (r.length : Int)) (q : Q (.int (r.getD i.toNat 0))) : oIx (rD r) (.int i) Q := atD_int h0 h1 q
theorem rgD_ints : rgD 0 n.toNat = dInts (rangeI n) := by
  unfold rgD rangeI dInts
  rw [List.map_map]
  refine List.map_congr_left fun k _ => ?_
  show D.int (0 + (k : Int)) = D.int (Int.ofNat k)
  rw [Int.zero_add]
  rfl
theorem y_rng (h0 : -(2 ^ 62) ≤ n) (h1 : n < 2 ^ 62) (q : R (dInts (rangeI n))) : rngQ (.int n) R := ⟨⟨h0, h1⟩, by rw [rgD_ints]; exact q⟩
theorem ZbB : enmQ (wD ws) R = R (enD 0 (rowsD ws)) := (rfl)
theorem ZbD : List.map (logF ws r) (rangeI n) = logsF n ws r := (rfl)
theorem draw_ev {k : Int} {o : D} (h0 : 0 < k) (h1 : k < 2 ^ 30) (q : ∀ z, 0 ≤ z → z < k → Q (.int z)) : mDraw [o, .int k] Q := ⟨h0, h1, fun r r0 r1 => q r r0 r1⟩
theorem rangeI_len : (rangeI n).length = n.toNat := by simp [rangeI]
theorem mem_rangeI {x : Int} : x ∈ rangeI n ↔ 0 ≤ x ∧ x < n := ⟨rangeI_mem, fun h => List.mem_map.mpr ⟨x.toNat, List.mem_range.mpr (by omega), Int.toNat_of_nonneg h.1⟩⟩
theorem y_addR (h : r.length + s.length ≤ sizeLine) (q : Q (rD (r ++ s))) : oAdd (rD r) (rD s) Q := ⟨immL_dInts r, immL_dInts s, by rw [dInts_len, dInts_len]; exact h, by rw [dInts_app]; exact q⟩
theorem y_slR_lo {k : Nat} (q : Q (rD (r.drop k))) : slcQ (rD r) (some (k : Int)) none Q := ⟨immL_dInts r, by rw [cut_drop, dInts_drop]; exact q⟩
theorem ZcB : oListA (rD r) Q = Q (.lst (dInts r)) := propext ⟨fun h => by
  rcases h with h | h | h
  · exact h.2
  · exact h.elim
  · exact h.elim, fun h => .inl ⟨immL_dInts r, h⟩⟩
theorem lc_G {g : XG} {mt : XB} {me : X1} {env : PEnv} (t : α → Bool) (f : α → β) (e' : β → D) : ∀ (xs : List α) (acc : List D) (Z : List D → Prop), acc.length + xs.length ≤ sizeLine →
    (∀ x ∈ xs, ∀ (R : D → Prop) (N : Prop), (t x = true → R (e' (f x))) → (t x = false → N) → g (e x) env fun env1 => mt env1 fun k => if k = true then me env1 R else N) →
    Z (acc ++ ((xs.filter t).map f).map e') → lcLoop g mt me env (xs.map e) acc Z
  | [], acc, Z, _, _, q => by simpa [lcLoop] using q
  | x :: xs, acc, Z, hl, h, q => by
    simp at hl
    refine h x List.mem_cons_self _ _ (fun ht => ⟨by omega, ?_⟩) fun ht => ?_
    · refine lc_G t f e' xs _ Z (by simp; omega) (fun y hy => h y (List.mem_cons_of_mem _ hy)) ?_
      rw [List.filter_cons_of_pos ht, List.map_cons, List.map_cons] at q
      simpa using q
    · refine lc_G t f e' xs _ Z (by omega) (fun y hy => h y (List.mem_cons_of_mem _ hy)) ?_
      rwa [List.filter_cons_of_neg (by rw [ht]; decide)] at q
theorem lc_FT {g : XG} {mt : XB} {me : X1} {env : PEnv} {Z : List D → Prop} (t : α → Bool) (f : α → β) (e' : β → D) (hl : xs.length ≤ sizeLine)
    (h : ∀ x ∈ xs, ∀ (R : D → Prop) (N : Prop), (t x = true → R (e' (f x))) → (t x = false → N) → g (e x) env fun env1 => mt env1 fun k => if k = true then me env1 R else N)
    (q : Z (((xs.filter t).map f).map e')) : lcLoop g mt me env (xs.map e) [] Z := lc_G t f e' xs [] Z (by simpa using hl) h q
theorem lc_M {g : XG} {me : X1} {env : PEnv} {Z : List D → Prop} (f : α → β) (e' : β → D) (hl : xs.length ≤ sizeLine) (h : ∀ x ∈ xs, ∀ R : D → Prop, R (e' (f x)) → g (e x) env fun env1 => me env1 R)
    (q : Z ((xs.map f).map e')) : lcLoop g bYes me env (xs.map e) [] Z :=
  lc_FT (fun _ => true) f e' hl (fun x hx R N h1 _ => by have := h x hx R (h1 rfl); exact this) (by rw [List.filter_eq_self.mpr fun _ _ => rfl]; exact q)
theorem loop_T {g : XG} {body : XS} [hs : MS body] [hg : MG g] {E : PEnds} {env : PEnv} (I : List α → List α → PEnv → Prop) (xs : List α) (h0 : I [] xs env)
    (hb : ∀ (p : List α) (x : α) (s : List α) (env : PEnv), p ++ x :: s = xs → I p (x :: s) env → g (e x) env fun env1 => body { nx := I (p ++ [x]) s, rt := E.rt, bk := E.nx, ct := I (p ++ [x]) s } env1)
    (hd : ∀ env, I xs [] env → E.nx env) : sLoop g body (xs.map e) E env := by
  refine loop_ev (b := g) (body := body) (fun ds env => ∃ p s, p ++ s = xs ∧ ds = s.map e ∧ I p s env) ?_ (fun d env Q Q' k q => hg.mono _ _ _ _ k q) (fun p q => hs.mono p q) _ _ ⟨[], xs, rfl, rfl, h0⟩ ?_
  · rintro d ds env ⟨p, s, e1, e2, h⟩
    cases s with
    | nil => cases e2
    | cons x s =>
      obtain ⟨rfl, rfl⟩ := List.cons.inj e2
      have up : ∀ z, I (p ++ [x]) s z → ∃ p' s', p' ++ s' = xs ∧ List.map e s = List.map e s' ∧ I p' s' z := fun z hz => ⟨p ++ [x], s, by simpa using e1, rfl, hz⟩
      exact hg.mono _ _ _ _ (fun env1 q => hs.mono (E := { nx := I (p ++ [x]) s, rt := E.rt, bk := E.nx, ct := I (p ++ [x]) s }) ⟨up, fun _ z => z, fun _ z => z, up⟩ q) (hb p x s env e1 h)
  · rintro env ⟨p, s, e1, e2, h⟩
    cases s with
    | nil => simp at e1; subst e1; exact hd env h
    | cons x s => cases e2
theorem loop_I {g : XG} {body : XS} [hs : MS body] [hg : MG g] {E : PEnds} {env : PEnv} (I : List Int → List Int → PEnv → Prop) (xs : List Int) (h0 : I [] xs env)
    (hb : ∀ (p : List Int) (x : Int) (s : List Int) (env : PEnv), p ++ x :: s = xs → I p (x :: s) env → g (.int x) env fun env1 => body { nx := I (p ++ [x]) s, rt := E.rt, bk := E.nx, ct := I (p ++ [x]) s } env1)
    (hd : ∀ env, I xs [] env → E.nx env) : sLoop g body (dInts xs) E env := loop_T I xs h0 hb hd
theorem map_bl_inj : ∀ {bs cs : List Bool}, bs.map D.bl = cs.map D.bl → bs = cs
  | [], [], _ => rfl
  | [], _ :: _, h => nomatch h
  | _ :: _, [], h => nomatch h
  | a :: bs, b :: cs, h => by
    obtain ⟨h1, h2⟩ := List.cons.inj (show D.bl a :: bs.map D.bl = D.bl b :: cs.map D.bl from h)
    cases h1
    rw [map_bl_inj h2]
theorem ZcC : oAny true (.lst (bs.map D.bl)) Q = Q (.bl (bs.all id)) := propext ⟨fun ⟨cs, e, h⟩ => by
  have : bs = cs := map_bl_inj e
  rw [this]; simpa using h, fun h => ⟨bs, rfl, by simpa using h⟩⟩
theorem ZcD : oAny false (.lst (bs.map D.bl)) Q = Q (.bl (bs.any id)) := propext ⟨fun ⟨cs, e, h⟩ => by
  have : bs = cs := map_bl_inj e
  rw [this]; simpa using h, fun h => ⟨bs, rfl, by simpa using h⟩⟩
theorem ZbF {c : String} : oIsA c (.int a) Q = Q (.bl (subB "int" c)) := (rfl)
theorem ZbG {c : String} : oIsA c (.bl p) Q = Q (.bl (subB "bool" c)) := (rfl)
theorem ZbH {c : String} {z : Str} : oIsA c (.str z) Q = Q (.bl (subB "str" c)) := (rfl)
theorem ZbI {c : String} : oIsA c .non Q = Q (.bl (subB "NoneType" c)) := (rfl)
theorem ZbJ {c : String} {ds : List D} : oIsA c (.tup ds) Q = Q (.bl (subB "tuple" c)) := (rfl)
theorem ZbK {c : String} {ds : List D} : oIsA c (.lst ds) Q = Q (.bl (subB "list" c)) := (rfl)
theorem ZbL {c : String} : oIsA c (rD r) Q = Q (.bl (subB "tuple" c)) := (rfl)
theorem ZbM {c : String} : oIsA c (wD ws) Q = Q (.bl (subB "tuple" c)) := (rfl)
theorem ZbN {cs : List String} : oIsAny cs (.int a) Q = Q (.bl (cs.any fun c => subB "int" c)) := (rfl)
theorem ZbO {cs : List String} : oIsAny cs (.bl p) Q = Q (.bl (cs.any fun c => subB "bool" c)) := (rfl)
theorem ZbP {cs : List String} {z : Str} : oIsAny cs (.str z) Q = Q (.bl (cs.any fun c => subB "str" c)) := (rfl)
theorem ZbQ {cs : List String} : oIsAny cs .non Q = Q (.bl (cs.any fun c => subB "NoneType" c)) := (rfl)
theorem ZbR {cs : List String} {ds : List D} : oIsAny cs (.tup ds) Q = Q (.bl (cs.any fun c => subB "tuple" c)) := (rfl)
theorem ZbS {cs : List String} {ds : List D} : oIsAny cs (.lst ds) Q = Q (.bl (cs.any fun c => subB "list" c)) := (rfl)
theorem sb1 : (["tuple", "list"].any fun c => subB "int" c) = false := by decide
theorem sb2 : (["tuple", "list"].any fun c => subB "bool" c) = false := by decide
theorem sb3 : (["tuple", "list"].any fun c => subB "str" c) = false := by decide
theorem sb4 : (["tuple", "list"].any fun c => subB "NoneType" c) = false := by decide
theorem sb5 : (["tuple", "list"].any fun c => subB "tuple" c) = true := by decide
theorem sb6 : (["tuple", "list"].any fun c => subB "list" c) = true := by decide
theorem sb7 : (["bool", "str"].any fun c => subB "bool" c) = true := by decide
theorem sb8 : (["bool", "str"].any fun c => subB "str" c) = true := by decide
theorem sb9 : subB "int" "bool" = false := by decide
theorem ZbT : subB "int" "str" = false := by decide
theorem ZbU : subB "int" "int" = true := by decide
theorem ZbV : subB "NoneType" "bool" = false := by decide
theorem ZbW : subB "NoneType" "str" = false := by decide
theorem ZbX : subB "bool" "bool" = true := by decide
theorem ZbY : subB "str" "bool" = false := by decide
theorem ZbZ : subB "str" "str" = true := by decide
theorem Zb0 : subB "tuple" "tuple" = true := by decide
theorem Zb1 : subB "tuple" "list" = false := by decide
theorem Zb2 : subB "list" "tuple" = false := by decide
theorem Zb3 : subB "list" "list" = true := by decide
theorem Zb4 : subB "bool" "int" = true := by decide
theorem Zb5 : (D.int a).isN = false := (rfl)
theorem Zb6 : D.non.isN = true := (rfl)
theorem Zb7 : (rD r).isN = false := (rfl)
end
end Pu
set_option Elab.async false
set_option linter.all false
set_option maxRecDepth 100000
set_option synthInstance.maxHeartbeats 0
set_option synthInstance.maxSize 100000
namespace Pu
open PySem PySem.Spec PyProof.Rows L2
section
variable {Q : D → Prop} {R : List D → Prop} {n i : Int} {r s a b A B P : List Int} {ws : List (List Int)} {x y z : Int} {env : PEnv} {α κ : Type} [DecidableEq κ] [DecidableEq α] {inl : α → κ} {kvs : List (κ × D)} {K : List α} {f g : α → D} {c c' : α} {d d0 : D} {kds : List (Key × D)} {J : List Int} {F : Int → D}
structure KG (inl : α → κ) (kvs : List (κ × D)) (K : List α) (f : α → D) : Prop where
  keys : kvs.map (·.1) = K.map inl
  nd : K.Nodup
  inj : ∀ a b, inl a = inl b → a = b
  val : ∀ a ∈ K, lookD kvs (inl a) = some (f a)
theorem KG.len (h : KG inl kvs K f) : kvs.length = K.length := by have := congrArg List.length h.keys; simpa using this
theorem KG.any (h : KG inl kvs K f) : (kvs.any fun kv => decide (kv.1 = inl c)) = decide (c ∈ K) := by
  by_cases hc : c ∈ K
  · rw [decide_eq_true hc, List.any_eq_true]
    have : inl c ∈ kvs.map (·.1) := by rw [h.keys]; exact List.mem_map.mpr ⟨c, hc, rfl⟩
    obtain ⟨z, hz, e⟩ := List.mem_map.mp this
    exact ⟨z, hz, decide_eq_true e⟩
  · rw [decide_eq_false hc, List.any_eq_false]
    intro z hz q
    have : z.1 ∈ kvs.map (·.1) := List.mem_map.mpr ⟨z, hz, rfl⟩
    rw [h.keys] at this
    obtain ⟨t, ht, e⟩ := List.mem_map.mp this
    exact hc (h.inj _ _ (e.trans (of_decide_eq_true q)) ▸ ht)
theorem KG.none (h : KG inl kvs K f) (hc : c ∉ K) : lookD kvs (inl c) = none := by
  unfold lookD
  rw [List.find?_eq_none.mpr]
  · rfl
  · intro z hz
    have := h.any (c := c)
    rw [decide_eq_false hc, List.any_eq_false] at this
    simpa using this z hz
theorem KG.congr (h : KG inl kvs K f) (e : ∀ a ∈ K, f a = g a) : KG inl kvs K g := ⟨h.keys, h.nd, h.inj, fun a ha => by rw [h.val a ha, e a ha]⟩
def inlK (x : Int) : Key := Sum.inl x
abbrev KX (kds : List (Key × D)) (J : List Int) (F : Int → D) : Prop := KG inlK kds J F
end
end Pu
set_option Elab.async false
set_option linter.all false
set_option maxRecDepth 100000
set_option synthInstance.maxHeartbeats 0
set_option synthInstance.maxSize 100000
namespace Pu
open PySem PySem.Spec PyProof.Rows L2
section
variable {n i j k e d c m p q : Int} {r s l : List Int} {ws : List (List Int)} {x y : Int} {P P' : Int → Prop}
def Ev (r : List Int) (k : Int) : Int := r.getD k.toNat 0
inductive Pst (ws : List (List Int)) (r : List Int) : Int → Int → Prop
  | self {i : Int} : 0 ≤ i → i < (r.length : Int) → Pst ws r i i
  | step {j k i : Int} : Pst ws r j k → k < i → i < (r.length : Int) → meetsF ws (Ev r k) (Ev r i) = true → Pst ws r j i
theorem Pst.le (h : Pst ws r j i) : 0 ≤ j ∧ j ≤ i ∧ i < (r.length : Int) := by
  induction h with
  | self h1 h2 => exact ⟨h1, Int.le_refl _, h2⟩
  | step h1 h2 h3 h4 ih => exact ⟨ih.1, by omega, h3⟩
theorem Pst.trans (h1 : Pst ws r j k) (h2 : Pst ws r k i) : Pst ws r j i := by
  induction h2 with
  | self _ _ => exact h1
  | step a b c d ih => exact .step ih b c d
theorem ev_app (h0 : 0 ≤ k) (h1 : k < (r.length : Int)) : Ev (r ++ s) k = Ev r k := by
  unfold Ev
  rw [List.getD_eq_getElem?_getD, List.getD_eq_getElem?_getD, List.getElem?_append_left (by omega)]
theorem Pst.app (h : Pst ws r j i) : Pst ws (r ++ s) j i := by
  have ll : (r.length : Int) ≤ ((r ++ s).length : Int) := by simp <;> omega
  induction h with
  | self h1 h2 => exact .self h1 (by omega)
  | step h1 h2 h3 h4 ih =>
    have := h1.le
    exact .step ih h2 (by omega) (by rw [ev_app (by omega) (by omega), ev_app (by omega) h3]; exact h4)
noncomputable def pastL (ws : List (List Int)) (r : List Int) (i : Int) : List Int := (rangeI (i + 1)).filter fun j => @decide (Pst ws r j i) (Classical.propDecidable _)
theorem mem_pastL : j ∈ pastL ws r i ↔ Pst ws r j i := by
  unfold pastL
  rw [List.mem_filter, mem_rangeI]
  exact ⟨fun h => @of_decide_eq_true _ (Classical.propDecidable _) h.2, fun h => ⟨by have := h.le; omega, @decide_eq_true _ (Classical.propDecidable _) h⟩⟩
theorem pastL_pw : (pastL ws r i).Pairwise (· < ·) := (rangeI_pw _).filter _
def IsLast (P : Int → Prop) (m : Int) : Prop := (∀ j, P j → j ≤ m) ∧ (m = -1 ∨ P m)
theorem IsLast.uniq (h0 : ∀ j, P j → 0 ≤ j) {m m' : Int} (h : IsLast P m) (h' : IsLast P m') : m = m' := by
  obtain ⟨a1, a2⟩ := h
  obtain ⟨b1, b2⟩ := h'
  rcases a2 with e | a2
  · rcases b2 with e' | b2
    · omega
    · have := a1 _ b2; have := h0 _ b2; omega
  · rcases b2 with e' | b2
    · have := b1 _ a2; have := h0 _ a2; omega
    · have := a1 _ b2; have := b1 _ a2; omega
theorem IsLast.congr {m : Int} (h : IsLast P m) (e : ∀ j, P j ↔ P' j) : IsLast P' m := ⟨fun j hj => h.1 j ((e j).mpr hj), h.2.imp id (e m).mp⟩
def lastL (l : List Int) : Int := l.getLast?.getD (-1)
theorem lastL_is (h : l.Pairwise (· < ·)) : IsLast (fun j => j ∈ l) (lastL l) := by
  unfold lastL
  cases e : l.getLast? with
  | none =>
    rw [List.getLast?_eq_none_iff] at e
    subst e
    exact ⟨fun j hj => (nomatch hj), .inl rfl⟩
  | some m =>
    obtain ⟨t, e2⟩ := List.getLast?_eq_some_iff.mp e
    subst e2
    refine ⟨fun j hj => ?_, .inr (by simp)⟩
    rcases List.mem_append.mp hj with z | z
    · have := (List.pairwise_append.mp h).2.2 j z m (by simp)
      show j ≤ m
      omega
    · rw [List.mem_singleton.mp z]; exact Int.le_refl _
def onD (ws : List (List Int)) (r : List Int) (d : Int) (l : List Int) : List Int := l.filter fun j => (W ws (Ev r j)).contains d
theorem mem_onD : j ∈ onD ws r d l ↔ j ∈ l ∧ d ∈ W ws (Ev r j) := by
  unfold onD
  rw [List.mem_filter]
  simp
noncomputable def lastIn (ws : List (List Int)) (r : List Int) (e d : Int) : Int := lastL (onD ws r d (pastL ws r e))
def lastOf (ws : List (List Int)) (r : List Int) (d : Int) : Int := lastL (onD ws r d (rangeI (r.length : Int)))
theorem lastIn_is : IsLast (fun j => Pst ws r j e ∧ d ∈ W ws (Ev r j)) (lastIn ws r e d) := (lastL_is (l := onD ws r d (pastL ws r e)) (pastL_pw.filter _)).congr fun j => by rw [mem_onD, mem_pastL]
theorem lastIn_ge : -1 ≤ lastIn ws r e d := by
  rcases (lastIn_is (ws := ws) (r := r) (e := e) (d := d)).2 with h | h
  · omega
  · have := h.1.le; omega
theorem lastIn_lt : lastIn ws r e d < (r.length : Int) := by
  rcases (lastIn_is (ws := ws) (r := r) (e := e) (d := d)).2 with h | h
  · omega
  · have := h.1.le; omega
end
end Pu
set_option Elab.async false
set_option linter.all false
set_option maxRecDepth 100000
set_option synthInstance.maxHeartbeats 0
set_option synthInstance.maxSize 100000
namespace Pu
open PySem PySem.Spec PyProof.Rows L2
section
variable {Q : D → Prop} {n i j k e d c m p q : Int} {r s l : List Int} {ws : List (List Int)} {x y : Int} {o a b g h : D} {ls : List D} {lab : D} {K : D → Prop} {R : List (Str × D) → Prop} {env : PEnv} {E : PEnds}
def trO (o a b g h : D) : D := .obj 6 [("office", o), ("row", a), ("lasts_in", b), ("names", g), ("lasts", h)]
noncomputable def liV (n : Int) (ws : List (List Int)) (r : List Int) (e : Int) : List Int := (rangeI n).map (lastIn ws r e)
def lastsV (n : Int) (ws : List (List Int)) (r : List Int) : List Int := (rangeI n).map (lastOf ws r)
def nmF (r : List Int) (ls : List D) (e : Int) : D := if e < 0 then .non else .tup [.int (Ev r e), ls.getD e.toNat .non]
def trK (r : List Int) : List Int := (-1) :: rangeI (r.length : Int)
structure Tr (n : Int) (ws : List (List Int)) (r : List Int) (ls : List D) (d : D) : Prop where
  ex : ∃ lk nk, d = trO (oD n ws) (rD r) (.dK lk) (.dK nk) (rD (lastsV n ws r)) ∧ KX lk (trK r) (fun e => rD (liV n ws r e)) ∧ KX nk (trK r) (nmF r ls)
  len : ls.length = r.length
theorem s_seqR {S : List D → Prop} : seqQ (rD r) S = S (dInts r) := (rfl)
theorem s_seqL {S : List D → Prop} {ds : List D} : seqQ (.lst ds) S = S ds := (rfl)
def eT (l : List Int) (p : Int) : D := .tup [.int p, .int (l.getD p.toNat 0)]
end
end Pu
set_option Elab.async false
set_option linter.all false
set_option maxRecDepth 100000
set_option synthInstance.maxHeartbeats 0
set_option synthInstance.maxSize 100000
namespace Pu
open PySem PySem.Spec PyProof.Rows L2
section
variable {Q : D → Prop} {n i j k e d c m p q : Int} {r s l J : List Int} {ws : List (List Int)} {x y : Int} {K : D → Prop} {R : List (Str × D) → Prop} {env : PEnv} {E : PEnds} {ls : List D} {t d0 : D}
theorem w_make {c : Nat} {mf : XI} {r : XL} : xMake c mf r env Q = r env fun ds => mf ds fun gs => Q (mkO c gs) := (rfl)
theorem range_pre {p : List Int} {m : Int} (e : p ++ x :: s = rangeI m) : x = (p.length : Int) ∧ (p.length : Int) < m ∧ p = rangeI (p.length : Int) := by
  have hl := congrArg List.length e
  rw [rangeI_len] at hl
  simp at hl
  have h1 : (rangeI m)[p.length]? = some x := by rw [← e]; simp
  have h2 : (rangeI m).take p.length = p := by rw [← e]; simp
  unfold rangeI at h1 h2
  rw [List.getElem?_map, List.getElem?_range (by omega)] at h1
  refine ⟨by simpa using h1.symm, by omega, ?_⟩
  rw [← List.map_take, List.take_range, Nat.min_eq_left (by omega)] at h2
  unfold rangeI
  rw [Int.toNat_natCast]
  exact h2.symm
noncomputable def pstB (ws : List (List Int)) (r : List Int) (p e : Int) : Bool := @decide (Pst ws r p e) (Classical.propDecidable _)
end
end Pu
set_option Elab.async false
set_option linter.all false
set_option maxRecDepth 100000
set_option synthInstance.maxHeartbeats 0
set_option synthInstance.maxSize 100000
namespace Pu
open PySem PySem.Spec PyProof.Rows L2
section
variable {Q : D → Prop} {n i j k e d c m p q : Int} {r s l J a lot : List Int} {ws : List (List Int)} {x y : Int} {K : D → Prop} {env : PEnv} {dd t : D} {ls : List D}
end
end Pu
set_option Elab.async false
set_option linter.all false
set_option maxRecDepth 100000
set_option synthInstance.maxHeartbeats 0
set_option synthInstance.maxSize 100000
namespace Pu
open PySem PySem.Spec PyProof.Rows L2
section
variable {Q : D → Prop} {k : Nat} {d : D} {ds : List D}
inductive Nb : Nat → D → Prop
  | non {k : Nat} : Nb k .non
  | int {k : Nat} (i : Int) : Nb k (.int i)
  | bl {k : Nat} (b : Bool) : Nb k (.bl b)
  | tup {k : Nat} {ds : List D} : (∀ d ∈ ds, Nb k d) → ds.length ≤ 1000000 → Nb (k + 1) (.tup ds)
theorem Nb.imm (h : Nb k d) : d.imm = true := by
  induction h with
  | non => rfl
  | int i => rfl
  | bl b => rfl
  | @tup k ds h l ih =>
    rw [Zcf]
    clear l
    induction ds with
    | nil => rfl
    | cons d ds i2 =>
      rw [Zce, ih d List.mem_cons_self, i2 (fun x hx => h x (List.mem_cons_of_mem _ hx)) (fun x hx => ih x (List.mem_cons_of_mem _ hx))]
      rfl
theorem Nb.lay (h : Nb k d) : d.py.canLay0 = true ∧ d.py.depth ≤ k ∧ PyData.eqv d.py d.py = true := by
  induction h with
  | non => exact ⟨rfl, Nat.zero_le _, rfl⟩
  | int i => exact ⟨rfl, Nat.zero_le _, by show D.eqb (.int i) (.int i) = true; rw [eqb_int]; exact decide_eq_true rfl⟩
  | bl b => exact ⟨rfl, Nat.zero_le _, by cases b <;> rfl⟩
  | @tup k ds h l ih =>
    clear l
    have all : PyData.canLayAll0 (pyL ds) = true ∧ PyData.depthAll (pyL ds) ≤ k ∧ PyData.eqvAll (pyL ds) (pyL ds) = true := by
      induction ds with
      | nil => exact ⟨rfl, Nat.zero_le _, rfl⟩
      | cons d ds i2 =>
        obtain ⟨a1, a2, a3⟩ := ih d List.mem_cons_self
        obtain ⟨b1, b2, b3⟩ := i2 (fun x hx => h x (List.mem_cons_of_mem _ hx)) (fun x hx => ih x (List.mem_cons_of_mem _ hx))
        refine ⟨?_, ?_, ?_⟩
        · show (d.py.canLay0 && PyData.canLayAll0 (pyL ds)) = true
          rw [a1, b1]; rfl
        · show max d.py.depth (PyData.depthAll (pyL ds)) ≤ k
          exact Nat.max_le.mpr ⟨a2, b2⟩
        · show (PyData.eqv d.py d.py && PyData.eqvAll (pyL ds) (pyL ds)) = true
          rw [a3, b3]; rfl
    exact ⟨all.1, Nat.succ_le_succ all.2.1, all.2.2⟩
theorem Nb.sh (h : Nb k d) (hk : k ≤ 64) : Sh d := by
  obtain ⟨a, b, _⟩ := h.lay
  show (d.py.canLay0 && decide (d.py.depth ≤ 64)) = true
  rw [a, decide_eq_true (Nat.le_trans b hk)]
  rfl
theorem Nb.eqb (h : Nb k d) : D.eqb d d = true := h.lay.2.2
theorem Nb.up (h : Nb k d) : Nb (k + 1) d := by
  induction h with
  | non => exact .non
  | int i => exact .int i
  | bl b => exact .bl b
  | tup h l ih => exact .tup ih l
theorem Nb.le {j : Nat} (h : Nb k d) (l : k ≤ j) : Nb j d := by
  induction l with
  | refl => exact h
  | step _ ih => exact ih.up
theorem nb_ints {r : List Int} (h : r.length ≤ 1000000) : Nb 1 (rD r) := .tup (fun d hd => by obtain ⟨x, _, rfl⟩ := mem_dInts hd; exact .int x) (by rw [dInts_len]; exact h)
end
end Pu
set_option Elab.async false
set_option linter.all false
set_option maxRecDepth 100000
set_option synthInstance.maxHeartbeats 0
set_option synthInstance.maxSize 100000
namespace Pu
open PySem PySem.Spec PyProof.Rows L2
section
variable {Q : D → Prop} {n i j k e d c m p q : Int} {r s l J a lot : List Int} {ws L : List (List Int)} {x y : Int} {K : D → Prop} {env : PEnv} {dd t : D} {ls ds : List D}
end
end Pu
set_option Elab.async false
set_option linter.all false
set_option maxRecDepth 100000
set_option synthInstance.maxHeartbeats 0
set_option synthInstance.maxSize 100000
namespace Pu
open PySem PySem.Spec PyProof.Rows L2
section
variable {Q : D → Prop} {n : Int} {r s row left : List Int} {ws : List (List Int)}
def freeAt (ws : List (List Int)) : List Int → Int → Option Nat
  | [], _ => none
  | y :: r, x => if y = x then some 0 else if meetsF ws y x = true then none else (freeAt ws r x).map (· + 1)
theorem range_split {p s : List Int} {x : Int} (e : p ++ x :: s = rangeI n) : x = (p.length : Int) ∧ (p.length : Int) < n := by
  have hl := congrArg List.length e
  rw [rangeI_len] at hl
  simp at hl
  have h1 : (rangeI n)[p.length]? = some x := by rw [← e]; simp
  unfold rangeI at h1
  rw [List.getElem?_map, List.getElem?_range (by omega)] at h1
  simp at h1
  exact ⟨h1.symm, by omega⟩
def Pick (ws : List (List Int)) (left : List Int) (x : Int) (k : Nat) : Prop := freeAt ws left x = some k ∧ ∀ y ∈ left, y < x → freeAt ws left y = none
inductive Lst (ws : List (List Int)) : List Int → List Int → Prop
  | nil : Lst ws [] []
  | cons {left rest : List Int} {x : Int} {k : Nat} : Pick ws left x k → Lst ws (left.eraseIdx k) rest → Lst ws left (x :: rest)
theorem dInts_erase (k : Nat) : (dInts left).eraseIdx k = dInts (left.eraseIdx k) := erase_ints left k
theorem popQ_ints {k : Nat} {Z : D → List D → Prop} {x : Int} (hl : left.length ≤ 1000000) (h : left[k]? = some x) (q : Z (.int x) (dInts (left.eraseIdx k))) : popQ (dInts left) (.int (k : Int)) Z := by
  have hk := (List.getElem?_eq_some_iff.mp h).1
  refine ⟨by omega, by omega, ?_⟩
  rw [PySem.seqIndex_of (by omega) (by rw [dInts_len]; omega), Int.toNat_natCast]
  have : (dInts left)[k]? = some (.int x) := by unfold dInts; rw [List.getElem?_map, h] <;> rfl
  dsimp only
  rw [this, dInts_erase]
  exact q
theorem dInts_snoc (r : List Int) (x : Int) : dInts r ++ [D.int x] = dInts (r ++ [x]) := by unfold dInts; rw [List.map_append] <;> rfl
end
section
variable {n : Int} {r s a b row left : List Int} {ws : List (List Int)} {x z : Int}
end
end Pu
set_option Elab.async false
set_option linter.all false
set_option maxRecDepth 100000
set_option synthInstance.maxHeartbeats 0
set_option synthInstance.maxSize 100000
namespace Pu
open PySem PySem.Spec PyProof.Rows L2
section
variable {Q : D → Prop} {n i : Int} {r s row left : List Int} {ws us : List (List Int)}
inductive Pl : Nat → D → Prop
  | int {k : Nat} (a : Int) : Pl k (.int a)
  | bl {k : Nat} (b : Bool) : Pl k (.bl b)
  | non {k : Nat} : Pl k .non
  | tup {k : Nat} {ds : List D} (h : ∀ d ∈ ds, Pl k d) (l : ds.length ≤ 1000000) : Pl (k + 1) (.tup ds)
  | lst {k : Nat} {ds : List D} (h : ∀ d ∈ ds, Pl k d) (l : ds.length ≤ 1000000) : Pl (k + 1) (.lst ds)
end
end Pu
set_option Elab.async false
set_option linter.all false
set_option maxRecDepth 100000
set_option synthInstance.maxHeartbeats 0
set_option synthInstance.maxSize 100000
namespace Pu
open PySem PySem.Spec PyProof.Rows L2
section
variable {Q : D → Prop} {n i : Int} {r s row left : List Int} {ws us : List (List Int)}
end
end Pu
set_option Elab.async false
set_option linter.all false
set_option maxRecDepth 100000
set_option synthInstance.maxHeartbeats 0
set_option synthInstance.maxSize 100000
namespace Pu
open PySem PySem.Spec PyProof.Rows L2
section
variable {Q : D → Prop} {n i : Int} {r s row left : List Int} {ws us L : List (List Int)} {C : List Int}
def Rem (L : List (List Int)) (C : List Int) (d : Int) : List Int := if 0 ≤ d ∧ d < (L.length : Int) then (L.getD d.toNat []).drop (C.getD d.toNat 0).toNat else []
def Ready (ws : List (List Int)) (R : Int → List Int) (x : Int) : Prop := W ws x ≠ [] ∧ ∀ d ∈ W ws x, (R d).head? = some x
instance {ws : List (List Int)} {R : Int → List Int} {x : Int} : Decidable (Ready ws R x) := by unfold Ready; infer_instance
def firstR (ws : List (List Int)) (R : Int → List Int) : Option Int := (rangeI ws.length).find? fun x => decide (Ready ws R x)
def COk : List (List Int) → List Int → Prop
  | [], [] => True
  | l :: L, c :: C => 0 ≤ c ∧ c ≤ (l.length : Int) ∧ COk L C
  | _, _ => False
theorem COk.len : ∀ {L : List (List Int)} {C : List Int}, COk L C → C.length = L.length
  | [], [], _ => rfl
  | l :: L, c :: C, h => by simp [COk.len h.2.2]
  | [], _ :: _, h => h.elim
  | _ :: _, [], h => h.elim
theorem COk.at : ∀ {L : List (List Int)} {C : List Int} (k : Nat), COk L C → 0 ≤ C.getD k 0 ∧ C.getD k 0 ≤ ((L.getD k []).length : Int)
  | [], [], k, _ => by simp
  | l :: L, c :: C, 0, h => by simpa using ⟨h.1, h.2.1⟩
  | l :: L, c :: C, k + 1, h => by simpa using COk.at k h.2.2
  | [], _ :: _, _, h => h.elim
  | _ :: _, [], _, h => h.elim
theorem COk.set : ∀ {L : List (List Int)} {C : List Int} (k : Nat) {c : Int}, COk L C → 0 ≤ c → c ≤ ((L.getD k []).length : Int) → COk L (C.set k c)
  | [], [], k, c, _, _, _ => by simp [COk]
  | l :: L, c0 :: C, 0, c, h, h1, h2 => ⟨h1, by simpa using h2, h.2.2⟩
  | l :: L, c0 :: C, k + 1, c, h, h1, h2 => ⟨h.1, h.2.1, COk.set k h.2.2 h1 (by simpa using h2)⟩
  | [], _ :: _, _, _, h, _, _ => h.elim
  | _ :: _, [], _, _, h, _, _ => h.elim
def tot (L : List (List Int)) : Int := (L.map fun l => (l.length : Int)).sum
theorem COk.sum : ∀ {L : List (List Int)} {C : List Int}, COk L C → 0 ≤ C.sum ∧ C.sum ≤ tot L
  | [], [], _ => by simp [tot]
  | l :: L, c :: C, h => by
    have := COk.sum h.2.2
    have h1 := h.1
    have h2 := h.2.1
    simp only [tot, List.map_cons, List.sum_cons] at this ⊢
    omega
  | [], _ :: _, h => h.elim
  | _ :: _, [], h => h.elim
theorem COk.zero : ∀ L : List (List Int), COk L (List.replicate L.length 0)
  | [] => trivial
  | l :: L => ⟨Int.le_refl _, by omega, COk.zero L⟩
end
end Pu
set_option Elab.async false
set_option linter.all false
set_option maxRecDepth 100000
set_option synthInstance.maxHeartbeats 0
set_option synthInstance.maxSize 100000
namespace Pu
open PySem PySem.Spec PyProof.Rows L2
section
variable {Q : D → Prop} {n i : Int} {r s row left : List Int} {ws us L : List (List Int)} {C : List Int}
inductive Run (ws : List (List Int)) : (Int → List Int) → List Int → (Int → List Int) → Prop
  | stop {R : Int → List Int} : firstR ws R = none → Run ws R [] R
  | step {R R' : Int → List Int} {x : Int} {row : List Int} : firstR ws R = some x → Run ws (fun d => if d ∈ W ws x then (R d).tail else R d) row R' → Run ws R (x :: row) R'
def bump (C : List Int) (ds : List Int) : List Int := ds.foldl (fun C d => C.set d.toNat (C.getD d.toNat 0 + 1)) C
def zeros (k : Nat) : List Int := List.replicate k 0
end
end Pu
set_option Elab.async false
set_option linter.all false
set_option maxRecDepth 100000
set_option synthInstance.maxHeartbeats 0
set_option synthInstance.maxSize 100000
namespace Pu
open PySem PySem.Spec PyProof.Rows L2
section
variable {Q : D → Prop} {n i : Int} {r s row left a b : List Int} {ws us L : List (List Int)} {C : List Int}
end
end Pu
set_option Elab.async false
set_option linter.all false
set_option maxRecDepth 100000
set_option synthInstance.maxHeartbeats 0
set_option synthInstance.maxSize 100000
namespace Pu
open PySem PySem.Spec PyProof.Rows L2
section
variable {Q : D → Prop} {n i : Int} {r s row left a b : List Int} {ws us L K : List (List Int)} {C : List Int} {kvs : List (List Key × D)} {dd : D}
theorem lex_tri : ∀ {a b : List Int}, HT.lexLt a b = false → HT.lexLt b a = false → a = b
  | [], [], _, _ => rfl
  | [], _ :: _, h, _ => by simp [HT.lexLt] at h
  | _ :: _, [], _, h => by simp [HT.lexLt] at h
  | x :: a, y :: b, h1, h2 => by
    unfold HT.lexLt at h1 h2
    by_cases e : x = y
    · subst e
      rw [if_pos rfl] at h1 h2
      rw [lex_tri h1 h2]
    · rw [if_neg e] at h1
      rw [if_neg (Ne.symm e)] at h2
      have h1 := of_decide_eq_false h1
      have h2 := of_decide_eq_false h2
      omega
end
end Pu
set_option Elab.async false
set_option linter.all false
set_option maxRecDepth 100000
set_option synthInstance.maxHeartbeats 0
set_option synthInstance.maxSize 100000
namespace Pu
open PySem PySem.Spec PyProof.Rows L2
section
variable {Q : D → Prop} {n i j k e d c m p q : Int} {r s l J a lot left found row : List Int} {ws L : List (List Int)} {x y : Int} {K : D → Prop} {env : PEnv} {dd t : D} {ls ds : List D}
theorem y_listLL (q : Q (.lst (dInts l))) : oListA (.lst (dInts l)) Q := .inl ⟨immL_dInts l, q⟩
end
end Pu
set_option Elab.async false
set_option linter.all false
set_option maxRecDepth 100000
set_option synthInstance.maxHeartbeats 0
set_option synthInstance.maxSize 100000
namespace Pu
open PySem PySem.Spec PyProof.Rows L2
section
variable {Q : D → Prop} {n i j k e d c m p q A b : Int} {r s l J a lot left found row : List Int} {ws L : List (List Int)} {x y : Int} {K : D → Prop} {env : PEnv} {dd t : D} {ls ds : List D}
end
end Pu
set_option Elab.async false
set_option linter.all false
set_option maxRecDepth 100000
set_option synthInstance.maxHeartbeats 0
set_option synthInstance.maxSize 100000
namespace Pu
open PySem PySem.Spec PyProof.Rows L2
section
variable {α : Type} {Q : D → Prop} {kds acc : List (D × D)} {ks l : List NestedKey} {k : NestedKey} {y z : D} {env : PEnv} {E : PEnds}
theorem w_putN {i : Nat} {m mv : X1} : sPutN i m mv E env = mv env fun x => xVar i env fun d => m env fun e => setDN d e x fun d' => E.nx (env.set i (some d')) := (rfl)
def NX (kds : List (D × D)) (ks : List NestedKey) : Prop := kds.map (fun p => p.1.nk) = ks.map some ∧ ks.Nodup
def insK (ks : List NestedKey) (k : NestedKey) : List NestedKey := if k ∈ ks then ks else ks ++ [k]
theorem insK_nd (h : ks.Nodup) : (insK ks k).Nodup := by
  unfold insK
  split
  · exact h
  · rename_i hk
    exact List.nodup_append.mpr ⟨h, by simp, fun a ha b hb e => by rw [List.mem_singleton.mp hb] at e; exact hk (e ▸ ha)⟩
theorem NX.nil : NX [] [] := ⟨rfl, List.nodup_nil⟩
theorem NX.len (h : NX kds ks) : kds.length = ks.length := by have := congrArg List.length h.1; simpa using this
theorem NX.nd (h : NX kds ks) : (kds.map fun p => p.1.nk).Nodup := by
  rw [h.1]
  exact List.pairwise_map.mpr (h.2.imp fun h e => h (Option.some.inj e))
theorem NX.isSome : ∀ {kds : List (D × D)} {ks : List NestedKey}, NX kds ks → (lookN kds k).isSome = decide (k ∈ ks)
  | [], [], _ => by simp [lookN]
  | [], _ :: _, h => by have := h.len; simp at this
  | _ :: _, [], h => by have := h.len; simp at this
  | p :: kds, a :: ks, ⟨h1, h2⟩ => by
    rw [List.map_cons, List.map_cons] at h1
    obtain ⟨e1, e2⟩ := List.cons.inj h1
    have ih : (lookN kds k).isSome = decide (k ∈ ks) := NX.isSome ⟨e2, (List.nodup_cons.mp h2).2⟩
    unfold lookN at ih ⊢
    by_cases e : a = k
    · rw [List.find?_cons_of_pos (by rw [e1, e]; simp)]
      simp [e]
    · rw [List.find?_cons_of_neg (by rw [e1]; simpa using e), ih, Bool.eq_iff_iff, decide_eq_true_iff, decide_eq_true_iff, List.mem_cons]
      exact ⟨.inr, fun z => z.elim (fun w => absurd w.symm e) id⟩
theorem NX.put (h : NX kds ks) (e : y.nk = some k) : NX (putN kds k y z) (insK ks k) := by
  unfold putN insK
  rw [h.isSome]
  by_cases hk : k ∈ ks
  · rw [if_pos (by simpa using hk), if_pos hk]
    refine ⟨?_, h.2⟩
    rw [← h.1, List.map_map]
    refine List.map_congr_left fun p _ => ?_
    show (if p.1.nk = some k then (p.1, z) else p).1.nk = p.1.nk
    split <;> rfl
  · rw [if_neg (by simpa using hk), if_neg hk]
    refine ⟨by rw [List.map_append, List.map_append, h.1]; simp [e], ?_⟩
    have := insK_nd (k := k) h.2
    unfold insK at this
    rwa [if_neg hk] at this
def IsMex (U : Int → Prop) (m : Int) : Prop := 0 ≤ m ∧ ¬ U m ∧ ∀ j, 0 ≤ j → j < m → U j
theorem IsMex.uniq {U : Int → Prop} {m m' : Int} (h : IsMex U m) (h' : IsMex U m') : m = m' := by
  obtain ⟨a1, a2, a3⟩ := h
  obtain ⟨b1, b2, b3⟩ := h'
  rcases Int.lt_trichotomy m m' with z | z | z
  · exact absurd (b3 m a1 z) a2
  · exact z
  · exact absurd (a3 m' b1 z) b2
theorem IsMex.congr {U U' : Int → Prop} {m : Int} (h : IsMex U m) (e : ∀ j, U j ↔ U' j) : IsMex U' m := ⟨h.1, fun z => h.2.1 ((e m).mpr z), fun j h0 h1 => (e j).mp (h.2.2 j h0 h1)⟩
theorem IsMex.le {U : Int → Prop} {m : Int} (h : IsMex U m) (xs : List Int) (hx : ∀ j, U j → j ∈ xs) : m ≤ xs.length := by
  have h0 := h.1
  have : ∀ (k : Nat) (xs : List Int), (∀ j : Int, 0 ≤ j → j < (k : Int) → j ∈ xs) → k ≤ xs.length := by
    intro k
    induction k with
    | zero => intro xs _; exact Nat.zero_le _
    | succ k ih =>
      intro xs hh
      have h1 := ih (xs.erase (k : Int)) fun j j0 j1 => (List.mem_erase_of_ne (by omega)).mpr (hh j j0 (by omega))
      have h2 := hh (k : Int) (by omega) (by omega)
      rw [List.length_erase_of_mem h2] at h1
      have := List.length_pos_of_mem h2
      omega
  have := this m.toNat xs fun j j0 j1 => hx j (h.2.2 j j0 (by omega))
  omega
end
end Pu
set_option Elab.async false
set_option linter.all false
set_option maxRecDepth 100000
set_option synthInstance.maxHeartbeats 0
set_option synthInstance.maxSize 100000
namespace Pu
open PySem PySem.Spec PyProof.Rows L2
section
variable {Q : D → Prop} {n i j k e d c m p q : Int} {r s l J a ls : List Int} {ws L : List (List Int)} {x y : Int} {K : D → Prop} {env : PEnv} {dd t : D}
def nmI (r ls : List Int) (e : Int) : D := if e < 0 then .non else .tup [.int (Ev r e), .int (ls.getD e.toNat 0)]
theorem immL_mapI {α : Type} {f : α → D} : ∀ {xs : List α}, (∀ x ∈ xs, D.imm (f x) = true) → immL (xs.map f) = true
  | [], _ => rfl
  | x :: xs, h => by rw [List.map_cons, Zce, h x List.mem_cons_self, immL_mapI fun y hy => h y (List.mem_cons_of_mem _ hy)]; rfl
noncomputable def n1D (n : Int) (ws : List (List Int)) (r ls : List Int) (e : Int) : D := .tup ((rangeI n).map fun d => nmI r ls (lastIn ws r e d))
noncomputable def n2D (n : Int) (ws : List (List Int)) (r ls : List Int) (e : Int) : D := .tup ((rangeI n).map fun d => n1D n ws r ls (lastIn ws r e d))
noncomputable def n3D (n : Int) (ws : List (List Int)) (r ls : List Int) (e : Int) : D := .tup ((rangeI n).map fun d => n2D n ws r ls (lastIn ws r e d))
noncomputable def slD (n : Int) (ws : List (List Int)) (r ls : List Int) (e : Int) : D := .tup [n1D n ws r ls e, n2D n ws r ls e, n3D n ws r ls e]
def Thd (n : Int) (ws : List (List Int)) (r : List Int) (e f : Int) : Prop := ∃ d1 d2 d3, ((0 ≤ d1 ∧ d1 < n) ∧ (0 ≤ d2 ∧ d2 < n) ∧ (0 ≤ d3 ∧ d3 < n)) ∧ f = lastIn ws r (lastIn ws r (lastIn ws r e d1) d2) d3
def Used (n : Int) (ws : List (List Int)) (r ls : List Int) (x k : Int) : Prop := ∃ c ∈ W ws x, ∃ f, Thd n ws r (lastOf ws r c) f ∧ 0 ≤ f ∧ Ev r f = x ∧ ls.getD f.toNat 0 = k
end
end Pu
set_option Elab.async false
set_option linter.all false
set_option maxRecDepth 100000
set_option synthInstance.maxHeartbeats 0
set_option synthInstance.maxSize 100000
namespace Pu
open PySem PySem.Spec PyProof.Rows L2
section
variable {Q : D → Prop} {n i j k e d c m p q : Int} {r s l J a ls ls' : List Int} {ws L : List (List Int)} {x y : Int} {K : D → Prop} {env : PEnv} {dd t : D}
end
end Pu
set_option Elab.async false
set_option linter.all false
set_option maxRecDepth 100000
set_option synthInstance.maxHeartbeats 0
set_option synthInstance.maxSize 100000
namespace Pu
open PySem PySem.Spec PyProof.Rows L2
section
variable {Q : D → Prop} {n i j k e d c m p q : Int} {r s l J a ls ls' : List Int} {ws L : List (List Int)} {x y : Int} {K : D → Prop} {env : PEnv} {dd t : D}
def Labs (n : Int) (ws : List (List Int)) (r ls : List Int) : Prop := ls.length = r.length ∧ ∀ (p : Nat) (x : Int), r[p]? = some x → IsMex (Used n ws (r.take p) (ls.take p) x) (ls.getD p 0)
theorem Labs.nil : Labs n ws [] [] := ⟨rfl, fun p x h => nomatch h⟩
theorem Labs.snoc (h : Labs n ws r ls) (hm : IsMex (Used n ws r ls x) m) : Labs n ws (r ++ [x]) (ls ++ [m]) := by
  refine ⟨by simp [h.1], fun p y hp => ?_⟩
  have hl := (List.getElem?_eq_some_iff.mp hp).1
  simp at hl
  by_cases e : p < r.length
  · rw [List.take_append_of_le_length (by omega), List.take_append_of_le_length (by rw [h.1]; omega), List.getD_eq_getElem?_getD, List.getElem?_append_left (by rw [h.1]; omega), ← List.getD_eq_getElem?_getD]
    exact h.2 p y (by rw [List.getElem?_append_left e] at hp; exact hp)
  · have ep : p = r.length := by omega
    subst ep
    rw [List.getElem?_append_right (Nat.le_refl _), Nat.sub_self] at hp
    cases hp
    rw [List.take_left, List.take_left' h.1, List.getD_eq_getElem?_getD, List.getElem?_append_right (by rw [h.1]; exact Nat.le_refl _), h.1, Nat.sub_self]
    exact hm
theorem Labs.take (h : Labs n ws r ls) (k : Nat) : Labs n ws (r.take k) (ls.take k) := by
  refine ⟨by simp [h.1], fun p x hp => ?_⟩
  rw [List.getElem?_take] at hp
  split at hp
  · rename_i hk
    rw [List.take_take, List.take_take, Nat.min_eq_left (by omega), List.getD_eq_getElem?_getD, List.getElem?_take, if_pos hk, ← List.getD_eq_getElem?_getD]
    exact h.2 p x hp
  · cases hp
theorem Labs.uniq (h : Labs n ws r ls) (h' : Labs n ws r ls') : ls = ls' := by
  have : ∀ k : Nat, ls.take k = ls'.take k := by
    intro k
    induction k with
    | zero => rfl
    | succ k ih =>
      by_cases hk : k < r.length
      · have e1 : ls.take (k + 1) = ls.take k ++ [ls.getD k 0] := by
          rw [List.take_succ, List.getD_eq_getElem?_getD, List.getElem?_eq_getElem (show k < ls.length by rw [h.1]; exact hk)]
          rfl
        have e2 : ls'.take (k + 1) = ls'.take k ++ [ls'.getD k 0] := by
          rw [List.take_succ, List.getD_eq_getElem?_getD, List.getElem?_eq_getElem (show k < ls'.length by rw [h'.1]; exact hk)]
          rfl
        have a1 := h.2 k r[k] (List.getElem?_eq_getElem hk)
        have a2 := h'.2 k r[k] (List.getElem?_eq_getElem hk)
        rw [ih] at a1
        rw [e1, e2, ih, a1.uniq a2]
      · rw [List.take_of_length_le (by rw [h.1]; omega), List.take_of_length_le (by rw [h'.1]; omega)]
        rw [List.take_of_length_le (by rw [h.1]; omega), List.take_of_length_le (by rw [h'.1]; omega)] at ih
        exact ih
  have := this r.length
  rwa [List.take_of_length_le (by rw [h.1]; omega), List.take_of_length_le (by rw [h'.1]; omega)] at this
end
end Pu
set_option Elab.async false
set_option linter.all false
set_option maxRecDepth 100000
set_option synthInstance.maxHeartbeats 0
set_option synthInstance.maxSize 100000
namespace Pu
open PySem PySem.Spec PyProof.Rows L2
section
variable {Q : D → Prop} {n i j k e d c m p q : Int} {r s l J a lot : List Int} {ws : List (List Int)} {x y : Int} {K : D → Prop} {env : PEnv} {dd t P : D} {ls : List D}
end
end Pu
set_option Elab.async false
set_option linter.all false
set_option maxRecDepth 100000
set_option synthInstance.maxHeartbeats 0
set_option synthInstance.maxSize 100000
namespace Pu
open PySem PySem.Spec PyProof.Rows L2
section
variable {Q : D → Prop} {n i j k e d c m p q : Int} {r s l J a ls ls' : List Int} {ws L : List (List Int)} {x y : Int} {K : D → Prop} {env : PEnv} {dd t : D}
theorem thd_lt {f : Int} (h : Thd n ws r e f) : -1 ≤ f ∧ f < (r.length : Int) := by
  obtain ⟨d1, d2, d3, _, rfl⟩ := h
  exact ⟨lastIn_ge, lastIn_lt⟩
end
end Pu
set_option Elab.async false
set_option linter.all false
set_option maxRecDepth 100000
set_option synthInstance.maxHeartbeats 0
set_option synthInstance.maxSize 100000
namespace Pu
open PySem PySem.Spec PyProof.Rows L2
section
variable {Q : D → Prop} {n i j k e d c m p q f : Int} {r s l J a ls ls' u v lu lv : List Int} {ws L : List (List Int)} {x y lx ly : Int} {K : D → Prop} {env : PEnv} {dd t : D}
theorem snoc_cases {α : Type} (l : List α) : l = [] ∨ ∃ a x, l = a ++ [x] := by
  cases h : l.reverse with
  | nil => left; simpa using h
  | cons x t => right; exact ⟨t.reverse, x, by have := congrArg List.reverse h; simpa using this⟩
end
end Pu
set_option Elab.async false
set_option linter.all false
set_option maxRecDepth 100000
set_option synthInstance.maxHeartbeats 0
set_option synthInstance.maxSize 100000
namespace Pu
open PySem PySem.Spec PyProof.Rows L2
section
variable {Q : D → Prop} {n i j k e d c m p q f : Int} {r s l J a ls ls' u v lu lv : List Int} {ws L : List (List Int)} {x y lx ly : Int} {K : D → Prop} {env : PEnv} {dd t : D}
theorem mex_ex {U : Int → Prop} (B : Nat) (hB : ∀ k, U k → k < (B : Int)) : ∃ m, IsMex U m := by
  have : ∀ N : Nat, (∀ j : Int, 0 ≤ j → j < (N : Int) → U j) ∨ ∃ m, IsMex U m := by
    intro N
    induction N with
    | zero => exact .inl fun j h0 h1 => by omega
    | succ N ih =>
      rcases ih with h | h
      · by_cases hu : U (N : Int)
        · exact .inl fun j h0 h1 => by
            by_cases z : j = (N : Int)
            · rw [z]; exact hu
            · exact h j h0 (by omega)
        · exact .inr ⟨(N : Int), by omega, hu, h⟩
      · exact .inr h
  rcases this (B + 1) with h | h
  · have := hB (B : Int) (h (B : Int) (by omega) (by omega)); omega
  · exact h
theorem list_bd : ∀ l : List Int, ∃ B : Nat, ∀ x ∈ l, x < (B : Int)
  | [] => ⟨0, fun _ h => nomatch h⟩
  | a :: l => by
    obtain ⟨B, hB⟩ := list_bd l
    refine ⟨B + a.toNat + 1, fun x hx => ?_⟩
    rcases List.mem_cons.mp hx with e | hx
    · omega
    · have := hB x hx; omega
theorem labs_ex : ∀ (N : Nat) (r : List Int), r.length = N → ∃ ls, Labs n ws r ls := by
  intro N
  induction N with
  | zero => intro r hr; rw [List.eq_nil_of_length_eq_zero hr]; exact ⟨[], Labs.nil⟩
  | succ N ih =>
    intro r hr
    rcases snoc_cases r with e | ⟨a, x, e⟩
    · rw [e] at hr; cases hr
    · subst e
      obtain ⟨ls, la⟩ := ih a (by simpa using hr)
      obtain ⟨B, hB⟩ := list_bd ls
      obtain ⟨m, hm⟩ := mex_ex (U := Used n ws a ls x) (B + 1) fun k ⟨c, hc, f, hf, f0, e1, e2⟩ => by
        have := thd_lt hf
        have fl : f.toNat < ls.length := by rw [la.1]; omega
        have := hB (ls.getD f.toNat 0) (by rw [List.getD_eq_getElem?_getD, List.getElem?_eq_getElem fl]; exact List.getElem_mem _)
        omega
      exact ⟨_, la.snoc hm⟩
end
end Pu
set_option Elab.async false
set_option linter.all false
set_option maxRecDepth 100000
set_option synthInstance.maxHeartbeats 0
set_option synthInstance.maxSize 100000
namespace Pu
open PySem PySem.Spec PyProof.Rows L2
section
variable {Q : D → Prop} {n i j k e d c m p q f g A B : Int} {r s l J a ls ls' u v lu lv : List Int} {ws L : List (List Int)} {x y lx ly : Int} {K : D → Prop} {env : PEnv} {dd t : D}
end
end Pu
set_option Elab.async false
set_option linter.all false
set_option maxRecDepth 100000
set_option synthInstance.maxHeartbeats 0
set_option synthInstance.maxSize 100000
namespace Pu
open PySem PySem.Spec PyProof.Rows L2
section
variable {Q : D → Prop} {n i j k e d c m p q f g A B b : Int} {r s l J a ls ls' u v lu lv : List Int} {ws L : List (List Int)} {x y lx ly : Int} {K : D → Prop} {env : PEnv} {dd t : D}
end
end Pu
set_option Elab.async false
set_option linter.all false
set_option maxRecDepth 100000
set_option synthInstance.maxHeartbeats 0
set_option synthInstance.maxSize 100000
namespace Pu
open PySem PySem.Spec PyProof.Rows L2
section
variable {Q : D → Prop} {n i j k e d c m p q f g A B b : Int} {r s l J a ls ls' u v lu lv : List Int} {ws L : List (List Int)} {x y lx ly : Int} {K : D → Prop} {env : PEnv} {dd t P : D}
end
end Pu
set_option Elab.async false
set_option linter.all false
set_option maxRecDepth 100000
set_option synthInstance.maxHeartbeats 0
set_option synthInstance.maxSize 100000
namespace Pu
open PySem PySem.Spec PyProof.Rows L2
section
variable {Q : D → Prop} {n i j k e d c m p q f g A B b : Int} {r s l J a ls ls' u v T S : List Int} {ws L : List (List Int)} {x y : Int} {K : D → Prop} {env : PEnv} {dd t : D} {acc : List (Key × D)} {labs : List D} {p' : List Int}
def prs : List Int → List (List Int)
  | [] => []
  | x :: l => l.map (fun y => [x, y]) ++ prs l
theorem prs_len : ∀ {S : List Int}, (prs S).length ≤ S.length * S.length
  | [] => by simp [prs]
  | x :: S => by
    have := prs_len (S := S)
    rw [prs, List.length_append, List.length_map, List.length_cons]
    have e : (S.length + 1) * (S.length + 1) = S.length * S.length + 2 * S.length + 1 := by rw [Nat.add_mul, Nat.mul_add]; omega
    omega
theorem y_slL_lo35 {k : Nat} (q : Q (.lst (dInts (r.drop k)))) : slcQ (.lst (dInts r)) (some (k : Int)) none Q := ⟨immL_dInts r, by rw [cut_drop, dInts_drop]; exact q⟩
end
end Pu
set_option Elab.async false
set_option linter.all false
set_option maxRecDepth 100000
set_option synthInstance.maxHeartbeats 0
set_option synthInstance.maxSize 100000
namespace Pu
open PySem PySem.Spec PyProof.Rows L2
section
variable {Q : D → Prop} {n i j k e d c m p q f g A B b : Int} {r s l J a ls ls' u v T S : List Int} {ws L X Y K1 : List (List Int)} {x y : Int} {K : D → Prop} {env : PEnv} {dd t : D} {p' : List Int}
def rawLots : Nat → List (List Int)
  | 0 => [[]]
  | k + 1 => rawLots k ++ (rawLots k).map fun l => l ++ [(k : Int)]
theorem rawLots_len : ∀ k, (rawLots k).length = 2 ^ k
  | 0 => rfl
  | k + 1 => by rw [rawLots, List.length_append, List.length_map, rawLots_len k, Nat.pow_succ]; omega
theorem rawLots_cons : ∀ k, ∃ R, rawLots k = [] :: R
  | 0 => ⟨[], rfl⟩
  | k + 1 => by
    obtain ⟨R, e⟩ := rawLots_cons k
    exact ⟨R ++ (rawLots k).map fun l => l ++ [(k : Int)], by rw [rawLots, e]; rfl⟩
theorem rawLots_short : ∀ (k : Nat) (l : List Int), l ∈ rawLots k → l.length ≤ k
  | 0, l, h => by rw [List.mem_singleton.mp h]; exact Nat.le_refl 0
  | k + 1, l, h => by
    rcases List.mem_append.mp h with z | z
    · have := rawLots_short k _ z
      omega
    · obtain ⟨l', hl, rfl⟩ := List.mem_map.mp z
      have := rawLots_short k _ hl
      simp
      exact this
theorem perm_sorted_uniq {X Y Z : List (List Int)} (h1 : X.Perm Z) (h2 : Y.Perm Z) (s1 : X.Pairwise (fun a b => HT.lexLt b a = false)) (s2 : Y.Pairwise (fun a b => HT.lexLt b a = false)) : X = Y :=
  List.Perm.eq_of_pairwise (fun a b _ _ h1 h2 => lex_tri h2 h1) s1 s2 (h1.trans h2.symm)
theorem lots_srt (k : Nat) : ∃ X : List (List Int), X.Perm (rawLots k) ∧ X.Pairwise (fun a b => HT.lexLt b a = false) := by
  refine ⟨(rawLots k).mergeSort fun a b => !HT.lexLt b a, List.mergeSort_perm _ _, ?_⟩
  have := List.pairwise_mergeSort (le := fun a b : List Int => !HT.lexLt b a) (fun a b c h1 h2 => ?_) (fun a b => ?_) (rawLots k)
  · exact this.imp fun h => by simpa using h
  · have h1 : HT.lexLt b a = false := by simpa using h1
    have h2 : HT.lexLt c b = false := by simpa using h2
    rw [PuS.lex_tr _ _ _ h1 h2]
    rfl
  · cases hb : HT.lexLt b a with
    | false => rfl
    | true => rw [PuS.lex_asym _ _ hb]; rfl
noncomputable def lotsL (n : Int) : List (List Int) := (lots_srt n.toNat).choose
theorem lotsL_perm : (lotsL n).Perm (rawLots n.toNat) := (lots_srt n.toNat).choose_spec.1
theorem lotsL_srt : (lotsL n).Pairwise (fun a b => HT.lexLt b a = false) := (lots_srt n.toNat).choose_spec.2
theorem lotsL_len (h : n ≤ 6) : (lotsL n).length ≤ 64 := by
  rw [lotsL_perm.length_eq, rawLots_len]
  have : n.toNat ≤ 6 := by omega
  exact Nat.le_trans (Nat.pow_le_pow_right (by decide) this) (by decide)
theorem lotsL_short (h : l ∈ lotsL n) (h6 : n ≤ 6) : l.length ≤ 6 := by
  have := rawLots_short _ _ (lotsL_perm.mem_iff.mp h)
  omega
local macro_rules
  | `(tactic| and_intros) => `(tactic| (try simp only [Zaa, Zab, w_c, Zac, Zad, Zae, Zaf, Zag, Zah, Zai, Zaj, Zak, Zal, Zam, Zan, Zao, Zap, Zaq, Zar, Zas, Zat, Zau, Zav, Zaw, Zax, Zay, Zaz, ZaA, ZaB, ZaC, ZaD, ZaE, ZaF, ZaG, ZaH, ZaI, ZaJ, ZaK, ZaL, ZaM, ZaN, ZaO, ZaP, ZaQ, ZaR, ZaS, ZaT, ZaU, ZaV, ZaW, ZaX, ZaY, ZaZ, Za0, Za1, Za2, Za3, Za4, Za5, Za6, Za7, Za8, Za9, Zba, Zbb, Zbc, Zbd, Zbe, Zbf, Zbg, Zbh, Zbi, Zbj, Zbk, Zbl, Zbm, Zbn, Zbo, Zbp, Zbq, Zbr, Zbs, Zbt, Zbu, Zbv, Zbw, Zbx, Zby, Zbz, ZbA, List.length_cons, List.length_nil, Nat.reduceAdd, Nat.zero_add, ZbB, ZbC, ZbD, ZbE, y_W, ZbF, ZbG, ZbH, ZbI, ZbJ, ZbK, ZbL, ZbM, ZbN, ZbO, ZbP, ZbQ, ZbR, ZbS, sb1, sb2, sb3, sb4, sb5, sb6, sb7, sb8, sb9, ZbT, ZbU, ZbV, ZbW, ZbX, ZbY, ZbZ, Zb0, Zb1, Zb2, Zb3, Zb4, Zb5, Zb6, Zb7, List.map_id, id_eq, BEq.rfl, bne_self_eq_false, Zb8, Zb9, Zca, Zcb, Zcc, Zcd, Zce, Zcf, Zcg, Zch, Zci, Zcj, Zck, Zcl, Zcm, Zcn, Zco, Zcp, Zcq, Zcr, Zcs, Zct, Zcu, Zcv, Zcw, Zcx, Zcy, Zcz, ZcA, ZcB, ZcC, ZcD, true_and, and_true, Bool.and_self, Bool.and_true, Bool.true_and, Bool.not_true, Bool.not_false, Bool.false_eq_true, if_false, if_true, ite_true, ite_false, decide_true, decide_false, reduceIte, s_seqR, s_seqL]))
theorem all_lots_ev (h0 : 0 ≤ n) (h6 : n ≤ 6) : FEv m_all_lots [.int n] (.lst (rowsD (lotsL n))) := fun Q q => by
  have hs : 10000 ≤ sizeLine := by decide
  unfold m_all_lots fnM b_all_lots
  simp only [env0, List.map_cons, List.map_nil, List.length_cons, List.length_nil, List.replicate_succ, List.replicate_zero, List.cons_append, List.nil_append, Nat.reduceSub, Nat.reduceAdd, Nat.zero_add, Zaa, Zab, w_c, Zac, Zad, Zae, Zaf, Zag, Zah, Zai, Zaj, Zak, Zal, Zam, Zan, Zao, Zap, Zaq, Zar, Zas, Zat, Zau, Zav, Zaw, Zax, Zay, Zaz, ZaA, ZaB, ZaC, ZaD, ZaE, ZaF, ZaG, ZaH, ZaI, ZaJ, ZaK, ZaL, ZaM, ZaN, ZaO, ZaP, ZaQ, ZaR, ZaS, ZaT, ZaU, ZaV, ZaW, ZaX, ZaY, ZaZ, Za0, Za1, Za2, Za3, Za4, Za5, Za6, Za7, Za8, Za9, Zba, Zbb, Zbc, Zbd, Zbe, Zbf, Zbg, Zbh, Zbi, Zbj, Zbk, Zbl, Zbm, Zbn, Zbo, Zbp, Zbq, Zbr, Zbs, Zbt, Zbu, Zbv, Zbw, Zbx, Zby, Zbz, ZbA, List.length_cons, List.length_nil, Nat.reduceAdd, Nat.zero_add, ZbB, ZbC, ZbD, ZbE, y_W, ZbF, ZbG, ZbH, ZbI, ZbJ, ZbK, ZbL, ZbM, ZbN, ZbO, ZbP, ZbQ, ZbR, ZbS, sb1, sb2, sb3, sb4, sb5, sb6, sb7, sb8, sb9, ZbT, ZbU, ZbV, ZbW, ZbX, ZbY, ZbZ, Zb0, Zb1, Zb2, Zb3, Zb4, Zb5, Zb6, Zb7, List.map_id, id_eq, BEq.rfl, bne_self_eq_false, Zb8, Zb9, Zca, Zcb, Zcc, Zcd, Zce, Zcf, Zcg, Zch, Zci, Zcj, Zck, Zcl, Zcm, Zcn, Zco, Zcp, Zcq, Zcr, Zcs, Zct, Zcu, Zcv, Zcw, Zcx, Zcy, Zcz, ZcA, ZcB, ZcC, ZcD, true_and, and_true, Bool.and_self, Bool.and_true, Bool.true_and, Bool.not_true, Bool.not_false, Bool.false_eq_true, if_false, if_true, ite_true, ite_false, decide_true, decide_false, reduceIte, s_seqR, s_seqL]
  refine ⟨by omega, by omega, y_rng (n := n) (by omega) (by omega) ?_⟩
  refine loop_I (fun p s env => ∃ e2 e3, env = [some (.int n), some (.lst (rowsD (rawLots p.length))), e2, e3]) _ ⟨_, _, rfl⟩ ?_ ?_
  · rintro p k s env ep ⟨e2, e3, rfl⟩
    obtain ⟨ek, ul, _⟩ := range_pre ep
    have rl := rawLots_len p.length
    have r6 : 2 ^ p.length ≤ 2 ^ 6 := Nat.pow_le_pow_right (by decide) (by omega)
    and_intros
    show lcLoop _ _ _ _ ((rawLots p.length).map rD) _ _
    refine lc_M (e := rD) (fun l => l ++ [k]) rD (by omega) (fun l hl R hR => ?_) ?_
    · and_intros
      have := rawLots_short _ _ hl
      exact ⟨by omega, y_addR (r := l) (s := [k]) (by simp; omega) hR⟩
    · refine ⟨immL_rows _, immL_rows _, by rw [rowsD, List.length_map, List.length_map, List.length_map]; omega, ?_⟩
      have e1 : rowsD (rawLots p.length) ++ ((rawLots p.length).map fun l => l ++ [k]).map rD = rowsD (rawLots (p ++ [k]).length) := by
        rw [List.length_append, List.length_singleton, rawLots, rowsD, rowsD, List.map_append, ek]
        rfl
      rw [e1]
      exact ⟨_, _, rfl⟩
  · rintro env ⟨e2, e3, rfl⟩
    and_intros
    rw [rangeI_len]
    obtain ⟨R, e⟩ := rawLots_cons n.toNat
    rw [e]
    refine ⟨R, rfl, fun X hp hs => ?_⟩
    rw [← e] at hp
    rw [perm_sorted_uniq hp lotsL_perm hs lotsL_srt]
    exact q
def ledF (st : List (List Int)) (s : Int) (row : List Int) : Int := row.foldl (fun s w => (st.getD s.toNat []).getD w.toNat 0) s
def chgL (st : List (List Int)) (row : List Int) : List Int := (rangeI (st.length : Int)).map fun s => ledF st s row
def StOk (m : Nat) (st : List (List Int)) : Prop := st.length ≤ 12 ∧ ∀ l ∈ st, l.length = m ∧ ∀ x ∈ l, 0 ≤ x ∧ x < (st.length : Int)
end
end Pu
set_option Elab.async false
set_option linter.all false
set_option maxRecDepth 100000
set_option synthInstance.maxHeartbeats 0
set_option synthInstance.maxSize 100000
namespace Pu
open PySem PySem.Spec PyProof.Rows L2
section
variable {n i j k e d c m p q f g A B b P : Int} {r s l J a ls h v M T S va vb : List Int} {ws L X Y K1 : List (List Int)} {x y : Int}
def updS : List Int → List Int → List Int → List Int
  | h, d :: l, x :: v => updS (h.set d.toNat x) l v
  | h, _, _ => h
def prjS (h l : List Int) : List Int := l.map fun d => h.getD d.toNat 0
def InB (M h : List Int) : Prop := h.length = M.length ∧ ∀ k : Nat, k < M.length → 0 ≤ h.getD k 0 ∧ h.getD k 0 < M.getD k 0
def ValOk (M : List Int) : List Int → List Int → Prop
  | d :: l, x :: v => (0 ≤ x ∧ x < M.getD d.toNat 0) ∧ ValOk M l v
  | [], [] => True
  | _, _ => False
def boxL : List Int → List (List Int)
  | [] => [[]]
  | m :: M => ((rangeI m).map fun x => (boxL M).map fun h => x :: h).flatten
def prodL : List Int → Int
  | [] => 1
  | m :: M => m * prodL M
theorem boxL_len : ∀ {M : List Int}, (∀ x ∈ M, 1 ≤ x) → ((boxL M).length : Int) = prodL M
  | [], _ => rfl
  | m :: M, hm => by
    have h1 := hm m List.mem_cons_self
    have ih := boxL_len (M := M) fun x hx => hm x (List.mem_cons_of_mem _ hx)
    rw [boxL, prodL, ← ih]
    have : ∀ u : List Int, ((u.map fun x => (boxL M).map fun h => x :: h).flatten).length = u.length * (boxL M).length := fun u => by
      induction u with
      | nil => simp
      | cons a u ihu => rw [List.map_cons, List.flatten_cons, List.length_append, ihu, List.length_map, List.length_cons, Nat.add_mul, Nat.one_mul, Nat.add_comm]
    rw [this, rangeI_len, Int.natCast_mul, Int.toNat_of_nonneg (by omega)]
theorem mem_boxL : ∀ {M h : List Int}, InB M h → h ∈ boxL M
  | [], h, hb => by
    have : h = [] := List.eq_nil_of_length_eq_zero hb.1
    rw [this]; exact List.mem_singleton.mpr rfl
  | m :: M, [], hb => by have := hb.1; simp at this
  | m :: M, x :: h, hb => by
    have h0 := hb.2 0 (by simp)
    simp only [List.getD_cons_zero] at h0
    refine List.mem_flatten.mpr ⟨_, List.mem_map.mpr ⟨x, mem_rangeI.mpr h0, rfl⟩, List.mem_map.mpr ⟨h, mem_boxL ⟨by have := hb.1; simpa using this, fun k hk => ?_⟩, rfl⟩⟩
    have := hb.2 (k + 1) (by simp; omega)
    simpa using this
theorem nodup_le53 {α : Type} [DecidableEq α] : ∀ {S B : List α}, S.Nodup → (∀ x ∈ S, x ∈ B) → S.length ≤ B.length
  | [], B, _, _ => Nat.zero_le _
  | x :: S, B, nd, hs => by
    obtain ⟨n1, n2⟩ := List.nodup_cons.mp nd
    have hx := hs x List.mem_cons_self
    have := nodup_le53 (S := S) (B := B.erase x) n2 fun y hy => (List.mem_erase_of_ne fun e => by subst e; exact n1 hy).mpr (hs y (List.mem_cons_of_mem _ hy))
    rw [List.length_erase_of_mem hx] at this
    have : 0 < B.length := List.length_pos_of_mem hx
    rw [List.length_cons]
    omega
theorem box_le {S : List (List Int)} (hM : ∀ x ∈ M, 1 ≤ x) (nd : S.Nodup) (hb : ∀ h ∈ S, InB M h) : (S.length : Int) ≤ prodL M := by
  have := nodup_le53 nd fun h hh => mem_boxL (hb h hh)
  rw [← boxL_len hM]
  omega
end
end Pu
set_option Elab.async false
set_option linter.all false
set_option maxRecDepth 100000
set_option synthInstance.maxHeartbeats 0
set_option synthInstance.maxSize 100000
namespace Pu
open PySem PySem.Spec PyProof.Rows L2
section
variable {Q : D → Prop} {n i j k e d c m p q f g A B b P : Int} {r s l J a ls h v M T va vb : List Int} {ws L X Y K1 S : List (List Int)} {x y w : Int} {kds : List (D × D)} {env : PEnv} {dd : D}
def kyN (w : Int) (l : List Int) : NestedKey := .tup [.num w, .tup (l.map .num)]
theorem nkL_ints : ∀ l : List Int, nkL (dInts l) = some (l.map NestedKey.num)
  | [] => by simp [dInts, nkL]
  | x :: l => by
    have ih := nkL_ints l
    show nkL (.int x :: dInts l) = _
    simp [nkL, D.nk, ih]
theorem ky_nk : (D.tup [.int w, rD l]).nk = some (kyN w l) := by
  have e1 : (rD l).nk = some (.tup (l.map NestedKey.num)) := by
    show (D.tup (dInts l)).nk = _
    simp [D.nk, nkL_ints]
  simp [D.nk, nkL, e1, kyN]
theorem ky_inj {w' : Int} {l' : List Int} (h : kyN w l = kyN w' l') : w = w' ∧ l = l' := by
  unfold kyN at h
  injection h with h
  injection h with h1 h2
  injection h1 with h1
  injection h2 with h2 _
  injection h2 with h2
  exact ⟨h1, (List.map_inj_right fun x y e => by injection e).mp h2⟩
structure MV (kds : List (D × D)) (f : Int → List Int → Option (List Int)) (N : Nat) : Prop where
  nd : (kds.map fun p => p.1.nk).Nodup
  len : kds.length ≤ N
  look : ∀ w l, lookN kds (kyN w l) = (f w l).map fun v => .lst (dInts v)
theorem MV.nil : MV [] (fun _ _ => none) 0 := ⟨List.nodup_nil, Nat.le_refl _, fun w l => rfl⟩
def mvSet (f : Int → List Int → Option (List Int)) (w : Int) (l v : List Int) : Int → List Int → Option (List Int) := fun w' l' => if w' = w ∧ l' = l then some v else f w' l'
theorem look_app {kd : D × D} {k : NestedKey} : lookN (kds ++ [kd]) k = (match lookN kds k with | some x => some x | none => if kd.1.nk = some k then some kd.2 else none) := by
  unfold lookN
  rw [List.find?_append]
  cases e : kds.find? (fun kd => decide (kd.1.nk = some k)) with
  | some x => rfl
  | none =>
    by_cases h : kd.1.nk = some k
    · rw [if_pos h]; simp [h]
    · rw [if_neg h]; simp [h]
theorem MV.put {f : Int → List Int → Option (List Int)} {N : Nat} (h : MV kds f N) (hn : f w l = none) : MV (putN kds (kyN w l) (.tup [.int w, rD l]) (.lst (dInts v))) (mvSet f w l v) (N + 1) := by
  have e0 : lookN kds (kyN w l) = none := by rw [h.look, hn]; rfl
  have e1 : putN kds (kyN w l) (.tup [.int w, rD l]) (.lst (dInts v)) = kds ++ [(.tup [.int w, rD l], .lst (dInts v))] := by
    unfold putN
    rw [e0]
    rfl
  rw [e1]
  refine ⟨?_, by rw [List.length_append]; have := h.len; simp; omega, fun w' l' => ?_⟩
  · rw [List.map_append]
    refine List.nodup_append.mpr ⟨h.nd, by simp, fun a ha b hb e => ?_⟩
    rw [List.map_singleton, List.mem_singleton] at hb
    obtain ⟨p, hp, ep⟩ := List.mem_map.mp ha
    unfold lookN at e0
    rw [Option.map_eq_none_iff] at e0
    have := List.find?_eq_none.mp e0 p hp
    rw [ep, e, hb, ky_nk] at this
    exact this (decide_eq_true rfl)
  · rw [look_app, ky_nk]
    unfold mvSet
    by_cases z : w' = w ∧ l' = l
    · obtain ⟨z1, z2⟩ := z
      subst z1; subst z2
      rw [if_pos (And.intro rfl rfl), e0]
      simp
    · rw [if_neg z, h.look]
      cases f w' l' with
      | some x => rfl
      | none =>
        show (if some (kyN w l) = some (kyN w' l') then _ else none) = none
        rw [if_neg]
        intro e
        obtain ⟨a1, a2⟩ := ky_inj (Option.some.inj e)
        exact z ⟨a1.symm, a2.symm⟩
end
end Pu
set_option Elab.async false
set_option linter.all false
set_option maxRecDepth 100000
set_option synthInstance.maxHeartbeats 0
set_option synthInstance.maxSize 100000
namespace Pu
open PySem PySem.Spec PyProof.Rows L2
section
variable {Q : D → Prop} {n i j k e d c m p q f g A B b P : Int} {r s l J a ls h v M T va vb : List Int} {ws L X Y K1 S st : List (List Int)} {x y w : Int} {kds : List (D × D)} {env : PEnv} {dd : D} {F : Int → List Int → Option (List Int)}
structure EI (ws : List (List Int)) (M : List Int) (S st : List (List Int)) (F : Int → List Int → Option (List Int)) : Prop where
  nd : S.Nodup
  inb : ∀ h ∈ S, InB M h
  ne : 1 ≤ S.length
  le : st.length ≤ S.length
  val : ∀ w l v, F w l = some v → 0 ≤ w → w < (ws.length : Int) → ValOk M (W ws w) v
  stp : ∀ (s : Nat) (row : List Int), st[s]? = some row → row.length = ws.length ∧ ∀ w, 0 ≤ w → w < (ws.length : Int) → ∃ h v, ∃ j : Nat, S[s]? = some h ∧ F w (prjS h (W ws w)) = some v ∧ S[j]? = some (updS h (W ws w) v) ∧ row.getD w.toNat 0 = (j : Int)
def Evn (ws st : List (List Int)) : Prop := ∀ a b, (0 ≤ a ∧ a < (ws.length : Int)) → (0 ≤ b ∧ b < (ws.length : Int)) → meetsF ws a b = false → ∀ s, 0 ≤ s → s < (st.length : Int) → (st.getD ((st.getD s.toNat []).getD a.toNat 0).toNat []).getD b.toNat 0 = (st.getD ((st.getD s.toNat []).getD b.toNat 0).toNat []).getD a.toNat 0
def GI (ws S : List (List Int)) (F : Int → List Int → Option (List Int)) (h G : List Int) (p : Nat) : Prop := G.length = p ∧ ∀ w, 0 ≤ w → w < (p : Int) → ∃ v, ∃ j : Nat, F w (prjS h (W ws w)) = some v ∧ S[j]? = some (updS h (W ws w) v) ∧ G.getD w.toNat 0 = (j : Int)
theorem mvSet_ext (hn : F w l = none) {w' : Int} {l' v' : List Int} (h : F w' l' = some v') : mvSet F w l v w' l' = some v' := by
  unfold mvSet
  rw [if_neg]
  · exact h
  · rintro ⟨rfl, rfl⟩
    rw [hn] at h; cases h
theorem get_app {t : List Int} {k : Nat} (h : S[k]? = some l) : (S ++ [t])[k]? = some l := by
  rw [List.getElem?_append_left (List.getElem?_eq_some_iff.mp h).1]
  exact h
theorem EI.mv (ei : EI ws M S st F) (hn : F w l = none) (hv : ValOk M (W ws w) v) : EI ws M S st (mvSet F w l v) := by
  refine ⟨ei.nd, ei.inb, ei.ne, ei.le, fun w' l' v' h h0 h1 => ?_, fun s row hs => ?_⟩
  · unfold mvSet at h
    split at h
    · rename_i z
      obtain ⟨z1, z2⟩ := z
      subst z1
      cases h
      exact hv
    · exact ei.val w' l' v' h h0 h1
  · obtain ⟨a1, a2⟩ := ei.stp s row hs
    refine ⟨a1, fun w' h0 h1 => ?_⟩
    obtain ⟨h, v', j, b1, b2, b3, b4⟩ := a2 w' h0 h1
    exact ⟨h, v', j, b1, mvSet_ext hn b2, b3, b4⟩
theorem EI.push {t : List Int} (ei : EI ws M S st F) (ht : t ∉ S) (hb : InB M t) : EI ws M (S ++ [t]) st F := by
  refine ⟨List.nodup_append.mpr ⟨ei.nd, by simp, fun a ha b hb e => by rw [List.mem_singleton.mp hb] at e; exact ht (e ▸ ha)⟩, fun h hh => ?_, by rw [List.length_append]; have := ei.ne; omega, by rw [List.length_append]; have := ei.le; omega, ei.val, fun s row hs => ?_⟩
  · rcases List.mem_append.mp hh with z | z
    · exact ei.inb h z
    · rw [List.mem_singleton.mp z]; exact hb
  · obtain ⟨a1, a2⟩ := ei.stp s row hs
    refine ⟨a1, fun w' h0 h1 => ?_⟩
    obtain ⟨h, v', j, b1, b2, b3, b4⟩ := a2 w' h0 h1
    exact ⟨h, v', j, get_app b1, b2, get_app b3, b4⟩
theorem EI.row {G : List Int} (ei : EI ws M S st F) (hh : S[st.length]? = some h) (gi : GI ws S F h G ws.length) : EI ws M S (st ++ [G]) F := by
  have lt := (List.getElem?_eq_some_iff.mp hh).1
  refine ⟨ei.nd, ei.inb, ei.ne, by rw [List.length_append, List.length_singleton]; omega, ei.val, fun s row hs => ?_⟩
  by_cases z : s < st.length
  · rw [List.getElem?_append_left z] at hs
    exact ei.stp s row hs
  · have sl : s < (st ++ [G]).length := (List.getElem?_eq_some_iff.mp hs).1
    rw [List.length_append, List.length_singleton] at sl
    have es : s = st.length := by omega
    subst es
    rw [List.getElem?_append_right (Nat.le_refl _), Nat.sub_self] at hs
    cases hs
    refine ⟨gi.1, fun w h0 h1 => ?_⟩
    obtain ⟨v, j, a1, a2, a3⟩ := gi.2 w h0 h1
    exact ⟨h, v, j, hh, a1, a2, a3⟩
theorem GI.mv {G : List Int} {p : Nat} (gi : GI ws S F h G p) (hn : F w l = none) : GI ws S (mvSet F w l v) h G p := ⟨gi.1, fun w' h0 h1 => by
  obtain ⟨v', j, a1, a2, a3⟩ := gi.2 w' h0 h1
  exact ⟨v', j, mvSet_ext hn a1, a2, a3⟩⟩
theorem GI.push {G t : List Int} {p : Nat} (gi : GI ws S F h G p) : GI ws (S ++ [t]) F h G p := ⟨gi.1, fun w' h0 h1 => by
  obtain ⟨v', j, a1, a2, a3⟩ := gi.2 w' h0 h1
  exact ⟨v', j, a1, get_app a2, a3⟩⟩
theorem GI.snoc {G : List Int} {p j : Nat} (gi : GI ws S F h G p) (hf : F (p : Int) (prjS h (W ws (p : Int))) = some v) (hj : S[j]? = some (updS h (W ws (p : Int)) v)) : GI ws S F h (G ++ [(j : Int)]) (p + 1) := by
  have gl := gi.1
  refine ⟨by rw [List.length_append, gl]; rfl, fun w h0 h1 => ?_⟩
  by_cases z : w < (p : Int)
  · obtain ⟨v', j', a1, a2, a3⟩ := gi.2 w h0 z
    refine ⟨v', j', a1, a2, ?_⟩
    rw [List.getD_eq_getElem?_getD, List.getElem?_append_left (by omega), ← List.getD_eq_getElem?_getD]
    exact a3
  · have e : w = (p : Int) := by omega
    subst e
    refine ⟨v, j, hf, hj, ?_⟩
    rw [Int.toNat_natCast, List.getD_eq_getElem?_getD, List.getElem?_append_right (by omega), gl, Nat.sub_self]
    rfl
theorem EI.at (ei : EI ws M S st F) {s : Int} (h0 : 0 ≤ s) (h1 : s < (st.length : Int)) (w0 : 0 ≤ w) (w1 : w < (ws.length : Int)) : ∃ h v, ∃ j : Nat, S[s.toNat]? = some h ∧ F w (prjS h (W ws w)) = some v ∧ S[j]? = some (updS h (W ws w) v) ∧ (st.getD s.toNat []).getD w.toNat 0 = (j : Int) := by
  have e : st[s.toNat]? = some (st.getD s.toNat []) := by rw [List.getD_eq_getElem?_getD, List.getElem?_eq_getElem (show s.toNat < st.length by omega)]; rfl
  exact (ei.stp _ _ e).2 w w0 w1
end
end Pu
set_option Elab.async false
set_option linter.all false
set_option maxRecDepth 100000
set_option synthInstance.maxHeartbeats 0
set_option synthInstance.maxSize 100000
namespace Pu
open PySem PySem.Spec PyProof.Rows L2
section
variable {Q : D → Prop} {n i j k e d c m p q f g A B b P : Int} {r s l J a ls h v M T tl va vb : List Int} {ws L X Y K1 S st : List (List Int)} {x y w : Int} {kds : List (D × D)} {env : PEnv} {dd : D} {F : Int → List Int → Option (List Int)}
theorem y_rng253 {R : List D → Prop} {a b : Nat} (ha : a ≤ 100000) (hb : b ≤ 100000) (q : R ((List.range (b - a)).map fun k => D.int ((a + k : Nat) : Int))) : rng2Q (.int (a : Int)) (.int (b : Int)) R := by
  refine ⟨⟨by omega, by omega⟩, ⟨by omega, by omega⟩, ?_⟩
  have e : rgD (a : Int) ((b : Int) - a).toNat = (List.range (b - a)).map fun k => D.int ((a + k : Nat) : Int) := by
    unfold rgD
    rw [show ((b : Int) - a).toNat = b - a by omega]
    exact List.map_congr_left fun k _ => by rw [Int.natCast_add]
  rw [e]
  exact q
end
end Pu
set_option Elab.async false
set_option linter.all false
set_option maxRecDepth 100000
set_option synthInstance.maxHeartbeats 0
set_option synthInstance.maxSize 100000
namespace Pu
open PySem PySem.Spec PyProof.Rows L2
section
variable {Q : D → Prop} {n i j k e d c m p q f g A B b P : Int} {r s l J a ls h v M T tl va vb : List Int} {ws L X Y K1 S st : List (List Int)} {x y w : Int} {kds : List (D × D)} {env : PEnv} {dd : D} {F : Int → List Int → Option (List Int)}
end
end Pu
set_option Elab.async false
set_option linter.all false
set_option maxRecDepth 100000
set_option synthInstance.maxHeartbeats 0
set_option synthInstance.maxSize 100000
namespace Pu
open PySem PySem.Spec PyProof.Rows L2
section
variable {Q : D → Prop} {n i j k e d c m p q f g A B b P : Int} {r s l J a ls h v M T tl va vb row lot : List Int} {ws L X Y K1 S st : List (List Int)} {x y w : Int} {kds : List (D × D)} {env : PEnv} {dd t : D} {labs : List D}
noncomputable def leftL (n : Int) (ws : List (List Int)) (r : List Int) (c : Int) (lot : List Int) : List Int := (pastL ws r (lastOf ws r c)).filter fun e => !(lot.any fun g => pstB ws r e (lastIn ws r (lastOf ws r c) g))
noncomputable def turnsW (n : Int) (ws : List (List Int)) (st : List (List Int)) (r : List Int) (c : Int) : List (List Int) := (lotsL n).map fun lot => chgL st ((leftL n ws r c lot).map (Ev r))
end
end Pu
set_option Elab.async false
set_option linter.all false
set_option maxRecDepth 100000
set_option synthInstance.maxHeartbeats 0
set_option synthInstance.maxSize 100000
namespace Pu
open PySem PySem.Spec PyProof.Rows L2
section
variable {Q : D → Prop} {n i j k e d c m p q f g A P : Int} {r s l J a ls h M T tl va vb row lot u v : List Int} {ws L X Y K1 S st : List (List Int)} {x y w : Int} {B B' : Int → Bool}
theorem ledF_two {x : Int} {a b : List Int} : ledF st x (a ++ b) = ledF st (ledF st x a) b := List.foldl_append
end
end Pu
set_option Elab.async false
set_option linter.all false
set_option maxRecDepth 100000
set_option synthInstance.maxHeartbeats 0
set_option synthInstance.maxSize 100000
namespace Pu
open PySem PySem.Spec PyProof.Rows L2
section
variable {Q : D → Prop} {n i j k e d c m p q f g A B b : Int} {r s l J a ls ls' u v lu lv : List Int} {ws L : List (List Int)} {x y lx ly : Int} {K : D → Prop} {env : PEnv} {dd t : D}
end
end Pu
set_option Elab.async false
set_option linter.all false
set_option maxRecDepth 100000
set_option synthInstance.maxHeartbeats 0
set_option synthInstance.maxSize 100000
namespace Pu
open PySem PySem.Spec PyProof.Rows L2
section
variable {Q : D → Prop} {n i j k e d c m p q f g A B b : Int} {r s l J a ls ls' u v lu lv : List Int} {ws L : List (List Int)} {x y lx ly : Int} {K : D → Prop} {env : PEnv} {dd t : D}
end
end Pu
set_option Elab.async false
set_option linter.all false
set_option maxRecDepth 100000
set_option synthInstance.maxHeartbeats 0
set_option synthInstance.maxSize 100000
namespace Pu
open PySem PySem.Spec PyProof.Rows L2
section
variable {Q : D → Prop} {n i j k e d c m p q f g A B b : Int} {r s l J a ls ls' u v lu lv : List Int} {ws L : List (List Int)} {x y lx ly : Int} {K : D → Prop} {env : PEnv} {dd t : D}
end
end Pu
set_option Elab.async false
set_option linter.all false
set_option maxRecDepth 100000
set_option synthInstance.maxHeartbeats 0
set_option synthInstance.maxSize 100000
namespace Pu
open PySem PySem.Spec PyProof.Rows L2
section
variable {Q : D → Prop} {n i j k e d c c' m p q f g A P : Int} {r s l J a ls lo h M T tl va vb row lot u v : List Int} {ws L X Y K1 S st : List (List Int)} {x y w : Int} {B B' : Int → Bool} {dd : D} {lx ly : Int} {lu lv : List Int}
noncomputable def NoteD (n : Int) (ws st : List (List Int)) (r ls : List Int) (c : Int) : D := .tup [slD n ws r ls (lastOf ws r c), wD (turnsW n ws st r c)]
def Alk (n : Int) (ws st : List (List Int)) (r o : List Int) : Prop := ∀ c lr lo, 0 ≤ c → c < n → Labs n ws r lr → Labs n ws o lo → NoteD n ws st r lr c = NoteD n ws st o lo c
theorem Alk.refl : Alk n ws st r r := fun c lr lo _ _ h1 h2 => by rw [h1.uniq h2]
theorem Alk.trans {o o' : List Int} (h1 : Alk n ws st r o) (h2 : Alk n ws st o o') : Alk n ws st r o' := fun c lr lo c0 c1 l1 l2 => by
  obtain ⟨lm, hm⟩ := labs_ex (n := n) (ws := ws) o.length o rfl
  exact (h1 c lr lm c0 c1 l1 hm).trans (h2 c lm lo c0 c1 hm l2)
end
end Pu
set_option Elab.async false
set_option linter.all false
set_option maxRecDepth 100000
set_option synthInstance.maxHeartbeats 0
set_option synthInstance.maxSize 100000
namespace Pu
open PySem PySem.Spec PyProof.Rows L2
section
variable {Q : D → Prop} {n i j k e d c m p q f g A B b P : Int} {r s l J a ls h v M T tl va vb row lot : List Int} {ws L X Y K1 S st : List (List Int)} {x y w : Int} {kds : List (D × D)} {env : PEnv} {dd t : D} {labs : List D}
end
end Pu
set_option Elab.async false
set_option linter.all false
set_option maxRecDepth 100000
set_option synthInstance.maxHeartbeats 0
set_option synthInstance.maxSize 100000
namespace Pu
open PySem PySem.Spec PyProof.Rows L2
section
variable {Q : D → Prop} {n i j k e d c c' m p q f g A P : Int} {r s l J a ls lo h M T tl va vb row lot u v o : List Int} {ws L X Y K1 S st : List (List Int)} {x y w : Int} {B B' : Int → Bool} {dd : D}
end
end Pu
set_option Elab.async false
set_option linter.all false
set_option maxRecDepth 100000
set_option synthInstance.maxHeartbeats 0
set_option synthInstance.maxSize 100000
namespace Pu
open PySem PySem.Spec PyProof.Rows L2
section
variable {Q : D → Prop} {n i j k e d c m p q f g A P G : Int} {r s l J a ls h M T tl va vb row lot u v L : List Int} {ws X Y K1 S st : List (List Int)} {x y w : Int} {B B' : Int → Bool} {N : Int → Int}
end
end Pu
set_option Elab.async false
set_option linter.all false
set_option maxRecDepth 100000
set_option synthInstance.maxHeartbeats 0
set_option synthInstance.maxSize 100000
namespace Pu
open PySem PySem.Spec PyProof.Rows L2
section
variable {Q : D → Prop} {n i : Int} {r s row left a b g C D0 : List Int} {ws us L K T : List (List Int)} {kvs : List (List Key × D)} {x : Int}
inductive Rh (ws L : List (List Int)) : List Int → List Int → Prop
  | nil : Rh ws L [] (zeros L.length)
  | snoc {r C : List Int} {x : Int} : Rh ws L r C → 0 ≤ x ∧ x < (ws.length : Int) → Ready ws (Rem L C) x → Rh ws L (r ++ [x]) (bump C (W ws x))
end
end Pu
set_option Elab.async false
set_option linter.all false
set_option maxRecDepth 100000
set_option synthInstance.maxHeartbeats 0
set_option synthInstance.maxSize 100000
namespace Pu
open PySem PySem.Spec PyProof.Rows L2
section
variable {Q : D → Prop} {n i : Int} {r s row left a b g B C D0 dn : List Int} {ws us L K T p : List (List Int)} {kvs : List (List Key × D)} {x : Int} {f : List Int → List Int}
theorem look_put {κ : Type} [DecidableEq κ] {k k' : κ} {v : D} : ∀ {kvs : List (κ × D)}, lookD (putD kvs k v) k' = if k' = k then some v else lookD kvs k' := by
  have mapL : ∀ {kvs : List (κ × D)}, lookD (kvs.map fun kv => if kv.1 = k then (kv.1, v) else kv) k' = if k' = k then (if kvs.any fun kv => decide (kv.1 = k) then some v else none) else lookD kvs k' := by
    intro kvs
    induction kvs with
    | nil => unfold lookD; simp
    | cons q kvs ih =>
      unfold lookD at ih ⊢
      rw [List.map_cons, List.find?_cons, List.find?_cons]
      by_cases e : q.1 = k
      · rw [if_pos e]
        by_cases e2 : k' = k
        · subst e2
          simp [e]
        · have : ¬ q.1 = k' := fun z => e2 (z.symm.trans e)
          rw [if_neg e2] at ih
          simp only [this, decide_false, if_neg e2]
          exact ih
      · rw [if_neg e]
        by_cases e2 : k' = k
        · subst e2
          simp only [decide_eq_false e, if_true, List.any_cons, Bool.false_or] at ih ⊢
          exact ih
        · rw [if_neg e2] at ih ⊢
          by_cases e3 : q.1 = k'
          · simp [e3]
          · simp only [decide_eq_false e3]
            exact ih
  have none_of : ∀ {kvs : List (κ × D)}, (kvs.any fun kv => decide (kv.1 = k)) = false → kvs.find? (fun kv => decide (kv.1 = k)) = none := fun h => by
    rw [List.find?_eq_none]
    intro z hz q
    have := List.any_eq_false.mp h z hz
    exact this q
  intro kvs
  unfold putD
  split
  · rename_i h
    rw [mapL, h, if_pos rfl]
  · rename_i h
    unfold lookD
    rw [List.find?_append]
    by_cases e : k' = k
    · subst e
      rw [none_of ((Bool.not_eq_true _).mp h), if_pos rfl]
      simp
    · rw [if_neg e]
      have : List.find? (fun kv => decide (kv.1 = k')) [(k, v)] = none := by simp [Ne.symm e]
      rw [this, Option.or_none]
structure KV (kvs : List (List Key × D)) (K : List (List Int)) (f : List Int → List Int) : Prop where
  keys : kvs.map (·.1) = K.map kk
  nd : K.Nodup
  val : ∀ C ∈ K, lookD kvs (kk C) = some (rD (f C))
theorem KV.none (h : KV kvs K f) (hc : C ∉ K) : lookD kvs (kk C) = none := by
  unfold lookD
  rw [List.find?_eq_none.mpr]
  · rfl
  · intro z hz q
    have : z.1 ∈ kvs.map (·.1) := List.mem_map.mpr ⟨z, hz, rfl⟩
    rw [h.keys] at this
    obtain ⟨t, ht, e⟩ := List.mem_map.mp this
    exact hc (kk_inj (e.trans (of_decide_eq_true q)) ▸ ht)
theorem KV.any (h : KV kvs K f) : (kvs.any fun kv => decide (kv.1 = kk C)) = decide (C ∈ K) := by
  by_cases hc : C ∈ K
  · rw [decide_eq_true hc, List.any_eq_true]
    have : kk C ∈ kvs.map (·.1) := by rw [h.keys]; exact List.mem_map.mpr ⟨C, hc, rfl⟩
    obtain ⟨z, hz, e⟩ := List.mem_map.mp this
    exact ⟨z, hz, decide_eq_true e⟩
  · rw [decide_eq_false hc, List.any_eq_false]
    intro z hz q
    have : z.1 ∈ kvs.map (·.1) := List.mem_map.mpr ⟨z, hz, rfl⟩
    rw [h.keys] at this
    obtain ⟨t, ht, e⟩ := List.mem_map.mp this
    exact hc (kk_inj (e.trans (of_decide_eq_true q)) ▸ ht)
theorem KV.len (h : KV kvs K f) : kvs.length = K.length := by have := congrArg List.length h.keys; simpa using this
def updf (f : List Int → List Int) (C r : List Int) : List Int → List Int := fun B => if B = C then r else f B
def addK (K : List (List Int)) (C : List Int) : List (List Int) := if C ∈ K then K else K ++ [C]
theorem mem_addK : B ∈ addK K C ↔ B ∈ K ∨ B = C := by
  unfold addK
  split
  · exact ⟨.inl, fun h => h.elim id fun e => e ▸ ‹_›⟩
  · simp
theorem KV.put (h : KV kvs K f) : KV (putD kvs (kk C) (rD r)) (addK K C) (updf f C r) := by
  refine ⟨?_, ?_, fun B hB => ?_⟩
  · unfold putD addK
    rw [h.any]
    by_cases hc : C ∈ K
    · rw [decide_eq_true hc, if_pos rfl, if_pos hc, ← h.keys, List.map_map]
      refine List.map_congr_left fun kv _ => ?_
      show (if kv.1 = kk C then (kv.1, rD r) else kv).1 = kv.1
      split <;> rfl
    · rw [decide_eq_false hc, if_neg Bool.false_ne_true, if_neg hc, List.map_append, List.map_append, h.keys]
      rfl
  · unfold addK
    split
    · exact h.nd
    · rename_i hc
      refine List.nodup_append.mpr ⟨h.nd, List.pairwise_singleton _ _, fun a ha b hb e => ?_⟩
      rw [List.mem_singleton.mp hb] at e
      exact hc (e ▸ ha)
  · rw [look_put]
    unfold updf
    by_cases e : B = C
    · subst e; rw [if_pos rfl, if_pos rfl]
    · rw [if_neg (fun q => e (kk_inj q)), if_neg e]
      rcases mem_addK.mp hB with q | q
      · exact h.val B q
      · exact absurd q e
structure Bf (ws L K : List (List Int)) (f : List Int → List Int) (T : List (List Int)) (o : Option (List Int × List Int)) : Prop where
  rh : ∀ C ∈ K, Rh ws L (f C) C
  z : zeros L.length ∈ K
  sub : ∀ C ∈ T, C ∈ K
  nd : T.Nodup
  cl : ∀ C ∈ K, C ∉ T → ∀ x, 0 ≤ x ∧ x < (ws.length : Int) → Ready ws (Rem L C) x → (∀ q, o = some q → C = q.1 → x ∈ q.2) → bump C (W ws x) ∈ K ∧ HT.lexLt (f C ++ [x]) (f (bump C (W ws x))) = false
  lv : ∃ l : Nat, (∀ C ∈ K, C ∉ T → (f C).length ≤ l) ∧ (∀ C ∈ T, l ≤ (f C).length ∧ (f C).length ≤ l + 1) ∧ T.Pairwise (fun a b => (f a).length ≤ (f b).length) ∧ ∀ q, o = some q → q.1 ∈ K ∧ q.1 ∉ T ∧ (f q.1).length = l
end
end Pu
set_option Elab.async false
set_option linter.all false
set_option maxRecDepth 100000
set_option synthInstance.maxHeartbeats 0
set_option synthInstance.maxSize 100000
namespace Pu
open PySem PySem.Spec PyProof.Rows L2
section
variable {n i : Int} {r s a b A B P : List Int} {ws : List (List Int)} {x y z : Int}
def nv : List Int → List Int → Nat
  | [], _ => 0
  | x :: r, s => s.idxOf x + nv r (s.erase x)
end
end Pu
set_option Elab.async false
set_option linter.all false
set_option maxRecDepth 100000
set_option synthInstance.maxHeartbeats 0
set_option synthInstance.maxSize 100000
namespace Pu
open PySem PySem.Spec PyProof.Rows L2
section
variable {Q : D → Prop} {n i : Int} {r s here row left a b A B P : List Int} {ws K T K' T' L : List (List Int)} {x y z : Int} {kvs kvs' : List (List Key × D)} {f : List Int → Int} {e2 e3 e4 e5 e6 e7 : Option D} {l : Nat}
structure KI (kvs : List (List Key × D)) (K : List (List Int)) (f : List Int → Int) : Prop where
  keys : kvs.map (·.1) = K.map kk
  val : ∀ s ∈ K, lookD kvs (kk s) = some (.int (f s))
theorem KI.none (h : KI kvs K f) (hc : s ∉ K) : lookD kvs (kk s) = none := by
  unfold lookD
  rw [List.find?_eq_none.mpr]
  · rfl
  · intro z hz q
    have : z.1 ∈ kvs.map (·.1) := List.mem_map.mpr ⟨z, hz, rfl⟩
    rw [h.keys] at this
    obtain ⟨t, ht, e⟩ := List.mem_map.mp this
    exact hc (kk_inj (e.trans (of_decide_eq_true q)) ▸ ht)
theorem KI.len (h : KI kvs K f) : kvs.length = K.length := by have := congrArg List.length h.keys; simpa using this
theorem KI.put (h : KI kvs K f) (hc : s ∉ K) : KI (putD kvs (kk s) (.int (f s))) (K ++ [s]) f := by
  have ha : (kvs.any fun kv => decide (kv.1 = kk s)) = false := by
    rw [List.any_eq_false]
    intro z hz q
    have : z.1 ∈ kvs.map (·.1) := List.mem_map.mpr ⟨z, hz, rfl⟩
    rw [h.keys] at this
    obtain ⟨t, ht, e⟩ := List.mem_map.mp this
    exact hc (kk_inj (e.trans (of_decide_eq_true q)) ▸ ht)
  refine ⟨?_, fun t ht => ?_⟩
  · unfold putD
    rw [ha, if_neg Bool.false_ne_true, List.map_append, h.keys, List.map_append]
    rfl
  · rw [look_put]
    by_cases e : t = s
    · subst e; rw [if_pos rfl]
    · rw [if_neg (fun q => e (kk_inj q))]
      rcases List.mem_append.mp ht with q | q
      · exact h.val t q
      · exact absurd (List.mem_singleton.mp q) e
structure IU (ws : List (List Int)) (row : List Int) (K T : List (List Int)) (l : Nat) : Prop where
  iv : IV ws row K T
  lo : ∀ s, Rch (apF ws) row s → nv row s ≤ l → s ∈ K
  hi : ∀ s ∈ K, nv row s ≤ l ∨ s ∈ T
  at1 : ∀ t ∈ T, nv row t = l + 1
end
end Pu
set_option Elab.async false
set_option linter.all false
set_option maxRecDepth 100000
set_option synthInstance.maxHeartbeats 0
set_option synthInstance.maxSize 100000
namespace Pu
open PySem PySem.Spec PyProof.Rows L2
section
variable {r s a b A B P : List Int} {x y z : Int} {t : List (Int × Int)}
end
end Pu
set_option Elab.async false
set_option linter.all false
set_option maxRecDepth 100000
set_option synthInstance.maxHeartbeats 0
set_option synthInstance.maxSize 100000
namespace Pu
open PySem PySem.Spec PyProof.Rows L2
section
variable {Q : D → Prop} {R : List D → Prop} {n i : Int} {r s a b A B P : List Int} {ws : List (List Int)} {x y z : Int} {env : PEnv} {α κ : Type} [DecidableEq κ] [DecidableEq α] {inl : α → κ} {kvs : List (κ × D)} {K : List α} {f g : α → D} {c c' : α} {d d0 : D} {kds : List (Key × D)} {J : List Int} {F : Int → D}
def eP (p : Int × Int) : D := .tup [.int p.1, .int p.2]
end
end Pu
set_option Elab.async false
set_option linter.all false
set_option maxRecDepth 100000
set_option synthInstance.maxHeartbeats 0
set_option synthInstance.maxSize 100000
namespace Pu
open PySem PySem.Spec PyProof.Rows L2
section
variable {Q : D → Prop} {n i j k e d c m p q f g A P G : Int} {r s l J a ls h M T tl va vb row lot u v L U : List Int} {ws X Y K1 S st : List (List Int)} {x y w : Int} {B B' : Int → Bool} {N : Int → Int} {env : PEnv} {dd : D} {acc : List (D × D)}
def tpN (l : List Int) : NestedKey := .tup (l.map .num)
theorem tp_nk : (rD l).nk = some (tpN l) := by
  show (D.tup (dInts l)).nk = _
  simp [D.nk, nkL_ints, tpN]
theorem tp_inj (h : tpN l = tpN u) : l = u := by
  unfold tpN at h
  injection h with h
  exact (List.map_inj_right fun x y e => by injection e).mp h
structure PO (S : List (List Int)) (acc : List (D × D)) : Prop where
  keys : acc.map (fun p => p.1.nk) = S.map fun l => some (tpN l)
  look : ∀ j l, S[j]? = some l → lookN acc (tpN l) = some (.int (j : Nat))
theorem PO.nil : PO [] [] := ⟨rfl, fun j l h => by simp at h⟩
theorem PO.none (h : PO S acc) (hl : l ∉ S) : lookN acc (tpN l) = none := by
  unfold lookN
  rw [Option.map_eq_none_iff, List.find?_eq_none]
  intro p hp e
  have e := of_decide_eq_true e
  have : p.1.nk ∈ S.map fun l => some (tpN l) := by rw [← h.keys]; exact List.mem_map.mpr ⟨p, hp, rfl⟩
  rw [e] at this
  obtain ⟨u, hu, z⟩ := List.mem_map.mp this
  rw [tp_inj (Option.some.inj z)] at hu
  exact hl hu
theorem PO.put (h : PO S acc) (hl : l ∉ S) : PO (S ++ [l]) (putN acc (tpN l) (rD l) (.int (S.length : Nat))) := by
  have e1 : putN acc (tpN l) (rD l) (.int (S.length : Nat)) = acc ++ [(rD l, .int (S.length : Nat))] := by
    unfold putN
    rw [h.none hl]
    rfl
  rw [e1]
  refine ⟨by rw [List.map_append, h.keys, List.map_append]; simp [tp_nk], fun j u hj => ?_⟩
  rw [look_app]
  rcases Nat.lt_or_ge j S.length with z | z
  · rw [List.getElem?_append_left z] at hj
    rw [h.look j u hj]
  · rw [List.getElem?_append_right z] at hj
    have jl : j - S.length = 0 := by
      have := (List.getElem?_eq_some_iff.mp hj).1
      simpa using this
    rw [jl] at hj
    cases hj
    rw [h.none hl, tp_nk]
    rw [show j = S.length by omega]
    simp
theorem PO.nd (h : PO S acc) (nd : S.Nodup) : (acc.map fun p => p.1.nk).Nodup := by
  rw [h.keys]
  exact List.pairwise_map.mpr (nd.imp fun hne e => hne (tp_inj (Option.some.inj e)))
theorem PO.len (h : PO S acc) : acc.length = S.length := by have := congrArg List.length h.keys; simpa using this
end
end Pu
set_option Elab.async false
set_option linter.all false
set_option maxRecDepth 100000
set_option synthInstance.maxHeartbeats 0
set_option synthInstance.maxSize 100000
namespace Pu
open PySem PySem.Spec PyProof.Rows L2
section
variable {Q : D → Prop} {n i j k e d c m p q f g A P G : Int} {r s l J a ls h M T tl va vb row lot u v L U : List Int} {ws X Y K1 S st : List (List Int)} {x y w : Int} {B B' : Int → Bool} {N : Int → Int} {env : PEnv} {dd : D} {acc : List (D × D)}
end
end Pu
set_option Elab.async false
set_option linter.all false
set_option maxRecDepth 100000
set_option synthInstance.maxHeartbeats 0
set_option synthInstance.maxSize 100000
namespace Pu
open PySem PySem.Spec PyProof.Rows L2
section
variable {Q : D → Prop} {n i j k e d c m p q : Int} {r s l J a lot : List Int} {ws L : List (List Int)} {x y : Int} {K : D → Prop} {env : PEnv} {dd t : D} {ls ds : List D}
theorem nb_rD (h : r.length ≤ 1000) : Nb 7 (rD r) := (nb_ints (by omega)).le (by decide)
end
end Pu
set_option Elab.async false
set_option linter.all false
set_option maxRecDepth 100000
set_option synthInstance.maxHeartbeats 0
set_option synthInstance.maxSize 100000
namespace Pu
open PySem PySem.Spec PyProof.Rows L2
section
variable {Q : D → Prop} {n i j k e d c c' m p q f g A P : Int} {r s l J a ls lo h M T tl va vb row lot u v o L : List Int} {ws X Y K1 S st : List (List Int)} {x y w : Int} {B B' : Int → Bool} {dd : D}
end
end Pu
set_option Elab.async false
set_option linter.all false
set_option maxRecDepth 100000
set_option synthInstance.maxHeartbeats 0
set_option synthInstance.maxSize 100000
namespace Pu
open PySem PySem.Spec PyProof.Rows L2
section
variable {Q : D → Prop} {n i j k e d c c' m p q f g A b G : Int} {r s l J a ls h M T tl va vb row lot u v L : List Int} {ws X Y K1 S st : List (List Int)} {x y w : Int} {B B' : Int → Bool} {N : Int → Int} {env : PEnv} {dd : D} {acc : List (D × D)}
end
end Pu
set_option Elab.async false
set_option linter.all false
set_option maxRecDepth 100000
set_option synthInstance.maxHeartbeats 0
set_option synthInstance.maxSize 100000
namespace Pu
open PySem PySem.Spec PyProof.Rows L2
section
variable {Q : D → Prop} {n i j k e d c c' m p q f g A P : Int} {r s l J a ls lo h M T tl va vb row lot u v o L : List Int} {ws X Y K1 S st : List (List Int)} {x y w : Int} {B B' : Int → Bool} {dd : D}
end
end Pu
set_option Elab.async false
set_option linter.all false
set_option maxRecDepth 100000
set_option synthInstance.maxHeartbeats 0
set_option synthInstance.maxSize 100000
namespace Pu
open PySem PySem.Spec PyProof.Rows L2
section
variable {Q : D → Prop} {n i j k e d c m p q f g A B b P : Int} {r s l J a ls h v M T va vb u : List Int} {ws L X Y K1 S st : List (List Int)} {x y w : Int} {kds : List (D × D)} {env : PEnv} {dd : D} {F : List Int → Option (List Int)}
def tqN (l : List Int) : NestedKey := .tup (l.map .num)
theorem tq_nk : (rD l).nk = some (tqN l) := by
  show (D.tup (dInts l)).nk = _
  simp [D.nk, nkL_ints, tqN]
theorem tq_inj (h : tqN l = tqN u) : l = u := by
  unfold tqN at h
  injection h with h
  exact (List.map_inj_right fun x y e => by injection e).mp h
structure DV (kds : List (D × D)) (f : List Int → Option (List Int)) (N : Nat) : Prop where
  nd : (kds.map fun p => p.1.nk).Nodup
  len : kds.length ≤ N
  look : ∀ l, lookN kds (tqN l) = (f l).map rD
theorem DV.nil : DV [] (fun _ => none) 0 := ⟨List.nodup_nil, Nat.le_refl _, fun l => rfl⟩
def dvSet (f : List Int → Option (List Int)) (l v : List Int) : List Int → Option (List Int) := fun l' => if l' = l then some v else f l'
theorem DV.put {f : List Int → Option (List Int)} {N : Nat} (h : DV kds f N) (hn : f l = none) : DV (putN kds (tqN l) (rD l) (rD v)) (dvSet f l v) (N + 1) := by
  have e0 : lookN kds (tqN l) = none := by rw [h.look, hn]; rfl
  have e1 : putN kds (tqN l) (rD l) (rD v) = kds ++ [(rD l, rD v)] := by
    unfold putN
    rw [e0]
    rfl
  rw [e1]
  refine ⟨?_, by rw [List.length_append]; have := h.len; simp; omega, fun l' => ?_⟩
  · rw [List.map_append]
    refine List.nodup_append.mpr ⟨h.nd, by simp, fun a ha b hb e => ?_⟩
    rw [List.map_singleton, List.mem_singleton] at hb
    obtain ⟨p, hp, ep⟩ := List.mem_map.mp ha
    unfold lookN at e0
    rw [Option.map_eq_none_iff] at e0
    have := List.find?_eq_none.mp e0 p hp
    rw [ep, e, hb, tq_nk] at this
    exact this (decide_eq_true rfl)
  · rw [look_app, tq_nk]
    unfold dvSet
    by_cases z : l' = l
    · subst z
      rw [if_pos rfl, e0]
      simp
    · rw [if_neg z, h.look]
      cases f l' with
      | some x => rfl
      | none =>
        show (if some (tqN l) = some (tqN l') then _ else none) = none
        rw [if_neg]
        intro e
        exact z (tq_inj (Option.some.inj e)).symm
def stepE (S : List (List Int)) (m : Int) : List (List Int) := (S.map fun h => (rangeI m).map fun x => h ++ [x]).flatten
structure EV (M : List Int) (S : List (List Int)) : Prop where
  nd : S.Nodup
  mem : ∀ h, h ∈ S ↔ InB M h
theorem EV.nil : EV [] [[]] := ⟨by simp, fun h => by
  rw [List.mem_singleton]
  exact ⟨fun e => by rw [e]; exact ⟨rfl, fun k hk => by simp at hk⟩, fun hb => List.eq_nil_of_length_eq_zero hb.1⟩⟩
theorem inB_snoc : InB (M ++ [m]) (h ++ [x]) ↔ InB M h ∧ 0 ≤ x ∧ x < m := by
  unfold InB
  rw [List.length_append, List.length_append, List.length_singleton]
  constructor
  · rintro ⟨e, hk⟩
    have e : h.length = M.length := by simpa using e
    refine ⟨⟨e, fun k hk2 => ?_⟩, ?_⟩
    · have := hk k (by simp; omega)
      rwa [List.getD_eq_getElem?_getD, List.getElem?_append_left (by omega), ← List.getD_eq_getElem?_getD, List.getD_eq_getElem?_getD (l := M ++ [m]), List.getElem?_append_left hk2, ← List.getD_eq_getElem?_getD] at this
    · have := hk M.length (by simp)
      rwa [List.getD_eq_getElem?_getD, List.getElem?_append_right (by omega), e, Nat.sub_self, List.getD_eq_getElem?_getD (l := M ++ [m]), List.getElem?_append_right (by omega), Nat.sub_self] at this
  · rintro ⟨⟨e, hk⟩, x0, x1⟩
    refine ⟨by simp [e], fun k hk2 => ?_⟩
    by_cases z : k < M.length
    · rw [List.getD_eq_getElem?_getD, List.getElem?_append_left (by omega), ← List.getD_eq_getElem?_getD, List.getD_eq_getElem?_getD (l := M ++ [m]), List.getElem?_append_left z, ← List.getD_eq_getElem?_getD]
      exact hk k z
    · have ek : k = M.length := by simp at hk2; omega
      subst ek
      rw [List.getD_eq_getElem?_getD, List.getElem?_append_right (by omega), e, Nat.sub_self, List.getD_eq_getElem?_getD (l := M ++ [m]), List.getElem?_append_right (by omega), Nat.sub_self]
      exact ⟨x0, x1⟩
theorem EV.step (ev : EV M S) : EV (M ++ [m]) (stepE S m) := by
  refine ⟨?_, fun h => ?_⟩
  · unfold stepE
    refine List.pairwise_flatten.mpr ⟨fun l hl => ?_, ?_⟩
    · obtain ⟨h, _, rfl⟩ := List.mem_map.mp hl
      refine List.pairwise_map.mpr ((rangeI_pw m).imp fun {a b} hab e => ?_)
      have := List.append_cancel_left e
      simp at this
      omega
    · refine List.pairwise_map.mpr (ev.nd.imp fun {a b} hab => ?_)
      intro z hz z2 hz2 ez
      obtain ⟨x, _, e1⟩ := List.mem_map.mp hz
      obtain ⟨y, _, e2⟩ := List.mem_map.mp hz2
      rw [← e1, ← e2] at ez
      exact hab (List.append_inj_left' ez rfl)
  · unfold stepE
    rw [List.mem_flatten]
    constructor
    · rintro ⟨l, hl, hh⟩
      obtain ⟨h0, hh0, rfl⟩ := List.mem_map.mp hl
      obtain ⟨x, hx, rfl⟩ := List.mem_map.mp hh
      exact inB_snoc.mpr ⟨(ev.mem h0).mp hh0, mem_rangeI.mp hx⟩
    · intro hb
      have hne : h ≠ [] := by intro z; rw [z] at hb; have := hb.1; simp at this
      obtain ⟨u, x, rfl⟩ : ∃ u x, h = u ++ [x] := ⟨h.dropLast, h.getLast hne, (List.dropLast_concat_getLast _).symm⟩
      obtain ⟨b1, b2⟩ := inB_snoc.mp hb
      exact ⟨_, List.mem_map.mpr ⟨u, (ev.mem u).mpr b1, rfl⟩, List.mem_map.mpr ⟨x, mem_rangeI.mpr b2, rfl⟩⟩
theorem EV.le (ev : EV M S) (hM : ∀ x ∈ M, 1 ≤ x) : (S.length : Int) ≤ prodL M := box_le hM ev.nd fun h hh => (ev.mem h).mp hh
structure MW (M : List Int) (S u : List (List Int)) (bs : List D) (G : Int → List Int → Option (List Int)) : Prop where
  len : bs.length = u.length
  dv : ∀ k : Nat, k < u.length → ∃ b kds N, bs[k]? = some b ∧ b.nv = some kds ∧ DV kds (G (k : Int)) N
  val : ∀ (k : Nat) l v, k < u.length → G (k : Int) l = some v → ValOk M (u.getD k []) v
  all : ∀ (k : Nat) h, k < u.length → h ∈ S → ∃ v, G (k : Int) (prjS h (u.getD k [])) = some v
theorem MW.snoc {bs : List D} {G : Int → List Int → Option (List Int)} {b : D} {N : Nat} {lot : List Int} {f : List Int → Option (List Int)} {u : List (List Int)} (mw : MW M S u bs G) (hb : b.nv = some kds) (dv : DV kds f N) (hv : ∀ l v, f l = some v → ValOk M lot v) (ha : ∀ h ∈ S, ∃ v, f (prjS h lot) = some v) :
    MW M S (u ++ [lot]) (bs ++ [b]) (fun k l => if k = (u.length : Int) then f l else G k l) := by
  have e0 := mw.len
  refine ⟨by simp [e0], fun k hk => ?_, fun k l v hk h => ?_, fun k h hk hh => ?_⟩
  · by_cases z : k < u.length
    · obtain ⟨b', kds', N', a1, a2, a3⟩ := mw.dv k z
      refine ⟨b', kds', N', by rw [List.getElem?_append_left (by omega)]; exact a1, a2, ?_⟩
      rw [show (fun l => if (k : Int) = (u.length : Int) then f l else G (k : Int) l) = G (k : Int) from funext fun l => if_neg (by omega)]
      exact a3
    · have ek : k = u.length := by simp at hk; omega
      subst ek
      refine ⟨b, kds, N, by rw [List.getElem?_append_right (by omega), e0, Nat.sub_self]; rfl, hb, ?_⟩
      rw [show (fun l => if ((u.length : Nat) : Int) = (u.length : Int) then f l else G ((u.length : Nat) : Int) l) = f from funext fun l => if_pos rfl]
      exact dv
  · by_cases z : k < u.length
    · rw [if_neg (by omega)] at h
      rw [List.getD_eq_getElem?_getD, List.getElem?_append_left z, ← List.getD_eq_getElem?_getD]
      exact mw.val k l v z h
    · have ek : k = u.length := by simp at hk; omega
      subst ek
      rw [if_pos rfl] at h
      rw [List.getD_eq_getElem?_getD, List.getElem?_append_right (by omega), Nat.sub_self]
      exact hv l v h
  · by_cases z : k < u.length
    · obtain ⟨v, hv2⟩ := mw.all k h z hh
      rw [List.getD_eq_getElem?_getD, List.getElem?_append_left z, ← List.getD_eq_getElem?_getD]
      exact ⟨v, by rw [if_neg (by omega)]; exact hv2⟩
    · have ek : k = u.length := by simp at hk; omega
      subst ek
      obtain ⟨v, hv2⟩ := ha h hh
      rw [List.getD_eq_getElem?_getD, List.getElem?_append_right (by omega), Nat.sub_self]
      exact ⟨v, by rw [if_pos rfl]; exact hv2⟩
end
end Pu
set_option Elab.async false
set_option linter.all false
set_option maxRecDepth 100000
set_option synthInstance.maxHeartbeats 0
set_option synthInstance.maxSize 100000
namespace Pu
open PySem PySem.Spec PyProof.Rows L2
section
variable {Q : D → Prop} {n i j k e d c m p q f g A B b P : Int} {r s l J a ls h v M T va vb u : List Int} {ws L X Y K1 S st : List (List Int)} {x y w : Int} {kds : List (D × D)} {env : PEnv} {dd : D} {F : List Int → Option (List Int)}
end
end Pu
set_option Elab.async false
set_option linter.all false
set_option maxRecDepth 100000
set_option synthInstance.maxHeartbeats 0
set_option synthInstance.maxSize 100000
namespace Pu
open PySem PySem.Spec PyProof.Rows L2
section
variable {Q : D → Prop} {n i j k e d c m p q f g A B b : Int} {r s l J a ls ls' u v T S : List Int} {ws L : List (List Int)} {x y : Int} {K : D → Prop} {env : PEnv} {dd t : D} {p' : List Int} {a' : Int}
end
end Pu
set_option Elab.async false
set_option linter.all false
set_option maxRecDepth 100000
set_option synthInstance.maxHeartbeats 0
set_option synthInstance.maxSize 100000
namespace Pu
open PySem PySem.Spec PyProof.Rows L2
section
variable {Q : D → Prop} {n i j k e d c m p q f g A B b P : Int} {r s l J a ls h v M T va vb u tl : List Int} {ws L X Y K1 S st : List (List Int)} {x y w z : Int} {kds : List (D × D)} {env : PEnv} {dd : D}
end
end Pu
set_option Elab.async false
set_option linter.all false
set_option maxRecDepth 100000
set_option synthInstance.maxHeartbeats 0
set_option synthInstance.maxSize 100000
namespace Pu
open PySem PySem.Spec PyProof.Rows L2
section
variable {Q : D → Prop} {n i j k e d c m p q f g A B b P : Int} {r s l J a ls h v M T va vb u tl : List Int} {ws L X Y K1 S st : List (List Int)} {x y w z : Int} {kds : List (D × D)} {env : PEnv} {dd : D}
end
end Pu
set_option Elab.async false
set_option linter.all false
namespace Pu
def Lx : List Int → List Int → Prop
  | a :: r, b :: s => a < b ∨ (a = b ∧ Lx r s)
  | _, _ => False
def Sl (r s : List Int) : Prop := r.length < s.length ∨ (r.length = s.length ∧ Lx r s)
theorem lx_irr : ∀ r : List Int, ¬ Lx r r
  | [], h => h
  | a :: r, h => by
    rcases h with h | ⟨_, h⟩
    · omega
    · exact lx_irr r h
theorem lx_trans : ∀ {r s t : List Int}, Lx r s → Lx s t → Lx r t
  | a :: r, b :: s, c :: t, h, k => by
    rcases h with h | ⟨e, h⟩ <;> rcases k with k | ⟨e', k⟩
    · exact .inl (by omega)
    · exact .inl (by omega)
    · exact .inl (by omega)
    · exact .inr ⟨by omega, lx_trans h k⟩
  | [], _, _, h, _ => h.elim
  | _ :: _, [], _, h, _ => h.elim
  | _ :: _, _ :: _, [], _, k => k.elim
theorem sl_irr (r : List Int) : ¬ Sl r r := fun h => by
  rcases h with h | ⟨_, h⟩
  · omega
  · exact lx_irr r h
theorem sl_trans {r s t : List Int} (h : Sl r s) (k : Sl s t) : Sl r t := by
  rcases h with h | ⟨e, h⟩ <;> rcases k with k | ⟨e', k⟩
  · exact .inl (by omega)
  · exact .inl (by omega)
  · exact .inl (by omega)
  · exact .inr ⟨by omega, lx_trans h k⟩
theorem sl_asy {r s : List Int} (h : Sl r s) (k : Sl s r) : False := sl_irr r (sl_trans h k)
def RowIn (m : Nat) (r : List Int) : Prop := ∀ w ∈ r, 0 ≤ w ∧ w < (m : Int)
section
variable {α β : Type} [DecidableEq α] [DecidableEq β] {f : α → Int → α} {g : β → Int → β} {m d : Nat} {x0 x y : α} {L F G M : List (α × List Int)} {r s : List Int} {w : Int}
structure Upto (f : α → Int → α) (m : Nat) (x0 : α) (d : Nat) (L : List (α × List Int)) : Prop where
  row : ∀ p ∈ L, RowIn m p.2 ∧ p.2.foldl f x0 = p.1
  len : ∀ p ∈ L, p.2.length < d
  least : ∀ p ∈ L, ∀ r, RowIn m r → r.foldl f x0 = p.1 → r = p.2 ∨ Sl p.2 r
  ord : L.Pairwise fun p q => Sl p.2 q.2
  all : ∀ r, RowIn m r → r.length < d → ∃ p ∈ L, p.1 = r.foldl f x0
structure Bfs (f : α → Int → α) (m : Nat) (x0 : α) (L : List (α × List Int)) : Prop where
  row : ∀ p ∈ L, RowIn m p.2 ∧ p.2.foldl f x0 = p.1
  least : ∀ p ∈ L, ∀ r, RowIn m r → r.foldl f x0 = p.1 → r = p.2 ∨ Sl p.2 r
  ord : L.Pairwise fun p q => Sl p.2 q.2
  all : ∀ r, RowIn m r → ∃ p ∈ L, p.1 = r.foldl f x0
end
end Pu
set_option Elab.async false
set_option linter.all false
namespace Pu
section
variable {α β γ : Type} [DecidableEq α] [DecidableEq β] {f : α → Int → α} {g : β → Int → β} {m d n : Nat} {x0 x y z : α} {L L' F G M : List (α × List Int)} {r s : List Int} {w : Int}
theorem sorted_uniq : ∀ {L L' : List (α × List Int)}, L.Pairwise (fun p q => Sl p.2 q.2) → L'.Pairwise (fun p q => Sl p.2 q.2) → (∀ p, p ∈ L ↔ p ∈ L') → L = L'
  | [], [], _, _, _ => rfl
  | [], q :: _, _, _, h => nomatch (h q).mpr List.mem_cons_self
  | p :: _, [], _, _, h => nomatch (h p).mp List.mem_cons_self
  | p :: L, q :: L', h1, h2, h => by
    have a1 := List.pairwise_cons.mp h1
    have a2 := List.pairwise_cons.mp h2
    have e : p = q := by
      rcases List.mem_cons.mp ((h p).mp List.mem_cons_self) with e | k1
      · exact e
      · rcases List.mem_cons.mp ((h q).mpr List.mem_cons_self) with e | k2
        · exact e.symm
        · exact (sl_asy (a1.1 q k2) (a2.1 p k1)).elim
    subst e
    rw [sorted_uniq a1.2 a2.2 fun r => ?_]
    constructor
    · intro hr
      rcases List.mem_cons.mp ((h r).mp (List.mem_cons_of_mem _ hr)) with e | k
      · exact (sl_irr _ (by have := a1.1 r hr; rwa [e] at this)).elim
      · exact k
    · intro hr
      rcases List.mem_cons.mp ((h r).mpr (List.mem_cons_of_mem _ hr)) with e | k
      · exact (sl_irr _ (by have := a2.1 r hr; rwa [e] at this)).elim
      · exact k
theorem Bfs.uniq (h : Bfs f m x0 L) (h' : Bfs f m x0 L') : L = L' := by
  have key : ∀ {L L' : List (α × List Int)}, Bfs f m x0 L → Bfs f m x0 L' → ∀ p, p ∈ L → p ∈ L' := fun {L L'} h h' p hp => by
    obtain ⟨a1, a2⟩ := h.row p hp
    obtain ⟨q, hq, e⟩ := h'.all p.2 a1
    obtain ⟨b1, b2⟩ := h'.row q hq
    have e1 : p.1 = q.1 := by rw [e, a2]
    have : p.2 = q.2 := by
      rcases h'.least q hq p.2 a1 (a2.trans e1) with k | k
      · exact k
      · rcases h.least p hp q.2 b1 (b2.trans e1.symm) with k' | k'
        · exact k'.symm
        · exact (sl_asy k k').elim
    have : p = q := Prod.ext e1 this
    rw [this]; exact hq
  exact sorted_uniq h.ord h'.ord fun p => ⟨key h h' p, key h' h p⟩
theorem Bfs.start (h : Bfs f m x0 L) : ∃ L', L = (x0, []) :: L' := by
  obtain ⟨p, hp, e⟩ := h.all [] (fun _ z => nomatch z)
  have l := h.least p hp [] (fun _ z => nomatch z) e.symm
  have e2 : p.2 = [] := by
    rcases l with l | l
    · exact l.symm
    · rcases l with l | ⟨_, l⟩
      · simp at l
      · cases hh : p.2 with
        | nil => rfl
        | cons a b => rw [hh] at l; exact l.elim
  have e3 : p = (x0, []) := Prod.ext e e2
  rw [e3] at hp
  cases L with
  | nil => exact nomatch hp
  | cons q L =>
    rcases List.mem_cons.mp hp with k | k
    · exact ⟨L, by rw [k]⟩
    · have := (List.pairwise_cons.mp h.ord).1 _ k
      rcases this with l | ⟨_, l⟩
      · simp at l
      · cases hh : q.2 with
        | nil => rw [hh] at l; exact l.elim
        | cons a b => rw [hh] at l; exact l.elim
theorem nodup_leL : ∀ {S L : List α}, S.Nodup → (∀ x ∈ S, x ∈ L) → S.length ≤ L.length
| [], _, _, _ => Nat.zero_le _
| a :: S, L, h, hc => by
  have h1 := List.nodup_cons.mp h
  have := nodup_leL (S := S) (L := L.erase a) h1.2 fun x hx => by
    have := hc x (List.mem_cons_of_mem _ hx)
    exact (List.mem_erase_of_ne (fun e => h1.1 (by rw [← e]; exact hx))).mpr this
  have h2 := List.length_erase_of_mem (hc a List.mem_cons_self)
  have h3 : 0 < L.length := List.length_pos_of_mem (hc a List.mem_cons_self)
  simp; omega
theorem nodup_cover : ∀ {L S : List α}, S.Nodup → (∀ x ∈ S, x ∈ L) → L.length ≤ S.length → L.Nodup
  | [], S, _, _, _ => List.nodup_nil
  | a :: L, S, hS, hc, hl => by
    have he : ∀ x ∈ S.erase a, x ∈ L := fun x hx => by
      have := (hS.mem_erase_iff).mp hx
      exact (List.mem_cons.mp (hc x this.2)).resolve_left this.1
    have h1 : (S.erase a).length + 1 ≥ S.length := by
      by_cases h : a ∈ S
      · rw [List.length_erase_of_mem h]; omega
      · rw [List.erase_of_not_mem h]; omega
    refine List.nodup_cons.mpr ⟨fun ha => ?_, nodup_cover (hS.erase a) he (by simp at hl; omega)⟩
    have := nodup_leL hS (fun x hx => (List.mem_cons.mp (hc x hx)).elim (fun e => e ▸ ha) id)
    simp at hl; omega
def uq : List Int → List Int
  | [] => []
  | a :: l => if a ∈ l then uq l else a :: uq l
theorem mem_uq {a : Int} : ∀ {l : List Int}, a ∈ uq l ↔ a ∈ l
  | [] => Iff.rfl
  | b :: l => by
    unfold uq
    split
    · rename_i h
      rw [mem_uq, List.mem_cons]
      exact ⟨.inr, fun k => k.elim (fun e => e ▸ h) id⟩
    · rw [List.mem_cons, List.mem_cons, mem_uq]
theorem uq_nd : ∀ {l : List Int}, (uq l).Nodup
  | [] => List.nodup_nil
  | b :: l => by
    unfold uq
    split
    · exact uq_nd
    · rename_i h
      exact List.nodup_cons.mpr ⟨fun z => h (mem_uq.mp z), uq_nd⟩
theorem finer_same {K F : Int → Int} {n : Nat} (hr : ∀ i j : Int, 0 ≤ i → i < (n : Int) → 0 ≤ j → j < (n : Int) → F i = F j → K i = K j)
    (hl : (uq ((List.range n).map fun i : Nat => F (i : Int))).length ≤ (uq ((List.range n).map fun i : Nat => K (i : Int))).length) :
    ∀ i j : Int, 0 ≤ i → i < (n : Int) → 0 ≤ j → j < (n : Int) → K i = K j → F i = F j := by
  intro i j hi hi' hj hj' e
  -- each value of F has a place
  have hat : ∀ v ∈ uq ((List.range n).map fun i : Nat => F (i : Int)), ∃ k : Nat, k < n ∧ F (k : Int) = v := fun v hv => by
    obtain ⟨k, hk, e⟩ := List.mem_map.mp (mem_uq.mp hv)
    exact ⟨k, List.mem_range.mp hk, e⟩
  let at_ : Int → Int := fun v => if h : v ∈ uq ((List.range n).map fun i : Nat => F (i : Int)) then ((hat v h).choose : Int) else 0
  have hat2 : ∀ v ∈ uq ((List.range n).map fun i : Nat => F (i : Int)), 0 ≤ at_ v ∧ at_ v < (n : Int) ∧ F (at_ v) = v := fun v hv => by
    have e : at_ v = ((hat v hv).choose : Int) := dif_pos hv
    have := (hat v hv).choose_spec
    rw [e]
    exact ⟨by omega, by omega, this.2⟩
  have hin : ∀ k : Int, 0 ≤ k → k < (n : Int) → F k ∈ uq ((List.range n).map fun i : Nat => F (i : Int)) := fun k h0 h1 => mem_uq.mpr (List.mem_map.mpr ⟨k.toNat, List.mem_range.mpr (by omega), by rw [show ((k.toNat : Nat) : Int) = k by omega]⟩)
  have nd : ((uq ((List.range n).map fun i : Nat => F (i : Int))).map fun v => K (at_ v)).Nodup := by
    refine nodup_cover (S := uq ((List.range n).map fun i : Nat => K (i : Int))) uq_nd (fun x hx => ?_) (by rw [List.length_map]; exact hl)
    obtain ⟨k, hk, rfl⟩ := List.mem_map.mp (mem_uq.mp hx)
    have hk := List.mem_range.mp hk
    have h1 := hin (k : Int) (by omega) (by omega)
    have h2 := hat2 _ h1
    exact List.mem_map.mpr ⟨F (k : Int), h1, hr _ _ h2.1 h2.2.1 (by omega) (by omega) h2.2.2⟩
  have inj : ∀ u ∈ uq ((List.range n).map fun i : Nat => F (i : Int)), ∀ v ∈ uq ((List.range n).map fun i : Nat => F (i : Int)), K (at_ u) = K (at_ v) → u = v := by
    intro u hu v hv e
    obtain ⟨a, ha, rfl⟩ := List.mem_iff_getElem.mp hu
    obtain ⟨b, hb, rfl⟩ := List.mem_iff_getElem.mp hv
    have nd' := List.pairwise_map.mp nd
    rcases Nat.lt_trichotomy a b with h | h | h
    · exact absurd e (List.pairwise_iff_getElem.mp nd' a b ha hb h)
    · subst h; rfl
    · exact absurd e.symm (List.pairwise_iff_getElem.mp nd' b a hb ha h)
  have u1 := hin i hi hi'
  have u2 := hin j hj hj'
  have a1 := hat2 _ u1
  have a2 := hat2 _ u2
  refine inj _ u1 _ u2 ?_
  rw [hr _ _ a1.1 a1.2.1 hi hi' a1.2.2, hr _ _ a2.1 a2.2.1 hj hj' a2.2.2, e]
def Akin (f : α → Int → α) (m : Nat) (tel : α → γ) (x y : α) : Prop := ∀ r, RowIn m r → tel (r.foldl f x) = tel (r.foldl f y)
variable {tel : α → γ} {tel' : β → γ}
theorem Akin.refl (x : α) : Akin f m tel x x := fun _ _ => rfl
theorem Akin.symm (h : Akin f m tel x y) : Akin f m tel y x := fun r hr => (h r hr).symm
theorem Akin.trans (h : Akin f m tel x y) (k : Akin f m tel y z) : Akin f m tel x z := fun r hr => (h r hr).trans (k r hr)
theorem Akin.step (h : Akin f m tel x y) (h0 : 0 ≤ w) (h1 : w < (m : Int)) : Akin f m tel (f x w) (f y w) := fun r hr => h (w :: r) fun z hz => (List.mem_cons.mp hz).elim (fun e => e ▸ ⟨h0, h1⟩) (hr z)
theorem akin_of {E : α → α → Prop} (h0 : ∀ x y, E x y → tel x = tel y) (h1 : ∀ x y w, E x y → 0 ≤ w → w < (m : Int) → E (f x w) (f y w)) (h : E x y) : Akin f m tel x y := fun r hr => by
  have : ∀ (r : List Int) (x y : α), RowIn m r → E x y → E (r.foldl f x) (r.foldl f y) := by
    intro r
    induction r with
    | nil => exact fun _ _ _ h => h
    | cons w r ih => exact fun x y hr h => ih _ _ (fun z hz => hr z (List.mem_cons_of_mem _ hz)) (h1 x y w h (hr w List.mem_cons_self).1 (hr w List.mem_cons_self).2)
  exact h0 _ _ (this r x y hr h)
end
end Pu
set_option Elab.async false
set_option linter.all false
set_option maxRecDepth 100000
set_option synthInstance.maxHeartbeats 0
set_option synthInstance.maxSize 100000
namespace Pu
open PySem PySem.Spec PyProof.Rows L2
section
variable {α β : Type} [DecidableEq α] {Q : D → Prop} {ee : α → D} {kk : α → NestedKey} {v : β → D} {x y : α} {r : β} {L G F : List (α × β)} {env : PEnv} {E : PEnds} {b : XG} {body : XS} {kds : List (D × D)} {dd d : D} {R : List D → Prop}
structure KeyE (ee : α → D) (kk : α → NestedKey) : Prop where
  nk : ∀ x, (ee x).nk = some (kk x)
  dep : ∀ x, (kk x).depth ≤ 8
  inj : ∀ x y, kk x = kk y → x = y
  imm : ∀ x, (ee x).imm = true
def eNL (ee : α → D) (v : β → D) (L : List (α × β)) : List (D × D) := L.map fun p => (ee p.1, v p.2)
theorem eN_len : (eNL ee v L).length = L.length := by unfold eNL; rw [List.length_map]
theorem eN_imm (hv : ∀ z, (v z).imm = true) : immL ((eNL ee v L).map (·.2)) = true := by
  induction L with
  | nil => rfl
  | cons p L ih =>
    show (D.imm (v p.2) && immL ((eNL ee v L).map (·.2))) = true
    rw [hv, ih]; rfl
theorem KeyE.nd (K : KeyE ee kk) (h : (L.map (·.1)).Nodup) : ((eNL ee v L).map fun p => p.1.nk).Nodup := by
  unfold eNL
  rw [List.map_map, List.Nodup, List.pairwise_map]
  refine (List.pairwise_map.mp h).imp fun {a b} n e => n ?_
  have e : (ee a.1).nk = (ee b.1).nk := e
  rw [K.nk, K.nk] at e
  exact K.inj _ _ (Option.some.inj e)
theorem KeyE.look_none (K : KeyE ee kk) (h : x ∉ L.map (·.1)) : lookN (eNL ee v L) (kk x) = none := by
  unfold lookN
  rw [List.find?_eq_none.mpr ?_]
  · rfl
  · intro p hp e
    obtain ⟨q, hq, rfl⟩ := List.mem_map.mp hp
    have e : (ee q.1).nk = some (kk x) := of_decide_eq_true e
    rw [K.nk] at e
    exact h (List.mem_map.mpr ⟨q, hq, K.inj _ _ (Option.some.inj e)⟩)
theorem KeyE.look_some (K : KeyE ee kk) : ∀ {L : List (α × β)}, (L.map (·.1)).Nodup → (x, r) ∈ L → lookN (eNL ee v L) (kk x) = some (v r)
  | [], _, h => nomatch h
  | p :: L, nd, h => by
    have nd := List.nodup_cons.mp nd
    unfold lookN eNL
    rw [List.map_cons]
    by_cases e : p.1 = x
    · rw [List.find?_cons_of_pos (by show decide ((ee p.1).nk = some (kk x)) = true; rw [e, K.nk]; simp)]
      rcases List.mem_cons.mp h with h | h
      · rw [← h]; rfl
      · exact absurd (List.mem_map.mpr ⟨_, h, rfl⟩) (by rw [← e] at *; exact nd.1)
    · rw [List.find?_cons_of_neg (by show ¬ decide ((ee p.1).nk = some (kk x)) = true; rw [K.nk]; exact fun z => e (K.inj _ _ (Option.some.inj (of_decide_eq_true z))))]
      rcases List.mem_cons.mp h with h | h
      · rw [← h] at e; exact absurd rfl e
      · exact look_some K nd.2 h
theorem KeyE.put_new (K : KeyE ee kk) (h : x ∉ L.map (·.1)) : putN (eNL ee v L) (kk x) (ee x) (v r) = eNL ee v (L ++ [(x, r)]) := by
  unfold putN
  rw [K.look_none h, if_neg (by simp)]
  unfold eNL
  rw [List.map_append]; rfl
theorem KeyE.put_old (K : KeyE ee kk) (nd : (L.map (·.1)).Nodup) (h : (x, r) ∈ L) : putN (eNL ee v L) (kk x) (ee x) (v r) = eNL ee v L := by
  unfold putN
  rw [K.look_some nd h, if_pos (show (some (v r)).isSome = true from rfl)]
  conv => rhs; rw [← List.map_id (eNL ee v L)]
  refine List.map_congr_left fun p hp => ?_
  obtain ⟨q, hq, rfl⟩ := List.mem_map.mp hp
  show (if (ee q.1).nk = some (kk x) then (ee q.1, v r) else (ee q.1, v q.2)) = (ee q.1, v q.2)
  split
  · rename_i e
    rw [K.nk] at e
    have e := K.inj _ _ (Option.some.inj e)
    have h1 := K.look_some (v := v) nd h
    have h2 := K.look_some (v := v) nd (show (q.1, q.2) ∈ _ from hq)
    rw [e, h1] at h2
    rw [Option.some.inj h2]
  · rfl
theorem KeyE.is_some (K : KeyE ee kk) : (lookN (eNL ee v L) (kk x)).isSome = decide (x ∈ L.map (·.1)) := by
  rw [Bool.eq_iff_iff, decide_eq_true_iff]
  unfold lookN
  rw [Option.isSome_map, List.find?_isSome]
  constructor
  · rintro ⟨p, hp, e⟩
    obtain ⟨q, hq, rfl⟩ := List.mem_map.mp hp
    have e : (ee q.1).nk = some (kk x) := of_decide_eq_true e
    rw [K.nk] at e
    exact List.mem_map.mpr ⟨q, hq, K.inj _ _ (Option.some.inj e)⟩
  · intro h
    obtain ⟨q, hq, e⟩ := List.mem_map.mp h
    exact ⟨_, List.mem_map.mpr ⟨q, hq, rfl⟩, decide_eq_true (by show (ee q.1).nk = _; rw [e, K.nk])⟩
theorem KeyE.in_ev (K : KeyE ee kk) {neg : Bool} (hd : d.nv = some (eNL ee v L)) (q : Q (.bl (xor neg (decide (x ∈ L.map (·.1)))))) : oInN neg (ee x) d Q := by
  unfold oInN
  rw [hd, K.nk]
  refine ⟨K.dep x, ?_⟩
  show Q (.bl (xor neg (lookN (eNL ee v L) (kk x)).isSome))
  rw [K.is_some]
  exact q
theorem nv_eN {L : List (α × β)} : (mkN (eNL ee v L)).nv = some (eNL ee v L) := nv_mkN _
theorem put_ne {k : NestedKey} {z w : D} {kds : List (D × D)} : mkN (putN kds k z w) = .dN (putN kds k z w) := by
  cases h : putN kds k z w with
  | nil =>
    unfold putN at h
    split at h
    · rename_i hs
      cases kds with
      | nil => cases hs
      | cons a b => cases h
    · exact absurd h (by simp)
  | cons a b => rfl
theorem KeyE.set_ev (K : KeyE ee kk) (hd : d.nv = some (eNL ee v L)) (nd : (L.map (·.1)).Nodup) (hl : L.length < 100000) (h : x ∉ L.map (·.1) ∨ (x, r) ∈ L) (q : Q (mkN (eNL ee v (if x ∈ L.map (·.1) then L else L ++ [(x, r)])))) : setDN d (ee x) (v r) Q := by
  have hs : 1000000 ≤ sizeLine := by decide
  unfold setDN
  rw [hd, K.nk]
  refine ⟨⟨K.dep x, by rw [eN_len]; omega, K.nd nd⟩, ?_⟩
  show Q (.dN (putN (eNL ee v L) (kk x) (ee x) (v r)))
  rw [← put_ne]
  by_cases hx : x ∈ L.map (·.1)
  · rw [if_pos hx] at q
    rw [K.put_old nd (h.resolve_left fun z => z hx)]
    exact q
  · rw [if_neg hx] at q
    rw [K.put_new hx]
    exact q
theorem y_forN {i : Nat} {sel : List (D × D) → List D} (h : env[i]? = some (some d)) (hn : d.nv = some kds) (hm : immL (kds.map (·.2)) = true)
    (q : sLoop b body (sel kds) { nx := fun e => E.nx (e.set i (some d)), rt := E.rt, bk := fun _ => False, ct := fun _ => False } env) : sForN sel i b body E env := ⟨d, kds, h, hn, hm, q⟩
theorem w_ng2 {m n p : X1} : xNGet2 m n p env Q = m env fun d => d.nv.isSome = true ∧ n env fun e => p env fun z => getN2 d e z Q := (rfl)
end
end Pu
set_option Elab.async false
set_option linter.all false
set_option maxRecDepth 100000
set_option synthInstance.maxHeartbeats 0
set_option synthInstance.maxSize 100000
namespace Pu
open PySem PySem.Spec PyProof.Rows L2
section
variable {α β : Type} [DecidableEq α] {Q : D → Prop} {ee : α → D} {kk : α → NestedKey} {v : β → D} {x y x0 : α} {f : α → Int → α} {m d nb : Nat} {L G F : List (α × List Int)} {F' : List (α × β)} {env : PEnv} {E : PEnds} {tb : FTab} {dc : List D} {P : α → Prop} {dL dF : D}
theorem w_dn1 {m n : X1} : xDispN1 m n env Q = m env fun e => n env fun z => dispN1 e z Q := (rfl)
end
end Pu
set_option Elab.async false
set_option linter.all false
set_option maxRecDepth 100000
set_option synthInstance.maxHeartbeats 0
set_option synthInstance.maxSize 100000
namespace Pu
open PySem PySem.Spec PyProof.Rows L2
section
variable {α β : Type} [DecidableEq α] {Q : D → Prop} {ee : α → D} {kk : α → NestedKey} {x y x0 : α} {f : α → Int → α} {tel : α → Int} {m d nb nt nl : Nat} {L G F : List (α × List Int)} {env : PEnv} {E : PEnds} {tb : FTab} {dc dt dl : List D} {P : α → Prop} {n : Int} {ws st : List (List Int)} {tl : List Int}
end
end Pu
set_option Elab.async false
set_option linter.all false
set_option maxRecDepth 100000
set_option synthInstance.maxHeartbeats 0
set_option synthInstance.maxSize 100000
namespace Pu
open PySem PySem.Spec PyProof.Rows L2
section
variable {α β : Type} [DecidableEq α] {Q : D → Prop} {ee : α → D} {kk : α → NestedKey} {x y x0 : α} {f : α → Int → α} {tel : α → Int} {m d nb nt nl : Nat} {L G F : List (α × List Int)} {env : PEnv} {E : PEnds} {tb : FTab} {dc dt dl : List D} {P : α → Prop} {n : Int} {ws st : List (List Int)} {tl : List Int}
def stepsL (f : α → Int → α) (m : Nat) (L : List (α × List Int)) : List (List Int) := L.map fun p => (List.range m).map fun w : Nat => (((L.map (·.1)).idxOf (f p.1 (w : Int)) : Nat) : Int)
end
end Pu
set_option Elab.async false
set_option linter.all false
set_option maxRecDepth 100000
set_option synthInstance.maxHeartbeats 0
set_option synthInstance.maxSize 100000
namespace Pu
open PySem PySem.Spec PyProof.Rows L2
section
variable {Q : D → Prop} {i j x y : Int} {m n0 : Nat} {env : PEnv} {E : PEnds} {n : Int} {ws st : List (List Int)} {tl K F T r : List Int}
def stF (st : List (List Int)) (s w : Int) : Int := (W st s).getD w.toNat 0
def tlF (T : List Int) (s : Int) : Int := T.getD s.toNat 0
structure SplitOk (st : List (List Int)) (m : Nat) (K F : List Int) : Prop where
  len : F.length = K.length
  fin : ∀ i j : Int, 0 ≤ i → i < (K.length : Int) → 0 ≤ j → j < (K.length : Int) → (tlF F i = tlF F j ↔ tlF K i = tlF K j ∧ ∀ w : Int, 0 ≤ w → w < (m : Int) → tlF K (stF st i w) = tlF K (stF st j w))
theorem row_len' (hst : StOk m st) (h0 : 0 ≤ x) (h1 : x < (st.length : Int)) : (W st x).length = m ∧ ∀ y ∈ W st x, 0 ≤ y ∧ y < (st.length : Int) := by
  unfold W
  rw [List.getD_eq_getElem?_getD, List.getElem?_eq_getElem (show x.toNat < st.length by omega)]
  exact hst.2 _ (List.getElem_mem _)
end
end Pu
set_option Elab.async false
set_option linter.all false
set_option maxRecDepth 100000
set_option synthInstance.maxHeartbeats 0
set_option synthInstance.maxSize 100000
namespace Pu
open PySem PySem.Spec PyProof.Rows L2
section
variable {Q : D → Prop} {i j x y : Int} {m n0 : Nat} {env : PEnv} {E : PEnds} {n : Int} {ws st : List (List Int)} {tl K F T r : List Int}
structure KOk (st : List (List Int)) (m : Nat) (T K : List Int) : Prop where
  len : K.length = st.length
  out : ∀ i j : Int, 0 ≤ i → i < (st.length : Int) → 0 ≤ j → j < (st.length : Int) → Akin (stF st) m (tlF T) i j → tlF K i = tlF K j
  tel : ∀ i j : Int, 0 ≤ i → i < (st.length : Int) → 0 ≤ j → j < (st.length : Int) → tlF K i = tlF K j → tlF T i = tlF T j
theorem st_in48 (hst : StOk m st) (h0 : 0 ≤ i) (h1 : i < (st.length : Int)) {w : Int} (w0 : 0 ≤ w) (w1 : w < (m : Int)) : 0 ≤ stF st i w ∧ stF st i w < (st.length : Int) := by
  obtain ⟨r1, r2⟩ := row_len' (x := i) hst h0 h1
  unfold stF
  rw [List.getD_eq_getElem?_getD, List.getElem?_eq_getElem (show w.toNat < (W st i).length by omega)]
  exact r2 _ (List.getElem_mem _)
theorem KOk.next (hst : StOk m st) (h : KOk st m T K) (s : SplitOk st m K F) : KOk st m T F := by
  have lk := h.len
  refine ⟨by rw [s.len, h.len], fun i j i0 i1 j0 j1 a => ?_, fun i j i0 i1 j0 j1 e => ?_⟩
  · exact (s.fin i j i0 (by omega) j0 (by omega)).mpr ⟨h.out i j i0 i1 j0 j1 a, fun w w0 w1 => by
      have a1 := st_in48 hst i0 i1 w0 w1
      have a2 := st_in48 hst j0 j1 w0 w1
      exact h.out _ _ a1.1 a1.2 a2.1 a2.2 (a.step w0 w1)⟩
  · exact h.tel i j i0 i1 j0 j1 ((s.fin i j i0 (by omega) j0 (by omega)).mp e).1
theorem range_tlF : ∀ {F : List Int} {k : Nat}, F.length = k → (List.range k).map (fun i : Nat => tlF F (i : Int)) = F := by
  intro F k h
  apply List.ext_getElem?
  intro a
  rw [List.getElem?_map]
  by_cases ha : a < k
  · rw [List.getElem?_range ha, Option.map_some]
    unfold tlF
    rw [List.getD_eq_getElem?_getD, Int.toNat_natCast, List.getElem?_eq_getElem (show a < F.length by omega)]; rfl
  · rw [List.getElem?_eq_none (by simpa using ha), List.getElem?_eq_none (by omega)]; rfl
theorem KOk.done (hst : StOk m st) (h : KOk st m T K) (s : SplitOk st m K F) (hl : (uq F).length ≤ (uq K).length) (i0 : 0 ≤ i) (i1 : i < (st.length : Int)) (j0 : 0 ≤ j) (j1 : j < (st.length : Int)) : tlF K i = tlF K j ↔ Akin (stF st) m (tlF T) i j := by
  have lk := h.len
  refine ⟨fun e => ?_, h.out i j i0 i1 j0 j1⟩
  have fs := finer_same (K := tlF K) (F := tlF F) (n := st.length) (fun i j i0 i1 j0 j1 e => ((s.fin i j i0 (by omega) j0 (by omega)).mp e).1)
    (by rw [range_tlF (s.len.trans lk), range_tlF lk]; exact hl)
  refine akin_of (E := fun x y => (0 ≤ x ∧ x < (st.length : Int)) ∧ (0 ≤ y ∧ y < (st.length : Int)) ∧ tlF K x = tlF K y) (fun x y ⟨a, b, e⟩ => h.tel x y a.1 a.2 b.1 b.2 e) (fun x y w ⟨a, b, e⟩ w0 w1 => ?_) ⟨⟨i0, i1⟩, ⟨j0, j1⟩, e⟩
  refine ⟨st_in48 hst a.1 a.2 w0 w1, st_in48 hst b.1 b.2 w0 w1, ?_⟩
  exact ((s.fin x y a.1 (by omega) b.1 (by omega)).mp (fs x y a.1 a.2 b.1 b.2 e)).2 w w0 w1
structure KFin (st : List (List Int)) (m : Nat) (T K : List Int) : Prop where
  len : K.length = st.length
  iff : ∀ i j : Int, 0 ≤ i → i < (st.length : Int) → 0 ≤ j → j < (st.length : Int) → (tlF K i = tlF K j ↔ Akin (stF st) m (tlF T) i j)
end
end Pu
set_option Elab.async false
set_option linter.all false
set_option maxRecDepth 100000
set_option synthInstance.maxHeartbeats 0
set_option synthInstance.maxSize 100000
namespace Pu
open PySem PySem.Spec PyProof.Rows L2
section
variable {Q : D → Prop} {i j x y : Int} {m n0 : Nat} {env : PEnv} {E : PEnds} {n : Int} {ws st : List (List Int)} {tl K F T r : List Int} {acc : List (Key × D)} {J : List Int} {G : Int → D}
theorem keyI : KeyE D.int NestedKey.num where
  nk := fun x => by simp [D.nk]
  dep := fun x => by simp [NestedKey.depth]
  inj := fun x y h => by injection h
  imm := fun x => rfl
structure Least (st : List (List Int)) (m : Nat) (T T' : List Int) (st' : List (List Int)) (φ : Int → Int) (g : Int → Int → Int) (t : Int → Int) (L : List (Int × List Int)) : Prop where
  iff : ∀ i j : Int, 0 ≤ i → i < (st.length : Int) → 0 ≤ j → j < (st.length : Int) → (φ i = φ j ↔ Akin (stF st) m (tlF T) i j)
  hom : ∀ i w : Int, 0 ≤ i → i < (st.length : Int) → 0 ≤ w → w < (m : Int) → φ (stF st i w) = g (φ i) w
  tel : ∀ i : Int, 0 ≤ i → i < (st.length : Int) → t (φ i) = tlF T i
  bfs : Bfs g m (φ 0) L
  le : L.length ≤ st.length
  eT : T' = L.map fun p => t p.1
  eS : st' = stepsL g m L
end
end Pu
set_option Elab.async false
set_option linter.all false
set_option maxRecDepth 100000
set_option synthInstance.maxHeartbeats 0
set_option synthInstance.maxSize 100000
namespace Pu
open PySem PySem.Spec PyProof.Rows L2
section
variable {Q : D → Prop} {n x y s a b w k e d i j : Int} {m : Nat} {ws st : List (List Int)} {S v u g l lot : List Int} {dd : D}
def putF : List Int → List Int → Int
  | z :: S, x :: v => putF S v * z + x
  | _, _ => 0
def prdF (S : List Int) : Int := S.foldl (fun a z => a * z) 1
def Dig : List Int → List Int → Prop
  | [], [] => True
  | z :: S, x :: v => (0 ≤ x ∧ x < z) ∧ Dig S v
  | _, _ => False
theorem Dig.len : ∀ {S v : List Int}, Dig S v → v.length = S.length
  | [], [], _ => rfl
  | z :: S, x :: v, h => by rw [List.length_cons, List.length_cons, Dig.len h.2]
  | [], _ :: _, h => h.elim
  | _ :: _, [], h => h.elim
end
end Pu
set_option Elab.async false
set_option linter.all false
set_option maxRecDepth 100000
set_option synthInstance.maxHeartbeats 0
set_option synthInstance.maxSize 100000
namespace Pu
open PySem PySem.Spec PyProof.Rows L2
section
variable {Q : D → Prop} {n x y s a b w k e d i j z most : Int} {m : Nat} {ws st : List (List Int)} {S v u g l lot : List Int} {dd : D}
structure TBOk (TB : List (List (List Int))) (S : List Int) (m : Nat) : Prop where
  len : TB.length = m
  row : ∀ t ∈ TB, (t.length : Int) = prdF S ∧ ∀ g ∈ t, Dig S g
end
end Pu
set_option Elab.async false
set_option linter.all false
set_option maxRecDepth 100000
set_option synthInstance.maxHeartbeats 0
set_option synthInstance.maxSize 100000
namespace Pu
open PySem PySem.Spec PyProof.Rows L2
section
variable {Q : D → Prop} {n x y s a b w k e d i j z most : Int} {m : Nat} {ws st : List (List Int)} {S v u g l lot : List Int} {dd : D}
theorem ixL_some {xs : List D} {x : Int} {d : D} {K : D → Prop} (h0 : 0 ≤ x) (h : xs[x.toNat]? = some d) (q : K d) : oIx (.lst xs) (.int x) K := atD_some h0 h q
theorem slL_hi {K : D → Prop} (h0 : 0 ≤ z) (q : K (.lst (dInts (l.take z.toNat)))) : slcQ (.lst (dInts l)) none (some z) K := by
  obtain ⟨k, rfl⟩ := Int.eq_ofNat_of_zero_le h0
  exact ⟨immL_dInts l, by rw [cut_take, dInts_take]; exact q⟩
theorem en_ws : ∀ (ws : List (List Int)) (k : Nat), enD k (rowsD ws) = (List.range ws.length).map fun j => D.tup [.int ((k + j : Nat) : Int), rD (ws.getD j [])]
  | [], k => rfl
  | l :: ws, k => by
    show D.tup [.int (k : Nat), rD l] :: enD (k + 1) (rowsD ws) = _
    rw [en_ws ws (k + 1), List.length_cons, List.range_succ_eq_map, List.map_cons, List.map_map]
    congr 1
    refine List.map_congr_left fun j _ => ?_
    show D.tup [.int ((k + 1 + j : Nat) : Int), rD (ws.getD j [])] = D.tup [.int ((k + (j + 1) : Nat) : Int), rD ((l :: ws).getD (j + 1) [])]
    rw [show k + 1 + j = k + (j + 1) by omega, List.getD_cons_succ]
theorem en_ws0 : enD 0 (rowsD ws) = (rangeI (ws.length : Int)).map fun w => D.tup [.int w, rD (W ws w)] := by
  rw [en_ws ws 0]
  unfold rangeI W
  rw [List.map_map, Int.toNat_natCast]
  refine List.map_congr_left fun j _ => ?_
  show D.tup [.int ((0 + j : Nat) : Int), rD (ws.getD j [])] = D.tup [.int (j : Int), rD (ws.getD (j : Int).toNat [])]
  rw [Nat.zero_add, Int.toNat_natCast]
end
end Pu
set_option Elab.async false
set_option linter.all false
set_option maxRecDepth 100000
set_option synthInstance.maxHeartbeats 0
set_option synthInstance.maxSize 100000
namespace Pu
open PySem PySem.Spec PyProof.Rows L2
section
variable {Q : D → Prop} {n x y s a b w k e d i j z most : Int} {m : Nat} {M : Int} {ws st : List (List Int)} {S v u g l lot : List Int} {dd : D}
end
end Pu
set_option Elab.async false
set_option linter.all false
set_option maxRecDepth 100000
set_option synthInstance.maxHeartbeats 0
set_option synthInstance.maxSize 100000
namespace Pu
open PySem PySem.Spec PyProof.Rows L2
section
variable {α β : Type} [DecidableEq α] {Q : D → Prop} {ee : α → D} {kk : α → NestedKey} {v : β → D} {x y x0 : α} {f : α → Int → α} {m d nb : Nat} {L G F : List (α × List Int)} {F' : List (α × β)} {env : PEnv} {E : PEnds} {tb : FTab} {dc : List D} {P : α → Prop} {dL dF : D}
variable {lb : Int → Int}
end
end Pu
set_option Elab.async false
set_option linter.all false
set_option maxRecDepth 100000
set_option synthInstance.maxHeartbeats 0
set_option synthInstance.maxSize 100000
namespace Pu
open PySem PySem.Spec PyProof.Rows L2
section
variable {Q : D → Prop} {n x y s a b w k e d i j z most : Int} {m : Nat} {M : Int} {ws st : List (List Int)} {S v u g l lot wl R : List Int} {dd : D} {acc : List (Key × D)} {J : List Int} {F : Int → D} {env : PEnv}
def Rcw (st : List (List Int)) (wl : List Int) (s s' : Int) : Prop := ∃ r, (∀ w ∈ r, w ∈ wl) ∧ ledF st s r = s'
theorem Rcw.refl : Rcw st wl s s := ⟨[], fun _ h => (nomatch h), rfl⟩
theorem Rcw.step (h : Rcw st wl s a) (hw : w ∈ wl) : Rcw st wl s (ledF st a [w]) := by
  obtain ⟨r, h1, h2⟩ := h
  refine ⟨r ++ [w], fun y hy => ?_, ?_⟩
  · rcases List.mem_append.mp hy with z | z
    · exact h1 y z
    · rw [List.mem_singleton.mp z]; exact hw
  · rw [ledF_two, h2]
end
end Pu
set_option Elab.async false
set_option linter.all false
set_option maxRecDepth 100000
set_option synthInstance.maxHeartbeats 0
set_option synthInstance.maxSize 100000
namespace Pu
open PySem PySem.Spec PyProof.Rows L2
section
variable {Q : D → Prop} {n x y s a b w k e d i j z most : Int} {m : Nat} {M : Int} {ws st : List (List Int)} {S v u g l lot wl R T A tl r ls : List Int} {dd : D} {acc : List (Key × D)} {J : List Int} {F : Int → D} {env : PEnv}
end
end Pu
set_option Elab.async false
set_option linter.all false
set_option maxRecDepth 100000
set_option synthInstance.maxHeartbeats 0
set_option synthInstance.maxSize 100000
namespace Pu
open PySem PySem.Spec PyProof.Rows L2
section
variable {Q : D → Prop} {n x y s a b w k e d i j z most : Int} {m : Nat} {M : Int} {ws st : List (List Int)} {S v u g l lot wl R T A tl r ls : List Int} {dd : D} {acc : List (Key × D)} {J : List Int} {F : Int → D} {env : PEnv} {lb : Int → Int}
end
end Pu
set_option Elab.async false
set_option linter.all false
set_option maxRecDepth 100000
set_option synthInstance.maxHeartbeats 0
set_option synthInstance.maxSize 100000
namespace Pu
open PySem PySem.Spec PyProof.Rows L2
section
variable {Q : D → Prop} {n x y s a b w k e d i j z most : Int} {m : Nat} {M : Int} {ws st : List (List Int)} {S v u g l lot wl R T A B tl r ls o : List Int} {dd : D} {acc : List (Key × D)} {J : List Int} {F : Int → D} {env : PEnv} {lb : Int → Int}
end
end Pu
set_option Elab.async false
set_option linter.all false
set_option maxRecDepth 100000
set_option synthInstance.maxHeartbeats 0
set_option synthInstance.maxSize 100000
namespace Pu
open PySem PySem.Spec PyProof.Rows L2
section
variable {Q : D → Prop} {n x y s a b w k e d i j z most : Int} {m : Nat} {M : Int} {ws st : List (List Int)} {S v u g l lot wl R T A B tl r ls o : List Int} {dd : D} {acc : List (Key × D)} {J : List Int} {F : Int → D} {env : PEnv} {lb : Int → Int}
structure Giv (n : Int) (ws st : List (List Int)) (T r : List Int) : Prop where
  hW : WsOk n ws
  hw : InW ws r
  hl : r.length ≤ 100
  hst : StOk ws.length st
  ne : 1 ≤ st.length
  hev : Evn ws st
  lt : T.length = st.length
  ht : ∀ x ∈ T, 0 ≤ x ∧ x < 10
end
end Pu
set_option Elab.async false
set_option linter.all false
set_option maxRecDepth 100000
set_option synthInstance.maxHeartbeats 0
set_option synthInstance.maxSize 100000
namespace Pu
open PySem PySem.Spec PyProof.Rows L2
section
variable {Q : D → Prop} {n x y s a b w k e d i j z most : Int} {m : Nat} {M : Int} {ws st : List (List Int)} {S v u g l lot wl R T A B tl r ls o : List Int} {dd : D} {acc : List (Key × D)} {J : List Int} {F : Int → D} {env : PEnv} {lb : Int → Int}
end
end Pu
set_option Elab.async false
set_option linter.all false
set_option maxRecDepth 100000
set_option synthInstance.maxHeartbeats 0
set_option synthInstance.maxSize 100000
namespace Pu
open PySem PySem.Spec PyProof.Rows L2
section
variable {Q : D → Prop} {n x y s a b w k e d i j z most : Int} {m : Nat} {M : Int} {ws st : List (List Int)} {S v u g l lot wl R T A tl r ls : List Int} {dd : D} {acc : List (Key × D)} {J : List Int} {F : Int → D} {env : PEnv} {lb : Int → Int}
end
end Pu
set_option Elab.async false
set_option linter.all false
set_option maxRecDepth 100000
set_option synthInstance.maxHeartbeats 0
set_option synthInstance.maxSize 100000
namespace Pu
open PySem PySem.Spec PyProof.Rows L2
section
variable {Q : D → Prop} {n x y s a b w k e d i j z most : Int} {m : Nat} {M : Int} {ws st : List (List Int)} {S v u g l lot wl R T A B tl r ls o : List Int} {dd : D} {acc : List (Key × D)} {J : List Int} {F : Int → D} {env : PEnv} {lb : Int → Int}
end
end Pu
set_option Elab.async false
set_option linter.all false
set_option maxRecDepth 100000
set_option synthInstance.maxHeartbeats 0
set_option synthInstance.maxSize 100000
namespace Pu
open PySem PySem.Spec PyProof.Rows L2
section
variable {Q : D → Prop} {n x y s a b w k e d i j z most : Int} {m : Nat} {M : Int} {ws need need' teams L C P : List (List Int)} {S v u g l t lot row : List Int} {dd X : D} {env : PEnv}
def within (l t : List Int) : Bool := l.all t.contains
def cov (teams : List (List Int)) : Nat → List (List Int) → Option (List (List Int))
  | 0, need => if need = [] then some [] else none
  | k + 1, need => match need with
    | [] => some []
    | l :: _ => (teams.filter (within l)).findSome? fun t => (cov teams k (need.filter fun l => !within l t)).map (t :: ·)
theorem cov_nil : ∀ k, cov teams k [] = some []
  | 0 => rfl
  | _ + 1 => rfl
def Cvr (C need : List (List Int)) : Prop := ∀ l ∈ need, ∃ t ∈ C, within l t = true
theorem cov_sound : ∀ (k : Nat) {need L : List (List Int)}, cov teams k need = some L → Cvr L need ∧ (∀ t ∈ L, t ∈ teams) ∧ L.length ≤ k
  | 0, need, L, h => by
    unfold cov at h
    split at h
    · rename_i e; subst e
      cases h
      exact ⟨fun _ h => (nomatch h), fun _ h => (nomatch h), Nat.le_refl _⟩
    · cases h
  | k + 1, [], L, h => by
    cases h
    exact ⟨fun _ h => (nomatch h), fun _ h => (nomatch h), Nat.zero_le _⟩
  | k + 1, l :: need, L, h => by
    have h : (teams.filter (within l)).findSome? (fun t => (cov teams k ((l :: need).filter fun l => !within l t)).map (t :: ·)) = some L := h
    obtain ⟨t, ht, e⟩ := List.exists_of_findSome?_eq_some h
    obtain ⟨ht1, ht2⟩ := List.mem_filter.mp ht
    cases hc : cov teams k ((l :: need).filter fun l => !within l t) with
    | none => rw [hc] at e; cases e
    | some L' =>
      rw [hc] at e
      cases e
      obtain ⟨h1, h2, h3⟩ := cov_sound k hc
      refine ⟨fun x hx => ?_, fun y hy => ?_, by simp; omega⟩
      · cases hw : within x t with
        | true => exact ⟨t, List.mem_cons_self, hw⟩
        | false =>
          obtain ⟨y, hy, hy2⟩ := h1 x (List.mem_filter.mpr ⟨hx, by rw [hw]; rfl⟩)
          exact ⟨y, List.mem_cons_of_mem _ hy, hy2⟩
      · rcases List.mem_cons.mp hy with e | hy
        · rw [e]; exact ht1
        · exact h2 y hy
theorem cov_complete : ∀ (k : Nat) {need C : List (List Int)}, Cvr C need → (∀ t ∈ C, t ∈ teams) → C.length ≤ k → cov teams k need ≠ none
  | 0, need, C, h, _, hl => by
    have : C = [] := List.eq_nil_of_length_eq_zero (by omega)
    subst this
    cases need with
    | nil => exact fun z => by cases z
    | cons l need => obtain ⟨t, ht, _⟩ := h l List.mem_cons_self; cases ht
  | k + 1, [], C, _, _, _ => fun z => by cases z
  | k + 1, l :: need, C, h, hC, hl => fun z => by
    have z : (teams.filter (within l)).findSome? (fun t => (cov teams k ((l :: need).filter fun l => !within l t)).map (t :: ·)) = none := z
    rw [List.findSome?_eq_none_iff] at z
    obtain ⟨t, ht, hw⟩ := h l List.mem_cons_self
    have z1 := z t (List.mem_filter.mpr ⟨hC t ht, hw⟩)
    refine cov_complete k (need := (l :: need).filter fun l => !within l t) (C := C.erase t) (fun x hx => ?_) (fun y hy => hC y (List.mem_of_mem_erase hy)) (by rw [List.length_erase_of_mem ht]; have := List.length_pos_of_mem ht; omega) (by
      cases hc : cov teams k ((l :: need).filter fun l => !within l t) with
      | none => rfl
      | some L => rw [hc] at z1; cases z1)
    obtain ⟨hx1, hx2⟩ := List.mem_filter.mp hx
    obtain ⟨y, hy, hy2⟩ := h x hx1
    refine ⟨y, (List.mem_erase_of_ne fun e => ?_).mpr hy, hy2⟩
    subst e
    rw [hy2] at hx2; cases hx2
def few (teams need : List (List Int)) : Nat → Nat → List (List Int)
  | 0, _ => []
  | f + 1, j => match cov teams j need with
    | some L => L
    | none => few teams need f (j + 1)
def optW : Option (List (List Int)) → D
  | none => .non
  | some L => .lst (rowsD L)
local macro_rules
  | `(tactic| and_intros) => `(tactic| (try simp only [Zaa, Zab, w_c, Zac, Zad, Zae, Zaf, Zag, Zah, Zai, Zaj, Zak, Zal, Zam, Zan, Zao, Zap, Zaq, Zar, Zas, Zat, Zau, Zav, Zaw, Zax, Zay, Zaz, ZaA, ZaB, ZaC, ZaD, ZaE, ZaF, ZaG, ZaH, ZaI, ZaJ, ZaK, ZaL, ZaM, ZaN, ZaO, ZaP, ZaQ, ZaR, ZaS, ZaT, ZaU, ZaV, ZaW, ZaX, ZaY, ZaZ, Za0, Za1, Za2, Za3, Za4, Za5, Za6, Za7, Za8, Za9, Zba, Zbb, Zbc, Zbd, Zbe, Zbf, Zbg, Zbh, Zbi, Zbj, Zbk, Zbl, Zbm, Zbn, Zbo, Zbp, Zbq, Zbr, Zbs, Zbt, Zbu, Zbv, Zbw, Zbx, Zby, Zbz, ZbA, List.length_cons, List.length_nil, Nat.reduceAdd, Nat.zero_add, ZbB, ZbC, ZbD, ZbE, y_W, ZbF, ZbG, ZbH, ZbI, ZbJ, ZbK, ZbL, ZbM, ZbN, ZbO, ZbP, ZbQ, ZbR, ZbS, sb1, sb2, sb3, sb4, sb5, sb6, sb7, sb8, sb9, ZbT, ZbU, ZbV, ZbW, ZbX, ZbY, ZbZ, Zb0, Zb1, Zb2, Zb3, Zb4, Zb5, Zb6, Zb7, List.map_id, id_eq, BEq.rfl, bne_self_eq_false, Zb8, Zb9, Zca, Zcb, Zcc, Zcd, Zce, Zcf, Zcg, Zch, Zci, Zcj, Zck, Zcl, Zcm, Zcn, Zco, Zcp, Zcq, Zcr, Zcs, Zct, Zcu, Zcv, Zcw, Zcx, Zcy, Zcz, ZcA, ZcB, ZcC, ZcD, true_and, and_true, Bool.and_self, Bool.and_true, Bool.true_and, Bool.not_true, Bool.not_false, Bool.false_eq_true, if_false, if_true, ite_true, ite_false, decide_true, decide_false, reduceIte, s_seqR, s_seqL, Zbb, w_make]))
local macro_rules
  | `(tactic| array_get_dec) => `(tactic| (simp only [env0, List.map_cons, List.map_nil, List.length_cons, List.length_nil, List.replicate_succ, List.replicate_zero, List.cons_append, List.nil_append, Nat.reduceSub, Nat.reduceAdd, Nat.zero_add, Zaa, Zab, w_c, Zac, Zad, Zae, Zaf, Zag, Zah, Zai, Zaj, Zak, Zal, Zam, Zan, Zao, Zap, Zaq, Zar, Zas, Zat, Zau, Zav, Zaw, Zax, Zay, Zaz, ZaA, ZaB, ZaC, ZaD, ZaE, ZaF, ZaG, ZaH, ZaI, ZaJ, ZaK, ZaL, ZaM, ZaN, ZaO, ZaP, ZaQ, ZaR, ZaS, ZaT, ZaU, ZaV, ZaW, ZaX, ZaY, ZaZ, Za0, Za1, Za2, Za3, Za4, Za5, Za6, Za7, Za8, Za9, Zba, Zbb, Zbc, Zbd, Zbe, Zbf, Zbg, Zbh, Zbi, Zbj, Zbk, Zbl, Zbm, Zbn, Zbo, Zbp, Zbq, Zbr, Zbs, Zbt, Zbu, Zbv, Zbw, Zbx, Zby, Zbz, ZbA, List.length_cons, List.length_nil, Nat.reduceAdd, Nat.zero_add, ZbB, ZbC, ZbD, ZbE, y_W, ZbF, ZbG, ZbH, ZbI, ZbJ, ZbK, ZbL, ZbM, ZbN, ZbO, ZbP, ZbQ, ZbR, ZbS, sb1, sb2, sb3, sb4, sb5, sb6, sb7, sb8, sb9, ZbT, ZbU, ZbV, ZbW, ZbX, ZbY, ZbZ, Zb0, Zb1, Zb2, Zb3, Zb4, Zb5, Zb6, Zb7, List.map_id, id_eq, BEq.rfl, bne_self_eq_false, Zb8, Zb9, Zca, Zcb, Zcc, Zcd, Zce, Zcf, Zcg, Zch, Zci, Zcj, Zck, Zcl, Zcm, Zcn, Zco, Zcp, Zcq, Zcr, Zcs, Zct, Zcu, Zcv, Zcw, Zcx, Zcy, Zcz, ZcA, ZcB, ZcC, ZcD, true_and, and_true, Bool.and_self, Bool.and_true, Bool.true_and, Bool.not_true, Bool.not_false, Bool.false_eq_true, if_false, if_true, ite_true, ite_false, decide_true, decide_false, reduceIte, s_seqR, s_seqL, Zbb, w_make]))
theorem within49_ev (hl : l.length ≤ 100) : FEv m_is_within_team [rD l, rD t] (.bl (within l t)) := fun Q q => by
  have hs : 100000 ≤ sizeLine := by decide
  unfold m_is_within_team fnM b_is_within_team
  array_get_dec
  refine lc_M (e := D.int) (fun x => t.contains x) D.bl (by omega) (fun x hx R hR => ?_) ?_
  · and_intros
    exact hR
  rw [ZcC, List.all_map]
  exact q
theorem find_mid {p : List Int → Bool} {F : List Int → Option (List (List Int))} {u z T : List (List Int)} {t : List Int} {L : List (List Int)} (eu : u ++ t :: z = T) (hu : ∀ y ∈ u, p y = true → F y = none) (ht : p t = true) (hF : F t = some L) : (T.filter p).findSome? F = some L := by
  rw [← eu, List.filter_append, List.findSome?_append, List.filter_cons, if_pos ht, List.findSome?_cons, hF]
  have e : (u.filter p).findSome? F = none := by
    rw [List.findSome?_eq_none_iff]
    intro y hy
    obtain ⟨h1, h2⟩ := List.mem_filter.mp hy
    exact hu y h1 h2
  rw [e]; rfl
theorem covered_ev (hT : teams.length ≤ 64) : ∀ (k n' : Nat) {need : List (List Int)}, k + 1 ≤ n' → k ≤ 100 → need.length ≤ 1000 → (∀ l ∈ need, l.length ≤ 100) → FEv (m_covered_n n') [.lst (rowsD need), .lst (rowsD teams), .int (k : Int)] (optW (cov teams k need))
  | k, 0, need, h, _, _, _ => by omega
  | k, n' + 1, need, h, hk, hn, hl => fun Q q => by
    have hs : 100000 ≤ sizeLine := by decide
    haveI : MF (m_covered_n n') := ⟨mo_covered_n n'⟩
    unfold m_covered_n fnM b_covered
    array_get_dec
    cases need with
    | nil =>
      rw [cov_nil] at q
      and_intros
      rw [if_pos (by rfl)]
      exact ⟨by omega, q⟩
    | cons l need =>
      and_intros
      cases k with
      | zero =>
        have e : cov teams 0 (l :: need) = none := if_neg (by simp)
        rw [e] at q
        and_intros
        rw [if_neg (by simp; omega), if_pos (by rfl)]
        exact q
      | succ k =>
        and_intros
        rw [if_neg (by simp; omega), if_neg (by simp; omega)]
        show sLoop _ _ (teams.map rD) _ _
        have ec : cov teams (k + 1) (l :: need) = (teams.filter (within l)).findSome? fun t => (cov teams k ((l :: need).filter fun l => !within l t)).map (t :: ·) := rfl
        refine loop_T (e := rD) (fun u z env => ∃ e3 e4 e5 e6, env = [some (.lst (rowsD (l :: need))), some (.lst (rowsD teams)), some (.int ((k + 1 : Nat) : Int)), e3, e4, e5, e6] ∧ ∀ t ∈ u, within l t = true → cov teams k ((l :: need).filter fun l => !within l t) = none) teams ⟨_, _, _, _, rfl, fun _ h => (nomatch h)⟩ ?_ ?_
        · rintro u t z env eu ⟨e3, e4, e5, e6, rfl, hu⟩
          and_intros
          refine ixL_some (x := 0) (d := rD l) (by decide) rfl ?_
          refine within49_ev (hl l List.mem_cons_self) _ ?_
          and_intros
          cases hw : within l t with
          | false =>
            rw [if_neg (by simp)]
            refine ⟨_, _, _, _, rfl, fun y hy hy2 => ?_⟩
            rcases List.mem_append.mp hy with k | k
            · exact hu y k hy2
            · rw [List.mem_singleton.mp k, hw] at hy2; cases hy2
          | true =>
            rw [if_pos rfl]
            show lcLoop _ _ _ _ ((l :: need).map rD) _ _
            refine lc_FT (e := rD) (fun l => !within l t) id rD (by omega) (fun x hx R N k1 k2 => ?_) ?_
            · and_intros
              refine within49_ev (hl x hx) _ ?_
              and_intros
              cases hx : within x t with
              | true => exact k2 (by rw [hx]; rfl)
              | false => exact k1 (by rw [hx]; rfl)
            rw [List.map_id]
            and_intros
            have fl := List.length_filter_le (fun l => !within l t) (l :: need)
            rw [show ((k + 1 : Nat) : Int) - 1 = (k : Int) by omega]
            show m_covered_n n' [.lst (rowsD ((l :: need).filter fun l => !within l t)), .lst (rowsD teams), .int (k : Int)] _
            refine covered_ev hT k n' (by omega) (by omega) (by omega) (fun y hy => hl y (List.mem_filter.mp hy).1) _ ?_
            cases hc : cov teams k ((l :: need).filter fun l => !within l t) with
            | none =>
              simp only [optW]
              and_intros
              refine ⟨_, _, _, _, rfl, fun y hy hy2 => ?_⟩
              rcases List.mem_append.mp hy with k | k
              · exact hu y k hy2
              · rw [List.mem_singleton.mp k]; exact hc
            | some L =>
              simp only [optW]
              and_intros
              have e : cov teams (k + 1) (l :: need) = some (t :: L) := by
                rw [ec]
                exact find_mid eu (fun y hy hy2 => by rw [hu y hy hy2]; rfl) hw (by rw [hc]; rfl)
              rw [e] at q
              have Lk := (cov_sound k hc).2.2
              refine Eq.mpr (if_pos (rfl : (!(D.lst (rowsD L)).isN) = true)) ?_
              refine ⟨by omega, immL_rows [t], immL_rows L, by rw [rowsD, List.length_map]; simp; omega, ?_⟩
              exact q
        · rintro env ⟨e3, e4, e5, e6, rfl, hu⟩
          have e : cov teams (k + 1) (l :: need) = none := by
            rw [ec, List.findSome?_eq_none_iff]
            intro t ht
            obtain ⟨h1, h2⟩ := List.mem_filter.mp ht
            rw [hu t h1 h2]; rfl
          rw [e] at q
          and_intros
          exact q
end
end Pu
set_option Elab.async false
set_option linter.all false
set_option maxRecDepth 100000
set_option synthInstance.maxHeartbeats 0
set_option synthInstance.maxSize 100000
namespace Pu
open PySem PySem.Spec PyProof.Rows L2
section
variable {Q : D → Prop} {n x y s a b w k e d i j z most : Int} {m : Nat} {M : Int} {ws need need' teams L C P : List (List Int)} {S v u g l t lot row : List Int} {dd X : D} {env : PEnv}
def evr (k : Nat) : List (List Int) := (List.range k).flatMap fun a : Nat => (List.range (k - (a + 1))).map fun j : Nat => [(a : Int), ((a + 1 + j : Nat) : Int)]
def subs : List (List Int) → List (List (List Int))
  | [] => [[]]
  | p :: L => subs L ++ (subs L).map (p :: ·)
def okT (P : List (List Int)) : List Int → Bool
  | [] => true
  | x :: l => l.all (fun y => P.contains [x, y]) && okT P l
def ndd (k : Nat) (P : List (List Int)) : List (List Int) := P ++ (List.range k).map fun w : Nat => [(w : Int)]
def tms (k : Nat) (P : List (List Int)) : List (List Int) := (rawLots k).filter (okT P)
def grd (T : List (List Int)) : Nat → List (List Int) → List (List Int) → Option (List (List Int))
  | _, [], acc => some acc
  | 0, _ :: _, _ => none
  | f + 1, l :: need, acc => match (T.filter (within l)).foldl (fun b t => if b.length < t.length then t else b) [] with
    | t => if within l t = true ∧ T.contains t = true then grd T f (need.filter fun l => !within l t) (t :: acc) else none
theorem grd_ok {T : List (List Int)} : ∀ (f : Nat) {need acc C : List (List Int)}, grd T f need acc = some C → (∀ t ∈ acc, t ∈ T) → (∀ t ∈ C, t ∈ T) ∧ (∀ t ∈ acc, t ∈ C) ∧ Cvr C need ∧ C.length ≤ f + acc.length
  | 0, [], acc, C, h, ha => by cases h; exact ⟨ha, fun _ h => h, fun _ h => (nomatch h), by omega⟩
  | f + 1, [], acc, C, h, ha => by cases h; exact ⟨ha, fun _ h => h, fun _ h => (nomatch h), by omega⟩
  | 0, _ :: _, acc, C, h, ha => by cases h
  | f + 1, l :: need, acc, C, h, ha => by
    unfold grd at h
    dsimp only at h
    generalize (T.filter (within l)).foldl (fun b t => if b.length < t.length then t else b) [] = t at h
    split at h
    · rename_i hc
      have tT : t ∈ T := by simpa using hc.2
      obtain ⟨h1, h2, h3, h4⟩ := grd_ok f h fun y hy => by
        rcases List.mem_cons.mp hy with e | e
        · rw [e]; exact tT
        · exact ha y e
      refine ⟨h1, fun y hy => h2 y (List.mem_cons_of_mem _ hy), fun x hx => ?_, by simp at h4; omega⟩
      rcases List.mem_cons.mp hx with e | e
      · rw [e]; exact ⟨t, h2 t List.mem_cons_self, hc.1⟩
      · cases hw : within x t with
        | true => exact ⟨t, h2 t List.mem_cons_self, hw⟩
        | false => exact h3 x (List.mem_filter.mpr ⟨e, by rw [hw]; rfl⟩)
    · cases h
theorem six5 : (subs (evr 5)).all (fun P => (grd (tms 5 P) 6 (ndd 5 P) []).isSome) = true := by decide +kernel
theorem six4 : (subs (evr 4)).all (fun P => (grd (tms 4 P) 6 (ndd 4 P) []).isSome) = true := by decide +kernel
theorem six3 : (subs (evr 3)).all (fun P => (grd (tms 3 P) 6 (ndd 3 P) []).isSome) = true := by decide +kernel
theorem six2 : (subs (evr 2)).all (fun P => (grd (tms 2 P) 6 (ndd 2 P) []).isSome) = true := by decide +kernel
theorem six1 : (subs (evr 1)).all (fun P => (grd (tms 1 P) 6 (ndd 1 P) []).isSome) = true := by decide +kernel
theorem six {k : Nat} (h1 : 1 ≤ k) (h5 : k ≤ 5) (hP : P ∈ subs (evr k)) : ∃ C, Cvr C (ndd k P) ∧ (∀ t ∈ C, t ∈ tms k P) ∧ C.length ≤ 6 := by
  have key : (grd (tms k P) 6 (ndd k P) []).isSome = true := by
    have : k = 1 ∨ k = 2 ∨ k = 3 ∨ k = 4 ∨ k = 5 := by omega
    rcases this with rfl | rfl | rfl | rfl | rfl
    · exact List.all_eq_true.mp six1 P hP
    · exact List.all_eq_true.mp six2 P hP
    · exact List.all_eq_true.mp six3 P hP
    · exact List.all_eq_true.mp six4 P hP
    · exact List.all_eq_true.mp six5 P hP
  cases hc : grd (tms k P) 6 (ndd k P) [] with
  | none => rw [hc] at key; cases key
  | some C =>
    obtain ⟨a, _, b, c⟩ := grd_ok 6 hc fun _ h => (nomatch h)
    exact ⟨C, b, a, by simpa using c⟩
end
end Pu
set_option Elab.async false
set_option linter.all false
set_option maxRecDepth 100000
set_option synthInstance.maxHeartbeats 0
set_option synthInstance.maxSize 100000
namespace Pu
open PySem PySem.Spec PyProof.Rows L2
section
variable {Q : D → Prop} {n x y s a b w k e d i j z most : Int} {m : Nat} {M : Int} {ws need need' teams L C P : List (List Int)} {S v u g l t lot row : List Int} {dd X : D} {env : PEnv}
def pvD (P : List (List Int)) : D := .tup (rowsD P)
theorem rows_shape (h : ∀ p ∈ P, p.length ≤ 1000) (hl : P.length ≤ 1000) : Nb 8 (pvD P) := .tup (fun d hd => by
  obtain ⟨p, hp, rfl⟩ := List.mem_map.mp hd
  exact (nb_rD (h p hp)).le (by decide)) (by rw [rowsD, List.length_map]; omega)
theorem y_inP {neg : Bool} {p : List Int} (hp : p.length ≤ 1000) (h : ∀ p ∈ P, p.length ≤ 1000) (hl : P.length ≤ 1000) (q : Q (.bl (xor neg (P.contains p)))) : oInT neg (rD p) (pvD P) Q := by
  refine ⟨(nb_rD hp).sh (by decide), (rows_shape h hl).sh (by decide), ?_⟩
  have e : (rowsD P).any (fun z => D.eqb z (rD p)) = P.contains p := by
    unfold rowsD
    rw [List.any_map, Bool.eq_iff_iff, List.any_eq_true, List.contains_iff_mem]
    constructor
    · rintro ⟨x, hx, e⟩
      have e : D.eqb (rD x) (rD p) = true := e
      rw [eqb_rD] at e
      have := of_decide_eq_true e
      rw [← this]; exact hx
    · intro h
      exact ⟨p, h, by show D.eqb (rD p) (rD p) = true; rw [eqb_rD]; simp⟩
  rw [e]; exact q
theorem okT_prs : ∀ {l : List Int}, ((prs l).all fun p => P.contains p) = okT P l
  | [] => rfl
  | x :: l => by
    rw [prs, List.all_append, List.all_map, okT_prs]; rfl
local macro_rules
  | `(tactic| and_intros) => `(tactic| (try simp only [Zaa, Zab, w_c, Zac, Zad, Zae, Zaf, Zag, Zah, Zai, Zaj, Zak, Zal, Zam, Zan, Zao, Zap, Zaq, Zar, Zas, Zat, Zau, Zav, Zaw, Zax, Zay, Zaz, ZaA, ZaB, ZaC, ZaD, ZaE, ZaF, ZaG, ZaH, ZaI, ZaJ, ZaK, ZaL, ZaM, ZaN, ZaO, ZaP, ZaQ, ZaR, ZaS, ZaT, ZaU, ZaV, ZaW, ZaX, ZaY, ZaZ, Za0, Za1, Za2, Za3, Za4, Za5, Za6, Za7, Za8, Za9, Zba, Zbb, Zbc, Zbd, Zbe, Zbf, Zbg, Zbh, Zbi, Zbj, Zbk, Zbl, Zbm, Zbn, Zbo, Zbp, Zbq, Zbr, Zbs, Zbt, Zbu, Zbv, Zbw, Zbx, Zby, Zbz, ZbA, List.length_cons, List.length_nil, Nat.reduceAdd, Nat.zero_add, ZbB, ZbC, ZbD, ZbE, y_W, ZbF, ZbG, ZbH, ZbI, ZbJ, ZbK, ZbL, ZbM, ZbN, ZbO, ZbP, ZbQ, ZbR, ZbS, sb1, sb2, sb3, sb4, sb5, sb6, sb7, sb8, sb9, ZbT, ZbU, ZbV, ZbW, ZbX, ZbY, ZbZ, Zb0, Zb1, Zb2, Zb3, Zb4, Zb5, Zb6, Zb7, List.map_id, id_eq, BEq.rfl, bne_self_eq_false, Zb8, Zb9, Zca, Zcb, Zcc, Zcd, Zce, Zcf, Zcg, Zch, Zci, Zcj, Zck, Zcl, Zcm, Zcn, Zco, Zcp, Zcq, Zcr, Zcs, Zct, Zcu, Zcv, Zcw, Zcx, Zcy, Zcz, ZcA, ZcB, ZcC, ZcD, true_and, and_true, Bool.and_self, Bool.and_true, Bool.true_and, Bool.not_true, Bool.not_false, Bool.false_eq_true, if_false, if_true, ite_true, ite_false, decide_true, decide_false, reduceIte, s_seqR, s_seqL, Zbb, w_make, lcLoop2]))
theorem pairs_goT {l : List Int} : ∀ (s : List Int) (k : Nat) (acc : List D) (Z : List D → Prop) (e1 e2 e3 : Option D), l.drop k = s → acc.length + s.length * s.length ≤ 10000 →
    Z (acc ++ rowsD (prs s)) → lcLoop2 (bTup 2 (bCons (bName 1) (bCons (bName 2) bNil))) bYes [2] (mSeq (xSl (xVar 0) (pYes (x2 oAdd (xVar 1) (xC (.int 1)))) pNo)) (bName 3) bYes (xTup (xCons (xImm (xVar 2)) (xCons (xImm (xVar 3)) xNil))) [some (rD l), e1, e2, e3] (enD k (dInts s)) acc Z
  | [], k, acc, Z, e1, e2, e3, es, hl, q => by
    show lcLoop2 _ _ _ _ _ _ _ _ [] acc Z
    rw [lcLoop2]
    simpa [prs, rowsD] using q
  | x :: s, k, acc, Z, e1, e2, e3, es, hl, q => by
    have hs : 100000 ≤ sizeLine := by decide
    have es' : l.drop (k + 1) = s := by rw [← List.drop_drop, es]; rfl
    rw [List.length_cons] at hl
    have e : (s.length + 1) * (s.length + 1) = s.length * s.length + 2 * s.length + 1 := by rw [Nat.add_mul, Nat.mul_add]; omega
    rw [show enD k (dInts (x :: s)) = D.tup [.int (k : Nat), .int x] :: enD (k + 1) (dInts s) from rfl]
    and_intros
    refine y_slR_lo (k := k + 1) ?_
    rw [es']
    and_intros
    refine ⟨rfl, lc_G (e := D.int) (fun _ => true) (fun y : Int => [x, y]) rD s acc _ (by omega) (fun y hy R N k1 k2 => ?_) ?_⟩
    · and_intros
      exact ⟨by omega, k1 rfl⟩
    · rw [List.filter_eq_self.mpr fun _ _ => rfl]
      refine pairs_goT s (k + 1) _ _ _ _ _ es' (by rw [List.length_append, List.length_map, List.length_map]; omega) ?_
      rw [List.append_assoc]
      have : List.map rD (List.map (fun y => [x, y]) s) ++ rowsD (prs s) = rowsD (prs (x :: s)) := by
        rw [prs, rowsD, rowsD, List.map_append]
        rfl
      rw [this]
      exact q
local macro_rules
  | `(tactic| array_get_dec) => `(tactic| (simp only [env0, List.map_cons, List.map_nil, List.length_cons, List.length_nil, List.replicate_succ, List.replicate_zero, List.cons_append, List.nil_append, Nat.reduceSub, Nat.reduceAdd, Nat.zero_add, Zaa, Zab, w_c, Zac, Zad, Zae, Zaf, Zag, Zah, Zai, Zaj, Zak, Zal, Zam, Zan, Zao, Zap, Zaq, Zar, Zas, Zat, Zau, Zav, Zaw, Zax, Zay, Zaz, ZaA, ZaB, ZaC, ZaD, ZaE, ZaF, ZaG, ZaH, ZaI, ZaJ, ZaK, ZaL, ZaM, ZaN, ZaO, ZaP, ZaQ, ZaR, ZaS, ZaT, ZaU, ZaV, ZaW, ZaX, ZaY, ZaZ, Za0, Za1, Za2, Za3, Za4, Za5, Za6, Za7, Za8, Za9, Zba, Zbb, Zbc, Zbd, Zbe, Zbf, Zbg, Zbh, Zbi, Zbj, Zbk, Zbl, Zbm, Zbn, Zbo, Zbp, Zbq, Zbr, Zbs, Zbt, Zbu, Zbv, Zbw, Zbx, Zby, Zbz, ZbA, List.length_cons, List.length_nil, Nat.reduceAdd, Nat.zero_add, ZbB, ZbC, ZbD, ZbE, y_W, ZbF, ZbG, ZbH, ZbI, ZbJ, ZbK, ZbL, ZbM, ZbN, ZbO, ZbP, ZbQ, ZbR, ZbS, sb1, sb2, sb3, sb4, sb5, sb6, sb7, sb8, sb9, ZbT, ZbU, ZbV, ZbW, ZbX, ZbY, ZbZ, Zb0, Zb1, Zb2, Zb3, Zb4, Zb5, Zb6, Zb7, List.map_id, id_eq, BEq.rfl, bne_self_eq_false, Zb8, Zb9, Zca, Zcb, Zcc, Zcd, Zce, Zcf, Zcg, Zch, Zci, Zcj, Zck, Zcl, Zcm, Zcn, Zco, Zcp, Zcq, Zcr, Zcs, Zct, Zcu, Zcv, Zcw, Zcx, Zcy, Zcz, ZcA, ZcB, ZcC, ZcD, true_and, and_true, Bool.and_self, Bool.and_true, Bool.true_and, Bool.not_true, Bool.not_false, Bool.false_eq_true, if_false, if_true, ite_true, ite_false, decide_true, decide_false, reduceIte, s_seqR, s_seqL, Zbb, w_make, lcLoop2]))
theorem pairs_ofT_ev (hl : l.length ≤ 100) : FEv m_pairs_of [rD l] (.lst (rowsD (prs l))) := fun Q q => by
  unfold m_pairs_of fnM b_pairs_of
  array_get_dec
  show lcLoop2 _ _ _ _ _ _ _ _ (enD 0 (dInts l)) [] _
  refine pairs_goT l 0 [] _ _ _ _ rfl ?_ q
  have := Nat.mul_le_mul hl hl
  simp only [List.length_nil]
  omega
theorem prs_two : ∀ {l p : List Int}, p ∈ prs l → p.length = 2
  | [], p, h => by cases h
  | x :: l, p, h => by
    rcases List.mem_append.mp h with k | k
    · obtain ⟨y, _, rfl⟩ := List.mem_map.mp k; rfl
    · exact prs_two k
theorem teams_of_ev (h0 : 0 ≤ n) (h6 : n ≤ 6) (hP : ∀ p ∈ P, p.length ≤ 1000) (hl : P.length ≤ 1000) : FEv m_teams_of [.int n, pvD P] (.lst (rowsD ((lotsL n).filter (okT P)))) := fun Q q => by
  have hs : 100000 ≤ sizeLine := by decide
  unfold m_teams_of fnM b_teams_of
  array_get_dec
  refine all_lots_ev h0 h6 _ ?_
  have ll := lotsL_len (n := n) h6
  and_intros
  show lcLoop _ _ _ _ ((lotsL n).map rD) _ _
  refine lc_FT (e := rD) (okT P) id rD (by omega) (fun l hl' R N k1 k2 => ?_) ?_
  · have l6 := lotsL_short hl' h6
    and_intros
    refine pairs_ofT_ev (by omega) _ ?_
    have pl := prs_len (S := l)
    have p36 := Nat.mul_le_mul l6 l6
    and_intros
    show lcLoop _ _ _ _ ((prs l).map rD) _ _
    refine lc_M (e := rD) (fun p => P.contains p) D.bl (by omega) (fun p hp R hR => ?_) ?_
    · and_intros
      have p2 : p.length ≤ 1000 := by have := prs_two hp; omega
      exact y_inP p2 hP hl (by rw [Bool.false_xor]; exact hR)
    rw [ZcC, List.all_map]
    and_intros
    rw [show ((prs l).all (id ∘ fun p => P.contains p)) = okT P l from okT_prs]
    cases ho : okT P l with
    | true => exact k1 ho
    | false => exact k2 ho
  · rw [List.map_id]
    exact q
end
end Pu
set_option Elab.async false
set_option linter.all false
set_option maxRecDepth 100000
set_option synthInstance.maxHeartbeats 0
set_option synthInstance.maxSize 100000
namespace Pu
open PySem PySem.Spec PyProof.Rows L2
section
variable {Q : D → Prop} {n x y s a b w k e d i j z most : Int} {m : Nat} {M : Int} {ws need need' teams L C P : List (List Int)} {S v u g l t lot row : List Int} {dd X : D} {env : PEnv}
theorem w_zip49 {u : XL} {env : PEnv} {R : List D → Prop} : mZip u env R = u env fun ds => mzQ ds R := (rfl)
structure Prs (k : Nat) (P : List (List Int)) : Prop where
  k1 : 1 ≤ k
  k5 : k ≤ 5
  sub : P ∈ subs (evr k)
  asc : P.Pairwise (fun a b => HT.lexLt a b = true)
  ok : ∀ p ∈ P, lotOk (k : Int) p ∧ p.length = 2
  len : P.length ≤ 10
theorem zp_rows : ∀ {A B : List (List Int)}, zpD (rowsD A) (rowsD B) = (A.zip B).map fun p => D.tup [rD p.1, rD p.2]
  | [], B => by cases B <;> rfl
  | _ :: _, [] => rfl
  | a :: A, b :: B => by
    show D.tup [rD a, rD b] :: zpD (rowsD A) (rowsD B) = _
    rw [zp_rows]; rfl
theorem zip_asc : ∀ {P : List (List Int)}, P.Pairwise (fun a b => HT.lexLt a b = true) → (P.zip (P.drop 1)).all (id ∘ fun p => HT.lexLt p.1 p.2) = true
  | [], _ => rfl
  | [_], _ => rfl
  | a :: b :: P, h => by
    obtain ⟨h1, h2⟩ := List.pairwise_cons.mp h
    have ih := zip_asc h2
    show (HT.lexLt a b && ((b :: P).zip ((b :: P).drop 1)).all (id ∘ fun p => HT.lexLt p.1 p.2)) = true
    rw [ih, h1 b List.mem_cons_self]; rfl
local macro_rules
  | `(tactic| and_intros) => `(tactic| (try simp only [Zaa, Zab, w_c, Zac, Zad, Zae, Zaf, Zag, Zah, Zai, Zaj, Zak, Zal, Zam, Zan, Zao, Zap, Zaq, Zar, Zas, Zat, Zau, Zav, Zaw, Zax, Zay, Zaz, ZaA, ZaB, ZaC, ZaD, ZaE, ZaF, ZaG, ZaH, ZaI, ZaJ, ZaK, ZaL, ZaM, ZaN, ZaO, ZaP, ZaQ, ZaR, ZaS, ZaT, ZaU, ZaV, ZaW, ZaX, ZaY, ZaZ, Za0, Za1, Za2, Za3, Za4, Za5, Za6, Za7, Za8, Za9, Zba, Zbb, Zbc, Zbd, Zbe, Zbf, Zbg, Zbh, Zbi, Zbj, Zbk, Zbl, Zbm, Zbn, Zbo, Zbp, Zbq, Zbr, Zbs, Zbt, Zbu, Zbv, Zbw, Zbx, Zby, Zbz, ZbA, List.length_cons, List.length_nil, Nat.reduceAdd, Nat.zero_add, ZbB, ZbC, ZbD, ZbE, y_W, ZbF, ZbG, ZbH, ZbI, ZbJ, ZbK, ZbL, ZbM, ZbN, ZbO, ZbP, ZbQ, ZbR, ZbS, sb1, sb2, sb3, sb4, sb5, sb6, sb7, sb8, sb9, ZbT, ZbU, ZbV, ZbW, ZbX, ZbY, ZbZ, Zb0, Zb1, Zb2, Zb3, Zb4, Zb5, Zb6, Zb7, List.map_id, id_eq, BEq.rfl, bne_self_eq_false, Zb8, Zb9, Zca, Zcb, Zcc, Zcd, Zce, Zcf, Zcg, Zch, Zci, Zcj, Zck, Zcl, Zcm, Zcn, Zco, Zcp, Zcq, Zcr, Zcs, Zct, Zcu, Zcv, Zcw, Zcx, Zcy, Zcz, ZcA, ZcB, ZcC, ZcD, true_and, and_true, Bool.and_self, Bool.and_true, Bool.true_and, Bool.not_true, Bool.not_false, Bool.false_eq_true, if_false, if_true, ite_true, ite_false, decide_true, decide_false, reduceIte, s_seqR, s_seqL, Zbb, w_make]))
theorem are_pairs_ev {k : Nat} (h : Prs k P) : FEv m_are_pairs [.int (k : Int), pvD P] (.bl true) := fun Q q => by
  have hs : 100000 ≤ sizeLine := by decide
  have hl := h.len
  unfold m_are_pairs fnM b_are_pairs
  simp only [env0, List.map_cons, List.map_nil, List.length_cons, List.length_nil, List.replicate_succ, List.replicate_zero, List.cons_append, List.nil_append, Nat.reduceSub, Nat.reduceAdd, Nat.zero_add, Zaa, Zab, w_c, Zac, Zad, Zae, Zaf, Zag, Zah, Zai, Zaj, Zak, Zal, Zam, Zan, Zao, Zap, Zaq, Zar, Zas, Zat, Zau, Zav, Zaw, Zax, Zay, Zaz, ZaA, ZaB, ZaC, ZaD, ZaE, ZaF, ZaG, ZaH, ZaI, ZaJ, ZaK, ZaL, ZaM, ZaN, ZaO, ZaP, ZaQ, ZaR, ZaS, ZaT, ZaU, ZaV, ZaW, ZaX, ZaY, ZaZ, Za0, Za1, Za2, Za3, Za4, Za5, Za6, Za7, Za8, Za9, Zba, Zbb, Zbc, Zbd, Zbe, Zbf, Zbg, Zbh, Zbi, Zbj, Zbk, Zbl, Zbm, Zbn, Zbo, Zbp, Zbq, Zbr, Zbs, Zbt, Zbu, Zbv, Zbw, Zbx, Zby, Zbz, ZbA, List.length_cons, List.length_nil, Nat.reduceAdd, Nat.zero_add, ZbB, ZbC, ZbD, ZbE, y_W, ZbF, ZbG, ZbH, ZbI, ZbJ, ZbK, ZbL, ZbM, ZbN, ZbO, ZbP, ZbQ, ZbR, ZbS, sb1, sb2, sb3, sb4, sb5, sb6, sb7, sb8, sb9, ZbT, ZbU, ZbV, ZbW, ZbX, ZbY, ZbZ, Zb0, Zb1, Zb2, Zb3, Zb4, Zb5, Zb6, Zb7, List.map_id, id_eq, BEq.rfl, bne_self_eq_false, Zb8, Zb9, Zca, Zcb, Zcc, Zcd, Zce, Zcf, Zcg, Zch, Zci, Zcj, Zck, Zcl, Zcm, Zcn, Zco, Zcp, Zcq, Zcr, Zcs, Zct, Zcu, Zcv, Zcw, Zcx, Zcy, Zcz, ZcA, ZcB, ZcC, ZcD, true_and, and_true, Bool.and_self, Bool.and_true, Bool.true_and, Bool.not_true, Bool.not_false, Bool.false_eq_true, if_false, if_true, ite_true, ite_false, decide_true, decide_false, reduceIte, s_seqR, s_seqL, Zbb, w_make]
  show lcLoop _ _ _ _ (P.map rD) _ _
  refine lc_M (e := rD) (fun _ => true) D.bl (by omega) (fun p hp R hR => ?_) ?_
  · have := h.ok p hp
    and_intros
    refine is_lot_ev (by omega) this.1 _ ?_
    and_intros
    rw [this.2]
    exact hR
  rw [ZcC, List.all_map]
  and_intros
  rw [show P.all (id ∘ fun _ => true) = true from List.all_eq_true.mpr fun _ _ => rfl]
  and_intros
  rw [w_zip49]
  and_intros
  refine ⟨immL_rows P, ?_⟩
  rw [show (some (1 : Int)) = some ((1 : Nat) : Int) from rfl, cut_drop]
  show lcLoop _ _ _ _ (zpD (rowsD P) ((rowsD P).drop 1)) _ _
  rw [show (rowsD P).drop 1 = rowsD (P.drop 1) from by unfold rowsD; rw [List.map_drop], zp_rows]
  have zl : (P.zip (P.drop 1)).length ≤ 10 := by rw [List.length_zip]; omega
  refine lc_M (e := fun p : List Int × List Int => D.tup [rD p.1, rD p.2]) (fun p => HT.lexLt p.1 p.2) D.bl (by omega) (fun p hp R hR => ?_) ?_
  · show bTup 2 _ (D.tup [rD p.1, rD p.2]) _ _
    and_intros
    exact ⟨_, _, rfl, rfl, hR⟩
  rw [ZcC, List.all_map]
  rw [show (P.zip (P.drop 1)).all (id ∘ fun p => HT.lexLt p.1 p.2) = true from zip_asc h.asc]
  exact q
noncomputable def fewL (k : Nat) (P : List (List Int)) : List (List Int) := few ((lotsL (k : Int)).filter (okT P)) (ndd k P) 6 1
theorem few_at : ∀ (f j : Nat), (∃ i, i < f ∧ cov teams (j + i) need ≠ none) → ∃ i L, i < f ∧ cov teams (j + i) need = some L ∧ few teams need f j = L ∧ ∀ i', i' < i → cov teams (j + i') need = none
  | 0, j, ⟨i, h, _⟩ => by omega
  | f + 1, j, ⟨i, h, hc⟩ => by
    cases h0 : cov teams j need with
    | some L => exact ⟨0, L, by omega, h0, by unfold few; rw [h0], fun i' h => by omega⟩
    | none =>
      obtain ⟨i2, L, a, b, c, d⟩ := few_at f (j + 1) ⟨i - 1, by
        cases i with
        | zero => exact absurd h0 hc
        | succ i => omega, by
        cases i with
        | zero => exact absurd h0 hc
        | succ i => rw [show j + 1 + (i + 1 - 1) = j + (i + 1) by omega]; exact hc⟩
      refine ⟨i2 + 1, L, by omega, by rw [show j + (i2 + 1) = j + 1 + i2 by omega]; exact b, by unfold few; rw [h0]; exact c, fun i' hi => ?_⟩
      cases i' with
      | zero => exact h0
      | succ i' => rw [show j + (i' + 1) = j + 1 + i' by omega]; exact d i' (by omega)
end
end Pu
set_option Elab.async false
set_option linter.all false
set_option maxRecDepth 100000
set_option synthInstance.maxHeartbeats 0
set_option synthInstance.maxSize 100000
namespace Pu
open PySem PySem.Spec PyProof.Rows L2
section
variable {Q : D → Prop} {n x y s a b w k e d i j z most : Int} {m : Nat} {M : Int} {ws st : List (List Int)} {S v u g l lot lot' wl R T A B tl r ls o : List Int} {dd : D} {acc : List (Key × D)} {J : List Int} {F : Int → D} {env : PEnv} {lb : Int → Int}
end
end Pu
set_option Elab.async false
set_option linter.all false
set_option maxRecDepth 100000
set_option synthInstance.maxHeartbeats 0
set_option synthInstance.maxSize 100000
namespace Pu
open PySem PySem.Spec PyProof.Rows L2
section
variable {Q : D → Prop} {n x y s a b w k e d i j z most : Int} {m : Nat} {M : Int} {ws st : List (List Int)} {S v u g l lot lot' wl R T A B tl r ls o : List Int} {dd : D} {acc : List (Key × D)} {J : List Int} {F : Int → D} {env : PEnv} {lb : Int → Int}
end
end Pu
set_option Elab.async false
set_option linter.all false
set_option maxRecDepth 100000
set_option synthInstance.maxHeartbeats 0
set_option synthInstance.maxSize 100000
namespace Pu
open PySem PySem.Spec PyProof.Rows L2
section
variable {Q : D → Prop} {n x y s a b w k e d i j z most : Int} {m : Nat} {M : Int} {ws st : List (List Int)} {S v u g l lot lot' wl R T A B tl r ls o row left : List Int} {dd X : D} {acc : List (Key × D)} {J : List Int} {F : Int → D} {env : PEnv} {lb : Int → Int}
end
end Pu
set_option Elab.async false
set_option linter.all false
set_option maxRecDepth 100000
set_option synthInstance.maxHeartbeats 0
set_option synthInstance.maxSize 100000
namespace Pu
open PySem PySem.Spec PyProof.Rows L2
section
variable {Q : D → Prop} {n x y s a b w k e d i j z most : Int} {m : Nat} {M : Int} {ws st rows : List (List Int)} {S v u g l lot lot' wl R T A B tl r ls o row : List Int} {dd X : D} {acc : List (Key × D)} {J : List Int} {F : Int → D} {env : PEnv} {lb : Int → Int}
end
end Pu
set_option Elab.async false
set_option linter.all false
set_option maxRecDepth 100000
set_option synthInstance.maxHeartbeats 0
set_option synthInstance.maxSize 100000
namespace Pu
open PySem PySem.Spec PyProof.Rows L2
section
variable {Q : D → Prop} {R : List D → Prop} {n i : Int} {r s row left a b lot l G C : List Int} {ws L T K : List (List Int)} {x y z p : Int} {dd : D} {m : Nat}
end
end Pu
set_option Elab.async false
set_option linter.all false
set_option maxRecDepth 100000
set_option synthInstance.maxHeartbeats 0
set_option synthInstance.maxSize 100000
namespace Pu
open PySem PySem.Spec PyProof.Rows L2
section
variable {Q : D → Prop} {n x y s a b w k e d i j z most : Int} {m : Nat} {M : Int} {ws st rows : List (List Int)} {S v u g l lot lot' wl R T A B tl r ls o row : List Int} {dd X : D} {acc : List (Key × D)} {J : List Int} {F : Int → D} {env : PEnv} {lb : Int → Int}
theorem make75_ev {Z : List (Str × D) → Prop} (h : WsOk n ws) (q : Z [("desks", .int n), ("works", wD ws)]) : i_Office [.int n, wD ws] Z := by
  obtain ⟨h1, h2, h3, h4, h5⟩ := id h
  have e1 : decide ((1 : Int) ≤ n) = true := decide_eq_true h1
  have e2 : decide (n ≤ 6) = true := decide_eq_true h2
  refine ⟨rfl, ?_⟩
  show (if decide ((1 : Int) ≤ n) = true then _ else _)
  rw [if_pos e1]
  show (if (!decide (n ≤ 6)) = true then _ else _)
  rw [e2, if_neg (by decide)]
  refine are_office_works_ev h _ ?_
  refine ⟨rfl, rfl, by simp, by decide, imm_wD ws, rfl, by simp [putFD], (show Fz ["desks"] = false by decide), ?_⟩
  refine ⟨rfl, by simp [putFD]; split <;> simp, ?_⟩
  exact q
theorem mk75_oD : mkO 3 [("desks", .int n), ("works", wD ws)] = oD n ws := if_pos (show Fz ["desks", "works"] = true by decide)
end
end Pu
set_option Elab.async false
set_option linter.all false
set_option maxRecDepth 100000
set_option synthInstance.maxHeartbeats 0
set_option synthInstance.maxSize 100000
namespace Pu
open PySem PySem.Spec PyProof.Rows L2
section
variable {Q : D → Prop} {n x y s a b w k e d i j z most : Int} {m : Nat} {M : Int} {ws need need' teams L C P : List (List Int)} {S v u g l t lot row : List Int} {dd X : D} {env : PEnv}
noncomputable def tmsL (k : Nat) (P : List (List Int)) : List (List Int) := (lotsL (k : Int)).filter (okT P)
theorem fewL_spec {k : Nat} (h : Prs k P) : ∃ i L, i < 6 ∧ cov (tmsL k P) (1 + i) (ndd k P) = some L ∧ fewL k P = L ∧ ∀ i', i' < i → cov (tmsL k P) (1 + i') (ndd k P) = none := by
  refine few_at 6 1 ⟨5, by omega, ?_⟩
  obtain ⟨C, c1, c2, c3⟩ := six h.k1 h.k5 h.sub
  refine cov_complete 6 c1 (fun t ht => ?_) c3
  obtain ⟨a, b⟩ := List.mem_filter.mp (c2 t ht)
  exact List.mem_filter.mpr ⟨lotsL_perm.mem_iff.mpr (by rw [Int.toNat_natCast]; exact a), b⟩
theorem ndd_len {k : Nat} (h : Prs k P) : (ndd k P).length ≤ 15 := by
  have := h.len
  have := h.k5
  unfold ndd
  rw [List.length_append, List.length_map, List.length_range]; omega
theorem ndd_short {k : Nat} (h : Prs k P) : ∀ l ∈ ndd k P, l.length ≤ 100 := fun l hl => by
  rcases List.mem_append.mp hl with z | z
  · have := (h.ok l z).2; omega
  · obtain ⟨w, _, rfl⟩ := List.mem_map.mp z; simp
theorem tmsL_len {k : Nat} (h : Prs k P) : (tmsL k P).length ≤ 64 := by
  have a := List.length_filter_le (okT P) (lotsL (k : Int))
  have b := lotsL_len (n := (k : Int)) (by have := h.k5; omega)
  unfold tmsL; omega
local macro_rules
  | `(tactic| and_intros) => `(tactic| (try simp only [Zaa, Zab, w_c, Zac, Zad, Zae, Zaf, Zag, Zah, Zai, Zaj, Zak, Zal, Zam, Zan, Zao, Zap, Zaq, Zar, Zas, Zat, Zau, Zav, Zaw, Zax, Zay, Zaz, ZaA, ZaB, ZaC, ZaD, ZaE, ZaF, ZaG, ZaH, ZaI, ZaJ, ZaK, ZaL, ZaM, ZaN, ZaO, ZaP, ZaQ, ZaR, ZaS, ZaT, ZaU, ZaV, ZaW, ZaX, ZaY, ZaZ, Za0, Za1, Za2, Za3, Za4, Za5, Za6, Za7, Za8, Za9, Zba, Zbb, Zbc, Zbd, Zbe, Zbf, Zbg, Zbh, Zbi, Zbj, Zbk, Zbl, Zbm, Zbn, Zbo, Zbp, Zbq, Zbr, Zbs, Zbt, Zbu, Zbv, Zbw, Zbx, Zby, Zbz, ZbA, List.length_cons, List.length_nil, Nat.reduceAdd, Nat.zero_add, ZbB, ZbC, ZbD, ZbE, y_W, ZbF, ZbG, ZbH, ZbI, ZbJ, ZbK, ZbL, ZbM, ZbN, ZbO, ZbP, ZbQ, ZbR, ZbS, sb1, sb2, sb3, sb4, sb5, sb6, sb7, sb8, sb9, ZbT, ZbU, ZbV, ZbW, ZbX, ZbY, ZbZ, Zb0, Zb1, Zb2, Zb3, Zb4, Zb5, Zb6, Zb7, List.map_id, id_eq, BEq.rfl, bne_self_eq_false, Zb8, Zb9, Zca, Zcb, Zcc, Zcd, Zce, Zcf, Zcg, Zch, Zci, Zcj, Zck, Zcl, Zcm, Zcn, Zco, Zcp, Zcq, Zcr, Zcs, Zct, Zcu, Zcv, Zcw, Zcx, Zcy, Zcz, ZcA, ZcB, ZcC, ZcD, true_and, and_true, Bool.and_self, Bool.and_true, Bool.true_and, Bool.not_true, Bool.not_false, Bool.false_eq_true, if_false, if_true, ite_true, ite_false, decide_true, decide_false, reduceIte, s_seqR, s_seqL, Zbb, w_make]))
local macro_rules
  | `(tactic| array_get_dec) => `(tactic| (simp only [env0, List.map_cons, List.map_nil, List.length_cons, List.length_nil, List.replicate_succ, List.replicate_zero, List.cons_append, List.nil_append, Nat.reduceSub, Nat.reduceAdd, Nat.zero_add, Zaa, Zab, w_c, Zac, Zad, Zae, Zaf, Zag, Zah, Zai, Zaj, Zak, Zal, Zam, Zan, Zao, Zap, Zaq, Zar, Zas, Zat, Zau, Zav, Zaw, Zax, Zay, Zaz, ZaA, ZaB, ZaC, ZaD, ZaE, ZaF, ZaG, ZaH, ZaI, ZaJ, ZaK, ZaL, ZaM, ZaN, ZaO, ZaP, ZaQ, ZaR, ZaS, ZaT, ZaU, ZaV, ZaW, ZaX, ZaY, ZaZ, Za0, Za1, Za2, Za3, Za4, Za5, Za6, Za7, Za8, Za9, Zba, Zbb, Zbc, Zbd, Zbe, Zbf, Zbg, Zbh, Zbi, Zbj, Zbk, Zbl, Zbm, Zbn, Zbo, Zbp, Zbq, Zbr, Zbs, Zbt, Zbu, Zbv, Zbw, Zbx, Zby, Zbz, ZbA, List.length_cons, List.length_nil, Nat.reduceAdd, Nat.zero_add, ZbB, ZbC, ZbD, ZbE, y_W, ZbF, ZbG, ZbH, ZbI, ZbJ, ZbK, ZbL, ZbM, ZbN, ZbO, ZbP, ZbQ, ZbR, ZbS, sb1, sb2, sb3, sb4, sb5, sb6, sb7, sb8, sb9, ZbT, ZbU, ZbV, ZbW, ZbX, ZbY, ZbZ, Zb0, Zb1, Zb2, Zb3, Zb4, Zb5, Zb6, Zb7, List.map_id, id_eq, BEq.rfl, bne_self_eq_false, Zb8, Zb9, Zca, Zcb, Zcc, Zcd, Zce, Zcf, Zcg, Zch, Zci, Zcj, Zck, Zcl, Zcm, Zcn, Zco, Zcp, Zcq, Zcr, Zcs, Zct, Zcu, Zcv, Zcw, Zcx, Zcy, Zcz, ZcA, ZcB, ZcC, ZcD, true_and, and_true, Bool.and_self, Bool.and_true, Bool.true_and, Bool.not_true, Bool.not_false, Bool.false_eq_true, if_false, if_true, ite_true, ite_false, decide_true, decide_false, reduceIte, s_seqR, s_seqL, Zbb, w_make]))
theorem fewest_teams_ev {k : Nat} (h : Prs k P) : FEv m_fewest_teams [.int (k : Int), pvD P] (.lst (rowsD (fewL k P))) := fun Q q => by
  have hs : 100000 ≤ sizeLine := by decide
  have k1 := h.k1
  have k5 := h.k5
  have hl := h.len
  obtain ⟨i, L, i6, hc, hL, hn⟩ := fewL_spec h
  rw [hL] at q
  have nl := ndd_len h
  have cv : ∀ (j : Nat) (K : D → Prop), j ≤ 6 → K (optW (cov (tmsL k P) j (ndd k P))) → m_covered [.lst (rowsD (ndd k P)), .lst (rowsD (tmsL k P)), .int (j : Int)] K := fun j K hj hK =>
    covered_ev (tmsL_len h) j 8 (by omega) (by omega) (by omega) (ndd_short h) _ hK
  unfold m_fewest_teams fnM b_fewest_teams
  array_get_dec
  refine is_below_ev (by omega) (by omega) _ ?_
  and_intros
  rw [if_neg (by simp; omega)]
  refine are_pairs_ev h _ ?_
  and_intros
  refine .inl ⟨immL_rows P, ?_⟩
  refine y_rng (n := (k : Int)) (by omega) (by omega) ?_
  refine lc_M (e := D.int) (fun w => [w]) rD (by rw [rangeI_len]; omega) (fun w hw R hR => ?_) ?_
  · and_intros
    exact ⟨by omega, hR⟩
  have en : rowsD P ++ ((rangeI (k : Int)).map fun w => [w]).map rD = rowsD (ndd k P) := by
    unfold ndd rangeI
    rw [Int.toNat_natCast, rowsD, rowsD, List.map_append, List.map_map, List.map_map, List.map_map]; rfl
  refine ⟨immL_rows P, immL_rows _, by rw [rowsD, List.length_map, List.length_map, List.length_map, rangeI_len]; omega, ?_⟩
  rw [en]
  refine teams_of_ev (by omega) (by omega) (fun p hp => by have := (h.ok p hp).2; omega) (by omega) _ ?_
  rw [show (lotsL (k : Int)).filter (okT P) = tmsL k P from rfl]
  refine cv 1 _ (by omega) ?_
  refine ⟨fun fu env => ∃ j : Nat, env = [some (.int (k : Int)), some (pvD P), some (.lst (rowsD (ndd k P))), some (.lst (rowsD (tmsL k P))), some (.int (j : Int)), some (optW (cov (tmsL k P) j (ndd k P))), none] ∧ 1 ≤ j ∧ j ≤ 1 + i ∧ fu = 1 + i - j, ⟨i, 1, rfl, by omega, by omega, by omega⟩, ?_⟩
  rintro fu env ⟨j, rfl, j1, ji, ef⟩
  by_cases e : j = 1 + i
  · subst e
    rw [hc]
    simp only [optW]
    and_intros
    refine Eq.mpr (if_neg (show ¬ (D.isN (.lst (rowsD L))) = true from fun z => Bool.noConfusion z)) ?_
    exact q
  · have hj : cov (tmsL k P) j (ndd k P) = none := by
      have := hn (j - 1) (by omega)
      rwa [show 1 + (j - 1) = j by omega] at this
    rw [hj]
    simp only [optW]
    and_intros
    rw [show ((j : Int) + 1) = ((j + 1 : Nat) : Int) by omega]
    refine cv (j + 1) _ (by omega) ?_
    exact ⟨1 + i - (j + 1), by omega, j + 1, rfl, by omega, by omega, rfl⟩
def offW (k : Nat) (L : List (List Int)) : List (List Int) := (rangeI (k : Int)).map fun w => (rangeI (L.length : Int)).filter fun d => (W L d).contains w
theorem offW_len {k : Nat} : (offW k L).length = k := by unfold offW; rw [List.length_map, rangeI_len, Int.toNat_natCast]
theorem offW_at {k : Nat} (h0 : 0 ≤ w) (h1 : w < (k : Int)) : W (offW k L) w = (rangeI (L.length : Int)).filter fun d => (W L d).contains w := by
  have e : (rangeI (k : Int))[w.toNat]? = some w := by
    unfold rangeI
    rw [List.getElem?_map, List.getElem?_range (by omega)]
    exact congrArg some (show ((w.toNat : Nat) : Int) = w by omega)
  unfold W offW
  rw [List.getD_eq_getElem?_getD, List.getElem?_map, e]; rfl
theorem few_ok {k : Nat} (h : Prs k P) : 1 ≤ (fewL k P).length ∧ (fewL k P).length ≤ 6 ∧ Cvr (fewL k P) (ndd k P) ∧ ∀ t ∈ fewL k P, okT P t = true := by
  obtain ⟨i, L, i6, hc, hL, hn⟩ := fewL_spec h
  obtain ⟨a, b, c⟩ := cov_sound _ hc
  rw [hL]
  refine ⟨?_, by omega, a, fun t ht => (List.mem_filter.mp (b t ht)).2⟩
  have : ([(0 : Int)] : List Int) ∈ ndd k P := List.mem_append_right _ (List.mem_map.mpr ⟨0, List.mem_range.mpr (by have := h.k1; omega), rfl⟩)
  obtain ⟨t, ht, _⟩ := a _ this
  exact List.length_pos_of_mem ht
theorem few_one {k : Nat} (h : Prs k P) (h0 : 0 ≤ w) (h1 : w < (k : Int)) : ∃ d, d ∈ W (offW k (fewL k P)) w := by
  obtain ⟨_, _, c, _⟩ := few_ok h
  have : [w] ∈ ndd k P := List.mem_append_right _ (List.mem_map.mpr ⟨w.toNat, List.mem_range.mpr (by omega), by rw [show ((w.toNat : Nat) : Int) = w by omega]⟩)
  obtain ⟨t, ht, hw⟩ := c _ this
  obtain ⟨d, hd, rfl⟩ := List.getElem_of_mem ht
  refine ⟨(d : Int), ?_⟩
  rw [offW_at h0 h1, List.mem_filter, mem_rangeI]
  refine ⟨⟨by omega, by omega⟩, ?_⟩
  unfold W
  rw [Int.toNat_natCast, List.getD_eq_getElem?_getD, List.getElem?_eq_getElem hd]
  have := List.all_eq_true.mp hw w List.mem_cons_self
  exact this
theorem off_ok {k : Nat} (h : Prs k P) : WsOk ((fewL k P).length : Int) (offW k (fewL k P)) := by
  obtain ⟨a, b, c, d⟩ := few_ok h
  have k1 := h.k1
  have k5 := h.k5
  refine ⟨by omega, by omega, by rw [offW_len]; omega, by rw [offW_len]; omega, fun l hl => ?_⟩
  unfold offW at hl
  obtain ⟨w, hw, rfl⟩ := List.mem_map.mp hl
  have hw := mem_rangeI.mp hw
  refine ⟨lot_of ((rangeI_pw _).filter _) fun x hx => mem_rangeI.mp (List.mem_filter.mp hx).1, fun z => ?_, ?_⟩
  · obtain ⟨d, hd⟩ := few_one h hw.1 hw.2
    rw [offW_at hw.1 hw.2, z] at hd; cases hd
  · have := List.length_filter_le (fun d => (W (fewL k P) d).contains w) (rangeI ((fewL k P).length : Int))
    rw [rangeI_len] at this; omega
theorem office_for_ev {k : Nat} (h : Prs k P) : FEv m_office_for [.int (k : Int), pvD P] (oD ((fewL k P).length : Int) (offW k (fewL k P))) := fun Q q => by
  have hs : 100000 ≤ sizeLine := by decide
  have k5 := h.k5
  obtain ⟨a, b, c, d⟩ := few_ok h
  have ok := off_ok h
  unfold m_office_for fnM b_office_for
  array_get_dec
  refine fewest_teams_ev h _ ?_
  generalize hL : fewL k P = L at a b ok q
  and_intros
  refine y_rng (n := (k : Int)) (by omega) (by omega) ?_
  refine lc_M (e := D.int) (fun w => (rangeI (L.length : Int)).filter fun d => (W L d).contains w) rD (by rw [rangeI_len]; omega) (fun w hw R hR => ?_) ?_
  · and_intros
    rw [en_ws0]
    refine lc_FT (e := fun d => D.tup [.int d, rD (W L d)]) (fun d => (W L d).contains w) id D.int (by rw [rangeI_len]; omega) (fun d hd R N k1 k2 => ?_) ?_
    · show bTup 2 _ (D.tup [.int d, rD (W L d)]) _ _
      and_intros
      cases hb : (W L d).contains w with
      | true => exact k1 hb
      | false => exact k2 hb
    rw [List.map_id]
    exact ⟨immL_mapI fun _ _ => rfl, hR⟩
  and_intros
  show i_Office [.int (L.length : Nat), wD (offW k L)] _
  refine make75_ev ok ?_
  rw [mk75_oD]
  exact q
theorem fewest_desks_ev {k : Nat} (h : Prs k P) : FEv m_fewest_desks [.int (k : Int), pvD P] (.int ((fewL k P).length : Nat)) := fun Q q => by
  unfold m_fewest_desks fnM b_fewest_desks
  array_get_dec
  refine fewest_teams_ev h _ ?_
  rw [Zbq, rowsD, List.length_map]
  exact q
end
end Pu
set_option Elab.async false
set_option linter.all false
set_option maxRecDepth 100000
set_option synthInstance.maxHeartbeats 0
set_option synthInstance.maxSize 100000
namespace Pu
open PySem PySem.Spec PyProof.Rows L2
section
variable {Q : D → Prop} {n x y s a b w k e d i j z most : Int} {m : Nat} {M : Int} {ws need need' teams L C P : List (List Int)} {S v u g l t lot row : List Int} {dd X : D} {env : PEnv}
theorem sub_subs {L P : List (List Int)} (h : P.Sublist L) : P ∈ subs L := by
  induction h with
  | slnil => exact List.mem_singleton.mpr rfl
  | cons a h ih => exact List.mem_append_left _ ih
  | cons_cons a h ih => exact List.mem_append_right _ (List.mem_map.mpr ⟨_, ih, rfl⟩)
theorem evr_asc {k : Nat} (h5 : k ≤ 5) : (evr k).Pairwise (fun a b => HT.lexLt a b = true) := by
  have : k = 0 ∨ k = 1 ∨ k = 2 ∨ k = 3 ∨ k = 4 ∨ k = 5 := by omega
  rcases this with rfl | rfl | rfl | rfl | rfl | rfl <;> decide +kernel
theorem evr_len {k : Nat} (h5 : k ≤ 5) : (evr k).length ≤ 10 := by
  have : k = 0 ∨ k = 1 ∨ k = 2 ∨ k = 3 ∨ k = 4 ∨ k = 5 := by omega
  rcases this with rfl | rfl | rfl | rfl | rfl | rfl <;> decide +kernel
theorem evr_ok {k : Nat} {p : List Int} (hp : p ∈ evr k) : lotOk (k : Int) p ∧ p.length = 2 := by
  obtain ⟨a, ha, hp⟩ := List.mem_flatMap.mp hp
  obtain ⟨j, hj, rfl⟩ := List.mem_map.mp hp
  have ha := List.mem_range.mp ha
  have hj := List.mem_range.mp hj
  refine ⟨lot_of ?_ fun x hx => ?_, rfl⟩
  · refine List.pairwise_cons.mpr ⟨fun y hy => ?_, List.pairwise_singleton _ _⟩
    rw [List.mem_singleton.mp hy]; omega
  · rcases List.mem_cons.mp hx with e | hx
    · rw [e]; omega
    · rw [List.mem_singleton.mp hx]; omega
theorem prs_sub {k : Nat} (h1 : 1 ≤ k) (h5 : k ≤ 5) (h : P.Sublist (evr k)) : Prs k P :=
  ⟨h1, h5, sub_subs h, (evr_asc h5).sublist h, fun p hp => evr_ok (h.mem hp), Nat.le_trans h.length_le (evr_len h5)⟩
local macro_rules
  | `(tactic| and_intros) => `(tactic| (try simp only [Zaa, Zab, w_c, Zac, Zad, Zae, Zaf, Zag, Zah, Zai, Zaj, Zak, Zal, Zam, Zan, Zao, Zap, Zaq, Zar, Zas, Zat, Zau, Zav, Zaw, Zax, Zay, Zaz, ZaA, ZaB, ZaC, ZaD, ZaE, ZaF, ZaG, ZaH, ZaI, ZaJ, ZaK, ZaL, ZaM, ZaN, ZaO, ZaP, ZaQ, ZaR, ZaS, ZaT, ZaU, ZaV, ZaW, ZaX, ZaY, ZaZ, Za0, Za1, Za2, Za3, Za4, Za5, Za6, Za7, Za8, Za9, Zba, Zbb, Zbc, Zbd, Zbe, Zbf, Zbg, Zbh, Zbi, Zbj, Zbk, Zbl, Zbm, Zbn, Zbo, Zbp, Zbq, Zbr, Zbs, Zbt, Zbu, Zbv, Zbw, Zbx, Zby, Zbz, ZbA, List.length_cons, List.length_nil, Nat.reduceAdd, Nat.zero_add, ZbB, ZbC, ZbD, ZbE, y_W, ZbF, ZbG, ZbH, ZbI, ZbJ, ZbK, ZbL, ZbM, ZbN, ZbO, ZbP, ZbQ, ZbR, ZbS, sb1, sb2, sb3, sb4, sb5, sb6, sb7, sb8, sb9, ZbT, ZbU, ZbV, ZbW, ZbX, ZbY, ZbZ, Zb0, Zb1, Zb2, Zb3, Zb4, Zb5, Zb6, Zb7, List.map_id, id_eq, BEq.rfl, bne_self_eq_false, Zb8, Zb9, Zca, Zcb, Zcc, Zcd, Zce, Zcf, Zcg, Zch, Zci, Zcj, Zck, Zcl, Zcm, Zcn, Zco, Zcp, Zcq, Zcr, Zcs, Zct, Zcu, Zcv, Zcw, Zcx, Zcy, Zcz, ZcA, ZcB, ZcC, ZcD, true_and, and_true, Bool.and_self, Bool.and_true, Bool.true_and, Bool.not_true, Bool.not_false, Bool.false_eq_true, if_false, if_true, ite_true, ite_false, decide_true, decide_false, reduceIte, s_seqR, s_seqL, Zbb, w_make]))
theorem some_pairs_ev {k : Nat} (h1 : 1 ≤ k) (h5 : k ≤ 5) : FP m__law_some_pairs [dd, .int (k : Int)] (fun d => ∃ P, d = pvD P ∧ Prs k P) := fun Q q => by
  have hs : 100000 ≤ sizeLine := by decide
  unfold m__law_some_pairs fnM b__law_some_pairs
  simp only [env0, List.map_cons, List.map_nil, List.length_cons, List.length_nil, List.replicate_succ, List.replicate_zero, List.cons_append, List.nil_append, Nat.reduceSub, Nat.reduceAdd, Nat.zero_add, Zaa, Zab, w_c, Zac, Zad, Zae, Zaf, Zag, Zah, Zai, Zaj, Zak, Zal, Zam, Zan, Zao, Zap, Zaq, Zar, Zas, Zat, Zau, Zav, Zaw, Zax, Zay, Zaz, ZaA, ZaB, ZaC, ZaD, ZaE, ZaF, ZaG, ZaH, ZaI, ZaJ, ZaK, ZaL, ZaM, ZaN, ZaO, ZaP, ZaQ, ZaR, ZaS, ZaT, ZaU, ZaV, ZaW, ZaX, ZaY, ZaZ, Za0, Za1, Za2, Za3, Za4, Za5, Za6, Za7, Za8, Za9, Zba, Zbb, Zbc, Zbd, Zbe, Zbf, Zbg, Zbh, Zbi, Zbj, Zbk, Zbl, Zbm, Zbn, Zbo, Zbp, Zbq, Zbr, Zbs, Zbt, Zbu, Zbv, Zbw, Zbx, Zby, Zbz, ZbA, List.length_cons, List.length_nil, Nat.reduceAdd, Nat.zero_add, ZbB, ZbC, ZbD, ZbE, y_W, ZbF, ZbG, ZbH, ZbI, ZbJ, ZbK, ZbL, ZbM, ZbN, ZbO, ZbP, ZbQ, ZbR, ZbS, sb1, sb2, sb3, sb4, sb5, sb6, sb7, sb8, sb9, ZbT, ZbU, ZbV, ZbW, ZbX, ZbY, ZbZ, Zb0, Zb1, Zb2, Zb3, Zb4, Zb5, Zb6, Zb7, List.map_id, id_eq, BEq.rfl, bne_self_eq_false, Zb8, Zb9, Zca, Zcb, Zcc, Zcd, Zce, Zcf, Zcg, Zch, Zci, Zcj, Zck, Zcl, Zcm, Zcn, Zco, Zcp, Zcq, Zcr, Zcs, Zct, Zcu, Zcv, Zcw, Zcx, Zcy, Zcz, ZcA, ZcB, ZcC, ZcD, true_and, and_true, Bool.and_self, Bool.and_true, Bool.true_and, Bool.not_true, Bool.not_false, Bool.false_eq_true, if_false, if_true, ite_true, ite_false, decide_true, decide_false, reduceIte, s_seqR, s_seqL, Zbb, w_make]
  refine ⟨by omega, y_rng (n := (k : Int)) (by omega) (by omega) ?_⟩
  have fl : ∀ (u : Nat), u ≤ k → (((List.range u).flatMap fun a : Nat => (List.range (k - (a + 1))).map fun j : Nat => [(a : Int), ((a + 1 + j : Nat) : Int)]).length ≤ u * 5) := fun u => by
    induction u with
    | zero => intro _; simp
    | succ u ih =>
      intro hu
      have := ih (by omega)
      rw [List.range_succ, List.flatMap_append, List.length_append, List.flatMap_singleton, List.length_map, List.length_range, Nat.succ_mul]
      omega
  refine loop_I (fun u z env => ∃ e3 e7, env = [some dd, some (.int (k : Int)), some (.lst (rowsD ((List.range u.length).flatMap fun a : Nat => (List.range (k - (a + 1))).map fun j : Nat => [(a : Int), ((a + 1 + j : Nat) : Int)]))), e3, none, none, none, e7]) _ ⟨_, _, rfl⟩ ?_ ?_
  · rintro u x z env eu ⟨e3, e7, rfl⟩
    obtain ⟨ex, ul, _⟩ := range_pre eu
    subst ex
    have f1 := fl u.length (by omega)
    and_intros
    rw [show ((u.length : Nat) : Int) + 1 = ((u.length + 1 : Nat) : Int) by omega]
    refine y_rng253 (a := u.length + 1) (b := k) (by omega) (by omega) ?_
    refine lc_M (e := fun j : Nat => D.int ((u.length + 1 + j : Nat) : Int)) (fun j : Nat => [((u.length : Nat) : Int), ((u.length + 1 + j : Nat) : Int)]) rD (by rw [List.length_range]; omega) (fun j hj R hR => ?_) ?_
    · and_intros
      exact ⟨by omega, hR⟩
    refine ⟨immL_rows _, immL_rows _, by rw [rowsD, List.length_map, List.length_map, List.length_map, List.length_range]; omega, ?_⟩
    refine ⟨some (.int (u.length : Nat)), e7, ?_⟩
    rw [show (u ++ [((u.length : Nat) : Int)]).length = u.length + 1 by simp, List.range_succ, List.flatMap_append, List.flatMap_singleton]
    rw [show rowsD ((List.range u.length).flatMap (fun a : Nat => (List.range (k - (a + 1))).map fun j : Nat => [(a : Int), ((a + 1 + j : Nat) : Int)]) ++ (List.range (k - (u.length + 1))).map fun j : Nat => [((u.length : Nat) : Int), ((u.length + 1 + j : Nat) : Int)]) = _ from List.map_append]
    rfl
  · rintro env ⟨e3, e7, rfl⟩
    rw [rangeI_len, Int.toNat_natCast, show ((List.range k).flatMap fun a : Nat => (List.range (k - (a + 1))).map fun j : Nat => [(a : Int), ((a + 1 + j : Nat) : Int)]) = evr k from rfl]
    have el := evr_len h5
    have fin : ∀ P : List (List Int), P.Sublist (evr k) → Q (pvD P) := fun P h => q _ ⟨P, rfl, prs_sub h1 h5 h⟩
    and_intros
    refine draw_ev (by decide) (by decide) fun z z0 z1 => ?_
    (try rw [w_sif])
    and_intros
    split
    · exact fin _ (List.Sublist.refl _)
    · (try rw [w_sif])
      and_intros
      split
      · show lcLoop _ _ _ _ ((evr k).map rD) _ _
        refine lc_FT (e := rD) (fun p => decide (p.getD 1 0 = p.getD 0 0 + 1)) id rD (by omega) (fun p hp R N k1 k2 => ?_) ?_
        · have p2 := (evr_ok hp).2
          and_intros
          refine y_ixR (by decide) (by omega) (y_ixR (by decide) (by omega) ?_)
          and_intros
          show (if decide (p.getD 1 0 = p.getD 0 0 + 1) = true then R (rD p) else N)
          by_cases e : p.getD 1 0 = p.getD 0 0 + 1
          · rw [if_pos (decide_eq_true e)]
            exact k1 (decide_eq_true e)
          · rw [if_neg (by simpa using e)]
            exact k2 (decide_eq_false e)
        · rw [List.map_id]
          exact ⟨immL_rows _, fin _ List.filter_sublist⟩
      · rename_i n0 n1
        have n0 : z ≠ 0 := by simpa using n0
        have n1 : z ≠ 1 := by simpa using n1
        and_intros
        have ix3 : ∀ K : D → Prop, (∀ b : Int, 2 ≤ b → b ≤ 4 → K (.int b)) → oIx (D.lst [D.int 2, D.int 3, D.int 4]) (D.int (z - 2)) K := fun K hK => by
          have : z = 2 ∨ z = 3 ∨ z = 4 := by omega
          rcases this with rfl | rfl | rfl
          · refine ixL_some (x := 0) (by decide) ?_ (hK 2 (by decide) (by decide)); rfl
          · refine ixL_some (x := 1) (by decide) ?_ (hK 3 (by decide) (by decide)); rfl
          · refine ixL_some (x := 2) (by decide) ?_ (hK 4 (by decide) (by decide)); rfl
        refine ⟨by omega, ix3 _ fun b b2 b4 => ?_⟩
        have fin2 : ∀ ys : List D, ys.Sublist (rowsD (evr k)) → immL ys = true ∧ Q (.tup ys) := fun ys h => by
          obtain ⟨P, hP, rfl⟩ := List.sublist_map_iff.mp h
          exact ⟨immL_rows P, fin P hP⟩
        have rl : (rowsD (evr k)).length ≤ 10 := by rw [rowsD, List.length_map]; omega
        split
        · refine lc_F (fun d => d) _ [] _ (by simp; omega) (fun d hd R hR => ?_) (fun d hd R hR => ?_) fun ys hy => ?_
          · obtain ⟨p, _, rfl⟩ := List.mem_map.mp hd
            and_intros
            exact draw_ev (by omega) (by omega) fun y _ _ => hR _
          · obtain ⟨p, _, rfl⟩ := List.mem_map.mp hd
            and_intros
            exact hR
          · rw [List.nil_append, List.map_id']
            exact fin2 ys hy
        · refine lc_F (fun d => d) _ [] _ (by simp; omega) (fun d hd R hR => ?_) (fun d hd R hR => ?_) fun ys hy => ?_
          · obtain ⟨p, _, rfl⟩ := List.mem_map.mp hd
            and_intros
            refine draw_ev (by omega) (by omega) fun y _ _ => ?_
            and_intros
            exact hR _
          · obtain ⟨p, _, rfl⟩ := List.mem_map.mp hd
            and_intros
            exact hR
          · rw [List.nil_append, List.map_id']
            exact fin2 ys hy
end
end Pu
set_option Elab.async false
set_option linter.all false
set_option maxRecDepth 100000
set_option synthInstance.maxHeartbeats 0
set_option synthInstance.maxSize 100000
namespace Pu
open PySem PySem.Spec PyProof.Rows L2
section
def mskN (S : Nat → Bool) : Nat → Nat
  | 0 => 0
  | n + 1 => mskN S n + if S n = true then 2 ^ n else 0
theorem msk_lt {S : Nat → Bool} : ∀ n : Nat, mskN S n < 2 ^ n
  | 0 => Nat.one_pos
  | n + 1 => by
    have := msk_lt (S := S) n
    unfold mskN
    rw [Nat.pow_succ]
    split <;> omega
theorem msk_bit {S : Nat → Bool} : ∀ (n k : Nat), (mskN S n).testBit k = (decide (k < n) && S k)
  | 0, k => by simp [mskN]
  | n + 1, k => by
    have lt := msk_lt (S := S) n
    have ih := msk_bit (S := S) n k
    unfold mskN
    cases hS : S n with
    | false =>
      rw [if_neg (by simp), Nat.add_zero, ih]
      by_cases e : k = n
      · subst e; simp [hS]
      · by_cases l : k < n
        · rw [decide_eq_true l, decide_eq_true (show k < n + 1 by omega)]
        · rw [decide_eq_false l, decide_eq_false (show ¬ k < n + 1 by omega)]
    | true =>
      rw [if_pos rfl]
      by_cases e : k = n
      · subst e
        rw [Nat.add_comm, Nat.testBit_two_pow_add_eq, ih]
        simp [hS]
      · by_cases l : k < n
        · rw [Nat.add_comm, Nat.testBit_two_pow_add_gt l, ih, decide_eq_true l, decide_eq_true (show k < n + 1 by omega)]
        · rw [decide_eq_false (show ¬ k < n + 1 by omega), Bool.false_and]
          refine Nat.testBit_lt_two_pow (Nat.lt_of_lt_of_le (show mskN S n + 2 ^ n < 2 ^ (n + 1) by rw [Nat.pow_succ]; omega) (Nat.pow_le_pow_right (by decide) (by omega)))
theorem msk_or {S S' : Nat → Bool} {n : Nat} : mskN S n ||| mskN S' n = mskN (fun k => S k || S' k) n := by
  refine Nat.eq_of_testBit_eq fun k => ?_
  rw [Nat.testBit_or, msk_bit, msk_bit, msk_bit]
  cases decide (k < n) <;> simp
theorem msk_full {n : Nat} : mskN (fun _ => true) n = 2 ^ n - 1 := by
  induction n with
  | zero => rfl
  | succ n ih =>
    unfold mskN
    rw [ih, if_pos rfl, Nat.pow_succ]
    have := Nat.two_pow_pos n
    omega
theorem msk_eq {S S' : Nat → Bool} {n : Nat} (h : mskN S n = mskN S' n) {k : Nat} (hk : k < n) : S k = S' k := by
  have := congrArg (fun x => Nat.testBit x k) h
  have this : (mskN S n).testBit k = (mskN S' n).testBit k := this
  rw [msk_bit, msk_bit, decide_eq_true hk, Bool.true_and, Bool.true_and] at this
  exact this
open PySem in
theorem bor_nat (a b : Nat) : Builtin.bitOr (a : Int) (b : Int) = ((a ||| b : Nat) : Int) := by
  unfold Builtin.bitOr Builtin.bitAnd
  have h : ∀ c : Nat, decide (0 ≤ Builtin.bitNot (c : Int)) = false := fun c => decide_eq_false (by unfold Builtin.bitNot; omega)
  have n2 : ∀ x : Int, Builtin.bitNot (Builtin.bitNot x) = x := fun x => by unfold Builtin.bitNot; omega
  rw [h, h]
  show Builtin.bitNot (Builtin.bitNot (((Builtin.bitNot (Builtin.bitNot (a : Int))).toNat ||| (Builtin.bitNot (Builtin.bitNot (b : Int))).toNat : Nat) : Int)) = _
  rw [n2, n2, n2, Int.toNat_natCast, Int.toNat_natCast]
end
end Pu
set_option Elab.async false
set_option linter.all false
set_option maxRecDepth 100000
set_option synthInstance.maxHeartbeats 0
set_option synthInstance.maxSize 100000
namespace Pu
open PySem PySem.Spec PyProof.Rows L2
section
variable {Q : D → Prop} {n x y s a b w k e d i j z most : Int} {m : Nat} {M : Int} {ws need need' teams L C P : List (List Int)} {S v u g l t lot row : List Int} {dd X : D} {env : PEnv}
def crw (P : List (List Int)) : Nat → List (List Int)
  | 0 => [[]]
  | k + 1 => crw P k ++ ((crw P k).filter fun l => decide ((l.filter fun o => !P.contains [o, (k : Int)]).length = 0)).map fun l => l ++ [(k : Int)]
theorem crw_cons {P : List (List Int)} : ∀ k, ∃ R, crw P k = [] :: R
  | 0 => ⟨[], rfl⟩
  | k + 1 => by
    obtain ⟨R, e⟩ := crw_cons (P := P) k
    unfold crw
    rw [e]
    exact ⟨_, rfl⟩
theorem crw_len {P : List (List Int)} : ∀ k, (crw P k).length ≤ 2 ^ k
  | 0 => Nat.le_refl _
  | k + 1 => by
    have := crw_len (P := P) k
    have f := List.length_filter_le (fun l => decide ((l.filter fun o => !P.contains [o, (k : Int)]).length = 0)) (crw P k)
    unfold crw
    rw [List.length_append, List.length_map, Nat.pow_succ]; omega
theorem okT_snoc {P : List (List Int)} {x : Int} : ∀ {l : List Int}, okT P (l ++ [x]) = (okT P l && l.all fun o => P.contains [o, x])
  | [] => rfl
  | y :: l => by
    show ((l ++ [x]).all (fun z => P.contains [y, z]) && okT P (l ++ [x])) = ((l.all (fun z => P.contains [y, z]) && okT P l) && (P.contains [y, x] && l.all fun o => P.contains [o, x]))
    rw [okT_snoc, List.all_append]
    simp only [List.all_cons, List.all_nil, Bool.and_true]
    cases l.all (fun z => P.contains [y, z]) <;> cases P.contains [y, x] <;> cases okT P l <;> simp
theorem mem_crw {P : List (List Int)} : ∀ {k : Nat} {l : List Int}, l ∈ crw P k ↔ l ∈ rawLots k ∧ okT P l = true
  | 0, l => by
    rw [show crw P 0 = [[]] from rfl, show rawLots 0 = [[]] from rfl, List.mem_singleton]
    exact ⟨fun e => ⟨e, by rw [e]; rfl⟩, fun h => h.1⟩
  | k + 1, l => by
    rw [show rawLots (k + 1) = rawLots k ++ (rawLots k).map fun l => l ++ [(k : Int)] from rfl]
    unfold crw
    rw [List.mem_append, List.mem_append, mem_crw, List.mem_map, List.mem_map]
    have t : ∀ l' : List Int, decide ((l'.filter fun o => !P.contains [o, (k : Int)]).length = 0) = l'.all fun o => P.contains [o, (k : Int)] := fun l' => by
      rw [Bool.eq_iff_iff, decide_eq_true_iff, List.length_eq_zero_iff, List.filter_eq_nil_iff, List.all_eq_true]
      exact ⟨fun h o ho => by have := h o ho; simpa using this, fun h o ho => by rw [h o ho]; decide⟩
    constructor
    · rintro (⟨h1, h2⟩ | ⟨l', h1, rfl⟩)
      · exact ⟨.inl h1, h2⟩
      · obtain ⟨h2, h3⟩ := List.mem_filter.mp h1
        obtain ⟨h4, h5⟩ := mem_crw.mp h2
        rw [t] at h3
        exact ⟨.inr ⟨l', h4, rfl⟩, by rw [okT_snoc, h5, h3]; rfl⟩
    · rintro ⟨h1 | ⟨l', h1, rfl⟩, h2⟩
      · exact .inl ⟨h1, h2⟩
      · rw [okT_snoc, Bool.and_eq_true] at h2
        exact .inr ⟨l', List.mem_filter.mpr ⟨mem_crw.mpr ⟨h1, h2.1⟩, by rw [t]; exact h2.2⟩, rfl⟩
local macro_rules
  | `(tactic| and_intros) => `(tactic| (try simp only [Zaa, Zab, w_c, Zac, Zad, Zae, Zaf, Zag, Zah, Zai, Zaj, Zak, Zal, Zam, Zan, Zao, Zap, Zaq, Zar, Zas, Zat, Zau, Zav, Zaw, Zax, Zay, Zaz, ZaA, ZaB, ZaC, ZaD, ZaE, ZaF, ZaG, ZaH, ZaI, ZaJ, ZaK, ZaL, ZaM, ZaN, ZaO, ZaP, ZaQ, ZaR, ZaS, ZaT, ZaU, ZaV, ZaW, ZaX, ZaY, ZaZ, Za0, Za1, Za2, Za3, Za4, Za5, Za6, Za7, Za8, Za9, Zba, Zbb, Zbc, Zbd, Zbe, Zbf, Zbg, Zbh, Zbi, Zbj, Zbk, Zbl, Zbm, Zbn, Zbo, Zbp, Zbq, Zbr, Zbs, Zbt, Zbu, Zbv, Zbw, Zbx, Zby, Zbz, ZbA, List.length_cons, List.length_nil, Nat.reduceAdd, Nat.zero_add, ZbB, ZbC, ZbD, ZbE, y_W, ZbF, ZbG, ZbH, ZbI, ZbJ, ZbK, ZbL, ZbM, ZbN, ZbO, ZbP, ZbQ, ZbR, ZbS, sb1, sb2, sb3, sb4, sb5, sb6, sb7, sb8, sb9, ZbT, ZbU, ZbV, ZbW, ZbX, ZbY, ZbZ, Zb0, Zb1, Zb2, Zb3, Zb4, Zb5, Zb6, Zb7, List.map_id, id_eq, BEq.rfl, bne_self_eq_false, Zb8, Zb9, Zca, Zcb, Zcc, Zcd, Zce, Zcf, Zcg, Zch, Zci, Zcj, Zck, Zcl, Zcm, Zcn, Zco, Zcp, Zcq, Zcr, Zcs, Zct, Zcu, Zcv, Zcw, Zcx, Zcy, Zcz, ZcA, ZcB, ZcC, ZcD, true_and, and_true, Bool.and_self, Bool.and_true, Bool.true_and, Bool.not_true, Bool.not_false, Bool.false_eq_true, if_false, if_true, ite_true, ite_false, decide_true, decide_false, reduceIte, s_seqR, s_seqL, Zbb, w_make]))
theorem crowds_ev {k : Nat} (h : Prs k P) : FEv m__law_crowds [.int (k : Int), pvD P] (.lst (rowsD ((crw P k).drop 1))) := fun Q q => by
  have hs : 100000 ≤ sizeLine := by decide
  have k5 := h.k5
  have hPl : ∀ p ∈ P, p.length ≤ 1000 := fun p hp => by have := (h.ok p hp).2; omega
  have hPn : P.length ≤ 1000 := by have := h.len; omega
  unfold m__law_crowds fnM b__law_crowds
  simp only [env0, List.map_cons, List.map_nil, List.length_cons, List.length_nil, List.replicate_succ, List.replicate_zero, List.cons_append, List.nil_append, Nat.reduceSub, Nat.reduceAdd, Nat.zero_add, Zaa, Zab, w_c, Zac, Zad, Zae, Zaf, Zag, Zah, Zai, Zaj, Zak, Zal, Zam, Zan, Zao, Zap, Zaq, Zar, Zas, Zat, Zau, Zav, Zaw, Zax, Zay, Zaz, ZaA, ZaB, ZaC, ZaD, ZaE, ZaF, ZaG, ZaH, ZaI, ZaJ, ZaK, ZaL, ZaM, ZaN, ZaO, ZaP, ZaQ, ZaR, ZaS, ZaT, ZaU, ZaV, ZaW, ZaX, ZaY, ZaZ, Za0, Za1, Za2, Za3, Za4, Za5, Za6, Za7, Za8, Za9, Zba, Zbb, Zbc, Zbd, Zbe, Zbf, Zbg, Zbh, Zbi, Zbj, Zbk, Zbl, Zbm, Zbn, Zbo, Zbp, Zbq, Zbr, Zbs, Zbt, Zbu, Zbv, Zbw, Zbx, Zby, Zbz, ZbA, List.length_cons, List.length_nil, Nat.reduceAdd, Nat.zero_add, ZbB, ZbC, ZbD, ZbE, y_W, ZbF, ZbG, ZbH, ZbI, ZbJ, ZbK, ZbL, ZbM, ZbN, ZbO, ZbP, ZbQ, ZbR, ZbS, sb1, sb2, sb3, sb4, sb5, sb6, sb7, sb8, sb9, ZbT, ZbU, ZbV, ZbW, ZbX, ZbY, ZbZ, Zb0, Zb1, Zb2, Zb3, Zb4, Zb5, Zb6, Zb7, List.map_id, id_eq, BEq.rfl, bne_self_eq_false, Zb8, Zb9, Zca, Zcb, Zcc, Zcd, Zce, Zcf, Zcg, Zch, Zci, Zcj, Zck, Zcl, Zcm, Zcn, Zco, Zcp, Zcq, Zcr, Zcs, Zct, Zcu, Zcv, Zcw, Zcx, Zcy, Zcz, ZcA, ZcB, ZcC, ZcD, true_and, and_true, Bool.and_self, Bool.and_true, Bool.true_and, Bool.not_true, Bool.not_false, Bool.false_eq_true, if_false, if_true, ite_true, ite_false, decide_true, decide_false, reduceIte, s_seqR, s_seqL, Zbb, w_make]
  refine ⟨by omega, by omega, y_rng (n := (k : Int)) (by omega) (by omega) ?_⟩
  refine loop_I (fun u z env => ∃ e3 e4 e5, env = [some (.int (k : Int)), some (pvD P), some (.lst (rowsD (crw P u.length))), e3, e4, e5]) _ ⟨_, _, _, rfl⟩ ?_ ?_
  · rintro u w z env eu ⟨e3, e4, e5, rfl⟩
    obtain ⟨ew, ul, _⟩ := range_pre eu
    subst ew
    have cl := crw_len (P := P) u.length
    have c32 : 2 ^ u.length ≤ 2 ^ 5 := Nat.pow_le_pow_right (by decide) (by omega)
    and_intros
    show lcLoop _ _ _ _ ((crw P u.length).map rD) _ _
    refine lc_FT (e := rD) (fun l => decide ((l.filter fun o => !P.contains [o, ((u.length : Nat) : Int)]).length = 0)) (fun l => l ++ [((u.length : Nat) : Int)]) rD (by omega) (fun l hl R N k1 k2 => ?_) ?_
    · have l5 := rawLots_short _ _ (mem_crw.mp hl).1
      and_intros
      refine lc_FT (e := D.int) (fun o => !P.contains [o, ((u.length : Nat) : Int)]) id D.int (by omega) (fun o ho R2 N2 j1 j2 => ?_) ?_
      · and_intros
        refine ⟨by omega, ?_⟩
        refine y_inP (p := [o, ((u.length : Nat) : Int)]) (by simp) hPl hPn ?_
        rw [Bool.true_xor]
        cases hb : P.contains [o, ((u.length : Nat) : Int)] with
        | true =>
          and_intros
          exact j2 (by rw [hb]; rfl)
        | false =>
          and_intros
          exact j1 (by rw [hb]; rfl)
      rw [List.map_id]
      and_intros
      by_cases e : (l.filter fun o => !P.contains [o, ((u.length : Nat) : Int)]).length = 0
      · rw [if_pos (by rw [e]; rfl)]
        exact ⟨by omega, y_addR (r := l) (s := [((u.length : Nat) : Int)]) (by simp; omega) (k1 (decide_eq_true e))⟩
      · rw [if_neg (by simpa using e)]
        exact k2 (decide_eq_false e)
    · have f := List.length_filter_le (fun l => decide ((l.filter fun o => !P.contains [o, ((u.length : Nat) : Int)]).length = 0)) (crw P u.length)
      refine ⟨immL_rows _, immL_rows _, by rw [rowsD, List.length_map, List.length_map, List.length_map]; omega, some (.int (u.length : Nat)), e4, e5, ?_⟩
      rw [show (u ++ [((u.length : Nat) : Int)]).length = u.length + 1 by simp]
      rw [show rowsD (crw P (u.length + 1)) = rowsD (crw P u.length) ++ (((crw P u.length).filter fun l => decide ((l.filter fun o => !P.contains [o, ((u.length : Nat) : Int)]).length = 0)).map fun l => l ++ [((u.length : Nat) : Int)]).map rD from List.map_append]
  · rintro env ⟨e3, e4, e5, rfl⟩
    rw [rangeI_len, Int.toNat_natCast]
    and_intros
    refine ⟨immL_rows _, ?_⟩
    rw [show (some (1 : Int)) = some ((1 : Nat) : Int) from rfl, cut_drop, show (rowsD (crw P k)).drop 1 = rowsD ((crw P k).drop 1) from by unfold rowsD; rw [List.map_drop]]
    exact q
end
end Pu
set_option Elab.async false
set_option linter.all false
set_option maxRecDepth 100000
set_option synthInstance.maxHeartbeats 0
set_option synthInstance.maxSize 100000
namespace Pu
open PySem PySem.Spec PyProof.Rows L2
section
variable {Q : D → Prop} {n x y s a b w e d i j z most : Int} {M : Int} {ws need need' teams L C P : List (List Int)} {S v u g l t lot row : List Int} {dd X : D} {env : PEnv}
def mrk (k : Nat) (P : List (List Int)) : List (List Int) := ((List.range k).map fun w : Nat => [(w : Int)]) ++ P
def mkOf (k : Nat) (P C : List (List Int)) : Nat := mskN (fun i => C.any fun l => within ((mrk k P).getD i []) l) (mrk k P).length
theorem mk_snoc {k : Nat} : mkOf k P C ||| mkOf k P [l] = mkOf k P (C ++ [l]) := by
  unfold mkOf
  rw [msk_or]
  congr 1
  funext i
  rw [List.any_append]
theorem mk_full {k : Nat} : mkOf k P C = 2 ^ (mrk k P).length - 1 ↔ Cvr C (mrk k P) := by
  rw [← msk_full]
  constructor
  · intro h l hl
    obtain ⟨i, hi, rfl⟩ := List.getElem_of_mem hl
    have := msk_eq h hi
    obtain ⟨c, hc, hw⟩ := List.any_eq_true.mp this
    rw [List.getD_eq_getElem?_getD, List.getElem?_eq_getElem hi] at hw
    exact ⟨c, hc, hw⟩
  · intro h
    refine Nat.eq_of_testBit_eq fun i => ?_
    unfold mkOf
    rw [msk_bit, msk_bit]
    by_cases hi : i < (mrk k P).length
    · rw [decide_eq_true hi, Bool.true_and, Bool.true_and]
      obtain ⟨c, hc, hw⟩ := h ((mrk k P)[i]) (List.getElem_mem _)
      refine List.any_eq_true.mpr ⟨c, hc, ?_⟩
      rw [List.getD_eq_getElem?_getD, List.getElem?_eq_getElem hi]; exact hw
    · rw [decide_eq_false hi]; rfl
theorem mrk_ndd {k : Nat} : Cvr C (mrk k P) ↔ Cvr C (ndd k P) := by
  unfold mrk ndd Cvr
  constructor
  · intro h l hl
    exact h l (by rcases List.mem_append.mp hl with z | z; exact List.mem_append_right _ z; exact List.mem_append_left _ z)
  · intro h l hl
    exact h l (by rcases List.mem_append.mp hl with z | z; exact List.mem_append_right _ z; exact List.mem_append_left _ z)
theorem few_least {k : Nat} (h : Prs k P) {C : List (List Int)} (hc : Cvr C (ndd k P)) (hC : ∀ l ∈ C, l ∈ crw P k) : (fewL k P).length ≤ C.length := by
  obtain ⟨i, L, i6, hL, e, hn⟩ := fewL_spec h
  have hl := (cov_sound _ hL).2.2
  rw [e]
  have ne : C.length ≠ 0 := fun z => by
    have z := List.eq_nil_of_length_eq_zero z
    subst z
    obtain ⟨t, ht, _⟩ := hc [(0 : Int)] (List.mem_append_right _ (List.mem_map.mpr ⟨0, List.mem_range.mpr (by have := h.k1; omega), rfl⟩))
    cases ht
  have nz : cov (tmsL k P) C.length (ndd k P) ≠ none := cov_complete C.length hc (fun t ht => by
    obtain ⟨a, b⟩ := mem_crw.mp (hC t ht)
    exact List.mem_filter.mpr ⟨lotsL_perm.mem_iff.mpr (by rw [Int.toNat_natCast]; exact a), b⟩) (Nat.le_refl _)
  by_cases lt : C.length < 1 + i
  · exact absurd (by have := hn (C.length - 1) (by omega); rwa [show 1 + (C.length - 1) = C.length by omega] at this) nz
  · omega
theorem few_there {k : Nat} (h : Prs k P) : ∃ C, Cvr C (ndd k P) ∧ (∀ l ∈ C, l ∈ (crw P k).drop 1) ∧ C.length ≤ (fewL k P).length := by
  obtain ⟨i, L, i6, hL, e, hn⟩ := fewL_spec h
  obtain ⟨c1, c2, c3⟩ := cov_sound _ hL
  rw [e]
  refine ⟨L.filter fun l => decide (l ≠ []), fun x hx => ?_, fun l hl => ?_, List.length_filter_le _ _⟩
  · obtain ⟨t, ht, hw⟩ := c1 x hx
    refine ⟨t, List.mem_filter.mpr ⟨ht, decide_eq_true fun z => ?_⟩, hw⟩
    subst z
    have xn : x ≠ [] := by
      rcases List.mem_append.mp hx with z | z
      · have := (h.ok x z).2
        intro e; rw [e] at this; cases this
      · obtain ⟨w, _, rfl⟩ := List.mem_map.mp z; simp
    cases x with
    | nil => exact xn rfl
    | cons a x =>
      have := List.all_eq_true.mp hw a List.mem_cons_self
      simp at this
  · obtain ⟨h1, h2⟩ := List.mem_filter.mp hl
    have h2 : l ≠ [] := of_decide_eq_true h2
    obtain ⟨a, b⟩ := List.mem_filter.mp (c2 l h1)
    have : l ∈ crw P k := mem_crw.mpr ⟨by have := lotsL_perm.mem_iff.mp a; rwa [Int.toNat_natCast] at this, b⟩
    obtain ⟨R, eR⟩ := crw_cons (P := P) k
    rw [eR] at this ⊢
    rcases List.mem_cons.mp this with z | z
    · exact absurd z h2
    · exact z
end
end Pu
set_option Elab.async false
set_option linter.all false
set_option maxRecDepth 100000
set_option synthInstance.maxHeartbeats 0
set_option synthInstance.maxSize 100000
namespace Pu
open PySem PySem.Spec PyProof.Rows L2
section
variable {Q : D → Prop} {n x y s a b w e d i j z most : Int} {M : Int} {ws need need' teams L C P : List (List Int)} {S v u g l t lot row : List Int} {dd X : D} {env : PEnv}
theorem sum_msk {S : Nat → Bool} : ∀ n : Nat, (((List.range n).filter S).map fun i : Nat => (1 : Int) * 2 ^ i).sum = ((mskN S n : Nat) : Int)
  | 0 => rfl
  | n + 1 => by
    rw [List.range_succ, List.filter_append, List.map_append, List.sum_append, sum_msk n]
    rw [show mskN S (n + 1) = mskN S n + if S n = true then 2 ^ n else 0 from rfl]
    cases h : S n with
    | true => simp [List.filter, h]
    | false => simp [List.filter, h]
theorem sum_rng {S : Nat → Bool} {m : Nat} : (((rangeI (m : Int)).filter fun i => S i.toNat).map fun i : Int => (1 : Int) * 2 ^ i.toNat).sum = ((mskN S m : Nat) : Int) := by
  rw [← sum_msk]
  unfold rangeI
  rw [Int.toNat_natCast, List.filter_map, List.map_map]
  rfl
def bLs (K : List Nat) : List (Int × Unit) := K.map fun x : Nat => ((x : Int), ())
def vT (_ : Unit) : D := .bl true
def lyD (K : List Nat) : D := mkN (eNL D.int vT (bLs K))
theorem mk_nil {k : Nat} : mkOf k P [] = 0 := by
  have : ∀ n : Nat, mskN (fun _ => false) n = 0 := fun n => by
    induction n with
    | zero => rfl
    | succ n ih => unfold mskN; rw [ih]; simp
  exact this _
theorem mem_bLs {K : List Nat} {x : Nat} : ((x : Int)) ∈ (bLs K).map (·.1) ↔ x ∈ K := by
  unfold bLs
  rw [List.map_map, List.mem_map]
  constructor
  · rintro ⟨y, hy, e⟩
    have e : (y : Int) = (x : Int) := e
    rw [show x = y by omega]; exact hy
  · exact fun h => ⟨x, h, rfl⟩
theorem nd_bLs {K : List Nat} (h : K.Nodup) : ((bLs K).map (·.1)).Nodup := by
  unfold bLs
  rw [List.map_map, List.Nodup, List.pairwise_map]
  exact h.imp fun h e => h (by have e : ((_ : Nat) : Int) = ((_ : Nat) : Int) := e; omega)
local macro_rules
  | `(tactic| and_intros) => `(tactic| (try simp only [Zaa, Zab, w_c, Zac, Zad, Zae, Zaf, Zag, Zah, Zai, Zaj, Zak, Zal, Zam, Zan, Zao, Zap, Zaq, Zar, Zas, Zat, Zau, Zav, Zaw, Zax, Zay, Zaz, ZaA, ZaB, ZaC, ZaD, ZaE, ZaF, ZaG, ZaH, ZaI, ZaJ, ZaK, ZaL, ZaM, ZaN, ZaO, ZaP, ZaQ, ZaR, ZaS, ZaT, ZaU, ZaV, ZaW, ZaX, ZaY, ZaZ, Za0, Za1, Za2, Za3, Za4, Za5, Za6, Za7, Za8, Za9, Zba, Zbb, Zbc, Zbd, Zbe, Zbf, Zbg, Zbh, Zbi, Zbj, Zbk, Zbl, Zbm, Zbn, Zbo, Zbp, Zbq, Zbr, Zbs, Zbt, Zbu, Zbv, Zbw, Zbx, Zby, Zbz, ZbA, List.length_cons, List.length_nil, Nat.reduceAdd, Nat.zero_add, ZbB, ZbC, ZbD, ZbE, y_W, ZbF, ZbG, ZbH, ZbI, ZbJ, ZbK, ZbL, ZbM, ZbN, ZbO, ZbP, ZbQ, ZbR, ZbS, sb1, sb2, sb3, sb4, sb5, sb6, sb7, sb8, sb9, ZbT, ZbU, ZbV, ZbW, ZbX, ZbY, ZbZ, Zb0, Zb1, Zb2, Zb3, Zb4, Zb5, Zb6, Zb7, List.map_id, id_eq, BEq.rfl, bne_self_eq_false, Zb8, Zb9, Zca, Zcb, Zcc, Zcd, Zce, Zcf, Zcg, Zch, Zci, Zcj, Zck, Zcl, Zcm, Zcn, Zco, Zcp, Zcq, Zcr, Zcs, Zct, Zcu, Zcv, Zcw, Zcx, Zcy, Zcz, ZcA, ZcB, ZcC, ZcD, true_and, and_true, Bool.and_self, Bool.and_true, Bool.true_and, Bool.not_true, Bool.not_false, Bool.false_eq_true, if_false, if_true, ite_true, ite_false, decide_true, decide_false, reduceIte, s_seqR, s_seqL, Zbb, w_make, w_putN, w_ng2, w_dn1, w_setMv]))
theorem law_fewest_ev {k : Nat} (h : Prs k P) : FEv m__law_fewest [.int (k : Int), pvD P] (.int ((fewL k P).length : Nat)) := fun Q q => by
  have hs : 100000 ≤ sizeLine := by decide
  have k5 := h.k5
  have hl := h.len
  have ml : (mrk k P).length ≤ 15 := by unfold mrk; rw [List.length_append, List.length_map, List.length_range]; omega
  unfold m__law_fewest fnM b__law_fewest
  simp only [env0, List.map_cons, List.map_nil, List.length_cons, List.length_nil, List.replicate_succ, List.replicate_zero, List.cons_append, List.nil_append, Nat.reduceSub, Nat.reduceAdd, Nat.zero_add, Zaa, Zab, w_c, Zac, Zad, Zae, Zaf, Zag, Zah, Zai, Zaj, Zak, Zal, Zam, Zan, Zao, Zap, Zaq, Zar, Zas, Zat, Zau, Zav, Zaw, Zax, Zay, Zaz, ZaA, ZaB, ZaC, ZaD, ZaE, ZaF, ZaG, ZaH, ZaI, ZaJ, ZaK, ZaL, ZaM, ZaN, ZaO, ZaP, ZaQ, ZaR, ZaS, ZaT, ZaU, ZaV, ZaW, ZaX, ZaY, ZaZ, Za0, Za1, Za2, Za3, Za4, Za5, Za6, Za7, Za8, Za9, Zba, Zbb, Zbc, Zbd, Zbe, Zbf, Zbg, Zbh, Zbi, Zbj, Zbk, Zbl, Zbm, Zbn, Zbo, Zbp, Zbq, Zbr, Zbs, Zbt, Zbu, Zbv, Zbw, Zbx, Zby, Zbz, ZbA, List.length_cons, List.length_nil, Nat.reduceAdd, Nat.zero_add, ZbB, ZbC, ZbD, ZbE, y_W, ZbF, ZbG, ZbH, ZbI, ZbJ, ZbK, ZbL, ZbM, ZbN, ZbO, ZbP, ZbQ, ZbR, ZbS, sb1, sb2, sb3, sb4, sb5, sb6, sb7, sb8, sb9, ZbT, ZbU, ZbV, ZbW, ZbX, ZbY, ZbZ, Zb0, Zb1, Zb2, Zb3, Zb4, Zb5, Zb6, Zb7, List.map_id, id_eq, BEq.rfl, bne_self_eq_false, Zb8, Zb9, Zca, Zcb, Zcc, Zcd, Zce, Zcf, Zcg, Zch, Zci, Zcj, Zck, Zcl, Zcm, Zcn, Zco, Zcp, Zcq, Zcr, Zcs, Zct, Zcu, Zcv, Zcw, Zcx, Zcy, Zcz, ZcA, ZcB, ZcC, ZcD, true_and, and_true, Bool.and_self, Bool.and_true, Bool.true_and, Bool.not_true, Bool.not_false, Bool.false_eq_true, if_false, if_true, ite_true, ite_false, decide_true, decide_false, reduceIte, s_seqR, s_seqL, Zbb, w_make, w_putN, w_ng2, w_dn1, w_setMv]
  refine y_rng (n := (k : Int)) (by omega) (by omega) ?_
  refine lc_M (e := D.int) (fun w => [w]) rD (by rw [rangeI_len]; omega) (fun w hw R hR => ?_) ?_
  · and_intros
    exact ⟨by omega, hR⟩
  refine .inl ⟨immL_rows P, ?_⟩
  have en : ((rangeI (k : Int)).map fun w => [w]).map rD ++ rowsD P = rowsD (mrk k P) := by
    unfold mrk rangeI
    rw [Int.toNat_natCast, rowsD, rowsD, List.map_append, List.map_map, List.map_map, List.map_map]; rfl
  refine ⟨immL_rows _, immL_rows P, by rw [rowsD, List.length_map, List.length_map, List.length_map, rangeI_len]; omega, ?_⟩
  rw [en]
  and_intros
  refine ⟨by omega, crowds_ev h _ ?_⟩
  have cl : ((crw P k).drop 1).length ≤ 32 := by
    have := crw_len (P := P) k
    have c32 : 2 ^ k ≤ 2 ^ 5 := Nat.pow_le_pow_right (by decide) (by omega)
    rw [List.length_drop]; omega
  have cs : ∀ l ∈ (crw P k).drop 1, l.length ≤ 5 := fun l hl => by
    have := rawLots_short _ _ (mem_crw.mp (List.mem_of_mem_drop hl)).1
    omega
  generalize hC : (crw P k).drop 1 = Cr at cl cs
  and_intros
  show sLoop _ _ (Cr.map rD) _ _
  refine loop_T (e := rD) (fun u z env => ∃ e4, env = [some (.int (k : Int)), some (pvD P), some (.lst (rowsD (mrk k P))), some (.lst (dInts (u.map fun l => ((mkOf k P [l] : Nat) : Int)))), e4, none, none, none, none, none, none, none]) Cr ⟨_, rfl⟩ ?_ ?_
  · rintro u l z env eu ⟨e4, rfl⟩
    have l5 := cs l (by rw [← eu]; simp)
    have ul : u.length ≤ 32 := by have := congrArg List.length eu; rw [List.length_append, List.length_cons] at this; omega
    and_intros
    refine y_rng (n := ((mrk k P).length : Int)) (by omega) (by omega) ?_
    refine lc_FT (e := D.int) (fun i => within ((mrk k P).getD i.toNat []) l) (fun i : Int => (1 : Int) * 2 ^ i.toNat) D.int (by rw [rangeI_len]; omega) (fun i hi R N k1 k2 => ?_) ?_
    · have hi := mem_rangeI.mp hi
      have hil : i.toNat < (mrk k P).length := by omega
      have hx : (mrk k P).getD i.toNat [] ∈ mrk k P := by rw [List.getD_eq_getElem?_getD, List.getElem?_eq_getElem hil]; exact List.getElem_mem _
      have hx2 : ((mrk k P).getD i.toNat []).length ≤ 2 := by
        rcases List.mem_append.mp hx with z | z
        · obtain ⟨w, _, e⟩ := List.mem_map.mp z
          rw [← e]; simp
        · have := (h.ok _ z).2; omega
      and_intros
      refine ixL_some (d := rD ((mrk k P).getD i.toNat [])) hi.1 (by unfold rowsD; rw [List.getElem?_map, List.getD_eq_getElem?_getD, List.getElem?_eq_getElem hil]; rfl) ?_
      generalize (mrk k P).getD i.toNat [] = mm at hx2 k1 k2
      and_intros
      refine lc_FT (e := D.int) (fun o => !l.contains o) id D.int (by omega) (fun o ho R2 N2 j1 j2 => ?_) ?_
      · and_intros
        cases hb : l.contains o with
        | true => exact j2 (by rw [hb]; rfl)
        | false => exact j1 (by rw [hb]; rfl)
      rw [List.map_id]
      and_intros
      have t : decide ((mm.filter fun o => !l.contains o).length = 0) = within mm l := by
        unfold within
        rw [Bool.eq_iff_iff, decide_eq_true_iff, List.length_eq_zero_iff, List.filter_eq_nil_iff, List.all_eq_true]
        exact ⟨fun h o ho => by have := h o ho; simpa using this, fun h o ho => by rw [h o ho]; decide⟩
      cases hw : within mm l with
      | true =>
        rw [hw] at t
        have t := of_decide_eq_true t
        rw [if_pos (by rw [t]; rfl)]
        have := k1 hw
        refine ⟨?_, this⟩
        show CPow _ _
        unfold CPow
        omega
      | false =>
        rw [hw] at t
        have t := of_decide_eq_false t
        rw [if_neg (by simpa using t)]
        exact k2 hw
    refine ⟨_, rfl, ?_⟩
    rw [show (((rangeI ((mrk k P).length : Int)).filter fun i => within ((mrk k P).getD i.toNat []) l).map fun i : Int => (1 : Int) * 2 ^ i.toNat).sum = ((mkOf k P [l] : Nat) : Int) from by
      rw [sum_rng (S := fun i => within ((mrk k P).getD i []) l)]
      unfold mkOf
      congr 2
      funext i
      simp]
    and_intros
    exact ⟨by rw [List.length_map]; omega, some (rD l), by rw [List.map_append]; rw [show dInts ((u.map fun l => ((mkOf k P [l] : Nat) : Int)) ++ [l].map fun l => ((mkOf k P [l] : Nat) : Int)) = dInts (u.map fun l => ((mkOf k P [l] : Nat) : Int)) ++ [D.int ((mkOf k P [l] : Nat) : Int)] from List.map_append]⟩
  · rintro env ⟨e4, rfl⟩
    and_intros
    unfold dispN1
    rw [keyI.nk]
    refine ⟨keyI.dep 0, ?_⟩
    refine y_rng (n := 12) (by decide) (by decide) ?_
    refine loop_I (fun u z env => ∃ K e4 e6 e7 e8, env = [some (.int (k : Int)), some (pvD P), some (.lst (rowsD (mrk k P))), some (.lst (dInts (Cr.map fun l => ((mkOf k P [l] : Nat) : Int)))), e4, some (lyD K), e6, e7, e8, none, none, none] ∧ K.Nodup ∧ (∀ x, x ∈ K ↔ ∃ C : List (List Int), C.length = u.length ∧ (∀ c ∈ C, c ∈ Cr) ∧ x = mkOf k P C) ∧ (∀ C : List (List Int), C.length < u.length → (∀ c ∈ C, c ∈ Cr) → ¬ Cvr C (mrk k P))) _ ⟨[0], e4, none, none, none, rfl, by simp, fun x => ?_, fun C hC => absurd hC (Nat.not_lt_zero _)⟩ ?_ ?_
    · rw [List.mem_singleton]
      constructor
      · intro e
        exact ⟨[], rfl, fun _ h => (nomatch h), by rw [mk_nil]; exact e⟩
      · rintro ⟨C, hC, _, e⟩
        have := List.eq_nil_of_length_eq_zero hC
        subst this
        rw [e, mk_nil]
    · rintro u t z env eu ⟨K, e4, e6, e7, e8, rfl, nd, hK, hno⟩
      obtain ⟨et, ul, _⟩ := range_pre eu
      subst et
      (try rw [w_sif])
      and_intros
      refine ⟨by show CPow _ _; unfold CPow; omega, ?_⟩
      have ef : (1 : Int) * 2 ^ (((mrk k P).length : Int)).toNat - 1 = ((2 ^ (mrk k P).length - 1 : Nat) : Int) := by
        rw [Int.toNat_natCast, Int.one_mul]
        have h1 := Nat.two_pow_pos (mrk k P).length
        have h2 : ((2 ^ (mrk k P).length : Nat) : Int) = (2 : Int) ^ (mrk k P).length := by rw [Int.natCast_pow]; rfl
        omega
      rw [ef]
      refine KeyE.in_ev keyI nv_eN ?_
      rw [Bool.false_xor]
      by_cases hf : 2 ^ (mrk k P).length - 1 ∈ K
      · rw [decide_eq_true (mem_bLs.mpr hf)]
        and_intros
        obtain ⟨C, c1, c2, c3⟩ := (hK _).mp hf
        have cv := mk_full.mp c3.symm
        have le := few_least h (mrk_ndd.mp cv) fun l hl => by
          have := c2 l hl
          rw [← hC] at this
          exact List.mem_of_mem_drop this
        obtain ⟨C', d1, d2, d3⟩ := few_there h
        have ge : ¬ C'.length < u.length := fun lt => hno C' lt (fun c hc => by rw [← hC]; exact d2 c hc) (mrk_ndd.mpr d1)
        rw [show ((u.length : Nat) : Int) = (((fewL k P).length : Nat) : Int) by omega]
        exact q
      · rw [decide_eq_false (fun z => hf (mem_bLs.mp z))]
        and_intros
        have hno2 : ∀ C : List (List Int), C.length < (u ++ [((u.length : Nat) : Int)]).length → (∀ c ∈ C, c ∈ Cr) → ¬ Cvr C (mrk k P) := fun C hl hc hv => by
          by_cases e : C.length < u.length
          · exact hno C e hc hv
          · have e : C.length = u.length := by simp at hl; omega
            exact hf ((hK _).mpr ⟨C, e, hc, (mk_full.mpr hv).symm⟩)
        refine y_forN rfl nv_eN (eN_imm fun _ => rfl) ?_
        show sLoop _ _ ((eNL D.int vT (bLs K)).map (·.1)) _ _
        rw [show (eNL D.int vT (bLs K)).map (·.1) = K.map fun x : Nat => D.int (x : Int) from by unfold eNL bLs; rw [List.map_map, List.map_map]; rfl]
        have up : ∀ (a : Nat) (l : List Int), a ∈ K → l ∈ Cr → a ||| mkOf k P [l] < 32768 := fun a l ha hl => by
          obtain ⟨C, _, _, e⟩ := (hK a).mp ha
          rw [e, mk_snoc]
          have := msk_lt (S := fun i => (C ++ [l]).any fun l => within ((mrk k P).getD i []) l) (mrk k P).length
          exact Nat.lt_of_lt_of_le this (Nat.le_trans (Nat.pow_le_pow_right (by decide) ml) (by decide))
        refine loop_T (e := fun x : Nat => D.int (x : Int)) (fun v z env => ∃ K2 e4 e8, env = [some (.int (k : Int)), some (pvD P), some (.lst (rowsD (mrk k P))), some (.lst (dInts (Cr.map fun l => ((mkOf k P [l] : Nat) : Int)))), e4, some (lyD K), some (.int (u.length : Nat)), some (lyD K2), e8, none, none, none] ∧ K2.Nodup ∧ (∀ x, x ∈ K2 ↔ ∃ a ∈ v, ∃ l ∈ Cr, x = a ||| mkOf k P [l])) K ⟨[], e4, e8, rfl, List.nodup_nil, fun x => by simp⟩ ?_ ?_
        · rintro v a z2 env ev ⟨K2, e4, e8, rfl, nd2, hK2⟩
          have haK : a ∈ K := by rw [← ev]; simp
          have hvK : ∀ a ∈ v, a ∈ K := fun a h => by rw [← ev]; simp [h]
          and_intros
          rw [show dInts (Cr.map fun l => ((mkOf k P [l] : Nat) : Int)) = Cr.map fun l => D.int ((mkOf k P [l] : Nat) : Int) from by unfold dInts; rw [List.map_map]; rfl]
          refine loop_T (e := fun l => D.int ((mkOf k P [l] : Nat) : Int)) (fun v2 z env => ∃ K3 e4, env = [some (.int (k : Int)), some (pvD P), some (.lst (rowsD (mrk k P))), some (.lst (Cr.map fun l => D.int ((mkOf k P [l] : Nat) : Int))), e4, some (lyD K), some (.int (u.length : Nat)), some (lyD K3), some (.int (a : Int)), none, none, none] ∧ K3.Nodup ∧ (∀ x, x ∈ K3 ↔ x ∈ K2 ∨ ∃ l ∈ v2, x = a ||| mkOf k P [l])) Cr ⟨K2, e4, rfl, nd2, fun x => by simp⟩ ?_ ?_
          · rintro v2 l z3 env ev2 ⟨K3, e4, rfl, nd3, hK3⟩
            have hlC : l ∈ Cr := by rw [← ev2]; simp
            have hvC : ∀ l ∈ v2, l ∈ Cr := fun l h => by rw [← ev2]; simp [h]
            have k3l : K3.length ≤ 32768 := by
              have := nodup_leL (L := List.range 32768) nd3 fun x hx => by
                rw [List.mem_range]
                rcases (hK3 x).mp hx with z | ⟨l, hl, e⟩
                · obtain ⟨a', ha', l', hl', e⟩ := (hK2 x).mp z
                  rw [e]; exact up a' l' (hvK a' ha') hl'
                · rw [e]; exact up a l haK (hvC l hl)
              rw [List.length_range] at this; exact this
            and_intros
            rw [bor_nat]
            generalize hx : a ||| mkOf k P [l] = x
            have bl : (bLs K3).length < 100000 := by unfold bLs; rw [List.length_map]; omega
            by_cases hin : x ∈ K3
            · refine KeyE.set_ev keyI (v := vT) (r := ()) (x := (x : Int)) nv_eN (nd_bLs nd3) bl (.inr (by unfold bLs; exact List.mem_map.mpr ⟨x, hin, rfl⟩)) ?_
              rw [if_pos (mem_bLs.mpr hin)]
              refine ⟨K3, _, rfl, nd3, fun y => ?_⟩
              rw [hK3]
              constructor
              · rintro (z | ⟨l', hl', e⟩)
                · exact .inl z
                · exact .inr ⟨l', List.mem_append_left _ hl', e⟩
              · rintro (z | ⟨l', hl', e⟩)
                · exact .inl z
                · rcases List.mem_append.mp hl' with w | w
                  · exact .inr ⟨l', w, e⟩
                  · rw [List.mem_singleton.mp w, hx] at e
                    rw [e]; exact (hK3 x).mp hin
            · refine KeyE.set_ev keyI (v := vT) (r := ()) (x := (x : Int)) nv_eN (nd_bLs nd3) bl (.inl fun z => hin (mem_bLs.mp z)) ?_
              rw [if_neg fun z => hin (mem_bLs.mp z)]
              refine ⟨K3 ++ [x], some (.int ((mkOf k P [l] : Nat) : Int)), by rw [show lyD (K3 ++ [x]) = mkN (eNL D.int vT (bLs K3 ++ [((x : Int), ())])) from by unfold lyD bLs; rw [List.map_append]; rfl], ?_, fun y => ?_⟩
              · exact List.nodup_append.mpr ⟨nd3, List.nodup_cons.mpr ⟨(fun h => nomatch h), List.nodup_nil⟩, fun a ha b hb e => hin (by rw [← List.mem_singleton.mp hb, ← e]; exact ha)⟩
              · rw [List.mem_append, hK3, List.mem_singleton]
                constructor
                · rintro ((z | ⟨l', hl', e⟩) | z)
                  · exact .inl z
                  · exact .inr ⟨l', List.mem_append_left _ hl', e⟩
                  · exact .inr ⟨l, by simp, by rw [hx]; exact z⟩
                · rintro (z | ⟨l', hl', e⟩)
                  · exact .inl (.inl z)
                  · rcases List.mem_append.mp hl' with w | w
                    · exact .inl (.inr ⟨l', w, e⟩)
                    · rw [List.mem_singleton.mp w, hx] at e
                      exact .inr e
          · rintro env ⟨K3, e4, rfl, nd3, hK3⟩
            refine ⟨K3, e4, some (.int (a : Int)), ?_, nd3, fun x => ?_⟩
            · rfl
            · rw [hK3, hK2]
              constructor
              · rintro (⟨a', ha', l', hl', e⟩ | ⟨l', hl', e⟩)
                · exact ⟨a', List.mem_append_left _ ha', l', hl', e⟩
                · exact ⟨a, by simp, l', hl', e⟩
              · rintro ⟨a', ha', l', hl', e⟩
                rcases List.mem_append.mp ha' with w | w
                · exact .inl ⟨a', w, l', hl', e⟩
                · rw [List.mem_singleton.mp w] at e
                  exact .inr ⟨l', hl', e⟩
        · rintro env ⟨K2, e4, e8, rfl, nd2, hK2⟩
          and_intros
          refine ⟨K2, _, _, _, _, rfl, nd2, fun x => ?_, hno2⟩
          rw [hK2]
          constructor
          · rintro ⟨a, ha, l, hl, e⟩
            obtain ⟨C, c1, c2, c3⟩ := (hK a).mp ha
            refine ⟨C ++ [l], by simp [c1], fun c hc => ?_, by rw [e, c3, mk_snoc]⟩
            rcases List.mem_append.mp hc with z | z
            · exact c2 c z
            · rw [List.mem_singleton.mp z]; exact hl
          · rintro ⟨C, c1, c2, c3⟩
            obtain ⟨C', l, rfl⟩ : ∃ C' l, C = C' ++ [l] := ⟨C.dropLast, C.getLast (by intro z; rw [z] at c1; simp at c1), (List.dropLast_concat_getLast _).symm⟩
            refine ⟨mkOf k P C', (hK _).mpr ⟨C', by simpa using c1, fun c hc => c2 c (List.mem_append_left _ hc), rfl⟩, l, c2 l (by simp), by rw [c3, mk_snoc]⟩
    · rintro env ⟨K, e4, e6, e7, e8, rfl, nd, hK, hno⟩
      exfalso
      obtain ⟨C', d1, d2, d3⟩ := few_there h
      have f6 := (few_ok h).2.1
      exact hno C' (by rw [rangeI_len]; show C'.length < 12; omega) (fun c hc => by rw [← hC]; exact d2 c hc) (mrk_ndd.mpr d1)
end
end Pu
set_option Elab.async false
set_option linter.all false
set_option maxRecDepth 100000
set_option synthInstance.maxHeartbeats 0
set_option synthInstance.maxSize 100000
namespace Pu
open PySem PySem.Spec PyProof.Rows L2
section
variable {Q : D → Prop} {n x y s a b w e d i j z most : Int} {M : Int} {ws need need' teams L C P : List (List Int)} {S v u g l t lot row : List Int} {dd X : D} {env : PEnv}
theorem few_is {k : Nat} (h : Prs k P) {c : Nat} (h1 : (cov (tms k P) (c + 1) (ndd k P)).isSome = true) (h2 : (cov (tms k P) c (ndd k P)).isSome = false) : (fewL k P).length = c + 1 := by
  obtain ⟨i, L, i6, hL, e, hn⟩ := fewL_spec h
  obtain ⟨a1, a2, a3⟩ := cov_sound _ hL
  have sub : ∀ t, t ∈ tmsL k P ↔ t ∈ tms k P := fun t => by
    unfold tmsL tms
    rw [List.mem_filter, List.mem_filter, lotsL_perm.mem_iff, Int.toNat_natCast]
  rw [e]
  have ge : ¬ L.length ≤ c := fun z => by
    have := cov_complete (teams := tms k P) c a1 (fun t ht => (sub t).mp (a2 t ht)) z
    cases hc : cov (tms k P) c (ndd k P) with
    | none => exact this hc
    | some L => rw [hc] at h2; cases h2
  cases hc : cov (tms k P) (c + 1) (ndd k P) with
  | none => rw [hc] at h1; cases h1
  | some L' =>
    obtain ⟨b1, b2, b3⟩ := cov_sound _ hc
    have nz := cov_complete (teams := tmsL k P) (c + 1) b1 (fun t ht => (sub t).mpr (b2 t ht)) b3
    by_cases lt : c + 1 < 1 + i
    · exact absurd (by have := hn c (by omega); rwa [show 1 + c = c + 1 by omega] at this) nz
    · omega
theorem few_no {k : Nat} (h1 : 1 ≤ k) (h5 : k ≤ 5) : (fewL k []).length = k := by
  have h : Prs k [] := prs_sub h1 h5 (List.nil_sublist _)
  have : k = 1 ∨ k = 2 ∨ k = 3 ∨ k = 4 ∨ k = 5 := by omega
  rcases this with rfl | rfl | rfl | rfl | rfl
  · exact few_is h (c := 0) (by decide +kernel) (by decide +kernel)
  · exact few_is h (c := 1) (by decide +kernel) (by decide +kernel)
  · exact few_is h (c := 2) (by decide +kernel) (by decide +kernel)
  · exact few_is h (c := 3) (by decide +kernel) (by decide +kernel)
  · exact few_is h (c := 4) (by decide +kernel) (by decide +kernel)
theorem few_every {k : Nat} (h1 : 1 ≤ k) (h5 : k ≤ 5) : (fewL k (evr k)).length = 1 := by
  have h : Prs k (evr k) := prs_sub h1 h5 (List.Sublist.refl _)
  have : k = 1 ∨ k = 2 ∨ k = 3 ∨ k = 4 ∨ k = 5 := by omega
  rcases this with rfl | rfl | rfl | rfl | rfl <;> exact few_is h (c := 0) (by decide +kernel) (by decide +kernel)
def bes (a b : Int) : List (List Int) := (evr 5).filter fun p => decide ((p.getD 0 0 = a ∨ p.getD 0 0 = b) ↔ ¬ (p.getD 1 0 = a ∨ p.getD 1 0 = b))
theorem few_bes {a b : Nat} (ha : a < 5) (hb : b < 5) (ne : a ≠ b) : (fewL 5 (bes a b)).length = 6 := by
  have h : Prs 5 (bes a b) := prs_sub (by decide) (by decide) List.filter_sublist
  have key : ∀ a : Fin 5, ∀ b : Fin 5, a ≠ b → (cov (tms 5 (bes (a : Nat) (b : Nat))) 6 (ndd 5 (bes (a : Nat) (b : Nat)))).isSome = true ∧ (cov (tms 5 (bes (a : Nat) (b : Nat))) 5 (ndd 5 (bes (a : Nat) (b : Nat)))).isSome = false := by decide +kernel
  have := key ⟨a, ha⟩ ⟨b, hb⟩ (fun e => ne (by injection e))
  exact few_is h (c := 5) this.1 this.2
end
end Pu
set_option Elab.async false
set_option linter.all false
set_option maxRecDepth 100000
set_option synthInstance.maxHeartbeats 0
set_option synthInstance.maxSize 100000
namespace Pu
open PySem PySem.Spec PyProof.Rows L2
section
variable {Q : D → Prop} {n x y s a b w e d i j z most : Int} {M : Int} {ws need need' teams L C P : List (List Int)} {S v u g l t lot row r : List Int} {dd X : D} {env : PEnv}
local macro_rules
  | `(tactic| and_intros) => `(tactic| (try simp only [Zaa, Zab, w_c, Zac, Zad, Zae, Zaf, Zag, Zah, Zai, Zaj, Zak, Zal, Zam, Zan, Zao, Zap, Zaq, Zar, Zas, Zat, Zau, Zav, Zaw, Zax, Zay, Zaz, ZaA, ZaB, ZaC, ZaD, ZaE, ZaF, ZaG, ZaH, ZaI, ZaJ, ZaK, ZaL, ZaM, ZaN, ZaO, ZaP, ZaQ, ZaR, ZaS, ZaT, ZaU, ZaV, ZaW, ZaX, ZaY, ZaZ, Za0, Za1, Za2, Za3, Za4, Za5, Za6, Za7, Za8, Za9, Zba, Zbb, Zbc, Zbd, Zbe, Zbf, Zbg, Zbh, Zbi, Zbj, Zbk, Zbl, Zbm, Zbn, Zbo, Zbp, Zbq, Zbr, Zbs, Zbt, Zbu, Zbv, Zbw, Zbx, Zby, Zbz, ZbA, List.length_cons, List.length_nil, Nat.reduceAdd, Nat.zero_add, ZbB, ZbC, ZbD, ZbE, y_W, ZbF, ZbG, ZbH, ZbI, ZbJ, ZbK, ZbL, ZbM, ZbN, ZbO, ZbP, ZbQ, ZbR, ZbS, sb1, sb2, sb3, sb4, sb5, sb6, sb7, sb8, sb9, ZbT, ZbU, ZbV, ZbW, ZbX, ZbY, ZbZ, Zb0, Zb1, Zb2, Zb3, Zb4, Zb5, Zb6, Zb7, List.map_id, id_eq, BEq.rfl, bne_self_eq_false, Zb8, Zb9, Zca, Zcb, Zcc, Zcd, Zce, Zcf, Zcg, Zch, Zci, Zcj, Zck, Zcl, Zcm, Zcn, Zco, Zcp, Zcq, Zcr, Zcs, Zct, Zcu, Zcv, Zcw, Zcx, Zcy, Zcz, ZcA, ZcB, ZcC, ZcD, true_and, and_true, Bool.and_self, Bool.and_true, Bool.true_and, Bool.not_true, Bool.not_false, Bool.false_eq_true, if_false, if_true, ite_true, ite_false, decide_true, decide_false, reduceIte, s_seqR, s_seqL, Zbb, w_make, Za9]))
theorem mixed50_ev (hl : r.length ≤ 100) : FP m__law_mixed_2 [dd, .lst (dInts r)] (fun d => ∃ s, d = .lst (dInts s) ∧ s.Perm r) := fun Q q => by
  have hs : 100000 ≤ sizeLine := by decide
  unfold m__law_mixed_2 fnM b__law_mixed_2
  simp only [env0, List.map_cons, List.map_nil, List.length_cons, List.length_nil, List.replicate_succ, List.replicate_zero, List.cons_append, List.nil_append, Nat.reduceSub, Nat.reduceAdd, Nat.zero_add, Zaa, Zab, w_c, Zac, Zad, Zae, Zaf, Zag, Zah, Zai, Zaj, Zak, Zal, Zam, Zan, Zao, Zap, Zaq, Zar, Zas, Zat, Zau, Zav, Zaw, Zax, Zay, Zaz, ZaA, ZaB, ZaC, ZaD, ZaE, ZaF, ZaG, ZaH, ZaI, ZaJ, ZaK, ZaL, ZaM, ZaN, ZaO, ZaP, ZaQ, ZaR, ZaS, ZaT, ZaU, ZaV, ZaW, ZaX, ZaY, ZaZ, Za0, Za1, Za2, Za3, Za4, Za5, Za6, Za7, Za8, Za9, Zba, Zbb, Zbc, Zbd, Zbe, Zbf, Zbg, Zbh, Zbi, Zbj, Zbk, Zbl, Zbm, Zbn, Zbo, Zbp, Zbq, Zbr, Zbs, Zbt, Zbu, Zbv, Zbw, Zbx, Zby, Zbz, ZbA, List.length_cons, List.length_nil, Nat.reduceAdd, Nat.zero_add, ZbB, ZbC, ZbD, ZbE, y_W, ZbF, ZbG, ZbH, ZbI, ZbJ, ZbK, ZbL, ZbM, ZbN, ZbO, ZbP, ZbQ, ZbR, ZbS, sb1, sb2, sb3, sb4, sb5, sb6, sb7, sb8, sb9, ZbT, ZbU, ZbV, ZbW, ZbX, ZbY, ZbZ, Zb0, Zb1, Zb2, Zb3, Zb4, Zb5, Zb6, Zb7, List.map_id, id_eq, BEq.rfl, bne_self_eq_false, Zb8, Zb9, Zca, Zcb, Zcc, Zcd, Zce, Zcf, Zcg, Zch, Zci, Zcj, Zck, Zcl, Zcm, Zcn, Zco, Zcp, Zcq, Zcr, Zcs, Zct, Zcu, Zcv, Zcw, Zcx, Zcy, Zcz, ZcA, ZcB, ZcC, ZcD, true_and, and_true, Bool.and_self, Bool.and_true, Bool.true_and, Bool.not_true, Bool.not_false, Bool.false_eq_true, if_false, if_true, ite_true, ite_false, decide_true, decide_false, reduceIte, s_seqR, s_seqL, Zbb, w_make, Za9]
  refine y_listLL ?_
  and_intros
  refine ⟨by omega, y_rng (n := (r.length : Int)) (by omega) (by omega) ?_⟩
  refine loop_I (fun p z env => ∃ left put e4, env = [some dd, some (.lst (dInts r)), some (.lst (dInts left)), some (.lst (dInts put)), e4] ∧ left.length + p.length = r.length ∧ put.length = p.length ∧ (put ++ left).Perm r) _ ⟨r, [], _, rfl, rfl, rfl, List.Perm.refl _⟩ ?_ ?_
  · rintro p i z env eu ⟨left, put, e4, rfl, h1, h2, h3⟩
    obtain ⟨rfl, hi⟩ := range_split eu
    and_intros
    refine ⟨trivial, draw_ev (by omega) (by omega) fun d d0 d1 => ?_⟩
    obtain ⟨k, rfl⟩ := Int.eq_ofNat_of_zero_le d0
    have kl : k < left.length := by omega
    have gk : left[k]? = some (left.getD k 0) := by rw [List.getD_eq_getElem?_getD, List.getElem?_eq_getElem kl]; rfl
    refine popQ_ints (by omega) gk ⟨by omega, left.eraseIdx k, put ++ [left.getD k 0], _, by rw [dInts_snoc], ?_, by simp; omega, ?_⟩
    · rw [List.length_eraseIdx_of_lt kl]; simp; omega
    · have es : left.Perm (left.getD k 0 :: left.eraseIdx k) := by
        have e := List.take_append_drop k left
        rw [List.drop_eq_getElem_cons kl] at e
        have e2 : left.getD k 0 = left[k] := by rw [List.getD_eq_getElem?_getD, List.getElem?_eq_getElem kl]; rfl
        rw [e2, List.eraseIdx_eq_take_drop_succ]
        conv => lhs; rw [← e]
        exact List.perm_middle
      rw [List.append_assoc]
      exact (List.Perm.append_left put es.symm).trans h3
  · rintro env ⟨left, put, e4, rfl, h1, h2, h3⟩
    rw [rangeI_len, Int.toNat_natCast] at h1
    have e : left = [] := List.eq_nil_of_length_eq_zero (by omega)
    subst e
    rw [List.append_nil] at h3
    and_intros
    exact q _ ⟨put, rfl, h3⟩
end
end Pu
set_option Elab.async false
set_option linter.all false
set_option maxRecDepth 100000
set_option synthInstance.maxHeartbeats 0
set_option synthInstance.maxSize 100000
namespace Pu
open PySem PySem.Spec PyProof.Rows L2
section
variable {Q : D → Prop} {n x y s a b w e d i j z most : Int} {M : Int} {ws need need' teams L C P : List (List Int)} {S v u g l t lot row r : List Int} {dd X : D} {env : PEnv}
def mmx (one other : Int) : List Int := [if other < one then other else one, if other > one then other else one]
def besL (o : List Int) : List (List Int) := (o.take 2).flatMap fun one => (o.drop 2).map fun other => mmx one other
theorem bes_key : ∀ a b c d e : Fin 5, [a, b, c, d, e].Nodup → (besL [((a : Nat) : Int), ((b : Nat) : Int), ((c : Nat) : Int), ((d : Nat) : Int), ((e : Nat) : Int)]).isPerm (bes ((a : Nat) : Int) ((b : Nat) : Int)) = true := by decide +kernel
theorem bes_perm {o : List Int} (h : o.Perm [0, 1, 2, 3, 4]) : ∃ a b : Nat, a < 5 ∧ b < 5 ∧ a ≠ b ∧ (besL o).Perm (bes (a : Int) (b : Int)) ∧ o.length = 5 := by
  have hl : o.length = 5 := h.length_eq
  have nd : o.Nodup := h.nodup_iff.mpr (by decide)
  have rng : ∀ x ∈ o, 0 ≤ x ∧ x < 5 := fun x hx => by
    have := h.mem_iff.mp hx
    simp at this; omega
  match o, hl with
  | [a, b, c, d, e], _ =>
    have ra := rng a (by simp); have rb := rng b (by simp); have rc := rng c (by simp); have rd := rng d (by simp); have re := rng e (by simp)
    obtain ⟨a, rfl⟩ := Int.eq_ofNat_of_zero_le ra.1
    obtain ⟨b, rfl⟩ := Int.eq_ofNat_of_zero_le rb.1
    obtain ⟨c, rfl⟩ := Int.eq_ofNat_of_zero_le rc.1
    obtain ⟨d, rfl⟩ := Int.eq_ofNat_of_zero_le rd.1
    obtain ⟨e, rfl⟩ := Int.eq_ofNat_of_zero_le re.1
    have key := bes_key ⟨a, by omega⟩ ⟨b, by omega⟩ ⟨c, by omega⟩ ⟨d, by omega⟩ ⟨e, by omega⟩ (by
      simp at nd ⊢
      omega)
    refine ⟨a, b, by omega, by omega, fun e => ?_, List.isPerm_iff.mp key, rfl⟩
    simp at nd; omega
theorem bes_srt {a b : Int} : (bes a b).Pairwise (fun a b => HT.lexLt b a = false) := ((evr_asc (k := 5) (by decide)).imp fun h => PuS.lex_asym _ _ h).sublist List.filter_sublist
end
end Pu
set_option Elab.async false
set_option linter.all false
set_option maxRecDepth 100000
set_option synthInstance.maxHeartbeats 0
set_option synthInstance.maxSize 100000
namespace Pu
open PySem PySem.Spec PyProof.Rows L2
section
variable {Q : D → Prop} {n x y s a b w k e d i j z most : Int} {m : Nat} {M : Int} {ws need need' teams L C P : List (List Int)} {S v u g l t lot row : List Int} {dd X : D} {env : PEnv}
end
end Pu
set_option Elab.async false
set_option linter.all false
set_option maxRecDepth 100000
set_option synthInstance.maxHeartbeats 0
set_option synthInstance.maxSize 100000
namespace Pu
open PySem PySem.Spec PyProof.Rows L2
section
variable {Q : D → Prop} {n x y s a b w e d i j z most : Int} {M : Int} {ws need need' teams L C P : List (List Int)} {S v u g l t lot row : List Int} {dd X : D} {env : PEnv}
theorem repr50 (h0 : 0 ≤ i) (h1 : i < 12) {R : D → Prop} (q : R (.str (toString i))) : oRepr (.int i) R := ⟨Nat.lt_of_le_of_lt (Nat.log2_le_self _) (by omega), q⟩
theorem repr_ne50 (h0 : 0 ≤ i) (h1 : i < 12) (q : Q (.bl false)) : oNe (.str (toString i)) (.str (toString i)) Q := by
  have : i = 0 ∨ i = 1 ∨ i = 2 ∨ i = 3 ∨ i = 4 ∨ i = 5 ∨ i = 6 ∨ i = 7 ∨ i = 8 ∨ i = 9 ∨ i = 10 ∨ i = 11 := by omega
  rcases this with e | e | e | e | e | e | e | e | e | e | e | e <;>
    (subst e; refine ⟨by show SeqAt.shaped _ = true; decide +kernel, by show SeqAt.shaped _ = true; decide +kernel, ?_⟩; (first | exact q | (rw [show ∀ s : Str, D.eqb (.str s) (.str s) = true from fun s => by show PyData.eqv _ _ = true; simp [D.py, PyData.eqv]]; exact q)))
theorem evr_len2 {k : Nat} (k5 : k ≤ 5) : ∀ (u : Nat), u ≤ k → (((List.range u).flatMap fun a : Nat => (List.range (k - (a + 1))).map fun j : Nat => [(a : Int), ((a + 1 + j : Nat) : Int)]).length ≤ u * 5) := fun u => by
  induction u with
  | zero => intro _; simp
  | succ u ih =>
    intro hu
    have := ih (by omega)
    rw [List.range_succ, List.flatMap_append, List.length_append, List.flatMap_singleton, List.length_map, List.length_range, Nat.succ_mul]
    omega
local macro_rules
  | `(tactic| and_intros) => `(tactic| (try simp only [Zaa, Zab, w_c, Zac, Zad, Zae, Zaf, Zag, Zah, Zai, Zaj, Zak, Zal, Zam, Zan, Zao, Zap, Zaq, Zar, Zas, Zat, Zau, Zav, Zaw, Zax, Zay, Zaz, ZaA, ZaB, ZaC, ZaD, ZaE, ZaF, ZaG, ZaH, ZaI, ZaJ, ZaK, ZaL, ZaM, ZaN, ZaO, ZaP, ZaQ, ZaR, ZaS, ZaT, ZaU, ZaV, ZaW, ZaX, ZaY, ZaZ, Za0, Za1, Za2, Za3, Za4, Za5, Za6, Za7, Za8, Za9, Zba, Zbb, Zbc, Zbd, Zbe, Zbf, Zbg, Zbh, Zbi, Zbj, Zbk, Zbl, Zbm, Zbn, Zbo, Zbp, Zbq, Zbr, Zbs, Zbt, Zbu, Zbv, Zbw, Zbx, Zby, Zbz, ZbA, List.length_cons, List.length_nil, Nat.reduceAdd, Nat.zero_add, ZbB, ZbC, ZbD, ZbE, y_W, ZbF, ZbG, ZbH, ZbI, ZbJ, ZbK, ZbL, ZbM, ZbN, ZbO, ZbP, ZbQ, ZbR, ZbS, sb1, sb2, sb3, sb4, sb5, sb6, sb7, sb8, sb9, ZbT, ZbU, ZbV, ZbW, ZbX, ZbY, ZbZ, Zb0, Zb1, Zb2, Zb3, Zb4, Zb5, Zb6, Zb7, List.map_id, id_eq, BEq.rfl, bne_self_eq_false, Zb8, Zb9, Zca, Zcb, Zcc, Zcd, Zce, Zcf, Zcg, Zch, Zci, Zcj, Zck, Zcl, Zcm, Zcn, Zco, Zcp, Zcq, Zcr, Zcs, Zct, Zcu, Zcv, Zcw, Zcx, Zcy, Zcz, ZcA, ZcB, ZcC, ZcD, true_and, and_true, Bool.and_self, Bool.and_true, Bool.true_and, Bool.not_true, Bool.not_false, Bool.false_eq_true, if_false, if_true, ite_true, ite_false, decide_true, decide_false, reduceIte, s_seqR, s_seqL, Zbb, w_make, Za9]))
theorem pure_law_k50 : b_law_k50 lawEnds (List.replicate 11 none) := by
  have hs : 100000 ≤ sizeLine := by decide
  unfold b_law_k50
  simp only [env0, List.map_cons, List.map_nil, List.length_cons, List.length_nil, List.replicate_succ, List.replicate_zero, List.cons_append, List.nil_append, Nat.reduceSub, Nat.reduceAdd, Nat.zero_add, Zaa, Zab, w_c, Zac, Zad, Zae, Zaf, Zag, Zah, Zai, Zaj, Zak, Zal, Zam, Zan, Zao, Zap, Zaq, Zar, Zas, Zat, Zau, Zav, Zaw, Zax, Zay, Zaz, ZaA, ZaB, ZaC, ZaD, ZaE, ZaF, ZaG, ZaH, ZaI, ZaJ, ZaK, ZaL, ZaM, ZaN, ZaO, ZaP, ZaQ, ZaR, ZaS, ZaT, ZaU, ZaV, ZaW, ZaX, ZaY, ZaZ, Za0, Za1, Za2, Za3, Za4, Za5, Za6, Za7, Za8, Za9, Zba, Zbb, Zbc, Zbd, Zbe, Zbf, Zbg, Zbh, Zbi, Zbj, Zbk, Zbl, Zbm, Zbn, Zbo, Zbp, Zbq, Zbr, Zbs, Zbt, Zbu, Zbv, Zbw, Zbx, Zby, Zbz, ZbA, List.length_cons, List.length_nil, Nat.reduceAdd, Nat.zero_add, ZbB, ZbC, ZbD, ZbE, y_W, ZbF, ZbG, ZbH, ZbI, ZbJ, ZbK, ZbL, ZbM, ZbN, ZbO, ZbP, ZbQ, ZbR, ZbS, sb1, sb2, sb3, sb4, sb5, sb6, sb7, sb8, sb9, ZbT, ZbU, ZbV, ZbW, ZbX, ZbY, ZbZ, Zb0, Zb1, Zb2, Zb3, Zb4, Zb5, Zb6, Zb7, List.map_id, id_eq, BEq.rfl, bne_self_eq_false, Zb8, Zb9, Zca, Zcb, Zcc, Zcd, Zce, Zcf, Zcg, Zch, Zci, Zcj, Zck, Zcl, Zcm, Zcn, Zco, Zcp, Zcq, Zcr, Zcs, Zct, Zcu, Zcv, Zcw, Zcx, Zcy, Zcz, ZcA, ZcB, ZcC, ZcD, true_and, and_true, Bool.and_self, Bool.and_true, Bool.true_and, Bool.not_true, Bool.not_false, Bool.false_eq_true, if_false, if_true, ite_true, ite_false, decide_true, decide_false, reduceIte, s_seqR, s_seqL, Zbb, w_make, Za9]
  refine y_rng (by decide) (by decide) ?_
  refine loop_I (fun p s env => ∃ e2 e3 e4 e5 e6 e7 e8 e9 e10, env = [none, none, e2, e3, e4, e5, e6, e7, e8, e9, e10]) _ ⟨_, _, _, _, _, _, _, _, _, rfl⟩ ?_ ?_
  · rintro p i s env e ⟨e2, e3, e4, e5, e6, e7, e8, e9, e10, rfl⟩
    and_intros
    refine draw_ev (by decide) (by decide) fun z z0 z1 => ?_
    and_intros
    obtain ⟨k, hk⟩ : ∃ k : Nat, 1 + z = (k : Int) := ⟨(1 + z).toNat, by omega⟩
    rw [hk]
    have k1 : 1 ≤ k := by omega
    have k5 : k ≤ 5 := by omega
    refine some_pairs_ev k1 k5 _ fun d ⟨P, e, h⟩ => ?_
    subst e
    and_intros
    refine fewest_desks_ev h _ ?_
    have f6 := (few_ok h).2.1
    have n0 : Prs k [] := prs_sub k1 k5 (List.nil_sublist _)
    (try rw [w_sif])
    and_intros
    refine repr50 (by omega) (by omega) ?_
    refine law_fewest_ev h _ ?_
    refine repr50 (by omega) (by omega) ?_
    refine repr_ne50 (by omega) (by omega) ?_
    and_intros
    rw [if_neg (by simp; omega)]
    refine ⟨by omega, ?_⟩
    show m_fewest_desks [D.int k, pvD []] _
    refine fewest_desks_ev n0 _ ?_
    rw [few_no k1 k5]
    and_intros
    refine ⟨by omega, ?_⟩
    show m_office_for [D.int k, pvD []] _
    refine office_for_ev n0 _ ?_
    and_intros
    rw [few_no k1 k5]
    and_intros
    refine ⟨by omega, ?_⟩
    refine y_rng (n := (k : Int)) (by omega) (by omega) ?_
    refine loop_I (fun u z env => ∃ e7 e10, env = [none, none, some (.int i), some (.int (k : Int)), some (pvD P), some (.int ((fewL k P).length : Nat)), some (.lst (rowsD ((List.range u.length).flatMap fun a : Nat => (List.range (k - (a + 1))).map fun j : Nat => [(a : Int), ((a + 1 + j : Nat) : Int)]))), e7, e8, e9, e10]) _ ⟨_, _, rfl⟩ ?_ ?_
    · rintro u x z env eu ⟨e7, e10, rfl⟩
      obtain ⟨ex, ul, _⟩ := range_pre eu
      subst ex
      have f1 := evr_len2 k5 u.length (by omega)
      and_intros
      rw [show ((u.length : Nat) : Int) + 1 = ((u.length + 1 : Nat) : Int) by omega]
      refine y_rng253 (a := u.length + 1) (b := k) (by omega) (by omega) ?_
      refine lc_M (e := fun j : Nat => D.int ((u.length + 1 + j : Nat) : Int)) (fun j : Nat => [((u.length : Nat) : Int), ((u.length + 1 + j : Nat) : Int)]) rD (by rw [List.length_range]; omega) (fun j hj R hR => ?_) ?_
      · and_intros
        exact ⟨by omega, hR⟩
      refine ⟨immL_rows _, immL_rows _, by rw [rowsD, List.length_map, List.length_map, List.length_map, List.length_range]; omega, ?_⟩
      refine ⟨some (.int (u.length : Nat)), e10, ?_⟩
      rw [show (u ++ [((u.length : Nat) : Int)]).length = u.length + 1 by simp, List.range_succ, List.flatMap_append, List.flatMap_singleton]
      rw [show rowsD ((List.range u.length).flatMap (fun a : Nat => (List.range (k - (a + 1))).map fun j : Nat => [(a : Int), ((a + 1 + j : Nat) : Int)]) ++ (List.range (k - (u.length + 1))).map fun j : Nat => [((u.length : Nat) : Int), ((u.length + 1 + j : Nat) : Int)]) = _ from List.map_append]
      rfl
    · rintro env ⟨e7, e10, rfl⟩
      rw [rangeI_len, Int.toNat_natCast, show ((List.range k).flatMap fun a : Nat => (List.range (k - (a + 1))).map fun j : Nat => [(a : Int), ((a + 1 + j : Nat) : Int)]) = evr k from rfl]
      have ev0 : Prs k (evr k) := prs_sub k1 k5 (List.Sublist.refl _)
      (try rw [w_sif])
      and_intros
      show m_fewest_desks [D.int k, pvD (evr k)] _
      refine fewest_desks_ev ev0 _ ?_
      rw [few_every k1 k5]
      and_intros
      exact ⟨_, _, _, _, _, _, _, _, _, rfl⟩
  · rintro env ⟨e2, e3, e4, e5, e6, e7, e8, e9, e10, rfl⟩
    and_intros
    refine ⟨by omega, ?_⟩
    show m__law_mixed_2 [D.non, .lst (dInts [0, 1, 2, 3, 4])] _
    refine mixed50_ev (by simp) _ fun d ⟨o, e, hp⟩ => ?_
    subst e
    obtain ⟨a, b, ha, hb, hab, hbp, ol⟩ := bes_perm hp
    refine ⟨by omega, slL_hi (z := 2) (by decide) ?_⟩
    and_intros
    refine loop_I (fun u z env => ∃ e7 e10, env = [none, none, e2, e3, e4, e5, e6, e7, some (.lst (dInts o)), some (.lst (rowsD (u.flatMap fun one => (o.drop 2).map fun other => mmx one other))), e10]) (o.take 2) ⟨_, _, rfl⟩ ?_ ?_
    · rintro u one z env eu ⟨e7, e10, rfl⟩
      have ul : u.length ≤ 2 := by
        have := congrArg List.length eu
        rw [List.length_append, List.length_cons, List.length_take] at this; omega
      have fl : (u.flatMap fun one => (o.drop 2).map fun other => mmx one other).length ≤ u.length * 3 := by
        clear eu ul
        induction u with
        | nil => simp
        | cons x u ih => rw [List.flatMap_cons, List.length_append, List.length_map, List.length_drop, List.length_cons, Nat.succ_mul]; omega
      and_intros
      refine y_slL_lo35 (k := 2) ?_
      and_intros
      refine lc_M (e := D.int) (fun other => mmx one other) rD (by rw [List.length_drop]; omega) (fun other ho R hR => ?_) ?_
      · and_intros
        exact ⟨by omega, hR⟩
      refine ⟨immL_rows _, immL_rows _, by rw [rowsD, List.length_map, List.length_map, List.length_map, List.length_drop]; omega, some (.int one), e10, ?_⟩
      rw [List.flatMap_append, List.flatMap_singleton]
      rw [show rowsD ((u.flatMap fun one => (o.drop 2).map fun other => mmx one other) ++ (o.drop 2).map fun other => mmx one other) = _ from List.map_append]
      rfl
    · rintro env ⟨e7, e10, rfl⟩
      rw [show ((o.take 2).flatMap fun one => (o.drop 2).map fun other => mmx one other) = besL o from rfl]
      have hb5 : Prs 5 (bes (a : Int) (b : Int)) := prs_sub (by decide) (by decide) List.filter_sublist
      have srt : ∀ K : D → Prop, K (.lst (rowsD (bes (a : Int) (b : Int)))) → oSortA (.lst (rowsD (besL o))) K := fun K hK => by
        refine .inr ⟨besL o, rfl, fun r hr => .inl ?_, fun X hX hs => ?_⟩
        · have := hbp.mem_iff.mp hr
          have := (hb5.ok r this).2
          intro e; rw [e] at this; cases this
        · rw [perm_sorted_uniq hX hbp.symm hs bes_srt]
          exact hK
      and_intros
      refine srt _ ⟨immL_rows _, ?_⟩
      show m_fewest_desks [.int ((5 : Nat) : Int), pvD (bes (a : Int) (b : Int))] _
      refine fewest_desks_ev hb5 _ ?_
      rw [few_bes ha hb hab]
      and_intros
      refine srt _ ⟨immL_rows _, ?_⟩
      show m__law_fewest [.int ((5 : Nat) : Int), pvD (bes (a : Int) (b : Int))] _
      refine law_fewest_ev hb5 _ ?_
      rw [few_bes ha hb hab]
      and_intros
      rfl
end
end Pu
set_option Elab.async false
set_option linter.all false
set_option maxRecDepth 100000
set_option synthInstance.maxHeartbeats 0
set_option synthInstance.maxSize 100000
namespace Pu
open PySem PySem.Spec PyProof.Rows L2
end Pu
open PySem PySem.W PyProof.Rows
set_option maxHeartbeats 0 in
theorem PySem.Challenge.cw_latestword_k50_whole_fewest_desks_holds : PySem.Challenge.rw_latestword_k50_whole_fewest_desks.Holds := by
  w_on; o_law; k_head; (case hw => w_witness2)
  k_fill
  refine L2.walk_of (l := PySem.Challenge.rw_latestword_k50_whole_fewest_desks) (n := 63) (k := 12) (x := "script") (CX := fun _ => L2.CX0) (sp := fun w => Pu.spLaw _) rfl (by decide) rfl ⟨rfl, by decide, by decide⟩ (fun w h Y => PySem.W.kIn_of Y) ?F (fun _ _ a ns hl _ hS => ⟨a, ns, rfl, hS, hl, fun _ => rfl⟩) (fun _ _ _ _ _ h => h)
  case F =>
    intro w mg fa h KX G hmg
    refine' Pu.all_mk KX G hmg ?a_is_integer ?l_is_integer ?c_is_integer ?k_is_integer ?a_is_number ?l_is_number ?c_is_number ?k_is_number ?a_is_below ?l_is_below ?c_is_below ?k_is_below ?a_is_lot ?l_is_lot ?c_is_lot ?k_is_lot ?a_all_lots ?l_all_lots ?c_all_lots ?k_all_lots ?a_pairs_of ?l_pairs_of ?c_pairs_of ?k_pairs_of ?a_are_office_works ?l_are_office_works ?c_are_office_works ?k_are_office_works ?a_are_pairs ?l_are_pairs ?c_are_pairs ?k_are_pairs ?a_teams_of ?l_teams_of ?c_teams_of ?k_teams_of ?a_is_within_team ?l_is_within_team ?c_is_within_team ?k_is_within_team ?a_covered ?l_covered ?c_covered ?k_covered ?a_fewest_teams ?l_fewest_teams ?c_fewest_teams ?k_fewest_teams ?a_office_for ?l_office_for ?c_office_for ?k_office_for ?a_fewest_desks ?l_fewest_desks ?c_fewest_desks ?k_fewest_desks ?a__law_pool ?l__law_pool ?c__law_pool ?k__law_pool ?a__law_draw ?l__law_draw ?c__law_draw ?k__law_draw ?a__law_mixed ?l__law_mixed ?c__law_mixed ?k__law_mixed ?a__law_some_pairs ?l__law_some_pairs ?c__law_some_pairs ?k__law_some_pairs ?a__law_crowds ?l__law_crowds ?c__law_crowds ?k__law_crowds ?a__law_fewest ?l__law_fewest ?c__law_fewest ?k__law_fewest ?a_law ?l_law ?c_law ?k_law ?a_Office ?i_Office ?j_Office ?l_Office_init ?c_Office_init ?k_Office_init ?pg_Office ?hd_Office ?po_Office ?sa_Office ?mk_Office ?kc_Office ?na_Office_desks ?na_Office_works ?n_abs ?n_all ?n_bool ?n_enumerate ?n_int ?n_isinstance ?n_len ?n_list ?n_max ?n_min ?n_range ?n_repr ?n_sorted ?n_sum ?n_tuple ?n_zip ?a_MOST_COVERED ?a_MOST_DESKS ?a_MOST_WORKS Pu.pure_law_k50
    (case a_is_integer => k_is)
    (case l_is_integer => k_is)
    (case c_is_integer => k_is)
    (case k_is_integer => k_is)
    (case a_is_number => k_is)
    (case l_is_number => k_is)
    (case c_is_number => k_is)
    (case k_is_number => k_is)
    (case a_is_below => k_is)
    (case l_is_below => k_is)
    (case c_is_below => k_is)
    (case k_is_below => k_is)
    (case a_is_lot => k_is)
    (case l_is_lot => k_is)
    (case c_is_lot => k_is)
    (case k_is_lot => k_is)
    (case a_all_lots => k_is)
    (case l_all_lots => k_is)
    (case c_all_lots => k_is)
    (case k_all_lots => k_is)
    (case a_pairs_of => k_is)
    (case l_pairs_of => k_is)
    (case c_pairs_of => k_is)
    (case k_pairs_of => k_is)
    (case a_are_office_works => k_is)
    (case l_are_office_works => k_is)
    (case c_are_office_works => k_is)
    (case k_are_office_works => k_is)
    (case a_are_pairs => k_is)
    (case l_are_pairs => k_is)
    (case c_are_pairs => k_is)
    (case k_are_pairs => k_is)
    (case a_teams_of => k_is)
    (case l_teams_of => k_is)
    (case c_teams_of => k_is)
    (case k_teams_of => k_is)
    (case a_is_within_team => k_is)
    (case l_is_within_team => k_is)
    (case c_is_within_team => k_is)
    (case k_is_within_team => k_is)
    (case a_covered => k_is)
    (case l_covered => k_is)
    (case c_covered => k_is)
    (case k_covered => k_is)
    (case a_fewest_teams => k_is)
    (case l_fewest_teams => k_is)
    (case c_fewest_teams => k_is)
    (case k_fewest_teams => k_is)
    (case a_office_for => k_is)
    (case l_office_for => k_is)
    (case c_office_for => k_is)
    (case k_office_for => k_is)
    (case a_fewest_desks => k_is)
    (case l_fewest_desks => k_is)
    (case c_fewest_desks => k_is)
    (case k_fewest_desks => k_is)
    (case a__law_pool => k_is)
    (case l__law_pool => k_is)
    (case c__law_pool => k_is)
    (case k__law_pool => k_is)
    (case a__law_draw => k_is)
    (case l__law_draw => k_is)
    (case c__law_draw => k_is)
    (case k__law_draw => k_is)
    (case a__law_mixed => k_is)
    (case l__law_mixed => k_is)
    (case c__law_mixed => k_is)
    (case k__law_mixed => k_is)
    (case a__law_some_pairs => k_is)
    (case l__law_some_pairs => k_is)
    (case c__law_some_pairs => k_is)
    (case k__law_some_pairs => k_is)
    (case a__law_crowds => k_is)
    (case l__law_crowds => k_is)
    (case c__law_crowds => k_is)
    (case k__law_crowds => k_is)
    (case a__law_fewest => k_is)
    (case l__law_fewest => k_is)
    (case c__law_fewest => k_is)
    (case k__law_fewest => k_is)
    (case a_law => k_is)
    (case l_law => k_is)
    (case c_law => k_is)
    (case k_law => k_is)
    (case a_Office => k_is)
    (case i_Office => k_is)
    (case j_Office => k_is)
    (case l_Office_init => k_is)
    (case c_Office_init => k_is)
    (case k_Office_init => k_is)
    (case pg_Office => k_is)
    (case hd_Office => k_is)
    (case po_Office => k_is)
    (case sa_Office => k_is)
    (case mk_Office => k_is)
    (case kc_Office => k_is)
    (case na_Office_desks => k_is)
    (case na_Office_works => k_is)
    (case n_abs => k_is)
    (case n_all => k_is)
    (case n_bool => k_is)
    (case n_enumerate => k_is)
    (case n_int => k_is)
    (case n_isinstance => k_is)
    (case n_len => k_is)
    (case n_list => k_is)
    (case n_max => k_is)
    (case n_min => k_is)
    (case n_range => k_is)
    (case n_repr => k_is)
    (case n_sorted => k_is)
    (case n_sum => k_is)
    (case n_tuple => k_is)
    (case n_zip => k_is)
    (case a_MOST_COVERED => k_is)
    (case a_MOST_DESKS => k_is)
    (case a_MOST_WORKS => k_is)
