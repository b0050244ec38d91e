import PyProof.Rows.All
import Wide.All
import OpenK.AllK
import Wide.FinOn
import HandS.ForMost
import HandS.Evl
import KE.KeyNested
import HandS.TupAny
import HandS.TupLe
import HandS.Wide
import HandS.Deep
import HandS.Zip
import HandS.Conv
import HandS.SortInts
import HandS.IsInst
import HandS.More
import PyProof.Rows.TupDisplay
import KE.KDictDisplayH
import KE.GoesMore
import HandS.SortRule
import HandS.TupLen
import HandS.WordsDict
import HandS.SetFor
import HandS.Strs
import KE.DatumOrd
import HandS.TupMul
import KE.KDictZip
import PyProof.ListNew
import HandS.NamedTupSort
import KE.DataMinKey
import KE.DataMinMax
import Flt.Ops
import HandS.DictComp
import HandS.Style
import HandS.Defaults
import KE.KDictPairs
import HandS.Dict
import KE.KDictKeyed
import PyProof.DictFindH
import PyProof.DictRoadsH
import PyProof.MeetsDict
import HandS.TryOnly
import HandS.TupSets
import HandS.OwnEq
import PyProof.InstEq
import HandS.RaiseMore
import KE.KDictWalk
import PyProof.SumAny
import KE.KTupSum
import PyProof.Rows.SumGenD
import KE.KDictCopyH
import PyProof.DictTruth
import PySem.Challenge.RW_latestword_k84_whole_rows_counted
set_option Elab.async false
set_option linter.all false
set_option maxRecDepth 100000
namespace Pu
open PySem PySem.Spec PyProof.Rows L2
inductive D where
  | non
  | bl (b : Bool)
  | int (i : Int)
  | str (x : Str)
  | tup (xs : List D)
  | lst (xs : List D)
  | dK (kvs : List (Key × D))
  | dT (kvs : List (List Key × D))
  | obj (c : Nat) (fs : List (Str × D))
  | fz (c : Nat) (fs : List (Str × D))
  | dN (kvs : List (D × D))
mutual
def D.nk : D → Option PySem.NestedKey
  | .non => some .none
  | .bl b => some (.num (if b = true then 1 else 0))
  | .int i => some (.num i)
  | .tup xs => match nkL xs with
    | some ks => some (.tup ks)
    | none => none
  | .str _ => none
  | .lst _ => none
  | .dK _ => none
  | .dT _ => none
  | .obj _ _ => none
  | .fz _ _ => none
  | .dN _ => none
def nkL : List D → Option (List PySem.NestedKey)
  | [] => some []
  | d :: ds => match D.nk d, nkL ds with
    | some k, some ks => some (k :: ks)
    | _, _ => none
end
structure NE where
  k : PySem.NestedKey
  key : V
  val : V
def NDict (a : Addr) (xs : List NE) (h : Heap) : Prop := (a == sysModules) = false ∧ (xs.map NE.k).Nodup ∧ xs.length ≤ sizeLine ∧
  ∃ o es ep, h.get? a = some o ∧ o.ExactDict ∧ o.data = .dict es ep ∧ Paired (fun (x : NE) (e : DictEntry) => (∀ w : World, e.hash = x.k.hash w) ∧ RelV x.key e.key ∧ RelV x.val e.val) xs es.toList
def hN (a : Addr) (xs : List NE) : HO := .ext (NDict a xs)
def fzNames : List (List Str) := [["desks", "works"], ["office", "telling", "steps"]]
def Fz (ns : List Str) : Bool := fzNames.contains ns
mutual
def D.imm : D → Bool
  | .tup xs => immL xs
  | .lst _ => false
  | .dK _ => false
  | .dT _ => false
  | .dN _ => false
  | .obj _ _ => false
  | .fz _ fs => immF fs
  | _ => true
def immL : List D → Bool
  | [] => true
  | d :: ds => D.imm d && immL ds
def immF : List (Str × D) → Bool
  | [] => true
  | (_, d) :: ds => D.imm d && immF ds
end
theorem immF_eq : ∀ fs : List (Str × D), immF fs = immL (fs.map (·.2))
  | [] => rfl
  | (_, d) :: ds => by
    show (D.imm d && immF ds) = (D.imm d && immL (ds.map (·.2)))
    rw [immF_eq ds]
mutual
inductive Rp (CT : Nat → Addr) (H : Hp) : V → D → List Addr → Prop
  | non : Rp CT H .non .non []
  | bl (b : Bool) : Rp CT H (.bl b) (.bl b) []
  | int (i : Int) : Rp CT H (.int i) (.int i) []
  | str (x : Str) : Rp CT H (.str x) (.str x) []
  | tup {a : Addr} {vs : List V} {ds : List D} {F : List Addr} : H a = some (.tup vs) → Rps CT H vs ds F → Rp CT H (.ref a) (.tup ds) F
  | lst {a : Addr} {vs : List V} {ds : List D} {F : List Addr} : H a = some (.lst vs) → Rps CT H vs ds F → Rp CT H (.ref a) (.lst ds) (a :: F)
  | dK {a : Addr} {kvs : List (Key × V)} {kds : List (Key × D)} {F : List Addr} : H a = some (.dK kvs) → kvs.map (·.1) = kds.map (·.1) → Rps CT H (kvs.map (·.2)) (kds.map (·.2)) F → Rp CT H (.ref a) (.dK kds) (a :: F)
  | dT {a : Addr} {kvs : List (List Key × V)} {kds : List (List Key × D)} {F : List Addr} : H a = some (.dT kvs) → kvs.map (·.1) = kds.map (·.1) → Rps CT H (kvs.map (·.2)) (kds.map (·.2)) F → Rp CT H (.ref a) (.dT kds) (a :: F)
  | obj {a dx : Addr} {c : Nat} {fs : List (Str × V)} {gs : List (Str × D)} {F : List Addr} : H a = some (.ins (CT c) dx fs) → fs.map (·.1) = gs.map (·.1) → Rps CT H (fs.map (·.2)) (gs.map (·.2)) F → Rp CT H (.ref a) (.obj c gs) (a :: F)
  | fz {a dx : Addr} {c : Nat} {fs : List (Str × V)} {gs : List (Str × D)} {F : List Addr} : H a = some (.ins (CT c) dx fs) → Fz (fs.map (·.1)) = true → fs.map (·.1) = gs.map (·.1) → Rps CT H (fs.map (·.2)) (gs.map (·.2)) F → Rp CT H (.ref a) (.fz c gs) F
  | dN {a : Addr} {xs : List NE} {kds : List (D × D)} {F : List Addr} : H a = some (hN a xs) → xs.map (fun x => some x.k) = kds.map (fun kd => D.nk kd.1) → (∀ x ∈ xs, x.k.depth ≤ 8) → Rps CT H (xs.map NE.key) (kds.map (·.1)) [] → Rps CT H (xs.map NE.val) (kds.map (·.2)) F → Rp CT H (.ref a) (.dN kds) (a :: F)
inductive Rps (CT : Nat → Addr) (H : Hp) : List V → List D → List Addr → Prop
  | nil : Rps CT H [] [] []
  | cons {v : V} {d : D} {F G : List Addr} {vs : List V} {ds : List D} : Rp CT H v d F → Rps CT H vs ds G → Rps CT H (v :: vs) (d :: ds) (F ++ G)
end
def Im : HO → Bool
  | .tup _ => true
  | .frz _ _ => true
  | .ins _ _ fs => Fz (fs.map (·.1))
  | _ => false
structure Fr (W : Addr → Prop) (H H' : Hp) : Prop where
  keep : ∀ a o, H a = some o → ¬ W a → H' a = some o
  im : ∀ a o, H a = some o → Im o = true → H' a = some o
  there : ∀ a, H' a = none → H a = none
section
variable {W W' : Addr → Prop} {H H' H1 H2 : Hp} {CT : Nat → Addr} {v : V} {vs : List V} {d : D} {ds : List D} {F : List Addr}
theorem Fr.refl : Fr W H H := ⟨fun _ _ h _ => h, fun _ _ h _ => h, fun _ h => h⟩
theorem Fr.trans (a : Fr W H H1) (b : Fr W H1 H2) : Fr W H H2 :=
  ⟨fun x o h n => b.keep x o (a.keep x o h n) n, fun x o h n => b.im x o (a.im x o h n) n, fun x h => a.there x (b.there x h)⟩
theorem Fr.mono (a : Fr W H H1) (h : ∀ x, W x → W' x) : Fr W' H H1 := ⟨fun x o e n => a.keep x o e fun w => n (h x w), a.im, a.there⟩
theorem Fr.new {p : Addr} {o : HO} (h : H p = none) : Fr W H (upd H p o) := by
  refine ⟨fun a u e _ => ?_, fun a u e _ => ?_, fun a e => ?_⟩
  · rw [upd_ne (ne_of_none e h)]; exact e
  · rw [upd_ne (ne_of_none e h)]; exact e
  · by_cases q : a = p
    · rw [q]; exact h
    · rw [upd_ne q] at e; exact e
theorem Fr.at {p : Addr} {o u : HO} (w : W p) (h : H p = some u) (i : Im u = false) : Fr W H (upd H p o) := by
  refine ⟨fun a x e n => ?_, fun a x e n => ?_, fun a e => ?_⟩
  · rw [upd_ne (fun q => n (by rw [q]; exact w))]; exact e
  · rw [upd_ne (fun q => by subst q; rw [h] at e; cases e; rw [i] at n; cases n)]; exact e
  · by_cases q : a = p
    · rw [q, upd_same] at e; cases e
    · rw [upd_ne q] at e; exact e
mutual
theorem Rp.keep : ∀ {v : V} {d : D} {F : List Addr}, Rp CT H v d F → Fr W H H' → (∀ a ∈ F, ¬ W a) → Rp CT H' v d F
  | _, _, _, .non, _, _ => .non
  | _, _, _, .bl b, _, _ => .bl b
  | _, _, _, .int b, _, _ => .int b
  | _, _, _, .str b, _, _ => .str b
  | _, _, _, .tup h r, f, n => .tup (f.im _ _ h rfl) (Rps.keep r f n)
  | _, _, _, .lst h r, f, n => .lst (f.keep _ _ h (n _ List.mem_cons_self)) (Rps.keep r f fun a m => n a (List.mem_cons_of_mem _ m))
  | _, _, _, .dK h k r, f, n => .dK (f.keep _ _ h (n _ List.mem_cons_self)) k (Rps.keep r f fun a m => n a (List.mem_cons_of_mem _ m))
  | _, _, _, .dT h k r, f, n => .dT (f.keep _ _ h (n _ List.mem_cons_self)) k (Rps.keep r f fun a m => n a (List.mem_cons_of_mem _ m))
  | _, _, _, .obj h k r, f, n => .obj (f.keep _ _ h (n _ List.mem_cons_self)) k (Rps.keep r f fun a m => n a (List.mem_cons_of_mem _ m))
  | _, _, _, .fz h z k r, f, n => .fz (f.im _ _ h z) z k (Rps.keep r f n)
  | _, _, _, .dN h k z r1 r, f, n => .dN (f.keep _ _ h (n _ List.mem_cons_self)) k z (Rps.keep r1 f fun _ m => nomatch m) (Rps.keep r f fun a m => n a (List.mem_cons_of_mem _ m))
theorem Rps.keep : ∀ {vs : List V} {ds : List D} {F : List Addr}, Rps CT H vs ds F → Fr W H H' → (∀ a ∈ F, ¬ W a) → Rps CT H' vs ds F
  | _, _, _, .nil, _, _ => .nil
  | _, _, _, .cons h r, f, n => .cons (Rp.keep h f fun a m => n a (List.mem_append_left _ m)) (Rps.keep r f fun a m => n a (List.mem_append_right _ m))
end
mutual
theorem Rp.tracked : ∀ {v : V} {d : D} {F : List Addr}, Rp CT H v d F → ∀ a ∈ F, H a ≠ none
  | _, _, _, .non, a, m => absurd m (by simp)
  | _, _, _, .bl b, a, m => absurd m (by simp)
  | _, _, _, .int b, a, m => absurd m (by simp)
  | _, _, _, .str b, a, m => absurd m (by simp)
  | _, _, _, .tup h r, a, m => Rps.tracked r a m
  | _, _, _, .lst h r, a, m => by
    rcases List.mem_cons.mp m with e | m
    · rw [e, h]; exact fun z => nomatch z
    · exact Rps.tracked r a m
  | _, _, _, .dK h _ r, a, m => by
    rcases List.mem_cons.mp m with e | m
    · rw [e, h]; exact fun z => nomatch z
    · exact Rps.tracked r a m
  | _, _, _, .dT h _ r, a, m => by
    rcases List.mem_cons.mp m with e | m
    · rw [e, h]; exact fun z => nomatch z
    · exact Rps.tracked r a m
  | _, _, _, .obj h _ r, a, m => by
    rcases List.mem_cons.mp m with e | m
    · rw [e, h]; exact fun z => nomatch z
    · exact Rps.tracked r a m
  | _, _, _, .fz h _ _ r, a, m => Rps.tracked r a m
  | _, _, _, .dN h _ _ _ r, a, m => by
    rcases List.mem_cons.mp m with e | m
    · rw [e, h]; exact fun z => nomatch z
    · exact Rps.tracked r a m
theorem Rps.tracked : ∀ {vs : List V} {ds : List D} {F : List Addr}, Rps CT H vs ds F → ∀ a ∈ F, H a ≠ none
  | _, _, _, .nil, a, m => absurd m (by simp)
  | _, _, _, .cons h r, a, m => by
    rcases List.mem_append.mp m with m | m
    · exact Rp.tracked h a m
    · exact Rps.tracked r a m
end
mutual
theorem Rp.imm : ∀ {v : V} {d : D} {F : List Addr}, Rp CT H v d F → d.imm = true → F = []
  | _, _, _, .non, _ => rfl
  | _, _, _, .bl b, _ => rfl
  | _, _, _, .int b, _ => rfl
  | _, _, _, .str b, _ => rfl
  | _, _, _, .tup h r, e => Rps.imm r (by simpa [D.imm] using e)
  | _, _, _, .lst h r, e => by simp [D.imm] at e
  | _, _, _, .dK h _ r, e => by simp [D.imm] at e
  | _, _, _, .dT h _ r, e => by simp [D.imm] at e
  | _, _, _, .obj h _ r, e => by simp [D.imm] at e
  | _, _, _, .fz h _ _ r, e => Rps.imm r (by rw [← immF_eq]; simpa [D.imm] using e)
  | _, _, _, .dN _ _ _ _ r, e => by simp [D.imm] at e
theorem Rps.imm : ∀ {vs : List V} {ds : List D} {F : List Addr}, Rps CT H vs ds F → immL ds = true → F = []
  | _, _, _, .nil, _ => rfl
  | _, _, _, .cons h r, e => by
    simp [immL] at e
    rw [Rp.imm h e.1, Rps.imm r e.2]
    rfl
end
theorem Rps.length : ∀ {vs : List V} {ds : List D} {F : List Addr}, Rps CT H vs ds F → vs.length = ds.length
  | _, _, _, .nil => rfl
  | _, _, _, .cons _ r => by simp [Rps.length r]
theorem Rps.get : ∀ {vs : List V} {ds : List D} {F : List Addr} {j : Nat} {d : D}, Rps CT H vs ds F → ds[j]? = some d → ∃ v G, vs[j]? = some v ∧ Rp CT H v d G ∧ G.Sublist F
  | _, _, _, _, _, .nil, e => by simp at e
  | _, _, _, 0, _, .cons (F := F) h r, e => by
    simp at e; subst e
    exact ⟨_, _, rfl, h, List.sublist_append_left _ _⟩
  | _, _, _, j + 1, _, .cons h r, e => by
    obtain ⟨v, G, h1, h2, h3⟩ := Rps.get (j := j) r (by simpa using e)
    exact ⟨v, G, by simpa using h1, h2, h3.trans (List.sublist_append_right _ _)⟩
theorem Rps.append : ∀ {vs : List V} {ds : List D} {F : List Addr} {ws : List V} {es : List D} {G : List Addr}, Rps CT H vs ds F → Rps CT H ws es G → Rps CT H (vs ++ ws) (ds ++ es) (F ++ G)
  | _, _, _, _, _, _, .nil, s => s
  | _, _, _, _, _, _, .cons h r, s => by
    rw [List.append_assoc]
    exact .cons h (Rps.append r s)
theorem Rps.of_imm : ∀ {vs : List V} {ds : List D}, vs.length = ds.length → (∀ (j : Nat) (v : V) (d : D), vs[j]? = some v → ds[j]? = some d → Rp CT H v d []) → Rps CT H vs ds []
  | [], [], _, _ => .nil
  | v :: vs, d :: ds, l, h => by
    have := Rps.cons (h 0 v d rfl rfl) (Rps.of_imm (vs := vs) (ds := ds) (by simpa using l) fun j v' d' e1 e2 => h (j + 1) v' d' (by simpa using e1) (by simpa using e2))
    simpa using this
  | [], _ :: _, l, _ => by simp at l
  | _ :: _, [], l, _ => by simp at l
theorem Rps.at (r : Rps CT H vs ds []) {j : Nat} {v : V} {d : D} (e1 : vs[j]? = some v) (e2 : ds[j]? = some d) : Rp CT H v d [] := by
  obtain ⟨v', G, h1, h2, h3⟩ := r.get e2
  rw [e1] at h1; cases h1
  rw [List.sublist_nil.mp h3] at h2
  exact h2
theorem Rps.take (r : Rps CT H vs ds []) (n : Nat) : Rps CT H (vs.take n) (ds.take n) [] := by
  refine Rps.of_imm (by simp [r.length]) fun j v d e1 e2 => ?_
  rw [List.getElem?_take] at e1 e2
  split at e1
  · rename_i hj
    rw [if_pos hj] at e2
    exact r.at e1 e2
  · cases e1
theorem Rps.drop (r : Rps CT H vs ds []) (n : Nat) : Rps CT H (vs.drop n) (ds.drop n) [] := by
  refine Rps.of_imm (by simp [r.length]) fun j v d e1 e2 => ?_
  rw [List.getElem?_drop] at e1 e2
  exact r.at e1 e2
end
end Pu
set_option Elab.async false
set_option linter.all false
set_option maxRecDepth 100000
namespace Pu
open PySem PySem.Spec PyProof.Rows L2
structure Stat where
  CT : Nat → Addr
  DQ : Addr × Addr → HO → HO → Prop
structure Cfg extends Stat where
  q : Option (Addr × Addr)
  pin : List (Nat × V)
def Free (C : Cfg) (i : Nat) : Prop := i ∉ C.pin.map (·.1)
structure Dice (DQ : Addr × Addr → HO → HO → Prop) (H : Hp) (p : Addr × Addr) : Prop where
  ex : ∃ o u, H p.1 = some o ∧ H p.2 = some u ∧ DQ p o u
theorem Dice.t1 {DQ : Addr × Addr → HO → HO → Prop} {H : Hp} {p : Addr × Addr} (x : Dice DQ H p) : H p.1 ≠ none := fun z => by
  obtain ⟨o, u, h1, h2, _⟩ := x.ex
  rw [z] at h1; cases h1
theorem Dice.t2 {DQ : Addr × Addr → HO → HO → Prop} {H : Hp} {p : Addr × Addr} (x : Dice DQ H p) : H p.2 ≠ none := fun z => by
  obtain ⟨o, u, h1, h2, _⟩ := x.ex
  rw [z] at h2; cases h2
inductive Mo where
  | o | f | x | q
  deriving DecidableEq
inductive Kd where
  | own | al (S : List Nat)
def Kd.set : Kd → List Nat
  | .own => []
  | .al S => S
def Kd.j : Kd → Kd → Kd
  | .own, .own => .own
  | a, b => .al (a.set ++ b.set)
abbrev PEnv := List (Option D)
abbrev X1 := PEnv → (D → Prop) → Prop
abbrev XB := PEnv → (Bool → Prop) → Prop
abbrev XL := PEnv → (List D → Prop) → Prop
structure PEnds where
  nx : PEnv → Prop
  rt : D → Prop
  bk : PEnv → Prop := fun _ => False
  ct : PEnv → Prop := fun _ => False
abbrev XS := PEnds → PEnv → Prop
def Wq (C : Cfg) : Addr → Prop := fun a => ∃ p, C.q = some p ∧ (a = p.1 ∨ a = p.2)
def DiceOk (C : Cfg) (H : Hp) : Prop := ∀ p, C.q = some p → Dice C.DQ H p
def NoQ (C : Cfg) (F : List Addr) : Prop := ∀ p, C.q = some p → p.1 ∉ F ∧ p.2 ∉ F
theorem NoQ.wq {C : Cfg} {F : List Addr} (n : NoQ C F) : ∀ a ∈ F, ¬ Wq C a := fun a m ⟨p, e, ea⟩ => by
  rcases ea with ea | ea
  · exact (n p e).1 (ea ▸ m)
  · exact (n p e).2 (ea ▸ m)
theorem NoQ.nil {C : Cfg} : NoQ C [] := fun _ _ => by simp
theorem NoQ.app {C : Cfg} {F G : List Addr} (a : NoQ C F) (b : NoQ C G) : NoQ C (F ++ G) := fun p e => ⟨fun m => (List.mem_append.mp m).elim (a p e).1 (b p e).1, fun m => (List.mem_append.mp m).elim (a p e).2 (b p e).2⟩
theorem NoQ.sub {C : Cfg} {F G : List Addr} (a : NoQ C F) (s : G.Sublist F) : NoQ C G := fun p e => ⟨fun m => (a p e).1 (s.mem m), fun m => (a p e).2 (s.mem m)⟩
theorem NoQ.new {C : Cfg} {F : List Addr} {H0 : Hp} (dk : DiceOk C H0) (h : ∀ a ∈ F, H0 a = none) : NoQ C F := fun p e => ⟨fun m => (dk p e).t1 (h _ m), fun m => (dk p e).t2 (h _ m)⟩
theorem wq_there {C : Cfg} {H : Hp} {a : Addr} (dk : DiceOk C H) (w : Wq C a) : H a ≠ none := by
  obtain ⟨p, e, ea⟩ := w
  rcases ea with ea | ea
  · rw [ea]; exact (dk p e).t1
  · rw [ea]; exact (dk p e).t2
def live (m : Mo) : Prop := m = .o ∨ m = .f
structure Ok (C : Cfg) (Γ : List Mo) (σ : L2.St) (H : Hp) (env : PEnv) (Fs : Nat → List Addr) : Prop where
  le : env.length = Γ.length
  ls : σ.length = Γ.length
  val : ∀ (i : Nat) (m : Mo), Γ[i]? = some m → live m → ∃ v d, σ[i]? = some (some v) ∧ env[i]? = some (some d) ∧ Rp C.CT H v d (Fs i)
  dice : ∀ i : Nat, Γ[i]? = some .q → ∃ p, C.q = some p ∧ σ[i]? = some (some (.ref p.1))
  nd : ∀ i : Nat, Γ[i]? = some .o → (Fs i).Nodup
  dj : ∀ (i j : Nat) (m : Mo), Γ[i]? = some .o → Γ[j]? = some m → live m → i ≠ j → ∀ a ∈ Fs i, a ∉ Fs j
  nq : ∀ (i : Nat) (m : Mo), Γ[i]? = some m → live m → NoQ C (Fs i)
  dk : DiceOk C H
  pn : ∀ p ∈ C.pin, σ[p.1]? = some (some p.2)
section
variable {C : Cfg} {Γ Γ' Γl Γ1 : List Mo} {σ σ' : L2.St} {H H' H1 H2 : Hp} {env env' : PEnv} {Fs Fs' : Nat → List Addr} {v : V} {d : D} {F G : List Addr}
theorem Ok.step (I : Ok C Γ σ H env Fs) (f : Fr (Wq C) H H') (dk : DiceOk C H') : Ok C Γ σ H' env Fs := by
  refine ⟨I.le, I.ls, fun i m h l => ?_, I.dice, I.nd, I.dj, I.nq, dk, I.pn⟩
  obtain ⟨v, d, h1, h2, h3⟩ := I.val i m h l
  exact ⟨v, d, h1, h2, h3.keep f (I.nq i m h l).wq⟩
theorem DiceOk.keep (x : DiceOk C H) (f : Fr (fun _ => False) H H') : DiceOk C H' := fun p e => by
  obtain ⟨o, u, h1, h2, r⟩ := (x p e).ex
  exact ⟨o, u, f.keep _ _ h1 (fun z => z), f.keep _ _ h2 (fun z => z), r⟩
theorem Fr.wq {W : Addr → Prop} (f : Fr (fun _ => False) H H') : Fr W H H' := f.mono fun _ z => z.elim
def KdOk (C : Cfg) (Γ : List Mo) (Fs : Nat → List Addr) (H0 : Hp) (A : Kd) (F : List Addr) : Prop :=
  NoQ C F ∧ match A with
    | .own => F.Nodup ∧ ∀ a ∈ F, H0 a = none
    | .al S => ∀ a ∈ F, ∀ i : Nat, Γ[i]? = some .o → a ∈ Fs i → i ∈ S
theorem KdOk.own_nil {H0 : Hp} : KdOk C Γ Fs H0 .own [] := ⟨NoQ.nil, List.nodup_nil, fun _ h => nomatch h⟩
theorem KdOk.nil {H0 : Hp} {A : Kd} : KdOk C Γ Fs H0 A [] := ⟨NoQ.nil, by cases A <;> simp⟩
theorem KdOk.set {H0 : Hp} {A : Kd} (I : Ok C Γ σ H0 env Fs) (k : KdOk C Γ Fs H0 A F) : ∀ a ∈ F, ∀ i : Nat, Γ[i]? = some .o → a ∈ Fs i → i ∈ A.set := fun a m i g b => by
  cases A with
  | own =>
    obtain ⟨v, d, _, _, r⟩ := I.val i _ g (.inl rfl)
    exact absurd (k.2.2 a m) (r.tracked a b)
  | al S => exact k.2 a m i g b
theorem KdOk.al {H0 : Hp} {A : Kd} (I : Ok C Γ σ H0 env Fs) (k : KdOk C Γ Fs H0 A F) : KdOk C Γ Fs H0 (.al A.set) F := ⟨k.1, k.set I⟩
theorem KdOk.sub {H0 : Hp} {A : Kd} (k : KdOk C Γ Fs H0 A F) (s : G.Sublist F) : KdOk C Γ Fs H0 A G := by
  refine ⟨k.1.sub s, ?_⟩
  cases A with
  | own => exact ⟨k.2.1.sublist s, fun a m => k.2.2 a (s.mem m)⟩
  | al S => exact fun a m => k.2 a (s.mem m)
theorem KdOk.j {A B : Kd} (I : Ok C Γ σ H env Fs) (f : Fr (Wq C) H H1) (r : ∀ a ∈ F, H1 a ≠ none) (k : KdOk C Γ Fs H A F) (k' : KdOk C Γ Fs H1 B G) (I1 : Ok C Γ σ H1 env Fs) : KdOk C Γ Fs H (A.j B) (F ++ G) := by
  refine ⟨k.1.app k'.1, ?_⟩
  have al : ∀ a ∈ F ++ G, ∀ i : Nat, Γ[i]? = some .o → a ∈ Fs i → i ∈ A.set ++ B.set := fun a m i g b => by
    rcases List.mem_append.mp m with m | m
    · exact List.mem_append_left _ (k.set I a m i g b)
    · exact List.mem_append_right _ (k'.set I1 a m i g b)
  cases A with
  | own =>
    cases B with
    | own =>
      refine ⟨List.nodup_append.mpr ⟨k.2.1, k'.2.1, fun a m b m' e => ?_⟩, fun a m => ?_⟩
      · subst e
        exact r a m (k'.2.2 a m')
      · rcases List.mem_append.mp m with m | m
        · exact k.2.2 a m
        · exact f.there a (k'.2.2 a m)
    | al S => exact al
  | al S => cases B <;> exact al
def Mono {α : Type} (m : PEnv → (α → Prop) → Prop) : Prop := ∀ env Q Q', (∀ d, Q d → Q' d) → m env Q → m env Q'
structure Sim (C : Cfg) (Γ : List Mo) (t : TE) (A : Kd) (m : X1) : Prop where
  run : ∀ (σ : L2.St) (H : Hp) (env : PEnv) (Fs : Nat → List Addr) (Q : VK), Ok C Γ σ H env Fs →
    m env (fun d => ∀ v H' F, Fr (Wq C) H H' → DiceOk C H' → Rp C.CT H' v d F → KdOk C Γ Fs H A F → Q v H') → t σ H Q
  mono : Mono m
structure SimT (C : Cfg) (Γ : List Mo) (t : TT) (m : XB) : Prop where
  run : ∀ (σ : L2.St) (H : Hp) (env : PEnv) (Fs : Nat → List Addr) (Q : Bool → Hp → Prop), Ok C Γ σ H env Fs →
    m env (fun b => ∀ H', Fr (Wq C) H H' → DiceOk C H' → Q b H') → t σ H Q
  mono : Mono m
structure SimL (C : Cfg) (Γ : List Mo) (t : TA) (A : Kd) (m : XL) : Prop where
  run : ∀ (σ : L2.St) (H : Hp) (env : PEnv) (Fs : Nat → List Addr) (Q : List V → Hp → Prop), Ok C Γ σ H env Fs →
    m env (fun ds => ∀ vs H' F, Fr (Wq C) H H' → DiceOk C H' → Rps C.CT H' vs ds F → KdOk C Γ Fs H A F → Q vs H') → t σ H Q
  mono : Mono m
def xVar (i : Nat) : X1 := fun env Q => match env[i]? with
  | some (some d) => Q d
  | _ => False
theorem mono_var {i : Nat} : Mono (xVar i) := fun env Q Q' h q => by
  unfold xVar at q ⊢
  split at q
  · exact h _ q
  · exact q
theorem sim_var {i : Nat} {m : Mo} (g : Γ[i]? = some m) (l : live m) : Sim C Γ (tVar i) (.al [i]) (xVar i) := ⟨fun σ H env Fs Q I h => by
  obtain ⟨v, d, h1, h2, h3⟩ := I.val i m g l
  unfold xVar at h
  rw [h2] at h
  refine ⟨v, h1, h v H (Fs i) Fr.refl I.dk h3 ⟨I.nq i m g l, fun a ma j gj b => ?_⟩⟩
  by_cases e : j = i
  · simp [e]
  · exact absurd ma (I.dj j i m gj g l e a b), mono_var⟩
theorem sim_varF {i : Nat} (g : Γ[i]? = some .f) : Sim C Γ (tVar i) (.al []) (xVar i) := ⟨fun σ H env Fs Q I h => by
  obtain ⟨v, d, h1, h2, h3⟩ := I.val i _ g (.inr rfl)
  unfold xVar at h
  rw [h2] at h
  refine ⟨v, h1, h v H (Fs i) Fr.refl I.dk h3 ⟨I.nq i _ g (.inr rfl), fun a ma j gj b => ?_⟩⟩
  by_cases e : j = i
  · rw [e, g] at gj; cases gj
  · exact absurd ma (I.dj j i _ gj g (.inr rfl) e a b), mono_var⟩
theorem sim_varO {i : Nat} (g : Γ[i]? = some .o) : Sim C Γ (tVar i) (.al [i]) (xVar i) := sim_var g (.inl rfl)
def xC (d : D) : X1 := fun _ Q => Q d
theorem mono_c {d : D} : Mono (xC d) := fun _ _ _ h q => h _ q
theorem sim_int {i : Int} : Sim C Γ (tC (.int i)) .own (xC (.int i)) := ⟨fun σ H env Fs Q I h => h _ H [] Fr.refl I.dk (.int i) KdOk.own_nil, mono_c⟩
theorem sim_bl {b : Bool} : Sim C Γ (tC (.bl b)) .own (xC (.bl b)) := ⟨fun σ H env Fs Q I h => h _ H [] Fr.refl I.dk (.bl b) KdOk.own_nil, mono_c⟩
theorem sim_non : Sim C Γ (tC .non) .own (xC .non) := ⟨fun σ H env Fs Q I h => h _ H [] Fr.refl I.dk .non KdOk.own_nil, mono_c⟩
def xImm (m : X1) : X1 := fun env Q => m env fun d => d.imm = true ∧ Q d
theorem sim_imm {t : TE} {A : Kd} {m : X1} (s : Sim C Γ t A m) : Sim C Γ t .own (xImm m) := ⟨fun σ H env Fs Q I h => s.run σ H env Fs Q I (s.mono env _ _ (fun d ⟨e, k⟩ v H' F f dk r _ => by
  obtain rfl := r.imm e
  exact k v H' [] f dk r KdOk.own_nil) h), fun env Q Q' h q => s.mono env _ _ (fun d ⟨e, k⟩ => ⟨e, h d k⟩) q⟩
def xNil : XL := fun _ Q => Q []
def xCons (m : X1) (r : XL) : XL := fun env Q => m env fun d => r env fun ds => Q (d :: ds)
theorem siml_nil : SimL C Γ tNil .own xNil := ⟨fun σ H env Fs Q I h => h [] H [] Fr.refl I.dk .nil KdOk.own_nil, fun _ _ _ h q => h _ q⟩
theorem siml_cons {t : TE} {ts : TA} {A B : Kd} {m : X1} {r : XL} (s : Sim C Γ t A m) (s' : SimL C Γ ts B r) : SimL C Γ (tCons t ts) (A.j B) (xCons m r) :=
  ⟨fun σ H env Fs Q I h => s.run σ H env Fs _ I (s.mono env _ _ (fun d q v H1 F f1 dk1 r1 k1 => s'.run σ H1 env Fs _ (I.step f1 dk1) (s'.mono env _ _ (fun ds q vs H2 G f2 dk2 r2 k2 =>
    q (v :: vs) H2 (F ++ G) (f1.trans f2) dk2 (.cons (r1.keep f2 k1.1.wq) r2) (k1.j I f1 r1.tracked k2 (I.step f1 dk1))) q)) h),
   fun env Q Q' h q => s.mono env _ _ (fun d q => s'.mono env _ _ (fun ds q => h _ q) q) q⟩
def xTup (r : XL) : X1 := fun env Q => r env fun ds => ds.length ≤ sizeLine ∧ Q (.tup ds)
def xLst (r : XL) : X1 := fun env Q => r env fun ds => ds.length ≤ sizeLine ∧ Q (.lst ds)
theorem sim_tup {ts : TA} {A : Kd} {r : XL} (s : SimL C Γ ts A r) : Sim C Γ (tTup ts) A (xTup r) :=
  ⟨fun σ H env Fs Q I h => s.run σ H env Fs _ I (s.mono env _ _ (fun ds ⟨z, q⟩ vs H1 F f1 dk1 r1 k1 => ⟨by rw [r1.length]; exact z, fun p hp =>
    q (.ref p) _ F (f1.trans (Fr.new hp)) (dk1.keep (Fr.new hp)) (.tup upd_same (r1.keep (W := fun _ => False) (Fr.new hp) fun _ _ z => z)) k1⟩) h),
   fun env Q Q' h q => s.mono env _ _ (fun ds ⟨z, q⟩ => ⟨z, h _ q⟩) q⟩
theorem KdOk.new {H0 : Hp} {A : Kd} {p : Addr} (I : Ok C Γ σ H0 env Fs) (dk : DiceOk C H1) (f : Fr (Wq C) H0 H1) (k : KdOk C Γ Fs H0 A F) (hp : H1 p = none) (r : ∀ a ∈ F, H1 a ≠ none) : KdOk C Γ Fs H0 A (p :: F) := by
  refine ⟨fun x e => ⟨fun m => ?_, fun m => ?_⟩, ?_⟩
  · rcases List.mem_cons.mp m with z | m
    · exact (dk x e).t1 (z ▸ hp)
    · exact (k.1 x e).1 m
  · rcases List.mem_cons.mp m with z | m
    · exact (dk x e).t2 (z ▸ hp)
    · exact (k.1 x e).2 m
  · cases A with
    | own =>
      refine ⟨List.nodup_cons.mpr ⟨fun m => r p m hp, k.2.1⟩, fun a m => ?_⟩
      rcases List.mem_cons.mp m with z | m
      · rw [z]; exact f.there p hp
      · exact k.2.2 a m
    | al S =>
      intro a m i g b
      rcases List.mem_cons.mp m with z | m
      · obtain ⟨v, d, _, _, r'⟩ := I.val i _ g (.inl rfl)
        exact absurd (f.there p hp) (by rw [← z]; exact r'.tracked a b)
      · exact k.2 a m i g b
theorem sim_lst {ts : TA} {A : Kd} {r : XL} (s : SimL C Γ ts A r) : Sim C Γ (tLst ts) A (xLst r) :=
  ⟨fun σ H env Fs Q I h => s.run σ H env Fs _ I (s.mono env _ _ (fun ds ⟨z, q⟩ vs H1 F f1 dk1 r1 k1 => ⟨by rw [r1.length]; exact z, fun p hp =>
    q (.ref p) _ (p :: F) (f1.trans (Fr.new hp)) (dk1.keep (Fr.new hp)) (.lst upd_same (r1.keep (W := fun _ => False) (Fr.new hp) fun _ _ z => z)) (k1.new I dk1 f1 hp r1.tracked)⟩) h),
   fun env Q Q' h q => s.mono env _ _ (fun ds ⟨z, q⟩ => ⟨z, h _ q⟩) q⟩
end
end Pu
set_option Elab.async false
set_option linter.all false
set_option maxRecDepth 100000
namespace Pu
open PySem PySem.Spec PyProof.Rows L2
abbrev O1 := D → (D → Prop) → Prop
abbrev O2 := D → D → (D → Prop) → Prop
def Mono1 (o : O1) : Prop := ∀ d Q Q', (∀ x, Q x → Q' x) → o d Q → o d Q'
def Mono2 (o : O2) : Prop := ∀ d e Q Q', (∀ x, Q x → Q' x) → o d e Q → o d e Q'
def New (CT : Nat → Addr) (H : Hp) (Q : VK) (d : D) : Prop := ∀ v H' F, Fr (fun _ => False) H H' → Rp CT H' v d F → F.Nodup → (∀ a ∈ F, H a = none) → Q v H'
theorem New.imm {CT : Nat → Addr} {H : Hp} {Q : VK} {d : D} {v : V} (n : New CT H Q d) (r : Rp CT H v d []) : Q v H := n v H [] Fr.refl r List.nodup_nil fun _ h => nomatch h
theorem New.at {CT : Nat → Addr} {H : Hp} {Q : VK} {d : D} {v : V} {p : Addr} {o : HO} (n : New CT H Q d) (hp : H p = none) (r : Rp CT (upd H p o) v d []) : Q v (upd H p o) :=
  n v _ [] (Fr.new hp) r List.nodup_nil fun _ h => nomatch h
theorem New.at1 {CT : Nat → Addr} {H : Hp} {Q : VK} {d : D} {v : V} {p : Addr} {o : HO} (n : New CT H Q d) (hp : H p = none) (r : Rp CT (upd H p o) v d [p]) : Q v (upd H p o) :=
  n v _ [p] (Fr.new hp) r (by simp) fun a h => by rw [List.mem_singleton.mp h]; exact hp
structure SimO1 (CT : Nat → Addr) (r : V → Hp → VK → Prop) (o : O1) : Prop where
  run : ∀ (H : Hp) (v : V) (d : D) (F : List Addr) (Q : VK), Rp CT H v d F → o d (New CT H Q) → r v H Q
  mono : Mono1 o
structure SimO2 (CT : Nat → Addr) (r : R2) (o : O2) : Prop where
  run : ∀ (H : Hp) (v w : V) (d e : D) (F G : List Addr) (Q : VK), Rp CT H v d F → Rp CT H w e G → o d e (New CT H Q) → r v w H Q
  mono : Mono2 o
structure SimC1 (CT : Nat → Addr) (r : List V → Hp → VK → Prop) (o : O1) : Prop where
  run : ∀ (H : Hp) (v : V) (d : D) (F : List Addr) (Q : VK), Rp CT H v d F → o d (New CT H Q) → r [v] H Q
  mono : Mono1 o
structure SimC2 (CT : Nat → Addr) (r : List V → Hp → VK → Prop) (o : O2) : Prop where
  run : ∀ (H : Hp) (v w : V) (d e : D) (F G : List Addr) (Q : VK), Rp CT H v d F → Rp CT H w e G → o d e (New CT H Q) → r [v, w] H Q
  mono : Mono2 o
def x1 (o : O1) (m : X1) : X1 := fun env Q => m env fun d => o d Q
def x2 (o : O2) (m n : X1) : X1 := fun env Q => m env fun d => n env fun e => o d e Q
theorem mono_x1 {o : O1} {m : X1} (h : Mono1 o) (hm : Mono m) : Mono (x1 o m) := fun env Q Q' k q => hm env _ _ (fun d q => h d _ _ k q) q
theorem mono_x2 {o : O2} {m n : X1} (h : Mono2 o) (hm : Mono m) (hn : Mono n) : Mono (x2 o m n) := fun env Q Q' k q => hm env _ _ (fun d q => hn env _ _ (fun e q => h d e _ _ k q) q) q
section
variable {C : Cfg} {Γ : List Mo} {σ : L2.St} {H H' H1 : Hp} {env : PEnv} {Fs : Nat → List Addr} {v : V} {vs : List V} {d : D} {ds : List D} {F G : List Addr} {ta tb te : TE} {A B : Kd} {m n : X1}
theorem fin_new {Q : VK} (I : Ok C Γ σ H env Fs) (f : Fr (Wq C) H H1) (dk : DiceOk C H1)
    (k : ∀ v H' F, Fr (Wq C) H H' → DiceOk C H' → Rp C.CT H' v d F → KdOk C Γ Fs H .own F → Q v H') : New C.CT H1 Q d := fun v H' F f2 r nd fr =>
  k v H' F (f.trans f2.wq) (dk.keep f2) r ⟨NoQ.new dk fr, nd, fun a mm => f.there a (fr a mm)⟩
theorem sim_un {r : V → Hp → VK → Prop} {o : O1} (s : Sim C Γ ta A m) (h : SimO1 C.CT r o) : Sim C Γ (tUn r ta) .own (x1 o m) :=
  ⟨fun σ H env Fs Q I q => s.run σ H env Fs _ I (s.mono env _ _ (fun d q v H1 F f dk r k => h.run H1 v d F Q r (h.mono d _ _ (fun x k => fin_new I f dk k) q)) q), mono_x1 h.mono s.mono⟩
theorem sim_op {r : R2} {o : O2} (h : SimO2 C.CT r o) (s : Sim C Γ ta A m) (s' : Sim C Γ tb B n) : Sim C Γ (tOp r ta tb) .own (x2 o m n) :=
  ⟨fun σ H env Fs Q I q => s.run σ H env Fs _ I (s.mono env _ _ (fun d q v H1 F f dk r k => s'.run σ H1 env Fs _ (I.step f dk) (s'.mono env _ _ (fun e q w H2 G f2 dk2 r2 k2 =>
    h.run H2 v w d e F G Q (r.keep f2 k.1.wq) r2 (h.mono d e _ _ (fun x k => fin_new I (f.trans f2) dk2 k) q)) q)) q), mono_x2 h.mono s.mono s'.mono⟩
theorem sim_call1 {r : List V → Hp → VK → Prop} {o : O1} (h : SimC1 C.CT r o) (s : Sim C Γ ta A m) : Sim C Γ (tCB r (tCons ta tNil)) .own (x1 o m) :=
  ⟨fun σ H env Fs Q I q => s.run σ H env Fs _ I (s.mono env _ _ (fun d q v H1 F f dk r k => h.run H1 v d F Q r (h.mono d _ _ (fun x k => fin_new I f dk k) q)) q), mono_x1 h.mono s.mono⟩
theorem sim_call2 {r : List V → Hp → VK → Prop} {o : O2} (h : SimC2 C.CT r o) (s : Sim C Γ ta A m) (s' : Sim C Γ tb B n) : Sim C Γ (tCB r (tCons ta (tCons tb tNil))) .own (x2 o m n) :=
  ⟨fun σ H env Fs Q I q => s.run σ H env Fs _ I (s.mono env _ _ (fun d q v H1 F f dk r k => s'.run σ H1 env Fs _ (I.step f dk) (s'.mono env _ _ (fun e q w H2 G f2 dk2 r2 k2 =>
    h.run H2 v w d e F G Q (r.keep f2 k.1.wq) r2 (h.mono d e _ _ (fun x k => fin_new I (f.trans f2) dk2 k) q)) q)) q), mono_x2 h.mono s.mono s'.mono⟩
theorem Rps.ints {CT : Nat → Addr} : ∀ {ns : List Int} {vs : List V} {F : List Addr}, Rps CT H vs (ns.map D.int) F → vs = ns.map V.int ∧ F = []
  | [], _, _, .nil => ⟨rfl, rfl⟩
  | n :: ns, _, _, .cons (.int _) r => by
    obtain ⟨h1, h2⟩ := Rps.ints (ns := ns) r
    exact ⟨by rw [h1] <;> rfl, by rw [h2] <;> rfl⟩
theorem Rps.bls {CT : Nat → Addr} : ∀ {ns : List Bool} {vs : List V} {F : List Addr}, Rps CT H vs (ns.map D.bl) F → vs = ns.map V.bl ∧ F = []
  | [], _, _, .nil => ⟨rfl, rfl⟩
  | n :: ns, _, _, .cons (.bl _) r => by
    obtain ⟨h1, h2⟩ := Rps.bls (ns := ns) r
    exact ⟨by rw [h1] <;> rfl, by rw [h2] <;> rfl⟩
theorem Rps.of_ints {CT : Nat → Addr} : ∀ {ns : List Int}, Rps CT H (ns.map V.int) (ns.map D.int) []
  | [] => .nil
  | n :: ns => Rps.cons (.int n) (Rps.of_ints (ns := ns))
def oI (g : Int → Int → D) : O2 := fun d e Q => match d, e with
  | .int i, .int j => Q (g i j)
  | _, _ => False
def oIc (c : Int → Int → Prop) (g : Int → Int → D) : O2 := fun d e Q => match d, e with
  | .int i, .int j => c i j ∧ Q (g i j)
  | _, _ => False
theorem mono_oI {g : Int → Int → D} : Mono2 (oI g) := fun d e Q Q' k q => by
  cases d <;> cases e <;> first | exact k _ q | exact q
theorem mono_oIc {c : Int → Int → Prop} {g : Int → Int → D} : Mono2 (oIc c g) := fun d e Q Q' k q => by
  cases d <;> cases e <;> first | exact ⟨q.1, k _ q.2⟩ | exact q
theorem so_I {g : Int → Int → V} {g' : Int → Int → D} {CT : Nat → Addr} (h : ∀ H i j, Rp CT H (g i j) (g' i j) []) : SimO2 CT (rI0 g) (oI g') :=
  ⟨fun H v w d e F G Q a b q => by
    cases a <;> cases b <;> first | exact ⟨_, _, rfl, rfl, New.imm q (h _ _ _)⟩ | exact (show False from q).elim, mono_oI⟩
theorem so_Ic {c : Int → Int → Prop} {g : Int → Int → V} {g' : Int → Int → D} {CT : Nat → Addr} (h : ∀ H i j, Rp CT H (g i j) (g' i j) []) : SimO2 CT (rI c g) (oIc c g') :=
  ⟨fun H v w d e F G Q a b q => by
    cases a <;> cases b <;> first | exact ⟨_, _, rfl, rfl, q.1, New.imm q.2 (h _ _ _)⟩ | exact (show False from q).elim, mono_oIc⟩
def rAddU (K : PySem.W.Frag) : R2 := fun x y H Q => ((rI0 (fun i j => .int (i + j)) x y H Q ∨ rCatA K x y H Q) ∨ rCat x y H Q) ∨ ∃ i j, x = .str i ∧ y = .str j ∧ i.length + j.length ≤ sizeLine ∧ Q (.str (i ++ j)) H
theorem op_addU {X : Cx} : OpR X (binaryOp .Add) (rAddU X.K) := ((op_add.or op_catA).or op_cat).or op_add_str
def oAdd : O2 := fun d e Q => match d, e with
  | .int i, .int j => Q (.int (i + j))
  | .tup xs, .tup ys => immL xs = true ∧ immL ys = true ∧ xs.length + ys.length ≤ sizeLine ∧ Q (.tup (xs ++ ys))
  | .lst xs, .lst ys => immL xs = true ∧ immL ys = true ∧ xs.length + ys.length ≤ sizeLine ∧ Q (.lst (xs ++ ys))
  | .str x, .str y => x.length + y.length ≤ sizeLine ∧ Q (.str (x ++ y))
  | _, _ => False
theorem mono_oAdd : Mono2 oAdd := fun d e Q Q' k q => by
  cases d <;> cases e <;> first | exact k _ q | exact ⟨q.1, k _ q.2⟩ | exact ⟨q.1, q.2.1, q.2.2.1, k _ q.2.2.2⟩ | exact q
theorem so_add {K : PySem.W.Frag} {CT : Nat → Addr} : SimO2 CT (rAddU K) oAdd := ⟨fun H v w d e F G Q a b q => by
  cases a with
  | int i =>
    cases b <;> first | exact .inl (.inl (.inl ⟨_, _, rfl, rfl, New.imm q (.int _)⟩)) | exact (show False from q).elim
  | str x =>
    cases b <;> first | exact .inr ⟨_, _, rfl, rfl, q.1, New.imm q.2 (.str _)⟩ | exact (show False from q).elim
  | tup ha ra =>
    cases b with
    | tup hb rb =>
      obtain ⟨i1, i2, z, q⟩ := q
      have e1 := ra.imm i1
      have e2 := rb.imm i2
      subst e1 e2
      refine .inl (.inl (.inr ⟨_, _, _, _, rfl, rfl, SqT.of ha, SqT.of hb, by rw [ra.length, rb.length]; exact z, fun e => ?_, fun _ e => ?_, fun _ _ p hp => ?_⟩))
      · subst e
        cases ra
        exact New.imm q (.tup hb rb)
      · subst e
        cases rb
        rw [List.append_nil] at q
        exact New.imm q (.tup ha ra)
      · exact New.at q hp (.tup upd_same ((ra.append rb).keep (W := fun _ => False) (Fr.new hp) fun _ h => nomatch h))
    | _ => exact (show False from q).elim
  | lst ha ra =>
    cases b with
    | lst hb rb =>
      obtain ⟨i1, i2, z, q⟩ := q
      have e1 := ra.imm i1
      have e2 := rb.imm i2
      subst e1 e2
      exact .inl (.inr ⟨_, _, _, _, rfl, rfl, ha, hb, by rw [ra.length, rb.length]; exact z, fun p hp => New.at1 q hp (.lst upd_same ((ra.append rb).keep (W := fun _ => False) (Fr.new hp) fun _ h => nomatch h))⟩)
    | _ => exact (show False from q).elim
  | _ => exact (show False from q).elim, mono_oAdd⟩
theorem so_sub {CT : Nat → Addr} : SimO2 CT (rI0 fun i j => .int (i - j)) (oI fun i j => .int (i - j)) := so_I fun _ _ _ => .int _
theorem so_mul {CT : Nat → Addr} : SimO2 CT (rI CMul fun i j => .int (i * j)) (oIc CMul fun i j => .int (i * j)) := so_Ic fun _ _ _ => .int _
theorem so_fdiv {CT : Nat → Addr} : SimO2 CT (rI CDivN fun i j => .int (i.fdiv j)) (oIc CDivN fun i j => .int (i.fdiv j)) := so_Ic fun _ _ _ => .int _
theorem so_mod {CT : Nat → Addr} : SimO2 CT (rI (fun _ j => j ≠ 0) fun i j => .int (i.fmod j)) (oIc (fun _ j => j ≠ 0) fun i j => .int (i.fmod j)) := so_Ic fun _ _ _ => .int _
theorem so_pow {CT : Nat → Addr} : SimO2 CT (rI CPow fun i j => .int (i ^ j.toNat)) (oIc CPow fun i j => .int (i ^ j.toNat)) := so_Ic fun _ _ _ => .int _
theorem so_lt {CT : Nat → Addr} : SimO2 CT (rI0 fun i j => .bl (decide (i < j))) (oI fun i j => .bl (decide (i < j))) := so_I fun _ _ _ => .bl _
theorem so_le {CT : Nat → Addr} : SimO2 CT (rI0 fun i j => .bl (decide (i ≤ j))) (oI fun i j => .bl (decide (i ≤ j))) := so_I fun _ _ _ => .bl _
theorem so_gt {CT : Nat → Addr} : SimO2 CT (rI0 fun i j => .bl (decide (j < i))) (oI fun i j => .bl (decide (j < i))) := so_I fun _ _ _ => .bl _
theorem so_ge {CT : Nat → Addr} : SimO2 CT (rI0 fun i j => .bl (decide (j ≤ i))) (oI fun i j => .bl (decide (j ≤ i))) := so_I fun _ _ _ => .bl _
def oNeg : O1 := fun d Q => match d with
  | .int i => Q (.int (-i))
  | _ => False
theorem so_neg {CT : Nat → Addr} : SimO1 CT (rU fun i => .int (-i)) oNeg := ⟨fun H v d F Q a q => by
  cases a <;> first | exact ⟨_, rfl, New.imm q (.int _)⟩ | exact (show False from q).elim, fun d Q Q' k q => by cases d <;> first | exact k _ q | exact q⟩
mutual
def D.py : D → PyData
  | .non => .none
  | .bl b => .bool b
  | .int i => .int i
  | .str x => .str x
  | .tup xs => .tuple (pyL xs)
  | .lst xs => .list (pyL xs)
  | .dK _ => .dict []
  | .dT _ => .dict []
  | .obj _ _ => .dict []
  | .fz _ _ => .dict []
  | .dN _ => .dict []
def pyL : List D → List PyData
  | [] => []
  | x :: xs => D.py x :: pyL xs
end
mutual
theorem Rp.dp {CT : Nat → Addr} {K : PySem.W.Frag} : ∀ {v : V} {d : D} {F : List Addr}, Rp CT H v d F → d.py.canLay0 = true → Dp K H v d.py
  | _, _, _, .non, _ => .non
  | _, _, _, .bl b, _ => .bl b
  | _, _, _, .int b, _ => .int b
  | _, _, _, .str b, _ => .str b
  | _, _, _, .tup h r, c => .tup (SqT.of h) (Rps.dp r (by simpa [D.py, PyData.canLay0] using c))
  | _, _, _, .lst h r, c => .lst (SqL.of h) (Rps.dp r (by simpa [D.py, PyData.canLay0] using c))
  | _, _, _, .dK h _ r, c => by simp [D.py, PyData.canLay0] at c
  | _, _, _, .dT h _ r, c => by simp [D.py, PyData.canLay0] at c
  | _, _, _, .obj h _ r, c => by simp [D.py, PyData.canLay0] at c
  | _, _, _, .fz h _ _ r, c => by simp [D.py, PyData.canLay0] at c
  | _, _, _, .dN _ _ _ _ _, c => by simp [D.py, PyData.canLay0] at c
theorem Rps.dp {CT : Nat → Addr} {K : PySem.W.Frag} : ∀ {vs : List V} {ds : List D} {F : List Addr}, Rps CT H vs ds F → PyData.canLayAll0 (pyL ds) = true → DpAll K H vs (pyL ds)
  | _, _, _, .nil, _ => .nil
  | _, _, _, .cons h r, c => by
    simp only [pyL, PyData.canLayAll0, Bool.and_eq_true] at c
    exact .cons (Rp.dp h c.1) (Rps.dp r c.2)
end
def Sh (d : D) : Prop := SeqAt.shaped d.py = true
def D.eqb (d e : D) : Bool := PyData.eqv d.py e.py
def oEq : O2 := fun d e Q => Sh d ∧ Sh e ∧ Q (.bl (D.eqb d e))
def oNe : O2 := fun d e Q => Sh d ∧ Sh e ∧ Q (.bl (!D.eqb d e))
theorem so_eq {K : PySem.W.Frag} {CT : Nat → Addr} : SimO2 CT (rEqD K) oEq := ⟨fun H v w d e F G Q a b ⟨h1, h2, q⟩ =>
  ⟨_, _, a.dp (SeqAt.canLay_of_shaped h1), b.dp (SeqAt.canLay_of_shaped h2), h1, h2, New.imm q (.bl _)⟩, fun d e Q Q' k ⟨h1, h2, q⟩ => ⟨h1, h2, k _ q⟩⟩
theorem so_ne {K : PySem.W.Frag} {CT : Nat → Addr} : SimO2 CT (rNeD K) oNe := ⟨fun H v w d e F G Q a b ⟨h1, h2, q⟩ =>
  ⟨_, _, a.dp (SeqAt.canLay_of_shaped h1), b.dp (SeqAt.canLay_of_shaped h2), h1, h2, New.imm q (.bl _)⟩, fun d e Q Q' k ⟨h1, h2, q⟩ => ⟨h1, h2, k _ q⟩⟩
def D.isN : D → Bool
  | .non => true
  | _ => false
def rIsNone : R2 := fun x y H Q => y = .non ∧ Q (.bl (decide (x = .non))) H
theorem Rp.isN {CT : Nat → Addr} (r : Rp CT H v d F) : decide (v = .non) = d.isN := by
  cases r <;> simp [D.isN]
def oIsN : O2 := fun d e Q => e.isN = true ∧ Q (.bl d.isN)
def oNotN : O2 := fun d e Q => e.isN = true ∧ Q (.bl (!d.isN))
theorem Rp.non_of {CT : Nat → Addr} (r : Rp CT H v d F) (h : d.isN = true) : v = .non := of_decide_eq_true (r.isN.trans h)
theorem so_isN {CT : Nat → Addr} : SimO2 CT rIsNone oIsN := ⟨fun H v w d e F G Q a b ⟨h, q⟩ => ⟨b.non_of h, by rw [a.isN]; exact New.imm q (.bl _)⟩, fun d e Q Q' k ⟨h, q⟩ => ⟨h, k _ q⟩⟩
def oIsB (neg : Bool) : O2 := fun d e Q => match d, e with
  | .bl a, .bl b => Q (.bl (if neg then !decide (a = b) else decide (a = b)))
  | _, _ => False
end
end Pu
set_option Elab.async false
set_option linter.all false
set_option maxRecDepth 100000
namespace Pu
open PySem PySem.Spec PyProof.Rows L2
section
variable {C : Cfg} {Γ : List Mo} {σ : L2.St} {H H' H1 : Hp} {env : PEnv} {Fs : Nat → List Addr} {v : V} {vs : List V} {d : D} {ds : List D} {F G : List Addr} {ta tb te : TE} {A B : Kd} {m n : X1} {CT : Nat → Addr} {K : PySem.W.Frag}
def D.key? : D → Option Key
  | .int i => some (.inl i)
  | .str x => some (.inr x)
  | _ => none
def keys? : List D → Option (List Key)
  | [] => some []
  | d :: ds => match d.key?, keys? ds with
    | some k, some ks => some (k :: ks)
    | _, _ => none
def D.tkey? : D → Option (List Key)
  | .tup ds => keys? ds
  | _ => none
theorem Rp.key {k : Key} (r : Rp CT H v d F) (h : d.key? = some k) : v = kV k := by
  cases r <;> simp [D.key?] at h <;> subst h <;> rfl
theorem Rps.keys : ∀ {vs : List V} {ds : List D} {F : List Addr} {ks : List Key}, Rps CT H vs ds F → keys? ds = some ks → vs = ks.map kV
  | _, _, _, _, .nil, h => by simp [keys?] at h; subst h; rfl
  | _, _, _, ks, .cons (d := d) (ds := ds) r rs, h => by
    unfold keys? at h
    split at h
    · rename_i k ks' h1 h2
      cases h
      rw [r.key h1, rs.keys h2]
      rfl
    · cases h
theorem Rp.tkey {k : List Key} (r : Rp CT H v d F) (h : d.tkey? = some k) : ∃ b, v = .ref b ∧ H b = some (.tup (k.map kV)) := by
  cases r <;> simp [D.tkey?] at h
  rename_i a vs ds ha rs
  exact ⟨_, rfl, by rw [ha, rs.keys h]⟩
def lookD {κ : Type} [DecidableEq κ] (kvs : List (κ × D)) (k : κ) : Option D := (kvs.find? fun kv => decide (kv.1 = k)).map (·.2)
theorem look_val {κ : Type} [DecidableEq κ] : ∀ {kvs : List (κ × V)} {kds : List (κ × D)} {F : List Addr} (k : κ), kvs.map (·.1) = kds.map (·.1) → Rps CT H (kvs.map (·.2)) (kds.map (·.2)) F →
    (lookD kds k = none ∧ valV kvs k = none) ∨ ∃ d v G, lookD kds k = some d ∧ valV kvs k = some v ∧ Rp CT H v d G ∧ G.Sublist F
  | [], [], _, k, _, _ => .inl ⟨rfl, rfl⟩
  | [], _ :: _, _, _, e, _ => by simp at e
  | _ :: _, [], _, _, e, _ => by simp at e
  | p :: kvs, q :: kds, _, k, e, .cons (F := F) (G := G) r rs => by
    simp only [List.map_cons, List.cons.injEq] at e
    obtain ⟨e1, e2⟩ := e
    by_cases h : p.1 = k
    · refine .inr ⟨q.2, p.2, F, ?_, ?_, r, List.sublist_append_left _ _⟩
      · unfold lookD; rw [List.find?_cons, decide_eq_true (e1 ▸ h)] <;> rfl
      · exact valV_pos h
    · have h' : ¬ q.1 = k := e1 ▸ h
      have a1 : lookD (q :: kds) k = lookD kds k := by unfold lookD; rw [List.find?_cons, decide_eq_false h']
      rcases look_val k e2 rs with ⟨b1, b2⟩ | ⟨d, v, G', b1, b2, b3, b4⟩
      · exact .inl ⟨a1.trans b1, (valV_neg h).trans b2⟩
      · exact .inr ⟨d, v, G', a1.trans b1, (valV_neg h).trans b2, b3, b4.trans (List.sublist_append_right _ _)⟩
theorem ix_dict {X : Cx} (hu : X.A.units + 1 < cLine) : IxR X (fun x y H Q => ∃ a v, x = .ref a ∧ DGet H a y (some v) ∧ Q v H) := by
  intro value slice pins s σ H x y v u Q I rx ry h hs
  obtain ⟨a, z, rfl, g, q⟩ := h
  obtain rfl : v = Value.ref a := rx
  exact tail_any (dict_typeIs I g) PySem.F.slot_dict_getitem.lookup (d_getItem hu I g ry fun w' s3 I3 rw' => ⟨z, H, I3, rw', q⟩) hs
def rIxU (K : PySem.W.Frag) : R2 := fun x y H Q => rIx K x y H Q ∨ ∃ a v, x = .ref a ∧ DGet H a y (some v) ∧ Q v H
theorem ix_U {X : Cx} (hu : X.A.units + 1 < cLine) : IxR X (rIxU X.K) := ix_seq.or (ix_dict hu)
def atD (xs : List D) (i : Int) (Q : D → Prop) : Prop := match atI xs i with
  | some d => Q d
  | none => False
def oIx : O2 := fun d e Q => match d with
  | .tup xs => (match e with | .int i => atD xs i Q | _ => False)
  | .lst xs => (match e with | .int i => atD xs i Q | _ => False)
  | .str z => (match e with | .int i => z.length ≤ sizeLine ∧ (match atI z.cps.toList i with | some c => Q (.str ⟨#[c]⟩) | none => False) | _ => False)
  | .dK kvs => (match e.key? with | some k => (match lookD kvs k with | some x => Q x | none => False) | none => False)
  | .dT kvs => (match e.tkey? with | some k => (match lookD kvs k with | some x => Q x | none => False) | none => False)
  | _ => False
theorem mono_atD {xs : List D} {i : Int} {Q Q' : D → Prop} (h : ∀ x, Q x → Q' x) (q : atD xs i Q) : atD xs i Q' := by
  unfold atD at q ⊢
  split at q
  · exact h _ q
  · exact q
theorem mono_oIx : Mono2 oIx := fun d e Q Q' h q => by
  cases d with
  | tup xs => cases e <;> first | exact mono_atD h q | exact q
  | lst xs => cases e <;> first | exact mono_atD h q | exact q
  | str z =>
    cases e with
    | int i =>
      refine ⟨q.1, ?_⟩
      have q2 := q.2
      revert q2
      cases atI z.cps.toList i with
      | some c => exact h _
      | none => exact fun z => z
    | _ => exact q
  | dK kvs =>
    unfold oIx at q ⊢
    revert q
    cases e.key? with
    | none => exact fun z => z
    | some k =>
      cases hl : lookD kvs k with
      | none => simp only [hl]; exact fun z => z
      | some x => simp only [hl]; exact h _
  | dT kvs =>
    unfold oIx at q ⊢
    revert q
    cases e.tkey? with
    | none => exact fun z => z
    | some k =>
      cases hl : lookD kvs k with
      | none => simp only [hl]; exact fun z => z
      | some x => simp only [hl]; exact h _
  | _ => exact q
theorem atI_len {α β : Type} {xs : List α} {ys : List β} {i : Int} {y : β} (l : xs.length = ys.length) (h : atI ys i = some y) : ∃ j : Nat, ys[j]? = some y ∧ ∀ x, xs[j]? = some x → atI xs i = some x := by
  unfold atI at h ⊢
  rw [← l] at h
  cases e : ixN xs.length i with
  | none => rw [e] at h; cases h
  | some j => rw [e] at h; exact ⟨j, h, fun x hx => hx⟩
theorem Rps.atI (r : Rps CT H vs ds F) {i : Int} {Q : D → Prop} (q : atD ds i Q) : ∃ v d G, L2.atI vs i = some v ∧ Q d ∧ Rp CT H v d G ∧ G.Sublist F := by
  unfold atD at q
  split at q
  · rename_i d e
    obtain ⟨j, h1, h2⟩ := atI_len (r.length) e
    obtain ⟨v, G, h3, h4, h5⟩ := r.get h1
    exact ⟨v, d, G, h2 v h3, q, h4, h5⟩
  · exact q.elim
structure SimPart (CT : Nat → Addr) (r : R2) (o : O2) : Prop where
  run : ∀ (H : Hp) (v w : V) (d e : D) (F G : List Addr) (Q : VK), Rp CT H v d F → Rp CT H w e G → o d e (fun x => ∀ z P, Rp CT H z x P → P.Sublist F → Q z H) → r v w H Q
  mono : Mono2 o
theorem so_ix : SimPart CT (rIxU K) oIx := ⟨fun H v w d e F G Q a b q => by
  cases a with
  | tup ha ra =>
    cases b with
    | int i =>
      obtain ⟨v, d, P, h1, h2, h3, h4⟩ := ra.atI q
      exact .inl (.inr (.inl ⟨_, _, _, _, rfl, rfl, SqT.of ha, h1, h2 v P h3 h4⟩))
    | _ => exact (show False from q).elim
  | lst ha ra =>
    cases b with
    | int i =>
      obtain ⟨v, d, P, h1, h2, h3, h4⟩ := ra.atI q
      exact .inl (.inl ⟨_, _, _, _, rfl, rfl, SqL.of ha, h1, h2 v P h3 (h4.trans (List.sublist_cons_self _ _))⟩)
    | _ => exact (show False from q).elim
  | str z =>
    cases b with
    | int i =>
      obtain ⟨q1, q2⟩ := q
      dsimp only at q2
      cases e : L2.atI z.cps.toList i with
      | none => rw [e] at q2; exact q2.elim
      | some c => rw [e] at q2; exact .inl (.inr (.inr ⟨_, _, _, rfl, rfl, q1, e, q2 _ [] (.str _) (List.nil_sublist _)⟩))
    | _ => exact (show False from q).elim
  | dK ha hk ra =>
    unfold oIx at q
    dsimp only at q
    cases ek : e.key? with
    | none => rw [ek] at q; exact q.elim
    | some k =>
      rw [ek] at q
      rcases look_val k hk ra with ⟨h1, _⟩ | ⟨x, v, P, h1, h2, h3, h4⟩
      · simp only [h1] at q
      · simp only [h1] at q
        exact .inr ⟨_, v, rfl, .inl ⟨_, k, .inl ha, b.key ek, h2.symm⟩, q v P h3 (h4.trans (List.sublist_cons_self _ _))⟩
  | dT ha hk ra =>
    unfold oIx at q
    dsimp only at q
    cases ek : e.tkey? with
    | none => rw [ek] at q; exact q.elim
    | some k =>
      rw [ek] at q
      obtain ⟨b', eb, hb⟩ := b.tkey ek
      rcases look_val k hk ra with ⟨h1, _⟩ | ⟨x, v, P, h1, h2, h3, h4⟩
      · simp only [h1] at q
      · simp only [h1] at q
        exact .inr ⟨_, v, rfl, .inr ⟨_, k, b', .inl ha, eb, hb, h2.symm⟩, q v P h3 (h4.trans (List.sublist_cons_self _ _))⟩
  | _ => exact (show False from q).elim, mono_oIx⟩
theorem sim_part {r : R2} {o : O2} (h : SimPart C.CT r o) (s : Sim C Γ ta A m) (s' : Sim C Γ tb B n) : Sim C Γ (tOp r ta tb) A (x2 o m n) :=
  ⟨fun σ H env Fs Q I q => s.run σ H env Fs _ I (s.mono env _ _ (fun d q v H1 F f dk r k => s'.run σ H1 env Fs _ (I.step f dk) (s'.mono env _ _ (fun e q w H2 G f2 dk2 r2 k2 =>
    h.run H2 v w d e F G Q (r.keep f2 k.1.wq) r2 (h.mono d e _ _ (fun x q z P rz sub => q z H2 P (f.trans f2) dk2 rz (k.sub sub)) q)) q)) q), mono_x2 h.mono s.mono s'.mono⟩
def D.flat : D → Bool
  | .non => true
  | .bl _ => true
  | .int _ => true
  | .str _ => true
  | _ => false
theorem Rp.flat (r : Rp CT H v d F) (h : d.flat = true) : flatV v = true := by cases r <;> first | rfl | exact absurd h Bool.false_ne_true
theorem eqV_eqb {w : V} {e : D} (r : Rp CT H v d F) (r' : Rp CT H w e G) (h : d.flat = true) (h' : e.flat = true) : eqV v w = D.eqb d e := by
  cases r <;> first | exact absurd h Bool.false_ne_true | skip
  all_goals (cases r' <;> first | exact absurd h' Bool.false_ne_true | rfl | (simp [D.eqb, D.py, eqV, PyData.eqv]))
theorem Rps.flat : ∀ {vs : List V} {ds : List D} {F : List Addr}, Rps CT H vs ds F → ds.all D.flat = true → vs.all flatV = true
  | _, _, _, .nil, _ => rfl
  | _, _, _, .cons r rs, h => by
    simp only [List.all_cons, Bool.and_eq_true] at h ⊢
    exact ⟨r.flat h.1, rs.flat h.2⟩
theorem Rps.inV {x : V} {e : D} (r' : Rp CT H x e G) (h' : e.flat = true) : ∀ {vs : List V} {ds : List D} {F : List Addr}, Rps CT H vs ds F → ds.all D.flat = true → L2.inV x vs = ds.any fun z => D.eqb z e
  | _, _, _, .nil, _ => rfl
  | _, _, _, .cons r rs, h => by
    simp only [List.all_cons, Bool.and_eq_true] at h
    unfold L2.inV
    rw [List.any_cons, List.any_cons, eqV_eqb r r' h.1 h']
    congr 1
    exact rs.inV r' h' h.2
def rInU (K : PySem.W.Frag) : R2 := fun x y H Q => (rIn K false x y H Q ∨ rInD K x y H Q) ∨ ∃ a o, y = .ref a ∧ DGet H a x o ∧ Q (.bl o.isSome) H
theorem op_inU {X : Cx} (hu : X.A.units + 65 < cLine) : OpR X (compareOp .In) (rInU X.K) := (op_in_seq.or (op_inD hu)).or fun pins s σ H x y v u Q I rx ry h => by
  obtain ⟨a, o, rfl, g, q⟩ := h
  obtain rfl : u = Value.ref a := ry
  exact d_in (by omega) I g rx fun s3 I3 => ⟨.bl o.isSome, H, I3, rfl, q⟩
def inSeq (neg : Bool) (d : D) (xs : List D) (Q : D → Prop) : Prop := d.flat = true ∧ xs.all D.flat = true ∧ Q (.bl (xor neg (xs.any fun z => D.eqb z d)))
def oIn (neg : Bool) : O2 := fun d e Q => match e with
  | .tup xs => inSeq neg d xs Q
  | .lst xs => (inSeq neg d xs Q) ∨ (Sh d ∧ Sh (.lst xs) ∧ Q (.bl (xor neg (xs.any fun z => D.eqb z d))))
  | .dK kvs => (match d.key? with | some k => Q (.bl (xor neg (lookD kvs k).isSome)) | none => False)
  | .dT kvs => (match d.tkey? with | some k => Q (.bl (xor neg (lookD kvs k).isSome)) | none => False)
  | _ => False
theorem any_py (d : D) : ∀ xs : List D, ((pyL xs).any fun z => PyData.eqv z d.py) = xs.any fun z => D.eqb z d
  | [] => rfl
  | x :: xs => by rw [pyL, List.any_cons, List.any_cons, any_py d xs] <;> rfl
theorem look_isSome {κ : Type} [DecidableEq κ] {kvs : List (κ × V)} {kds : List (κ × D)} {F : List Addr} (k : κ) (hk : kvs.map (·.1) = kds.map (·.1)) (ra : Rps CT H (kvs.map (·.2)) (kds.map (·.2)) F) : (valV kvs k).isSome = (lookD kds k).isSome := by
  rcases look_val k hk ra with ⟨h1, h2⟩ | ⟨x, v, P, h1, h2, _⟩
  · rw [h1, h2] <;> rfl
  · rw [h1, h2] <;> rfl
theorem mono_oIn {neg : Bool} : Mono2 (oIn neg) := fun d e Q Q' h q => by
  cases e with
  | tup xs => exact ⟨q.1, q.2.1, h _ q.2.2⟩
  | lst xs =>
    rcases q with q | q
    · exact .inl ⟨q.1, q.2.1, h _ q.2.2⟩
    · exact .inr ⟨q.1, q.2.1, h _ q.2.2⟩
  | dK kvs =>
    unfold oIn at q ⊢
    revert q
    cases d.key? with
    | none => exact fun z => z
    | some k => exact h _
  | dT kvs =>
    unfold oIn at q ⊢
    revert q
    cases d.tkey? with
    | none => exact fun z => z
    | some k => exact h _
  | _ => exact q
theorem so_in : SimO2 CT (rInU K) (oIn false) := ⟨fun H v w d e F G Q a b q => by
  cases b with
  | tup hb rb =>
    obtain ⟨h1, h2, q⟩ := q
    refine .inl (.inl ⟨_, _, rfl, .inr (SqT.of hb), a.flat h1, rb.flat h2, ?_⟩)
    rw [if_neg Bool.false_ne_true, rb.inV a h1 h2]
    have := New.imm (CT := CT) q (.bl _)
    simpa using this
  | lst hb rb =>
    rcases q with ⟨h1, h2, q⟩ | ⟨h1, h2, q⟩
    · refine .inl (.inl ⟨_, _, rfl, .inl (SqL.of hb), a.flat h1, rb.flat h2, ?_⟩)
      rw [if_neg Bool.false_ne_true, rb.inV a h1 h2]
      have := New.imm (CT := CT) q (.bl _)
      simpa using this
    · refine .inl (.inr ⟨_, _, a.dp (SeqAt.canLay_of_shaped h1), (Rp.lst hb rb).dp (SeqAt.canLay_of_shaped h2), h1, h2, ?_⟩)
      rw [any_py]
      have := New.imm (CT := CT) q (.bl _)
      simpa using this
  | dK hb hk rb =>
    unfold oIn at q
    dsimp only at q
    cases ek : d.key? with
    | none => rw [ek] at q; exact q.elim
    | some k =>
      rw [ek] at q
      refine .inr ⟨_, _, rfl, .inl ⟨_, k, .inl hb, a.key ek, rfl⟩, ?_⟩
      rw [look_isSome k hk rb]
      have := New.imm (CT := CT) q (.bl _)
      simpa using this
  | dT hb hk rb =>
    unfold oIn at q
    dsimp only at q
    cases ek : d.tkey? with
    | none => rw [ek] at q; exact q.elim
    | some k =>
      rw [ek] at q
      obtain ⟨b', eb, hb'⟩ := a.tkey ek
      refine .inr ⟨_, _, rfl, .inr ⟨_, k, b', .inl hb, eb, hb', rfl⟩, ?_⟩
      rw [look_isSome k hk rb]
      have := New.imm (CT := CT) q (.bl _)
      simpa using this
  | _ => exact (show False from q).elim, mono_oIn⟩
end
end Pu
set_option Elab.async false
set_option linter.all false
set_option maxRecDepth 100000
namespace Pu
open PySem PySem.Spec PyProof.Rows L2
section
variable {C : Cfg} {Γ Γ' Γn Γl Γ1 Γ2 : List Mo} {σ σ' : L2.St} {H H' H1 H2 : Hp} {env env' : PEnv} {Fs Fs' Fs1 Fs2 : Nat → List Addr} {v : V} {vs : List V} {d : D} {ds : List D} {F G : List Addr} {ta tb te : TE} {A B : Kd} {m n : X1}
def WO (C : Cfg) (Γ : List Mo) (Fs : Nat → List Addr) : Addr → Prop := fun a => Wq C a ∨ ∃ i : Nat, Γ[i]? = some .o ∧ a ∈ Fs i
def Mine (Γ : List Mo) (Fs : Nat → List Addr) (H : Hp) (F : List Addr) : Prop := ∀ a ∈ F, (∃ j : Nat, Γ[j]? = some .o ∧ a ∈ Fs j) ∨ H a = none
structure Go (C : Cfg) (Γ : List Mo) (Fs : Nat → List Addr) (H : Hp) (Γ' : List Mo) (Fs' : Nat → List Addr) (H' : Hp) : Prop where
  fr : Fr (WO C Γ Fs) H H'
  gr : ∀ i : Nat, Γ'[i]? = some .o → Mine Γ Fs H (Fs' i)
theorem Mine.back (g : Go C Γ Fs H Γ1 Fs1 H1) (m : Mine Γ1 Fs1 H1 F) : Mine Γ Fs H F := fun a ha => by
  rcases m a ha with ⟨j, g1, b⟩ | e
  · exact g.gr j g1 a b
  · exact .inr (g.fr.there a e)
theorem Fr.behind (g : Go C Γ Fs H Γ1 Fs1 H1) (f : Fr (WO C Γ1 Fs1) H1 H2) : Fr (WO C Γ Fs) H H2 := by
  refine ⟨fun a o e n => f.keep a o (g.fr.keep a o e n) fun w => ?_, fun a o e i => f.im a o (g.fr.im a o e i) i, fun a e => g.fr.there a (f.there a e)⟩
  rcases w with w | ⟨i, gi, b⟩
  · exact n (.inl w)
  · rcases g.gr i gi a b with ⟨j, gj, c⟩ | z
    · exact n (.inr ⟨j, gj, c⟩)
    · rw [e] at z; cases z
theorem Go.trans (g : Go C Γ Fs H Γ1 Fs1 H1) (f : Go C Γ1 Fs1 H1 Γ2 Fs2 H2) : Go C Γ Fs H Γ2 Fs2 H2 := ⟨Fr.behind g f.fr, fun i gi => (f.gr i gi).back g⟩
theorem Go.refl : Go C Γ Fs H Γ Fs H := ⟨Fr.refl, fun i gi a ha => .inl ⟨i, gi, ha⟩⟩
theorem Go.ev (f : Fr (Wq C) H H') : Go C Γ Fs H Γ Fs H' := ⟨f.mono fun _ w => .inl w, fun i gi a ha => .inl ⟨i, gi, ha⟩⟩
structure Lk (C : Cfg) (Γ : List Mo) (Fs : Nat → List Addr) (H : Hp) (Γn Γl : List Mo) (D : Ends) (E : PEnds) : Prop where
  nx : ∀ σ' H' env' Fs', Ok C Γn σ' H' env' Fs' → Go C Γ Fs H Γn Fs' H' → E.nx env' → D.nx σ' H'
  bk : ∀ σ' H' env' Fs', Ok C Γl σ' H' env' Fs' → Go C Γ Fs H Γl Fs' H' → E.bk env' → D.bk σ' H'
  ct : ∀ σ' H' env' Fs', Ok C Γl σ' H' env' Fs' → Go C Γ Fs H Γl Fs' H' → E.ct env' → D.ct σ' H'
  rt : ∀ v H' d F, Fr (WO C Γ Fs) H H' → DiceOk C H' → Rp C.CT H' v d F → F.Nodup → NoQ C F → Mine Γ Fs H F → E.rt d → D.rt v H'
theorem Lk.step {D : Ends} {E : PEnds} (l : Lk C Γ Fs H Γn Γl D E) (g : Go C Γ Fs H Γ1 Fs1 H1) : Lk C Γ1 Fs1 H1 Γn Γl D E :=
  ⟨fun σ' H' env' Fs' I g2 => l.nx σ' H' env' Fs' I (g.trans g2), fun σ' H' env' Fs' I g2 => l.bk σ' H' env' Fs' I (g.trans g2), fun σ' H' env' Fs' I g2 => l.ct σ' H' env' Fs' I (g.trans g2),
   fun v H' d F f dk r nd nq mi => l.rt v H' d F (Fr.behind g f) dk r nd nq (mi.back g)⟩
def PLe (E E' : PEnds) : Prop := (∀ e, E.nx e → E'.nx e) ∧ (∀ d, E.rt d → E'.rt d) ∧ (∀ e, E.bk e → E'.bk e) ∧ ∀ e, E.ct e → E'.ct e
structure SimS (C : Cfg) (Γl Γ Γ' : List Mo) (t : TS) (m : XS) : Prop where
  run : ∀ (σ : L2.St) (H : Hp) (env : PEnv) (Fs : Nat → List Addr) (D : Ends) (E : PEnds), Ok C Γ σ H env Fs → Lk C Γ Fs H Γ' Γl D E → m E env → t D σ H
  mono : ∀ E E' env, PLe E E' → m E env → m E' env
def sNext : XS := fun E env => E.nx env
def sSeq (a b : XS) : XS := fun E env => a { E with nx := b E } env
theorem sim_next : SimS C Γl Γ Γ tNext sNext := ⟨fun σ H env Fs D E I l h => l.nx σ H env Fs I Go.refl h, fun E E' env p h => p.1 env h⟩
theorem sim_seq {t u : TS} {a b : XS} (s : SimS C Γl Γ Γ1 t a) (s' : SimS C Γl Γ1 Γ2 u b) : SimS C Γl Γ Γ2 (tSeq t u) (sSeq a b) :=
  ⟨fun σ H env Fs D E I l h => s.run σ H env Fs _ { E with nx := b E } I ⟨fun σ' H' env' Fs' I' g q => s'.run σ' H' env' Fs' D E I' (l.step g) q, l.bk, l.ct, l.rt⟩ h,
   fun E E' env p h => s.mono { E with nx := b E } { E' with nx := b E' } env ⟨fun e q => s'.mono _ _ e p q, p.2.1, p.2.2.1, p.2.2.2⟩ h⟩
def wk1 : Mo → Mo → Bool
  | _, .x => true
  | .o, .f => true
  | a, b => decide (a = b)
def wk : List Mo → List Mo → Bool
  | [], [] => true
  | a :: as, b :: bs => wk1 a b && wk as bs
  | _, _ => false
theorem wk_len : ∀ {Γ Γ' : List Mo}, wk Γ Γ' = true → Γ.length = Γ'.length
  | [], [], _ => rfl
  | a :: as, b :: bs, h => by
    simp only [wk, Bool.and_eq_true] at h
    simp [wk_len h.2]
  | [], _ :: _, h => by simp [wk] at h
  | _ :: _, [], h => by simp [wk] at h
theorem wk_at : ∀ {Γ Γ' : List Mo} {i : Nat} {b : Mo}, wk Γ Γ' = true → Γ'[i]? = some b → ∃ a, Γ[i]? = some a ∧ wk1 a b = true
  | a :: as, b :: bs, 0, c, h, e => by
    simp only [wk, Bool.and_eq_true] at h
    simp at e; subst e
    exact ⟨a, rfl, h.1⟩
  | a :: as, b :: bs, i + 1, c, h, e => by
    simp only [wk, Bool.and_eq_true] at h
    obtain ⟨x, h1, h2⟩ := wk_at (i := i) h.2 (by simpa using e)
    exact ⟨x, by simpa using h1, h2⟩
  | [], _, _, _, h, e => by
    rename_i Γ' _ _
    cases Γ' with
    | nil => simp at e
    | cons _ _ => simp [wk] at h
  | _ :: _, [], _, _, h, e => by simp [wk] at h
theorem wk_o {i : Nat} (h : wk Γ Γ' = true) (e : Γ'[i]? = some .o) : Γ[i]? = some .o := by
  obtain ⟨a, h1, h2⟩ := wk_at h e
  cases a <;> first | exact h1 | exact absurd h2 (by decide)
theorem wk_live {i : Nat} {b : Mo} (h : wk Γ Γ' = true) (e : Γ'[i]? = some b) (l : live b) : ∃ a, Γ[i]? = some a ∧ live a := by
  obtain ⟨a, h1, h2⟩ := wk_at h e
  refine ⟨a, h1, ?_⟩
  rcases l with rfl | rfl <;> cases a <;> first | exact .inl rfl | exact .inr rfl | exact absurd h2 (by decide)
theorem wk_q {i : Nat} (h : wk Γ Γ' = true) (e : Γ'[i]? = some .q) : Γ[i]? = some .q := by
  obtain ⟨a, h1, h2⟩ := wk_at h e
  cases a <;> first | exact h1 | exact absurd h2 (by decide)
theorem Ok.weak (I : Ok C Γ σ H env Fs) (h : wk Γ Γ' = true) : Ok C Γ' σ H env Fs :=
  ⟨I.le.trans (wk_len h), I.ls.trans (wk_len h), fun i m g l => by
    obtain ⟨a, g1, l1⟩ := wk_live h g l
    exact I.val i a g1 l1, fun i g => I.dice i (wk_q h g), fun i g => I.nd i (wk_o h g), fun i j m g g' l ne => by
    obtain ⟨a, g1, l1⟩ := wk_live h g' l
    exact I.dj i j a (wk_o h g) g1 l1 ne, fun i m g l => by
    obtain ⟨a, g1, l1⟩ := wk_live h g l
    exact I.nq i a g1 l1, I.dk, I.pn⟩
theorem Go.weak (g : Go C Γ Fs H Γ1 Fs1 H1) (h : wk Γ1 Γ2 = true) : Go C Γ Fs H Γ2 Fs1 H1 := ⟨g.fr, fun i gi => g.gr i (wk_o h gi)⟩
def setF (Fs : Nat → List Addr) (i : Nat) (F : List Addr) : Nat → List Addr := fun j => if j = i then F else Fs j
theorem setF_same {i : Nat} : setF Fs i F i = F := if_pos rfl
theorem setF_ne {i j : Nat} (h : j ≠ i) : setF Fs i F j = Fs j := if_neg h
theorem get_set {α : Type} {l : List α} {i j : Nat} {a b : α} (h : (l.set i a)[j]? = some b) : (j = i ∧ b = a ∧ i < l.length) ∨ (j ≠ i ∧ l[j]? = some b) := by
  by_cases e : j = i
  · subst e
    rw [List.getElem?_set_self'] at h
    by_cases hl : j < l.length
    · simp [hl] at h; exact .inl ⟨rfl, h.symm, hl⟩
    · simp [List.getElem?_eq_none (Nat.le_of_not_lt hl)] at h
  · rw [List.getElem?_set_ne (Ne.symm e)] at h
    exact .inr ⟨e, h⟩
theorem Ok.setA (I : Ok C Γ σ H env Fs) {i : Nat} {mo : Mo} (fr : Free C i) (hm : live mo) (hi : i < Γ.length) (r : Rp C.CT H v d F) (nq : NoQ C F)
    (dj : ∀ a ∈ F, ∀ j : Nat, Γ[j]? = some .o → j ≠ i → a ∉ Fs j) (own : mo = .o → F.Nodup ∧ ∀ a ∈ F, ∀ (j : Nat) (m : Mo), Γ[j]? = some m → live m → j ≠ i → a ∉ Fs j) :
    Ok C (Γ.set i mo) (σ.set i (some v)) H (env.set i (some d)) (setF Fs i F) := by
  have hσ : i < σ.length := by rw [I.ls]; exact hi
  have he : i < env.length := by rw [I.le]; exact hi
  refine ⟨by simp [I.le], by simp [I.ls], fun j m g l => ?_, fun j g => ?_, fun j g => ?_, fun j k m g g' l ne => ?_, fun j m g l => ?_, I.dk, fun p hp => ?_⟩
  · rcases get_set g with ⟨rfl, rfl, _⟩ | ⟨ne, g⟩
    · exact ⟨v, d, by rw [List.getElem?_set_self hσ], by rw [List.getElem?_set_self he], by rw [setF_same]; exact r⟩
    · obtain ⟨v', d', h1, h2, h3⟩ := I.val j m g l
      exact ⟨v', d', by rw [List.getElem?_set_ne (Ne.symm ne)]; exact h1, by rw [List.getElem?_set_ne (Ne.symm ne)]; exact h2, by rw [setF_ne ne]; exact h3⟩
  · rcases get_set g with ⟨rfl, e, _⟩ | ⟨ne, g⟩
    · rcases hm with rfl | rfl <;> cases e
    · obtain ⟨p, h1, h2⟩ := I.dice j g
      exact ⟨p, h1, by rw [List.getElem?_set_ne (Ne.symm ne)]; exact h2⟩
  · rcases get_set g with ⟨rfl, e, _⟩ | ⟨ne, g⟩
    · rw [setF_same]; exact (own e.symm).1
    · rw [setF_ne ne]; exact I.nd j g
  · intro a ha hb
    rcases get_set g with ⟨ej, e, _⟩ | ⟨nj, g1⟩
    · rw [ej, setF_same] at ha
      rcases get_set g' with ⟨ek, _, _⟩ | ⟨nk, g2⟩
      · exact ne (ej.trans ek.symm)
      · rw [setF_ne nk] at hb
        exact (own e.symm).2 a ha k m g2 l nk hb
    · rw [setF_ne nj] at ha
      rcases get_set g' with ⟨ek, _, _⟩ | ⟨nk, g2⟩
      · rw [ek, setF_same] at hb
        exact dj a hb j g1 nj ha
      · rw [setF_ne nk] at hb
        exact I.dj j k m g1 g2 l ne a ha hb
  · rcases get_set g with ⟨rfl, _, _⟩ | ⟨ne, g⟩
    · rw [setF_same]; exact nq
    · rw [setF_ne ne]; exact I.nq j m g l
  · have ne : i ≠ p.1 := fun e => fr (by rw [e]; exact List.mem_map.mpr ⟨p, hp, rfl⟩)
    rw [List.getElem?_set_ne ne]; exact I.pn p hp
theorem Ok.tracked (I : Ok C Γ σ H env Fs) {i : Nat} {m : Mo} (g : Γ[i]? = some m) (l : live m) : ∀ a ∈ Fs i, H a ≠ none := by
  obtain ⟨v, d, _, _, r⟩ := I.val i m g l
  exact r.tracked
theorem Ok.setO (I : Ok C Γ σ H env Fs) (f : Fr (Wq C) H H1) (dk : DiceOk C H1) {i : Nat} (fr : Free C i) (hi : i < Γ.length) (r : Rp C.CT H1 v d F) (k : KdOk C Γ Fs H .own F) :
    Ok C (Γ.set i .o) (σ.set i (some v)) H1 (env.set i (some d)) (setF Fs i F) :=
  (I.step f dk).setA fr (.inl rfl) hi r k.1 (fun a ha j g _ hb => I.tracked g (.inl rfl) a hb (k.2.2 a ha)) fun _ => ⟨k.2.1, fun a ha j m g l _ hb => I.tracked g l a hb (k.2.2 a ha)⟩
def sSet (i : Nat) (m : X1) : XS := fun E env => m env fun d => E.nx (env.set i (some d))
theorem mono_sSet {i : Nat} (hm : Mono m) : ∀ E E' env, PLe E E' → sSet i m E env → sSet i m E' env := fun E E' env p h => hm env _ _ (fun d q => p.1 _ q) h
theorem sim_setO {i : Nat} (fr : Free C i) (hi : i < Γ.length) (s : Sim C Γ te .own m) : SimS C Γl Γ (Γ.set i .o) (tAsg te (gName i)) (sSet i m) :=
  ⟨fun σ H env Fs D E I l h => s.run σ H env Fs _ I (s.mono env _ _ (fun d q v H1 F f dk r k => l.nx _ H1 _ _ (I.setO f dk fr hi r k) ⟨f.mono fun _ w => .inl w, fun j g a ha => by
    rcases get_set g with ⟨rfl, _, _⟩ | ⟨ne, g⟩
    · rw [setF_same] at ha; exact .inr (k.2.2 a ha)
    · rw [setF_ne ne] at ha; exact .inl ⟨j, g, ha⟩⟩ q) h), mono_sSet s.mono⟩
def noO (S : List Nat) (Γ : List Mo) : Bool := S.all fun i => decide (Γ[i]? ≠ some .o)
theorem sim_setF {i : Nat} {S : List Nat} (fr : Free C i) (hw : wk Γ Γ1 = true) (hS : noO S Γ1 = true) (hi : i < Γ1.length) (s : Sim C Γ te (.al S) m) : SimS C Γl Γ (Γ1.set i .f) (tAsg te (gName i)) (sSet i m) :=
  ⟨fun σ H env Fs D E I l h => s.run σ H env Fs _ I (s.mono env _ _ (fun d q v H1 F f dk r k => l.nx _ H1 _ _
    (((I.step f dk).weak hw).setA fr (.inr rfl) hi r k.1 (fun a ha j g _ hb => by
      have h1 := k.2 a ha j (wk_o hw g) hb
      have h2 := List.all_eq_true.mp hS j h1
      exact absurd g (of_decide_eq_true h2)) (fun z => nomatch z)) ⟨f.mono fun _ w => .inl w, fun j g a ha => by
    rcases get_set g with ⟨rfl, e, _⟩ | ⟨ne, g⟩
    · cases e
    · rw [setF_ne ne] at ha; exact .inl ⟨j, wk_o hw g, ha⟩⟩ q) h), mono_sSet s.mono⟩
def sIf (c : XB) (a b : XS) : XS := fun E env => c env fun k => if k = true then a E env else b E env
theorem sim_if {c : TT} {t u : TS} {mc : XB} {a b : XS} (s : SimT C Γ c mc) (s1 : SimS C Γl Γ Γ1 t a) (s2 : SimS C Γl Γ Γ1 u b) : SimS C Γl Γ Γ1 (tIfS c t u) (sIf mc a b) :=
  ⟨fun σ H env Fs D E I l h => s.run σ H env Fs _ I (s.mono env _ _ (fun k q H1 f dk => by
    cases k with
    | true => exact s1.run σ H1 env Fs D E (I.step f dk) (l.step (Go.ev f)) q
    | false => exact s2.run σ H1 env Fs D E (I.step f dk) (l.step (Go.ev f)) q) h),
   fun E E' env p h => s.mono env _ _ (fun k q => by
    cases k with
    | true => exact s1.mono _ _ env p q
    | false => exact s2.mono _ _ env p q) h⟩
def sRet (m : X1) : XS := fun E env => m env E.rt
theorem sim_ret (s : Sim C Γ te .own m) : SimS C Γl Γ Γ' (tRet te) (sRet m) :=
  ⟨fun σ H env Fs D E I l h => s.run σ H env Fs _ I (s.mono env _ _ (fun d q v H1 F f dk r k => l.rt v H1 d F (f.mono fun _ w => .inl w) dk r k.2.1 k.1 (fun a ha => .inr (k.2.2 a ha)) q) h),
   fun E E' env p h => s.mono env _ _ p.2.1 h⟩
theorem sim_retO {i : Nat} (g : Γ[i]? = some .o) : SimS C Γl Γ Γ' (tRet (tVar i)) (sRet (xVar i)) :=
  ⟨fun σ H env Fs D E I l h => by
    obtain ⟨v, d, h1, h2, r⟩ := I.val i _ g (.inl rfl)
    refine ⟨v, h1, l.rt v H d (Fs i) Fr.refl I.dk r (I.nd i g) (I.nq i _ g (.inl rfl)) (fun a ha => .inl ⟨i, g, ha⟩) ?_⟩
    have h : xVar i env E.rt := h
    unfold xVar at h
    rw [h2] at h
    exact h, fun E E' env p h => mono_var env _ _ p.2.1 h⟩
def sDrop (m : X1) : XS := fun E env => m env fun _ => E.nx env
theorem sim_drop (s : Sim C Γ te A m) : SimS C Γl Γ Γ (tDrop te) (sDrop m) :=
  ⟨fun σ H env Fs D E I l h => s.run σ H env Fs _ I (s.mono env _ _ (fun d q v H1 F f dk r k => l.nx σ H1 env Fs (I.step f dk) (Go.ev f) q) h), fun E E' env p h => s.mono env _ _ (fun _ q => p.1 _ q) h⟩
def sNever : XS := fun _ _ => False
theorem sim_never : SimS C Γl Γ Γ' tNever sNever := ⟨fun σ H env Fs D E I l h => h, fun E E' env p h => h⟩
def sBreak : XS := fun E env => E.bk env
def sCont : XS := fun E env => E.ct env
end
end Pu
set_option Elab.async false
set_option linter.all false
set_option maxRecDepth 100000
namespace Pu
open PySem PySem.Spec PyProof.Rows L2
structure Walk (CT : Nat → Addr) (J : It) (S : List Addr) (P : Hp → Prop) (ds : List D) : Prop where
  keep : ∀ (W : Addr → Prop) (H H' : Hp), P H → Fr W H H' → (∀ a ∈ S, ¬ W a) → P H'
  there : ∀ H, P H → ∀ a ∈ S, H a ≠ none
  go : ∀ (i : Nat) (H : Hp), P H → i < ds.length → J.go i H
  stop : ∀ H, P H → J.stop ds.length H
  yld : ∀ (i : Nat) (H : Hp) (x : V) (H' : Hp), P H → i < ds.length → J.yld i H x H' → ∃ d G, ds[i]? = some d ∧ Fr (fun _ => False) H H' ∧ Rp CT H' x d G ∧ ∀ a ∈ G, a ∈ S
def KdS (C : Cfg) (Γ : List Mo) (Fs : Nat → List Addr) (A : Kd) (S : List Addr) : Prop := NoQ C S ∧ ∀ a ∈ S, ∀ i : Nat, Γ[i]? = some .o → a ∈ Fs i → i ∈ A.set
structure SimI (C : Cfg) (Γ : List Mo) (wi : TI) (A : Kd) (m : XL) : Prop where
  run : ∀ (σ : L2.St) (H : Hp) (env : PEnv) (Fs : Nat → List Addr) (R : It → Hp → Prop), Ok C Γ σ H env Fs →
    m env (fun ds => ∀ H' J S P, Fr (Wq C) H H' → DiceOk C H' → Walk C.CT J S P ds → P H' → KdS C Γ Fs A S → R J H') → wi σ H R
  mono : Mono m
abbrev XG := D → PEnv → (PEnv → Prop) → Prop
structure SimG (C : Cfg) (Γ Γ' : List Mo) (ks : List Nat) (g : TG) (b : XG) : Prop where
  run : ∀ (σ : L2.St) (H : Hp) (env : PEnv) (Fs : Nat → List Addr) (v : V) (d : D) (F : List Addr) (Q : L2.St → Hp → Prop), Ok C Γ σ H env Fs → Rp C.CT H v d F → NoQ C F → (∀ a ∈ F, ∀ j : Nat, Γ[j]? = some .o → a ∉ Fs j) →
    b d env (fun env' => ∀ σ' Fs', Ok C Γ' σ' H env' Fs' → (∀ j : Nat, Γ'[j]? = some .o ↔ Γ[j]? = some .o) → (∀ j : Nat, Γ[j]? = some .o → Fs' j = Fs j) → σ'.length = σ.length → (∀ j : Nat, j ∉ ks → σ'[j]? = σ[j]?) → Q σ' H) → g v σ H Q
  mono : ∀ d env Q Q', (∀ e, Q e → Q' e) → b d env Q → b d env Q'
def bName (i : Nat) : XG := fun d env Q => Q (env.set i (some d))
section
variable {C : Cfg} {Γ Γ' Γn Γl Γo Γt Γe Γ1 Γ2 : List Mo} {σ σ' : L2.St} {H H' H1 H2 : Hp} {env env' : PEnv} {Fs Fs' Fs1 Fs2 : Nat → List Addr} {v : V} {vs : List V} {d : D} {ds : List D} {F G : List Addr} {ta tb te : TE} {A B : Kd} {m n : X1}
theorem simg_name {i : Nat} (fr : Free C i) (hi : i < Γ.length) (ho : Γ[i]? ≠ some .o) : SimG C Γ (Γ.set i .f) [i] (gName i) (bName i) :=
  ⟨fun σ H env Fs v d F Q I r nq dj h => h _ _ (I.setA fr (.inr rfl) hi r nq (fun a ha j g _ => dj a ha j g) (fun z => nomatch z)) (fun j => ⟨fun g => by
    rcases get_set g with ⟨_, e, _⟩ | ⟨_, g⟩
    · cases e
    · exact g, fun g => by
    have ne : j ≠ i := fun e => ho (e ▸ g)
    rw [List.getElem?_set_ne (Ne.symm ne)]; exact g⟩) (fun j g => setF_ne fun e => ho (e ▸ g)) (by simp) (fun j hj => by
    rw [List.getElem?_set_ne (fun e => hj (by simp [e]))]), fun d env Q Q' h q => h _ q⟩
abbrev XGs := List D → PEnv → (PEnv → Prop) → Prop
structure SimGs (C : Cfg) (Γ Γ' : List Mo) (ks : List Nat) (g : TGs) (b : XGs) : Prop where
  run : ∀ (σ : L2.St) (H : Hp) (env : PEnv) (Fs : Nat → List Addr) (vs : List V) (ds : List D) (F : List Addr) (Q : L2.St → Hp → Prop), Ok C Γ σ H env Fs → Rps C.CT H vs ds F → NoQ C F → (∀ a ∈ F, ∀ j : Nat, Γ[j]? = some .o → a ∉ Fs j) →
    b ds env (fun env' => ∀ σ' Fs', Ok C Γ' σ' H env' Fs' → (∀ j : Nat, Γ'[j]? = some .o ↔ Γ[j]? = some .o) → (∀ j : Nat, Γ[j]? = some .o → Fs' j = Fs j) → σ'.length = σ.length → (∀ j : Nat, j ∉ ks → σ'[j]? = σ[j]?) → Q σ' H) → g vs σ H Q
  mono : ∀ d env Q Q', (∀ e, Q e → Q' e) → b d env Q → b d env Q'
def bNil : XGs := fun ds env Q => match ds with
  | [] => Q env
  | _ :: _ => False
def bCons (b : XG) (r : XGs) : XGs := fun ds env Q => match ds with
  | [] => False
  | d :: ds => b d env fun env' => r ds env' Q
theorem simgs_nil : SimGs C Γ Γ [] gNil bNil := ⟨fun σ H env Fs vs ds F Q I r nq dj h => by
  cases r with
  | nil => exact ⟨rfl, h σ Fs I (fun _ => Iff.rfl) (fun _ _ => rfl) rfl fun _ _ => rfl⟩
  | cons _ _ => exact (show False from h).elim, fun d env Q Q' k h => by cases d <;> first | exact k _ h | exact h⟩
theorem simgs_cons {ks ls : List Nat} {g : TG} {gs : TGs} {b : XG} {r : XGs} (s : SimG C Γ Γ1 ks g b) (s' : SimGs C Γ1 Γ2 ls gs r) : SimGs C Γ Γ2 (ks ++ ls) (gCons g gs) (bCons b r) :=
  ⟨fun σ H env Fs vs ds F Q I rr nq dj h => by
    cases rr with
    | nil => exact (show False from h).elim
    | cons hd tl =>
      rename_i v d F1 F2 vs ds
      refine ⟨v, vs, rfl, s.run σ H env Fs v d F1 _ I hd (nq.sub (List.sublist_append_left _ _)) (fun a ha => dj a (List.mem_append_left _ ha)) (s.mono _ _ _ _ (fun env' q σ1 Fs1 I1 o1 f1 l1 k1 => ?_) h)⟩
      refine s'.run σ1 H env' Fs1 vs ds F2 Q I1 tl (nq.sub (List.sublist_append_right _ _)) (fun a ha j g => by rw [f1 j ((o1 j).mp g)]; exact dj a (List.mem_append_right _ ha) j ((o1 j).mp g)) (s'.mono _ _ _ _ (fun env2 q σ2 Fs2 I2 o2 f2 l2 k2 => ?_) q)
      exact q σ2 Fs2 I2 (fun j => (o2 j).trans (o1 j)) (fun j g => (f2 j ((o1 j).mpr g)).trans (f1 j g)) (l2.trans l1) fun j hj => (k2 j fun z => hj (List.mem_append_right _ z)).trans (k1 j fun z => hj (List.mem_append_left _ z)),
   fun d env Q Q' k h => by
    cases d with
    | nil => exact h
    | cons d ds => exact s.mono _ _ _ _ (fun e q => s'.mono _ _ _ _ k q) h⟩
def bTup (n : Nat) (r : XGs) : XG := fun d env Q => match d with
  | .tup ds => ds.length = n ∧ r ds env Q
  | _ => False
theorem simg_tup {K : PySem.W.Frag} {ks : List Nat} {n : Nat} {gs : TGs} {r : XGs} (s : SimGs C Γ Γ1 ks gs r) : SimG C Γ Γ1 ks (gTup K n gs) (bTup n r) :=
  ⟨fun σ H env Fs v d F Q I rr nq dj h => by
    cases rr with
    | tup ha ra => exact ⟨_, _, rfl, SqT.of ha, by rw [ra.length]; exact h.1, s.run σ H env Fs _ _ _ Q I ra nq dj h.2⟩
    | _ => exact (show False from h).elim, fun d env Q Q' k h => by
    cases d <;> first | exact ⟨h.1, s.mono _ _ _ _ k h.2⟩ | exact h⟩
def sLoop (b : XG) (body : XS) : List D → XS
  | [] => fun E env => E.nx env
  | d :: ds => fun E env => b d env fun env1 => body { nx := sLoop b body ds E, rt := E.rt, bk := E.nx, ct := sLoop b body ds E } env1
def sFor (mi : XL) (b : XG) (body : XS) : XS := fun E env => mi env fun ds => sLoop b body ds E env
theorem mono_sLoop {b : XG} {body : XS} (hb : ∀ d env Q Q', (∀ e, Q e → Q' e) → b d env Q → b d env Q') (h : ∀ E E' env, PLe E E' → body E env → body E' env) : ∀ (ds : List D) (E E' : PEnds) (env : PEnv), PLe E E' → sLoop b body ds E env → sLoop b body ds E' env
  | [], E, E', env, p, q => p.1 _ q
  | d :: ds, E, E', env, p, q => hb _ _ _ _ (fun e q => h { nx := sLoop b body ds E, rt := E.rt, bk := E.nx, ct := sLoop b body ds E } { nx := sLoop b body ds E', rt := E'.rt, bk := E'.nx, ct := sLoop b body ds E' } e ⟨fun e q => mono_sLoop hb h ds E E' e p q, p.2.1, p.1, fun e q => mono_sLoop hb h ds E E' e p q⟩ q) q
theorem sim_for {wi : TI} {g : TG} {tb : TS} {mi : XL} {b : XG} {body : XS} {ks : List Nat} (s : SimI C Γ wi A mi) (hw : wk Γ Γl = true) (hS : noO A.set Γl = true) (sg : SimG C Γl Γt ks g b) (sb : SimS C Γl Γt Γe tb body) (hb : wk Γe Γl = true) :
    SimS C Γo Γ Γl (tFor wi g tb) (sFor mi b body) :=
  ⟨fun σ H env Fs D E I l h => s.run σ H env Fs _ I (s.mono env _ _ (fun ds q H1 J S P f dk wlk p kd => by
    have I1 : Ok C Γl σ H1 env Fs := (I.step f dk).weak hw
    have g1 : Go C Γ Fs H Γl Fs H1 := (Go.ev f).weak hw
    have nw : ∀ a ∈ S, ¬ WO C Γl Fs a := fun a ha w => by
      rcases w with w | ⟨i, gi, hb⟩
      · exact kd.1.wq a ha w
      · exact absurd gi (of_decide_eq_true (List.all_eq_true.mp hS i (kd.2 a ha i (wk_o hw gi) hb)))
    refine ⟨fun i m σ H => m = ds.length - i ∧ i ≤ ds.length ∧ ∃ env Fs2, Ok C Γl σ H env Fs2 ∧ Go C Γl Fs H1 Γl Fs2 H ∧ sLoop b body (ds.drop i) E env, ⟨ds.length, rfl, Nat.zero_le _, env, Fs, I1, Go.refl, q⟩, ?_⟩
    rintro i m σ2 H2 ⟨rfl, hi, env2, Fs2, I2, g2, q2⟩
    have p2 : P H2 := wlk.keep _ H1 H2 p g2.fr nw
    by_cases hlt : i < ds.length
    · refine .inr ⟨wlk.go i H2 p2 hlt, fun σ' H' => ∃ env Fs3, Ok C Γl σ' H' env Fs3 ∧ Go C Γl Fs H1 Γl Fs3 H' ∧ sLoop b body (ds.drop (i + 1)) E env, fun σ' H' hN => ⟨ds.length - (i + 1), by omega, rfl, hlt, hN⟩, fun x H3 y => ?_⟩
      obtain ⟨d, G, e, f3, r3, sub⟩ := wlk.yld i H2 x H3 p2 hlt y
      have hd : ds.drop i = d :: ds.drop (i + 1) := by
        obtain ⟨h1, h2⟩ := List.getElem?_eq_some_iff.mp e
        rw [← h2, List.drop_eq_getElem_cons h1]
      rw [hd] at q2
      have I3 : Ok C Γl σ2 H3 env2 Fs2 := I2.step f3.wq (I2.dk.keep f3)
      have g3 : Go C Γl Fs H1 Γl Fs2 H3 := g2.trans (Go.ev f3.wq)
      refine sg.run σ2 H3 env2 Fs2 x d G _ I3 r3 (fun p e => ⟨fun hm => (kd.1 p e).1 (sub _ hm), fun hm => (kd.1 p e).2 (sub _ hm)⟩) (fun a ha j gj hb => ?_) (sg.mono _ _ _ _ (fun env3 q3 σ4 Fs4 I4 o4 f4 _ _ => ?_) q2)
      · rcases g3.gr j gj a hb with ⟨k, gk, hk⟩ | z
        · exact nw a (sub a ha) (.inr ⟨k, gk, hk⟩)
        · exact wlk.there H1 p a (sub a ha) z
      · have g4 : Go C Γl Fs H1 Γt Fs4 H3 := ⟨g3.fr, fun j gj => by rw [f4 j ((o4 j).mp gj)]; exact g3.gr j ((o4 j).mp gj)⟩
        have g0 : Go C Γ Fs H Γt Fs4 H3 := g1.trans g4
        refine sb.run σ4 H3 env3 Fs4 _ _ I4 ⟨fun σ' H' env' Fs' I' g' q' => ⟨env', Fs', I'.weak hb, (g4.trans g').weak hb, q'⟩, fun σ' H' env' Fs' I' g' q' => l.nx σ' H' env' Fs' I' (g0.trans g') q', fun σ' H' env' Fs' I' g' q' => ⟨env', Fs', I', g4.trans g', q'⟩, ?_⟩ q3
        exact fun v H' d F f dk r nd nq mi q => l.rt v H' d F (Fr.behind g0 f) dk r nd nq (mi.back g0) q
    · have e : i = ds.length := by omega
      subst e
      rw [List.drop_length] at q2
      exact .inl ⟨wlk.stop H2 p2, l.nx σ2 H2 env2 Fs2 I2 (g1.trans g2) q2⟩) h),
   fun E E' env p h => s.mono env _ _ (fun ds q => mono_sLoop sg.mono sb.mono ds E E' env p q) h⟩
def sWhile (c : XB) (body : XS) : XS := fun E env => ∃ W : Nat → PEnv → Prop, (∃ n, W n env) ∧ ∀ n env, W n env → c env fun k =>
  if k = true then body { nx := fun env' => ∃ n', n' < n ∧ W n' env', rt := E.rt, bk := E.nx, ct := fun env' => ∃ n', n' < n ∧ W n' env' } env else E.nx env
theorem sim_while {c : TT} {tb : TS} {mc : XB} {body : XS} (hw : wk Γ Γl = true) (s : SimT C Γl c mc) (sb : SimS C Γl Γl Γe tb body) (hb : wk Γe Γl = true) : SimS C Γo Γ Γl (tWhile c tb) (sWhile mc body) :=
  ⟨fun σ H env Fs D E I l h => by
    obtain ⟨W, ⟨n, w0⟩, hs⟩ := h
    have g1 : Go C Γ Fs H Γl Fs H := Go.refl.weak hw
    refine ⟨fun n σ H' => ∃ env Fs2, Ok C Γl σ H' env Fs2 ∧ Go C Γ Fs H Γl Fs2 H' ∧ W n env, ⟨n, env, Fs, I.weak hw, g1, w0⟩, ?_⟩
    rintro n σ2 H2 ⟨env2, Fs2, I2, g2, w2⟩
    refine s.run σ2 H2 env2 Fs2 _ I2 (s.mono _ _ _ (fun k q H3 f dk => ?_) (hs n env2 w2))
    cases k with
    | true =>
      rw [if_pos rfl] at q ⊢
      refine ⟨fun σ' H' => ∃ n', n' < n ∧ ∃ env Fs2, Ok C Γl σ' H' env Fs2 ∧ Go C Γ Fs H Γl Fs2 H' ∧ W n' env, fun σ' H' ⟨n', hn, x⟩ => ⟨n', hn, x⟩, ?_⟩
      have g3 : Go C Γ Fs H Γl Fs2 H3 := g2.trans (Go.ev f)
      refine sb.run σ2 H3 env2 Fs2 _ _ (I2.step f dk) ⟨fun σ' H' env' Fs' I' g' q' => ?_, fun σ' H' env' Fs' I' g' q' => l.nx σ' H' env' Fs' I' (g3.trans g') q', fun σ' H' env' Fs' I' g' q' => ?_, ?_⟩ q
      · obtain ⟨n', hn, w'⟩ := q'
        exact ⟨n', hn, env', Fs', I'.weak hb, (g3.trans g').weak hb, w'⟩
      · obtain ⟨n', hn, w'⟩ := q'
        exact ⟨n', hn, env', Fs', I', g3.trans g', w'⟩
      · exact fun v H' d F f dk r nd nq mi q => l.rt v H' d F (Fr.behind g3 f) dk r nd nq (mi.back g3) q
    | false =>
      rw [if_neg Bool.false_ne_true] at q ⊢
      exact l.nx σ2 H3 env2 Fs2 (I2.step f dk) (g2.trans (Go.ev f)) q,
   fun E E' env p h => by
    obtain ⟨W, w0, hs⟩ := h
    refine ⟨W, w0, fun n env w => s.mono _ _ _ (fun k q => ?_) (hs n env w)⟩
    cases k with
    | true =>
      rw [if_pos rfl] at q ⊢
      exact sb.mono { nx := fun env' => ∃ n', n' < n ∧ W n' env', rt := E.rt, bk := E.nx, ct := fun env' => ∃ n', n' < n ∧ W n' env' } _ _ ⟨fun _ z => z, p.2.1, p.1, fun _ z => z⟩ q
    | false =>
      rw [if_neg Bool.false_ne_true] at q ⊢
      exact p.1 _ q⟩
end
end Pu
set_option Elab.async false
set_option linter.all false
set_option maxRecDepth 100000
namespace Pu
open PySem PySem.Spec PyProof.Rows L2
abbrev XF := List D → (D → Prop) → Prop
inductive ArgsOk (C : Cfg) (H : Hp) : List Bool → List V → List D → List Addr → Prop
  | nil : ArgsOk C H [] [] [] []
  | dice {p : Addr × Addr} {pm : List Bool} {vs : List V} {ds : List D} {F : List Addr} : C.q = some p → ArgsOk C H pm vs ds F → ArgsOk C H (true :: pm) (.ref p.1 :: vs) (.non :: ds) F
  | val {v : V} {d : D} {pm : List Bool} {vs : List V} {ds : List D} {F G : List Addr} : Rp C.CT H v d F → ArgsOk C H pm vs ds G → ArgsOk C H (false :: pm) (v :: vs) (d :: ds) (F ++ G)
def SpM (S : Stat) (pm : List Bool) (mf : XF) : Sp := fun vs H Q _ => ∃ (C : Cfg) (ds : List D) (F : List Addr), C.toStat = S ∧ C.pin = [] ∧ ArgsOk C H pm vs ds F ∧ DiceOk C H ∧ NoQ C F ∧
  mf ds (fun d => ∀ v H' F', Fr (Wq C) H H' → DiceOk C H' → Rp C.CT H' v d F' → F'.Nodup → (∀ a ∈ F', H a = none) → Q v H')
def pmo (b : Bool) : Mo := if b = true then .q else .f
def Gam (N : Nat) (pm : List Bool) : List Mo := pm.map pmo ++ List.replicate (N - pm.length) .x
def env0 (N : Nat) (ds : List D) : PEnv := ds.map some ++ List.replicate (N - ds.length) none
def fnM (N : Nat) (body : XS) : XF := fun ds Q => body { nx := fun _ => Q .non, rt := Q } (env0 N ds)
section
variable {C : Cfg} {Γ Γ' Γn Γl Γo Γt Γe Γ1 Γ2 : List Mo} {σ σ' : L2.St} {H H' H1 H2 : Hp} {env env' : PEnv} {Fs Fs' Fs1 Fs2 : Nat → List Addr} {v : V} {vs : List V} {d : D} {ds : List D} {F G : List Addr} {ta tb te : TE} {A B : Kd} {m n : X1} {pm : List Bool}
theorem ArgsOk.len : ∀ {pm : List Bool} {vs : List V} {ds : List D} {F : List Addr}, ArgsOk C H pm vs ds F → vs.length = pm.length ∧ ds.length = pm.length
  | _, _, _, _, .nil => ⟨rfl, rfl⟩
  | _, _, _, _, .dice _ r => by have := r.len; simp [this]
  | _, _, _, _, .val _ r => by have := r.len; simp [this]
theorem ArgsOk.at : ∀ {pm : List Bool} {vs : List V} {ds : List D} {F : List Addr}, ArgsOk C H pm vs ds F → ∃ L : Nat → List Addr, ∀ (i : Nat) (b : Bool), pm[i]? = some b →
    (b = true → ∃ p, C.q = some p ∧ vs[i]? = some (.ref p.1)) ∧ (b = false → ∃ v d, vs[i]? = some v ∧ ds[i]? = some d ∧ Rp C.CT H v d (L i) ∧ (L i).Sublist F)
  | _, _, _, _, .nil => ⟨fun _ => [], fun i b e => by simp at e⟩
  | _, _, _, _, .dice q r => by
    obtain ⟨L, h⟩ := r.at
    refine ⟨fun i => L (i - 1), fun i b e => ?_⟩
    cases i with
    | zero =>
      simp at e; subst e
      exact ⟨(fun _ => ⟨_, q, rfl⟩), fun z => nomatch z⟩
    | succ i =>
      have := h i b (by simpa using e)
      simpa using this
  | _, _, _, _, .val (F := F) (G := G) rv r => by
    obtain ⟨L, h⟩ := r.at
    refine ⟨fun i => if i = 0 then F else L (i - 1), fun i b e => ?_⟩
    cases i with
    | zero =>
      simp at e; subst e
      exact ⟨(fun z => nomatch z), fun _ => ⟨_, _, rfl, rfl, by simpa using rv, by simpa using List.sublist_append_left _ _⟩⟩
    | succ i =>
      have h1 := h i b (by simpa using e)
      refine ⟨fun z => by simpa using h1.1 z, fun z => ?_⟩
      obtain ⟨v, d, h2, h3, h4, h5⟩ := h1.2 z
      exact ⟨v, d, by simpa using h2, by simpa using h3, by simpa using h4, by simpa using h5.trans (List.sublist_append_right _ _)⟩
theorem gam_at {N : Nat} {i : Nat} {mo : Mo} (h : (Gam N pm)[i]? = some mo) : (∃ b, pm[i]? = some b ∧ mo = pmo b) ∨ mo = .x := by
  unfold Gam at h
  by_cases hi : i < pm.length
  · rw [List.getElem?_append_left (by simpa using hi), List.getElem?_map] at h
    cases e : pm[i]? with
    | none => rw [e] at h; cases h
    | some b => rw [e] at h; cases h; exact .inl ⟨b, rfl, rfl⟩
  · rw [List.getElem?_append_right (by simpa using hi), List.getElem?_replicate] at h
    split at h <;> cases h
    exact .inr rfl
theorem pmo_o {b : Bool} : pmo b ≠ .o := by cases b <;> decide
theorem ok_start {N : List Str} (a : ArgsOk C H pm vs ds F) (nq : NoQ C F) (dk : DiceOk C H) (hN : pm.length ≤ N.length) (hpn : C.pin = []) : ∃ Fs, Ok C (Gam N.length pm) (L2.start N vs) H (env0 N.length ds) Fs := by
  obtain ⟨L, h⟩ := a.at
  obtain ⟨l1, l2⟩ := a.len
  have noo : ∀ i : Nat, (Gam N.length pm)[i]? ≠ some .o := fun i e => by
    rcases gam_at e with ⟨b, _, z⟩ | z
    · exact pmo_o z.symm
    · cases z
  refine ⟨L, ⟨?_, ?_, fun i m g l => ?_, fun i g => ?_, fun i g => absurd g (noo i), fun i j m g => absurd g (noo i), fun i m g l => ?_, dk, fun p hp => by rw [hpn] at hp; cases hp⟩⟩
  · unfold env0 Gam; simp [l2]
  · unfold L2.start Gam; simp [l1]
  · rcases gam_at g with ⟨b, hb, z⟩ | z
    · cases b with
      | true => rcases l with e | e <;> rw [z] at e <;> cases e
      | false =>
        obtain ⟨v, d, h1, h2, h3, h4⟩ := (h i false hb).2 rfl
        refine ⟨v, d, ?_, ?_, h3⟩
        · unfold L2.start
          have hi := (List.getElem?_eq_some_iff.mp h1).1
          rw [List.getElem?_append_left (by simpa using hi), List.getElem?_map, h1] <;> rfl
        · unfold env0
          have hi := (List.getElem?_eq_some_iff.mp h2).1
          rw [List.getElem?_append_left (by simpa using hi), List.getElem?_map, h2] <;> rfl
    · rcases l with e | e <;> rw [z] at e <;> cases e
  · rcases gam_at g with ⟨b, hb, z⟩ | z
    · cases b with
      | true =>
        obtain ⟨p, h1, h2⟩ := (h i true hb).1 rfl
        refine ⟨p, h1, ?_⟩
        unfold L2.start
        have hi := (List.getElem?_eq_some_iff.mp h2).1
        rw [List.getElem?_append_left (by simpa using hi), List.getElem?_map, h2] <;> rfl
      | false => cases z
    · cases z
  · rcases gam_at g with ⟨b, hb, z⟩ | z
    · cases b with
      | true => rcases l with e | e <;> rw [z] at e <;> cases e
      | false =>
        obtain ⟨v, d, h1, h2, h3, h4⟩ := (h i false hb).2 rfl
        exact nq.sub h4
    · rcases l with e | e <;> rw [z] at e <;> cases e
theorem fn_ok {P : Program} {w : World} {K : PySem.W.Frag} {mg : Str → Option Value} {base : Heap} {x qual : Str} {st : Stmt} {f : Addr} {fd : FuncData} {N ps : List Str} {k : Nat} {S0 : Stat} {body : XS} {pm : List Bool} {Γe : List Mo}
    (Fn : Fun K x qual st f fd) (S : FnScope N ps (defScope st)) (hp : pm.length = ps.length) (hN : pm.length ≤ N.length)
    (hbody : ∀ (cdv : Value) (A : Around) (outer : List Env) (s : Shared) (H : Hp) (E : XK), Room k (A.deeper (envOfC qual (defScope st) s.heap.objs.size f cdv)) →
      ∃ t, PSs (cxOf CX0 P w K mg base N qual (defScope st) f cdv A outer s H E).nox (defBody st) t ∧ ∀ q, SimS ⟨S0, q, []⟩ [] (Gam N.length pm) Γe t body) :
    FnOk P w K mg base CX0 (k + 1) f fd ps (SpM S0 pm (fnM N.length body)) := by
  refine Fn.ok S (fun vs H Q E ⟨C, ds, F, _, _, a, _⟩ => by rw [a.len.1, hp]) (fun cdv A outer s H vs Q E hr ⟨C, ds, F, hC, hpn, a, dk, nq, q⟩ => ?_)
  obtain ⟨t, ht, hs⟩ := hbody cdv A outer s H E hr
  obtain ⟨Fs, I⟩ := ok_start (N := N) a nq dk hN hpn
  refine ⟨t, ht, (show SimS C [] (Gam N.length pm) Γe t body by obtain ⟨st, q0, pin⟩ := C; cases hC; cases hpn; exact hs q0).run _ H _ Fs _ { nx := fun _ => _, rt := _ } I ⟨fun σ' H' env' Fs' I' g q => ?_, fun _ _ _ _ _ _ q => q, fun _ _ _ _ _ _ q => q, fun v H' d F f dk r nd nq mi q => ?_⟩ q⟩
  · have noo : ∀ i : Nat, (Gam N.length pm)[i]? ≠ some .o := fun i e => by
      rcases gam_at e with ⟨b, _, z⟩ | z
      · exact pmo_o z.symm
      · cases z
    refine q .non H' [] (g.fr.mono fun a w => ?_) I'.dk .non List.nodup_nil fun _ z => nomatch z
    rcases w with w | ⟨i, gi, _⟩
    · exact w
    · exact absurd gi (noo i)
  · have noo : ∀ i : Nat, (Gam N.length pm)[i]? ≠ some .o := fun i e => by
      rcases gam_at e with ⟨b, _, z⟩ | z
      · exact pmo_o z.symm
      · cases z
    refine q v H' F (f.mono fun a w => ?_) dk r nd fun a ha => ?_
    · rcases w with w | ⟨i, gi, _⟩
      · exact w
      · exact absurd gi (noo i)
    · rcases mi a ha with ⟨j, gj, _⟩ | z
      · exact absurd gj (noo j)
      · exact z
structure SimA (C : Cfg) (Γ : List Mo) (pm : List Bool) (t : TA) (m : XL) : Prop where
  run : ∀ (σ : L2.St) (H : Hp) (env : PEnv) (Fs : Nat → List Addr) (Q : List V → Hp → Prop), Ok C Γ σ H env Fs →
    m env (fun ds => ∀ vs H' F, Fr (Wq C) H H' → DiceOk C H' → ArgsOk C H' pm vs ds F → NoQ C F → Q vs H') → t σ H Q
  mono : Mono m
theorem mono_nil : Mono xNil := fun _ _ _ h q => h _ q
theorem mono_cons {m : X1} {r : XL} (h : Mono m) (h' : Mono r) : Mono (xCons m r) := fun env Q Q' k q => h env _ _ (fun d q => h' env _ _ (fun ds q => k _ q) q) q
theorem sima_nil : SimA C Γ [] tNil xNil := ⟨fun σ H env Fs Q I h => h [] H [] Fr.refl I.dk .nil NoQ.nil, mono_nil⟩
def xDice (r : XL) : XL := fun env Q => r env fun ds => Q (.non :: ds)
theorem sima_dice {i : Nat} {t : TA} {r : XL} (g : Γ[i]? = some .q) (s : SimA C Γ pm t r) : SimA C Γ (true :: pm) (tCons (tVar i) t) (xDice r) :=
  ⟨fun σ H env Fs Q I h => by
    obtain ⟨p, h1, h2⟩ := I.dice i g
    exact ⟨_, h2, s.run σ H env Fs _ I (s.mono env _ _ (fun ds q vs H1 F f dk a nq => q _ H1 F f dk (.dice h1 a) nq) h)⟩, fun env Q Q' k q => s.mono env _ _ (fun ds q => k _ q) q⟩
theorem ArgsOk.keep {W : Addr → Prop} : ∀ {pm : List Bool} {vs : List V} {ds : List D} {F : List Addr}, ArgsOk C H pm vs ds F → Fr W H H' → (∀ a ∈ F, ¬ W a) → ArgsOk C H' pm vs ds F
  | _, _, _, _, .nil, _, _ => .nil
  | _, _, _, _, .dice q r, f, n => .dice q (r.keep f n)
  | _, _, _, _, .val rv r, f, n => .val (rv.keep f fun a m => n a (List.mem_append_left _ m)) (r.keep f fun a m => n a (List.mem_append_right _ m))
theorem sima_val {te : TE} {t : TA} {r : XL} (s : Sim C Γ te A m) (s' : SimA C Γ pm t r) : SimA C Γ (false :: pm) (tCons te t) (xCons m r) :=
  ⟨fun σ H env Fs Q I h => s.run σ H env Fs _ I (s.mono env _ _ (fun d q v H1 F f1 dk1 r1 k1 => s'.run σ H1 env Fs _ (I.step f1 dk1) (s'.mono env _ _ (fun ds q vs H2 G f2 dk2 a2 nq2 =>
    q (v :: vs) H2 (F ++ G) (f1.trans f2) dk2 (.val (r1.keep f2 k1.1.wq) a2) (k1.1.app nq2)) q)) h), mono_cons s.mono s'.mono⟩
theorem ArgsOk.pinned {pn : List (Nat × V)} : ∀ {pm : List Bool} {vs : List V} {ds : List D} {F : List Addr}, ArgsOk C H pm vs ds F → ArgsOk { C with pin := pn } H pm vs ds F
  | _, _, _, _, .nil => .nil
  | _, _, _, _, .dice q r => .dice q r.pinned
  | _, _, _, _, .val rv r => .val rv r.pinned
def xCall (mf : XF) (r : XL) : X1 := fun env Q => r env fun ds => mf ds Q
def MonoF (mf : XF) : Prop := ∀ ds Q Q', (∀ d, Q d → Q' d) → mf ds Q → mf ds Q'
theorem free_nil {i : Nat} {st : Stat} {q : Option (Addr × Addr)} : Free ⟨st, q, []⟩ i := by unfold Free; simp
theorem sim_call {mf : XF} {t : TA} {r : XL} {S0 : Stat} (hC : C.toStat = S0) (hm : MonoF mf) (s : SimA C Γ pm t r) : Sim C Γ (tCall (SpM S0 pm mf) [] E0 t) .own (xCall mf r) :=
  ⟨fun σ H env Fs Q I h => s.run σ H env Fs _ I (s.mono env _ _ (fun ds q vs H1 F f dk a nq => by
    show SpM S0 pm mf (vs ++ []) H1 Q E0
    rw [List.append_nil]
    refine ⟨{ C with pin := [] }, ds, F, hC, rfl, a.pinned, dk, nq, hm ds _ _ (fun d q v H2 F2 f2 dk2 r2 nd fr => ?_) q⟩
    exact q v H2 F2 (f.trans f2) dk2 r2 ⟨NoQ.new dk fr, nd, fun a ha => f.there a (fr a ha)⟩) h), fun env Q Q' k q => s.mono env _ _ (fun ds q => hm ds _ _ k q) q⟩
theorem monoF_fn {N : Nat} {body : XS} (h : ∀ E E' env, PLe E E' → body E env → body E' env) : MonoF (fnM N body) := fun ds Q Q' k q => h { nx := fun _ => Q .non, rt := Q } _ _ ⟨fun _ z => k _ z, k, fun _ z => z, fun _ z => z⟩ q
def bTest (m : X1) : XB := fun env Q => m env fun d => match d with
  | .bl b => Q b
  | _ => False
theorem mono_bTest (h : Mono m) : Mono (bTest m) := fun env Q Q' k q => h env _ _ (fun d q => by cases d <;> first | exact k _ q | exact q) q
theorem simt_test {t : TE} (s : Sim C Γ t A m) : SimT C Γ (tTest t) (bTest m) := ⟨fun σ H env Fs Q I h => s.run σ H env Fs _ I (s.mono env _ _ (fun d q v H1 F f dk r k => by
    cases r <;> first | exact ⟨_, rfl, q H1 f dk⟩ | exact (show False from q).elim) h), mono_bTest s.mono⟩
theorem simt_B {t : TE} (s : Sim C Γ t A m) : SimT C Γ (tB t) (bTest m) := ⟨fun σ H env Fs Q I h => s.run σ H env Fs _ I (s.mono env _ _ (fun d q v H1 F f dk r k => by
    cases r <;> first | exact ⟨_, rfl, q H1 f dk⟩ | exact (show False from q).elim) h), mono_bTest s.mono⟩
def bAnd (a b : XB) : XB := fun env Q => a env fun c => if c = true then b env Q else Q false
def bOr (a b : XB) : XB := fun env Q => a env fun c => if c = true then Q true else b env Q
def bNot (a : XB) : XB := fun env Q => a env fun c => Q (!c)
theorem simt_and {t u : TT} {a b : XB} (s : SimT C Γ t a) (s' : SimT C Γ u b) : SimT C Γ (tAnd t u) (bAnd a b) := ⟨fun σ H env Fs Q I h => s.run σ H env Fs _ I (s.mono env _ _ (fun c q H1 f dk => by
    cases c with
    | true =>
      rw [if_pos rfl] at q ⊢
      exact s'.run σ H1 env Fs _ (I.step f dk) (s'.mono env _ _ (fun c q H2 f2 dk2 => q H2 (f.trans f2) dk2) q)
    | false =>
      rw [if_neg Bool.false_ne_true] at q ⊢
      exact q H1 f dk) h), fun env Q Q' k q => s.mono env _ _ (fun c q => by
    cases c with
    | true => exact s'.mono env _ _ k q
    | false => exact k _ q) q⟩
theorem simt_or {t u : TT} {a b : XB} (s : SimT C Γ t a) (s' : SimT C Γ u b) : SimT C Γ (tOr t u) (bOr a b) := ⟨fun σ H env Fs Q I h => s.run σ H env Fs _ I (s.mono env _ _ (fun c q H1 f dk => by
    cases c with
    | false =>
      rw [if_neg Bool.false_ne_true] at q ⊢
      exact s'.run σ H1 env Fs _ (I.step f dk) (s'.mono env _ _ (fun c q H2 f2 dk2 => q H2 (f.trans f2) dk2) q)
    | true =>
      rw [if_pos rfl] at q ⊢
      exact q H1 f dk) h), fun env Q Q' k q => s.mono env _ _ (fun c q => by
    cases c with
    | false => exact s'.mono env _ _ k q
    | true => exact k _ q) q⟩
theorem simt_not {t : TT} {a : XB} (s : SimT C Γ t a) : SimT C Γ (tNot t) (bNot a) := ⟨fun σ H env Fs Q I h => s.run σ H env Fs _ I (s.mono env _ _ (fun c q H1 f dk => q H1 f dk) h), fun env Q Q' k q => s.mono env _ _ (fun c q => k _ q) q⟩
def xAnd (a b : X1) : X1 := fun env Q => a env fun d => match d with
  | .bl c => if c = true then b env Q else Q (.bl false)
  | _ => False
def xOr (a b : X1) : X1 := fun env Q => a env fun d => match d with
  | .bl c => if c = true then Q (.bl true) else b env Q
  | _ => False
def xNot (a : X1) : X1 := fun env Q => a env fun d => match d with
  | .bl c => Q (.bl (!c))
  | _ => False
theorem KdOk.back {H0 : Hp} {A : Kd} (f : Fr (Wq C) H0 H) (k : KdOk C Γ Fs H A F) : KdOk C Γ Fs H0 A F := by
  refine ⟨k.1, ?_⟩
  cases A with
  | own => exact ⟨k.2.1, fun a ha => f.there a (k.2.2 a ha)⟩
  | al S => exact k.2
theorem sim_and (s : Sim C Γ ta A m) (s' : Sim C Γ tb B n) : Sim C Γ (tAndV ta tb) B (xAnd m n) := ⟨fun σ H env Fs Q I h => s.run σ H env Fs _ I (s.mono env _ _ (fun d q v H1 F f dk r k => by
    cases r <;> first | skip | exact (show False from q).elim
    all_goals first
      | exact (show False from q).elim
      | (rename_i c
         refine ⟨c, rfl, ?_⟩
         cases c with
         | true => exact s'.run σ H1 env Fs _ (I.step f dk) (s'.mono env _ _ (fun d q v H2 G f2 dk2 r2 k2 => q v H2 G (f.trans f2) dk2 r2 (k2.back f)) q)
         | false => exact q _ H1 [] f dk (.bl _) KdOk.nil)) h), fun env Q Q' k q => s.mono env _ _ (fun d q => by
    cases d <;> first | exact q | skip
    rename_i c
    cases c with
    | true => exact s'.mono env _ _ k q
    | false => exact k _ q) q⟩
theorem sim_not (s : Sim C Γ ta A m) : Sim C Γ (tNotV ta) .own (xNot m) := ⟨fun σ H env Fs Q I h => s.run σ H env Fs _ I (s.mono env _ _ (fun d q v H1 F f dk r k => by
    cases r
    all_goals first
      | exact (show False from q).elim
      | exact ⟨_, rfl, q _ H1 [] f dk (.bl _) KdOk.own_nil⟩) h), fun env Q Q' k q => s.mono env _ _ (fun d q => by
    cases d <;> first | exact q | exact k _ q) q⟩
def xIf (c : XB) (a b : X1) : X1 := fun env Q => c env fun k => if k = true then a env Q else b env Q
theorem sim_if2 {t : TT} {c : XB} (s0 : SimT C Γ t c) (s : Sim C Γ ta A m) (s' : Sim C Γ tb A n) : Sim C Γ (tIf t ta tb) A (xIf c m n) := ⟨fun σ H env Fs Q I h => s0.run σ H env Fs _ I (s0.mono env _ _ (fun c q H1 f dk => by
    cases c with
    | true => exact s.run σ H1 env Fs _ (I.step f dk) (s.mono env _ _ (fun d q v H2 G f2 dk2 r2 k2 => q v H2 G (f.trans f2) dk2 r2 (k2.back f)) q)
    | false => exact s'.run σ H1 env Fs _ (I.step f dk) (s'.mono env _ _ (fun d q v H2 G f2 dk2 r2 k2 => q v H2 G (f.trans f2) dk2 r2 (k2.back f)) q)) h), fun env Q Q' k q => s0.mono env _ _ (fun c q => by
    cases c with
    | true => exact s.mono env _ _ k q
    | false => exact s'.mono env _ _ k q) q⟩
def xChain (o o' : O2) (a b c : X1) : X1 := fun env Q => a env fun x => b env fun y => o x y fun z => match z with
  | .bl k => if k = true then c env fun w => o' y w Q else Q (.bl false)
  | _ => False
theorem sim_chain {r r' : R2} {o o' : O2} {tc : TE} {A' : Kd} {mc : X1} (h : SimO2 C.CT r o) (h' : SimO2 C.CT r' o') (s1 : Sim C Γ ta A m) (s2 : Sim C Γ tb B n) (s3 : Sim C Γ tc A' mc) : Sim C Γ (tChain r r' ta tb tc) .own (xChain o o' m n mc) :=
  ⟨fun σ H env Fs Q I q => s1.run σ H env Fs _ I (s1.mono env _ _ (fun x q v H1 F f dk r1 k1 => s2.run σ H1 env Fs _ (I.step f dk) (s2.mono env _ _ (fun y q w H2 G f2 dk2 r2 k2 =>
    h.run H2 v w x y F G _ (r1.keep f2 k1.1.wq) r2 (h.mono x y _ _ (fun z q u H3 P f3 r3 nd3 fr3 => by
      have f13 := (f.trans f2).trans f3.wq
      have dk3 := dk2.keep f3
      cases r3
      all_goals first
        | exact (show False from q).elim
        | (rename_i k
           refine ⟨k, rfl, ?_⟩
           cases k with
           | true =>
             rw [if_pos rfl]
             dsimp only at q
             rw [if_pos rfl] at q
             refine s3.run σ H3 env Fs _ (I.step f13 dk3) (s3.mono env _ _ (fun w' q u' H4 P4 f4 dk4 r4 k4 => ?_) q)
             exact h'.run H4 w u' y w' G P4 Q ((r2.keep f3 fun _ _ z => z).keep f4 k2.1.wq) r4 (h'.mono y w' _ _ (fun x k => fin_new I (f13.trans f4) dk4 k) q)
           | false =>
             rw [if_neg Bool.false_ne_true]
             dsimp only at q
             rw [if_neg Bool.false_ne_true] at q
             exact q _ H3 [] f13 dk3 (.bl _) KdOk.own_nil)) q)) q)) q),
   fun env Q Q' k q => s1.mono env _ _ (fun x q => s2.mono env _ _ (fun y q => h.mono x y _ _ (fun z q => by
    cases z <;> first | exact q | skip
    rename_i c
    cases c with
    | true => exact s3.mono env _ _ (fun w q => h'.mono y w _ _ k q) q
    | false => exact k _ q) q) q) q⟩
end
end Pu
set_option Elab.async false
set_option linter.all false
set_option maxRecDepth 100000
namespace Pu
open PySem PySem.Spec PyProof.Rows L2
def iSeq (K : PySem.W.Frag) (tl : TE) : TI := fun σ H R => tl σ H fun x H1 => ∃ a, x = .ref a ∧ (((∃ xs, SqL K H1 a xs) ∧ R (Itl K a) H1) ∨ ((∃ xs, SqT K H1 a xs) ∧ R (Itt K a) H1))
theorem pi_seq {X : Cx} {tg l : Expr} {tl : TE} (hl : PE X l tl) : PI X tg l (iSeq X.K tl) := by
  refine ⟨fun pins s σ H R I h => ?_⟩
  refine thn (hl.run pins s σ H _ I h) fun v s1 ⟨x, H1, I1, r1, q1⟩ => ?_
  obtain ⟨a, e, q1⟩ := q1
  subst e
  cases r1
  have e0 : ∀ b ∈ [s1.heap.objs.size], FpOk X pins H1 b := fun b hb => by
    have e : b = s1.heap.objs.size := by simpa using hb
    subst e
    exact I1.fpOk (Nat.le_refl _) (I1.hok.fresh (Nat.le_refl _))
  rcases q1 with ⟨⟨xs, hq⟩, q⟩ | ⟨⟨xs, hq⟩, q⟩
  · obtain ⟨its, rv, p, hz⟩ := I1.list hq
    refine wpAny_pyIter_list p.isList ?_
    exact ⟨s1.heap.objs.size, [s1.heap.objs.size], _, _, H1, rfl, I1.kept (t' := s1.toks) fun b o e => Heap.get?_push_of_some _ e, turn_list a _, ⟨_, Heap.get?_push_size _ rfl, rfl, rfl⟩, e0, q⟩
  · obtain ⟨its, rv, p, hz⟩ := I1.tuple hq
    refine wpAny_pyIter_tuple (show s1.heap.IsTuple a its.toArray from p) ?_
    exact ⟨s1.heap.objs.size, [s1.heap.objs.size], _, _, H1, rfl, I1.kept (t' := s1.toks) fun b o e => Heap.get?_push_of_some _ e, turn_tuple a _, ⟨_, Heap.get?_push_size _ rfl, rfl, rfl⟩, e0, q⟩
section
variable {C : Cfg} {Γ Γ' Γn Γl Γo Γt Γe Γ1 Γ2 : List Mo} {σ σ' : L2.St} {H H' H1 H2 : Hp} {env env' : PEnv} {Fs Fs' Fs1 Fs2 : Nat → List Addr} {v : V} {vs : List V} {d : D} {ds : List D} {F G : List Addr} {ta tb te : TE} {A B : Kd} {m n : X1} {K : PySem.W.Frag} {CT : Nat → Addr}
theorem Rps.getV : ∀ {vs : List V} {ds : List D} {F : List Addr} {j : Nat} {v : V}, Rps CT H vs ds F → vs[j]? = some v → ∃ d G, ds[j]? = some d ∧ Rp CT H v d G ∧ G.Sublist F := fun {vs ds F j v} r e => by
  have hj := (List.getElem?_eq_some_iff.mp e).1
  rw [r.length] at hj
  obtain ⟨v', G, h1, h2, h3⟩ := r.get (List.getElem?_eq_getElem hj)
  rw [e] at h1; cases h1
  exact ⟨_, G, List.getElem?_eq_getElem hj, h2, h3⟩
theorem walk_lst {a : Addr} : Walk CT (Itl K a) (a :: F) (fun H => H a = some (.lst vs) ∧ Rps CT H vs ds F) ds where
  keep := fun W H H' ⟨h, r⟩ f n => ⟨f.keep _ _ h (n _ List.mem_cons_self), r.keep f fun b hb => n b (List.mem_cons_of_mem _ hb)⟩
  there := fun H ⟨h, r⟩ b hb => (Rp.lst h r).tracked b hb
  go := fun i H ⟨h, r⟩ hi => by
    rw [← r.length] at hi
    exact ⟨vs, vs[i], SqL.of h, List.getElem?_eq_getElem hi⟩
  stop := fun H ⟨h, r⟩ => ⟨vs, SqL.of h, by rw [r.length]; exact Nat.le_refl _⟩
  yld := fun i H x H' ⟨h, r⟩ hi ⟨e, y⟩ => by
    subst e
    obtain ⟨d, G, h1, h2, h3⟩ := r.getV (y vs (SqL.of h))
    exact ⟨d, G, h1, Fr.refl, h2, fun b hb => List.mem_cons_of_mem _ (h3.mem hb)⟩
theorem walk_tpl {a : Addr} : Walk CT (Itt K a) F (fun H => H a = some (.tup vs) ∧ Rps CT H vs ds F) ds where
  keep := fun W H H' ⟨h, r⟩ f n => ⟨f.im _ _ h rfl, r.keep f n⟩
  there := fun H ⟨h, r⟩ b hb => r.tracked b hb
  go := fun i H ⟨h, r⟩ hi => by
    rw [← r.length] at hi
    exact ⟨vs, vs[i], SqT.of h, List.getElem?_eq_getElem hi⟩
  stop := fun H ⟨h, r⟩ => ⟨vs, SqT.of h, by rw [r.length]; exact Nat.le_refl _⟩
  yld := fun i H x H' ⟨h, r⟩ hi ⟨e, y⟩ => by
    subst e
    obtain ⟨d, G, h1, h2, h3⟩ := r.getV (y vs (SqT.of h))
    exact ⟨d, G, h1, Fr.refl, h2, fun b hb => h3.mem hb⟩
def mSeq (m : X1) : XL := fun env Q => m env fun d => match d with
  | .lst ds => Q ds
  | .tup ds => Q ds
  | _ => False
theorem simi_seq (s : Sim C Γ te A m) : SimI C Γ (iSeq K te) A (mSeq m) := ⟨fun σ H env Fs R I h => s.run σ H env Fs _ I (s.mono env _ _ (fun d q v H1 F f dk r k => by
    have kd := k.set I
    cases r with
    | lst ha ra => exact ⟨_, rfl, .inl ⟨⟨_, SqL.of ha⟩, q H1 _ _ _ f dk walk_lst ⟨ha, ra⟩ ⟨k.1, kd⟩⟩⟩
    | tup ha ra => exact ⟨_, rfl, .inr ⟨⟨_, SqT.of ha⟩, q H1 _ _ _ f dk walk_tpl ⟨ha, ra⟩ ⟨k.1, kd⟩⟩⟩
    | _ => exact (show False from q).elim) h), fun env Q Q' k q => s.mono env _ _ (fun d q => by cases d <;> first | exact k _ q | exact q) q⟩
def rgD (lo : Int) (n : Nat) : List D := (List.range n).map fun k => .int (lo + (k : Nat))
theorem rgD_len {lo : Int} {n : Nat} : (rgD lo n).length = n := by simp [rgD]
theorem walk_rng {lo : Int} {n : Nat} : Walk CT (Itr lo n) [] (fun _ => True) (rgD lo n) where
  keep := fun _ _ _ _ _ _ => trivial
  there := fun _ _ _ hb => nomatch hb
  go := fun i H _ hi => by rw [rgD_len] at hi; exact hi
  stop := fun H _ => by show n ≤ (rgD lo n).length; rw [rgD_len]; exact Nat.le_refl _
  yld := fun i H x H' _ hi ⟨e, y⟩ => by
    subst e y
    rw [rgD_len] at hi
    refine ⟨.int (lo + (i : Nat)), [], ?_, Fr.refl, .int _, fun _ hb => nomatch hb⟩
    unfold rgD
    rw [List.getElem?_map, List.getElem?_range hi] <;> rfl
def RgOk (i : Int) : Prop := -(2 ^ 62) ≤ i ∧ i < 2 ^ 62
def mRng1 (m : X1) : XL := fun env Q => m env fun d => match d with
  | .int j => RgOk j ∧ Q (rgD 0 j.toNat)
  | _ => False
def mRng2 (m n : X1) : XL := fun env Q => m env fun d => n env fun e => match d, e with
  | .int i, .int j => RgOk i ∧ RgOk j ∧ Q (rgD i (j - i).toNat)
  | _, _ => False
theorem kds_nil {A : Kd} : KdS C Γ Fs A [] := ⟨NoQ.nil, fun _ h => nomatch h⟩
theorem simi_rng1 (s : Sim C Γ te A m) : SimI C Γ (iRng1 (tCons te tNil)) .own (mRng1 m) := ⟨fun σ H env Fs R I h => s.run σ H env Fs _ I (s.mono env _ _ (fun d q v H1 F f dk r k => by
    cases r with
    | int j => exact ⟨j, rfl, q.1.1, q.1.2, q.2 H1 _ _ _ f dk walk_rng trivial kds_nil⟩
    | _ => exact (show False from q).elim) h), fun env Q Q' k q => s.mono env _ _ (fun d q => by cases d <;> first | exact ⟨q.1, k _ q.2⟩ | exact q) q⟩
theorem simi_rng2 (s : Sim C Γ ta A m) (s' : Sim C Γ tb B n) : SimI C Γ (iRng2 (tCons ta (tCons tb tNil))) .own (mRng2 m n) := ⟨fun σ H env Fs R I h => s.run σ H env Fs _ I (s.mono env _ _ (fun d q v H1 F f dk r k =>
    s'.run σ H1 env Fs _ (I.step f dk) (s'.mono env _ _ (fun e q w H2 G f2 dk2 r2 k2 => by
    cases r with
    | int i =>
      cases r2 with
      | int j => exact ⟨i, j, rfl, ⟨q.1.1, q.1.2, q.2.1.1, q.2.1.2⟩, q.2.2 H2 _ _ _ (f.trans f2) dk2 walk_rng trivial kds_nil⟩
      | _ => exact (show False from q).elim
    | _ => exact (show False from q).elim) q)) h), fun env Q Q' k q => s.mono env _ _ (fun d q => s'.mono env _ _ (fun e q => by cases d <;> cases e <;> first | exact ⟨q.1, q.2.1, k _ q.2.2⟩ | exact q) q) q⟩
def enD : Nat → List D → List D
  | _, [] => []
  | i, d :: ds => .tup [.int (i : Nat), d] :: enD (i + 1) ds
end
end Pu
set_option Elab.async false
set_option linter.all false
set_option maxRecDepth 100000
namespace Pu
open PySem PySem.Spec PyProof.Rows L2
def wipeG (Γ : List Mo) : List Nat → List Mo
  | [] => Γ
  | v :: vs => (wipeG Γ vs).set v .x
def bYes : XB := fun _ Q => Q true
def lcLoop (b : XG) (mt : XB) (me : X1) (env : PEnv) : List D → List D → (List D → Prop) → Prop
  | [], acc, Q => Q acc
  | d :: ds, acc, Q => b d env fun env1 => mt env1 fun k => if k = true then me env1 fun y => acc.length < sizeLine ∧ lcLoop b mt me env ds (acc ++ [y]) Q else lcLoop b mt me env ds acc Q
def xLc (mi : XL) (b : XG) (mt : XB) (me : X1) : X1 := fun env Q => mi env fun ds => lcLoop b mt me env ds [] fun acc => Q (.lst acc)
section
variable {C : Cfg} {Γ Γ' Γn Γl Γo Γt Γe Γ1 Γ2 Γf : List Mo} {σ σ' : L2.St} {H H' H1 H2 : Hp} {env env' : PEnv} {Fs Fs' Fs1 Fs2 : Nat → List Addr} {v : V} {vs : List V} {d : D} {ds : List D} {F G : List Addr} {ta tb te : TE} {A B : Kd} {m n : X1} {K : PySem.W.Frag} {CT : Nat → Addr}
theorem simt_yes : SimT C Γ tYes bYes := ⟨fun σ H env Fs Q I h => h H Fr.refl I.dk, fun _ _ _ k q => k _ q⟩
theorem Ok.forget (I : Ok C Γ σ H env Fs) {i : Nat} (fr : Free C i) : Ok C (Γ.set i .x) (σ.set i none) H env Fs := by
  have ne : ∀ {j : Nat} {m : Mo}, (Γ.set i .x)[j]? = some m → m ≠ .x → j ≠ i ∧ Γ[j]? = some m := fun g h => by
    rcases get_set g with ⟨_, e, _⟩ | r
    · exact absurd e h
    · exact r
  have lv : ∀ {m : Mo}, live m → m ≠ .x := fun l e => by rcases l with z | z <;> rw [z] at e <;> cases e
  refine ⟨by simp [I.le], by simp [I.ls], fun j m g l => ?_, fun j g => ?_, fun j g => I.nd j (ne g (by decide)).2, fun j k m g g' l => I.dj j k m (ne g (by decide)).2 (ne g' (lv l)).2 l, fun j m g l => I.nq j m (ne g (lv l)).2 l, I.dk, fun p hp => by
    have ne : i ≠ p.1 := fun e => fr (by rw [e]; exact List.mem_map.mpr ⟨p, hp, rfl⟩)
    rw [List.getElem?_set_ne ne]; exact I.pn p hp⟩
  · obtain ⟨n, g⟩ := ne g (lv l)
    obtain ⟨v, d, h1, h2, h3⟩ := I.val j m g l
    exact ⟨v, d, by rw [List.getElem?_set_ne (Ne.symm n)]; exact h1, h2, h3⟩
  · obtain ⟨n, g⟩ := ne g (by decide)
    obtain ⟨p, h1, h2⟩ := I.dice j g
    exact ⟨p, h1, by rw [List.getElem?_set_ne (Ne.symm n)]; exact h2⟩
theorem Ok.wipe (I : Ok C Γ σ H env Fs) : ∀ ks : List Nat, (∀ k ∈ ks, Free C k) → Ok C (wipeG Γ ks) (L2.wipe σ ks) H env Fs
  | [], _ => I
  | k :: ks, h => (I.wipe ks fun j hj => h j (List.mem_cons_of_mem _ hj)).forget (h k List.mem_cons_self)
theorem wipe_eq {ks : List Nat} (hl : σ'.length = σ.length) (h : ∀ j : Nat, j ∉ ks → σ'[j]? = (L2.wipe σ ks)[j]?) (hl2 : σ'.length = (L2.wipe σ ks).length) : L2.wipe σ' ks = L2.wipe σ ks := by
  apply List.ext_getElem?
  intro j
  by_cases hj : j ∈ ks
  · have a : ∀ (τ : L2.St), τ.length = σ.length → (L2.wipe τ ks)[j]? = if j < σ.length then some none else none := fun τ e => by
      clear h hl hl2
      induction ks with
      | nil => exact absurd hj (by simp)
      | cons k ks ih =>
        unfold L2.wipe
        by_cases e2 : j = k
        · subst e2
          rw [List.getElem?_set, if_pos rfl, L2.wipe_length, e]
        · rw [List.getElem?_set_ne (Ne.symm e2)]
          exact ih (by simpa [e2] using hj)
    rw [a σ' hl, a σ rfl]
  · rw [L2.wipe_out hj, h j hj]
theorem Fr.hid {W : Addr → Prop} {p : Addr} {o : HO} (f : Fr W H H1) (h : H p = none) : Fr W H (upd H1 p o) := by
  refine ⟨fun a x e n => ?_, fun a x e n => ?_, fun a e => ?_⟩
  · rw [upd_ne (ne_of_none e h)]; exact f.keep a x e n
  · rw [upd_ne (ne_of_none e h)]; exact f.im a x e n
  · by_cases q : a = p
    · rw [q, upd_same] at e; cases e
    · rw [upd_ne q] at e; exact f.there a e
theorem DiceOk.upd {p : Addr} {o : HO} (x : DiceOk C H1) (f : Fr (Wq C) H H1) (h : H p = none) (x0 : DiceOk C H) : DiceOk C (L2.upd H1 p o) := fun q e => by
  obtain ⟨o1, u1, h1, h2, r⟩ := (x q e).ex
  exact ⟨o1, u1, by rw [upd_ne (fun z => (x0 q e).t1 (by rw [z]; exact h))]; exact h1, by rw [upd_ne (fun z => (x0 q e).t2 (by rw [z]; exact h))]; exact h2, r⟩
theorem Rps.upd {p : Addr} {o u : HO} (r : Rps CT H vs ds F) (h : H p = some u) (hi : Im u = false) (n : p ∉ F) : Rps CT (L2.upd H p o) vs ds F :=
  r.keep (W := fun a => a = p) (Fr.at rfl h hi) fun a ha e => n (e ▸ ha)
theorem Rp.upd {p : Addr} {o u : HO} (r : Rp CT H v d F) (h : H p = some u) (hi : Im u = false) (n : p ∉ F) : Rp CT (L2.upd H p o) v d F :=
  r.keep (W := fun a => a = p) (Fr.at rfl h hi) fun a ha e => n (e ▸ ha)
theorem mono_lcLoop {b : XG} {mt : XB} {me : X1} (hb : ∀ d env Q Q', (∀ e, Q e → Q' e) → b d env Q → b d env Q') (ht : Mono mt) (he : Mono me) : ∀ (ds acc : List D) (Q Q' : List D → Prop), (∀ x, Q x → Q' x) → lcLoop b mt me env ds acc Q → lcLoop b mt me env ds acc Q'
  | [], acc, Q, Q', k, q => k _ q
  | d :: ds, acc, Q, Q', k, q => hb _ _ _ _ (fun e q => ht _ _ _ (fun c q => by
    cases c with
    | true => exact he _ _ _ (fun y q => ⟨q.1, mono_lcLoop hb ht he ds _ Q Q' k q.2⟩) q
    | false => exact mono_lcLoop hb ht he ds acc Q Q' k q) q) q
theorem sim_lc {wi : TI} {g : TG} {tt : TT} {ws ks : List Nat} {mi : XL} {b : XG} {mt : XB} {me : X1} (frs : ∀ k ∈ ws, Free C k) (s : SimI C Γ wi A mi) (hw : wk Γ Γf = true) (hS : noO A.set Γf = true) (sg : SimG C (wipeG Γf ws) Γt ks g b) (hk : ks.all (fun k => decide (k ∈ ws)) = true)
    (st : SimT C Γt tt mt) (se : Sim C Γt te .own me) : Sim C Γ (tLc wi g tt te ws) .own (xLc mi b mt me) :=
  ⟨fun σ H env Fs Q I h => s.run σ H env Fs _ I (s.mono env _ _ (fun ds q H1 J S P f dk wlk p kd Dl hD => by
    have I1 : Ok C (wipeG Γf ws) (L2.wipe σ ws) H1 env Fs := ((I.step f dk).weak hw).wipe ws frs
    have lw : (L2.wipe σ ws).length = σ.length := L2.wipe_length σ ws
    have ho : ∀ j : Nat, (wipeG Γf ws)[j]? = some .o → Γf[j]? = some .o := by
      clear sg hk I1 lw frs
      induction ws with
      | nil => exact fun j g => g
      | cons k ws ih =>
        intro j g
        rcases get_set g with ⟨_, e, _⟩ | ⟨_, g⟩
        · cases e
        · exact ih j g
    refine ⟨fun i m H => m = ds.length - i ∧ i ≤ ds.length ∧ ∃ accV accD F, H Dl = some (.lst accV) ∧ Rps C.CT H accV accD F ∧ Fr (Wq C) H1 H ∧ DiceOk C H ∧ F.Nodup ∧ (∀ a ∈ F, H1 a = none ∧ a ≠ Dl) ∧
      lcLoop b mt me env (ds.drop i) accD (fun acc => ∀ v H' F, Fr (Wq C) _ H' → DiceOk C H' → Rp C.CT H' v (.lst acc) F → KdOk C Γ Fs _ .own F → Q v H'), ⟨ds.length, rfl, Nat.zero_le _, [], [], [], upd_same, .nil, Fr.refl.hid hD, dk.keep (Fr.new hD), List.nodup_nil, (fun _ z => nomatch z), q⟩, ?_⟩
    rintro i m H2 ⟨rfl, hi, accV, accD, F, e2, r2, f2, dk2, nd2, fr2, q2⟩
    have nqS : ∀ a ∈ S, ¬ Wq C a := kd.1.wq
    have p2 : P H2 := wlk.keep _ H1 H2 p f2 nqS
    by_cases hlt : i < ds.length
    · refine .inr ⟨wlk.go i H2 p2 hlt, fun H' => ∃ accV accD F, H' Dl = some (.lst accV) ∧ Rps C.CT H' accV accD F ∧ Fr (Wq C) H1 H' ∧ DiceOk C H' ∧ F.Nodup ∧ (∀ a ∈ F, H1 a = none ∧ a ≠ Dl) ∧
        lcLoop b mt me env (ds.drop (i + 1)) accD (fun acc => ∀ v H' F, Fr (Wq C) _ H' → DiceOk C H' → Rp C.CT H' v (.lst acc) F → KdOk C Γ Fs _ .own F → Q v H'), fun H' hN => ⟨ds.length - (i + 1), by omega, rfl, hlt, hN⟩, fun x H3 y => ?_⟩
      obtain ⟨d, G, e, f3, r3, sub⟩ := wlk.yld i H2 x H3 p2 hlt y
      have hd : ds.drop i = d :: ds.drop (i + 1) := by
        obtain ⟨h1, h2⟩ := List.getElem?_eq_some_iff.mp e
        rw [← h2, List.drop_eq_getElem_cons h1]
      rw [hd] at q2
      have dk3 : DiceOk C H3 := dk2.keep f3
      have f13 : Fr (Wq C) H1 H3 := f2.trans f3.wq
      refine sg.run _ H3 env Fs x d G _ (I1.step f13 dk3) r3 (fun p e => ⟨fun hm => (kd.1 p e).1 (sub _ hm), fun hm => (kd.1 p e).2 (sub _ hm)⟩) (fun a ha j gj hb => ?_) (sg.mono _ _ _ _ (fun env4 q4 σ4 Fs4 I4 o4 fs4 l4 k4 => ⟨?_, ?_⟩) q2)
      · have gj := ho j gj
        exact absurd gj (of_decide_eq_true (List.all_eq_true.mp hS j (kd.2 a (sub a ha) j (wk_o hw gj) hb)))
      · refine wipe_eq (l4.trans lw) (fun j hj => k4 j fun z => hj (of_decide_eq_true (List.all_eq_true.mp hk j z))) l4
      · have e3 : H3 Dl = some (.lst accV) := f3.keep _ _ e2 fun z => z
        have r3' : Rps C.CT H3 accV accD F := r2.keep f3 fun _ _ z => z
        refine st.run σ4 H3 env4 Fs4 _ I4 (st.mono _ _ _ (fun c q5 H5 f5 dk5 => ?_) q4)
        have nqF : ∀ a ∈ F, ¬ Wq C a := (NoQ.new dk fun a ha => (fr2 a ha).1).wq
        have nqD : ¬ Wq C Dl := fun w => wq_there dk w hD
        have e5 : H5 Dl = some (.lst accV) := f5.keep _ _ e3 nqD
        have r5 : Rps C.CT H5 accV accD F := r3'.keep f5 nqF
        have f15 : Fr (Wq C) H1 H5 := f13.trans f5
        cases c with
        | true =>
          rw [if_pos rfl] at q5 ⊢
          refine se.run σ4 H5 env4 Fs4 _ (I4.step f5 dk5) (se.mono _ _ _ (fun y q6 w H6 G6 f6 dk6 r6 k6 => ?_) q5)
          have e6 : H6 Dl = some (.lst accV) := f6.keep _ _ e5 nqD
          have nG : Dl ∉ G6 := fun z => by
            have := k6.2.2 Dl z
            rw [e5] at this; cases this
          have nF : Dl ∉ F := fun z => (fr2 Dl z).2 rfl
          refine ⟨accV, e6, by rw [r5.length]; exact q6.1, accV ++ [w], accD ++ [y], F ++ (G6 ++ []), upd_same, ((r5.keep f6 nqF).upd e6 rfl nF).append (.cons (r6.upd e6 rfl nG) .nil), (f15.trans f6).hid hD, dk6.upd (f15.trans f6) hD dk, ?_, fun a ha => ?_, q6.2⟩
          · rw [List.append_nil]
            refine List.nodup_append.mpr ⟨nd2, k6.2.1, fun a ha b hb e => ?_⟩
            subst e
            exact r5.tracked a ha (k6.2.2 a hb)
          · rw [List.append_nil] at ha
            rcases List.mem_append.mp ha with ha | ha
            · exact fr2 a ha
            · exact ⟨f15.there a (k6.2.2 a ha), fun z => nG (z ▸ ha)⟩
        | false =>
          rw [if_neg Bool.false_ne_true] at q5 ⊢
          exact ⟨accV, accD, F, e5, r5, f15, dk5, nd2, fr2, q5⟩
    · have e : i = ds.length := by omega
      subst e
      rw [List.drop_length] at q2
      refine .inl ⟨wlk.stop H2 p2, q2 (.ref Dl) H2 (Dl :: F) (f.trans f2) dk2 (.lst e2 r2) ⟨NoQ.new dk fun a ha => ?_, List.nodup_cons.mpr ⟨fun z => (fr2 Dl z).2 rfl, nd2⟩, fun a ha => ?_⟩⟩
      · rcases List.mem_cons.mp ha with z | ha
        · rw [z]; exact hD
        · exact (fr2 a ha).1
      · rcases List.mem_cons.mp ha with z | ha
        · rw [z]; exact f.there _ hD
        · exact f.there _ (fr2 a ha).1) h),
   fun env Q Q' k q => s.mono env _ _ (fun ds q => mono_lcLoop sg.mono st.mono se.mono ds [] _ _ (fun acc q => k _ q) q) q⟩
end
end Pu
set_option Elab.async false
set_option linter.all false
set_option maxRecDepth 100000
namespace Pu
open PySem PySem.Spec PyProof.Rows L2
section
variable {C : Cfg} {Γ Γ' Γn Γl Γo Γt Γe Γ1 Γ2 : List Mo} {σ σ' : L2.St} {H H' H1 H2 : Hp} {env env' : PEnv} {Fs Fs' Fs1 Fs2 : Nat → List Addr} {v : V} {vs : List V} {d : D} {ds : List D} {F G : List Addr} {ta tb tc te : TE} {A B : Kd} {m n mc : X1} {K : PySem.W.Frag} {CT : Nat → Addr}
structure SimO (C : Cfg) (Γ : List Mo) (t : TO) (m : PEnv → (Option Int → Prop) → Prop) : Prop where
  run : ∀ (σ : L2.St) (H : Hp) (env : PEnv) (Fs : Nat → List Addr) (Q : Option Int → Hp → Prop), Ok C Γ σ H env Fs →
    m env (fun b => ∀ H', Fr (Wq C) H H' → DiceOk C H' → Q b H') → t σ H Q
  mono : Mono m
def pNo : PEnv → (Option Int → Prop) → Prop := fun _ Q => Q none
def pYes (m : X1) : PEnv → (Option Int → Prop) → Prop := fun env Q => m env fun d => match d with
  | .int i => Q (some i)
  | _ => False
theorem simo_no : SimO C Γ tNoPart pNo := ⟨fun σ H env Fs Q I h => h H Fr.refl I.dk, fun _ _ _ k q => k _ q⟩
theorem simo_yes (s : Sim C Γ te A m) : SimO C Γ (tPart te) (pYes m) := ⟨fun σ H env Fs Q I h => s.run σ H env Fs _ I (s.mono env _ _ (fun d q v H1 F f dk r k => by
    cases r <;> first | exact ⟨_, rfl, q H1 f dk⟩ | exact (show False from q).elim) h), fun env Q Q' k q => s.mono env _ _ (fun d q => by cases d <;> first | exact k _ q | exact q) q⟩
def cutD {α : Type} (xs : List α) (lo hi : Option Int) : List α := (xs.drop (HT.sIx xs.length 0 lo)).take (HT.sIx xs.length xs.length hi - HT.sIx xs.length 0 lo)
def rSlU (K : PySem.W.Frag) : V → Option Int → Option Int → Hp → VK → Prop := fun x lo hi H Q => rSlA K x lo hi H Q ∨ rSlL K x lo hi H Q
theorem sl_U {X : Cx} : SlR X (rSlU X.K) := sl_tupA.or sl_list
def xSl (m : X1) (l u : PEnv → (Option Int → Prop) → Prop) : X1 := fun env Q => m env fun d => l env fun lo => u env fun hi => match d with
  | .tup xs => immL xs = true ∧ Q (.tup (cutD xs lo hi))
  | .lst xs => immL xs = true ∧ Q (.lst (cutD xs lo hi))
  | _ => False
theorem cut_whole {xs : List D} {lo hi : Option Int} (h : HT.sIx xs.length 0 lo = 0 ∧ HT.sIx xs.length xs.length hi = xs.length) : cutD xs lo hi = xs := by
  unfold cutD
  rw [h.1, h.2]
  simp
theorem Rps.cut (r : Rps CT H vs ds []) (lo hi : Option Int) : Rps CT H (cutV vs lo hi) (cutD ds lo hi) [] := by
  unfold cutV cutD
  rw [r.length]
  exact (r.drop _).take _
theorem sim_sl {tl th : TO} {l u : PEnv → (Option Int → Prop) → Prop} (s : Sim C Γ te A m) (s1 : SimO C Γ tl l) (s2 : SimO C Γ th u) : Sim C Γ (tSl (rSlU K) te tl th) .own (xSl m l u) :=
  ⟨fun σ H env Fs Q I h => s.run σ H env Fs _ I (s.mono env _ _ (fun d q v H1 F f dk r k => s1.run σ H1 env Fs _ (I.step f dk) (s1.mono env _ _ (fun lo q H2 f2 dk2 => s2.run σ H2 env Fs _ (I.step (f.trans f2) dk2) (s2.mono env _ _ (fun hi q H3 f3 dk3 => by
    have r3 := r.keep (f2.trans f3) k.1.wq
    have ff := f.trans (f2.trans f3)
    cases r3 with
    | tup ha ra =>
      have e := ra.imm q.1
      subst e
      refine .inl ⟨_, _, rfl, SqT.of ha, fun hh => ?_, fun hh p hp => ?_⟩
      · rw [ra.length] at hh
        have := q.2
        rw [cut_whole hh] at this
        exact this _ H3 [] ff dk3 (.tup ha ra) KdOk.own_nil
      · exact q.2 _ _ [] (ff.trans (Fr.new hp)) (dk3.keep (Fr.new hp)) (.tup upd_same ((ra.cut lo hi).keep (W := fun _ => False) (Fr.new hp) fun _ z => nomatch z)) KdOk.own_nil
    | lst ha ra =>
      have e := ra.imm q.1
      subst e
      exact .inr ⟨_, _, rfl, SqL.of ha, fun p hp => q.2 _ _ [p] (ff.trans (Fr.new hp)) (dk3.keep (Fr.new hp)) (.lst upd_same ((ra.cut lo hi).keep (W := fun _ => False) (Fr.new hp) fun _ z => nomatch z)) ⟨NoQ.new dk3 fun a ha => (by rw [List.mem_singleton.mp ha]; exact hp), (by simp), fun a ha => (by rw [List.mem_singleton.mp ha]; exact ff.there p hp)⟩⟩
    | _ => exact (show False from q).elim) q)) q)) h),
   fun env Q Q' k q => s.mono env _ _ (fun d q => s1.mono env _ _ (fun lo q => s2.mono env _ _ (fun hi q => by cases d <;> first | exact ⟨q.1, k _ q.2⟩ | exact q) q) q) q⟩
def oLen : O1 := fun d Q => match d with
  | .lst xs => Q (.int (xs.length : Nat))
  | .tup xs => Q (.int (xs.length : Nat))
  | _ => False
def rLen (K : PySem.W.Frag) : List V → Hp → VK → Prop := fun xs H Q => ∃ p ys, xs = [.ref p] ∧ (SqL K H p ys ∨ SqT K H p ys) ∧ Q (.int ys.length) H
theorem sc_len : SimC1 CT (rLen K) oLen := ⟨fun H v d F Q a q => by
  cases a with
  | lst ha ra => exact ⟨_, _, rfl, .inl (SqL.of ha), by rw [ra.length]; exact New.imm q (.int _)⟩
  | tup ha ra => exact ⟨_, _, rfl, .inr (SqT.of ha), by rw [ra.length]; exact New.imm q (.int _)⟩
  | _ => exact (show False from q).elim, fun d Q Q' k q => by cases d <;> first | exact k _ q | exact q⟩
def rListO (K : PySem.W.Frag) : List V → Hp → VK → Prop := fun xs H Q => ∃ p ys, xs = [.ref p] ∧ (SqL K H p ys ∨ SqT K H p ys) ∧ ∀ l, H l = none → Q (.ref l) (upd H l (.lst ys))
def oList : O1 := fun d Q => match d with
  | .lst xs => immL xs = true ∧ Q (.lst xs)
  | .tup xs => immL xs = true ∧ Q (.lst xs)
  | _ => False
theorem sc_list : SimC1 CT (rListO K) oList := ⟨fun H v d F Q a q => by
  cases a with
  | lst ha ra =>
    have e := ra.imm q.1; subst e
    exact ⟨_, _, rfl, .inl (SqL.of ha), fun l hl => New.at1 q.2 hl (.lst upd_same (ra.keep (W := fun _ => False) (Fr.new hl) fun _ z => nomatch z))⟩
  | tup ha ra =>
    have e := ra.imm q.1; subst e
    exact ⟨_, _, rfl, .inr (SqT.of ha), fun l hl => New.at1 q.2 hl (.lst upd_same (ra.keep (W := fun _ => False) (Fr.new hl) fun _ z => nomatch z))⟩
  | _ => exact (show False from q).elim, fun d Q Q' k q => by cases d <;> first | exact ⟨q.1, k _ q.2⟩ | exact q⟩
def rTupO (K : PySem.W.Frag) : List V → Hp → VK → Prop := fun xs H Q => ∃ p ys, xs = [.ref p] ∧ ((SqL K H p ys ∧ ∀ l, H l = none → Q (.ref l) (upd H l (.tup ys))) ∨ (SqT K H p ys ∧ Q (.ref p) H))
def oTup : O1 := fun d Q => match d with
  | .lst xs => immL xs = true ∧ Q (.tup xs)
  | .tup xs => immL xs = true ∧ Q (.tup xs)
  | _ => False
theorem sc_tup : SimC1 CT (rTupO K) oTup := ⟨fun H v d F Q a q => by
  cases a with
  | lst ha ra =>
    have e := ra.imm q.1; subst e
    exact ⟨_, _, rfl, .inl ⟨SqL.of ha, fun l hl => New.at q.2 hl (.tup upd_same (ra.keep (W := fun _ => False) (Fr.new hl) fun _ z => nomatch z))⟩⟩
  | tup ha ra =>
    have e := ra.imm q.1; subst e
    exact ⟨_, _, rfl, .inr ⟨SqT.of ha, New.imm q.2 (.tup ha ra)⟩⟩
  | _ => exact (show False from q).elim, fun d Q Q' k q => by cases d <;> first | exact ⟨q.1, k _ q.2⟩ | exact q⟩
def oSum : O1 := fun d Q => match d with
  | .lst xs => ∃ ns : List Int, xs = ns.map D.int ∧ Q (.int ns.sum)
  | _ => False
theorem sc_sum : SimC1 CT (rSum K) oSum := ⟨fun H v d F Q a q => by
  cases a with
  | lst ha ra =>
    obtain ⟨ns, rfl, q⟩ := q
    obtain ⟨rfl, _⟩ := ra.ints
    exact ⟨_, _, rfl, SqL.of ha, New.imm q (.int _)⟩
  | _ => exact (show False from q).elim, fun d Q Q' k q => by
  cases d <;> first | exact q | skip
  obtain ⟨ns, e, q⟩ := q
  exact ⟨ns, e, k _ q⟩⟩
def oAny (all : Bool) : O1 := fun d Q => match d with
  | .lst xs => ∃ bs : List Bool, xs = bs.map D.bl ∧ Q (.bl (if all then bs.all id else bs.any id))
  | _ => False
theorem mono_oAny {all : Bool} : Mono1 (oAny all) := fun d Q Q' k q => by
  cases d <;> first | exact q | skip
  obtain ⟨ns, e, q⟩ := q
  exact ⟨ns, e, k _ q⟩
theorem sc_any : SimC1 CT (rAny K) (oAny false) := ⟨fun H v d F Q a q => by
  cases a with
  | lst ha ra =>
    obtain ⟨ns, rfl, q⟩ := q
    obtain ⟨rfl, _⟩ := ra.bls
    exact ⟨_, _, rfl, SqL.of ha, New.imm q (.bl _)⟩
  | _ => exact (show False from q).elim, mono_oAny⟩
theorem sc_all : SimC1 CT (rAll K) (oAny true) := ⟨fun H v d F Q a q => by
  cases a with
  | lst ha ra =>
    obtain ⟨ns, rfl, q⟩ := q
    obtain ⟨rfl, _⟩ := ra.bls
    exact ⟨_, _, rfl, SqL.of ha, New.imm q (.bl _)⟩
  | _ => exact (show False from q).elim, mono_oAny⟩
def oMost (mx : Bool) : O1 := fun d Q => match d with
  | .lst xs => ∃ ns : List Int, xs = ns.map D.int ∧ 0 < ns.length ∧ ∀ i, i ∈ ns → (∀ y, y ∈ ns → if mx then y ≤ i else i ≤ y) → Q (.int i)
  | _ => False
theorem mono_oMost {mx : Bool} : Mono1 (oMost mx) := fun d Q Q' k q => by
  cases d <;> first | exact q | skip
  obtain ⟨ns, e, l, q⟩ := q
  exact ⟨ns, e, l, fun i h1 h2 => k _ (q i h1 h2)⟩
theorem sc_max : SimC1 CT (rMax K) (oMost true) := ⟨fun H v d F Q a q => by
  cases a with
  | lst ha ra =>
    obtain ⟨ns, rfl, l, q⟩ := q
    obtain ⟨rfl, _⟩ := ra.ints
    exact ⟨_, _, rfl, SqL.of ha, l, fun i h1 h2 => New.imm (q i h1 h2) (.int _)⟩
  | _ => exact (show False from q).elim, mono_oMost⟩
def oSortI : O1 := fun d Q => match d with
  | .lst xs => ∃ ns : List Int, xs = ns.map D.int ∧ ∀ ns' : List Int, ns'.Perm ns → ns'.Pairwise (· ≤ ·) → Q (.lst (ns'.map D.int))
  | _ => False
theorem sc_sortI : SimC1 CT (rSortedI K) oSortI := ⟨fun H v d F Q a q => by
  cases a with
  | lst ha ra =>
    obtain ⟨ns, rfl, q⟩ := q
    obtain ⟨rfl, _⟩ := ra.ints
    exact ⟨_, _, rfl, SqL.of ha, fun ns' p h1 h2 hp => New.at1 (q ns' h1 h2) hp (.lst upd_same Rps.of_ints)⟩
  | _ => exact (show False from q).elim, fun d Q Q' k q => by
  cases d <;> first | exact q | skip
  obtain ⟨ns, e, q⟩ := q
  exact ⟨ns, e, fun ns' h1 h2 => k _ (q ns' h1 h2)⟩⟩
def rAbs : List V → Hp → VK → Prop := fun xs H Q => ∃ i, xs = [.int i] ∧ Q (.int (if i < 0 then -i else i)) H
def oAbs : O1 := fun d Q => match d with
  | .int i => Q (.int (if i < 0 then -i else i))
  | _ => False
theorem sc_abs : SimC1 CT rAbs oAbs := ⟨fun H v d F Q a q => by
  cases a <;> first | exact ⟨_, rfl, New.imm q (.int _)⟩ | exact (show False from q).elim, fun d Q Q' k q => by cases d <;> first | exact k _ q | exact q⟩
def rInt1 : List V → Hp → VK → Prop := fun xs H Q => (∃ i, xs = [.int i] ∧ Q (.int i) H) ∨ ∃ k, xs = [.bl k] ∧ Q (.int (if k then 1 else 0)) H
def oInt : O1 := fun d Q => match d with
  | .int i => Q (.int i)
  | .bl b => Q (.int (if b then 1 else 0))
  | _ => False
theorem sc_int : SimC1 CT rInt1 oInt := ⟨fun H v d F Q a q => by
  cases a with
  | int i => exact .inl ⟨_, rfl, New.imm q (.int _)⟩
  | bl i => exact .inr ⟨_, rfl, New.imm q (.int _)⟩
  | _ => exact (show False from q).elim, fun d Q Q' k q => by cases d <;> first | exact k _ q | exact q⟩
def rMn2 : List V → Hp → VK → Prop := fun xs H Q => ∃ i j, xs = [.int i, .int j] ∧ Q (.int (if j < i then j else i)) H
theorem sc_min2 : SimC2 CT rMn2 (oI fun i j => .int (if j < i then j else i)) := ⟨fun H v w d e F G Q a b q => by
  cases a <;> cases b <;> first | exact ⟨_, _, rfl, New.imm q (.int _)⟩ | exact (show False from q).elim, mono_oI⟩
theorem rgV_D {a b : Int} : Rps CT H (rgV a b) (rgD a (b - a).toNat) [] := by
  refine Rps.of_imm ?_ fun j v d e1 e2 => ?_
  · unfold rgV rgD; simp
  · unfold rgV at e1; unfold rgD at e2
    rw [List.getElem?_map] at e1 e2
    cases e : (List.range (b - a).toNat)[j]? with
    | none => rw [e] at e1; cases e1
    | some k =>
      rw [e] at e1 e2
      cases e1; cases e2
      exact .int _
def xLRg1 (m : X1) : X1 := fun env Q => m env fun d => match d with
  | .int j => L2.RgOk 0 j ∧ Q (.lst (rgD 0 (j - 0).toNat))
  | _ => False
def atF (c0 : Nat) (f : Str) : O1 := fun d Q => match d with
  | .obj c gs => c = c0 ∧ (match gs.lookup f with | some x => Q x | none => False)
  | .fz c gs => c = c0 ∧ (match gs.lookup f with | some x => Q x | none => False)
  | _ => False
theorem lookup_F {f : Str} {x : D} : ∀ {fs : List (Str × V)} {gs : List (Str × D)} {F : List Addr}, fs.map (·.1) = gs.map (·.1) → Rps CT H (fs.map (·.2)) (gs.map (·.2)) F → gs.lookup f = some x → ∃ v G, fs.lookup f = some v ∧ Rp CT H v x G ∧ G.Sublist F
  | [], [], _, _, _, h => by simp at h
  | [], _ :: _, _, e, _, _ => by simp at e
  | _ :: _, [], _, e, _, _ => by simp at e
  | (a, p) :: fs, (b, q) :: gs, _, e, .cons (F := F) r rs, h => by
    simp only [List.map_cons, List.cons.injEq] at e
    obtain ⟨e1, e2⟩ := e
    have e1 : a = b := e1
    subst e1
    rw [List.lookup_cons] at h ⊢
    by_cases hf : (f == a) = true
    · rw [hf] at h ⊢
      cases h
      exact ⟨p, F, rfl, r, List.sublist_append_left _ _⟩
    · rw [Bool.not_eq_true] at hf
      rw [hf] at h ⊢
      obtain ⟨v, G, h1, h2, h3⟩ := lookup_F e2 rs h
      exact ⟨v, G, h1, h2, h3.trans (List.sublist_append_right _ _)⟩
theorem sim_fld {c0 : Nat} {f : Str} (hc : Cls K (C.CT c0)) (hn : NoAttr K (C.CT c0) f) (s : Sim C Γ te A m) : Sim C Γ (tFld K te f) A (x1 (atF c0 f) m) :=
  ⟨fun σ H env Fs Q I h => s.run σ H env Fs _ I (s.mono env _ _ (fun d q v H1 F f1 dk r k => by
    cases r with
    | obj ha hk ra =>
      obtain ⟨rfl, q⟩ := q
      cases e : List.lookup f _ with
      | none => rw [e] at q; exact q.elim
      | some x =>
        rw [e] at q
        obtain ⟨v, G, h1, h2, h3⟩ := lookup_F hk ra e
        exact ⟨_, _, _, _, v, rfl, ha, hc, hn, h1, q v H1 G f1 dk h2 (k.sub (h3.trans (List.sublist_cons_self _ _)))⟩
    | fz ha hz hk ra =>
      obtain ⟨rfl, q⟩ := q
      cases e : List.lookup f _ with
      | none => rw [e] at q; exact q.elim
      | some x =>
        rw [e] at q
        obtain ⟨v, G, h1, h2, h3⟩ := lookup_F hk ra e
        exact ⟨_, _, _, _, v, rfl, ha, hc, hn, h1, q v H1 G f1 dk h2 (k.sub h3)⟩
    | _ => exact (show False from q).elim) h),
   mono_x1 (fun d Q Q' k q => by
    cases d with
    | obj c gs =>
      refine ⟨q.1, ?_⟩
      have q2 := q.2
      revert q2
      cases List.lookup f gs with
      | none => exact fun z => z
      | some x => exact k x
    | fz c gs =>
      refine ⟨q.1, ?_⟩
      have q2 := q.2
      revert q2
      cases List.lookup f gs with
      | none => exact fun z => z
      | some x => exact k x
    | _ => exact q) s.mono⟩
def sAug (i : Nat) (o : O2) (m : X1) : XS := fun E env => xVar i env fun d => m env fun e => o d e fun x => E.nx (env.set i (some x))
theorem sim_aug {i : Nat} {mo : Mo} {r : TIp} {o : O2} (fr : Free C i) (g : Γ[i]? = some mo) (l : live mo) (h : SimO2 C.CT r o) (s : Sim C Γ te A m) : SimS C Γl Γ (Γ.set i .o) (tAug i te r) (sAug i o m) :=
  ⟨fun σ H env Fs D E I lk hh => by
    obtain ⟨v, d, h1, h2, h3⟩ := I.val i mo g l
    have hi : i < Γ.length := (List.getElem?_eq_some_iff.mp g).1
    have hh : xVar i env _ := hh
    unfold xVar at hh
    rw [h2] at hh
    refine ⟨v, h1, s.run σ H env Fs _ I (s.mono env _ _ (fun e q w H1 G f dk r2 k2 => ?_) hh)⟩
    refine h.run H1 v w d e (Fs i) G _ (h3.keep f (I.nq i mo g l).wq) r2 (h.mono d e _ _ (fun x q z H2 P f2 r3 nd fr3 => ?_) q)
    have kd : KdOk C Γ Fs H .own P := ⟨NoQ.new dk fr3, nd, fun a ha => f.there a (fr3 a ha)⟩
    refine lk.nx _ H2 _ _ (I.setO (f.trans f2.wq) (dk.keep f2) fr hi r3 kd) ⟨(f.trans f2.wq).mono fun _ w => .inl w, fun j gj a ha => ?_⟩ q
    rcases get_set gj with ⟨rfl, _, _⟩ | ⟨ne, gj⟩
    · rw [setF_same] at ha; exact .inr (kd.2.2 a ha)
    · rw [setF_ne ne] at ha; exact .inl ⟨j, gj, ha⟩,
   fun E E' env p q => mono_var env _ _ (fun d q => s.mono env _ _ (fun e q => h.mono d e _ _ (fun x q => p.1 _ q) q) q) q⟩
theorem Ok.root (I : Ok C Γ σ H env Fs) {i : Nat} (g : Γ[i]? = some .o) {a : Addr} {o u : HO} {d' : D} {F' : List Addr} (hv : σ[i]? = some (some (.ref a))) (ha : H a = some o) (hi : Im o = false) (hm : a ∈ Fs i)
    (r : Rp C.CT (upd H a u) (.ref a) d' F') (nd : F'.Nodup) (sub : ∀ b ∈ F', b ∈ Fs i ∨ ∀ (j : Nat) (m : Mo), Γ[j]? = some m → live m → b ∉ Fs j) (nq : NoQ C F') :
    Ok C Γ σ (upd H a u) (env.set i (some d')) (setF Fs i F') := by
  have fr : Fr (fun b => b = a) H (upd H a u) := Fr.at rfl ha hi
  have hΓ : i < Γ.length := (List.getElem?_eq_some_iff.mp g).1
  refine ⟨by simp [I.le], I.ls, fun j m gj l => ?_, I.dice, fun j gj => ?_, fun j k m gj gk l ne b hb hb' => ?_, fun j m gj l => ?_, fun p e => ?_, I.pn⟩
  · by_cases e : j = i
    · subst e
      exact ⟨_, d', hv, by rw [List.getElem?_set_self (by rw [I.le]; exact hΓ)], by rw [setF_same]; exact r⟩
    · obtain ⟨v, d, h1, h2, h3⟩ := I.val j m gj l
      refine ⟨v, d, h1, by rw [List.getElem?_set_ne (Ne.symm e)]; exact h2, ?_⟩
      rw [setF_ne e]
      exact h3.keep fr fun b hb z => I.dj i j m g gj l (Ne.symm e) a hm (z ▸ hb)
  · by_cases e : j = i
    · subst e; rw [setF_same]; exact nd
    · rw [setF_ne e]; exact I.nd j gj
  · by_cases e : j = i
    · subst e
      rw [setF_same] at hb
      rw [setF_ne (Ne.symm ne)] at hb'
      rcases sub b hb with z | z
      · exact I.dj j k m g gk l ne b z hb'
      · exact z k m gk l hb'
    · rw [setF_ne e] at hb
      by_cases e2 : k = i
      · subst e2
        rw [setF_same] at hb'
        rcases sub b hb' with z | z
        · exact I.dj j k .o gj g (.inl rfl) ne b hb z
        · exact z j .o gj (.inl rfl) hb
      · rw [setF_ne e2] at hb'
        exact I.dj j k m gj gk l ne b hb hb'
  · by_cases e : j = i
    · subst e; rw [setF_same]; exact nq
    · rw [setF_ne e]; exact I.nq j m gj l
  · obtain ⟨o1, u1, h1, h2, r1⟩ := (I.dk p e).ex
    have nq := I.nq i _ g (.inl rfl) p e
    exact ⟨o1, u1, by rw [upd_ne (fun z => nq.1 (by rw [z]; exact hm))]; exact h1, by rw [upd_ne (fun z => nq.2 (by rw [z]; exact hm))]; exact h2, r1⟩
theorem Lk.root {D : Ends} {E : PEnds} (lk : Lk C Γ Fs H Γ Γl D E) (I : Ok C Γ σ H env Fs) (f : Fr (Wq C) H H1) (dk : DiceOk C H1) {i : Nat} (g : Γ[i]? = some .o) {a : Addr} {o u : HO} {d' : Pu.D} {F F' G : List Addr}
    (hv : σ[i]? = some (some (.ref a))) (ha : H1 a = some o) (hi : Im o = false) (e : Fs i = a :: F) (r : Rp C.CT (L2.upd H1 a u) (.ref a) d' (a :: F')) (nd : F'.Nodup) (na : a ∉ F') (sub : ∀ b ∈ F', b ∈ F ∨ H b = none)
    (q : E.nx (env.set i (some d'))) : D.nx σ (L2.upd H1 a u) := by
  have hm : a ∈ Fs i := by rw [e]; exact List.mem_cons_self
  have hs : ∀ b ∈ a :: F', b ∈ Fs i ∨ H b = none := fun b hb => by
    rcases List.mem_cons.mp hb with z | hb
    · rw [z]; exact .inl hm
    · rcases sub b hb with z | z
      · rw [e]; exact .inl (List.mem_cons_of_mem _ z)
      · exact .inr z
  have nq : NoQ C (a :: F') := fun p ep => by
    have h1 := I.nq i _ g (.inl rfl) p ep
    refine ⟨fun z => ?_, fun z => ?_⟩
    · rcases hs _ z with z | z
      · exact h1.1 z
      · exact (I.dk p ep).t1 z
    · rcases hs _ z with z | z
      · exact h1.2 z
      · exact (I.dk p ep).t2 z
  have I1 := I.step f dk
  refine lk.nx σ _ _ _ (I1.root g hv ha hi hm r (List.nodup_cons.mpr ⟨na, nd⟩) (fun b hb => ?_) nq) ⟨?_, fun j gj b hb => ?_⟩ q
  · rcases hs b hb with z | z
    · exact .inl z
    · exact .inr fun j m gj l hb => I.tracked gj l b hb z
  · exact (f.mono fun _ w => .inl w).trans (Fr.at (.inr ⟨i, g, hm⟩) ha hi)
  · by_cases ej : j = i
    · subst ej
      rw [setF_same] at hb
      rcases hs b hb with z | z
      · exact .inl ⟨j, g, z⟩
      · exact .inr z
    · rw [setF_ne ej] at hb; exact .inl ⟨j, gj, hb⟩
def onL (xs : D) (k : List D → Prop) : Prop := match xs with
  | .lst ds => k ds
  | _ => False
theorem onL_mono {d : D} {k k' : List D → Prop} (h : ∀ ds, k ds → k' ds) (q : onL d k) : onL d k' := by cases d <;> first | exact h _ q | exact q
theorem Rp.onL {k : List D → Prop} (r : Rp CT H v d F) (q : onL d k) : ∃ a vs ds F', v = .ref a ∧ d = .lst ds ∧ F = a :: F' ∧ H a = some (.lst vs) ∧ Rps CT H vs ds F' ∧ k ds := by
  cases r with
  | lst ha ra => exact ⟨_, _, _, _, rfl, rfl, rfl, ha, ra, q⟩
  | _ => exact (show False from q).elim
def sApp (i : Nat) (m : X1) : XS := fun E env => xVar i env fun d => onL d fun xs => m env fun e => xs.length < sizeLine ∧ E.nx (env.set i (some (.lst (xs ++ [e]))))
theorem sim_app {i : Nat} (g : Γ[i]? = some .o) (s : Sim C Γ te .own m) : SimS C Γl Γ Γ (tDrop (tBM K "list" rAppend (tVar i) (tCons te tNil))) (sApp i m) :=
  ⟨fun σ H env Fs D E I lk hh => by
    obtain ⟨v, d, h1, h2, h3⟩ := I.val i _ g (.inl rfl)
    have hh : xVar i env _ := hh
    unfold xVar at hh
    rw [h2] at hh
    obtain ⟨a, vs, ds, F, rfl, rfl, eF, ha, ra, hh⟩ := h3.onL hh
    refine ⟨_, h1, .inl ⟨rfl, _, SqL.of ha⟩, s.run σ H env Fs _ I (s.mono env _ _ (fun e q w H1 G f dk r2 k2 => ?_) hh)⟩
    have nqa := I.nq i _ g (.inl rfl)
    rw [eF] at nqa
    have nda := I.nd i g
    rw [eF] at nda
    have ha1 := f.keep _ _ ha (nqa.wq a List.mem_cons_self)
    have ra1 := ra.keep f fun b hb => nqa.wq b (List.mem_cons_of_mem _ hb)
    have nG : a ∉ G := fun z => by
      have := k2.2.2 a z
      rw [ha] at this; cases this
    have nF : a ∉ F := (List.nodup_cons.mp nda).1
    refine ⟨a, vs, w, rfl, rfl, ha1, by rw [ra.length]; exact q.1, lk.root I f dk g h1 ha1 rfl eF (F' := F ++ (G ++ [])) (G := G) (.lst upd_same ((ra1.upd ha1 rfl nF).append (.cons (r2.upd ha1 rfl nG) .nil))) ?_ ?_ (fun b hb => ?_) q.2⟩
    · rw [List.append_nil]
      refine List.nodup_append.mpr ⟨(List.nodup_cons.mp nda).2, k2.2.1, fun b hb c hc z => ?_⟩
      subst z
      exact ra.tracked b hb (k2.2.2 b hc)
    · rw [List.append_nil]
      exact fun z => (List.mem_append.mp z).elim nF nG
    · rw [List.append_nil] at hb
      exact (List.mem_append.mp hb).imp id fun hb => k2.2.2 b hb,
   fun E E' env p q => mono_var env _ _ (fun d q => onL_mono (fun ds q => s.mono env _ _ (fun e q => ⟨q.1, p.1 _ q.2⟩) q) q) q⟩
theorem Rps.set : ∀ {vs : List V} {ds : List D} {F : List Addr} (j : Nat), Rps CT H vs ds F → Rp CT H v d G → ∃ F', Rps CT H (vs.set j v) (ds.set j d) F' ∧ (∀ b ∈ F', b ∈ F ∨ b ∈ G) ∧ ((F ++ G).Nodup → F'.Nodup)
  | _, _, _, _, .nil, _ => ⟨[], .nil, (fun b h => nomatch h), fun _ => List.nodup_nil⟩
  | _, _, _, 0, .cons (F := F1) (G := F2) r rs, q => ⟨G ++ F2, .cons q rs, (fun b h => (List.mem_append.mp h).elim .inr fun h => .inl (List.mem_append_right _ h)), fun n => by
    rw [List.append_assoc] at n
    have n2 := (List.nodup_append.mp n).2.1
    exact (List.perm_append_comm.nodup_iff).mp n2⟩
  | _, _, _, j + 1, .cons (F := F1) (G := F2) r rs, q => by
    obtain ⟨F', h1, h2, h3⟩ := Rps.set j rs q
    refine ⟨F1 ++ F', .cons r h1, fun b h => ?_, fun n => ?_⟩
    · rcases List.mem_append.mp h with h | h
      · exact .inl (List.mem_append_left _ h)
      · exact (h2 b h).imp (List.mem_append_right _) id
    · rw [List.append_assoc] at n
      obtain ⟨n1, n2, n3⟩ := List.nodup_append.mp n
      refine List.nodup_append.mpr ⟨n1, h3 n2, fun x hx y hy e => n3 x hx y ?_ e⟩
      exact List.mem_append.mpr (h2 y hy)
def rSetU : V → V → V → Hp → (Hp → Prop) → Prop := fun o i v H Q => rSetL o i v H Q ∨ ∃ a H4, o = .ref a ∧ DPut H a i v H4 ∧ Q H4
theorem set_U {X : Cx} (hu : X.A.units + 1 < cLine) : PSet X rSetU := by
  intro pins s σ H o i v ov iv u Q I ro ri rv h
  rcases h with h | ⟨a, H4, rfl, g, q⟩
  · exact set_list pins s σ H o i v ov iv u Q I ro ri rv h
  · obtain rfl : ov = Value.ref a := ro
    exact d_setItem hu I g ri rv fun s4 I4 => ⟨H4, I4, q⟩
def putD {κ : Type} [DecidableEq κ] (kvs : List (κ × D)) (k : κ) (v : D) : List (κ × D) := if kvs.any fun kv => decide (kv.1 = k) then kvs.map fun kv => if kv.1 = k then (kv.1, v) else kv else kvs ++ [(k, v)]
def setD (d e x : D) (Q : D → Prop) : Prop := match d with
  | .lst xs => (match e with | .int i => (match ixN xs.length i with | some j => Q (.lst (xs.set j x)) | none => False) | _ => False)
  | .dK kvs => (match e.key? with | some k => kvs.length < sizeLine ∧ (kvs.map (·.1)).Nodup ∧ Q (.dK (putD kvs k x)) | none => False)
  | .dT kvs => (match e.tkey? with | some k => kvs.length < sizeLine ∧ (kvs.map (·.1)).Nodup ∧ Q (.dT (putD kvs k x)) | none => False)
  | _ => False
theorem putD_any {κ : Type} [DecidableEq κ] {k : κ} : ∀ {kvs : List (κ × V)} {kds : List (κ × D)}, kvs.map (·.1) = kds.map (·.1) → (kvs.any fun kv => decide (kv.1 = k)) = kds.any fun kv => decide (kv.1 = k)
  | [], [], _ => rfl
  | [], _ :: _, e => by simp at e
  | _ :: _, [], e => by simp at e
  | p :: kvs, q :: kds, e => by
    simp only [List.map_cons, List.cons.injEq] at e
    rw [List.any_cons, List.any_cons, e.1, putD_any e.2]
theorem put_map {κ : Type} [DecidableEq κ] {k : κ} (q : Rp CT H v d G) : ∀ {kvs : List (κ × V)} {kds : List (κ × D)} {F : List Addr}, (kds.map (·.1)).Nodup → kvs.map (·.1) = kds.map (·.1) → Rps CT H (kvs.map (·.2)) (kds.map (·.2)) F →
    ∃ F', Rps CT H ((kvs.map fun kv => if kv.1 = k then (kv.1, v) else kv).map (·.2)) ((kds.map fun kv => if kv.1 = k then (kv.1, d) else kv).map (·.2)) F' ∧ (∀ b ∈ F', b ∈ F ∨ b ∈ G) ∧ ((F ++ G).Nodup → F'.Nodup)
  | [], [], _, _, _, .nil => ⟨[], .nil, (fun b h => nomatch h), fun _ => List.nodup_nil⟩
  | [], _ :: _, _, _, e, _ => by simp at e
  | _ :: _, [], _, _, e, _ => by simp at e
  | p :: kvs, w :: kds, _, nd, e, .cons (F := F1) (G := F2) r rs => by
    simp only [List.map_cons, List.cons.injEq, List.nodup_cons] at e nd
    obtain ⟨e1, e2⟩ := e
    by_cases h : w.1 = k
    · have hno : ∀ x ∈ kds, ¬ x.1 = k := fun x hx z => nd.1 (by rw [h, ← z]; exact List.mem_map.mpr ⟨x, hx, rfl⟩)
      have hno' : ∀ x ∈ kvs, ¬ x.1 = k := fun x hx z => nd.1 (by rw [h, ← z, ← e2]; exact List.mem_map.mpr ⟨x, hx, rfl⟩)
      have m1 : (kds.map fun kv => if kv.1 = k then (kv.1, d) else kv) = kds := by
        conv => rhs; rw [← List.map_id kds]
        exact List.map_congr_left fun x hx => by rw [if_neg (hno x hx)] <;> rfl
      have m2 : (kvs.map fun kv => if kv.1 = k then (kv.1, v) else kv) = kvs := by
        conv => rhs; rw [← List.map_id kvs]
        exact List.map_congr_left fun x hx => by rw [if_neg (hno' x hx)] <;> rfl
      simp only [List.map_cons]
      rw [m1, m2, if_pos h, if_pos (e1.trans h)]
      exact ⟨G ++ F2, .cons q rs, (fun b h => (List.mem_append.mp h).elim .inr fun h => .inl (List.mem_append_right _ h)), fun n => by
        rw [List.append_assoc] at n
        exact (List.perm_append_comm.nodup_iff).mp (List.nodup_append.mp n).2.1⟩
    · obtain ⟨F', h1, h2, h3⟩ := put_map (k := k) q nd.2 e2 rs
      simp only [List.map_cons]
      rw [if_neg h, if_neg (fun z => h (e1.symm.trans z))]
      refine ⟨F1 ++ F', .cons r h1, fun b h => ?_, fun n => ?_⟩
      · rcases List.mem_append.mp h with h | h
        · exact .inl (List.mem_append_left _ h)
        · exact (h2 b h).imp (List.mem_append_right _) id
      · rw [List.append_assoc] at n
        obtain ⟨n1, n2, n3⟩ := List.nodup_append.mp n
        exact List.nodup_append.mpr ⟨n1, h3 n2, fun x hx y hy e => n3 x hx y (List.mem_append.mpr (h2 y hy)) e⟩
theorem keys_map {κ β : Type} [DecidableEq κ] {k : κ} {x : β} (l : List (κ × β)) : (l.map fun kv => if kv.1 = k then (kv.1, x) else kv).map (·.1) = l.map (·.1) := by
  rw [List.map_map]
  exact List.map_congr_left fun p _ => by show (if p.1 = k then (p.1, x) else p).1 = p.1; split <;> rfl
theorem put_rps {κ : Type} [DecidableEq κ] {k : κ} {kvs : List (κ × V)} {kds : List (κ × D)} (q : Rp CT H v d G) (nd : (kds.map (·.1)).Nodup) (e : kvs.map (·.1) = kds.map (·.1)) (r : Rps CT H (kvs.map (·.2)) (kds.map (·.2)) F) :
    ∃ F', (putK kvs k v).map (·.1) = (putD kds k d).map (·.1) ∧ Rps CT H ((putK kvs k v).map (·.2)) ((putD kds k d).map (·.2)) F' ∧ (∀ b ∈ F', b ∈ F ∨ b ∈ G) ∧ ((F ++ G).Nodup → F'.Nodup) := by
  unfold putK putD
  rw [putD_any e]
  split
  · obtain ⟨F', h1, h2, h3⟩ := put_map (k := k) q nd e r
    exact ⟨F', by rw [keys_map, keys_map]; exact e, h1, h2, h3⟩
  · refine ⟨F ++ (G ++ []), by rw [List.map_append, List.map_append, e] <;> rfl, ?_, fun b h => ?_, fun n => ?_⟩
    · rw [List.map_append, List.map_append]
      exact r.append (.cons q .nil)
    · rw [List.append_nil] at h; exact List.mem_append.mp h
    · rw [List.append_nil]; exact n
theorem mono_setD {d e x : D} {Q Q' : D → Prop} (h : ∀ y, Q y → Q' y) (q : setD d e x Q) : setD d e x Q' := by
  cases d with
  | lst xs =>
    cases e with
    | int i =>
      revert q
      unfold setD
      dsimp only
      cases ixN xs.length i with
      | none => exact fun z => z
      | some j => exact h _
    | _ => exact q
  | dK kvs =>
    revert q
    unfold setD
    dsimp only
    cases e.key? with
    | none => exact fun z => z
    | some k => exact fun q => ⟨q.1, q.2.1, h _ q.2.2⟩
  | dT kvs =>
    revert q
    unfold setD
    dsimp only
    cases e.tkey? with
    | none => exact fun z => z
    | some k => exact fun q => ⟨q.1, q.2.1, h _ q.2.2⟩
  | _ => exact q
theorem set_run {e x : D} {w y : V} {P : List Addr} {k : D → Prop} {Qh : Hp → Prop} (r : Rp CT H v d F) (re : Rp CT H w e P) (rx : Rp CT H y x G) (ndF : F.Nodup) (dj : ∀ b ∈ G, b ∉ F) (ndG : G.Nodup) (q : setD d e x k)
    (fin : ∀ (a : Addr) (o u : HO) (d' : D) (F0 F' : List Addr), v = .ref a → H a = some o → Im o = false → F = a :: F0 → Rp CT (L2.upd H a u) (.ref a) d' (a :: F') → F'.Nodup → a ∉ F' → (∀ b ∈ F', b ∈ F0 ∨ b ∈ G) → k d' → Qh (L2.upd H a u)) : rSetU v w y H Qh := by
  have app : ∀ {F0 : List Addr} {a : Addr}, F = a :: F0 → (F0 ++ G).Nodup ∧ a ∉ F0 ∧ a ∉ G := fun {F0 a} eF => by
    rw [eF] at ndF dj
    have n1 := List.nodup_cons.mp ndF
    exact ⟨List.nodup_append.mpr ⟨n1.2, ndG, fun b hb c hc z => dj c hc (List.mem_cons_of_mem _ (z ▸ hb))⟩, n1.1, fun z => dj a z List.mem_cons_self⟩
  cases r with
  | lst ha ra =>
    cases re with
    | int i =>
      unfold setD at q
      dsimp only at q
      split at q
      · rename_i j hj
        obtain ⟨n1, n2, n3⟩ := app rfl
        obtain ⟨F', h1, h2, h3⟩ := ra.set j rx
        have nF : _ ∉ F' := fun z => (h2 _ z).elim n2 n3
        exact .inl ⟨_, _, i, j, rfl, rfl, ha, by rw [ra.length]; exact hj, fin _ _ _ _ _ F' rfl ha rfl rfl (.lst upd_same (h1.upd ha rfl nF)) (h3 n1) nF h2 q⟩
      · exact q.elim
    | _ => exact (show False from q).elim
  | dK ha hk ra =>
    unfold setD at q
    dsimp only at q
    cases ek : e.key? with
    | none => rw [ek] at q; exact q.elim
    | some kk =>
      rw [ek] at q
      obtain ⟨l, nd, q⟩ := q
      obtain ⟨n1, n2, n3⟩ := app rfl
      obtain ⟨F', h0, h1, h2, h3⟩ := put_rps (k := kk) rx nd hk ra
      have nF : _ ∉ F' := fun z => (h2 _ z).elim n2 n3
      have le := congrArg List.length hk
      rw [List.length_map, List.length_map] at le
      exact .inr ⟨_, _, rfl, .inl ⟨_, kk, ha, re.key ek, by rw [le]; exact l, rfl⟩, fin _ _ _ _ _ F' rfl ha rfl rfl (.dK upd_same h0 (h1.upd ha rfl nF)) (h3 n1) nF h2 q⟩
  | dT ha hk ra =>
    unfold setD at q
    dsimp only at q
    cases ek : e.tkey? with
    | none => rw [ek] at q; exact q.elim
    | some kk =>
      rw [ek] at q
      obtain ⟨l, nd, q⟩ := q
      obtain ⟨n1, n2, n3⟩ := app rfl
      obtain ⟨F', h0, h1, h2, h3⟩ := put_rps (k := kk) rx nd hk ra
      have nF : _ ∉ F' := fun z => (h2 _ z).elim n2 n3
      obtain ⟨b, eb, hb⟩ := re.tkey ek
      have le := congrArg List.length hk
      rw [List.length_map, List.length_map] at le
      exact .inr ⟨_, _, rfl, .inr ⟨_, kk, b, ha, eb, hb, by rw [le]; exact l, rfl⟩, fin _ _ _ _ _ F' rfl ha rfl rfl (.dT upd_same h0 (h1.upd ha rfl nF)) (h3 n1) nF h2 q⟩
  | _ => exact (show False from q).elim
def sPut (i : Nat) (me mv : X1) : XS := fun E env => mv env fun x => xVar i env fun d => me env fun e => setD d e x fun d' => E.nx (env.set i (some d'))
theorem sim_put {i : Nat} {B : Kd} {mv : X1} (g : Γ[i]? = some .o) (sv : Sim C Γ te .own mv) (s : Sim C Γ tb B n) : SimS C Γl Γ Γ (tAsg te (gSub (tVar i) tb rSetU)) (sPut i n mv) :=
  ⟨fun σ H env Fs D E I lk hh => sv.run σ H env Fs _ I (sv.mono env _ _ (fun x q y H1 G f dk rx kx => by
    have I1 := I.step f dk
    obtain ⟨v, d, h1, h2, h3⟩ := I1.val i _ g (.inl rfl)
    have q : xVar i env _ := q
    unfold xVar at q
    rw [h2] at q
    refine ⟨v, h1, s.run σ H1 env Fs _ I1 (s.mono env _ _ (fun e q w H2 P f2 dk2 re ke => ?_) q)⟩
    have f12 := f.trans f2
    have I2 := I1.step f2 dk2
    obtain ⟨v', d', h1', h2', h3'⟩ := I2.val i _ g (.inl rfl)
    rw [h1] at h1'; cases h1'
    rw [h2] at h2'; cases h2'
    refine set_run h3' re (rx.keep f2 kx.1.wq) (I.nd i g) (fun b hb z => I.tracked g (.inl rfl) b z (kx.2.2 b hb)) kx.2.1 q fun a o u d' F0 F' ev ha hi eF r nd na sub q => ?_
    subst ev
    exact lk.root I f12 dk2 g (G := G) h1 ha hi eF r nd na (fun b hb => (sub b hb).imp id fun z => kx.2.2 b z) q) hh),
   fun E E' env p q => sv.mono env _ _ (fun x q => mono_var env _ _ (fun d q => s.mono env _ _ (fun e q => mono_setD (fun y q => p.1 _ q) q) q) q) q⟩
end
end Pu
set_option Elab.async false
set_option linter.all false
set_option maxRecDepth 100000
namespace Pu
open PySem PySem.Spec PyProof.Rows L2
section
variable {C : Cfg} {Γ Γ' Γn Γl Γo Γt Γe Γ1 Γ2 : List Mo} {σ σ' : L2.St} {H H' H1 H2 : Hp} {env env' : PEnv} {Fs Fs' Fs1 Fs2 : Nat → List Addr} {v : V} {vs : List V} {d : D} {ds : List D} {F G : List Addr} {ta tb tc te : TE} {A B : Kd} {m n mc : X1} {K : PySem.W.Frag} {CT : Nat → Addr} {S : Stat}
abbrev XI := List D → (List (Str × D) → Prop) → Prop
def SpI (S : Stat) (c : Nat) (mf : XI) : Sp := fun vs H Q _ => ∃ (C : Cfg) (ds : List D) (F : List Addr) (x dx : Addr) (ws : List V), C.toStat = S ∧ C.pin = [(0, .ref x)] ∧ vs = .ref x :: ws ∧ H x = some (.ins (S.CT c) dx []) ∧ Rps S.CT H ws ds F ∧ DiceOk C H ∧ NoQ C (x :: F) ∧ x ∉ F ∧
  mf ds (fun gs => ∀ H' G, Fr (fun a => Wq C a ∨ a = x) H H' → DiceOk C H' → Rp S.CT H' (.ref x) (.obj c gs) (x :: G) → (x :: G).Nodup → (∀ a ∈ G, H a = none) → Q .non H')
def mkO (c : Nat) (gs : List (Str × D)) : D := if Fz (gs.map (·.1)) = true then .fz c gs else .obj c gs
theorem mkO_rp {c : Nat} {gs : List (Str × D)} {x : Addr} (r : Rp CT H (.ref x) (.obj c gs) (x :: G)) (nd : (x :: G).Nodup) : ∃ G', Rp CT H (.ref x) (mkO c gs) G' ∧ G'.Nodup ∧ ∀ a ∈ G', a ∈ x :: G := by
  unfold mkO
  split
  · rename_i h
    cases r with
    | obj ha hk ra => exact ⟨G, .fz ha (by rw [hk]; exact h) hk ra, (List.nodup_cons.mp nd).2, fun a m => List.mem_cons_of_mem _ m⟩
  · exact ⟨_, r, nd, fun a m => m⟩
def xMake (c : Nat) (mf : XI) (r : XL) : X1 := fun env Q => r env fun ds => mf ds fun gs => Q (mkO c gs)
def MonoI (mf : XI) : Prop := ∀ ds Q Q', (∀ d, Q d → Q' d) → mf ds Q → mf ds Q'
theorem sim_make {c : Nat} {mf : XI} {t : TA} {r : XL} {Ad : Addr} (hC : C.toStat = S) (hA : S.CT c = Ad) (hm : MonoI mf) (s : SimL C Γ t A r) : Sim C Γ (tMake Ad (SpI S c mf) [] E0 t) .own (xMake c mf r) :=
  ⟨fun σ H env Fs Q I h => s.run σ H env Fs _ I (s.mono env _ _ (fun ds q vs H1 F f dk rr k x dx hx hd ne => by
    subst hC hA
    rw [List.append_nil]
    have hd2 : (upd H1 dx (.own x)) x = none := by rw [upd_ne (Ne.symm ne)]; exact hx
    have fn : Fr (Wq C) H1 (upd (upd H1 dx (.own x)) x (.ins (C.CT c) dx [])) := (Fr.new hd).trans (Fr.new hd2)
    have fn0 : Fr (fun _ => False) H1 (upd (upd H1 dx (.own x)) x (.ins (C.CT c) dx [])) := (Fr.new hd).trans (Fr.new hd2)
    have nx : x ∉ F := fun z => rr.tracked x z hx
    refine ⟨{ C with pin := [(0, .ref x)] }, ds, F, x, dx, vs, rfl, rfl, rfl, upd_same, rr.keep fn k.1.wq, dk.keep fn0, fun p e => ⟨fun z => ?_, fun z => ?_⟩, nx, hm ds _ _ (fun gs q H2 G f2 dk2 r2 nd fr => ?_) q⟩
    · rcases List.mem_cons.mp z with z | z
      · exact (dk p e).t1 (by rw [z]; exact hx)
      · exact (k.1 p e).1 z
    · rcases List.mem_cons.mp z with z | z
      · exact (dk p e).t2 (by rw [z]; exact hx)
      · exact (k.1 p e).2 z
    · have f02 : Fr (Wq C) H1 H2 := ⟨fun a o e n => f2.keep a o (fn.keep a o e n) (fun w => w.elim n fun z => by rw [z, hx] at e; cases e), fun a o e i => f2.im a o (fn.im a o e i) i, fun a e => fn.there a (f2.there a e)⟩
      have fr' : ∀ a ∈ x :: G, H1 a = none := fun a ha => by
        rcases List.mem_cons.mp ha with z | ha
        · rw [z]; exact hx
        · exact fn.there a (fr a ha)
      obtain ⟨G', r3, nd3, sub⟩ := mkO_rp r2 nd
      exact ⟨rfl, q (.ref x) H2 G' (f.trans f02) dk2 r3 ⟨NoQ.new dk (fun a ha => fr' a (sub a ha)), nd3, fun a ha => f.there a (fr' a (sub a ha))⟩⟩) h),
   fun env Q Q' k q => s.mono env _ _ (fun ds q => hm ds _ _ (fun gs q => k _ q) q) q⟩
def putFD (f : Str) (x : D) : List (Str × D) → List (Str × D)
  | [] => [(f, x)]
  | (g, y) :: r => if g = f then (g, x) :: r else (g, y) :: putFD f x r
theorem putF_rps {f : Str} (q : Rp CT H v d G) : ∀ {fs : List (Str × V)} {gs : List (Str × D)} {F : List Addr}, fs.map (·.1) = gs.map (·.1) → Rps CT H (fs.map (·.2)) (gs.map (·.2)) F →
    ∃ F', (putF f v fs).map (·.1) = (putFD f d gs).map (·.1) ∧ Rps CT H ((putF f v fs).map (·.2)) ((putFD f d gs).map (·.2)) F' ∧ (∀ b ∈ F', b ∈ F ∨ b ∈ G) ∧ ((F ++ G).Nodup → F'.Nodup)
  | [], [], _, _, .nil => ⟨G ++ [], rfl, .cons q .nil, (fun b h => by rw [List.append_nil] at h; exact .inr h), fun n => by rw [List.append_nil]; exact n⟩
  | [], _ :: _, _, e, _ => by simp at e
  | _ :: _, [], _, e, _ => by simp at e
  | (a, p) :: fs, (b, w) :: gs, _, e, .cons (F := F1) (G := F2) r rs => by
    simp only [List.map_cons, List.cons.injEq] at e
    obtain ⟨e1, e2⟩ := e
    have e1 : a = b := e1
    subst e1
    by_cases h : a = f
    · unfold putF putFD
      rw [if_pos h, if_pos h]
      refine ⟨G ++ F2, by simp [e2], .cons q rs, (fun b h => (List.mem_append.mp h).elim .inr fun h => .inl (List.mem_append_right _ h)), fun n => ?_⟩
      rw [List.append_assoc] at n
      exact (List.perm_append_comm.nodup_iff).mp (List.nodup_append.mp n).2.1
    · obtain ⟨F', h0, h1, h2, h3⟩ := putF_rps q e2 rs
      unfold putF putFD
      rw [if_neg h, if_neg h]
      refine ⟨F1 ++ F', by simp [h0], .cons r h1, fun b h => ?_, fun n => ?_⟩
      · rcases List.mem_append.mp h with h | h
        · exact .inl (List.mem_append_left _ h)
        · exact (h2 b h).imp (List.mem_append_right _) id
      · rw [List.append_assoc] at n
        obtain ⟨n1, n2, n3⟩ := List.nodup_append.mp n
        exact List.nodup_append.mpr ⟨n1, h3 n2, fun x hx y hy e => n3 x hx y (List.mem_append.mpr (h2 y hy)) e⟩
def onO (c0 : Nat) (d : D) (k : List (Str × D) → Prop) : Prop := match d with
  | .obj c gs => c = c0 ∧ gs.length < 1000 ∧ k gs
  | _ => False
theorem onO_mono {c0 : Nat} {k k' : List (Str × D) → Prop} (h : ∀ ds, k ds → k' ds) (q : onO c0 d k) : onO c0 d k' := by cases d <;> first | exact ⟨q.1, q.2.1, h _ q.2.2⟩ | exact q
def onM (c0 : Nat) (d : D) (k : List (Str × D) → Prop) : Prop := match d with
  | .obj c gs => c = c0 ∧ gs.length < 1000 ∧ Fz (gs.map (·.1)) = false ∧ k gs
  | _ => False
theorem onM_mono {c0 : Nat} {k k' : List (Str × D) → Prop} (h : ∀ ds, k ds → k' ds) (q : onM c0 d k) : onM c0 d k' := by cases d <;> first | exact ⟨q.1, q.2.1, q.2.2.1, h _ q.2.2.2⟩ | exact q
def sSetF (i c0 : Nat) (f : Str) (m : X1) : XS := fun E env => m env fun x => xVar i env fun d => onM c0 d fun gs => E.nx (env.set i (some (.obj c0 (putFD f x gs))))
theorem sim_sfld {i c0 : Nat} {f : Str} (g : Γ[i]? = some .o) (hc : Cls K (C.CT c0)) (hn : NoAttr K (C.CT c0) f) (s : Sim C Γ te .own m) : SimS C Γl Γ Γ (sFld K (tVar i) te f) (sSetF i c0 f m) :=
  ⟨fun σ H env Fs D E I lk hh => s.run σ H env Fs _ I (s.mono env _ _ (fun x q y H1 G f1 dk rx kx => by
    have I1 := I.step f1 dk
    obtain ⟨v, d, h1, h2, h3⟩ := I1.val i _ g (.inl rfl)
    have q : xVar i env _ := q
    unfold xVar at q
    rw [h2] at q
    have ndF := I.nd i g
    have dj : ∀ b ∈ G, b ∉ Fs i := fun b hb z => I.tracked g (.inl rfl) b z (kx.2.2 b hb)
    refine ⟨v, h1, ?_⟩
    generalize eF : Fs i = F at *
    cases h3 with
    | @obj a dx c fs gs F0 ha hk ra =>
      obtain ⟨rfl, lg, nz, q⟩ := q
      obtain ⟨F', h0, h4, h5, h6⟩ := putF_rps (f := f) rx hk ra
      have n1 := List.nodup_cons.mp ndF
      have na : a ∉ F' := fun z => (h5 a z).elim n1.1 fun w => dj a w List.mem_cons_self
      have le := congrArg List.length hk
      rw [List.length_map, List.length_map] at le
      have hz : Im (HO.ins (C.CT c) dx fs) = false := show Fz (fs.map (·.1)) = false by rw [hk]; exact nz
      refine ⟨a, _, dx, fs, rfl, ha, hc, hn, by rw [le]; exact lg, lk.root I f1 dk g (G := G) h1 ha hz eF (.obj upd_same h0 (h4.upd ha hz na)) (h6 (List.nodup_append.mpr ⟨n1.2, kx.2.1, fun b hb c hc z => dj c hc (List.mem_cons_of_mem _ (z ▸ hb))⟩)) na (fun b hb => (h5 b hb).imp id fun z => kx.2.2 b z) q⟩
    | _ => exact (show False from q).elim) hh),
   fun E E' env p q => s.mono env _ _ (fun x q => mono_var env _ _ (fun d q => onM_mono (fun gs q => p.1 _ q) q) q) q⟩
def fnI (N c : Nat) (body : XS) : XI := fun ds Q => body { nx := fun env => xVar 0 env fun d => onO c d Q, rt := fun _ => False } (env0 N (.obj c [] :: ds))
theorem monoI_fn {N c : Nat} {body : XS} (h : ∀ E E' env, PLe E E' → body E env → body E' env) : MonoI (fnI N c body) := fun ds Q Q' k q =>
  h { nx := fun env => xVar 0 env fun d => onO c d Q, rt := fun _ => False } _ _ ⟨fun env z => mono_var env _ _ (fun d q => onO_mono k q) z, fun _ z => z, fun _ z => z, fun _ z => z⟩ q
def GamI (N k : Nat) : List Mo := .o :: (List.replicate k .f ++ List.replicate (N - (k + 1)) .x)
theorem gamI_at {N k i : Nat} {mo : Mo} (h : (GamI N k)[i]? = some mo) : (i = 0 ∧ mo = .o) ∨ (∃ j, i = j + 1 ∧ j < k ∧ mo = .f) ∨ (i ≠ 0 ∧ mo = .x) := by
  cases i with
  | zero => simp [GamI] at h; exact .inl ⟨rfl, h.symm⟩
  | succ j =>
    simp only [GamI, List.getElem?_cons_succ] at h
    by_cases hj : j < k
    · rw [List.getElem?_append_left (by simpa using hj), List.getElem?_replicate, if_pos hj] at h
      cases h
      exact .inr (.inl ⟨j, rfl, hj, rfl⟩)
    · rw [List.getElem?_append_right (by simpa using hj), List.getElem?_replicate] at h
      split at h <;> cases h
      exact .inr (.inr ⟨by simp, rfl⟩)
theorem rps_at : ∀ {vs : List V} {ds : List D} {F : List Addr}, Rps CT H vs ds F → ∃ L : Nat → List Addr, ∀ i : Nat, i < ds.length → ∃ v d, vs[i]? = some v ∧ ds[i]? = some d ∧ Rp CT H v d (L i) ∧ (L i).Sublist F
  | _, _, _, .nil => ⟨fun _ => [], fun i h => by simp at h⟩
  | _, _, _, .cons (F := F) (G := G) r rs => by
    obtain ⟨L, h⟩ := rps_at rs
    refine ⟨fun i => if i = 0 then F else L (i - 1), fun i hi => ?_⟩
    cases i with
    | zero => exact ⟨_, _, rfl, rfl, by simpa using r, by simpa using List.sublist_append_left _ _⟩
    | succ i =>
      obtain ⟨v, d, h1, h2, h3, h4⟩ := h i (by simpa using hi)
      exact ⟨v, d, by simpa using h1, by simpa using h2, by simpa using h3, by simpa using h4.trans (List.sublist_append_right _ _)⟩
def fnI0 (n N c : Nat) (body : XS) : XI := fun ds Q => ds.length = n ∧ fnI N c body ds Q
theorem monoI_fn0 {n N c : Nat} {body : XS} (h : ∀ E E' env, PLe E E' → body E env → body E' env) : MonoI (fnI0 n N c body) := fun ds Q Q' k q => ⟨q.1, monoI_fn h ds Q Q' k q.2⟩
theorem init_body {N : List Str} {c n : Nat} {body : XS} {Γe : List Mo} {t : TS} {Q : VK} {E : XK} (hN : n + 1 ≤ N.length) (he : Γe[0]? = some .o) (hs : ∀ q v, SimS ⟨S, q, [(0, v)]⟩ [] (GamI N.length n) Γe t body)
    (hsp : SpI S c (fnI0 n N.length c body) vs H Q E) : t { nx := fun _ H' => Q .non H', rt := Q } (L2.start N vs) H := by
  · obtain ⟨C, ds, F, x, dx, ws, hC, hpn, e, hx, r, dk, nq, nx, ld, q⟩ := hsp
    subst hC e
    obtain ⟨L, hL⟩ := rps_at r
    have lw := r.length
    have I : Ok C (GamI N.length n) (L2.start N (.ref x :: ws)) H (env0 N.length (.obj c [] :: ds)) (fun i => if i = 0 then [x] else L (i - 1)) := by
      refine ⟨?_, ?_, fun i m g l => ?_, fun i g => ?_, fun i g => ?_, fun i j m g g' l ne a ha hb => ?_, fun i m g l => ?_, dk, fun p hp' => ?_⟩
      · unfold env0 GamI; simp [ld]
      · unfold L2.start GamI; simp [lw, ld]
      · rcases gamI_at g with ⟨rfl, _⟩ | ⟨j, rfl, hj, _⟩ | ⟨_, z⟩
        · exact ⟨.ref x, .obj c [], rfl, rfl, by simpa using Rp.obj (gs := []) hx rfl .nil⟩
        · obtain ⟨v, d, h1, h2, h3, h4⟩ := hL j (by omega)
          refine ⟨v, d, ?_, ?_, by simpa using h3⟩
          · unfold L2.start
            have hi := (List.getElem?_eq_some_iff.mp h1).1
            simp only [List.map_cons, List.cons_append, List.getElem?_cons_succ]
            rw [List.getElem?_append_left (by simpa using hi), List.getElem?_map, h1] <;> rfl
          · unfold env0
            have hi := (List.getElem?_eq_some_iff.mp h2).1
            simp only [List.map_cons, List.cons_append, List.getElem?_cons_succ]
            rw [List.getElem?_append_left (by simpa using hi), List.getElem?_map, h2] <;> rfl
        · rcases l with e | e <;> rw [z] at e <;> cases e
      · rcases gamI_at g with ⟨_, z⟩ | ⟨_, _, _, z⟩ | ⟨_, z⟩ <;> cases z
      · rcases gamI_at g with ⟨rfl, _⟩ | ⟨_, _, _, z⟩ | ⟨_, z⟩
        · simp
        · cases z
        · cases z
      · rcases gamI_at g with ⟨rfl, _⟩ | ⟨_, _, _, z⟩ | ⟨_, z⟩
        · rcases gamI_at g' with ⟨rfl, _⟩ | ⟨k, rfl, hk, _⟩ | ⟨_, z⟩
          · exact ne rfl
          · obtain ⟨v, d, h1, h2, h3, h4⟩ := hL k (by omega)
            simp at ha hb
            subst ha
            exact nx (h4.mem hb)
          · rcases l with e | e <;> rw [z] at e <;> cases e
        · cases z
        · cases z
      · rcases gamI_at g with ⟨rfl, _⟩ | ⟨j, rfl, hj, _⟩ | ⟨_, z⟩
        · simpa using nq.sub (by simpa using (List.singleton_sublist.mpr List.mem_cons_self : [x].Sublist (x :: F)))
        · obtain ⟨v, d, h1, h2, h3, h4⟩ := hL j (by omega)
          simpa using nq.sub (h4.trans (List.sublist_cons_self _ _))
        · rcases l with e | e <;> rw [z] at e <;> cases e
      · rw [hpn] at hp'
        rw [List.mem_singleton.mp hp']
        rfl
    have own0 : ∀ (i : Nat) (a : Addr), (GamI N.length n)[i]? = some .o → a ∈ (if i = 0 then [x] else L (i - 1)) → a = x := fun i a g ha => by
      rcases gamI_at g with ⟨rfl, _⟩ | ⟨_, _, _, z⟩ | ⟨_, z⟩
      · simpa using ha
      · cases z
      · cases z
    refine (show SimS C [] (GamI N.length n) Γe t body by obtain ⟨st, q0, pin⟩ := C; cases hpn; exact hs q0 _).run _ H _ _ _ { nx := fun env => xVar 0 env fun d => onO c d _, rt := fun _ => False } I ⟨fun σ' H' env' Fs' I' g q => ?_, fun _ _ _ _ _ _ q => q, fun _ _ _ _ _ _ q => q, fun _ _ _ _ _ _ _ _ _ _ q => q.elim⟩ q
    obtain ⟨v, d, h1, h2, h3⟩ := I'.val 0 _ he (.inl rfl)
    have hv : v = .ref x := by
      have := I'.pn (0, .ref x) (by rw [hpn]; simp)
      rw [h1] at this
      exact Option.some.inj (Option.some.inj this)
    subst hv
    have q : xVar 0 env' _ := q
    unfold xVar at q
    rw [h2] at q
    have nd := I'.nd 0 he
    have gr := g.gr 0 he
    generalize Fs' 0 = F2 at *
    cases h3 with
    | obj ha hk ra =>
      obtain ⟨rfl, _, q⟩ := q
      refine q H' _ (g.fr.mono fun a w => ?_) I'.dk (.obj ha hk ra) nd fun a ham => ?_
      · rcases w with w | ⟨i, gi, hm⟩
        · exact .inl w
        · exact .inr (own0 i a gi hm)
      · rcases gr a (List.mem_cons_of_mem _ ham) with ⟨j, gj, hm⟩ | z
        · have := own0 j a gj hm
          subst this
          exact absurd ham (List.nodup_cons.mp nd).1
        · exact z
    | _ => exact (show False from q).elim
end
end Pu
set_option Elab.async false
set_option linter.all false
set_option maxRecDepth 100000
namespace Pu
open PySem PySem.Spec PyProof.Rows L2
theorem rm1 {k : Nat} {A : Around} (hr : Room k A) : A.units + 1 < cLine := by have := hr.un; omega
theorem rm64 {k : Nat} {A : Around} (hr : Room k A) : A.units + 64 < cLine := by have := hr.un; omega
theorem rm65 {k : Nat} {A : Around} (hr : Room k A) : A.units + 65 < cLine := by have := hr.un; omega
class MX {α : Type} (m : PEnv → (α → Prop) → Prop) : Prop where
  mono : Mono m
class MO1 (o : O1) : Prop where
  mono : Mono1 o
class MO2 (o : O2) : Prop where
  mono : Mono2 o
class MG {β : Type} (b : β → PEnv → (PEnv → Prop) → Prop) : Prop where
  mono : ∀ d env Q Q', (∀ e, Q e → Q' e) → b d env Q → b d env Q'
class MS (m : XS) : Prop where
  mono : ∀ {E E' : PEnds} {env : PEnv}, PLe E E' → m E env → m E' env
class MF (mf : XF) : Prop where
  mono : MonoF mf
class MI (mf : XI) : Prop where
  mono : MonoI mf
theorem MS.all {m : XS} [h : MS m] : ∀ E E' env, PLe E E' → m E env → m E' env := fun _ _ _ p q => h.mono p q
section
variable {m n : X1} {a b : XB} {r : XL} {o o' : O2} {p : O1} {s t : XS} {g : XG} {gs : XGs}
instance {i : Nat} : MX (xVar i) := ⟨mono_var⟩
instance {d : D} : MX (xC d) := ⟨mono_c⟩
instance [h : MX m] : MX (xImm m) := ⟨fun env _ _ k q => h.mono env _ _ (fun _ ⟨e, q⟩ => ⟨e, k _ q⟩) q⟩
instance : MX xNil := ⟨mono_nil⟩
instance [h : MX m] [h' : MX r] : MX (xCons m r) := ⟨mono_cons h.mono h'.mono⟩
instance [h : MX r] : MX (xDice r) := ⟨fun env _ _ k q => h.mono env _ _ (fun _ q => k _ q) q⟩
instance [h : MX r] : MX (xTup r) := ⟨fun env _ _ k q => h.mono env _ _ (fun _ q => ⟨q.1, k _ q.2⟩) q⟩
instance [h : MX r] : MX (xLst r) := ⟨fun env _ _ k q => h.mono env _ _ (fun _ q => ⟨q.1, k _ q.2⟩) q⟩
instance [h : MO1 p] [h' : MX m] : MX (x1 p m) := ⟨mono_x1 h.mono h'.mono⟩
instance [h : MO2 o] [h' : MX m] [h'' : MX n] : MX (x2 o m n) := ⟨mono_x2 h.mono h'.mono h''.mono⟩
instance {mf : XF} [h : MF mf] [h' : MX r] : MX (xCall mf r) := ⟨fun env _ _ k q => h'.mono env _ _ (fun ds q => h.mono ds _ _ k q) q⟩
instance {c : Nat} {mf : XI} [h : MI mf] [h' : MX r] : MX (xMake c mf r) := ⟨fun env _ _ k q => h'.mono env _ _ (fun ds q => h.mono ds _ _ (fun _ q => k _ q) q) q⟩
instance [h : MX m] : MX (bTest m) := ⟨mono_bTest h.mono⟩
instance [h : MX a] [h' : MX b] : MX (bAnd a b) := ⟨fun env _ _ k q => h.mono env _ _ (fun c q => by
    cases c with
    | true => exact h'.mono env _ _ k q
    | false => exact k _ q) q⟩
instance [h : MX a] [h' : MX b] : MX (bOr a b) := ⟨fun env _ _ k q => h.mono env _ _ (fun c q => by
    cases c with
    | false => exact h'.mono env _ _ k q
    | true => exact k _ q) q⟩
instance [h : MX a] : MX (bNot a) := ⟨fun env _ _ k q => h.mono env _ _ (fun c q => k _ q) q⟩
instance : MX bYes := ⟨fun _ _ _ k q => k _ q⟩
instance [h : MX m] [h' : MX n] : MX (xAnd m n) := ⟨fun env _ _ k q => h.mono env _ _ (fun d q => by
    cases d <;> first | exact q | skip
    rename_i c
    cases c with
    | true => exact h'.mono env _ _ k q
    | false => exact k _ q) q⟩
instance [h : MX m] [h' : MX n] : MX (xOr m n) := ⟨fun env _ _ k q => h.mono env _ _ (fun d q => by
    cases d <;> first | exact q | skip
    rename_i c
    cases c with
    | false => exact h'.mono env _ _ k q
    | true => exact k _ q) q⟩
instance [h : MX m] : MX (xNot m) := ⟨fun env _ _ k q => h.mono env _ _ (fun d q => by cases d <;> first | exact q | exact k _ q) q⟩
instance [h : MX a] [h' : MX m] [h'' : MX n] : MX (xIf a m n) := ⟨fun env _ _ k q => h.mono env _ _ (fun c q => by
    cases c with
    | true => exact h'.mono env _ _ k q
    | false => exact h''.mono env _ _ k q) q⟩
instance {c : X1} [h : MO2 o] [h0 : MO2 o'] [h1 : MX m] [h2 : MX n] [h3 : MX c] : MX (xChain o o' m n c) := ⟨fun env _ _ k q => h1.mono env _ _ (fun x q => h2.mono env _ _ (fun y q => h.mono x y _ _ (fun z q => by
    cases z <;> first | exact q | skip
    rename_i c
    cases c with
    | true => exact h3.mono env _ _ (fun w q => h0.mono y w _ _ k q) q
    | false => exact k _ q) q) q) q⟩
instance : MX pNo := ⟨fun _ _ _ k q => k _ q⟩
instance [h : MX m] : MX (pYes m) := ⟨fun env _ _ k q => h.mono env _ _ (fun d q => by cases d <;> first | exact k _ q | exact q) q⟩
instance {l u : PEnv → (Option Int → Prop) → Prop} [h : MX m] [h1 : MX l] [h2 : MX u] : MX (xSl m l u) := ⟨fun env _ _ k q => h.mono env _ _ (fun d q => h1.mono env _ _ (fun lo q => h2.mono env _ _ (fun hi q => by cases d <;> first | exact ⟨q.1, k _ q.2⟩ | exact q) q) q) q⟩
instance [h : MX m] : MX (xLRg1 m) := ⟨fun env _ _ k q => h.mono env _ _ (fun d q => by cases d <;> first | exact ⟨q.1, k _ q.2⟩ | exact q) q⟩
instance {mi : XL} {mt : XB} {me : X1} [h : MX mi] [h1 : MG g] [h2 : MX mt] [h3 : MX me] : MX (xLc mi g mt me) := ⟨fun env _ _ k q => h.mono env _ _ (fun ds q => mono_lcLoop h1.mono h2.mono h3.mono ds [] _ _ (fun _ q => k _ q) q) q⟩
instance [h : MX m] : MX (mSeq m) := ⟨fun env _ _ k q => h.mono env _ _ (fun d q => by cases d <;> first | exact k _ q | exact q) q⟩
instance [h : MX m] : MX (mRng1 m) := ⟨fun env _ _ k q => h.mono env _ _ (fun d q => by cases d <;> first | exact ⟨q.1, k _ q.2⟩ | exact q) q⟩
instance [h : MX m] [h' : MX n] : MX (mRng2 m n) := ⟨fun env _ _ k q => h.mono env _ _ (fun d q => h'.mono env _ _ (fun e q => by cases d <;> cases e <;> first | exact ⟨q.1, q.2.1, k _ q.2.2⟩ | exact q) q) q⟩
instance {i : Nat} : MG (bName i) := ⟨fun _ _ _ _ k q => k _ q⟩
instance : MG bNil := ⟨fun d _ _ _ k q => by cases d <;> first | exact k _ q | exact q⟩
instance [h : MG g] [h' : MG gs] : MG (bCons g gs) := ⟨fun d _ _ _ k q => by
  cases d with
  | nil => exact q
  | cons d ds => exact h.mono _ _ _ _ (fun e q => h'.mono _ _ _ _ k q) q⟩
instance {n : Nat} [h : MG gs] : MG (bTup n gs) := ⟨fun d _ _ _ k q => by cases d <;> first | exact ⟨q.1, h.mono _ _ _ _ k q.2⟩ | exact q⟩
instance : MO2 oAdd := ⟨mono_oAdd⟩
instance {f : Int → Int → D} : MO2 (oI f) := ⟨mono_oI⟩
instance {c : Int → Int → Prop} {f : Int → Int → D} : MO2 (oIc c f) := ⟨mono_oIc⟩
instance : MO2 oEq := ⟨fun _ _ _ _ k q => ⟨q.1, q.2.1, k _ q.2.2⟩⟩
instance : MO2 oNe := ⟨fun _ _ _ _ k q => ⟨q.1, q.2.1, k _ q.2.2⟩⟩
instance : MO2 oIsN := ⟨fun _ _ _ _ k q => ⟨q.1, k _ q.2⟩⟩
instance : MO2 oNotN := ⟨fun _ _ _ _ k q => ⟨q.1, k _ q.2⟩⟩
instance {b : Bool} : MO2 (oIsB b) := ⟨fun d e _ _ k q => by cases d <;> cases e <;> first | exact k _ q | exact q⟩
instance : MO2 oIx := ⟨mono_oIx⟩
instance {b : Bool} : MO2 (oIn b) := ⟨mono_oIn⟩
instance : MO1 oNeg := ⟨(so_neg (CT := fun _ => 0)).mono⟩
instance : MO1 oLen := ⟨(sc_len (CT := fun _ => 0) (K := default)).mono⟩
end
end Pu
set_option Elab.async false
set_option linter.all false
set_option maxRecDepth 100000
namespace Pu
open PySem PySem.Spec PyProof.Rows L2
section
variable {C : Cfg} {Γ Γ' Γn Γl Γo Γt Γe Γ1 Γ2 : List Mo} {σ σ' : L2.St} {H H' H1 H2 : Hp} {env env' : PEnv} {Fs Fs' Fs1 Fs2 : Nat → List Addr} {v : V} {vs : List V} {d : D} {ds : List D} {F G : List Addr} {ta tb tc te : TE} {A B : Kd} {m n mc : X1} {K : PySem.W.Frag} {CT : Nat → Addr} {S : Stat}
def sAsgG (b : XG) (m : X1) : XS := fun E env => m env fun d => b d env E.nx
theorem init_ok0 {P : Program} {w : World} {mg : Str → Option Value} {base : Heap} {x qual : Str} {st : Stmt} {f : Addr} {fd : FuncData} {N ps : List Str} {k c n : Nat} {body : XS} {Γe : List Mo}
    (Fn : L2.Fun K x qual st f fd) (Sc : FnScope N ps (defScope st)) (hp : n + 1 = ps.length) (hN : n + 1 ≤ N.length) (he : Γe[0]? = some .o)
    (hbody : ∀ (cdv : Value) (A : Around) (outer : List Env) (s : Shared) (H : Hp) (E : XK), Room k (A.deeper (envOfC qual (defScope st) s.heap.objs.size f cdv)) →
      ∃ t, PSs (cxOf CX0 P w K mg base N qual (defScope st) f cdv A outer s H E).nox (defBody st) t ∧ ∀ q v, SimS ⟨S, q, [(0, v)]⟩ [] (GamI N.length n) Γe t body) :
    FnOk P w K mg base CX0 (k + 1) f fd ps (SpI S c (fnI0 n N.length c body)) := by
  refine Fn.ok Sc (fun vs H Q E ⟨C, ds, F, x, dx, ws, _, _, e, _, r, _, _, _, q⟩ => ?_) (fun cdv A outer s H vs Q E hr hsp => ?_)
  · rw [e, List.length_cons, r.length, q.1, hp]
  · obtain ⟨t, ht, hs⟩ := hbody cdv A outer s H E hr
    exact ⟨t, ht, init_body hN he hs hsp⟩
def ipAddU : TIp := fun x y H Q => (∃ i j, x = .int i ∧ y = .int j ∧ Q (.int (i + j)) H) ∨ ∃ i j, x = .str i ∧ y = .str j ∧ i.length + j.length ≤ sizeLine ∧ Q (.str (i ++ j)) H
theorem ip_addU {X : Cx} : PIp X .Add ipAddU := by
  intro pins s σ H x y v u Q I rx ry h
  rcases h with h | h
  · exact iop_add pins s σ H x y v u Q I rx ry h
  · exact iop_add_str pins s σ H x y v u Q I rx ry h
def oAdd1 : O2 := fun d e Q => match d, e with
  | .int i, .int j => Q (.int (i + j))
  | .str x, .str y => x.length + y.length ≤ sizeLine ∧ Q (.str (x ++ y))
  | _, _ => False
theorem so_add1 : SimO2 CT ipAddU oAdd1 := ⟨fun H v w d e F G Q a b q => by
  cases a with
  | int i => cases b <;> first | exact .inl ⟨_, _, rfl, rfl, New.imm q (.int _)⟩ | exact (show False from q).elim
  | str x => cases b <;> first | exact .inr ⟨_, _, rfl, rfl, q.1, New.imm q.2 (.str _)⟩ | exact (show False from q).elim
  | _ => exact (show False from q).elim, fun d e Q Q' k q => by cases d <;> cases e <;> first | exact k _ q | exact ⟨q.1, k _ q.2⟩ | exact q⟩
def rGetU (K : PySem.W.Frag) : R2 := fun x y H Q => rIxL K x y H Q ∨ ∃ a v, x = .ref a ∧ DGet H a y (some v) ∧ Q v H
def oGet : O2 := fun d e Q => match d with
  | .lst _ => oIx d e Q
  | .dK _ => oIx d e Q
  | .dT _ => oIx d e Q
  | _ => False
theorem so_get : SimPart CT (rGetU K) oGet := ⟨fun H v w d e F G Q a b q => by
  cases a with
  | lst ha ra =>
    cases b with
    | int i =>
      obtain ⟨v', d', P, h1, h2, h3, h4⟩ := ra.atI q
      exact .inl ⟨_, _, _, _, rfl, rfl, SqL.of ha, h1, h2 v' P h3 (h4.trans (List.sublist_cons_self _ _))⟩
    | _ => exact (show False from q).elim
  | dK ha hk ra =>
    have q : oIx (.dK _) e _ := q
    unfold oIx at q
    dsimp only at q
    cases ek : e.key? with
    | none => rw [ek] at q; exact q.elim
    | some k =>
      rw [ek] at q
      rcases look_val k hk ra with ⟨g1, _⟩ | ⟨x, v, P, g1, g2, g3, g4⟩
      · simp only [g1] at q
      · simp only [g1] at q
        exact .inr ⟨_, v, rfl, .inl ⟨_, k, .inl ha, b.key ek, g2.symm⟩, q v P g3 (g4.trans (List.sublist_cons_self _ _))⟩
  | dT ha hk ra =>
    have q : oIx (.dT _) e _ := q
    unfold oIx at q
    dsimp only at q
    cases ek : e.tkey? with
    | none => rw [ek] at q; exact q.elim
    | some k =>
      rw [ek] at q
      obtain ⟨b', eb, hb⟩ := b.tkey ek
      rcases look_val k hk ra with ⟨g1, _⟩ | ⟨x, v, P, g1, g2, g3, g4⟩
      · simp only [g1] at q
      · simp only [g1] at q
        exact .inr ⟨_, v, rfl, .inr ⟨_, k, b', .inl ha, eb, hb, g2.symm⟩, q v P g3 (g4.trans (List.sublist_cons_self _ _))⟩
  | _ => exact (show False from q).elim, fun d e Q Q' k q => by
  cases d with
  | lst xs => exact mono_oIx (.lst xs) e Q Q' k q
  | dK xs => exact mono_oIx (.dK xs) e Q Q' k q
  | dT xs => exact mono_oIx (.dT xs) e Q Q' k q
  | _ => exact q⟩
def sAugS (i : Nat) (me mv : X1) : XS := fun E env => xVar i env fun d => me env fun e => oGet d e fun old => mv env fun w => oAdd1 old w fun z => setD d e z fun d' => E.nx (env.set i (some d'))
end
end Pu
set_option Elab.async false
set_option linter.all false
set_option maxRecDepth 100000
namespace Pu
open PySem PySem.Spec PyProof.Rows L2
section
variable {m n : X1} {a b : XB} {r : XL} {o o' : O2} {p : O1} {s t : XS} {g : XG} {gs : XGs}
instance : MO1 oList := ⟨(sc_list (CT := fun _ => 0) (K := default)).mono⟩
instance : MO1 oTup := ⟨(sc_tup (CT := fun _ => 0) (K := default)).mono⟩
instance : MO1 oSum := ⟨(sc_sum (CT := fun _ => 0) (K := default)).mono⟩
instance {x : Bool} : MO1 (oAny x) := ⟨mono_oAny⟩
instance {x : Bool} : MO1 (oMost x) := ⟨mono_oMost⟩
instance : MO1 oSortI := ⟨(sc_sortI (CT := fun _ => 0) (K := default)).mono⟩
instance : MO1 oAbs := ⟨(sc_abs (CT := fun _ => 0)).mono⟩
instance : MO1 oInt := ⟨(sc_int (CT := fun _ => 0)).mono⟩
instance {c : Nat} {f : Str} : MO1 (atF c f) := ⟨fun d Q Q' k q => by
    cases d with
    | obj c gs =>
      refine ⟨q.1, ?_⟩
      have q2 := q.2
      revert q2
      cases List.lookup f gs with
      | none => exact fun z => z
      | some x => exact k x
    | fz c gs =>
      refine ⟨q.1, ?_⟩
      have q2 := q.2
      revert q2
      cases List.lookup f gs with
      | none => exact fun z => z
      | some x => exact k x
    | _ => exact q⟩
instance : MO2 oAdd1 := ⟨(so_add1 (CT := fun _ => 0)).mono⟩
instance : MO2 oGet := ⟨(so_get (CT := fun _ => 0) (K := default)).mono⟩
instance : MS sNext := ⟨fun p q => p.1 _ q⟩
instance [h : MS s] [h' : MS t] : MS (sSeq s t) := ⟨fun {E E' env} p q => h.mono (E := { E with nx := t E }) (E' := { E' with nx := t E' }) ⟨fun _ q => h'.mono p q, p.2.1, p.2.2.1, p.2.2.2⟩ q⟩
instance {i : Nat} [h : MX m] : MS (sSet i m) := ⟨fun p q => h.mono _ _ _ (fun _ q => p.1 _ q) q⟩
instance [h : MX a] [h1 : MS s] [h2 : MS t] : MS (sIf a s t) := ⟨fun p q => h.mono _ _ _ (fun k q => by
    cases k with
    | true => exact h1.mono p q
    | false => exact h2.mono p q) q⟩
instance [h : MX m] : MS (sRet m) := ⟨fun p q => h.mono _ _ _ p.2.1 q⟩
instance [h : MX m] : MS (sDrop m) := ⟨fun p q => h.mono _ _ _ (fun _ q => p.1 _ q) q⟩
instance : MS sNever := ⟨fun _ q => q⟩
instance : MS sBreak := ⟨fun p q => p.2.2.1 _ q⟩
instance : MS sCont := ⟨fun p q => p.2.2.2 _ q⟩
instance {mi : XL} [h : MX mi] [h1 : MG g] [h2 : MS s] : MS (sFor mi g s) := ⟨fun {E E' env} p q => h.mono _ _ _ (fun ds q => mono_sLoop h1.mono (MS.all (m := s)) ds E E' env p q) q⟩
instance [h : MX a] [h2 : MS s] : MS (sWhile a s) := ⟨fun {E E' env} p q => by
    obtain ⟨W, w0, hs⟩ := q
    refine ⟨W, w0, fun n env w => h.mono _ _ _ (fun k q => ?_) (hs n env w)⟩
    cases k with
    | true =>
      rw [if_pos rfl] at q ⊢
      exact h2.mono (E := { nx := fun env' => ∃ n', n' < n ∧ W n' env', rt := E.rt, bk := E.nx, ct := fun env' => ∃ n', n' < n ∧ W n' env' }) ⟨fun _ z => z, p.2.1, p.1, fun _ z => z⟩ q
    | false =>
      rw [if_neg Bool.false_ne_true] at q ⊢
      exact p.1 _ q⟩
instance {i : Nat} [h : MO2 o] [h' : MX m] : MS (sAug i o m) := ⟨fun p q => mono_var _ _ _ (fun d q => h'.mono _ _ _ (fun e q => h.mono d e _ _ (fun x q => p.1 _ q) q) q) q⟩
instance {i : Nat} [h' : MX m] : MS (sApp i m) := ⟨fun p q => mono_var _ _ _ (fun d q => onL_mono (fun ds q => h'.mono _ _ _ (fun e q => ⟨q.1, p.1 _ q.2⟩) q) q) q⟩
instance {i : Nat} [h : MX m] [h' : MX n] : MS (sPut i m n) := ⟨fun p q => h'.mono _ _ _ (fun x q => mono_var _ _ _ (fun d q => h.mono _ _ _ (fun e q => mono_setD (fun y q => p.1 _ q) q) q) q) q⟩
instance {i c : Nat} {f : Str} [h : MX m] : MS (sSetF i c f m) := ⟨fun p q => h.mono _ _ _ (fun x q => mono_var _ _ _ (fun d q => onM_mono (fun gs q => p.1 _ q) q) q) q⟩
instance [h : MX m] [h' : MG g] : MS (sAsgG g m) := ⟨fun p q => h.mono _ _ _ (fun d q => h'.mono _ _ _ _ p.1 q) q⟩
instance {i : Nat} [h : MX m] [h' : MX n] : MS (sAugS i m n) := ⟨fun p q => mono_var _ _ _ (fun d q => h.mono _ _ _ (fun e q => MO2.mono (o := oGet) d e _ _ (fun old q => h'.mono _ _ _ (fun w q => MO2.mono (o := oAdd1) old w _ _ (fun z q => mono_setD (fun y q => p.1 _ q) q) q) q) q) q) q⟩
end
end Pu
set_option Elab.async false
set_option linter.all false
set_option maxRecDepth 100000
namespace Pu
open PySem PySem.Spec PyProof.Rows L2
section
variable {X : Cx} {K : PySem.W.Frag}
theorem k_add (h : X.K = K) : OpR X (binaryOp .Add) (rAddU K) := h ▸ op_addU
theorem k_eq (h : X.K = K) (hu : X.A.units + 64 < cLine) : OpR X (compareOp .Eq) (rEqD K) := h ▸ op_eqD hu
theorem k_ne (h : X.K = K) (hu : X.A.units + 64 < cLine) : OpR X (compareOp .NotEq) (rNeD K) := h ▸ op_neD hu
theorem k_in (h : X.K = K) (hu : X.A.units + 65 < cLine) : OpR X (compareOp .In) (rInU K) := h ▸ op_inU hu
theorem k_ix (h : X.K = K) (hu : X.A.units + 1 < cLine) : IxR X (rIxU K) := h ▸ ix_U hu
theorem k_sl (h : X.K = K) : SlR X (rSlU K) := h ▸ sl_U
theorem k_seq {tg l : Expr} {tl : TE} (h : X.K = K) (hl : PE X l tl) : PI X tg l (iSeq K tl) := h ▸ pi_seq hl
theorem k_fld {e : Expr} {f : Str} {pos : Pos} {ta : TE} (h : X.K = K) (he : PE X e ta) (hb : attributeBase e f X.env (eval e X.env) = eval e X.env) : PE X (.Attribute e f pos) (tFld K ta f) := h ▸ pe_fld he hb
theorem k_len (h : X.K = K) : CallR X (.builtin "len") (rLen K) := h ▸ call_len_seq
theorem k_tuple (h : X.K = K) : CallR X (.type "tuple") (rTupO K) := h ▸ call_tuple_of
theorem k_any (h : X.K = K) (hc : X.calm = true) : CallR X (.builtin "any") (rAny K) := h ▸ cr_any hc
theorem k_all (h : X.K = K) (hc : X.calm = true) : CallR X (.builtin "all") (rAll K) := h ▸ cr_all hc
theorem k_max (h : X.K = K) (hc : X.calm = true) : CallR X (.builtin "max") (rMax K) := h ▸ cr_max hc
end
end Pu
set_option Elab.async false
set_option linter.all false
set_option maxRecDepth 100000
namespace Pu
open PySem PySem.Spec PyProof.Rows L2
section
variable {C : Cfg} {Γ Γ' Γn Γl Γo Γt Γe Γ1 Γ2 : List Mo} {σ σ' : L2.St} {H H' H1 H2 : Hp} {env env' : PEnv} {Fs Fs' Fs1 Fs2 : Nat → List Addr} {v : V} {vs : List V} {d : D} {ds : List D} {F G : List Addr} {ta tb tc te : TE} {A B : Kd} {m n mc : X1} {K : PySem.W.Frag} {CT : Nat → Addr} {S : Stat} {X : Cx}
def D.ty : D → Option String
  | .non => some "NoneType"
  | .bl _ => some "bool"
  | .int _ => some "int"
  | .str _ => some "str"
  | .tup _ => some "tuple"
  | .lst _ => some "list"
  | .dK _ => some "dict"
  | .dT _ => some "dict"
  | .obj _ _ => none
  | .fz _ _ => none
  | .dN _ => none
def subB (t c : String) : Bool := t == c || (t == "bool" && c == "int")
def oIsA (c : String) : O1 := fun d Q => match d.ty with
  | some t => Q (.bl (subB t c))
  | none => False
class KitB (c : String) : Prop where
  h : ∀ (K : PySem.W.Frag) (d : D) (t : String), d.ty = some t → PySem.W.kitOne K (.type t) (.type c) = some (subB t c)
instance : KitB "int" := ⟨fun K d t h => by cases d <;> simp [D.ty] at h <;> subst h <;> rfl⟩
instance : KitB "bool" := ⟨fun K d t h => by cases d <;> simp [D.ty] at h <;> subst h <;> rfl⟩
instance : KitB "str" := ⟨fun K d t h => by cases d <;> simp [D.ty] at h <;> subst h <;> rfl⟩
instance : KitB "tuple" := ⟨fun K d t h => by cases d <;> simp [D.ty] at h <;> subst h <;> rfl⟩
instance : KitB "list" := ⟨fun K d t h => by cases d <;> simp [D.ty] at h <;> subst h <;> rfl⟩
instance : KitB "dict" := ⟨fun K d t h => by cases d <;> simp [D.ty] at h <;> subst h <;> rfl⟩
theorem Rp.ty {t : String} (r : Rp CT H v d F) (h : d.ty = some t) : TyX K H v (.type t) := by
  cases r <;> simp [D.ty] at h <;> subst h
  · exact .base .non
  · exact .base (.bl _)
  · exact .base (.int _)
  · exact .base (.str _)
  · exact .base (.tup (by assumption))
  · exact .base (.lst (by assumption))
  · exact .base (.dK (by assumption))
  · exact .base (.dT (by assumption))
theorem k_isa (h : X.K = K) : CallR X (.builtin "isinstance") (rIsi K) := h ▸ call_isi
theorem mono_oIsA {c : String} : Mono1 (oIsA c) := fun d Q Q' k q => by cases d <;> first | exact k _ q | exact q
theorem sim_isa {c : String} [kc : KitB c] (s : Sim C Γ te A m) : Sim C Γ (tCB (rIsi K) (tCons te (tCons (tC (.ty c)) tNil))) .own (x1 (oIsA c) m) :=
  ⟨fun σ H env Fs Q I h => s.run σ H env Fs _ I (s.mono env _ _ (fun d q v H1 F f dk r k => by
    cases e : d.ty with
    | none => unfold oIsA at q; rw [e] at q; exact q.elim
    | some t =>
      unfold oIsA at q; rw [e] at q
      exact ⟨v, .ty c, .type t, .type c, subB t c, rfl, .ty c, r.ty e, kc.h K d t e, q _ H1 [] f dk (.bl _) KdOk.own_nil⟩) h), mono_x1 mono_oIsA s.mono⟩
instance {c : String} : MO1 (oIsA c) := ⟨mono_oIsA⟩
end
end Pu
set_option Elab.async false
set_option linter.all false
set_option maxRecDepth 100000
namespace Pu
open PySem PySem.Spec PyProof.Rows L2
section
variable {C : Cfg} {Γ Γ' Γn Γl Γo Γt Γe Γ1 Γ2 : List Mo} {σ σ' : L2.St} {H H' H1 H2 : Hp} {env env' : PEnv} {Fs Fs' Fs1 Fs2 : Nat → List Addr} {v y : V} {vs : List V} {d x : D} {ds : List D} {F G : List Addr} {t : TA} {ta tb tc te t1 t2 : TE} {A B : Kd} {m n mc n1 n2 : X1} {K : PySem.W.Frag} {CT : Nat → Addr} {S : Stat} {X : Cx}
theorem ps_never {st : Stmt} : PS X st tNever := ⟨fun _ _ _ _ _ _ h => h.elim⟩
abbrev UL := List D → List D → (List D → Prop) → Prop
structure LmOk (r : V → List V → Hp → VK → Prop) (u : UL) : Prop where
  run : ∀ {CT : Nat → Addr} {H : Hp} {a : Addr} {vs ws : List V} {ds es : List D} {F G : List Addr} {Q : V → Hp → Prop}, H a = some (.lst vs) → Rps CT H vs ds F → Rps CT H ws es G →
    u ds es (fun ds' => ∀ (vs' : List V) (F' : List Addr) (z : V), Rps CT H vs' ds' F' → (∀ b ∈ F', b ∈ F ∨ b ∈ G) → ((F ++ G).Nodup → F'.Nodup) → Q z (upd H a (.lst vs'))) → r (.ref a) ws H Q
  mono : ∀ ds es (Q Q' : List D → Prop), (∀ e, Q e → Q' e) → u ds es Q → u ds es Q'
def sLm (i : Nat) (u : UL) (ms : XL) : XS := fun E env => xVar i env fun d => onL d fun xs => ms env fun es => u xs es fun ds => E.nx (env.set i (some (.lst ds)))
theorem sim_lm {i : Nat} {r : V → List V → Hp → VK → Prop} {u : UL} {ms : XL} (lo : LmOk r u) (g : Γ[i]? = some .o) (s : SimL C Γ t .own ms) : SimS C Γl Γ Γ (tDrop (tBM K "list" r (tVar i) t)) (sLm i u ms) :=
  ⟨fun σ H env Fs D E I lk hh => by
    obtain ⟨v, d, h1, h2, h3⟩ := I.val i _ g (.inl rfl)
    have hh : xVar i env _ := hh
    unfold xVar at hh
    rw [h2] at hh
    obtain ⟨a, vs, ds, F, rfl, rfl, eF, ha, ra, hh⟩ := h3.onL hh
    refine ⟨_, h1, .inl ⟨rfl, _, SqL.of ha⟩, s.run σ H env Fs _ I (s.mono env _ _ (fun es q ws H1 G f dk r2 k2 => ?_) hh)⟩
    have nqa := I.nq i _ g (.inl rfl)
    rw [eF] at nqa
    have nda := I.nd i g
    rw [eF] at nda
    have ha1 := f.keep _ _ ha (nqa.wq a List.mem_cons_self)
    have ra1 := ra.keep f fun b hb => nqa.wq b (List.mem_cons_of_mem _ hb)
    have nG : a ∉ G := fun z => by
      have := k2.2.2 a z
      rw [ha] at this; cases this
    have nF : a ∉ F := (List.nodup_cons.mp nda).1
    have ndd : (F ++ G).Nodup := List.nodup_append.mpr ⟨(List.nodup_cons.mp nda).2, k2.2.1, fun b hb c hc z => by
      subst z
      exact ra.tracked b hb (k2.2.2 b hc)⟩
    refine lo.run ha1 ra1 r2 (lo.mono _ _ _ _ (fun ds' q vs' F' z r3 sub nd => ?_) q)
    have na : a ∉ F' := fun z => (sub a z).elim nF nG
    exact lk.root I f dk g h1 ha1 rfl eF (F' := F') (G := G) (.lst upd_same (r3.upd ha1 rfl na)) (nd ndd) na (fun b hb => (sub b hb).imp id fun hb => k2.2.2 b hb) q,
   fun E E' env p q => mono_var env _ _ (fun d q => onL_mono (fun ds q => s.mono env _ _ (fun e q => lo.mono _ _ _ _ (fun ds q => p.1 _ q) q) q) q) q⟩
class MU (u : UL) : Prop where
  mono : ∀ ds es (Q Q' : List D → Prop), (∀ e, Q e → Q' e) → u ds es Q → u ds es Q'
theorem Rps.two_of {a b : D} (r : Rps CT H vs [a, b] F) : ∃ v w G1 G2, vs = [v, w] ∧ Rp CT H v a G1 ∧ Rp CT H w b G2 ∧ F = G1 ++ G2 := by
  cases r with
  | cons r1 r2 => cases r2 with
    | cons r2 r3 => cases r3; exact ⟨_, _, _, _, rfl, r1, r2, by simp⟩
theorem Rps.one_of {a : D} (r : Rps CT H vs [a] F) : ∃ v, vs = [v] ∧ Rp CT H v a F := by
  cases r with
  | cons r1 r2 => cases r2; exact ⟨_, rfl, by simpa using r1⟩
theorem Rps.split : ∀ {vs : List V} {ds : List D} {F : List Addr} (j : Nat), Rps CT H vs ds F → ∃ F1 F2, Rps CT H (vs.take j) (ds.take j) F1 ∧ Rps CT H (vs.drop j) (ds.drop j) F2 ∧ F = F1 ++ F2
  | _, _, F, 0, r => ⟨[], F, .nil, r, rfl⟩
  | _, _, _, j + 1, .nil => ⟨[], [], .nil, .nil, rfl⟩
  | _, _, _, j + 1, .cons (F := F1) (G := F2) r rs => by
    obtain ⟨P, Q, h1, h2, h3⟩ := Rps.split j rs
    exact ⟨F1 ++ P, Q, .cons r h1, h2, by rw [h3, List.append_assoc]⟩
theorem Rps.erase : ∀ {vs : List V} {ds : List D} {F : List Addr} (j : Nat), Rps CT H vs ds F → ∃ F', Rps CT H (vs.eraseIdx j) (ds.eraseIdx j) F' ∧ F'.Sublist F
  | _, _, _, _, .nil => ⟨[], .nil, List.Sublist.slnil⟩
  | _, _, _, 0, .cons (F := F1) (G := F2) r rs => ⟨F2, rs, List.sublist_append_right _ _⟩
  | _, _, _, j + 1, .cons (F := F1) (G := F2) r rs => by
    obtain ⟨F', h1, h2⟩ := Rps.erase j rs
    exact ⟨F1 ++ F', .cons r h1, h2.append_left _⟩
def uExtend : UL := fun xs es Q => match es with
  | [.lst ys] => xs.length + ys.length ≤ sizeLine ∧ Q (xs ++ ys)
  | _ => False
theorem lo_extend : LmOk rExtend uExtend := by
  refine ⟨?_, ?_⟩
  · intro CT H a vs ws ds es F G Q ha r r2 q
    match es, r2, q with
    | [.lst ys], r2, q =>
      obtain ⟨v, rfl, q1⟩ := r2.one_of
      cases q1 with
      | lst hb rb =>
        refine ⟨a, _, vs, _, rfl, rfl, ha, hb, by rw [r.length, rb.length]; exact q.1, q.2 _ _ _ (r.append rb) (fun b hb => ?_) fun nd => ?_⟩
        · exact (List.mem_append.mp hb).imp id (List.mem_cons_of_mem _)
        · exact nd.sublist (List.Sublist.append_left (List.sublist_cons_self _ _) _)
  · intro ds es Q Q' k q
    match es, q with
    | [.lst ys], q => exact ⟨q.1, k _ q.2⟩
instance : MU uExtend := ⟨lo_extend.mono⟩
instance {i : Nat} {u : UL} {ms : XL} [h : MU u] [h' : MX ms] : MS (sLm i u ms) := ⟨fun p q => mono_var _ _ _ (fun d q => onL_mono (fun ds q => h'.mono _ _ _ (fun e q => h.mono _ _ _ _ (fun ds q => p.1 _ q) q) q) q) q⟩
end
end Pu
set_option Elab.async false
set_option linter.all false
set_option maxRecDepth 100000
namespace Pu
open PySem PySem.Spec PyProof.Rows L2
open Sem (wp)
open AutoSeq1 (wpAny_loadPart')
theorem k_zip {X : Cx} {K : PySem.W.Frag} {e e2 : Expr} {ta : TA} {p pos tpos : Pos} {elts : List Expr} {kk : Nat} (h : X.K = K) (hg : Gl X "zip") (hm : X.mg "zip" = none) (ha : PA X [e, e2] ta)
    (hs : starEach [e, e2] X.env = (false, eval e X.env) :: starEach [e2] X.env := by rfl) (hpl : (backTo pos (starEach [e2] X.env)).any (·.1) = false := by rfl) :
    PI X (.Tuple elts kk tpos) (.Call (.Name "zip" p) [e, e2] [] pos) (RZ.iZipA K ta) := h ▸ RZ.pi_zipA hg hm ha hs hpl
section
variable {C : Cfg} {Γ Γ' Γn Γl Γo Γt Γe Γ1 Γ2 : List Mo} {σ σ' : L2.St} {H H' H1 H2 : Hp} {env env' : PEnv} {Fs Fs' Fs1 Fs2 : Nat → List Addr} {v : V} {vs ws : List V} {d : D} {ds es : List D} {F G : List Addr} {ta tb te : TE} {A B : Kd} {m n : X1} {K : PySem.W.Frag} {CT : Nat → Addr}
def mEnmU (m : X1) : XL := fun env Q => m env fun d => match d with
  | .lst ds => Q (enD 0 ds)
  | .tup ds => Q (enD 0 ds)
  | _ => False
instance [h : MX m] : MX (mEnmU m) := ⟨fun env Q Q' k q => h.mono env _ _ (fun d q => by cases d <;> first | exact k _ q | exact q) q⟩
def zpD : List D → List D → List D
  | d :: ds, e :: es => .tup [d, e] :: zpD ds es
  | _, _ => []
theorem zpD_len : ∀ (ds es : List D), (zpD ds es).length = min ds.length es.length
  | [], _ => by simp [zpD]
  | _ :: _, [] => by simp [zpD]
  | d :: ds, e :: es => by simp only [zpD, List.length_cons, zpD_len ds es]; omega
theorem zpD_get : ∀ (ds es : List D) (i : Nat) (d e : D), ds[i]? = some d → es[i]? = some e → (zpD ds es)[i]? = some (.tup [d, e])
  | [], _, _, _, _, h, _ => by simp at h
  | _ :: _, [], _, _, _, _, h => by simp at h
  | x :: ds, y :: es, 0, d, e, h, h' => by simp at h h'; subst h h'; rfl
  | x :: ds, y :: es, i + 1, d, e, h, h' => by
    have := zpD_get ds es i d e (by simpa using h) (by simpa using h')
    simpa [zpD] using this
theorem walk_zpT {a b : Addr} : Walk CT (RZ.ItzT K a b) (F ++ G) (fun H => (H a = some (.tup vs) ∧ Rps CT H vs ds F) ∧ H b = some (.tup ws) ∧ Rps CT H ws es G) (zpD ds es) where
  keep := fun W H H' ⟨⟨h, r⟩, h', r'⟩ f n => ⟨⟨f.im _ _ h rfl, r.keep f fun b hb => n b (List.mem_append_left _ hb)⟩, f.im _ _ h' rfl, r'.keep f fun b hb => n b (List.mem_append_right _ hb)⟩
  there := fun H ⟨⟨h, r⟩, h', r'⟩ b hb => (List.mem_append.mp hb).elim (r.tracked b) (r'.tracked b)
  go := fun i H ⟨⟨h, r⟩, h', r'⟩ hi => by
    rw [zpD_len, ← r.length, ← r'.length] at hi
    have h1 : i < vs.length := by omega
    have h2 : i < ws.length := by omega
    exact ⟨vs, ws, vs[i], ws[i], SqT.of h, SqT.of h', List.getElem?_eq_getElem h1, List.getElem?_eq_getElem h2⟩
  stop := fun H ⟨⟨h, r⟩, h', r'⟩ => ⟨vs, ws, SqT.of h, SqT.of h', by rw [zpD_len, ← r.length, ← r'.length]; omega⟩
  yld := fun i H x H' ⟨⟨h, r⟩, h', r'⟩ hi ⟨T, y, z, e, hT, e', hy, hz⟩ => by
    subst e e'
    obtain ⟨d1, G1, h1, h2, h3⟩ := r.getV (hy vs (SqT.of h))
    obtain ⟨d2, G2, k1, k2, k3⟩ := r'.getV (hz ws (SqT.of h'))
    refine ⟨_, G1 ++ (G2 ++ []), zpD_get ds es i d1 d2 h1 k1, Fr.new hT, .tup upd_same (.cons (h2.keep (W := fun _ => False) (Fr.new hT) fun _ _ z => z) (.cons (k2.keep (W := fun _ => False) (Fr.new hT) fun _ _ z => z) .nil)), fun b hb => ?_⟩
    rw [List.append_nil] at hb
    exact (List.mem_append.mp hb).elim (fun m => List.mem_append_left _ (h3.mem m)) fun m => List.mem_append_right _ (k3.mem m)
theorem walk_zpL {a b : Addr} : Walk CT (Itz K a b) ((a :: F) ++ (b :: G)) (fun H => (H a = some (.lst vs) ∧ Rps CT H vs ds F) ∧ H b = some (.lst ws) ∧ Rps CT H ws es G) (zpD ds es) where
  keep := fun W H H' ⟨⟨h, r⟩, h', r'⟩ f n => ⟨⟨f.keep _ _ h (n _ (List.mem_append_left _ List.mem_cons_self)), r.keep f fun b hb => n b (List.mem_append_left _ (List.mem_cons_of_mem _ hb))⟩,
    f.keep _ _ h' (n _ (List.mem_append_right _ List.mem_cons_self)), r'.keep f fun b hb => n b (List.mem_append_right _ (List.mem_cons_of_mem _ hb))⟩
  there := fun H ⟨⟨h, r⟩, h', r'⟩ b hb => (List.mem_append.mp hb).elim ((Rp.lst h r).tracked b) ((Rp.lst h' r').tracked b)
  go := fun i H ⟨⟨h, r⟩, h', r'⟩ hi => by
    rw [zpD_len, ← r.length, ← r'.length] at hi
    have h1 : i < vs.length := by omega
    have h2 : i < ws.length := by omega
    exact ⟨vs, ws, vs[i], ws[i], SqL.of h, SqL.of h', List.getElem?_eq_getElem h1, List.getElem?_eq_getElem h2⟩
  stop := fun H ⟨⟨h, r⟩, h', r'⟩ => ⟨vs, ws, SqL.of h, SqL.of h', by rw [zpD_len, ← r.length, ← r'.length]; omega⟩
  yld := fun i H x H' ⟨⟨h, r⟩, h', r'⟩ hi ⟨T, y, z, e, hT, e', hy, hz⟩ => by
    subst e e'
    obtain ⟨d1, G1, h1, h2, h3⟩ := r.getV (hy vs (SqL.of h))
    obtain ⟨d2, G2, k1, k2, k3⟩ := r'.getV (hz ws (SqL.of h'))
    refine ⟨_, G1 ++ (G2 ++ []), zpD_get ds es i d1 d2 h1 k1, Fr.new hT, .tup upd_same (.cons (h2.keep (W := fun _ => False) (Fr.new hT) fun _ _ z => z) (.cons (k2.keep (W := fun _ => False) (Fr.new hT) fun _ _ z => z) .nil)), fun b hb => ?_⟩
    rw [List.append_nil] at hb
    exact (List.mem_append.mp hb).elim (fun m => List.mem_append_left _ (List.mem_cons_of_mem _ (h3.mem m))) fun m => List.mem_append_right _ (List.mem_cons_of_mem _ (k3.mem m))
def mzQ (ds : List D) (Q : List D → Prop) : Prop := match ds with
  | [.lst xs, .lst ys] => Q (zpD xs ys)
  | [.tup xs, .tup ys] => Q (zpD xs ys)
  | _ => False
theorem mzQ_of {Q : List D → Prop} (q : mzQ ds Q) : (∃ xs ys, ds = [.lst xs, .lst ys] ∧ Q (zpD xs ys)) ∨ ∃ xs ys, ds = [.tup xs, .tup ys] ∧ Q (zpD xs ys) := by
  unfold mzQ at q
  split at q
  · exact .inl ⟨_, _, rfl, q⟩
  · exact .inr ⟨_, _, rfl, q⟩
  · exact q.elim
def mZip (r : XL) : XL := fun env Q => r env fun ds => mzQ ds Q
theorem mono_zip {r : XL} (h : Mono r) : Mono (mZip r) := fun env Q Q' k q => h env _ _ (fun ds q => by
  rcases mzQ_of q with ⟨xs, ys, rfl, q⟩ | ⟨xs, ys, rfl, q⟩
  · exact k _ q
  · exact k _ q) q
theorem simi_zip {t : TA} {r : XL} (s : SimL C Γ t A r) : SimI C Γ (RZ.iZipA K t) A (mZip r) := ⟨fun σ H env Fs R I h => s.run σ H env Fs _ I (s.mono env _ _ (fun ds q vs H1 F f dk rr k => by
    have kd := k.set I
    rcases mzQ_of q with ⟨xs, ys, rfl, q⟩ | ⟨xs, ys, rfl, q⟩
    · obtain ⟨v, w, G1, G2, rfl, r1, r2, rfl⟩ := rr.two_of
      cases r1 with
      | lst h1 p1 => cases r2 with
        | lst h2 p2 => exact ⟨_, _, _, _, rfl, .inl ⟨SqL.of h1, SqL.of h2, q H1 _ _ _ f dk walk_zpL ⟨⟨h1, p1⟩, h2, p2⟩ ⟨k.1, kd⟩⟩⟩
    · obtain ⟨v, w, G1, G2, rfl, r1, r2, rfl⟩ := rr.two_of
      cases r1 with
      | tup h1 p1 => cases r2 with
        | tup h2 p2 => exact ⟨_, _, _, _, rfl, .inr ⟨SqT.of h1, SqT.of h2, q H1 _ _ _ f dk walk_zpT ⟨⟨h1, p1⟩, h2, p2⟩ ⟨k.1, kd⟩⟩⟩) h), mono_zip s.mono⟩
instance {r : XL} [h : MX r] : MX (mZip r) := ⟨mono_zip h.mono⟩
end
theorem k_ty {X : Cx} {x : Str} {c : String} {pos : Pos} (hg : Gl X x) (hm : X.mg x = none) (hv : bootBuiltins x = some (.type c)) (hn : x ≠ "__name__" := by decide) (hd : (x == ("__debug__" : Str)) = false := by decide) : PE X (.Name x pos) (tC (.ty c)) :=
  pe_bltn hg hm hv rfl hn hd
theorem k_gtup {X : Cx} {K : PySem.W.Frag} {es : List Expr} {k : Nat} {t : TGs} {n : Nat} {pos : Pos} (hK : X.K = K) (hc : X.calm = true) (h : PGs X es t) (hn : (assignEach es X.env).length = n := by rfl) (hst : (assignEach es X.env).findIdx? (·.1) = none := by rfl) :
    PG X (.Tuple es k pos) (gTup K n t) := hK ▸ pg_tup hc h hn hst
end Pu
set_option Elab.async false
set_option linter.all false
set_option maxRecDepth 100000
namespace Pu
open PySem PySem.Spec PyProof.Rows L2
def dInts (zs : List Int) : List D := zs.map D.int
def vInts (zs : List Int) : List V := zs.map V.int
def dD (cs zs : List Int) : D := .lst (.lst (dInts cs) :: dInts zs)
structure DS (p : Addr × Addr) (H : Hp) (cs zs : List Int) : Prop where
  ne : p.1 ≠ p.2
  a1 : H p.1 = some (.lst (.ref p.2 :: vInts zs))
  a2 : H p.2 = some (.lst (vInts cs))
section
variable {C : Cfg} {Γ Γ' Γ1 Γ2 : List Mo} {σ σ' : L2.St} {H H' H1 H2 : Hp} {env env' tl : PEnv} {v : V} {d : D} {F G : List Addr} {ta tb te : TE} {A B : Kd} {m n : X1} {CT : Nat → Addr} {S : Stat} {p : Addr × Addr} {cs zs : List Int}
theorem rps_dInts : ∀ zs : List Int, Rps CT H (vInts zs) (dInts zs) []
  | [] => .nil
  | z :: zs => .cons (.int z) (rps_dInts zs)
theorem DS.rp (s : DS p H cs zs) : Rp CT H (.ref p.1) (dD cs zs) (p.1 :: (p.2 :: []) ++ []) := .lst s.a1 (.cons (.lst s.a2 (rps_dInts cs)) (rps_dInts zs))
structure OkD (p : Addr × Addr) (Γ : List Mo) (σ : L2.St) (H : Hp) (cs zs : List Int) (tl : PEnv) : Prop where
  ds : DS p H cs zs
  l1 : tl.length = Γ.length
  l2 : σ.length = Γ.length + 1
  s0 : σ[0]? = some (some (.ref p.1))
  val : ∀ i : Nat, Γ[i]? = some .f → ∃ z, σ[i + 1]? = some (some (.int z)) ∧ tl[i]? = some (some (.int z))
  fx : ∀ (i : Nat) (mo : Mo), Γ[i]? = some mo → mo = .f ∨ mo = .x
abbrev C0 (S : Stat) : Cfg := ⟨S, none, []⟩
def eD (cs zs : List Int) (tl : PEnv) : PEnv := some (dD cs zs) :: tl
theorem OkD.ok (I : OkD p Γ σ H cs zs tl) : Ok (C0 S) (.f :: Γ) σ H (eD cs zs tl) (fun j => if j = 0 then p.1 :: (p.2 :: []) ++ [] else []) := by
  refine ⟨by simp [eD, I.l1], by simp [I.l2], fun i mo h l => ?_, fun i h => ?_, fun i h => ?_, fun i j mo h _ _ _ => ?_, fun _ _ _ _ => (fun _ e => nomatch e), (fun _ e => nomatch e), (fun _ e => nomatch e)⟩
  · cases i with
    | zero => exact ⟨_, _, I.s0, rfl, I.ds.rp⟩
    | succ i =>
      have h : Γ[i]? = some mo := by simpa using h
      rcases I.fx i mo h with e | e
      · subst e
        obtain ⟨z, h1, h2⟩ := I.val i h
        exact ⟨_, _, h1, by simpa [eD] using h2, .int z⟩
      · subst e; rcases l with l | l <;> cases l
  · cases i with
    | zero => cases h
    | succ i =>
      have h : Γ[i]? = some .q := by simpa using h
      rcases I.fx i _ h with e | e <;> cases e
  · cases i with
    | zero => cases h
    | succ i =>
      have h : Γ[i]? = some .o := by simpa using h
      rcases I.fx i _ h with e | e <;> cases e
  · cases i with
    | zero => cases h
    | succ i =>
      have h : Γ[i]? = some .o := by simpa using h
      rcases I.fx i _ h with e | e <;> cases e
abbrev WD (p : Addr × Addr) : Addr → Prop := fun a => a = p.1 ∨ a = p.2
theorem wq0 {a : Addr} : ¬ Wq (C0 S) a := fun ⟨_, e, _⟩ => nomatch e
theorem DS.keep {W : Addr → Prop} (s : DS p H cs zs) (f : Fr W H H') (n1 : ¬ W p.1) (n2 : ¬ W p.2) : DS p H' cs zs := ⟨s.ne, f.keep _ _ s.a1 n1, f.keep _ _ s.a2 n2⟩
theorem OkD.keep (I : OkD p Γ σ H cs zs tl) (f : Fr (Wq (C0 S)) H H') : OkD p Γ σ H' cs zs tl := ⟨I.ds.keep f wq0 wq0, I.l1, I.l2, I.s0, I.val, I.fx⟩
def wkD : List Mo → List Mo → Bool
  | [], [] => true
  | a :: r, b :: s => (decide (b = .x) || decide (a = b)) && wkD r s
  | _, _ => false
theorem wkD_at : ∀ {Γ Γ' : List Mo}, wkD Γ Γ' = true → Γ.length = Γ'.length ∧ ∀ (i : Nat) (mo : Mo), Γ'[i]? = some mo → mo = .x ∨ Γ[i]? = some mo
  | [], [], _ => ⟨rfl, fun i mo h => by simp at h⟩
  | a :: r, b :: s, h => by
    simp only [wkD, Bool.and_eq_true, Bool.or_eq_true, decide_eq_true_eq] at h
    obtain ⟨h1, h2⟩ := wkD_at h.2
    refine ⟨by simp [h1], fun i mo e => ?_⟩
    cases i with
    | zero =>
      simp at e; subst e
      rcases h.1 with z | z
      · exact .inl z
      · exact .inr (by simp [z])
    | succ i => simpa using h2 i mo (by simpa using e)
  | [], _ :: _, h => by simp [wkD] at h
  | _ :: _, [], h => by simp [wkD] at h
theorem OkD.weak (I : OkD p Γ σ H cs zs tl) (h : wkD Γ Γ' = true) : OkD p Γ' σ H cs zs tl := by
  obtain ⟨h1, h2⟩ := wkD_at h
  refine ⟨I.ds, I.l1.trans h1, by rw [I.l2, h1], I.s0, fun i e => ?_, fun i mo e => ?_⟩
  · rcases h2 i _ e with z | z
    · cases z
    · exact I.val i z
  · rcases h2 i _ e with z | z
    · exact .inr z
    · exact I.fx i mo z
structure DEnds where
  nx : List Int → List Int → PEnv → Prop
  rt : List Int → List Int → Int → Prop
abbrev XD := DEnds → List Int → List Int → PEnv → Prop
structure SimD (S : Stat) (p : Addr × Addr) (Γ Γ' : List Mo) (t : TS) (b : XD) : Prop where
  run : ∀ (σ : L2.St) (H : Hp) (cs zs : List Int) (tl : PEnv) (D : Ends) (E : DEnds), OkD p Γ σ H cs zs tl →
    (∀ σ' H' cs' zs' tl', OkD p Γ' σ' H' cs' zs' tl' → Fr (WD p) H H' → E.nx cs' zs' tl' → D.nx σ' H') →
    (∀ H' cs' zs' z, DS p H' cs' zs' → Fr (WD p) H H' → E.rt cs' zs' z → D.rt (.int z) H') → b E cs zs tl → t D σ H
def zSeq (a b : XD) : XD := fun E => a { E with nx := b E }
theorem simd_seq {t u : TS} {a b : XD} (s : SimD S p Γ Γ1 t a) (s' : SimD S p Γ1 Γ2 u b) : SimD S p Γ Γ2 (tSeq t u) (zSeq a b) :=
  ⟨fun σ H cs zs tl D E I nx rt h => s.run σ H cs zs tl { D with nx := u D } { E with nx := b E } I
    (fun σ1 H1 cs1 zs1 tl1 I1 f1 h1 => s'.run σ1 H1 cs1 zs1 tl1 D E I1 (fun _ _ _ _ _ I2 f2 q => nx _ _ _ _ _ I2 (f1.trans f2) q) (fun _ _ _ _ q f2 e => rt _ _ _ _ q (f1.trans f2) e) h1) rt h⟩
def zNext : XD := fun E => E.nx
theorem simd_next : SimD S p Γ Γ tNext zNext := ⟨fun σ H cs zs tl D E I nx rt h => nx _ _ _ _ _ I Fr.refl h⟩
theorem simd_weak {t : TS} {a : XD} (s : SimD S p Γ Γ1 t a) (h : wkD Γ1 Γ2 = true) : SimD S p Γ Γ2 t a :=
  ⟨fun σ H cs zs tl D E I nx rt q => s.run σ H cs zs tl D E I (fun _ _ _ _ _ I1 f e => nx _ _ _ _ _ (I1.weak h) f e) rt q⟩
def zIf (c : XB) (a b : XD) : XD := fun E cs zs tl => c (eD cs zs tl) fun k => if k = true then a E cs zs tl else b E cs zs tl
theorem simd_if {c : TT} {t u : TS} {mc : XB} {a b : XD} (s : SimT (C0 S) (.f :: Γ) c mc) (s1 : SimD S p Γ Γ1 t a) (s2 : SimD S p Γ Γ1 u b) : SimD S p Γ Γ1 (tIfS c t u) (zIf mc a b) :=
  ⟨fun σ H cs zs tl D E I nx rt h => s.run σ H _ _ _ I.ok (s.mono _ _ _ (fun k q H1 f dk => by
    have g : Fr (WD p) H H1 := f.mono fun _ w => (wq0 w).elim
    cases k with
    | true => exact s1.run σ H1 cs zs tl D E (I.keep f) (fun _ _ _ _ _ I1 f1 e => nx _ _ _ _ _ I1 (g.trans f1) e) (fun _ _ _ _ z f1 e => rt _ _ _ _ z (g.trans f1) e) q
    | false => exact s2.run σ H1 cs zs tl D E (I.keep f) (fun _ _ _ _ _ I1 f1 e => nx _ _ _ _ _ I1 (g.trans f1) e) (fun _ _ _ _ z f1 e => rt _ _ _ _ z (g.trans f1) e) q) h)⟩
def onI (d : D) (Q : Int → Prop) : Prop := match d with
  | .int z => Q z
  | _ => False
theorem onI_of {Q : Int → Prop} (h : onI d Q) : ∃ z, d = .int z ∧ Q z := by cases d <;> first | exact ⟨_, rfl, h⟩ | exact (show False from h).elim
def zRet (m : X1) : XD := fun E cs zs tl => m (eD cs zs tl) fun d => onI d fun z => E.rt cs zs z
theorem simd_ret (s : Sim (C0 S) (.f :: Γ) te A m) : SimD S p Γ Γ' (tRet te) (zRet m) :=
  ⟨fun σ H cs zs tl D E I nx rt h => s.run σ H _ _ _ I.ok (s.mono _ _ _ (fun d q v H1 F f dk r k => by
    obtain ⟨z, rfl, q⟩ := onI_of q
    cases r
    exact rt H1 cs zs z (I.keep f).ds (f.mono fun _ w => (wq0 w).elim) q) h)⟩
def zSet (i : Nat) (m : X1) : XD := fun E cs zs tl => m (eD cs zs tl) fun d => onI d fun z => E.nx cs zs (tl.set i (some (.int z)))
theorem simd_set {i : Nat} (hi : i < Γ.length) (s : Sim (C0 S) (.f :: Γ) te A m) : SimD S p Γ (Γ.set i .f) (tAsg te (gName (i + 1))) (zSet i m) :=
  ⟨fun σ H cs zs tl D E I nx rt h => s.run σ H _ _ _ I.ok (s.mono _ _ _ (fun d q v H1 F f dk r k => by
    obtain ⟨z, rfl, q⟩ := onI_of q
    cases r
    have J := I.keep f
    refine nx _ H1 cs zs _ ⟨J.ds, by simp [J.l1], by simp [J.l2], by rw [List.getElem?_set_ne (by omega)]; exact J.s0, fun j e => ?_, fun j mo e => ?_⟩ (f.mono fun _ w => (wq0 w).elim) q
    · rcases get_set e with ⟨rfl, _, _⟩ | ⟨ne, e⟩
      · exact ⟨z, by rw [List.getElem?_set_self (by rw [J.l2]; omega)], by rw [List.getElem?_set_self (by rw [J.l1]; exact hi)]⟩
      · obtain ⟨y, h1, h2⟩ := J.val j e
        exact ⟨y, by rw [List.getElem?_set_ne (by omega)]; exact h1, by rw [List.getElem?_set_ne (Ne.symm ne)]; exact h2⟩
    · rcases get_set e with ⟨_, e, _⟩ | ⟨_, e⟩
      · exact .inl e
      · exact J.fx j mo e) h)⟩
def zPut (k : Nat) (m : X1) : XD := fun E cs zs tl => m (eD cs zs tl) fun d => onI d fun z => k < zs.length ∧ zs.length < 100 ∧ E.nx cs (zs.set k z) tl
theorem simd_put {k : Nat} (hk : k < 90) (s : Sim (C0 S) (.f :: Γ) te A m) : SimD S p Γ Γ (tAsg te (gSub (tVar 0) (tC (.int ((k + 1 : Nat) : Int))) rSetU)) (zPut k m) :=
  ⟨fun σ H cs zs tl D E I nx rt h => s.run σ H _ _ _ I.ok (s.mono _ _ _ (fun d q v H1 F f dk r kk => by
    obtain ⟨z, rfl, h1, h2, q⟩ := onI_of q
    cases r
    have J := I.keep f
    have e1 : ((V.ref p.2 :: vInts zs).set (k + 1) (V.int z)) = V.ref p.2 :: vInts (zs.set k z) := by simp [vInts, List.map_set]
    have hl : (V.ref p.2 :: vInts zs).length = zs.length + 1 := by simp [vInts]
    refine ⟨_, J.s0, .inl ?_⟩
    refine ⟨p.1, _, _, k + 1, rfl, rfl, J.ds.a1, ?_, ?_⟩
    · rw [hl]
      unfold ixN
      rw [if_pos (by omega)]
      rw [if_pos (by omega)]
      rfl
    · rw [e1]
      refine nx σ _ cs _ tl ⟨⟨J.ds.ne, L2.upd_same, by rw [L2.upd_ne (Ne.symm J.ds.ne)]; exact J.ds.a2⟩, J.l1, J.l2, J.s0, J.val, J.fx⟩ ((f.mono fun _ w => (wq0 w).elim).trans (Fr.at (.inl rfl) J.ds.a1 rfl)) q) h)⟩
def DQi (Iv : List Int → List Int → Prop) : Addr × Addr → HO → HO → Prop := fun p o u => ∃ cs zs, Iv cs zs ∧ p.1 ≠ p.2 ∧ o = .lst (.ref p.2 :: vInts zs) ∧ u = .lst (vInts cs)
def mDraw : XF := fun ds Q => match ds with
  | [_, .int n] => 0 < n ∧ n < 2 ^ 30 ∧ ∀ r, 0 ≤ r → r < n → Q (.int r)
  | _ => False
theorem mDraw_of {ds : List D} {Q : D → Prop} (h : mDraw ds Q) : ∃ d n, ds = [d, .int n] ∧ 0 < n ∧ n < 2 ^ 30 ∧ ∀ r, 0 ≤ r → r < n → Q (.int r) := by
  unfold mDraw at h
  split at h
  · exact ⟨_, _, rfl, h⟩
  · exact h.elim
theorem mo_mDraw : MonoF mDraw := fun ds Q Q' k h => by
  obtain ⟨d, n, rfl, h1, h2, h3⟩ := mDraw_of h
  exact ⟨h1, h2, fun r a b => k _ (h3 r a b)⟩
instance : MF mDraw := ⟨mo_mDraw⟩
theorem draw_ok {P : Program} {w : World} {K : PySem.W.Frag} {mg : Str → Option Value} {base : Heap} {x qual : Str} {st : Stmt} {f : Addr} {fd : FuncData} {N ps : List Str} {k : Nat} {S : Stat} {b : XD} {Γe : List Mo} {Iv : List Int → List Int → Prop}
    (Fn : Fun K x qual st f fd) (Sc : FnScope N ps (defScope st)) (hp : ps.length = 2) (hN : N.length = 5) (hS : S.DQ = DQi Iv)
    (hbody : ∀ (cdv : Value) (A : Around) (outer : List Env) (s : Shared) (H : Hp) (E : XK), Room k (A.deeper (envOfC qual (defScope st) s.heap.objs.size f cdv)) →
      ∃ t, PSs (cxOf CX0 P w K mg base N qual (defScope st) f cdv A outer s H E).nox (defBody st) t ∧ ∀ p, SimD S p [.f, .x, .x, .x] Γe t b)
    (hpure : ∀ cs zs n, Iv cs zs → 0 < n → n < 2 ^ 30 → b ⟨fun _ _ _ => False, fun cs' zs' z => Iv cs' zs' ∧ 0 ≤ z ∧ z < n⟩ cs zs [some (.int n), none, none, none]) :
    FnOk P w K mg base CX0 (k + 1) f fd ps (SpM S [true, false] mDraw) := by
  refine Fn.ok Sc (fun vs H Q E ⟨C, ds, F, _, _, a, _⟩ => by rw [a.len.1, hp]; rfl) (fun cdv A outer s H vs Q E hr ⟨C, ds, F, hC, hpn, a, dk, nq, q⟩ => ?_)
  obtain ⟨t, ht, hs⟩ := hbody cdv A outer s H E hr
  obtain ⟨d, n, rfl, h1, h2, h3⟩ := mDraw_of q
  cases a with
  | @dice p pm' vs' ds' F' e a =>
    cases a with
    | val r a =>
      cases a
      cases r
      obtain ⟨o, u, e1, e2, e3⟩ := (dk p e).ex
      have hD : C.DQ = DQi Iv := by rw [← hS, ← hC]
      rw [hD] at e3
      obtain ⟨cs, zs, iv, ne, rfl, rfl⟩ := e3
      have I : OkD p [.f, .x, .x, .x] (L2.start N [.ref p.1, .int n]) H cs zs [some (.int n), none, none, none] := by
        refine ⟨⟨ne, e1, e2⟩, rfl, by simp [L2.start, hN], rfl, fun i h => ?_, fun i mo h => ?_⟩
        · match i, h with
          | 0, _ => exact ⟨n, rfl, rfl⟩
          | 1, h => cases h
          | 2, h => cases h
          | 3, h => cases h
          | i + 4, h => simp at h
        · match i, h with
          | 0, h => exact .inl (Option.some.inj h).symm
          | 1, h => exact .inr (Option.some.inj h).symm
          | 2, h => exact .inr (Option.some.inj h).symm
          | 3, h => exact .inr (Option.some.inj h).symm
          | i + 4, h => simp at h
      refine ⟨t, ht, (hs p).run _ H cs zs _ _ ⟨fun _ _ _ => False, fun cs' zs' z => Iv cs' zs' ∧ 0 ≤ z ∧ z < n⟩ I (fun _ _ _ _ _ _ _ q => q.elim) (fun H' cs' zs' z ds f ⟨iv', z1, z2⟩ => ?_) (hpure cs zs n iv h1 h2)⟩
      refine h3 z z1 z2 (.int z) H' [] (f.mono fun a ha => ⟨p, e, ha⟩) (fun p' e' => ?_) (.int z) List.nodup_nil fun _ m => nomatch m
      rw [e] at e'; cases e'
      exact ⟨_, _, ds.a1, ds.a2, by rw [hD]; exact ⟨cs', zs', iv', ne, rfl, rfl⟩⟩
instance {r : XL} [h : MX r] : MX (xDice r) := ⟨fun env Q Q' k q => h.mono env _ _ (fun ds q => k _ q) q⟩
end
end Pu
set_option Elab.async false
set_option linter.all false
set_option maxRecDepth 100000
namespace Pu
open PySem PySem.Spec PyProof.Rows L2
def oModZ : O2 := oIc (fun _ j => j ≠ 0) fun i j => .int (i.fmod j)
def oMulZ : O2 := oIc CMul fun i j => .int (i * j)
def oDivZ : O2 := oIc CDivN fun i j => .int (i.fdiv j)
abbrev dxi (k : Int) : X1 := x2 oIx (xVar 0) (xC (.int k))
def bDrawA : XD := zIf (bAnd (bTest (x2 oEq (dxi 2) (xC (.int 0)))) (bTest (x2 (oI fun i j => .bl (decide (i < j))) (dxi 1) (x1 oLen (dxi 0))))) (zSeq (zSet 1 (x2 oIx (dxi 0) (dxi 1))) (zSeq (zPut 0 (x2 oAdd (dxi 1) (xC (.int 1)))) (zIf (bTest (x2 (oI fun i j => .bl (decide (j ≤ i))) (xVar 2) (x2 (oIc CPow fun i j => .int (i ^ j.toNat)) (xC (.int 10)) (xC (.int 18))))) (zPut 1 (xVar 2)) (zPut 2 (x2 oModZ (x1 oInt (x2 oAdd (x2 oAdd (x2 oMulZ (dxi 3) (xC (.int 69621))) (x2 oMulZ (xVar 2) (xC (.int 40692)))) (dxi 1))) (xC (.int 2147483647))))))) zNext
def bDrawB : XD := zIf (bTest (x2 (oI fun i j => .bl (decide (j < i))) (dxi 2) (xC (.int 0)))) (zSeq (zSet 2 (x2 oModZ (x1 oInt (dxi 2)) (xVar 1))) (zSeq (zPut 1 (x2 oDivZ (x1 oInt (dxi 2)) (xVar 1))) (zRet (xVar 3)))) zNext
def bDrawC : XD := zSeq (zPut 3 (x2 oAdd (dxi 4) (xC (.int 1)))) (zSeq (zPut 2 (x2 oModZ (x1 oInt (x2 oAdd (x2 oAdd (x2 oMulZ (dxi 3) (xC (.int 48271))) (x2 oMulZ (dxi 4) (xC (.int 7919)))) (xC (.int 1)))) (xC (.int 2147483647)))) (zSeq (zSet 3 (x2 oModZ (x1 oInt (x2 oMulZ (dxi 3) (x2 oAdd (x2 oDivZ (dxi 3) (xC (.int 1009))) (xC (.int 69623))))) (xC (.int 2147483399)))) (zSeq (zSet 3 (x2 oModZ (x1 oInt (x2 oMulZ (xVar 4) (x2 oAdd (x2 oDivZ (xVar 4) (xC (.int 2003))) (xC (.int 40693))))) (xC (.int 2147483563)))) (zRet (x2 oModZ (x1 oInt (x2 oDivZ (xVar 4) (xC (.int 16)))) (xVar 1))))))
def bDraw : XD := zSeq bDrawA (zSeq bDrawB bDrawC)
def IvDraw (cs zs : List Int) : Prop := cs.length ≤ 63 ∧ ∃ i b m c, zs = [i, b, m, c] ∧ 0 ≤ i ∧ 0 ≤ m ∧ m < 2147483647
section
variable {cs : List Int} {i b m c n z : Int} {tl : PEnv} {Q : D → Prop} {E : DEnds} {e2 e3 e4 : Option D}
theorem atD_dInts (h0 : 0 ≤ i) (h1 : i < cs.length) (q : ∀ c, Q (.int c)) : atD (dInts cs) i Q := by
  unfold atD atI ixN
  have hl : (dInts cs).length = cs.length := by simp [dInts]
  rw [hl, if_pos h0, if_pos h1]
  have hj : i.toNat < cs.length := by omega
  have e : (dInts cs)[i.toNat]? = some (.int cs[i.toNat]) := by
    unfold dInts
    rw [List.getElem?_map, List.getElem?_eq_getElem hj] <;> rfl
  show (match (dInts cs)[i.toNat]? with | some x => Q x | none => False)
  rw [e]
  exact q _
theorem mul_c {i j : Int} (h : -(2 ^ 64) < j ∧ j < 2 ^ 64) : CMul i j := .inr h
theorem fmod_lt {i j : Int} (h : 0 < j) : 0 ≤ i.fmod j ∧ i.fmod j < j := ⟨Int.fmod_nonneg_of_pos i h, Int.fmod_lt_of_pos i h⟩
theorem nz1 : (2147483647 : Int) ≠ 0 := by decide
theorem nz2 : (2147483399 : Int) ≠ 0 := by decide
theorem nz3 : (2147483563 : Int) ≠ 0 := by decide
theorem drawC_ok (hn : 0 < n) (hn2 : n < 2 ^ 30) (hi : 0 ≤ i) (hcs : cs.length ≤ 63) :
    bDrawC ⟨fun _ _ _ => False, fun cs' zs' z => IvDraw cs' zs' ∧ 0 ≤ z ∧ z < n⟩ cs [i, b, m, c] [some (.int n), e2, e3, e4] := by
  have h1 := fmod_lt (i := m * 48271 + (c + 1) * 7919 + 1) (j := 2147483647) (by decide)
  refine ⟨by simp, by simp, mul_c (by decide), mul_c (by decide), nz1, by simp, by simp, ⟨by decide, by decide⟩, .inl ⟨?_, ?_⟩, nz2, ⟨by decide, by decide⟩, .inl ⟨?_, ?_⟩, nz3, ⟨by decide, by decide⟩, by omega, ⟨hcs, _, _, _, _, rfl, hi, h1.1, h1.2⟩, ?_⟩
  · exact Int.lt_of_lt_of_le (by decide) h1.1
  · exact Int.lt_trans h1.2 (by decide)
  · exact Int.lt_of_lt_of_le (by decide) (fmod_lt (by decide)).1
  · exact Int.lt_trans (fmod_lt (by decide)).2 (by decide)
  · exact fmod_lt hn
theorem drawB_ok (hn : 0 < n) (hn2 : n < 2 ^ 30) (hi : 0 ≤ i) (hcs : cs.length ≤ 63) (m0 : 0 ≤ m) (m1 : m < 2147483647) :
    zSeq bDrawB bDrawC ⟨fun _ _ _ => False, fun cs' zs' z => IvDraw cs' zs' ∧ 0 ≤ z ∧ z < n⟩ cs [i, b, m, c] [some (.int n), e2, e3, e4] := by
  show (if decide (0 < b) = true then _ else _)
  split
  · exact ⟨by omega, ⟨by omega, by omega⟩, by simp, by simp, ⟨hcs, _, _, _, _, rfl, hi, m0, m1⟩, fmod_lt hn⟩
  · exact drawC_ok hn hn2 hi hcs
theorem pure_draw : ∀ cs zs n, IvDraw cs zs → 0 < n → n < 2 ^ 30 → bDraw ⟨fun _ _ _ => False, fun cs' zs' z => IvDraw cs' zs' ∧ 0 ≤ z ∧ z < n⟩ cs zs [some (.int n), none, none, none] := by
  rintro cs zs n ⟨hcs, i, b, m, c, rfl, hi, m0, m1⟩ hn hn2
  have B : ∀ (i b m c : Int) (e2 e3 e4 : Option D), 0 ≤ i → 0 ≤ m → m < 2147483647 → zSeq bDrawB bDrawC ⟨fun _ _ _ => False, fun cs' zs' z => IvDraw cs' zs' ∧ 0 ≤ z ∧ z < n⟩ cs [i, b, m, c] [some (.int n), e2, e3, e4] :=
    fun i b m c e2 e3 e4 a a1 a2 => drawB_ok hn hn2 a hcs a1 a2
  generalize hE : zSeq bDrawB bDrawC ⟨fun _ _ _ => False, fun cs' zs' z => IvDraw cs' zs' ∧ 0 ≤ z ∧ z < n⟩ = R at B
  show bDrawA ⟨zSeq bDrawB bDrawC ⟨fun _ _ _ => False, fun cs' zs' z => IvDraw cs' zs' ∧ 0 ≤ z ∧ z < n⟩, _⟩ cs [i, b, m, c] [some (.int n), none, none, none]
  rw [hE]
  refine ⟨rfl, rfl, ?_⟩
  show (if D.eqb (.int b) (.int 0) = true then _ else _)
  split
  · rename_i hb
    show (if decide (i < ((dInts cs).length : Nat)) = true then _ else _)
    split
    · rename_i hlt
      have hl : (dInts cs).length = cs.length := by simp [dInts]
      have hlt : i < cs.length := by rw [← hl]; exact of_decide_eq_true hlt
      refine atD_dInts hi hlt fun z => ⟨by simp, by simp, ⟨by decide, by decide, by decide⟩, ?_⟩
      show (if decide _ = true then _ else _)
      split
      · exact ⟨by simp, by simp, B (i + 1) z m c _ _ _ (by omega) m0 m1⟩
      · refine ⟨mul_c (by decide), mul_c (by decide), nz1, by simp, by simp, B (i + 1) b _ c _ _ _ (by omega) (fmod_lt (by decide)).1 (fmod_lt (by decide)).2⟩
    · exact B i b m c none none none hi m0 m1
  · exact B i b m c none none none hi m0 m1
end
end Pu
set_option Elab.async false
set_option linter.all false
set_option maxRecDepth 100000
namespace Pu
open PySem PySem.Spec PyProof.Rows L2
section
variable {C : Cfg} {Γ Γ' Γn Γl Γo Γt Γe Γ1 Γ2 : List Mo} {σ σ' : L2.St} {H H' H1 H2 : Hp} {env env' : PEnv} {v : V} {d : D} {ds : List D} {S : Stat} {K : PySem.W.Frag} {ns : List Int}
def wNew (ms : List Int) : TI := fun σ H R => ∀ c, H c = none → R (Itl K c) (upd H c (.lst (vInts ms)))
theorem simi_new {ms : List Int} : SimI (C0 S) Γ (wNew (K := K) ms) .own (fun env Q => Q (dInts ms)) :=
  ⟨fun σ H env Fs R I h c hc => h _ _ [c] _ (Fr.new hc) (fun p e => nomatch e) (walk_lst (F := [])) ⟨upd_same, rps_dInts ms⟩ ⟨fun _ e => (nomatch e), fun a ha i g hb => by
    rw [List.mem_singleton.mp ha] at hb
    exact absurd hc (I.tracked g (.inl rfl) c hb)⟩, fun env Q Q' k q => k _ q⟩
def teDice (wi : TI) : TE := tLst (tCons (tLc wi (gName 1) tYes (tCB rAbs (tCons (tCB rInt1 (tCons (tVar 1) tNil)) tNil)) [1]) (tCons (tC (.int 0)) (tCons (tC (.int 0)) (tCons (tC (.int 1)) (tCons (tC (.int 0)) tNil)))))
def xDiceL (mi : XL) : X1 := xLst (xCons (xLc mi (bName 1) bYes (x1 oAbs (x1 oInt (xVar 1)))) (xCons (xC (.int 0)) (xCons (xC (.int 0)) (xCons (xC (.int 1)) (xCons (xC (.int 0)) xNil)))))
theorem sim_teDice {wi : TI} {mi : XL} (s : SimI (C0 S) [.x, .x] wi .own mi) : Sim (C0 S) [.x, .x] (teDice wi) .own (xDiceL mi) :=
  sim_lst (siml_cons (sim_lc (Γf := [.x, .x]) (ws := [1]) (ks := [1]) (by intro k hk; exact free_nil) s rfl rfl (simg_name (i := 1) free_nil (by decide) (by decide)) (by decide) simt_yes (sim_call1 sc_abs (sim_call1 sc_int (sim_varF (i := 1) rfl)))) (siml_cons sim_int (siml_cons sim_int (siml_cons sim_int (siml_cons sim_int siml_nil)))))
theorem lc_abs {env : PEnv} (he : env.length = 2) : ∀ (ms : List Int) (acc : List Int) (Q : List D → Prop), acc.length + ms.length ≤ 63 → (∀ cs : List Int, cs.length ≤ 63 → Q (dInts cs)) → lcLoop (bName 1) bYes (x1 oAbs (x1 oInt (xVar 1))) env (dInts ms) (dInts acc) Q
  | [], acc, Q, h, q => q acc (by simpa using h)
  | m :: ms, acc, Q, h, q => by
    match env, he with
    | [a, b], _ =>
      have hl : (dInts acc).length = acc.length := by simp [dInts]
      have h63 : 63 < sizeLine := by decide
      simp at h
      refine ⟨by rw [hl]; omega, ?_⟩
      have := lc_abs (env := [a, b]) rfl ms (acc ++ [if m < 0 then -m else m]) Q (by simp; omega) q
      simpa [dInts] using this
def spDice (K : PySem.W.Frag) : Sp := fun vs H Q _ => ∃ (a : Addr) (ns : List Int), vs = [.ref a] ∧ SqL K H a (ns.map V.int) ∧ ns.length ≤ 63 ∧
  ∀ (p : Addr × Addr) (H' : Hp) (cs zs : List Int), IvDraw cs zs → DS p H' cs zs → Fr (fun _ => False) H H' → Q (.ref p.1) H'
theorem cut_ints (ns : List Int) (lo hi : Option Int) : ∃ ms : List Int, cutV (ns.map V.int) lo hi = vInts ms ∧ ms.length ≤ ns.length := by
  refine ⟨(ns.drop (HT.sIx (ns.map V.int).length 0 lo)).take (HT.sIx (ns.map V.int).length (ns.map V.int).length hi - HT.sIx (ns.map V.int).length 0 lo), ?_, ?_⟩
  · unfold cutV vInts
    rw [List.map_take, List.map_drop]
  · rw [List.length_take, List.length_drop]
    omega
end
theorem dice_ok {P : Program} {w : World} {K : PySem.W.Frag} {mg : Str → Option Value} {base : Heap} {x qual : Str} {st : Stmt} {f : Addr} {fd : FuncData} {k : Nat}
    (Fn : Fun K x qual st f fd) (Sc : FnScope ["script", "cell"] ["script"] (defScope st))
    (hbody : ∀ (cdv : Value) (A : Around) (outer : List Env) (s : Shared) (H : Hp) (E : XK), Room k (A.deeper (envOfC qual (defScope st) s.heap.objs.size f cdv)) →
      PSs (cxOf CX0 P w K mg base ["script", "cell"] qual (defScope st) f cdv A outer s H E).nox (defBody st) (tRet (teDice (iSeq K (tSl (rSlL K) (tVar 0) tNoPart (tPart (tC (.int 63)))))))) :
    FnOk P w K mg base CX0 (k + 1) f fd ["script"] (spDice K) := by
  refine Fn.ok Sc (fun vs H Q E ⟨a, ns, e, _⟩ => by rw [e]; rfl) (fun cdv A outer s H vs Q E hr ⟨a, ns, e, hS, hl, q⟩ => ?_)
  subst e
  refine ⟨_, hbody cdv A outer s H E hr, ?_⟩
  obtain ⟨ms, e1, e2⟩ := cut_ints ns none (some 63)
  have I : Ok (C0 (⟨fun _ => 0, fun _ _ _ => True⟩ : Stat)) [.x, .x] (L2.start ["script", "cell"] [.ref a]) H [none, none] (fun _ => []) := by
    refine ⟨rfl, rfl, fun i m h l => ?_, fun i h => ?_, fun i h => ?_, fun i j m h => ?_, fun _ _ _ _ _ e => (nomatch e), (fun _ e => nomatch e), (fun _ e => nomatch e)⟩
    all_goals
      match i, h with
      | 0, h => first | (cases h; rcases l with l | l <;> cases l) | cases h
      | 1, h => first | (cases h; rcases l with l | l <;> cases l) | cases h
      | i + 2, h => simp at h
  have key := (sim_teDice (S := ⟨fun _ => 0, fun _ _ _ => True⟩) (simi_new (K := K) (ms := ms))).run _ H _ _ Q I ?_
  · refine ⟨.ref a, rfl, 63, rfl, a, _, rfl, hS, fun c hc => ⟨c, rfl, .inl ⟨⟨_, SqL.of upd_same⟩, ?_⟩⟩⟩
    rw [e1]
    exact key c hc
  · refine lc_abs rfl ms [] _ (by simp; omega) fun cs hcs => ⟨by show 5 ≤ sizeLine; decide, fun v H' F f dk r kd => ?_⟩
    have aux : ∀ (zs : List Int) (vs : List V) (F : List Addr), Rps (C0 (⟨fun _ => 0, fun _ _ _ => True⟩ : Stat)).CT H' vs (dInts zs) F → vs = vInts zs := by
      intro zs
      induction zs with
      | nil => intro vs F r; cases r; rfl
      | cons c zs ih =>
        intro vs F r
        cases r with
        | cons q r =>
          cases q
          rw [ih _ _ r]
          rfl
    cases r with
    | @lst a1 vs0 _ F0 h1 r1 =>
      cases r1 with
      | @cons v1 _ Fa Ga vs1 _ q1 r2 =>
        cases q1 with
        | @lst a2 vs2 _ F2 h2 r3 =>
          have z1 := aux [0, 0, 1, 0] _ _ r2
          have z2 := aux cs _ _ r3
          subst z1 z2
          refine q (a1, a2) H' cs [0, 0, 1, 0] ⟨hcs, _, _, _, _, rfl, by decide, by decide, by decide⟩ ⟨fun e => ?_, h1, h2⟩ (f.mono fun _ w => (wq0 w).elim)
          have e : a1 = a2 := e
          rw [e, h2] at h1
          have h1 := Option.some.inj h1
          cases cs <;> simp [vInts] at h1
def spLaw (K : PySem.W.Frag) : Sp := fun vs H Q _ => ∃ (a : Addr) (ns : List Int), vs = [.ref a] ∧ SqL K H a (ns.map V.int) ∧ ns.length ≤ 63 ∧ ∀ H', Q (.bl true) H'
def gamL (n : Nat) : List Mo := .x :: .q :: List.replicate n .x
def lawEnds : PEnds := { nx := fun _ => False, rt := fun d => d = .bl true, bk := fun _ => False, ct := fun _ => False }
theorem law_ok {P : Program} {w : World} {K : PySem.W.Frag} {mg : Str → Option Value} {base : Heap} {x qual : Str} {st : Stmt} {f : Addr} {fd : FuncData} {N : List Str} {k n : Nat} {S : Stat} {b : XS} {Γe : List Mo}
    (Fn : Fun K x qual st f fd) (Sc : FnScope N ["script"] (defScope st)) (hN : N.length = n + 2) (hS : S.DQ = DQi IvDraw)
    (hbody : ∀ (cdv : Value) (A : Around) (outer : List Env) (s : Shared) (H : Hp) (E : XK), Room k (A.deeper (envOfC qual (defScope st) s.heap.objs.size f cdv)) →
      ∃ t, PSs (cxOf CX0 P w K mg base N qual (defScope st) f cdv A outer s H E).nox (defBody st) (tSeq (tAsg (tCall (spDice K) [] E0 (tCons (tVar 0) tNil)) (gName 1)) t) ∧ ∀ q, SimS ⟨S, q, []⟩ [] (gamL n) Γe t b)
    (hpure : b lawEnds (List.replicate (n + 2) none)) : FnOk P w K mg base CX0 (k + 1) f fd ["script"] (spLaw K) := by
  refine Fn.ok Sc (fun vs H Q E ⟨a, ns, e, _⟩ => by rw [e]; rfl) (fun cdv A outer s H vs Q E hr ⟨a, ns, e, hS1, hl, q⟩ => ?_)
  subst e
  obtain ⟨t, ht, hs⟩ := hbody cdv A outer s H E hr
  refine ⟨_, ht, ?_⟩
  refine ⟨.ref a, ?_, a, ns, rfl, hS1, hl, fun p H' cs zs iv ds ff => ?_⟩
  · unfold L2.start; rfl
  have hl2 : (L2.start N [.ref a]).length = n + 2 := by unfold L2.start; simp [hN]
  have I : Ok ⟨S, some p, []⟩ (gamL n) ((L2.start N [.ref a]).set 1 (some (.ref p.1))) H' (List.replicate (n + 2) none) (fun _ => []) := by
    refine ⟨by simp [gamL], by rw [List.length_set, hl2]; simp [gamL], fun i m h l => ?_, fun i h => ?_, fun i h => ?_, fun i j m h => ?_, fun _ _ _ _ => NoQ.nil, fun p' e => ?_, fun _ e => nomatch e⟩
    · match i, h with
      | 0, h => cases h; rcases l with l | l <;> cases l
      | 1, h => cases h; rcases l with l | l <;> cases l
      | i + 2, h =>
        have h : (List.replicate n Mo.x)[i]? = some m := h
        rw [List.getElem?_replicate] at h
        split at h <;> cases h
        rcases l with l | l <;> cases l
    · match i, h with
      | 0, h => cases h
      | 1, h => exact ⟨p, rfl, by rw [List.getElem?_set_self (by rw [hl2]; omega)]⟩
      | i + 2, h =>
        have h : (List.replicate n Mo.x)[i]? = some .q := h
        rw [List.getElem?_replicate] at h
        split at h <;> cases h
    · match i, h with
      | 0, h => cases h
      | 1, h => cases h
      | i + 2, h =>
        have h : (List.replicate n Mo.x)[i]? = some .o := h
        rw [List.getElem?_replicate] at h
        split at h <;> cases h
    · match i, h with
      | 0, h => cases h
      | 1, h => cases h
      | i + 2, h =>
        have h : (List.replicate n Mo.x)[i]? = some .o := h
        rw [List.getElem?_replicate] at h
        split at h <;> cases h
    · cases e
      exact ⟨_, _, ds.a1, ds.a2, by show S.DQ _ _ _; rw [hS]; exact ⟨cs, zs, iv, ds.ne, rfl, rfl⟩⟩
  refine (hs (some p)).run _ H' _ _ _ lawEnds I ⟨fun _ _ _ _ _ _ z => z.elim, fun _ _ _ _ _ _ z => z.elim, fun _ _ _ _ _ _ z => z.elim, fun v H2 d F _ _ r _ _ _ e => ?_⟩ hpure
  have e : d = .bl true := e
  subst e
  cases r
  exact q _
end Pu
set_option Elab.async false
set_option linter.all false
set_option maxRecDepth 100000
namespace PuS
open PySem PySem.Spec PyProof.Rows SrtO
open HT (lexLt)
theorem lex_irr : ∀ a : List Int, lexLt a a = false
  | [] => rfl
  | x :: a => by rw [HT.lexLt_cons, if_pos rfl]; exact lex_irr a
theorem lex_asym : ∀ a b : List Int, lexLt a b = true → lexLt b a = false
  | [], [], h => rfl
  | [], _ :: _, h => rfl
  | _ :: _, [], h => by cases h
  | x :: a, y :: b, h => by
    rw [HT.lexLt_cons] at h ⊢
    by_cases e : x = y
    · rw [if_pos e] at h
      rw [if_pos e.symm]
      exact lex_asym a b h
    · rw [if_neg e, decide_eq_true_eq] at h
      rw [if_neg (Ne.symm e), decide_eq_false_iff_not]
      omega
theorem lex_tr : ∀ a b c : List Int, lexLt b a = false → lexLt c b = false → lexLt c a = false
  | [], b, [], _, _ => rfl
  | [], _ :: _, _ :: _, _, _ => rfl
  | [], [], _ :: _, _, _ => rfl
  | _ :: _, [], _, h, _ => by cases h
  | _ :: _, _ :: _, [], _, h => by cases h
  | x :: a, y :: b, z :: c, h1, h2 => by
    rw [HT.lexLt_cons] at h1 h2 ⊢
    by_cases e1 : y = x
    · by_cases e2 : z = y
      · rw [if_pos e1] at h1
        rw [if_pos e2] at h2
        rw [if_pos (e2.trans e1)]
        exact lex_tr a b c h1 h2
      · rw [if_neg e2, decide_eq_false_iff_not] at h2
        rw [if_neg (by omega), decide_eq_false_iff_not]
        omega
    · rw [if_neg e1, decide_eq_false_iff_not] at h1
      by_cases e2 : z = y
      · rw [if_neg (by omega), decide_eq_false_iff_not]
        omega
      · rw [if_neg e2, decide_eq_false_iff_not] at h2
        rw [if_neg (by omega), decide_eq_false_iff_not]
        omega
theorem swo_lexL {α : Type} (k : α → List Int) : Swo fun v u => lexLt (k v) (k u) := ⟨fun x y h => lex_asym _ _ h, fun x y z h1 h2 => lex_tr _ _ _ h1 h2⟩
section
variable {prog : Program} {w : World} {A : Around} {E : Value → Shared → Prop} {s : Shared}
theorem lexl {Q : Bool → Shared → Prop} {b fin : Bool} {xs ys : List Value} {ns ms : List Int} (i : Nat) (hx : IntsAre xs ns) (hy : IntsAre ys ms) (hf : fin = decide (ns.length < ms.length)) (h : Q (lexLt ns ms) s) : PySem.W.KatLex prog w A b fin Q (xs.zip ys) i s := by
  induction hx generalizing ys ms i with
  | nil =>
    have e : fin = lexLt [] ms := by
      rw [hf]
      cases ms <;> rfl
    refine PySem.W.kat_nil ?_
    rw [e]; exact h
  | @cons p t xs ns hx ih =>
    cases hy with
    | nil =>
      have e : fin = false := by rw [hf]; exact decide_eq_false (by simp)
      refine PySem.W.kat_nil ?_
      rw [e]; exact h
    | @cons q u ys ms hy =>
      rw [HT.lexLt_cons] at h
      show PySem.W.KatLex prog w A b fin Q ((.int p t, .int q u) :: xs.zip ys) i s
      refine PySem.W.kat_cons (SeqAt.EqAt.int_int p t q u prog w _ _ (PySem.W.kat_go (fun e1 => ?_) (fun e1 => ?_)))
      · have e : p = q := by simpa using e1
        rw [if_pos e] at h
        exact PySem.W.kat_yes (ih (i + 1) hy (by rw [hf]; simp) h)
      · have e : ¬ p = q := by simpa using e1
        rw [if_neg e] at h
        exact PySem.W.kat_no (TS.oneLt_ints _ h)
theorem ti_cmp {vs : List Value} {k : Value → List Int} (hp : ∀ v ∈ vs, TS.TupInts s.heap v (k v)) : Cmp prog w A s (tuples' true) (fun p => p.1 ∈ vs) (lt2 fun v u => lexLt (k v) (k u)) := by
  intro p q hm hm'
  obtain ⟨a, xs, e, ⟨o, ho, hc, n, hd⟩, i⟩ := hp _ hm
  obtain ⟨a', xs', e', ⟨o', ho', hc', n', hd'⟩, i'⟩ := hp _ hm'
  show wpAny (model prog w) A (keyLt' (tuples' true) p.1 q.1) (fun r s' => s' = s ∧ r = lexLt (k p.1) (k q.1)) (fun _ _ => False) s
  generalize k p.1 = ns at i ⊢
  generalize k q.1 = ms at i' ⊢
  rw [e, e']
  refine PySem.W.kat_lt ho hd ho' hd' (lexl 0 i i' ?_ ⟨rfl, rfl⟩)
  rw [← i.length, ← i'.length]
  simp
theorem ti_firsts {h : Heap} {k : Value → List Int} : ∀ vs : List Value, (∀ v ∈ vs, TS.TupInts h v (k v) ∧ k v ≠ []) → ∃ fs, PySem.W.KatTups h vs fs ∧ fs.length = vs.length ∧ ∀ f, f ∈ fs → ∃ n t, f = Value.int n t
  | [], _ => ⟨[], PySem.W.KatTups.nil, rfl, fun f hf => by simp at hf⟩
  | v :: vs, x => by
    obtain ⟨fs, kt, hl, hi⟩ := ti_firsts vs fun u hu => x u (List.mem_cons_of_mem _ hu)
    obtain ⟨⟨a, xs, e0, ⟨o, ho, hc, n, hdt⟩, i⟩, hn⟩ := x v List.mem_cons_self
    generalize k v = ns at i hn
    subst e0
    obtain ⟨y, ys, e⟩ : ∃ y ys, xs.toList = y :: ys := by
      cases q : xs.toList with
      | nil => rw [q] at i; cases i; exact absurd rfl hn
      | cons y ys => exact ⟨y, ys, rfl⟩
    obtain ⟨m, t, hy⟩ := i.all y (by rw [e]; exact List.mem_cons_self)
    refine ⟨y :: fs, PySem.W.KatTups.cons ho hc hdt ?_ kt, by simp [hl], fun f hf => ?_⟩
    · have z : xs.toList[0]? = some y := by rw [e] <;> rfl
      rw [Array.getElem?_toList] at z
      exact z
    · rcases List.mem_cons.mp hf with e | hf
      · exact ⟨m, t, e.trans hy⟩
      · exact hi f hf
theorem ti_sortable {a : Addr} {vs : List Value} {k : Value → List Int} (h0 : 0 < vs.length) (hp : ∀ v ∈ vs, TS.TupInts s.heap v (k v) ∧ k v ≠ []) (ha : ∀ o, s.heap.get? a = some o → o.cls ≠ .type "tuple") : SortableO prog w A s a vs fun v u => lexLt (k v) (k u) := by
  intro h' keep
  have hp' : ∀ v ∈ vs, TS.TupInts h' v (k v) ∧ k v ≠ [] := fun v hm => ⟨(hp v hm).1.keeps fun b o e c => keep b o (fun z => by subst z; exact ha o e c) e, (hp v hm).2⟩
  obtain ⟨fs, h1, h2, h3⟩ := ti_firsts vs hp'
  refine ⟨tuples' true, fun Q E hq => ?_, ti_cmp fun v hm => (hp' v hm).1⟩
  refine PySem.W.kat_kind (T := .type "int") h1 (by omega) (fun f hm => ?_) (by rfl) ?_
  · obtain ⟨x, t, rfl⟩ := h3 f hm
    exact PySem.W.Looks.now
  · rw [show (Value.type "int" != Value.type "tuple") = true by first | decide +kernel | rfl | decide]
    exact hq
end
end PuS
namespace Pu
open PySem PySem.Spec PyProof.Rows L2
def rSortTI (K : PySem.W.Frag) : List V → Hp → VK → Prop := fun vs H Q => ∃ (a : Addr) (xs : List V) (k : V → List Int), vs = [V.ref a] ∧ SqL K H a xs ∧ (∀ x ∈ xs, (k x ≠ [] ∨ xs.length < 2) ∧ ∃ t, x = V.ref t ∧ H t = some (.tup ((k x).map V.int))) ∧
  ∀ ys p, ys.Perm xs → ys.Pairwise (fun x y => HT.lexLt (k y) (k x) = false) → H p = none → Q (.ref p) (upd H p (.lst ys))
theorem cr_sortTI {X : Cx} : CallR X (.builtin "sorted") (rSortTI X.K) := by
  intro pins s σ H vs us Q I r h
  obtain ⟨a, xs, k, rfl, hs, hx, q⟩ := h
  obtain ⟨its, rv, hl, hz⟩ := I.list hs
  obtain ⟨u, rfl, ru⟩ := vals1 r
  obtain rfl : u = Value.ref a := ru
  obtain ⟨e1, e2⟩ := refs_back rv fun x m => by
    obtain ⟨_, t, e, _⟩ := hx x m
    exact ⟨t, e⟩
  have hp : ∀ v ∈ its, TS.TupInts s.heap v (k (backV v)) ∧ (k (backV v) ≠ [] ∨ its.length < 2) := fun v hv => by
    obtain ⟨t, rfl⟩ := e2 v hv
    have hm : V.ref t ∈ xs := by rw [e1]; exact List.mem_map.mpr ⟨_, hv, rfl⟩
    obtain ⟨hn, t', e, ht⟩ := hx _ hm
    cases e
    obtain ⟨i2, rv2, hT, _⟩ := I.tuple (SqT.of (K := X.K) ht)
    exact ⟨⟨t, i2.toArray, rfl, hT, (show IntsAre i2 (k (V.ref t)) from rv2.ints)⟩, hn.imp id fun h => by rw [← rv.length]; exact h⟩
  refine SrtO.sorted_ord (PuS.swo_lexL fun u => k (backV u)) hl.isList (by rw [← rv.length]; exact hz) (fun h2 h₁ a' ha kk => ?_) fun out h1 h2 => ?_
  · refine PuS.ti_sortable (s := { s with heap := h₁ }) (by omega) (fun v hm => ⟨(hp v hm).1.keeps fun b o e _ => (kk b o e).2, (hp v hm).2.resolve_right (by omega)⟩) fun o e => ?_
    have e' := e.symm.trans ha
    cases e'
    intro c
    exact absurd (Value.type.inj c) (by decide)
  · have h3 : ∀ u ∈ out, ∃ a, u = Value.ref a := fun u hu => e2 u (h2.perm.mem_iff.mp hu)
    obtain ⟨n, hn⟩ := PyProof.Rows.sortedAll_at s.heap its out.toArray
    have hb : (out.map backV).Perm xs := by rw [e1]; exact h2.perm.map backV
    refine ⟨.ref _, upd H (s.heap.objs.size + 1) (.lst (out.map backV)), I.laid (t' := s.toks) (fun b o e => PyProof.Rows.sortedAll_old e) (Nat.le_succ _) ⟨?_, out, n, vals_back h3, hn⟩, rfl, q _ _ hb ?_ (I.hok.fresh (Nat.le_succ _))⟩
    · rw [hb.length_eq]; exact hz
    · exact List.pairwise_map.mpr h1
def rSortA (K : PySem.W.Frag) : List V → Hp → VK → Prop := fun vs H Q => rSortedI K vs H Q ∨ rSortTI K vs H Q
theorem k_sortA {X : Cx} {K : PySem.W.Frag} (h : X.K = K) : CallR X (.builtin "sorted") (rSortA K) := by
  subst h
  intro pins s σ H vs us Q I r h
  rcases h with h | h
  · exact cr_sortedI pins s σ H vs us Q I r h
  · exact cr_sortTI pins s σ H vs us Q I r h
def rowsD (rows : List (List Int)) : List D := rows.map fun ns => .tup (dInts ns)
def oSortT : O1 := fun d Q => match d with
  | .lst xs => ∃ rows : List (List Int), xs = rowsD rows ∧ (∀ r ∈ rows, r ≠ [] ∨ rows.length < 2) ∧ ∀ rows' : List (List Int), rows'.Perm rows → rows'.Pairwise (fun a b => HT.lexLt b a = false) → Q (.lst (rowsD rows'))
  | _ => False
def oSortA : O1 := fun d Q => oSortI d Q ∨ oSortT d Q
def kOf (H : Hp) : V → List Int
  | .ref t => match H t with
    | some (.tup ws) => ws.map fun v => match v with | .int i => i | _ => 0
    | _ => []
  | _ => []
theorem kOf_tup {H : Hp} {t : Addr} {ns : List Int} (h : H t = some (.tup (ns.map V.int))) : kOf H (.ref t) = ns := by
  show (match H t with | some (.tup ws) => ws.map (fun v => match v with | .int i => i | _ => 0) | _ => []) = ns
  rw [h]
  show (ns.map V.int).map _ = ns
  rw [List.map_map]
  exact (List.map_congr_left fun _ _ => rfl).trans (List.map_id ns)
section
variable {CT : Nat → Addr} {H : Hp} {vs : List V} {F : List Addr} {K : PySem.W.Frag}
theorem dInts_inv : ∀ {ns : List Int} {vs : List V} {F : List Addr}, Rps CT H vs (dInts ns) F → vs = ns.map V.int
  | [], _, _, r => by cases r; rfl
  | n :: ns, _, _, r => by
    cases r with
    | cons q r =>
      cases q
      rw [dInts_inv r]
      rfl
theorem rowsD_inv : ∀ {rows : List (List Int)} {vs : List V} {F : List Addr}, Rps CT H vs (rowsD rows) F → vs.map (kOf H) = rows ∧ ∀ x ∈ vs, ∃ t, x = V.ref t ∧ H t = some (.tup ((kOf H x).map V.int))
  | [], _, _, r => by cases r; exact ⟨rfl, fun x h => by simp at h⟩
  | n :: rows, _, _, r => by
    cases r with
    | @cons v _ _ _ vs _ q r =>
      obtain ⟨h1, h2⟩ := rowsD_inv r
      cases q with
      | @tup t ws _ _ ht rt =>
        have e := dInts_inv rt
        subst e
        refine ⟨by rw [List.map_cons, kOf_tup ht, h1], fun x hx => ?_⟩
        rcases List.mem_cons.mp hx with e | hx
        · exact ⟨t, e, by rw [e, kOf_tup ht]; exact ht⟩
        · exact h2 x hx
theorem rowsD_of : ∀ {vs : List V}, (∀ x ∈ vs, ∃ t, x = V.ref t ∧ H t = some (.tup ((kOf H x).map V.int))) → Rps CT H vs (rowsD (vs.map (kOf H))) []
  | [], _ => .nil
  | v :: vs, h => by
    obtain ⟨t, e, ht⟩ := h v List.mem_cons_self
    subst e
    exact .cons (F := []) (.tup ht (rps_dInts _)) (rowsD_of fun x hx => h x (List.mem_cons_of_mem _ hx))
theorem mono_oSortT : Mono1 oSortT := fun d Q Q' k q => by
  cases d <;> first | exact q | skip
  obtain ⟨rows, e, h, q⟩ := q
  exact ⟨rows, e, h, fun r h1 h2 => k _ (q r h1 h2)⟩
theorem sc_sortT : SimC1 CT (rSortTI K) oSortT := ⟨fun H v d F Q a q => by
  cases a with
  | lst ha ra =>
    obtain ⟨rows, rfl, hne, q⟩ := q
    obtain ⟨h1, h2⟩ := rowsD_inv ra
    refine ⟨_, _, kOf H, rfl, SqL.of ha, fun x hx => ⟨(hne _ (by rw [← h1]; exact List.mem_map.mpr ⟨x, hx, rfl⟩)).imp id fun h => by rw [← h1, List.length_map] at h; exact h, h2 x hx⟩, fun ys p hp hw hn => ?_⟩
    have h3 : ∀ x ∈ ys, ∃ t, x = V.ref t ∧ H t = some (.tup ((kOf H x).map V.int)) := fun x hx => h2 x (hp.mem_iff.mp hx)
    refine New.at1 (q (ys.map (kOf H)) (by rw [← h1]; exact hp.map _) (List.pairwise_map.mpr hw)) hn (.lst upd_same ((rowsD_of h3).keep (W := fun _ => False) (Fr.new hn) fun _ z => nomatch z))
  | _ => exact (show False from q).elim, mono_oSortT⟩
theorem sc_sortA : SimC1 CT (rSortA K) oSortA := ⟨fun H v d F Q a q => q.elim (fun q => .inl (sc_sortI.run H v d F Q a q)) fun q => .inr (sc_sortT.run H v d F Q a q),
  fun d Q Q' k q => q.elim (fun q => .inl ((sc_sortI (CT := fun _ => 0) (K := default)).mono d Q Q' k q)) fun q => .inr (mono_oSortT d Q Q' k q)⟩
instance : MO1 oSortA := ⟨(sc_sortA (CT := fun _ => 0) (K := default)).mono⟩
end
end Pu
set_option Elab.async false
set_option linter.all false
set_option maxRecDepth 100000
namespace Pu
open PySem PySem.Spec PyProof.Rows L2
def keyD : Key → D
  | .inl i => .int i
  | .inr x => .str x
theorem rp_key {CT : Nat → Addr} {H : Hp} : ∀ k : Key, Rp CT H (kV k) (keyD k) []
  | .inl i => .int i
  | .inr x => .str x
theorem rps_keys {CT : Nat → Addr} {H : Hp} : ∀ ks : List Key, Rps CT H (ks.map kV) (ks.map keyD) []
  | [] => .nil
  | k :: ks => .cons (F := []) (rp_key k) (rps_keys ks)
def tkD (k : List Key) : D := .tup (k.map keyD)
def oListT : O1 := fun d Q => match d with
  | .dT kvs => Q (.lst (kvs.map fun kv => tkD kv.1))
  | _ => False
def oListK : O1 := fun d Q => match d with
  | .dK kvs => Q (.lst (kvs.map fun kv => keyD kv.1))
  | _ => False
theorem keys_rps {CT : Nat → Addr} {H : Hp} : ∀ {kvs : List (List Key × V)} {kds : List (List Key × D)} {bs : List Addr}, kvs.map (·.1) = kds.map (·.1) → IsKeys H kvs bs → Rps CT H (bs.map V.ref) (kds.map fun kv => tkD kv.1) []
  | [], [], _, _, h => by cases h; exact .nil
  | [], _ :: _, _, e, _ => by simp at e
  | _ :: _, [], _, e, _ => by simp at e
  | p :: kvs, q :: kds, _, e, h => by
    simp only [List.map_cons, List.cons.injEq] at e
    cases h with
    | cons h1 h2 =>
      refine .cons (F := []) (.tup (H := H) h1 ?_) (keys_rps e.2 h2)
      rw [e.1]
      exact rps_keys _
theorem l_dT : ∃ r, (∀ X : Cx, X.calm = true → CallR X (.type "list") r) ∧ ∀ CT, SimC1 CT r oListT := by
  refine ⟨_, fun X hc => call_list_dT hc, fun CT => ⟨fun H v d F Q a q => ?_, fun d Q Q' k q => by cases d <;> first | exact k _ q | exact q⟩⟩
  cases a with
  | dT ha he ra => exact ⟨_, _, rfl, Rd.of ha, fun p bs hp hb => New.at1 q hp (.lst upd_same ((keys_rps he hb).keep (W := fun _ => False) (Fr.new hp) fun _ z => nomatch z))⟩
  | _ => exact (show False from q).elim
noncomputable def rListT := l_dT.choose
theorem sc_listK {CT : Nat → Addr} : SimC1 CT rListD oListK := ⟨fun H v d F Q a q => by
  cases a with
  | @dK a kvs kds F ha he ra =>
    refine ⟨_, _, rfl, ha, fun p hp => ?_⟩
    have e : (kvs.map fun kv => kV kv.1) = (kds.map (·.1)).map kV := by rw [← he, List.map_map] <;> rfl
    have e2 : (kds.map fun kv => keyD kv.1) = (kds.map (·.1)).map keyD := by rw [List.map_map] <;> rfl
    have q : New CT H Q (.lst (kds.map fun kv => keyD kv.1)) := q
    rw [e2] at q
    rw [e]
    exact New.at1 q hp (.lst upd_same (rps_keys _))
  | _ => exact (show False from q).elim, fun d Q Q' k q => by cases d <;> first | exact k _ q | exact q⟩
def rListA (K : PySem.W.Frag) : List V → Hp → VK → Prop := fun vs H Q => rListO K vs H Q ∨ rListT vs H Q ∨ rListD vs H Q
def oListA : O1 := fun d Q => oList d Q ∨ oListT d Q ∨ oListK d Q
theorem sc_listA {CT : Nat → Addr} {K : PySem.W.Frag} : SimC1 CT (rListA K) oListA := ⟨fun H v d F Q a q => by
  rcases q with q | q | q
  · exact .inl (sc_list.run H v d F Q a q)
  · exact .inr (.inl ((l_dT.choose_spec.2 CT).run H v d F Q a q))
  · exact .inr (.inr (sc_listK.run H v d F Q a q)), fun d Q Q' k q => by
  rcases q with q | q | q
  · exact .inl ((sc_list (CT := fun _ => 0) (K := default)).mono d Q Q' k q)
  · exact .inr (.inl ((l_dT.choose_spec.2 CT).mono d Q Q' k q))
  · exact .inr (.inr ((sc_listK (CT := fun _ => 0)).mono d Q Q' k q))⟩
instance : MO1 oListA := ⟨(sc_listA (CT := fun _ => 0) (K := default)).mono⟩
def oLenT : O1 := fun d Q => match d with
  | .dT kvs => Q (.int ((kvs.length : Nat) : Int))
  | _ => False
def oLenK : O1 := fun d Q => match d with
  | .dK kvs => Q (.int ((kvs.length : Nat) : Int))
  | _ => False
theorem sc_lenT {CT : Nat → Addr} : SimC1 CT rLenT oLenT := ⟨fun H v d F Q a q => by
  cases a with
  | @dT a kvs kds F ha he ra =>
    have e : kvs.length = kds.length := by simpa using congrArg List.length he
    refine ⟨_, _, rfl, ha, ?_⟩
    rw [e]
    exact New.imm q (.int _)
  | _ => exact (show False from q).elim, fun d Q Q' k q => by cases d <;> first | exact k _ q | exact q⟩
theorem l_lenK : ∃ r, (∀ X : Cx, CallR X (.builtin "len") r) ∧ ∀ CT, SimC1 CT r oLenK := by
  refine ⟨_, fun X => call_lenD, fun CT => ⟨fun H v d F Q a q => ?_, fun d Q Q' k q => by cases d <;> first | exact k _ q | exact q⟩⟩
  cases a with
  | @dK a kvs kds F ha he ra =>
    have e : kvs.length = kds.length := by simpa using congrArg List.length he
    refine ⟨_, _, rfl, ha, ?_⟩
    rw [e]
    exact New.imm q (.int _)
  | _ => exact (show False from q).elim
noncomputable def rLenK := l_lenK.choose
def rLenA (K : PySem.W.Frag) : List V → Hp → VK → Prop := fun vs H Q => rLen K vs H Q ∨ rLenT vs H Q ∨ rLenK vs H Q
theorem k_lenA {X : Cx} {K : PySem.W.Frag} (h : X.K = K) : CallR X (.builtin "len") (rLenA K) := by
  subst h
  intro pins s σ H vs us Q I r h
  rcases h with h | h | h
  · exact (k_len rfl) pins s σ H vs us Q I r h
  · exact call_len_dT pins s σ H vs us Q I r h
  · exact l_lenK.choose_spec.1 X pins s σ H vs us Q I r h
def oLenA : O1 := fun d Q => oLen d Q ∨ oLenT d Q ∨ oLenK d Q
theorem sc_lenA {CT : Nat → Addr} {K : PySem.W.Frag} : SimC1 CT (rLenA K) oLenA := ⟨fun H v d F Q a q => by
  rcases q with q | q | q
  · exact .inl (sc_len.run H v d F Q a q)
  · exact .inr (.inl (sc_lenT.run H v d F Q a q))
  · exact .inr (.inr ((l_lenK.choose_spec.2 CT).run H v d F Q a q)), fun d Q Q' k q => by
  rcases q with q | q | q
  · exact .inl ((sc_len (CT := fun _ => 0) (K := default)).mono d Q Q' k q)
  · exact .inr (.inl ((sc_lenT (CT := fun _ => 0)).mono d Q Q' k q))
  · exact .inr (.inr ((l_lenK.choose_spec.2 (fun _ => 0)).mono d Q Q' k q))⟩
instance : MO1 oLenA := ⟨(sc_lenA (CT := fun _ => 0) (K := default)).mono⟩
end Pu
set_option Elab.async false
set_option linter.all false
set_option maxRecDepth 100000
namespace Pu
open PySem PySem.Spec PyProof.Rows L2
section
variable {C : Cfg} {Γ Γ' Γn Γl Γo Γt Γe Γ1 Γ2 : List Mo} {σ σ' : L2.St} {H H' H1 H2 : Hp} {env env' : PEnv} {Fs Fs' Fs1 Fs2 : Nat → List Addr} {v : V} {vs : List V} {d : D} {ds : List D} {F G : List Addr} {ta tb tc te ti : TE} {A B : Kd} {m n mc : X1} {K : PySem.W.Frag} {CT : Nat → Addr} {S : Stat} {X : Cx}
theorem fn_never {P : Program} {w : World} {mg : Str → Option Value} {base : Heap} {CX : CXT} {k : Nat} {f : Addr} {fd : FuncData} {ps : List Str} {pm : List Bool} (hp : pm.length = ps.length) : FnOk P w K mg base CX k f fd ps (SpM S pm (fun _ _ => False)) :=
  ⟨fun vs H Q E ⟨C, ds, F, _, _, a, _⟩ => by rw [a.len.1, hp], fun A outer s H args us vs Q E _ _ _ _ ⟨_, _, _, _, _, _, _, _, q⟩ => q.elim⟩
def oIsAny (cs : List String) : O1 := fun d Q => match d.ty with
  | some t => Q (.bl (cs.any fun c => subB t c))
  | none => False
theorem mono_oIsAny {cs : List String} : Mono1 (oIsAny cs) := fun d Q Q' k q => by cases d <;> first | exact k _ q | exact q
instance {cs : List String} : MO1 (oIsAny cs) := ⟨mono_oIsAny⟩
class KitBs (cs : List String) : Prop where
  h : ∀ (K : PySem.W.Frag) (d : D) (t : String), d.ty = some t → PySem.W.kitAny K (.type t) (cs.map Value.type) = some (cs.any fun c => subB t c)
instance : KitBs ["tuple", "list"] := ⟨fun K d t h => by cases d <;> simp [D.ty] at h <;> subst h <;> rfl⟩
instance : KitBs ["bool", "str"] := ⟨fun K d t h => by cases d <;> simp [D.ty] at h <;> subst h <;> rfl⟩
abbrev XE := PEnv → (D → PEnv → Prop) → Prop
def Apart (Γ : List Mo) (Fs : Nat → List Addr) (F : List Addr) : Prop := ∀ (j : Nat) (m : Mo), Γ[j]? = some m → live m → ∀ a ∈ F, a ∉ Fs j
structure SimE (C : Cfg) (Γ : List Mo) (t : TE) (m : XE) : Prop where
  run : ∀ (σ : L2.St) (H : Hp) (env : PEnv) (Fs : Nat → List Addr) (Q : VK), Ok C Γ σ H env Fs →
    m env (fun d env' => ∀ v H' F Fs', Ok C Γ σ H' env' Fs' → Go C Γ Fs H Γ Fs' H' → Rp C.CT H' v d F → F.Nodup → NoQ C F → Apart Γ Fs' F → Mine Γ Fs H F → Q v H') → t σ H Q
  mono : ∀ env (Q Q' : D → PEnv → Prop), (∀ d e, Q d e → Q' d e) → m env Q → m env Q'
class MXE (m : XE) : Prop where
  mono : ∀ env (Q Q' : D → PEnv → Prop), (∀ d e, Q d e → Q' d e) → m env Q → m env Q'
def sSetE (i : Nat) (m : XE) : XS := fun E env => m env fun d env' => E.nx (env'.set i (some d))
instance {i : Nat} {m : XE} [h : MXE m] : MS (sSetE i m) := ⟨fun p q => h.mono _ _ _ (fun d e q => p.1 _ q) q⟩
def sRetE (m : XE) : XS := fun E env => m env fun d _ => E.rt d
instance {m : XE} [h : MXE m] : MS (sRetE m) := ⟨fun p q => h.mono _ _ _ (fun d e q => p.2.1 _ q) q⟩
def sAppE (j : Nat) (m : XE) : XS := fun E env => m env fun e env' => xVar j env' fun d => onL d fun xs => xs.length < sizeLine ∧ E.nx (env'.set j (some (.lst (xs ++ [e]))))
def isL (d : Option (Option D)) : Prop := match d with
  | some (some (.lst _)) => True
  | _ => False
def sAppE' (j : Nat) (m : XE) : XS := fun E env => isL env[j]? ∧ sAppE j m E env
instance {j : Nat} {m : XE} [h : MXE m] : MS (sAppE' j m) := ⟨fun p q => ⟨q.1, h.mono _ _ _ (fun d e q => mono_var _ _ _ (fun d q => onL_mono (fun ds q => ⟨q.1, p.1 _ q.2⟩) q) q) q.2⟩⟩
def popQ (xs : List D) (e : D) (Q : D → List D → Prop) : Prop := match e with
  | .int k => -(2 ^ 63) ≤ k ∧ k < 2 ^ 63 ∧ (match seqIndex? k xs.length with
    | some j => (match xs[j]? with | some x => Q x (xs.eraseIdx j) | none => False)
    | none => False)
  | _ => False
theorem popQ_mono {xs : List D} {e : D} {Q Q' : D → List D → Prop} (h : ∀ x ys, Q x ys → Q' x ys) (q : popQ xs e Q) : popQ xs e Q' := by
  unfold popQ at q ⊢
  split at q
  · refine ⟨q.1, q.2.1, ?_⟩
    have q := q.2.2
    split at q
    · split at q
      · exact h _ _ q
      · exact q
    · exact q
  · exact q
def xPop (i : Nat) (n : X1) : XE := fun env Q => xVar i env fun d => onL d fun xs => n env fun e => popQ xs e fun x ys => Q x (env.set i (some (.lst ys)))
instance {i : Nat} [h : MX n] : MXE (xPop i n) := ⟨fun env Q Q' k q => mono_var _ _ _ (fun d q => onL_mono (fun ds q => h.mono _ _ _ (fun e q => popQ_mono (fun x ys q => k _ _ q) q) q) q) q⟩
end
end Pu
set_option Elab.async false
set_option linter.all false
set_option maxRecDepth 100000
set_option maxHeartbeats 4000000
namespace Pu
open PySem PySem.Spec PyProof.Rows L2
section
variable {P : Program} {w : World} {A : Around} {E : Value → Shared → Prop} {s : Shared}
end
end Pu
set_option Elab.async false
set_option linter.all false
set_option maxRecDepth 100000
namespace Pu
open PySem PySem.Spec PyProof.Rows L2
section
variable {X : Cx}
end
end Pu
set_option Elab.async false
set_option linter.all false
set_option maxRecDepth 100000
namespace Pu
open PySem PySem.Spec PyProof.Rows L2
def oRepL : O2 := fun d e Q => match d, e with
  | .lst xs, .int k => immL xs = true ∧ -(2 ^ 63) ≤ k ∧ k < 2 ^ 63 ∧ xs.length * k.toNat ≤ sizeLine ∧ Q (.lst (List.replicate k.toNat xs).flatten)
  | _, _ => False
theorem mono_oRepL : Mono2 oRepL := fun d e Q Q' h q => by
  cases d <;> first | exact q | skip
  cases e <;> first | exact q | skip
  exact ⟨q.1, q.2.1, q.2.2.1, q.2.2.2.1, h _ q.2.2.2.2⟩
instance : MO2 oRepL := ⟨mono_oRepL⟩
theorem Rps.rep {CT : Nat → Addr} {H : Hp} {vs : List V} {ds : List D} (r : Rps CT H vs ds []) : ∀ k : Nat, Rps CT H (List.replicate k vs).flatten (List.replicate k ds).flatten []
  | 0 => .nil
  | k + 1 => by
    rw [List.replicate_succ, List.replicate_succ, List.flatten_cons, List.flatten_cons]
    have := r.append (Rps.rep r k)
    simpa using this
theorem so_repL {CT : Nat → Addr} : SimO2 CT rRep oRepL := ⟨fun H v w d e F G Q a b q => by
  cases a with
  | lst ha ra =>
    cases b with
    | int k =>
      obtain ⟨i1, h1, h2, z, q⟩ := q
      have e1 := ra.imm i1
      subst e1
      exact ⟨_, k, _, rfl, rfl, ha, h1, h2, by rw [ra.length]; exact z, fun p hp => New.at1 q hp (.lst upd_same ((ra.rep k.toNat).keep (W := fun _ => False) (Fr.new hp) fun _ h => nomatch h))⟩
    | _ => exact (show False from q).elim
  | _ => exact (show False from q).elim, mono_oRepL⟩
theorem lex_asym : ∀ {a b : List Int}, HT.lexLt a b = true → HT.lexLt b a = false
  | [], [], h => by simp [HT.lexLt] at h
  | [], _ :: _, _ => rfl
  | _ :: _, [], h => by simp [HT.lexLt] at h
  | x :: a, y :: b, h => by
    unfold HT.lexLt at h ⊢
    split at h
    · rename_i e
      rw [if_pos e.symm]; exact lex_asym h
    · rename_i e
      have h := of_decide_eq_true h
      rw [if_neg (Ne.symm e), decide_eq_false (by omega)]
end Pu
set_option Elab.async false
set_option linter.all false
set_option maxRecDepth 100000
namespace Pu
open PySem PySem.Spec PyProof.Rows L2
section
variable {C : Cfg} {Γ Γ' Γn Γl Γo Γt Γe Γ1 Γ2 : List Mo} {σ σ' : L2.St} {H H' H1 H2 : Hp} {env env' : PEnv} {Fs Fs' Fs1 Fs2 : Nat → List Addr} {v : V} {vs : List V} {d : D} {ds : List D} {F G : List Addr} {ta tb tc te ti tn : TE} {t : TA} {A B : Kd} {m n mc : X1} {K : PySem.W.Frag} {CT : Nat → Addr} {S : Stat} {X : Cx}
theorem Ok.inner (I : Ok C Γ σ H env Fs) {i : Nat} (g : Γ[i]? = some .o) {a : Addr} {o u : HO} {v : V} {d' : D} {F' : List Addr} (hv : σ[i]? = some (some v)) (ha : H a = some o) (hi : Im o = false) (hm : a ∈ Fs i)
    (r : Rp C.CT (upd H a u) v d' F') (nd : F'.Nodup) (sub : ∀ b ∈ F', b ∈ Fs i ∨ ∀ (j : Nat) (m : Mo), Γ[j]? = some m → live m → b ∉ Fs j) (nq : NoQ C F') :
    Ok C Γ σ (upd H a u) (env.set i (some d')) (setF Fs i F') := by
  have fr : Fr (fun b => b = a) H (upd H a u) := Fr.at rfl ha hi
  have hΓ : i < Γ.length := (List.getElem?_eq_some_iff.mp g).1
  refine ⟨by simp [I.le], I.ls, fun j m gj l => ?_, I.dice, fun j gj => ?_, fun j k m gj gk l ne b hb hb' => ?_, fun j m gj l => ?_, fun p e => ?_, I.pn⟩
  · by_cases e : j = i
    · subst e
      exact ⟨_, d', hv, by rw [List.getElem?_set_self (by rw [I.le]; exact hΓ)], by rw [setF_same]; exact r⟩
    · obtain ⟨v, d, h1, h2, h3⟩ := I.val j m gj l
      refine ⟨v, d, h1, by rw [List.getElem?_set_ne (Ne.symm e)]; exact h2, ?_⟩
      rw [setF_ne e]
      exact h3.keep fr fun b hb z => I.dj i j m g gj l (Ne.symm e) a hm (z ▸ hb)
  · by_cases e : j = i
    · subst e; rw [setF_same]; exact nd
    · rw [setF_ne e]; exact I.nd j gj
  · by_cases e : j = i
    · subst e
      rw [setF_same] at hb
      rw [setF_ne (Ne.symm ne)] at hb'
      rcases sub b hb with z | z
      · exact I.dj j k m g gk l ne b z hb'
      · exact z k m gk l hb'
    · rw [setF_ne e] at hb
      by_cases e2 : k = i
      · subst e2
        rw [setF_same] at hb'
        rcases sub b hb' with z | z
        · exact I.dj j k .o gj g (.inl rfl) ne b hb z
        · exact z j .o gj (.inl rfl) hb
      · rw [setF_ne e2] at hb'
        exact I.dj j k m gj gk l ne b hb hb'
  · by_cases e : j = i
    · subst e; rw [setF_same]; exact nq
    · rw [setF_ne e]; exact I.nq j m gj l
  · obtain ⟨o1, u1, h1, h2, r1⟩ := (I.dk p e).ex
    have nq := I.nq i _ g (.inl rfl) p e
    exact ⟨o1, u1, by rw [upd_ne (fun z => nq.1 (by rw [z]; exact hm))]; exact h1, by rw [upd_ne (fun z => nq.2 (by rw [z]; exact hm))]; exact h2, r1⟩
theorem Lk.inner {D : Ends} {E : PEnds} (lk : Lk C Γ Fs H Γ Γl D E) (I : Ok C Γ σ H env Fs) (f : Fr (Wq C) H H1) (dk : DiceOk C H1) {i : Nat} (g : Γ[i]? = some .o) {a : Addr} {o u : HO} {v : V} {d' : Pu.D} {F' : List Addr}
    (hv : σ[i]? = some (some v)) (ha : H1 a = some o) (hi : Im o = false) (hm : a ∈ Fs i) (r : Rp C.CT (L2.upd H1 a u) v d' F') (nd : F'.Nodup) (hs : ∀ b ∈ F', b ∈ Fs i ∨ H b = none)
    (q : E.nx (env.set i (some d'))) : D.nx σ (L2.upd H1 a u) := by
  have nq : NoQ C F' := fun p ep => by
    have h1 := I.nq i _ g (.inl rfl) p ep
    refine ⟨fun z => ?_, fun z => ?_⟩
    · rcases hs _ z with z | z
      · exact h1.1 z
      · exact (I.dk p ep).t1 z
    · rcases hs _ z with z | z
      · exact h1.2 z
      · exact (I.dk p ep).t2 z
  have I1 := I.step f dk
  refine lk.nx σ _ _ _ (I1.inner g hv ha hi hm r nd (fun b hb => ?_) nq) ⟨(f.mono fun _ w => .inl w).trans (Fr.at (.inr ⟨i, g, hm⟩) ha hi), fun j gj b hb => ?_⟩ q
  · rcases hs b hb with z | z
    · exact .inl z
    · exact .inr fun j m gj l hb => I.tracked gj l b hb z
  · by_cases ej : j = i
    · subst ej
      rw [setF_same] at hb
      exact (hs b hb).imp (fun z => ⟨j, g, z⟩) id
    · rw [setF_ne ej] at hb; exact .inl ⟨j, gj, hb⟩
def updC (d k : D) (f : D → (D → Prop) → Prop) (Q : D → Prop) : Prop := match d with
  | .lst xs => (match k with | .int i => (match ixN xs.length i with | some j => (match xs[j]? with | some x => f x fun x' => Q (.lst (xs.set j x')) | none => False) | none => False) | _ => False)
  | _ => False
theorem updC_mono {d k : D} {f f' : D → (D → Prop) → Prop} {Q Q' : D → Prop} (hf : ∀ x Q Q', (∀ y, Q y → Q' y) → f x Q → f' x Q') (h : ∀ y, Q y → Q' y) (q : updC d k f Q) : updC d k f' Q' := by
  unfold updC at q ⊢
  split at q <;> first | exact q | skip
  split at q <;> first | exact q | skip
  split at q <;> first | exact q | skip
  split at q <;> first | exact q | skip
  exact hf _ _ _ (fun y q => h _ q) q
def sLmAt (i : Nat) (n : X1) (u : UL) (ms : XL) : XS := fun E env => xVar i env fun d => n env fun k => updC d k (fun x R => onL x fun xs => ms env fun es => u xs es fun ds => R (.lst ds)) fun d' => E.nx (env.set i (some d'))
instance {i : Nat} {u : UL} {ms : XL} [h0 : MX n] [h : MU u] [h' : MX ms] : MS (sLmAt i n u ms) := ⟨fun p q => mono_var _ _ _ (fun d q => h0.mono _ _ _ (fun k q => updC_mono (fun x Q Q' hQ q => onL_mono (fun ds q => h'.mono _ _ _ (fun e q => h.mono _ _ _ _ (fun ds q => hQ _ q) q) q) q) (fun y q => p.1 _ q) q) q) q⟩
def uApp : UL := fun xs es Q => match es with
  | [e] => xs.length < sizeLine ∧ Q (xs ++ [e])
  | _ => False
theorem lo_app : LmOk rAppend uApp := by
  refine ⟨?_, ?_⟩
  · intro CT H a vs ws ds es F G Q ha r r2 q
    match es, r2, q with
    | [e], r2, q =>
      obtain ⟨v, rfl, q1⟩ := r2.one_of
      refine ⟨a, vs, v, rfl, rfl, ha, by rw [r.length]; exact q.1, q.2 _ (F ++ (G ++ [])) _ (r.append (.cons q1 .nil)) (fun b hb => ?_) fun nd => ?_⟩
      · simpa using hb
      · simpa using nd
  · intro ds es Q Q' kk q
    match es, q with
    | [e], q => exact ⟨q.1, kk _ q.2⟩
instance : MU uApp := ⟨lo_app.mono⟩
end
end Pu
set_option Elab.async false
set_option linter.all false
set_option maxRecDepth 100000
namespace Pu
open PySem PySem.Spec PyProof.Rows L2
theorem tuple_mul1 (l : Addr) (its : Array Value) (n : Nat) (dd : Option Addr) (sl : Array (Option Value)) (u : Tok) :
    Meets (Builtin.«tuple.__mul__» ⟨[.ref l, .int 1 u], []⟩) (fun _ R s => s.heap.get? l = some { cls := .type "tuple", dict := dd, data := .seq its n, slots := sl } ∧ R (.ok (.ret (Value.ref l))) s) :=
  .of_wp fun prog w A R s h => by
    obtain ⟨hp, g, d, tk, os⟩ := s
    obtain ⟨hl, h⟩ := h
    have f1 := AutoSeq1.idx_int
    have c0 : (decide ((1 : Int) < -(2 ^ 63)) || decide ((1 : Int) ≥ 2 ^ 63)) = false := by decide
    have c1 : (its.isEmpty || (1 : Int) == 1) = true := by simp
    wp_walk using wpAny_loadPart' hl
    repeat (first
      | (refine wpAny_ite_false (decide_eq_false (by rw [c0]; decide)) ?_; wp_walk using wpAny_loadPart' hl)
      | (refine wpAny_ite_true (decide_eq_true (by rw [c1])) ?_; wp_walk using wpAny_loadPart' hl))
    exact ⟨_, rfl, h⟩
def rRepT1 (K : PySem.W.Frag) : R2 := fun x y H Q => ∃ l xs, x = .ref l ∧ y = .int 1 ∧ SqT K H l xs ∧ Q (.ref l) H
theorem op_repT1 {X : Cx} : OpR X (binaryOp .Mult) (rRepT1 X.K) := by
  intro pins s σ H x y v u Q I rx ry h
  obtain ⟨l, xs, rfl, rfl, hT, q⟩ := h
  cases rx
  obtain ⟨t, rfl⟩ := ry
  obtain ⟨it2, r2, ⟨⟨oc, od, oa, os⟩, ho, e1, n2, e2⟩, hz⟩ := I.tuple hT
  simp only at e1 e2
  subst e1 e2
  refine wpAny_binaryOp_repeat_ref (T := "tuple") (U := "int") (by decide) ⟨_, ho, rfl⟩ (fun s' => typeIs_int s' 1 t) noFill_tuple_mul F.fills_int_mul F.slot_int_rmul repeat_tuple F.slot_int_index.lookup ?_
  refine call_meets F.slot_int_rmul (typeIs_int s 1 t) F.entry_int_rmul (F.args_int_rmul_2 _ _) (int_rmul_tuple 1 t l it2.toArray n2 od os) ⟨ho, rfl, ⟨_, ho, rfl⟩, ?_⟩
  exact call_meets F.slot_tuple_mul ⟨_, ho, rfl⟩ F.entry_tuple_mul (F.args_tuple_mul_2 _ _) (tuple_mul1 l it2.toArray n2 od os t) ⟨ho, ⟨.ref l, H, I, rfl, q⟩⟩
def rRepTA (K : PySem.W.Frag) : R2 := fun x y H Q => rRepT K x y H Q ∨ rRepT1 K x y H Q
def oRepT : O2 := fun d e Q => match d, e with
  | .tup xs, .int k => immL xs = true ∧ xs ≠ [] ∧ 1 ≤ k ∧ k ≤ 1000 ∧ xs.length ≤ 1000 ∧ Q (.tup (List.replicate k.toNat xs).flatten)
  | _, _ => False
theorem mono_oRepT : Mono2 oRepT := fun d e Q Q' h q => by
  cases d <;> first | exact q | skip
  cases e <;> first | exact q | skip
  exact ⟨q.1, q.2.1, q.2.2.1, q.2.2.2.1, q.2.2.2.2.1, h _ q.2.2.2.2.2⟩
instance : MO2 oRepT := ⟨mono_oRepT⟩
theorem so_repT {CT : Nat → Addr} {K : PySem.W.Frag} : SimO2 CT (rRepTA K) oRepT := ⟨fun H v w d e F G Q a b q => by
  cases a with
  | tup ha ra =>
    cases b with
    | int k =>
      obtain ⟨i1, hne, h1, h2, z, q⟩ := q
      have e1 := ra.imm i1
      subst e1
      by_cases hk : k = 1
      · subst hk
        rw [show (List.replicate (1 : Int).toNat _).flatten = _ from List.append_nil _] at q
        exact .inr ⟨_, _, rfl, rfl, SqT.of ha, New.imm q (.tup ha ra)⟩
      · refine .inl ⟨_, k, _, rfl, rfl, SqT.of ha, fun e => hne ?_, by omega, h2, by rw [ra.length]; exact z, fun p hp => New.at q hp (.tup upd_same ((ra.rep k.toNat).keep (W := fun _ => False) (Fr.new hp) fun _ h => nomatch h))⟩
        have := ra.length
        rw [e] at this
        exact List.eq_nil_of_length_eq_zero this.symm
    | _ => exact (show False from q).elim
  | _ => exact (show False from q).elim, mono_oRepT⟩
section
variable {C : Cfg} {Γ Γ' Γn Γl Γo Γt Γe Γ1 Γ2 : List Mo} {σ σ' : L2.St} {H H' H1 H2 : Hp} {env env' : PEnv} {Fs Fs' Fs1 Fs2 : Nat → List Addr} {v : V} {vs : List V} {d : D} {ds : List D} {F G : List Addr} {ta tb tc te ti tn tm tv : TE} {t : TA} {A B A' : Kd} {m n mc mv : X1} {K : PySem.W.Frag} {CT : Nat → Addr} {S : Stat} {X : Cx}
end
end Pu
set_option Elab.async false
set_option linter.all false
set_option maxRecDepth 100000
namespace Pu
open PySem PySem.Spec PyProof.Rows L2
section
variable {C : Cfg} {Γ Γ' Γn Γl Γo Γt Γe Γ1 Γ2 : List Mo} {σ σ' : L2.St} {H H' H1 H2 : Hp} {env env' : PEnv} {Fs Fs' Fs1 Fs2 : Nat → List Addr} {v : V} {vs : List V} {d : D} {ds : List D} {F G : List Addr} {ta tb tc te ti tn tm tv : TE} {t : TA} {A B A' B' : Kd} {m n mc mv : X1} {K : PySem.W.Frag} {CT : Nat → Addr} {S : Stat} {X : Cx}
def sPar (i j : Nat) (r : XL) : XS := fun E env => r env fun ds => match ds with
  | [d, e] => E.nx ((env.set i (some d)).set j (some e))
  | _ => False
theorem mono_sPar {i j : Nat} {r : XL} (h : Mono r) : ∀ E E' env, PLe E E' → sPar i j r E env → sPar i j r E' env := fun E E' env p q => h env _ _ (fun ds q => by
  match ds, q with
  | [d, e], q => exact p.1 _ q) q
instance {i j : Nat} {r : XL} [h : MX r] : MS (sPar i j r) := ⟨fun p q => mono_sPar h.mono _ _ _ p q⟩
theorem sim_par {i j : Nat} {r : XL} (fi : Free C i) (fj : Free C j) (hi : i < Γ.length) (hj : j < Γ.length) (ne : i ≠ j) (s : SimL C Γ t .own r) : SimS C Γl Γ ((Γ.set i .o).set j .o) (tPar i j t) (sPar i j r) :=
  ⟨fun σ H env Fs D E I l h => s.run σ H env Fs _ I (s.mono env _ _ (fun ds q vs H1 F f dk rs k => by
    match ds, rs, q with
    | [d, e], rs, q =>
      obtain ⟨v, w, G1, G2, rfl, r1, r2, rfl⟩ := rs.two_of
      obtain ⟨nd1, nd2, nd3⟩ := List.nodup_append.mp k.2.1
      have new1 : ∀ a ∈ G1, H a = none := fun a ha => k.2.2 a (List.mem_append_left _ ha)
      have new2 : ∀ a ∈ G2, H a = none := fun a ha => k.2.2 a (List.mem_append_right _ ha)
      have I1 := I.setO f dk fi hi r1 ⟨NoQ.new I.dk new1, nd1, new1⟩
      have ap : ∀ a ∈ G2, ∀ (k' : Nat) (mo : Mo), (Γ.set i .o)[k']? = some mo → live mo → k' ≠ j → a ∉ setF Fs i G1 k' := fun a ha k' mo g l _ hb => by
        rcases get_set g with ⟨e', _, _⟩ | ⟨n', g'⟩
        · subst e'
          rw [setF_same] at hb
          exact nd3 a hb a ha rfl
        · rw [setF_ne n'] at hb
          exact I.tracked g' l a hb (new2 a ha)
      have I2 := I1.setA fj (.inl rfl) (by simpa using hj) r2 (NoQ.new I.dk new2) (fun a ha k' g nk => ap a ha k' _ g (.inl rfl) nk) fun _ => ⟨nd2, fun a ha k' mo g l nk => ap a ha k' mo g l nk⟩
      refine ⟨v, w, rfl, l.nx _ H1 _ _ I2 ⟨f.mono fun _ w => .inl w, fun k' gk a ha => ?_⟩ q⟩
      rcases get_set gk with ⟨e', _, _⟩ | ⟨n', g'⟩
      · subst e'
        rw [setF_same] at ha
        exact .inr (new2 a ha)
      · rw [setF_ne n'] at ha
        rcases get_set g' with ⟨e', _, _⟩ | ⟨n2, g2⟩
        · subst e'
          rw [setF_same] at ha
          exact .inr (new1 a ha)
        · rw [setF_ne n2] at ha
          exact .inl ⟨k', g2, ha⟩) h), mono_sPar s.mono⟩
structure Part (C : Cfg) (Fs : Nat → List Addr) (H : Hp) (i : Nat) (v : V) (z : Int) (xs : List D) (j : Nat) (b : Addr) (ws : List V) (bs : List D) : Prop where
  at' : ∃ a us, v = .ref a ∧ H a = some (.lst us) ∧ L2.atI us z = some (.ref b)
  hb : H b = some (.lst ws)
  rb : Rps C.CT H ws bs []
  mem : b ∈ Fs i
  put : ∀ (ws' : List V) (bs' : List D), Rps C.CT H ws' bs' [] → ∃ F', Rp C.CT (upd H b (.lst ws')) v (.lst (xs.set j (.lst bs'))) F' ∧ F'.Nodup ∧ ∀ c ∈ F', c ∈ Fs i
theorem Part.fin {D : Ends} {E : PEnds} {i : Nat} {v : V} {z : Int} {xs bs bs' : List Pu.D} {j : Nat} {b : Addr} {ws ws' : List V} (lk : Lk C Γ Fs H Γ Γl D E) (I : Ok C Γ σ H env Fs) (f : Fr (Wq C) H H1) (dk : DiceOk C H1) (g : Γ[i]? = some .o) (hv : σ[i]? = some (some v))
    (p : Part C Fs H1 i v z xs j b ws bs) (r : Rps C.CT H1 ws' bs' []) (q : E.nx (env.set i (some (.lst (xs.set j (.lst bs')))))) : D.nx σ (L2.upd H1 b (.lst ws')) := by
  obtain ⟨F', h1, h2, h3⟩ := p.put ws' bs' r
  exact lk.inner I f dk g hv p.hb rfl p.mem h1 h2 (fun c hc => .inl (h3 c hc)) q
end
end Pu
set_option Elab.async false
set_option linter.all false
set_option maxRecDepth 100000
namespace Pu
open PySem PySem.Spec PyProof.Rows L2
section
variable {C : Cfg} {Γ Γ' Γn Γl Γo Γt Γe Γ1 Γ2 Γf Γu : List Mo} {σ σ' : L2.St} {H H' H1 H2 : Hp} {env env' : PEnv} {Fs Fs' Fs1 Fs2 : Nat → List Addr} {v : V} {vs : List V} {d : D} {ds : List D} {F G : List Addr} {ta tb te : TE} {A B : Kd} {m n : X1} {K : PySem.W.Frag} {CT : Nat → Addr}
mutual
theorem Rp.thaw {p : Addr} {od : Obj} {u o : HO} (hp : H p = some (.frz od u)) : ∀ {v : V} {d : D} {F : List Addr}, Rp CT H v d F → Rp CT (upd H p o) v d F
  | _, _, _, .non => .non
  | _, _, _, .bl b => .bl b
  | _, _, _, .int b => .int b
  | _, _, _, .str b => .str b
  | _, _, _, .tup h r => .tup (by rw [upd_ne (fun z => by rw [z, hp] at h; cases h)]; exact h) (Rps.thaw hp r)
  | _, _, _, .lst h r => .lst (by rw [upd_ne (fun z => by rw [z, hp] at h; cases h)]; exact h) (Rps.thaw hp r)
  | _, _, _, .dK h k r => .dK (by rw [upd_ne (fun z => by rw [z, hp] at h; cases h)]; exact h) k (Rps.thaw hp r)
  | _, _, _, .dT h k r => .dT (by rw [upd_ne (fun z => by rw [z, hp] at h; cases h)]; exact h) k (Rps.thaw hp r)
  | _, _, _, .obj h k r => .obj (by rw [upd_ne (fun z => by rw [z, hp] at h; cases h)]; exact h) k (Rps.thaw hp r)
  | _, _, _, .fz h e k r => .fz (by rw [upd_ne (fun z => by rw [z, hp] at h; cases h)]; exact h) e k (Rps.thaw hp r)
  | _, _, _, .dN h k z r1 r => .dN (by rw [upd_ne (fun z => by rw [z, hp] at h; cases h)]; exact h) k z (Rps.thaw hp r1) (Rps.thaw hp r)
theorem Rps.thaw {p : Addr} {od : Obj} {u o : HO} (hp : H p = some (.frz od u)) : ∀ {vs : List V} {ds : List D} {F : List Addr}, Rps CT H vs ds F → Rps CT (upd H p o) vs ds F
  | _, _, _, .nil => .nil
  | _, _, _, .cons h r => .cons (Rp.thaw hp h) (Rps.thaw hp r)
end
end
end Pu
set_option Elab.async false
set_option linter.all false
set_option maxRecDepth 100000
set_option maxHeartbeats 1000000
namespace Pu
open PySem PySem.Spec PyProof.Rows L2
section
variable {prog : Program} {w : World} {A : Around} {E : Value → Shared → Prop} {s : Shared} {z TI TO T i1 i2 l1 l2 : Addr} {f : Bool} {oT : Obj} {k : Nat} {xs ys : Array Value} {x y : Value}
end
end Pu
set_option Elab.async false
set_option linter.all false
set_option maxRecDepth 100000
set_option maxHeartbeats 1000000
namespace Pu
open PySem PySem.Spec PyProof.Rows L2
section
variable {prog : Program} {w : World} {A : Around} {E : Value → Shared → Prop} {s s0 : Shared} {z TI TO T i1 i2 l1 l2 S : Addr} {f : Bool} {oT : Obj} {k i : Nat} {xs ys : Array Value} {x y : Value} {Ts : List Addr} {c : Nat} {R : Result → Shared → Prop}
abbrev lsO (acc : Array Value) (c : Nat) : Obj := { cls := .type "list", dict := none, data := .seq acc c, slots := #[] }
structure Out (S bs : Addr) (xs ys : Array Value) (s : Shared) (Ts : List Addr) (c : Nat) : Prop where
  ls : s.heap.get? S = some (lsO (Ts.map Value.ref).toArray c)
  pw : Ts.Pairwise (· < ·)
  lt : ∀ T ∈ Ts, bs ≤ T ∧ T < s.heap.objs.size
  at' : ∀ (j : Nat) (T : Addr), Ts[j]? = some T → ∃ x y, xs[j]? = some x ∧ ys[j]? = some y ∧ IsPair s.heap T x y
structure Zs (z TI TO i1 i2 l1 l2 S bs : Addr) (xs ys : Array Value) (s0 s : Shared) (Ts : List Addr) (c : Nat) : Prop where
  zs : (IsZip s.heap z TI TO .none ∧ Ts = []) ∨ ∃ T f oT, IsZipHeld s.heap z TI TO T f ∧ s.heap.get? T = some oT
  ti : IsPair s.heap TI (.ref i1) (.ref i2)
  to : ∃ a b, IsPair s.heap TO a b
  a1 : s.heap.IsTupleIter i1 l1 Ts.length
  a2 : s.heap.IsTupleIter i2 l2 Ts.length
  b1 : s.heap.IsTuple l1 xs
  b2 : s.heap.IsTuple l2 ys
  out : Out S bs xs ys s Ts c
  kp : ∀ b o, s0.heap.get? b = some o → s.heap.get? b = some o
  sz : bs ≤ s.heap.objs.size
  eq : s = { s0 with heap := s.heap }
structure ZApart (z TI TO i1 i2 l1 l2 S bs : Addr) (s0 : Shared) : Prop where
  D : ZipApart z TI TO i1 i2 l1 l2
  ge : ∀ b ∈ [z, TI, TO, i1, i2, S], s0.heap.objs.size ≤ b ∧ b < bs
  lt : ∀ b ∈ [l1, l2], b < s0.heap.objs.size
  ne : S ≠ z ∧ S ≠ TI ∧ S ≠ TO ∧ S ≠ i1 ∧ S ≠ i2
theorem Zs.push {bs : Addr} (ap : ZApart z TI TO i1 i2 l1 l2 S bs s0) (q : Zs z TI TO i1 i2 l1 l2 S bs xs ys s0 s Ts c) {h' : Heap} {T0 : Addr} {f0 : Bool} (hx : xs[Ts.length]? = some x) (hy : ys[Ts.length]? = some y)
    (az : IsZipHeld h' z TI TO T0 f0) (aT : ∃ oT, h'.get? T0 = some oT) (to : ∃ a b, IsPair h' TO a b) (a1 : h'.IsTupleIter i1 l1 (Ts.length + 1)) (a2 : h'.IsTupleIter i2 l2 (Ts.length + 1)) (pr : IsPair h' s.heap.objs.size x y) (hsz : h'.objs.size = s.heap.objs.size + 1)
    (kp : ∀ c o, c ≠ z → c ≠ TO → c ≠ i1 → c ≠ i2 → s.heap.get? c = some o → h'.get? c = some o) :
    ∃ c', Zs z TI TO i1 i2 l1 l2 S bs xs ys s0 { s with heap := h'.update S (Obj.mapSeq (·.push (.ref s.heap.objs.size))) } (Ts ++ [s.heap.objs.size]) c' := by
  obtain ⟨n1, n2, n3, n4, n5⟩ := ap.ne
  have gS : h'.get? S = some (lsO (Ts.map Value.ref).toArray c) := kp _ _ n1 n3 n4 n5 q.out.ls
  have hS := Heap.get?_update_self (Obj.mapSeq (·.push (Value.ref s.heap.objs.size))) gS rfl
  have up : ∀ b o, b ≠ S → h'.get? b = some o → (h'.update S (Obj.mapSeq (·.push (Value.ref s.heap.objs.size)))).get? b = some o := fun b o hb e => (Heap.get?_update_other _ _ (Ne.symm hb)).trans e
  have ltS : S < s.heap.objs.size := Heap.lt_size q.out.ls
  have usz : (h'.update S (Obj.mapSeq (·.push (Value.ref s.heap.objs.size)))).objs.size = s.heap.objs.size + 1 := by rw [← hsz]; exact Heap.size_update ..
  have old : ∀ b o, b ∉ [z, TI, TO, i1, i2, S] → s.heap.get? b = some o → (h'.update S (Obj.mapSeq (·.push (Value.ref s.heap.objs.size)))).get? b = some o := fun b o hb e => by
    simp only [List.mem_cons, List.not_mem_nil, or_false, not_or] at hb
    exact up b o hb.2.2.2.2.2 (kp b o hb.1 hb.2.2.1 hb.2.2.2.1 hb.2.2.2.2.1 e)
  have low : ∀ b, b < s0.heap.objs.size → b ∉ [z, TI, TO, i1, i2, S] := fun b hb m => absurd (ap.ge b m).1 (Nat.not_le_of_lt hb)
  have high : ∀ b, bs ≤ b → b ∉ [z, TI, TO, i1, i2, S] := fun b hb m => absurd (ap.ge b m).2 (Nat.not_lt_of_le hb)
  have l1 := low _ (ap.lt l1 (by simp))
  have l2 := low _ (ap.lt l2 (by simp))
  have em : ∃ c', Obj.mapSeq (·.push (Value.ref s.heap.objs.size)) (lsO (Ts.map Value.ref).toArray c) = lsO ((Ts ++ [s.heap.objs.size]).map Value.ref).toArray c' := ⟨_, by rw [List.map_append, List.map_singleton, ← List.push_toArray]; rfl⟩
  obtain ⟨c', em⟩ := em
  refine ⟨c', .inr ?_, up _ _ n2.symm (kp _ _ ap.D.TIz ap.D.TITO ap.D.TIi1 ap.D.TIi2 q.ti), ?_, ?_, ?_, ?_, ?_, ⟨hS.trans ?_, ?_, ?_, ?_⟩, fun b o e => old b o (low b (Heap.lt_size e)) (q.kp b o e), ?_, ?_⟩
  · obtain ⟨oT, eT⟩ := aT
    by_cases e : T0 = S
    · exact ⟨T0, f0, _, up _ _ n1.symm az, by rw [e]; exact hS⟩
    · exact ⟨T0, f0, oT, up _ _ n1.symm az, up _ _ e eT⟩
  · obtain ⟨a, b, e⟩ := to
    exact ⟨a, b, up _ _ n3.symm e⟩
  · rw [List.length_append]; exact a1.at fun o e => up _ o n4.symm e
  · rw [List.length_append]; exact a2.at fun o e => up _ o n5.symm e
  · obtain ⟨o, e, r⟩ := q.b1
    exact ⟨o, old _ o l1 e, r⟩
  · obtain ⟨o, e, r⟩ := q.b2
    exact ⟨o, old _ o l2 e, r⟩
  · rw [em]
  · exact List.pairwise_append.mpr ⟨q.out.pw, List.pairwise_singleton _ _, fun a ha b hb => by rw [List.mem_singleton.mp hb]; exact (q.out.lt a ha).2⟩
  · intro T hT
    show bs ≤ T ∧ T < (h'.update S _).objs.size
    rw [usz]
    rcases List.mem_append.mp hT with m | m
    · have := q.out.lt T m
      exact ⟨this.1, Nat.lt_succ_of_lt this.2⟩
    · rw [List.mem_singleton.mp m]
      exact ⟨q.sz, Nat.lt_succ_self _⟩
  · intro j T hT
    by_cases hj : j < Ts.length
    · rw [List.getElem?_append_left hj] at hT
      obtain ⟨x, y, e1, e2, e3⟩ := q.out.at' j T hT
      exact ⟨x, y, e1, e2, old _ _ (high T (q.out.lt T (List.mem_of_getElem? hT)).1) e3⟩
    · rw [List.getElem?_append_right (by omega)] at hT
      have ej : j = Ts.length := by
        have := (List.getElem?_eq_some_iff.mp hT).1
        simp at this
        omega
      subst ej
      rw [Nat.sub_self] at hT
      cases hT
      exact ⟨x, y, hx, hy, up _ _ (Nat.ne_of_gt ltS) pr⟩
  · show bs ≤ (h'.update S _).objs.size
    rw [usz]
    exact Nat.le_succ_of_le q.sz
  · show _ = _
    rw [q.eq]
end
end Pu
set_option Elab.async false
set_option linter.all false
set_option maxRecDepth 100000
set_option maxHeartbeats 1000000
namespace Pu
open PySem PySem.Spec PyProof.Rows L2
section
variable {prog : Program} {w : World} {A : Around} {E : Value → Shared → Prop} {s s0 : Shared} {z TI TO T i1 i2 l1 l2 S bs : Addr} {f : Bool} {oT : Obj} {k i : Nat} {xs ys : Array Value} {x y : Value} {Ts : List Addr} {c : Nat} {R : Result → Shared → Prop} {res : Value}
theorem Zs.last (ap : ZApart z TI TO i1 i2 l1 l2 S bs s0) (q : Zs z TI TO i1 i2 l1 l2 S bs xs ys s0 s Ts c) {h' : Heap} (kp : ∀ c o, c ≠ z → c ≠ TO → c ≠ i1 → c ≠ i2 → s.heap.get? c = some o → h'.get? c = some o) :
    Out S bs xs ys { s with heap := h' } Ts c ∧ (∀ b o, s0.heap.get? b = some o → h'.get? b = some o) ∧ ({ s with heap := h' } : Shared) = { s0 with heap := h' } := by
  obtain ⟨n1, n2, n3, n4, n5⟩ := ap.ne
  have old : ∀ b o, b ∉ [z, TI, TO, i1, i2, S] → s.heap.get? b = some o → h'.get? b = some o := fun b o hb e => by
    simp only [List.mem_cons, List.not_mem_nil, or_false, not_or] at hb
    exact kp b o hb.1 hb.2.2.1 hb.2.2.2.1 hb.2.2.2.2.1 e
  have low : ∀ b, b < s0.heap.objs.size → b ∉ [z, TI, TO, i1, i2, S] := fun b hb m => absurd (ap.ge b m).1 (Nat.not_le_of_lt hb)
  have high : ∀ b, bs ≤ b → b ∉ [z, TI, TO, i1, i2, S] := fun b hb m => absurd (ap.ge b m).2 (Nat.not_lt_of_le hb)
  have at2 : ∀ (j : Nat) (T : Addr), Ts[j]? = some T → ∃ x y, xs[j]? = some x ∧ ys[j]? = some y ∧ IsPair h' T x y := fun j T hT => by
    obtain ⟨x, y, e1, e2, e3⟩ := q.out.at' j T hT
    exact ⟨x, y, e1, e2, old _ _ (high T (q.out.lt T (List.mem_of_getElem? hT)).1) e3⟩
  refine ⟨⟨kp _ _ n1 n3 n4 n5 q.out.ls, q.out.pw, fun T hT => ⟨(q.out.lt T hT).1, ?_⟩, at2⟩, fun b o e => old b o (low b (Heap.lt_size e)) (q.kp b o e), ?_⟩
  · obtain ⟨j, hj, e⟩ := List.getElem_of_mem hT
    obtain ⟨x, y, _, _, e3⟩ := at2 j T (by rw [List.getElem?_eq_getElem hj, e])
    exact Heap.lt_size e3
  · rw [q.eq]
end
end Pu
set_option Elab.async false
set_option linter.all false
set_option maxRecDepth 100000
set_option maxHeartbeats 1000000
namespace Pu
open PySem PySem.Spec PyProof.Rows L2
end Pu
set_option Elab.async false
set_option linter.all false
set_option maxRecDepth 100000
namespace Pu
open PySem PySem.Spec PyProof.Rows L2
def prD : List D → List D → List D
  | x :: xs, y :: ys => .tup [x, y] :: prD xs ys
  | _, _ => []
section
variable {C : Cfg} {Γ Γ' Γn Γl Γo Γt Γe Γ1 Γ2 Γf Γu : List Mo} {σ σ' : L2.St} {H H' H1 H2 : Hp} {env env' : PEnv} {Fs Fs' Fs1 Fs2 : Nat → List Addr} {v : V} {vs : List V} {d : D} {ds : List D} {F G : List Addr} {ta tb te : TE} {A B : Kd} {m n : X1} {K : PySem.W.Frag} {CT : Nat → Addr}
def lzipQ (ds : List D) (Q : D → Prop) : Prop := match ds with
  | [.tup xs, .tup ys] => immL xs = true ∧ immL ys = true ∧ xs.length = ys.length ∧ xs.length ≤ sizeLine ∧ Q (.lst (prD xs ys))
  | _ => False
theorem mono_lzipQ {Q Q' : D → Prop} (ds : List D) (k : ∀ d, Q d → Q' d) (q : lzipQ ds Q) : lzipQ ds Q' := by
  unfold lzipQ at *
  split at q
  · exact ⟨q.1, q.2.1, q.2.2.1, q.2.2.2.1, k _ q.2.2.2.2⟩
  · exact q
def xLZip (r : XL) : X1 := fun env Q => r env fun ds => lzipQ ds Q
instance {r : XL} [h : MX r] : MX (xLZip r) := ⟨fun env Q Q' k q => h.mono env _ _ (fun ds q => mono_lzipQ ds k q) q⟩
end
end Pu
set_option Elab.async false
set_option linter.all false
set_option maxRecDepth 100000
set_option maxHeartbeats 1000000
namespace PuS
open PySem PySem.Spec PySem.W PyProof.Rows SrtO
section
variable {prog : Program} {w : World} {s : Shared} {A : Around} {E : Value → Shared → Prop}
end
end PuS
namespace Pu
open PySem PySem.Spec PyProof.Rows L2
end Pu
set_option Elab.async false
set_option linter.all false
set_option maxRecDepth 100000
set_option maxHeartbeats 1000000
namespace Pu
open PySem PySem.Spec PySem.W PyProof.Rows L2
section
variable {prog : Program} {w : World} {A : Around} {E : Value → Shared → Prop} {s : Shared}
end
section
variable {C : Cfg} {Γ Γ' Γn Γl Γo Γt Γe Γ1 Γ2 Γf Γu : List Mo} {σ σ' : L2.St} {H H' H1 H2 : Hp} {env env' : PEnv} {Fs Fs' Fs1 Fs2 : Nat → List Addr} {v : V} {vs : List V} {d : D} {ds : List D} {F G : List Addr} {ta tb te : TE} {A B : Kd} {m n : X1} {K : PySem.W.Frag} {CT : Nat → Addr}
def maxLQ (d : D) (Q : D → Prop) : Prop := match d with
  | .tup [.tup xs, .tup ys] => Q (.tup (if xs.length < ys.length then ys else xs))
  | _ => False
theorem mono_maxLQ {d : D} {Q Q' : D → Prop} (k : ∀ d, Q d → Q' d) (q : maxLQ d Q) : maxLQ d Q' := by
  unfold maxLQ at *
  split at q
  · exact k _ q
  · exact q
def xMaxLen (m : X1) : X1 := fun env Q => m env fun d => maxLQ d Q
instance {m : X1} [h : MX m] : MX (xMaxLen m) := ⟨fun env Q Q' k q => h.mono env _ _ (fun d q => mono_maxLQ k q) q⟩
end
end Pu
set_option Elab.async false
set_option linter.all false
set_option maxRecDepth 100000
namespace Pu
open PySem PySem.Spec PyProof.Rows L2
section
variable {X : Cx}
end
end Pu
set_option Elab.async false
set_option linter.all false
set_option maxRecDepth 100000
set_option maxHeartbeats 4000000
namespace Pu
open PySem PySem.Spec PyProof.Rows L2
section
variable {P : Program} {w : World} {A : Around} {E : Value → Shared → Prop} {s : Shared}
end
end Pu
set_option Elab.async false
set_option linter.all false
set_option maxRecDepth 100000
namespace Pu
open PySem PySem.Spec PyProof.Rows L2
section
variable {X : Cx}
end
end Pu
set_option Elab.async false
set_option linter.all false
set_option maxRecDepth 100000
namespace Pu
open PySem PySem.Spec PyProof.Rows L2
section
variable {C : Cfg} {Γ Γ' Γn Γl Γo Γt Γe Γ1 Γ2 Γf : List Mo} {σ σ' : L2.St} {H H' H1 H2 : Hp} {env env' : PEnv} {Fs Fs' Fs1 Fs2 : Nat → List Addr} {v : V} {vs : List V} {d : D} {ds : List D} {F G : List Addr} {ta tb te tk tv : TE} {A B : Kd} {m n : X1} {K : PySem.W.Frag} {CT : Nat → Addr}
def dcLoop (b : XG) (mt : XB) (mk mv : X1) (env : PEnv) : List D → List (Key × D) → (List (Key × D) → Prop) → Prop
  | [], acc, Q => Q acc
  | d :: ds, acc, Q => b d env fun env1 => mt env1 fun k => if k = true then mk env1 fun y => mv env1 fun z => match y.key? with
    | some kx => acc.length < sizeLine ∧ (acc.map (·.1)).Nodup ∧ dcLoop b mt mk mv env ds (putD acc kx z) Q
    | none => False
    else dcLoop b mt mk mv env ds acc Q
def xDc (mi : XL) (b : XG) (mt : XB) (mk mv : X1) : X1 := fun env Q => mi env fun ds => dcLoop b mt mk mv env ds [] fun acc => Q (.dK acc)
theorem mono_dcLoop {b : XG} {mt : XB} {mk mv : X1} (hb : ∀ d env Q Q', (∀ e, Q e → Q' e) → b d env Q → b d env Q') (ht : Mono mt) (hk : Mono mk) (hv : Mono mv) : ∀ (ds : List D) (acc : List (Key × D)) (Q Q' : List (Key × D) → Prop), (∀ x, Q x → Q' x) → dcLoop b mt mk mv env ds acc Q → dcLoop b mt mk mv env ds acc Q'
  | [], acc, Q, Q', k, q => k _ q
  | d :: ds, acc, Q, Q', k, q => hb _ _ _ _ (fun e q => ht _ _ _ (fun c q => by
    cases c with
    | true =>
      refine hk _ _ _ (fun y q => hv _ _ _ (fun z q => ?_) q) q
      split at q
      · exact ⟨q.1, q.2.1, mono_dcLoop hb ht hk hv ds _ Q Q' k q.2.2⟩
      · exact q
    | false => exact mono_dcLoop hb ht hk hv ds acc Q Q' k q) q) q
instance {mi : XL} {g : XG} {mt : XB} {mk mv : X1} [h : MX mi] [h1 : MG g] [h2 : MX mt] [h3 : MX mk] [h4 : MX mv] : MX (xDc mi g mt mk mv) := ⟨fun env _ _ k q => h.mono env _ _ (fun ds q => mono_dcLoop h1.mono h2.mono h3.mono h4.mono ds [] _ _ (fun _ q => k _ q) q) q⟩
def updK (d k : D) (f : D → (D → Prop) → Prop) (Q : D → Prop) : Prop := match d with
  | .dK kvs => (match k.key? with | some kx => (kvs.map (·.1)).Nodup ∧ (match lookD kvs kx with | some x => f x fun x' => Q (.dK (putD kvs kx x')) | none => False) | none => False)
  | _ => False
theorem updK_mono {d k : D} {f f' : D → (D → Prop) → Prop} {Q Q' : D → Prop} (hf : ∀ x Q Q', (∀ y, Q y → Q' y) → f x Q → f' x Q') (h : ∀ y, Q y → Q' y) (q : updK d k f Q) : updK d k f' Q' := by
  unfold updK at q ⊢
  split at q <;> first | exact q | skip
  split at q <;> first | exact q | skip
  obtain ⟨nd, q⟩ := q
  refine ⟨nd, ?_⟩
  split at q <;> first | exact q | skip
  exact hf _ _ _ (fun y q => h _ q) q
def sLmAtK (i : Nat) (n : X1) (u : UL) (ms : XL) : XS := fun E env => xVar i env fun d => n env fun k => updK d k (fun x R => onL x fun xs => ms env fun es => u xs es fun ds => R (.lst ds)) fun d' => E.nx (env.set i (some d'))
instance {i : Nat} {u : UL} {ms : XL} [h0 : MX n] [h : MU u] [h' : MX ms] : MS (sLmAtK i n u ms) := ⟨fun p q => mono_var _ _ _ (fun d q => h0.mono _ _ _ (fun k q => updK_mono (fun x Q Q' hQ q => onL_mono (fun ds q => h'.mono _ _ _ (fun e q => h.mono _ _ _ _ (fun ds q => hQ _ q) q) q) q) (fun y q => p.1 _ q) q) q) q⟩
end
end Pu
set_option Elab.async false
set_option linter.all false
set_option maxRecDepth 100000
namespace Pu
open PySem PySem.Spec PyProof.Rows L2 HT
section
variable {prog : Program} {w : World} {A : Around} {E : Value → Shared → Prop} {s : Shared}
end
section
variable {C : Cfg} {Γ : List Mo} {σ : L2.St} {H : Hp} {env : PEnv} {Fs : Nat → List Addr} {d : D} {te : TE} {A : Kd} {m : X1} {K : PySem.W.Frag} {CT : Nat → Addr}
end
section
variable {C : Cfg} {Γ Γ' Γl Γ1 Γ2 : List Mo} {σ : L2.St} {H : Hp} {env : PEnv} {Fs : Nat → List Addr} {d : D} {te : TE} {A : Kd} {m : X1} {K : PySem.W.Frag} {CT : Nat → Addr}
end
end Pu
set_option Elab.async false
set_option linter.all false
set_option maxRecDepth 100000
set_option synthInstance.maxHeartbeats 0
set_option synthInstance.maxSize 100000
namespace Pu
open PySem PySem.Spec PyProof.Rows L2
def b_is_integer : XS := sRet (xAnd (x1 (oIsA "int") (xVar 0)) (xNot (x1 (oIsA "bool") (xVar 0))))
def m_is_integer : XF := fnM 1 b_is_integer
theorem mo_is_integer : MonoF m_is_integer := monoF_fn (by unfold b_is_integer; exact MS.all)
instance : MF m_is_integer := ⟨mo_is_integer⟩
def b_is_number : XS := sRet (xAnd (xCall m_is_integer (xCons (xVar 0) xNil)) (x2 (oI fun i j => .bl (decide (j ≤ i))) (xVar 0) (xC (.int 0))))
def m_is_number : XF := fnM 1 b_is_number
theorem mo_is_number : MonoF m_is_number := monoF_fn (by unfold b_is_number; exact MS.all)
instance : MF m_is_number := ⟨mo_is_number⟩
def b_is_below : XS := sRet (xAnd (xCall m_is_number (xCons (xVar 0) xNil)) (x2 (oI fun i j => .bl (decide (i < j))) (xVar 0) (xVar 1)))
def m_is_below : XF := fnM 2 b_is_below
theorem mo_is_below : MonoF m_is_below := monoF_fn (by unfold b_is_below; exact MS.all)
instance : MF m_is_below := ⟨mo_is_below⟩
def b_is_lot : XS := sSeq (sIf (bOr (bNot (bTest (x1 (oIsA "tuple") (xVar 0)))) (bNot (bTest (x1 (oAny true) (xLc (mSeq (xVar 0)) (bName 4) bYes (xCall m_is_below (xCons (xVar 4) (xCons (xVar 1) xNil)))))))) (sRet (xC (.bl false))) sNext) (sRet (x1 (oAny true) (xLc (mZip (xCons (xVar 0) (xCons (xSl (xVar 0) (pYes (xC (.int 1))) pNo) xNil))) (bTup 2 (bCons (bName 2) (bCons (bName 3) bNil))) bYes (x2 (oI fun i j => .bl (decide (i < j))) (xVar 2) (xVar 3)))))
def m_is_lot : XF := fnM 5 b_is_lot
theorem mo_is_lot : MonoF m_is_lot := monoF_fn (by unfold b_is_lot; exact MS.all)
instance : MF m_is_lot := ⟨mo_is_lot⟩
def b_are_works : XS := sSeq (sSet 2 (x1 oLenA (x1 (atF 3 "works") (xVar 0)))) (sRet (xAnd (x1 (oIsA "tuple") (xVar 1)) (x1 (oAny true) (xLc (mSeq (xVar 1)) (bName 3) bYes (xCall m_is_below (xCons (xVar 3) (xCons (xVar 2) xNil)))))))
def m_are_works : XF := fnM 4 b_are_works
theorem mo_are_works : MonoF m_are_works := monoF_fn (by unfold b_are_works; exact MS.all)
instance : MF m_are_works := ⟨mo_are_works⟩
def b_check_row : XS := sIf (bNot (bTest (xCall m_are_works (xCons (xVar 0) (xCons (xVar 1) xNil))))) sNever sNext
def m_check_row : XF := fnM 2 b_check_row
theorem mo_check_row : MonoF m_check_row := monoF_fn (by unfold b_check_row; exact MS.all)
instance : MF m_check_row := ⟨mo_check_row⟩
def b_are_office_works : XS := sSeq (sIf (bOr (bNot (bTest (x1 (oIsA "tuple") (xVar 1)))) (bNot (bTest (xChain (oI fun i j => .bl (decide (i ≤ j))) (oI fun i j => .bl (decide (i ≤ j))) (xC (.int 1)) (x1 oLenA (xVar 1)) (xC (.int 10)))))) (sRet (xC (.bl false))) sNext) (sRet (x1 (oAny true) (xLc (mSeq (xVar 1)) (bName 2) bYes (xAnd (xCall m_is_lot (xCons (xVar 2) (xCons (xVar 0) xNil))) (x2 (oI fun i j => .bl (decide (j < i))) (x1 oLenA (xVar 2)) (xC (.int 0)))))))
def m_are_office_works : XF := fnM 3 b_are_office_works
theorem mo_are_office_works : MonoF m_are_office_works := monoF_fn (by unfold b_are_office_works; exact MS.all)
instance : MF m_are_office_works := ⟨mo_are_office_works⟩
def b_Office_init : XS := sSeq (sIf (bOr (bNot (bTest (xCall m_is_integer (xCons (xVar 1) xNil)))) (bNot (bTest (xChain (oI fun i j => .bl (decide (i ≤ j))) (oI fun i j => .bl (decide (i ≤ j))) (xC (.int 1)) (xVar 1) (xC (.int 6)))))) sNever sNext) (sSeq (sIf (bNot (bTest (xCall m_are_office_works (xCons (xVar 1) (xCons (xVar 2) xNil))))) sNever sNext) (sSeq (sSetF 0 3 "desks" (xImm (xVar 1))) (sSetF 0 3 "works" (xImm (xVar 2)))))
def i_Office : XI := fnI0 2 3 3 b_Office_init
theorem mo_Office_init : MonoI i_Office := monoI_fn0 (by unfold b_Office_init; exact MS.all)
instance : MI i_Office := ⟨mo_Office_init⟩
def b_all_logs : XS := sRet (x1 oTup (xLc (mRng1 (x1 (atF 3 "desks") (xVar 0))) (bName 2) bYes (x1 oTup (xLc (mSeq (xVar 1)) (bName 3) (bTest (x2 (oIn false) (xVar 2) (x2 oIx (x1 (atF 3 "works") (xVar 0)) (xVar 3)))) (xImm (xVar 3))))))
def m_all_logs : XF := fnM 4 b_all_logs
theorem mo_all_logs : MonoF m_all_logs := monoF_fn (by unfold b_all_logs; exact MS.all)
instance : MF m_all_logs := ⟨mo_all_logs⟩
def b_alike : XS := sSeq (sDrop (xCall m_check_row (xCons (xVar 0) (xCons (xVar 1) xNil)))) (sSeq (sDrop (xCall m_check_row (xCons (xVar 0) (xCons (xVar 2) xNil)))) (sRet (x2 oEq (xCall m_all_logs (xCons (xVar 0) (xCons (xVar 1) xNil))) (xCall m_all_logs (xCons (xVar 0) (xCons (xVar 2) xNil))))))
def m_alike : XF := fnM 3 b_alike
theorem mo_alike : MonoF m_alike := monoF_fn (by unfold b_alike; exact MS.all)
instance : MF m_alike := ⟨mo_alike⟩
abbrev m__law_draw : XF := mDraw
theorem mo__law_draw : MonoF m__law_draw := mo_mDraw
def b__law_parts : XS := sSeq (sSet 2 (x2 oAdd (xC (.int 1)) (xCall m__law_draw (xDice (xCons (xVar 1) xNil))))) (sSeq (sSet 3 (xCall m__law_draw (xDice (xCons (xC (.int 4)) xNil)))) (sSeq (sSet 4 (xLst xNil)) (sSeq (sIf (bAnd (bTest (x2 oEq (xVar 3) (xC (.int 1)))) (bTest (x2 (oI fun i j => .bl (decide (j < i))) (xVar 2) (xC (.int 2))))) (sSet 4 (xLc (mRng1 (xVar 2)) (bName 7) bYes (x1 oTup (x1 oSortA (xLst (xCons (xImm (xVar 7)) (xCons (x2 (oIc (fun _ j => j ≠ 0) fun i j => .int (i.fmod j)) (x1 oInt (x2 oAdd (xVar 7) (xC (.int 1)))) (xVar 2)) xNil))))))) sNext) (sSeq (sIf (bTest (x2 oEq (xVar 3) (xC (.int 2)))) (sSet 4 (xLc (mRng1 (xVar 2)) (bName 7) bYes (xTup (xCons (xImm (xVar 7)) xNil)))) sNext) (sSeq (sIf (bAnd (bTest (x2 oEq (xVar 3) (xC (.int 3)))) (bTest (x2 (oI fun i j => .bl (decide (j < i))) (xVar 2) (xC (.int 1))))) (sSet 4 (xLc (mRng2 (xC (.int 1)) (xVar 2)) (bName 7) bYes (xTup (xCons (xC (.int 0)) (xCons (xImm (xVar 7)) xNil))))) sNext) (sSeq (sFor (mRng1 (x2 oAdd (xC (.int 1)) (xCall m__law_draw (xDice (xCons (xC (.int 4)) xNil))))) (bName 5) (sSeq (sSet 6 (x1 oTup (xLc (mRng1 (xVar 2)) (bName 7) (bTest (x2 oEq (xCall m__law_draw (xDice (xCons (xC (.int 2)) xNil))) (xC (.int 0)))) (xImm (xVar 7))))) (sApp 4 (xIf (bTest (x2 (oI fun i j => .bl (decide (j < i))) (x1 oLenA (xVar 6)) (xC (.int 0)))) (xImm (xVar 6)) (xTup (xCons (xCall m__law_draw (xDice (xCons (xVar 2) xNil))) xNil)))))) (sRet (xTup (xCons (xImm (xVar 2)) (xCons (x1 oTup (xSl (xVar 4) pNo (pYes (xC (.int 10))))) xNil))))))))))
def m__law_parts : XF := fnM 8 b__law_parts
theorem mo__law_parts : MonoF m__law_parts := monoF_fn (by unfold b__law_parts; exact MS.all)
instance : MF m__law_parts := ⟨mo__law_parts⟩
def b__law_made : XS := sRet (xMake 3 i_Office (xCons (xImm (x2 oIx (xVar 0) (xC (.int 0)))) (xCons (xImm (x2 oIx (xVar 0) (xC (.int 1)))) xNil)))
def m__law_made : XF := fnM 1 b__law_made
theorem mo__law_made : MonoF m__law_made := monoF_fn (by unfold b__law_made; exact MS.all)
instance : MF m__law_made := ⟨mo__law_made⟩
def b__law_some_parts : XS := sRet (xCall m__law_parts (xDice (xCons (xIf (bTest (x2 oEq (xCall m__law_draw (xDice (xCons (xC (.int 8)) xNil))) (xC (.int 0)))) (xC (.int 6)) (xC (.int 4))) xNil)))
def m__law_some_parts : XF := fnM 1 b__law_some_parts
theorem mo__law_some_parts : MonoF m__law_some_parts := monoF_fn (by unfold b__law_some_parts; exact MS.all)
instance : MF m__law_some_parts := ⟨mo__law_some_parts⟩
def b__law_meets : XS := sRet (x1 (oAny false) (xLc (mSeq (x2 oIx (x2 oIx (xVar 0) (xC (.int 1))) (xVar 1))) (bName 3) bYes (x2 (oIn false) (xVar 3) (x2 oIx (x2 oIx (xVar 0) (xC (.int 1))) (xVar 2)))))
def m__law_meets : XF := fnM 4 b__law_meets
theorem mo__law_meets : MonoF m__law_meets := monoF_fn (by unfold b__law_meets; exact MS.all)
instance : MF m__law_meets := ⟨mo__law_meets⟩
end Pu
set_option Elab.async false
set_option linter.all false
set_option maxRecDepth 100000
set_option synthInstance.maxHeartbeats 0
set_option synthInstance.maxSize 100000
namespace Pu
open PySem PySem.Spec PyProof.Rows L2
def b__law_whole : XS := sSeq (sIf (bTest (x2 oIsN (xVar 1) (xC .non))) (sRet (x2 oIsN (xVar 0) (xC .non))) sNext) (sRet (xAnd (x1 (oIsA "int") (xVar 0)) (xAnd (xNot (x1 (oIsA "bool") (xVar 0))) (x2 oEq (xVar 0) (xVar 1)))))
def m__law_whole : XF := fnM 2 b__law_whole
theorem mo__law_whole : MonoF m__law_whole := monoF_fn (by unfold b__law_whole; exact MS.all)
instance : MF m__law_whole := ⟨mo__law_whole⟩
def b__law_same (self : XF) : XS := sSeq (sIf (bTest (x1 (oIsAny ["tuple", "list"]) (xVar 1))) (sSeq (sIf (bOr (bTest (x2 oNe (x1 (oIsA "tuple") (xVar 0)) (x1 (oIsA "tuple") (xVar 1)))) (bTest (x2 oNe (x1 (oIsA "list") (xVar 0)) (x1 (oIsA "list") (xVar 1))))) (sRet (xC (.bl false))) sNext) (sSeq (sIf (bTest (x2 oNe (x1 oLenA (xVar 0)) (x1 oLenA (xVar 1)))) (sRet (xC (.bl false))) sNext) (sRet (x1 (oAny true) (xLc (mRng1 (x1 oLenA (xVar 1))) (bName 2) bYes (xCall self (xCons (x2 oIx (xVar 0) (xVar 2)) (xCons (x2 oIx (xVar 1) (xVar 2)) xNil)))))))) sNext) (sSeq (sIf (bOr (bTest (x1 (oIsA "bool") (xVar 1))) (bTest (x1 (oIsA "str") (xVar 1)))) (sSeq (sIf (bOr (bNot (bTest (x1 (oIsAny ["bool", "str"]) (xVar 0)))) (bTest (x2 oNe (x1 (oIsA "bool") (xVar 0)) (x1 (oIsA "bool") (xVar 1))))) (sRet (xC (.bl false))) sNext) (sRet (x2 oEq (xVar 0) (xVar 1)))) sNext) (sRet (xCall m__law_whole (xCons (xVar 0) (xCons (xVar 1) xNil)))))
def m__law_same_n : Nat → XF
  | 0 => fun _ _ => False
  | n + 1 => fnM 3 (b__law_same (m__law_same_n n))
theorem mo__law_same_n : ∀ n, MonoF (m__law_same_n n)
  | 0 => fun _ _ _ _ q => q
  | n + 1 => by
    haveI : MF (m__law_same_n n) := ⟨mo__law_same_n n⟩
    exact monoF_fn (by unfold b__law_same; exact MS.all)
def m__law_same : XF := m__law_same_n 8
theorem mo__law_same : MonoF m__law_same := mo__law_same_n 8
instance : MF m__law_same := ⟨mo__law_same⟩
def b__law_logs : XS := sRet (x1 oTup (xLc (mRng1 (x2 oIx (xVar 0) (xC (.int 0)))) (bName 2) bYes (x1 oTup (xLc (mSeq (xVar 1)) (bName 3) (bTest (x2 (oIn false) (xVar 2) (x2 oIx (x2 oIx (xVar 0) (xC (.int 1))) (xVar 3)))) (xImm (xVar 3))))))
def m__law_logs : XF := fnM 4 b__law_logs
theorem mo__law_logs : MonoF m__law_logs := monoF_fn (by unfold b__law_logs; exact MS.all)
instance : MF m__law_logs := ⟨mo__law_logs⟩
end Pu
set_option Elab.async false
set_option linter.all false
set_option maxRecDepth 100000
set_option synthInstance.maxHeartbeats 0
set_option synthInstance.maxSize 100000
namespace Pu
open PySem PySem.Spec PyProof.Rows L2
def b_first_ready : XS := sSeq (sFor (mEnmU (xVar 0)) (bTup 2 (bCons (bName 3) (bCons (bName 4) bNil))) (sIf (bAnd (bTest (x2 (oI fun i j => .bl (decide (j < i))) (x1 oLenA (xVar 4)) (xC (.int 0)))) (bTest (x1 (oAny true) (xLc (mSeq (xVar 4)) (bName 5) bYes (x2 oEq (xSl (x2 oIx (xVar 1) (xVar 5)) (pYes (x2 oIx (xVar 2) (xVar 5))) (pYes (x2 oAdd (x2 oIx (xVar 2) (xVar 5)) (xC (.int 1))))) (xTup (xCons (xImm (xVar 3)) xNil))))))) (sRet (xImm (xVar 3))) sNext)) (sRet (xC .non))
def m_first_ready : XF := fnM 6 b_first_ready
theorem mo_first_ready : MonoF m_first_ready := monoF_fn (by unfold b_first_ready; exact MS.all)
instance : MF m_first_ready := ⟨mo_first_ready⟩
def b_done_by_teams : XS := sSeq (sSet 2 (x2 oRepL (xLst (xCons (xC (.int 0)) xNil)) (x1 oLenA (xVar 1)))) (sSeq (sSet 3 (xLst xNil)) (sSeq (sSet 4 (xCall m_first_ready (xCons (xVar 0) (xCons (xVar 1) (xCons (xVar 2) xNil))))) (sSeq (sWhile (bTest (x2 oNotN (xVar 4) (xC .non))) (sSeq (sApp 3 (xImm (xVar 4))) (sSeq (sFor (mSeq (x2 oIx (xVar 0) (xVar 4))) (bName 5) (sAugS 2 (xVar 5) (xC (.int 1)))) (sSet 4 (xCall m_first_ready (xCons (xVar 0) (xCons (xVar 1) (xCons (xVar 2) xNil)))))))) (sRet (xTup (xCons (x1 oTup (xVar 3)) (xCons (x1 oTup (xVar 2)) xNil)))))))
def m_done_by_teams : XF := fnM 6 b_done_by_teams
theorem mo_done_by_teams : MonoF m_done_by_teams := monoF_fn (by unfold b_done_by_teams; exact MS.all)
instance : MF m_done_by_teams := ⟨mo_done_by_teams⟩
def b_done_by_logs : XS := sRet (xCall m_done_by_teams (xCons (x1 (atF 3 "works") (xVar 0)) (xCons (xVar 1) xNil)))
def m_done_by_logs : XF := fnM 2 b_done_by_logs
theorem mo_done_by_logs : MonoF m_done_by_logs := monoF_fn (by unfold b_done_by_logs; exact MS.all)
instance : MF m_done_by_logs := ⟨mo_done_by_logs⟩
def b_least_row : XS := sSeq (sDrop (xCall m_check_row (xCons (xVar 0) (xCons (xVar 1) xNil)))) (sSeq (sAsgG (bTup 2 (bCons (bName 2) (bCons (bName 3) bNil))) (xCall m_done_by_logs (xCons (xVar 0) (xCons (xCall m_all_logs (xCons (xVar 0) (xCons (xVar 1) xNil))) xNil)))) (sRet (xImm (xVar 2))))
def m_least_row : XF := fnM 4 b_least_row
theorem mo_least_row : MonoF m_least_row := monoF_fn (by unfold b_least_row; exact MS.all)
instance : MF m_least_row := ⟨mo_least_row⟩
end Pu
set_option Elab.async false
set_option linter.all false
set_option maxRecDepth 100000
set_option synthInstance.maxHeartbeats 0
set_option synthInstance.maxSize 100000
namespace Pu
open PySem PySem.Spec PyProof.Rows L2
def b_layers : XS := sSeq (sDrop (xCall m_check_row (xCons (xVar 0) (xCons (xVar 1) xNil)))) (sSeq (sSet 2 (x2 oRepL (xLst (xCons (xC (.int 0)) xNil)) (x1 (atF 3 "desks") (xVar 0)))) (sSeq (sSet 3 (xLst xNil)) (sSeq (sFor (mSeq (xVar 1)) (bName 4) (sSeq (sSet 5 (xImm (x2 oIx (x1 (atF 3 "works") (xVar 0)) (xVar 4)))) (sSeq (sSet 6 (x1 (oMost true) (xLc (mSeq (xVar 5)) (bName 7) bYes (xImm (x2 oIx (xVar 2) (xVar 7)))))) (sSeq (sIf (bTest (x2 oEq (xVar 6) (x1 oLenA (xVar 3)))) (sApp 3 (xLst xNil)) sNext) (sSeq (sLmAt 3 (xVar 6) uApp (xCons (xImm (xVar 4)) xNil)) (sFor (mSeq (xVar 5)) (bName 7) (sPut 2 (xVar 7) (x2 oAdd (xVar 6) (xC (.int 1)))))))))) (sRet (x1 oTup (xLc (mSeq (xVar 3)) (bName 8) bYes (x1 oTup (x1 oSortA (xVar 8)))))))))
def m_layers : XF := fnM 9 b_layers
theorem mo_layers : MonoF m_layers := monoF_fn (by unfold b_layers; exact MS.all)
instance : MF m_layers := ⟨mo_layers⟩
end Pu
set_option Elab.async false
set_option linter.all false
set_option maxRecDepth 100000
set_option synthInstance.maxHeartbeats 0
set_option synthInstance.maxSize 100000
namespace Pu
open PySem PySem.Spec PyProof.Rows L2
end Pu
set_option Elab.async false
set_option linter.all false
set_option maxRecDepth 100000
set_option synthInstance.maxHeartbeats 0
set_option synthInstance.maxSize 100000
namespace Pu
open PySem PySem.Spec PyProof.Rows L2
def b_both_logs : XS := sSeq (sDrop (xCall m_check_row (xCons (xVar 0) (xCons (xVar 1) xNil)))) (sSeq (sDrop (xCall m_check_row (xCons (xVar 0) (xCons (xVar 2) xNil)))) (sRet (xLZip (xCons (xCall m_all_logs (xCons (xVar 0) (xCons (xVar 1) xNil))) (xCons (xCall m_all_logs (xCons (xVar 0) (xCons (xVar 2) xNil))) xNil)))))
def m_both_logs : XF := fnM 3 b_both_logs
theorem mo_both_logs : MonoF m_both_logs := monoF_fn (by unfold b_both_logs; exact MS.all)
instance : MF m_both_logs := ⟨mo_both_logs⟩
def b_is_beginning : XS := sRet (x2 oEq (xSl (xVar 1) pNo (pYes (x1 oLenA (xVar 0)))) (xVar 0))
def m_is_beginning : XF := fnM 2 b_is_beginning
theorem mo_is_beginning : MonoF m_is_beginning := monoF_fn (by unfold b_is_beginning; exact MS.all)
instance : MF m_is_beginning := ⟨mo_is_beginning⟩
end Pu
set_option Elab.async false
set_option linter.all false
set_option maxRecDepth 100000
set_option synthInstance.maxHeartbeats 0
set_option synthInstance.maxSize 100000
namespace Pu
open PySem PySem.Spec PyProof.Rows L2
end Pu
set_option Elab.async false
set_option linter.all false
set_option maxRecDepth 100000
set_option synthInstance.maxHeartbeats 0
set_option synthInstance.maxSize 100000
namespace Pu
open PySem PySem.Spec PyProof.Rows L2
def b_go_together : XS := sRet (xOr (xCall m_is_beginning (xCons (xVar 0) (xCons (xVar 1) xNil))) (xCall m_is_beginning (xCons (xVar 1) (xCons (xVar 0) xNil))))
def m_go_together : XF := fnM 2 b_go_together
theorem mo_go_together : MonoF m_go_together := monoF_fn (by unfold b_go_together; exact MS.all)
instance : MF m_go_together := ⟨mo_go_together⟩
def b_joint : XS := sSeq (sSet 3 (xCall m_both_logs (xCons (xVar 0) (xCons (xVar 1) (xCons (xVar 2) xNil))))) (sSeq (sIf (bNot (bTest (x1 (oAny true) (xLc (mSeq (xVar 3)) (bTup 2 (bCons (bName 7) (bCons (bName 8) bNil))) bYes (xCall m_go_together (xCons (xVar 7) (xCons (xVar 8) xNil))))))) (sRet (xC .non)) sNext) (sSeq (sAsgG (bTup 2 (bCons (bName 4) (bCons (bName 5) bNil))) (xCall m_done_by_logs (xCons (xVar 0) (xCons (xLc (mSeq (xVar 3)) (bName 6) bYes (xImm (xMaxLen (xVar 6)))) xNil)))) (sRet (xImm (xVar 4)))))
def m_joint : XF := fnM 9 b_joint
theorem mo_joint : MonoF m_joint := monoF_fn (by unfold b_joint; exact MS.all)
instance : MF m_joint := ⟨mo_joint⟩
end Pu
set_option Elab.async false
set_option linter.all false
set_option maxRecDepth 100000
set_option synthInstance.maxHeartbeats 0
set_option synthInstance.maxSize 100000
namespace Pu
open PySem PySem.Spec PyProof.Rows L2
def b_places_in : XS := sSeq (sSet 2 (xDc (mSeq (xVar 1)) (bName 4) bYes (xVar 4) (xLst xNil))) (sSeq (sFor (mEnmU (xVar 1)) (bTup 2 (bCons (bName 3) (bCons (bName 4) bNil))) (sLmAtK 2 (xVar 4) uApp (xCons (xImm (xVar 3)) xNil))) (sSeq (sSet 5 (xDc (mSeq (xVar 1)) (bName 4) bYes (xVar 4) (xC (.int 0)))) (sSeq (sSet 6 (xLst xNil)) (sSeq (sFor (mSeq (xVar 0)) (bName 4) (sSeq (sApp 6 (xImm (x2 oIx (x2 oIx (xVar 2) (xVar 4)) (x2 oIx (xVar 5) (xVar 4))))) (sAugS 5 (xVar 4) (xC (.int 1))))) (sRet (xVar 6))))))
def m_places_in : XF := fnM 7 b_places_in
theorem mo_places_in : MonoF m_places_in := monoF_fn (by unfold b_places_in; exact MS.all)
instance : MF m_places_in := ⟨mo_places_in⟩
def b_exchanges : XS := sSeq (sIf (bNot (bTest (xCall m_alike (xCons (xVar 0) (xCons (xVar 1) (xCons (xVar 2) xNil)))))) (sRet (xC .non)) sNext) (sSeq (sSet 3 (xCall m_places_in (xCons (xVar 1) (xCons (xVar 2) xNil)))) (sRet (x1 oSum (xLc (mEnmU (xVar 3)) (bTup 2 (bCons (bName 4) (bCons (bName 5) bNil))) bYes (x1 oLenA (xLc (mSeq (xSl (xVar 3) (pYes (x2 oAdd (xVar 4) (xC (.int 1)))) pNo)) (bName 6) (bTest (x2 (oI fun i j => .bl (decide (i < j))) (xVar 6) (xVar 5))) (xImm (xVar 6))))))))
def m_exchanges : XF := fnM 7 b_exchanges
theorem mo_exchanges : MonoF m_exchanges := monoF_fn (by unfold b_exchanges; exact MS.all)
instance : MF m_exchanges := ⟨mo_exchanges⟩
end Pu
set_option Elab.async false
set_option linter.all false
set_option maxRecDepth 100000
set_option synthInstance.maxHeartbeats 0
set_option synthInstance.maxSize 100000
namespace Pu
open PySem PySem.Spec PyProof.Rows L2
def b__law_rows_to : XS := sSeq (sSet 2 (xLst (xCons (xTup xNil) xNil))) (sSeq (sSet 3 (xLst (xCons (xTup xNil) xNil))) (sSeq (sFor (mRng1 (xVar 1)) (bName 4) (sSeq (sSet 5 (xLst xNil)) (sSeq (sFor (mSeq (xVar 3)) (bName 6) (sLm 5 uExtend (xCons (xLc (mRng1 (x1 oLenA (x2 oIx (xVar 0) (xC (.int 1))))) (bName 7) bYes (x2 oAdd (xVar 6) (xTup (xCons (xImm (xVar 7)) xNil)))) xNil))) (sSeq (sSet 3 (xVar 5)) (sSet 2 (x2 oAdd (xVar 2) (xVar 3))))))) (sRet (xVar 2))))
def m__law_rows_to : XF := fnM 8 b__law_rows_to
theorem mo__law_rows_to : MonoF m__law_rows_to := monoF_fn (by unfold b__law_rows_to; exact MS.all)
instance : MF m__law_rows_to := ⟨mo__law_rows_to⟩
end Pu
set_option Elab.async false
set_option linter.all false
set_option maxRecDepth 100000
namespace Pu
open PySem PySem.Spec PyProof.Rows L2
section
variable {C : Cfg} {Γ Γ' Γn Γl Γo Γt Γe Γ1 Γ2 : List Mo} {σ σ' : L2.St} {H H' H1 H2 : Hp} {env env' : PEnv} {Fs Fs' Fs1 Fs2 : Nat → List Addr} {v : V} {vs : List V} {d d' : D} {ds : List D} {F G G' : List Addr} {ta tb tc te : TE} {A B : Kd} {m n mc ms : X1} {K : PySem.W.Frag} {CT : Nat → Addr} {S : Stat} {pm : List Bool}
abbrev XE2 := List D → (D → D → Prop) → Prop
def MonoE (mf : XE2) : Prop := ∀ ds Q Q', (∀ r d, Q r d → Q' r d) → mf ds Q → mf ds Q'
class ME (mf : XE2) : Prop where
  mono : MonoE mf
variable {P : Program} {w : World} {mg : Str → Option Value} {base : Heap} {x qual : Str} {st : Stmt} {f : Addr} {fd : FuncData} {N ps : List Str}
end
end Pu
set_option Elab.async false
set_option linter.all false
set_option maxRecDepth 100000
namespace Pu
open PySem PySem.Spec PyProof.Rows L2
section
variable {C : Cfg} {Γ Γ' Γn Γl Γo Γt Γe Γ1 Γ2 : List Mo} {σ σ' : L2.St} {H H' H1 H2 : Hp} {env env' : PEnv} {Fs Fs' Fs1 Fs2 : Nat → List Addr} {v : V} {vs : List V} {d d' : D} {ds : List D} {F G G' : List Addr} {ta tb tc te tv tm : TE} {A B : Kd} {m n mc ms mv : X1} {K : PySem.W.Frag} {CT : Nat → Addr} {S : Stat} {pm : List Bool}
end
end Pu
set_option Elab.async false
set_option linter.all false
set_option maxRecDepth 100000
namespace Pu
open PySem PySem.Spec PyProof.Rows L2
section
variable {C : Cfg} {Γ Γl : List Mo} {σ : L2.St} {H : Hp} {env : PEnv} {Fs : Nat → List Addr} {v : V} {vs : List V} {d : D} {ds : List D} {F G : List Addr} {te : TE} {A : Kd} {m : X1} {K : PySem.W.Frag} {CT : Nat → Addr}
end
end Pu
set_option Elab.async false
set_option linter.all false
set_option maxRecDepth 100000
set_option synthInstance.maxHeartbeats 0
set_option synthInstance.maxSize 100000
namespace Pu
open PySem PySem.Spec PyProof.Rows L2
end Pu
set_option Elab.async false
set_option linter.all false
set_option maxRecDepth 100000
namespace Pu
open PySem PySem.Spec PyProof.Rows L2
section
variable {C : Cfg} {Γ : List Mo} {σ : L2.St} {H : Hp} {env : PEnv} {Fs : Nat → List Addr} {CT : Nat → Addr}
end
end Pu
set_option Elab.async false
set_option linter.all false
set_option maxRecDepth 100000
set_option synthInstance.maxHeartbeats 0
set_option synthInstance.maxSize 100000
namespace Pu
open PySem PySem.Spec PyProof.Rows L2
end Pu
set_option Elab.async false
set_option linter.all false
set_option maxRecDepth 100000
set_option maxHeartbeats 1000000
namespace Pu
open PySem PySem.Spec PySem.W PyProof.Rows L2
section
variable {prog : Program} {w : World} {A : Around} {E : Value → Shared → Prop} {s : Shared}
end
section
variable {C : Cfg} {Γ : List Mo} {σ : L2.St} {H : Hp} {env : PEnv} {Fs : Nat → List Addr} {v : V} {vs : List V} {d : D} {ds : List D} {F G : List Addr} {ta td : TE} {A B : Kd} {m n : X1} {K : PySem.W.Frag} {CT : Nat → Addr}
end
end Pu
set_option Elab.async false
set_option linter.all false
set_option maxRecDepth 100000
set_option synthInstance.maxHeartbeats 0
set_option synthInstance.maxSize 100000
namespace Pu
open PySem PySem.Spec PyProof.Rows L2
end Pu
set_option Elab.async false
set_option linter.all false
set_option maxRecDepth 100000
namespace Pu
open PySem PySem.Spec PyProof.Rows L2
section
variable {C : Cfg} {Γ : List Mo} {te tb : TE} {A B : Kd} {m n : X1}
def xTRg1 (m : X1) : X1 := fun env Q => m env fun d => match d with
  | .int j => L2.RgOk 0 j ∧ Q (.tup (rgD 0 (j - 0).toNat))
  | _ => False
theorem sim_trg1 (s : Sim C Γ te A m) : Sim C Γ (tTupRg (tRg1 te)) .own (xTRg1 m) := ⟨fun σ H env Fs Q I h => s.run σ H env Fs _ I (s.mono env _ _ (fun d q v H1 F f dk r k => by
    cases r with
    | int j => exact ⟨j, rfl, q.1, fun p hp => q.2 _ _ [] (f.trans (Fr.new hp)) (dk.keep (Fr.new hp)) (.tup upd_same rgV_D) KdOk.own_nil⟩
    | _ => exact (show False from q).elim) h), fun env Q Q' k q => s.mono env _ _ (fun d q => by cases d <;> first | exact ⟨q.1, k _ q.2⟩ | exact q) q⟩
instance [h : MX m] : MX (xTRg1 m) := ⟨fun env Q Q' k q => h.mono env _ _ (fun d q => by cases d <;> first | exact ⟨q.1, k _ q.2⟩ | exact q) q⟩
end
end Pu
set_option Elab.async false
set_option linter.all false
set_option maxRecDepth 100000
namespace Pu
open PySem PySem.Spec PyProof.Rows L2
section
variable {X : Cx}
end
end Pu
set_option Elab.async false
set_option linter.all false
set_option maxRecDepth 100000
set_option synthInstance.maxHeartbeats 0
set_option synthInstance.maxSize 100000
namespace Pu
open PySem PySem.Spec PyProof.Rows L2
end Pu
set_option Elab.async false
set_option linter.all false
set_option maxRecDepth 100000
namespace Pu
open PySem PySem.Spec PySem.W PyProof.Rows L2
section
variable {prog : Program} {w : World} {A : Around} {R : Result → Shared → Prop} {E : Value → Shared → Prop}
end
section
variable {X : Cx}
end
section
variable {C : Cfg} {Γ Γl : List Mo} {σ : L2.St} {H : Hp} {env : PEnv} {Fs : Nat → List Addr} {v : V} {vs : List V} {d : D} {ds : List D} {F G : List Addr} {te : TE} {A : Kd} {m : X1} {K : PySem.W.Frag} {CT : Nat → Addr}
end
section
variable {X : Cx}
end
end Pu
set_option Elab.async false
set_option linter.all false
set_option maxRecDepth 100000
set_option synthInstance.maxHeartbeats 0
set_option synthInstance.maxSize 100000
namespace Pu
open PySem PySem.Spec PyProof.Rows L2
end Pu
set_option Elab.async false
set_option linter.all false
set_option maxRecDepth 100000
namespace PuN
open PySem
open Sem (wp)
abbrev En := NestedKey × Value × Value
def KeyAt (h : Heap) (k : NestedKey) (v : Value) : Prop := NestedIs h k v ∧ k.depth ≤ 8 ∧ ∀ x t, v ≠ .str x t
def Lies (w : World) (xs : List En) (es : Array DictEntry) : Prop := es.toList = xs.map fun x => ⟨x.1.hash w, x.2.1, x.2.2⟩
def idx (xs : List En) (k : NestedKey) : Option Nat := xs.findIdx? fun x => decide (x.1 = k)
def look (xs : List En) (k : NestedKey) : Option Value := (xs.find? fun x => decide (x.1 = k)).map (·.2.2)
section
variable {prog : Program} {w : World} {A : Around} {E : Value → Shared → Prop} {s : Shared} {xs : List En} {es : Array DictEntry} {k : NestedKey} {key : Value} {d : Addr}
theorem Lies.at {w : World} {xs : List En} {es : Array DictEntry} (l : Lies w xs es) (i : Nat) : es[i]? = (xs[i]?).map fun x => ⟨x.1.hash w, x.2.1, x.2.2⟩ := by
  have e : es.toList[i]? = _ := congrArg (fun l => l[i]?) l
  rw [Array.getElem?_toList, List.getElem?_map] at e
  exact e
theorem Lies.size {w : World} {xs : List En} {es : Array DictEntry} (l : Lies w xs es) : es.size = xs.length := by
  have e := congrArg List.length l
  rw [List.length_map] at e
  rw [← e]; simp
def hasK (xs : List En) (k : NestedKey) (i : Nat) : Bool := match xs[i]? with
  | some x => decide (x.1 = k)
  | none => false
theorem hasK_uniq (hn : (xs.map (·.1)).Nodup) {i j : Nat} (hi : hasK xs k i = true) (hj : hasK xs k j = true) : i = j := by
  unfold hasK at hi hj
  cases ei : xs[i]? with
  | none => rw [ei] at hi; cases hi
  | some x =>
    cases ej : xs[j]? with
    | none => rw [ej] at hj; cases hj
    | some y =>
      rw [ei] at hi; rw [ej] at hj
      have e1 : (xs.map (·.1))[i]? = some k := by rw [List.getElem?_map, ei]; simpa using hi
      have e2 : (xs.map (·.1))[j]? = some k := by rw [List.getElem?_map, ej]; simpa using hj
      have li := (List.getElem?_eq_some_iff.mp e1).1
      exact (List.getElem?_inj li hn).mp (e1.trans e2.symm)
theorem places_idx (l : Lies w xs es) (hn : (xs.map (·.1)).Nodup) : (placesWithHash es.size (fun i => es[i]?.map (·.hash)) (k.hash w)).find? (hasK xs k) = idx xs k := by
  unfold idx
  cases e : xs.findIdx? fun x => decide (x.1 = k) with
  | none =>
    rw [List.findIdx?_eq_none_iff] at e
    refine List.find?_eq_none.mpr fun i _ => ?_
    unfold hasK
    cases q : xs[i]? with
    | none => simp
    | some x =>
      have := e x (List.mem_of_getElem? q)
      simpa using this
  | some i =>
    obtain ⟨hl, hp, _⟩ := List.findIdx?_eq_some_iff_getElem.mp e
    have hk : hasK xs k i = true := by
      unfold hasK
      rw [List.getElem?_eq_getElem hl]
      exact hp
    have hm : i ∈ placesWithHash es.size (fun i => es[i]?.map (·.hash)) (k.hash w) := by
      refine List.mem_filter.mpr ⟨List.mem_range.mpr (by rw [l.size]; exact hl), ?_⟩
      show (es[i]?.map (·.hash) == some (k.hash w)) = true
      rw [l.at i, List.getElem?_eq_getElem hl]
      have : xs[i].1 = k := of_decide_eq_true hp
      simp [this]
    cases q : (placesWithHash es.size (fun i => es[i]?.map (·.hash)) (k.hash w)).find? (hasK xs k) with
    | none => exact absurd hk (List.find?_eq_none.mp q i hm)
    | some j => rw [hasK_uniq hn (List.find?_some q) hk]
theorem in_places {i : Nat} (h : i ∈ placesWithHash es.size (fun i => es[i]?.map (·.hash)) (k.hash w)) : ∃ e, es[i]? = some e ∧ (e.hash == k.hash w) = true := by
  have h2 : (es[i]?.map (·.hash) == some (k.hash w)) = true := (List.mem_filter.mp h).2
  cases q : es[i]? with
  | none => rw [q] at h2; simp at h2
  | some e => rw [q] at h2; exact ⟨e, rfl, by simpa using h2⟩
theorem nodup_places {n : Nat} {f : Nat → Option Int} {g : Int} : (placesWithHash n f g).Nodup := List.Pairwise.filter _ List.nodup_range
theorem not_done {done rest : List Nat} {i : Nat} (hn : (xs.map (·.1)).Nodup) (nd : (done ++ i :: rest).Nodup) (hk : hasK xs k i = true) : done.find? (hasK xs k) = none := by
  refine List.find?_eq_none.mpr fun j hj q => ?_
  have e := hasK_uniq hn q hk
  subst e
  exact (List.nodup_append.mp nd).2.2 j hj j List.mem_cons_self rfl
theorem quietAt (x : KeyAt s.heap k key) : QuietAt prog w 8 s key := quiet_key k key 8 s x.1 x.2.1
theorem mayTell {st : List Value} {Q : Bool → Shared → Prop} (x : KeyAt s.heap k key) (hs : ∀ v ∈ st, ∃ k', KeyAt s.heap k' v) (h : Q false s) : wpAny (model prog w) A (tableMayTell key st) Q E s := by
  unfold tableMayTell
  by_cases e : st.isEmpty = true
  · rw [if_pos e]; exact wpAny_pure h
  · rw [if_neg e]
    refine wpAny_bind (quietAt x A E _ ?_)
    rw [if_neg (by decide)]
    refine wpAny_bind ?_
    refine wpAny_forIn_list _ (fun rest b u => u = s ∧ b = (none, ()) ∧ ∀ v ∈ rest, v ∈ st) _ (fun v rest b u hu => ?_) (fun b u hu => ?_) _ _ ⟨rfl, rfl, fun _ m => m⟩
    · obtain ⟨rfl, rfl, sub⟩ := hu
      obtain ⟨k', y⟩ := hs v (sub v List.mem_cons_self)
      refine wpAny_bind (quietAt y A E _ ?_)
      rw [if_neg (by decide)]
      exact wpAny_pure ⟨rfl, rfl, fun v m => sub v (List.mem_cons_of_mem _ m)⟩
    · obtain ⟨rfl, rfl, _⟩ := hu
      exact wpAny_pure h
theorem asked {o : Obj} {ep : Nat} {i : Nat} {e : DictEntry} {F : Bool → Sem α} {Q : α → Shared → Prop} (hu : A.units + 8 < cLine) (l : Lies w xs es) (hx : ∀ x ∈ xs, KeyAt s.heap x.1 x.2.1) (x : KeyAt s.heap k key) (he : es[i]? = some e)
    (h : wpAny (model prog w) A (F (hasK xs k i)) Q E s) : wpAny (model prog w) A (eqBool e.key key >>= F) Q E s := by
  rw [l.at i] at he
  cases q : xs[i]? with
  | none => rw [q] at he; cases he
  | some y =>
    rw [q] at he
    cases he
    obtain ⟨n1, n2, _⟩ := hx y (List.mem_of_getElem? q)
    refine wpAny_bind (eqAt_key y.1 k A s y.2.1 key n1 x.1 (by have := x.2.1; omega) prog w E _ ?_)
    have e2 : NestedKey.beq y.1 k = hasK xs k i := by
      unfold hasK
      rw [q]
      exact (NestedKey.decide_eq y.1 k).symm
    rw [e2]
    exact h
theorem walkPlain {o : Obj} {ep : Nat} {P : List Nat} {Q : Option Nat → Shared → Prop} (hu : A.units + 8 < cLine) (ho : s.heap.get? d = some o) (hd : o.data = .dict es ep) (l : Lies w xs es) (hx : ∀ x ∈ xs, KeyAt s.heap x.1 x.2.1) (x : KeyAt s.heap k key)
    (hp : ∀ i ∈ P, ∃ e, es[i]? = some e ∧ (e.hash == k.hash w) = true) (h : Q (P.find? (hasK xs k)) s) : wpAny (model prog w) A (dictWalkPlain d key (k.hash w) es P) Q E s := by
  unfold dictWalkPlain
  refine wpAny_bind ?_
  refine wpAny_forIn_list _ (fun rest b u => u = s ∧ b = (none, ()) ∧ ∃ done, P = done ++ rest ∧ done.find? (hasK xs k) = none) _ (fun i rest b u hI => ?_) (fun b u hI => ?_) _ _ ⟨rfl, rfl, [], rfl, rfl⟩
  · obtain ⟨rfl, rfl, done, eP, hnone⟩ := hI
    obtain ⟨e, he, hh⟩ := hp i (by rw [eP]; exact List.mem_append_right _ List.mem_cons_self)
    rw [he]
    dsimp only
    rw [if_pos hh]
    refine wpAny_bind (wpAny_dictEpoch ho hd (asked (o := o) (ep := ep) hu l hx x he (wpAny_bind (wpAny_dictEpoch ho hd ?_))))
    rw [if_neg (show ¬ (ep != ep) = true by simp)]
    cases q : hasK xs k i with
    | true =>
      rw [if_pos rfl]
      rw [eP, List.find?_append, hnone, List.find?_cons_of_pos q] at h
      exact wpAny_bind (wpAny_rule (wpAny_pure (wpAny_pure h)))
    | false =>
      rw [if_neg Bool.false_ne_true]
      exact wpAny_bind (wpAny_rule (wpAny_pure ⟨rfl, rfl, done ++ [i], by rw [eP]; simp, by rw [List.find?_append, hnone]; simp [q]⟩))
  · obtain ⟨rfl, rfl, done, eP, hnone⟩ := hI
    rw [List.append_nil] at eP
    rw [eP, hnone] at h
    exact wpAny_pure h
theorem find {o : Obj} {ep : Nat} {Q : Option Nat → Shared → Prop} (hu : A.units + 8 < cLine) (ho : s.heap.get? d = some o) (hd : o.data = .dict es ep) (l : Lies w xs es) (hn : (xs.map (·.1)).Nodup) (hx : ∀ x ∈ xs, KeyAt s.heap x.1 x.2.1) (x : KeyAt s.heap k key)
    (h : Q (idx xs k) s) : wpAny (model prog w) A (dictFind d key (k.hash w)) Q E s := by
  rw [← places_idx l hn] at h
  have pl : ∀ i ∈ placesWithHash es.size (fun i => es[i]?.map (·.hash)) (k.hash w), ∃ e, es[i]? = some e ∧ (e.hash == k.hash w) = true := fun i m => in_places m
  have nd := nodup_places (n := es.size) (f := fun i => es[i]?.map (·.hash)) (g := k.hash w)
  have st : ∀ v ∈ (placesWithHash es.size (fun i => es[i]?.map (·.hash)) (k.hash w)).filterMap (fun i => es[i]?.map (·.key)), ∃ k', KeyAt s.heap k' v := fun v m => by
    obtain ⟨i, _, q⟩ := List.mem_filterMap.mp m
    rw [l.at i] at q
    cases q2 : xs[i]? with
    | none => rw [q2] at q; cases q
    | some y => rw [q2] at q; cases q; exact ⟨y.1, hx y (List.mem_of_getElem? q2)⟩
  have same : (es.any fun e => e.key == key && e.hash != k.hash w) = false := by
    rw [← Array.any_toList, l, List.any_map, List.any_eq_false]
    intro y hy q
    simp only [Function.comp_apply, Bool.and_eq_true, beq_iff_eq, bne_iff_ne, ne_eq] at q
    have e := NestedIs.inj _ _ _ (q.1 ▸ (hx y hy).1) x.1
    exact q.2 (by rw [e])
  generalize hP : placesWithHash es.size (fun i => es[i]?.map (·.hash)) (k.hash w) = P at h pl nd st
  unfold dictFind
  refine wpAny_holding (wpAny_bind (wpAny_dictEntries ho hd ?_))
  have fin : wpAny (model prog w) A (dictWalkPlain d key (k.hash w) es P) Q E s := walkPlain hu ho hd l hx x pl h
  generalize hst : P.filterMap (fun i => es[i]?.map (·.key)) = st0 at st
  have xc := x.2.2
  obtain ⟨kk, ek, xa⟩ : ∃ kk, kk = k ∧ NestedIs s.heap kk key := ⟨k, rfl, x.1⟩
  have two : ∀ {F : Bool → Sem (Option Nat)}, wpAny (model prog w) A (F false) Q E s → wpAny (model prog w) A (if (st0 == [key]) = true then (pure false >>= F) else (tableMayTell key st0 >>= F)) Q E s := fun {F} q => by
    by_cases h1 : (st0 == [key]) = true
    · rw [if_pos h1]; exact wpAny_bind (wpAny_pure q)
    · rw [if_neg h1]; exact wpAny_bind (mayTell x st q)
  have one : ∀ {G : Sem (Option Nat)} {c : Bool}, (c = true → wpAny (model prog w) A (dictWalkPlain d key (k.hash w) es P) Q E s) → (c = false → wpAny (model prog w) A G Q E s) →
      wpAny (model prog w) A (if c = true then dictWalkPlain d key (k.hash w) es P else G) Q E s := fun {G c} q1 q2 => by
    cases c with
    | true => rw [if_pos rfl]; exact q1 rfl
    | false => rw [if_neg Bool.false_ne_true]; exact q2 rfl
  cases xa with
  | text x1 t => exact absurd rfl (xc x1 t)
  | _ =>
    dsimp only
    rw [hP, hst]
    refine one (fun _ => fin) (fun _ => ?_)
    try rw [if_neg (by rw [same]; decide)]
    refine two ?_
    rw [if_neg (by simp)]
    refine wpAny_bind ?_
    refine wpAny_forIn_list _ (fun rest b u => u = s ∧ ∃ done, P = done ++ rest ∧ b = (none, done.find? (hasK xs k))) _ (fun i rest b u hI => ?_) (fun b u hI => ?_) _ _ ⟨rfl, [], rfl, rfl⟩
    · obtain ⟨rfl, done, eP, eb⟩ := hI
      obtain ⟨e, he, hh⟩ := pl i (by rw [eP]; exact List.mem_append_right _ List.mem_cons_self)
      have nd' : (done ++ i :: rest).Nodup := by rw [← eP]; exact nd
      subst eb
      rw [he]
      dsimp only
      rw [if_pos hh]
      refine wpAny_bind (wpAny_dictEpoch ho hd (asked (o := o) (ep := ep) hu l hx x he (wpAny_bind (wpAny_dictEpoch ho hd ?_))))
      rw [if_neg (show ¬ (ep != ep) = true by simp)]
      cases q : hasK xs k i with
      | true =>
        have hno := not_done hn nd' q
        rw [if_pos rfl, hno]
        rw [if_neg (by simp)]
        refine wpAny_bind (wpAny_rule ?_)
        by_cases h2 : st0.length < 2
        · rw [if_pos h2]
          rw [eP, List.find?_append, hno, List.find?_cons_of_pos q] at h
          exact wpAny_pure (wpAny_pure h)
        · rw [if_neg h2]
          exact wpAny_pure ⟨rfl, done ++ [i], by rw [eP]; simp, by rw [List.find?_append, hno]; simp [q]⟩
      | false =>
        rw [if_neg Bool.false_ne_true]
        refine wpAny_bind (wpAny_rule ?_)
        rw [if_neg (by simp)]
        exact wpAny_pure ⟨rfl, done ++ [i], by rw [eP]; simp, by rw [List.find?_append]; simp [q]⟩
    · obtain ⟨rfl, done, eP, eb⟩ := hI
      rw [List.append_nil] at eP
      subst eb
      rw [eP] at h
      exact wpAny_pure h
end
end PuN
namespace PuN
open PySem
open Sem (wp)
section
variable {prog : Program} {w : World} {A : Around} {E : Value → Shared → Prop} {s : Shared} {xs : List En} {k : NestedKey} {key v : Value} {d : Addr}
def DictN (w : World) (h : Heap) (d : Addr) (xs : List En) : Prop := ∃ o es ep, h.get? d = some o ∧ o.ExactDict ∧ o.data = .dict es ep ∧ Lies w xs es
theorem DictN.typeIs (x : DictN w s.heap d xs) : s.TypeIs (.ref d) "dict" := let ⟨o, _, _, ho, hc, _⟩ := x; ⟨o, ho, hc.1⟩
theorem look_idx : look xs k = (idx xs k).bind fun i => (xs[i]?).map (·.2.2) := by
  unfold look idx
  induction xs with
  | nil => rfl
  | cons x xs ih =>
    by_cases h : x.1 = k
    · simp [h, List.findIdx?_cons]
    · rw [List.find?_cons_of_neg (by simpa using h), List.findIdx?_cons]
      rw [ih]
      simp only [h, decide_false]
      cases xs.findIdx? (fun x => decide (x.1 = k)) <;> rfl
def Keyed (h : Heap) (xs : List En) : Prop := (xs.map (·.1)).Nodup ∧ ∀ x ∈ xs, KeyAt h x.1 x.2.1
def putE (xs : List En) (k : NestedKey) (key v : Value) : List En := if (look xs k).isSome then xs.map (fun x => if x.1 = k then (x.1, x.2.1, v) else x) else xs ++ [(k, key, v)]
theorem look_none (h : idx xs k = none) : look xs k = none := by rw [look_idx, h]; rfl
theorem look_some {i : Nat} (h : idx xs k = some i) : (look xs k).isSome = true := by
  obtain ⟨hl, _⟩ := List.findIdx?_eq_some_iff_getElem.mp h
  rw [look_idx, h]
  simp [hl]
theorem modify_at : ∀ {xs : List En} {i : Nat}, (xs.map (·.1)).Nodup → hasK xs k i = true →
    (xs.map fun x => (⟨x.1.hash w, x.2.1, x.2.2⟩ : DictEntry)).modify i (fun e => { e with val := v }) = (xs.map (fun x => if x.1 = k then (x.1, x.2.1, v) else x)).map fun x => (⟨x.1.hash w, x.2.1, x.2.2⟩ : DictEntry)
  | [], i, _, h => by simp [hasK] at h
  | x :: xs, 0, nd, h => by
    have hk : x.1 = k := by simpa [hasK] using h
    rw [List.map_cons, List.nodup_cons] at nd
    have no : ∀ y ∈ xs, ¬ y.1 = k := fun y hy e => nd.1 (by rw [hk, ← e]; exact List.mem_map.mpr ⟨y, hy, rfl⟩)
    have e : xs.map (fun x => if x.1 = k then (x.1, x.2.1, v) else x) = xs := by
      conv => rhs; rw [← List.map_id xs]
      exact List.map_congr_left fun y hy => by rw [if_neg (no y hy)]; rfl
    rw [List.map_cons, List.map_cons, e, if_pos hk]
    rfl
  | x :: xs, i + 1, nd, h => by
    rw [List.map_cons, List.nodup_cons] at nd
    have h' : hasK xs k i = true := by simpa [hasK] using h
    have hne : ¬ x.1 = k := fun e => by
      unfold hasK at h'
      cases q : xs[i]? with
      | none => rw [q] at h'; cases h'
      | some y => rw [q] at h'; exact nd.1 (List.mem_map.mpr ⟨y, List.mem_of_getElem? q, (of_decide_eq_true h').trans e.symm⟩)
    rw [List.map_cons, List.map_cons, if_neg hne]
    show _ :: (xs.map _).modify i _ = _ :: _
    rw [modify_at nd.2 h']
theorem stored {Q : Unit → Shared → Prop} (hu : A.units + 8 < cLine) (m : DictN w s.heap d xs) (hx : Keyed s.heap xs) (x : KeyAt s.heap k key) (hz : xs.length ≤ sizeLine)
    (h : ∀ h', DictN w h' d (putE xs k key v) → Heap.SameBut d s.heap h' → Q () { s with heap := h', toks := s.toks + k.draws }) : wpAny (model prog w) A (dictSet d key v) Q E s := by
  obtain ⟨o, es, ep, ho, hc, hd, l⟩ := m
  unfold dictSet
  refine wpAny_holding (wpAny_bind (pyHash_key k key A s _ x.1 (by have := x.2.1; omega) ?_))
  unfold dictSetHashed
  refine wpAny_holding (wpAny_bind (find (s := { s with toks := s.toks + k.draws }) hu ho hd l hx.1 hx.2 x ?_))
  cases e : idx xs k with
  | none =>
    have en : putE xs k key v = xs ++ [(k, key, v)] := by unfold putE; rw [look_none e]; rfl
    refine wpAny_bind (wpAny_rule (wpAny_updateDictKeys (hz := by rw [l.size]; exact hz) (s := { s with toks := s.toks + k.draws }) ho hd (h _ ⟨_, _, ep + 1, Heap.get?_update_self _ ho (Obj.isFreed_of_dict (Obj.data_mapDictKeys hd _)), hc.mapDictKeys _, Obj.data_mapDictKeys hd _, ?_⟩ (Heap.SameBut.update ..))))
    rw [en]
    show (es.push _).toList = _
    rw [Array.toList_push, l, List.map_append]
    rfl
  | some i =>
    have hk : hasK xs k i = true := by
      obtain ⟨hl, hp, _⟩ := List.findIdx?_eq_some_iff_getElem.mp e
      unfold hasK
      rw [List.getElem?_eq_getElem hl]
      exact hp
    have en : putE xs k key v = xs.map (fun x => if x.1 = k then (x.1, x.2.1, v) else x) := by unfold putE; rw [if_pos (look_some e)]
    refine wpAny_bind (wpAny_rule (wpAny_bind (wpAny_updateDict (s := { s with toks := s.toks + k.draws }) ho hd (wpAny_point (h _ ⟨_, _, ep, Heap.get?_update_self _ ho (Obj.isFreed_of_dict (Obj.data_mapDict hd _)), hc.mapDict _, Obj.data_mapDict hd _, ?_⟩ (Heap.SameBut.update ..))))))
    rw [en]
    show (es.modify i _).toList = _
    rw [Array.toList_modify, l]
    exact modify_at hx.1 hk
theorem Keyed.put {h : Heap} (hx : Keyed h xs) (x : KeyAt h k key) : Keyed h (putE xs k key v) := by
  unfold putE
  cases e : idx xs k with
  | none =>
    rw [look_none e, if_neg (by decide)]
    refine ⟨?_, fun y hy => ?_⟩
    · rw [List.map_append, List.nodup_append]
      refine ⟨hx.1, by simp, fun a ha b hb q => ?_⟩
      have hb : b = k := by simpa using hb
      subst q hb
      obtain ⟨y, hy, q⟩ := List.mem_map.mp ha
      have := List.findIdx?_eq_none_iff.mp e y hy
      simp [q] at this
    · rcases List.mem_append.mp hy with hy | hy
      · exact hx.2 y hy
      · rw [List.mem_singleton.mp hy]; exact x
  | some i =>
    rw [if_pos (look_some e)]
    refine ⟨?_, fun y hy => ?_⟩
    · rw [List.map_map]
      have : ((fun x : En => x.1) ∘ fun x : En => if x.1 = k then (x.1, x.2.1, v) else x) = fun x => x.1 := funext fun y => by
        show (if y.1 = k then (y.1, y.2.1, v) else y).1 = y.1
        split <;> rfl
      rw [this]; exact hx.1
    · obtain ⟨z, hz, q⟩ := List.mem_map.mp hy
      have := hx.2 z hz
      have q : (if z.1 = k then (z.1, z.2.1, v) else z) = y := q
      subst q
      split <;> exact this
end
end PuN
set_option Elab.async false
set_option linter.all false
set_option maxRecDepth 100000
namespace Pu
open PySem PySem.Spec PyProof.Rows L2
section
variable {C : Cfg} {Γ Γ' Γn Γl Γo Γt Γe Γ1 Γ2 Γf Γu Γw : List Mo} {σ σ' : L2.St} {H H' H1 H2 : Hp} {env env' : PEnv} {Fs Fs' Fs1 Fs2 : Nat → List Addr} {v : V} {vs : List V} {d : D} {ds : List D} {F G : List Addr} {ta tb te : TE} {A B : Kd} {m n : X1} {K : PySem.W.Frag} {CT : Nat → Addr}
structure SimI1 (C : Cfg) (Γ : List Mo) (wi : TI) (m : XL) : Prop where
  run : ∀ (σ : L2.St) (H : Hp) (env : PEnv) (Fs : Nat → List Addr) (R : It → Hp → Prop), Ok C Γ σ H env Fs →
    m env (fun ds => ∀ H' J S P, Fr (Wq C) H H' → DiceOk C H' → Walk C.CT J S P ds → P H' → NoQ C S → (∀ a ∈ S, H a = none) → R J H') → wi σ H R
  mono : Mono m
end
end Pu
set_option Elab.async false
set_option linter.all false
set_option maxRecDepth 100000
namespace Pu
open PySem PySem.Spec PyProof.Rows L2
section
variable {kx vx t i t1 i1 : Expr} {fs fs1 : List Expr} {gens : List Comprehension} {scope : Scope} {pos : Pos} {d : Nat} {it acc : Value} {env : Env} {D : Addr}
end
section
variable {prog : Program} {w : World} {A : Around} {R : Result → Shared → Prop} {s : Shared} {kx vx t i : Expr} {gens : List Comprehension} {scope : Scope} {pos : Pos} {fs : List Expr} {rest : Sem Fin → Sem Fin} {d : Nat} {it acc : Value} {env : Env}
end
abbrev Rest := L2.St → Hp → (Hp → Prop) → Prop
section
variable {X : Cx}
structure RestOk (X : Cx) (sem : Sem Fin → Sem Fin) (vs : List Nat) (rest : Rest) : Prop where
  run : ∀ (pins : List (Addr × Obj)) (s : Shared) (σ : L2.St) (H : Hp) (Nx : Hp → Prop) (k : Sem Fin) (Q : Fin → Shared → Prop) (E : Value → Shared → Prop), Inv X pins σ H s → rest σ H Nx →
    (∀ s' H', Inv X pins (L2.wipe σ vs) H' s' → Nx H' → wpAny (model X.prog X.w) X.A k Q E s') → wpAny (model X.prog X.w) X.A (sem k) Q E s
end
end Pu
set_option Elab.async false
set_option linter.all false
set_option maxRecDepth 100000
namespace Pu
open PySem PySem.Spec PyProof.Rows L2
section
variable {X : Cx}
end
end Pu
set_option Elab.async false
set_option linter.all false
set_option maxRecDepth 100000
namespace Pu
open PySem PySem.Spec PyProof.Rows L2
section
variable {C : Cfg} {Γ Γ' Γn Γl Γo Γt Γe Γ1 Γ2 Γf Γu Γt1 : List Mo} {σ σ' : L2.St} {H H' H1 H2 : Hp} {env env' : PEnv} {Fs Fs' Fs1 Fs2 : Nat → List Addr} {v : V} {vs : List V} {d : D} {ds : List D} {F G : List Addr} {ta tb te tk tv : TE} {A B : Kd} {m n : X1} {K : PySem.W.Frag} {CT : Nat → Addr}
abbrev DRest := PEnv → List (Key × D) → (List (Key × D) → Prop) → Prop
def MonoR (r : DRest) : Prop := ∀ env acc Q Q', (∀ x, Q x → Q' x) → r env acc Q → r env acc Q'
class MR (r : DRest) : Prop where
  mono : MonoR r
def DAt (C : Cfg) (H1 : Hp) (Dl : Addr) (H : Hp) (acc : List (Key × D)) : Prop := ∃ accV F, H Dl = some (.dK accV) ∧ accV.map (·.1) = acc.map (·.1) ∧ Rps C.CT H (accV.map (·.2)) (acc.map (·.2)) F ∧ Fr (Wq C) H1 H ∧ DiceOk C H ∧ F.Nodup ∧ ∀ a ∈ F, H1 a = none ∧ a ≠ Dl
theorem DAt.keep {Dl : Addr} {acc : List (Key × D)} (da : DAt C H1 Dl H acc) (dk : DiceOk C H1) (hD : H1 Dl = none) (f : Fr (Wq C) H H') (dk' : DiceOk C H') : DAt C H1 Dl H' acc := by
  obtain ⟨accV, F, e, ke, r, fr, _, nd, new⟩ := da
  have nqF : ∀ a ∈ F, ¬ Wq C a := (NoQ.new dk fun a ha => (new a ha).1).wq
  exact ⟨accV, F, f.keep _ _ e fun w => wq_there dk w hD, ke, r.keep f nqF, fr.trans f, dk', nd, new⟩
structure SimRest (C : Cfg) (Γ : List Mo) (t : Addr → Rest) (r : DRest) : Prop where
  run : ∀ (σ : L2.St) (H : Hp) (env : PEnv) (Fs : Nat → List Addr) (H1 : Hp) (Dl : Addr) (acc : List (Key × D)) (Nx : Hp → Prop), DiceOk C H1 → H1 Dl = none → Ok C Γ σ H env Fs → DAt C H1 Dl H acc →
    r env acc (fun acc1 => ∀ H', DAt C H1 Dl H' acc1 → Fr (fun x => Wq C x ∨ x = Dl) H H' → Nx H') → t Dl σ H Nx
  mono : MonoR r
end
end Pu
set_option Elab.async false
set_option linter.all false
set_option maxRecDepth 100000
namespace Pu
open PySem PySem.Spec PyProof.Rows L2
open PuN (En DictN Keyed KeyAt look Lies putE)
mutual
inductive KV1 (H : Hp) : NestedKey → V → Prop
  | non : KV1 H .none .non
  | bl (b : Bool) : KV1 H (.num (if b = true then 1 else 0)) (.bl b)
  | int (i : Int) : KV1 H (.num i) (.int i)
  | tup {a : Addr} {vs : List V} {ks : List NestedKey} : H a = some (.tup vs) → KVL H ks vs → KV1 H (.tup ks) (.ref a)
inductive KVL (H : Hp) : List NestedKey → List V → Prop
  | nil : KVL H [] []
  | cons {k : NestedKey} {v : V} {ks : List NestedKey} {vs : List V} : KV1 H k v → KVL H ks vs → KVL H (k :: ks) (v :: vs)
end
section
variable {CT : Nat → Addr} {H : Hp} {P : Program} {w : World} {h : Heap}
mutual
theorem Rp.kv : ∀ {v : V} {d : D} {F : List Addr} {k : NestedKey}, Rp CT H v d F → d.nk = some k → KV1 H k v
  | _, _, _, _, .non, e => by simp only [D.nk, Option.some.injEq] at e; subst e; exact .non
  | _, _, _, _, .bl b, e => by simp only [D.nk, Option.some.injEq] at e; subst e; exact .bl b
  | _, _, _, _, .int i, e => by simp only [D.nk, Option.some.injEq] at e; subst e; exact .int i
  | _, _, _, _, .str b, e => by simp [D.nk] at e
  | _, _, _, _, .tup (ds := ds) h r, e => by
    simp only [D.nk] at e
    cases q : nkL ds with
    | none => rw [q] at e; cases e
    | some ks => rw [q] at e; cases e; exact .tup h (Rps.kv r q)
  | _, _, _, _, .lst h r, e => by simp [D.nk] at e
  | _, _, _, _, .dK h _ r, e => by simp [D.nk] at e
  | _, _, _, _, .dT h _ r, e => by simp [D.nk] at e
  | _, _, _, _, .obj h _ r, e => by simp [D.nk] at e
  | _, _, _, _, .fz h _ _ r, e => by simp [D.nk] at e
  | _, _, _, _, .dN _ _ _ _ _, e => by simp [D.nk] at e
theorem Rps.kv : ∀ {vs : List V} {ds : List D} {F : List Addr} {ks : List NestedKey}, Rps CT H vs ds F → nkL ds = some ks → KVL H ks vs
  | _, _, _, _, .nil, e => by simp only [nkL, Option.some.injEq] at e; subst e; exact .nil
  | _, _, _, _, .cons (d := d) (ds := ds) r rs, e => by
    simp only [nkL] at e
    cases q : d.nk with
    | none => rw [q] at e; cases e
    | some k =>
      cases q2 : nkL ds with
      | none => rw [q, q2] at e; cases e
      | some ks => rw [q, q2] at e; cases e; exact .cons (Rp.kv r q) (Rps.kv rs q2)
end
mutual
theorem nk_imm : ∀ {d : D} {k : NestedKey}, d.nk = some k → d.imm = true
  | .non, _, _ => rfl
  | .bl _, _, _ => rfl
  | .int _, _, _ => rfl
  | .str _, _, e => by simp [D.nk] at e
  | .tup ds, _, e => by
    simp only [D.nk] at e
    cases q : nkL ds with
    | none => rw [q] at e; cases e
    | some ks => exact nkL_imm q
  | .lst _, _, e => by simp [D.nk] at e
  | .dK _, _, e => by simp [D.nk] at e
  | .dT _, _, e => by simp [D.nk] at e
  | .obj _ _, _, e => by simp [D.nk] at e
  | .fz _ _, _, e => by simp [D.nk] at e
  | .dN _, _, e => by simp [D.nk] at e
theorem nkL_imm : ∀ {ds : List D} {ks : List NestedKey}, nkL ds = some ks → immL ds = true
  | [], _, _ => rfl
  | d :: ds, _, e => by
    simp only [nkL] at e
    cases q : d.nk with
    | none => rw [q] at e; cases e
    | some k =>
      cases q2 : nkL ds with
      | none => rw [q, q2] at e; cases e
      | some ks => simp only [immL, nk_imm q, nkL_imm q2, Bool.and_self]
end
theorem ref_tup {a : Addr} {vs : List V} (ok : HOk P w H h) (e : H a = some (.tup vs)) : ∃ its o n, Vals vs its ∧ h.get? a = some o ∧ o.cls = .type "tuple" ∧ o.data = .seq its.toArray n := by
  obtain ⟨_, its, r, o, h1, h2, n, h3⟩ := (show ObjOk P w H h a (.tup vs) from ok a _ e)
  exact ⟨its, o, n, r, h1, h2, h3⟩
mutual
theorem KV1.is : ∀ {k : NestedKey} {v : V} {u : Value}, KV1 H k v → HOk P w H h → RelV v u → NestedIs h k u
  | _, _, _, .non, _, r => by cases (show _ = Value.none from r); exact .none
  | _, _, _, .bl b, _, r => by cases (show _ = Value.bool b from r); exact .bool rfl
  | _, _, _, .int i, _, r => by obtain ⟨t, rfl⟩ := r; exact .int i t
  | _, _, _, .tup (a := a) e ks, ok, r => by
    obtain ⟨its, o, n, rv, h1, h2, h3⟩ := ref_tup ok e
    cases (show _ = Value.ref a from r)
    exact .tup h1 h2 h3 (KVL.is ks ok rv)
theorem KVL.is : ∀ {ks : List NestedKey} {vs : List V} {us : List Value}, KVL H ks vs → HOk P w H h → Vals vs us → NestedAll h ks us
  | _, _, _, .nil, _, r => by cases r; exact .nil
  | _, _, _, .cons k ks, ok, r => by cases r with | cons r rs => exact .cons (KV1.is k ok r) (KVL.is ks ok rs)
end
mutual
theorem KV1.hash : ∀ {k : NestedKey} {v : V}, KV1 H k v → ∀ w w' : World, k.hash w = k.hash w'
  | _, _, .non, w, w' => rfl
  | _, _, .bl b, w, w' => rfl
  | _, _, .int i, w, w' => rfl
  | _, _, .tup _ ks, w, w' => by rw [NestedKey.hash, NestedKey.hash, KVL.hash ks w w']
theorem KVL.hash : ∀ {ks : List NestedKey} {vs : List V}, KVL H ks vs → ∀ w w' : World, NestedKey.hashes w ks = NestedKey.hashes w' ks
  | _, _, .nil, w, w' => rfl
  | _, _, .cons k ks, w, w' => by rw [NestedKey.hashes, NestedKey.hashes, KV1.hash k w w', KVL.hash ks w w']
end
theorem KV1.no_str {k : NestedKey} {v : V} {u : Value} (x : KV1 H k v) (r : RelV v u) : ∀ (z : Str) (t : Tok), u ≠ .str z t := fun z t e => by
  subst e
  cases x with
  | non => cases r
  | bl b => cases r
  | int i => obtain ⟨_, q⟩ := r; cases q
  | tup _ _ => cases r
theorem KV1.at {k : NestedKey} {v : V} {u : Value} (x : KV1 H k v) (hk : k.depth ≤ 8) (ok : HOk P w H h) (r : RelV v u) : KeyAt h k u := ⟨x.is ok r, hk, x.no_str r⟩
end
def NAt (H : Hp) (a : Addr) (xs : List NE) : Prop := H a = some (hN a xs) ∨ (xs = [] ∧ H a = some (.dK []))
def NKeys (H : Hp) (xs : List NE) : Prop := ∀ x ∈ xs, KV1 H x.k x.key ∧ x.k.depth ≤ 8
abbrev ReN (x : NE) (y : En) : Prop := y.1 = x.k ∧ RelV x.key y.2.1 ∧ RelV x.val y.2.2
def NLook (xs : List NE) (k : NestedKey) : Option V := (xs.find? fun x => decide (x.k = k)).map NE.val
def NPut (xs : List NE) (k : NestedKey) (key v : V) : List NE := if (NLook xs k).isSome then xs.map (fun x => if x.k = k then { x with val := v } else x) else xs ++ [⟨k, key, v⟩]
section
variable {H : Hp} {P : Program} {w : World} {h : Heap} {a : Addr} {xs : List NE} {ys : List En}
theorem ens : ∀ {xs : List NE} {es : List DictEntry}, Paired (fun (x : NE) (e : DictEntry) => (∀ w : World, e.hash = x.k.hash w) ∧ RelV x.key e.key ∧ RelV x.val e.val) xs es →
    ∃ ys : List En, Paired ReN xs ys ∧ ∀ w : World, es = ys.map fun y => ⟨y.1.hash w, y.2.1, y.2.2⟩
  | _, _, .nil => ⟨[], .nil, fun _ => rfl⟩
  | _, _, .cons (a := x) (b := e) r t => by
    obtain ⟨ys, h1, h2⟩ := ens t
    exact ⟨(x.k, e.key, e.val) :: ys, .cons ⟨rfl, r.2.1, r.2.2⟩ h1, fun w => by rw [List.map_cons, ← h2 w, ← r.1 w]⟩
theorem ReN.look : ∀ {xs : List NE} {ys : List En} (k : NestedKey), Paired ReN xs ys → RelO (NLook xs k) (PuN.look ys k)
  | _, _, k, .nil => True.intro
  | _, _, k, .cons (a := x) (b := y) r t => by
    have ih := ReN.look k t
    unfold NLook PuN.look at ih ⊢
    by_cases e : x.k = k
    · rw [List.find?_cons_of_pos (by simpa using e), List.find?_cons_of_pos (by simpa [r.1] using e)]
      exact r.2.2
    · rw [List.find?_cons_of_neg (by simpa using e), List.find?_cons_of_neg (by simpa [r.1] using e)]
      exact ih
theorem ReN.keys (r : Paired ReN xs ys) : ys.map (·.1) = xs.map NE.k := by
  induction r with
  | nil => rfl
  | cons r _ ih => rw [List.map_cons, List.map_cons, ih, r.1]
theorem ReN.length (r : Paired ReN xs ys) : ys.length = xs.length := by
  have := congrArg List.length (ReN.keys r)
  simpa using this
theorem nat_rd (ok : HOk P w H h) (e : NAt H a xs) : xs.length ≤ sizeLine ∧ (a == sysModules) = false ∧ (xs.map NE.k).Nodup ∧ ∃ ys, Paired ReN xs ys ∧ DictN w h a ys := by
  rcases e with e | ⟨rfl, e⟩
  · obtain ⟨⟨h1, h2, h3, o, es, ep, h4, h5, h6, h7⟩, _, _⟩ := (show ObjOk P w H h a (hN a xs) from ok a _ e)
    obtain ⟨ys, p, l⟩ := ens h7
    exact ⟨h3, h1, h2, ys, p, o, es, ep, h4, h5, h6, l w⟩
  · obtain ⟨h1, h2, vs, rel, o, es, ep, h4, h5, h6, _, h7, _⟩ := dk_of ok e
    cases rel
    refine ⟨Nat.zero_le _, h2, List.nodup_nil, [], .nil, o, es, ep, h4, h5, h6, ?_⟩
    have e0 : es.toList = [] := by generalize es.toList = l at h7; cases h7; rfl
    rw [Lies, e0]
    rfl
theorem NDict.stay {h1 h2 : Heap} (x : NDict a xs h1) (k : ∀ o, h1.get? a = some o → h2.get? a = some o) : NDict a xs h2 := by
  obtain ⟨y1, y2, y3, o, es, ep, y4, y5⟩ := x
  exact ⟨y1, y2, y3, o, es, ep, k o y4, y5⟩
theorem lies_ne : ∀ {xs : List NE} {ys : List En} {es : List DictEntry}, Paired ReN xs ys → (∀ x ∈ xs, ∀ w w' : World, x.k.hash w = x.k.hash w') → es = ys.map (fun y => (⟨y.1.hash w, y.2.1, y.2.2⟩ : DictEntry)) →
    Paired (fun (x : NE) (e : DictEntry) => (∀ w : World, e.hash = x.k.hash w) ∧ RelV x.key e.key ∧ RelV x.val e.val) xs es
  | _, _, _, .nil, _, e => by subst e; exact .nil
  | _, _, _, .cons (a := x) (b := y) r t, hh, e => by
    subst e
    exact .cons ⟨fun w' => by show y.1.hash w = _; rw [r.1]; exact hh x List.mem_cons_self _ _, r.2.1, r.2.2⟩ (lies_ne t (fun z hz => hh z (List.mem_cons_of_mem _ hz)) rfl)
theorem nat_new {H' : Hp} (hd : (a == sysModules) = false) (nd : (xs.map NE.k).Nodup) (hz : xs.length ≤ sizeLine) (r : Paired ReN xs ys) (hh : ∀ x ∈ xs, ∀ w w' : World, x.k.hash w = x.k.hash w') (m : DictN w h a ys) : ObjOk P w H' h a (hN a xs) := by
  obtain ⟨o, es, ep, h4, h5, h6, l⟩ := m
  exact ⟨⟨hd, nd, hz, o, es, ep, h4, h5, h6, lies_ne r hh l⟩, ⟨o, h4⟩, fun h1 h2 x k => x.stay k⟩
theorem ReN.put {k : NestedKey} {key v : V} {ku vu : Value} (r : Paired ReN xs ys) (rk : RelV key ku) (rv : RelV v vu) : Paired ReN (NPut xs k key v) (putE ys k ku vu) := by
  have e : (NLook xs k).isSome = (PuN.look ys k).isSome := by
    have q := ReN.look k r
    revert q
    cases NLook xs k <;> cases PuN.look ys k <;> intro q <;> first | rfl | exact q.elim
  unfold NPut putE
  rw [e]
  split
  · have : ∀ {xs : List NE} {ys : List En}, Paired ReN xs ys → Paired ReN (xs.map (fun x => if x.k = k then { x with val := v } else x)) (ys.map fun x => if x.1 = k then (x.1, x.2.1, vu) else x) := by
      intro xs ys r
      induction r with
      | nil => exact .nil
      | @cons x y xs ys r t ih =>
        rw [List.map_cons, List.map_cons]
        refine .cons ?_ ih
        rw [r.1]
        by_cases z : x.k = k
        · rw [if_pos z, if_pos z]; exact ⟨rfl, r.2.1, rv⟩
        · rw [if_neg z, if_neg z]; exact r
    exact this r
  · have : ∀ {xs : List NE} {ys : List En} {x : NE} {y : En}, Paired ReN xs ys → ReN x y → Paired ReN (xs ++ [x]) (ys ++ [y]) := by
      intro xs ys x y r q
      induction r with
      | nil => exact .cons q .nil
      | cons r _ ih => exact .cons r ih
    exact this r ⟨rfl, rk, rv⟩
theorem nput_len {k : NestedKey} {key v : V} : (NPut xs k key v).length ≤ xs.length + 1 := by unfold NPut; split <;> simp
end
section
variable {X : Cx} {K : PySem.W.Frag} {CT : Nat → Addr} {H : Hp}
theorem nput_keys {xs : List NE} {k : NestedKey} {key v : V} (nk : NKeys H xs) (hk : KV1 H k key) (hd : k.depth ≤ 8) : NKeys H (NPut xs k key v) := by
  unfold NPut
  split
  · intro x hx
    obtain ⟨y, hy, e⟩ := List.mem_map.mp hx
    have e : (if y.k = k then { y with val := v } else y) = x := e
    have := nk y hy
    subst e
    split <;> exact this
  · intro x hx
    rcases List.mem_append.mp hx with hx | hx
    · exact nk x hx
    · rw [List.mem_singleton.mp hx]; exact ⟨hk, hd⟩
end
end Pu
set_option Elab.async false
set_option linter.all false
set_option maxRecDepth 100000
namespace Pu
open PySem PySem.Spec PyProof.Rows L2
def D.nv : D → Option (List (D × D))
  | .dN kvs => some kvs
  | .dK [] => some []
  | _ => none
def lookN (kds : List (D × D)) (k : NestedKey) : Option D := (kds.find? fun kd => decide (kd.1.nk = some k)).map (·.2)
def putN (kds : List (D × D)) (k : NestedKey) (key x : D) : List (D × D) := if (lookN kds k).isSome then kds.map (fun p => if p.1.nk = some k then (p.1, x) else p) else kds ++ [(key, x)]
section
variable {C : Cfg} {Γ Γ' Γn Γl Γo Γt Γe Γ1 Γ2 Γf Γu Γt1 : List Mo} {σ σ' : L2.St} {H H' H1 H2 : Hp} {env env' : PEnv} {Fs Fs' Fs1 Fs2 : Nat → List Addr} {v : V} {vs : List V} {d : D} {ds : List D} {F G : List Addr} {ta tb te tk tv : TE} {A B : Kd} {m n : X1} {K : PySem.W.Frag} {CT : Nat → Addr} {xs : List NE} {kds : List (D × D)}
structure NRp (CT : Nat → Addr) (H : Hp) (xs : List NE) (kds : List (D × D)) (F : List Addr) : Prop where
  ks : xs.map (fun x => some x.k) = kds.map (fun kd => D.nk kd.1)
  dp : ∀ x ∈ xs, x.k.depth ≤ 8
  kr : Rps CT H (xs.map NE.key) (kds.map (·.1)) []
  vr : Rps CT H (xs.map NE.val) (kds.map (·.2)) F
theorem NRp.nil : NRp CT H [] [] [] := ⟨rfl, (fun _ h => nomatch h), .nil, .nil⟩
theorem NRp.length (r : NRp CT H xs kds F) : xs.length = kds.length := by have := congrArg List.length r.ks; simpa using this
theorem nv_at (r : Rp CT H v d F) (h : d.nv = some kds) : ∃ a xs F0, v = .ref a ∧ F = a :: F0 ∧ NAt H a xs ∧ NRp CT H xs kds F0 := by
  cases r with
  | dN e k z r1 r2 => cases h; exact ⟨_, _, _, rfl, rfl, .inl e, k, z, r1, r2⟩
  | @dK a kvs kx F0 e k r1 =>
    cases kx with
    | nil =>
      cases h
      have e0 : kvs = [] := List.map_eq_nil_iff.mp k
      subst e0
      cases r1
      exact ⟨a, [], [], rfl, rfl, .inr ⟨rfl, e⟩, NRp.nil⟩
    | cons p t => cases h
  | _ => cases h
theorem NRp.keys : ∀ {xs : List NE} {kds : List (D × D)} {F : List Addr}, NRp CT H xs kds F → NKeys H xs
  | [], [], _, _, x, hx => nomatch hx
  | [], _ :: _, _, r, _, _ => by have := r.length; simp at this
  | _ :: _, [], _, r, _, _ => by have := r.length; simp at this
  | y :: xs, kd :: kds, F, ⟨ks, dp, kr, vr⟩, x, hx => by
    simp only [List.map_cons, List.cons.injEq] at ks
    rw [List.map_cons, List.map_cons] at kr vr
    generalize eF : ([] : List Addr) = F0 at kr
    cases kr with
    | @cons _ _ F1 F2 _ _ k1 kr =>
      obtain ⟨rfl, rfl⟩ := List.append_eq_nil_iff.mp eF.symm
      cases vr with
      | cons v1 vr =>
        rcases List.mem_cons.mp hx with e | hx
        · subst e; exact ⟨k1.kv ks.1.symm, dp _ List.mem_cons_self⟩
        · exact NRp.keys ⟨ks.2, fun z hz => dp z (List.mem_cons_of_mem _ hz), kr, vr⟩ x hx
theorem NRp.look (k : NestedKey) : ∀ {xs : List NE} {kds : List (D × D)} {F : List Addr}, NRp CT H xs kds F →
    (NLook xs k = none ∧ lookN kds k = none) ∨ ∃ z x P, NLook xs k = some z ∧ lookN kds k = some x ∧ Rp CT H z x P ∧ P.Sublist F
  | [], [], _, _ => .inl ⟨rfl, rfl⟩
  | [], _ :: _, _, r => by have := r.length; simp at this
  | _ :: _, [], _, r => by have := r.length; simp at this
  | y :: xs, kd :: kds, F, ⟨ks, dp, kr, vr⟩ => by
    simp only [List.map_cons, List.cons.injEq] at ks
    rw [List.map_cons, List.map_cons] at kr vr
    generalize eF : ([] : List Addr) = F0 at kr
    cases kr with
    | @cons _ _ F1 F2 _ _ k1 kr =>
      obtain ⟨rfl, rfl⟩ := List.append_eq_nil_iff.mp eF.symm
      cases vr with
      | @cons _ _ G1 G2 _ _ v1 vr =>
        unfold NLook lookN
        by_cases e : y.k = k
        · rw [List.find?_cons_of_pos (by simpa using e), List.find?_cons_of_pos (by rw [← ks.1]; simpa using e)]
          exact .inr ⟨_, _, G1, rfl, rfl, v1, List.sublist_append_left _ _⟩
        · rw [List.find?_cons_of_neg (by simpa using e), List.find?_cons_of_neg (by rw [← ks.1]; simpa using e)]
          rcases NRp.look k ⟨ks.2, fun z hz => dp z (List.mem_cons_of_mem _ hz), kr, vr⟩ with h | ⟨z, x, P, h1, h2, h3, h4⟩
          · exact .inl h
          · exact .inr ⟨z, x, P, h1, h2, h3, h4.trans (List.sublist_append_right _ _)⟩
theorem NRp.isSome (k : NestedKey) (r : NRp CT H xs kds F) : (NLook xs k).isSome = (lookN kds k).isSome := by
  rcases r.look k with ⟨h1, h2⟩ | ⟨z, x, P, h1, h2, _⟩ <;> rw [h1, h2] <;> rfl
theorem NRp.keep {W : Addr → Prop} (r : NRp CT H xs kds F) (f : Fr W H H') (n : ∀ a ∈ F, ¬ W a) : NRp CT H' xs kds F := ⟨r.ks, r.dp, r.kr.keep f (fun _ m => nomatch m), r.vr.keep f n⟩
def setDN (d e x : D) (Q : D → Prop) : Prop := match d.nv, e.nk with
  | some kds, some k => (k.depth ≤ 8 ∧ kds.length < sizeLine ∧ (kds.map fun p => p.1.nk).Nodup) ∧ Q (.dN (putN kds k e x))
  | _, _ => False
theorem mono_setDN {d e x : D} {Q Q' : D → Prop} (h : ∀ y, Q y → Q' y) (q : setDN d e x Q) : setDN d e x Q' := by
  revert q
  unfold setDN
  cases d.nv <;> cases e.nk <;> first | exact fun z => z | exact fun q => ⟨q.1, h _ q.2⟩
theorem nput_map {k : NestedKey} {y : V} {x : D} (rx : Rp CT H y x G) : ∀ {xs : List NE} {kds : List (D × D)} {F : List Addr}, NRp CT H xs kds F → (xs.map NE.k).Nodup →
    ∃ F', NRp CT H (xs.map (fun z => if z.k = k then { z with val := y } else z)) (kds.map (fun p => if p.1.nk = some k then (p.1, x) else p)) F' ∧ (∀ b ∈ F', b ∈ F ∨ b ∈ G) ∧ ((F ++ G).Nodup → F'.Nodup)
  | [], [], _, r, _ => by cases r.vr; exact ⟨[], NRp.nil, (fun b h => nomatch h), fun _ => List.nodup_nil⟩
  | [], _ :: _, _, r, _ => by have := r.length; simp at this
  | _ :: _, [], _, r, _ => by have := r.length; simp at this
  | z :: xs, kd :: kds, F, ⟨ks, dp, kr, vr⟩, nd => by
    simp only [List.map_cons, List.cons.injEq, List.nodup_cons] at ks nd
    rw [List.map_cons, List.map_cons] at kr vr
    generalize eF : ([] : List Addr) = F0 at kr
    cases kr with
    | @cons _ _ F1 F2 _ _ k1 kr =>
      obtain ⟨rfl, rfl⟩ := List.append_eq_nil_iff.mp eF.symm
      cases vr with
      | @cons _ _ G1 G2 _ _ v1 vr =>
        have r0 : NRp CT H xs kds G2 := ⟨ks.2, fun z hz => dp z (List.mem_cons_of_mem _ hz), kr, vr⟩
        obtain ⟨F', h1, h2, h3⟩ := nput_map rx r0 nd.2
        rw [List.map_cons, List.map_cons]
        by_cases e : z.k = k
        · have hno : ∀ q ∈ xs, ¬ q.k = k := fun q hq z2 => nd.1 (by rw [e, ← z2]; exact List.mem_map.mpr ⟨q, hq, rfl⟩)
          have m1 : xs.map (fun z => if z.k = k then { z with val := y } else z) = xs := by
            conv => rhs; rw [← List.map_id xs]
            exact List.map_congr_left fun q hq => by rw [if_neg (hno q hq)] <;> rfl
          have hno2 : ∀ q ∈ kds, ¬ q.1.nk = some k := fun q hq z2 => by
            have : some k ∈ kds.map (fun kd => D.nk kd.1) := List.mem_map.mpr ⟨q, hq, z2⟩
            rw [← ks.2] at this
            obtain ⟨q2, hq2, e2⟩ := List.mem_map.mp this
            exact hno q2 hq2 (Option.some.inj e2)
          have m2 : kds.map (fun p => if p.1.nk = some k then (p.1, x) else p) = kds := by
            conv => rhs; rw [← List.map_id kds]
            exact List.map_congr_left fun q hq => by rw [if_neg (hno2 q hq)] <;> rfl
          rw [m1, m2, if_pos e, if_pos (by rw [← ks.1, e])]
          refine ⟨G ++ G2, ⟨by simp only [List.map_cons]; rw [ks.1, ks.2], fun q hq => ?_, .cons (F := []) k1 kr, .cons rx vr⟩, fun b h => (List.mem_append.mp h).elim .inr fun h => .inl (List.mem_append_right _ h), fun n => ?_⟩
          · rcases List.mem_cons.mp hq with e3 | hq
            · subst e3; exact dp z List.mem_cons_self
            · exact dp q (List.mem_cons_of_mem _ hq)
          · rw [List.append_assoc] at n
            exact (List.perm_append_comm.nodup_iff).mp (List.nodup_append.mp n).2.1
        · rw [if_neg e, if_neg (by rw [← ks.1]; exact fun z2 => e (Option.some.inj z2))]
          refine ⟨G1 ++ F', ⟨by simp only [List.map_cons]; rw [ks.1]; exact congrArg _ h1.ks, fun q hq => ?_, .cons (F := []) k1 h1.kr, .cons v1 h1.vr⟩, fun b h => ?_, fun n => ?_⟩
          · rcases List.mem_cons.mp hq with e3 | hq
            · subst e3; exact dp _ List.mem_cons_self
            · exact h1.dp q hq
          · rcases List.mem_append.mp h with h | h
            · exact .inl (List.mem_append_left _ h)
            · exact (h2 b h).imp (List.mem_append_right _) id
          · rw [List.append_assoc] at n
            obtain ⟨n1, n2, n3⟩ := List.nodup_append.mp n
            exact List.nodup_append.mpr ⟨n1, h3 n2, fun x hx y hy e => n3 x hx y (List.mem_append.mpr (h2 y hy)) e⟩
theorem nput_rps {k : NestedKey} {w y : V} {e x : D} {P : List Addr} (r : NRp CT H xs kds F) (nd : (xs.map NE.k).Nodup) (re : Rp CT H w e P) (ek : e.nk = some k) (hk : k.depth ≤ 8) (rx : Rp CT H y x G) :
    ∃ F', NRp CT H (NPut xs k w y) (putN kds k e x) F' ∧ (∀ b ∈ F', b ∈ F ∨ b ∈ G) ∧ ((F ++ G).Nodup → F'.Nodup) := by
  unfold NPut putN
  rw [r.isSome k]
  split
  · exact nput_map rx r nd
  · obtain rfl := re.imm (nk_imm ek)
    refine ⟨F ++ (G ++ []), ⟨by rw [List.map_append, List.map_append, r.ks]; simp [ek], fun z hz => ?_, ?_, ?_⟩, fun b h => ?_, fun n => ?_⟩
    · rcases List.mem_append.mp hz with hz | hz
      · exact r.dp z hz
      · rw [List.mem_singleton.mp hz]; exact hk
    · rw [List.map_append, List.map_append]
      exact r.kr.append (.cons (F := []) (G := []) re .nil)
    · rw [List.map_append, List.map_append]
      exact r.vr.append (.cons rx .nil)
    · rw [List.append_nil] at h; exact List.mem_append.mp h
    · rw [List.append_nil]; exact n
end
end Pu
set_option Elab.async false
set_option linter.all false
set_option maxRecDepth 100000
namespace Pu
open PySem PySem.Spec PyProof.Rows L2
section
variable {C : Cfg} {Γ Γ' Γn Γl Γo Γt Γe Γ1 Γ2 Γf Γu Γt1 : List Mo} {σ σ' : L2.St} {H H' H1 H2 : Hp} {env env' : PEnv} {Fs Fs' Fs1 Fs2 : Nat → List Addr} {v : V} {vs : List V} {d : D} {ds : List D} {F G : List Addr} {ta tb te tk tv : TE} {A B : Kd} {m n : X1} {K : PySem.W.Frag} {CT : Nat → Addr} {kds : List (D × D)}
def sPutN (i : Nat) (me mv : X1) : XS := fun E env => mv env fun x => xVar i env fun d => me env fun e => setDN d e x fun d' => E.nx (env.set i (some d'))
instance {i : Nat} {m n : X1} [h : MX m] [h' : MX n] : MS (sPutN i m n) := ⟨fun p q => h'.mono _ _ _ (fun x q => mono_var _ _ _ (fun d q => h.mono _ _ _ (fun e q => mono_setDN (fun y q => p.1 _ q) q) q) q) q⟩
abbrev DRestN := PEnv → List (D × D) → (List (D × D) → Prop) → Prop
def MonoRN (r : DRestN) : Prop := ∀ env acc Q Q', (∀ x, Q x → Q' x) → r env acc Q → r env acc Q'
class MRN (r : DRestN) : Prop where
  mono : MonoRN r
def DAtN (C : Cfg) (H1 : Hp) (Dl : Addr) (H : Hp) (acc : List (D × D)) : Prop := ∃ xs F, NAt H Dl xs ∧ (acc = [] → H Dl = some (.dK [])) ∧ NRp C.CT H xs acc F ∧ Fr (Wq C) H1 H ∧ DiceOk C H ∧ F.Nodup ∧ ∀ a ∈ F, H1 a = none ∧ a ≠ Dl
theorem NAt.keep {W : Addr → Prop} {a : Addr} {xs : List NE} (h : NAt H a xs) (f : Fr W H H') (n : ¬ W a) : NAt H' a xs := h.imp (fun h => f.keep _ _ h n) fun ⟨e, h⟩ => ⟨e, f.keep _ _ h n⟩
theorem DAtN.keep {Dl : Addr} {acc : List (D × D)} (da : DAtN C H1 Dl H acc) (dk : DiceOk C H1) (hD : H1 Dl = none) (f : Fr (Wq C) H H') (dk' : DiceOk C H') : DAtN C H1 Dl H' acc := by
  obtain ⟨xs, F, e, e0, r, fr, _, nd, new⟩ := da
  have nqF : ∀ a ∈ F, ¬ Wq C a := (NoQ.new dk fun a ha => (new a ha).1).wq
  exact ⟨xs, F, e.keep f fun w => wq_there dk w hD, fun z => f.keep _ _ (e0 z) fun w => wq_there dk w hD, r.keep f nqF, fr.trans f, dk', nd, new⟩
structure SimRestN (C : Cfg) (Γ : List Mo) (t : Addr → Rest) (r : DRestN) : Prop where
  run : ∀ (σ : L2.St) (H : Hp) (env : PEnv) (Fs : Nat → List Addr) (H1 : Hp) (Dl : Addr) (acc : List (D × D)) (Nx : Hp → Prop), DiceOk C H1 → H1 Dl = none → Ok C Γ σ H env Fs → DAtN C H1 Dl H acc →
    r env acc (fun acc1 => ∀ H', DAtN C H1 Dl H' acc1 → Fr (fun x => Wq C x ∨ x = Dl) H H' → Nx H') → t Dl σ H Nx
  mono : MonoRN r
end
end Pu
set_option Elab.async false
set_option linter.all false
set_option maxRecDepth 100000
namespace Pu
open PySem PySem.Spec PyProof.Rows L2
section
variable {C : Cfg} {Γ Γ' Γl : List Mo} {σ : L2.St} {H : Hp} {env : PEnv} {Fs : Nat → List Addr}
end
end Pu
set_option Elab.async false
set_option linter.all false
set_option maxRecDepth 100000
set_option synthInstance.maxHeartbeats 0
set_option synthInstance.maxSize 100000
namespace Pu
open PySem PySem.Spec PyProof.Rows L2
end Pu
set_option Elab.async false
set_option linter.all false
set_option maxRecDepth 100000
set_option synthInstance.maxHeartbeats 0
set_option synthInstance.maxSize 100000
namespace Pu
open PySem PySem.Spec PyProof.Rows L2
end Pu
set_option Elab.async false
set_option linter.all false
set_option maxRecDepth 100000
set_option synthInstance.maxHeartbeats 0
set_option synthInstance.maxSize 100000
namespace Pu
open PySem PySem.Spec PyProof.Rows L2
end Pu
set_option Elab.async false
set_option linter.all false
set_option maxRecDepth 100000
namespace Pu
open PySem PySem.Spec PyProof.Rows L2
section
variable {C : Cfg} {Γ Γ1 : List Mo} {K : PySem.W.Frag}
end
end Pu
set_option Elab.async false
set_option linter.all false
set_option maxRecDepth 100000
set_option synthInstance.maxHeartbeats 0
set_option synthInstance.maxSize 100000
namespace Pu
open PySem PySem.Spec PyProof.Rows L2
end Pu
set_option Elab.async false
set_option linter.all false
set_option maxRecDepth 100000
set_option synthInstance.maxHeartbeats 0
set_option synthInstance.maxSize 100000
namespace Pu
open PySem PySem.Spec PyProof.Rows L2
end Pu
set_option Elab.async false
set_option linter.all false
set_option maxRecDepth 100000
namespace Pu
open PySem PySem.Spec PyProof.Rows L2
section
variable {X : Cx}
end
section
variable {C : Cfg} {Γ : List Mo} {K : PySem.W.Frag} {te : TE} {A : Kd} {m : X1}
end
end Pu
set_option Elab.async false
set_option linter.all false
set_option maxRecDepth 100000
set_option synthInstance.maxHeartbeats 0
set_option synthInstance.maxSize 100000
namespace Pu
open PySem PySem.Spec PyProof.Rows L2
end Pu
set_option Elab.async false
set_option linter.all false
set_option maxRecDepth 100000
set_option synthInstance.maxHeartbeats 0
set_option synthInstance.maxSize 100000
namespace Pu
open PySem PySem.Spec PyProof.Rows L2
end Pu
set_option Elab.async false
set_option linter.all false
set_option maxRecDepth 100000
namespace Pu
open PySem PySem.Spec PyProof.Rows L2
section
end
end Pu
set_option Elab.async false
set_option linter.all false
set_option maxRecDepth 100000
namespace Pu
open PySem PySem.Spec PyProof.Rows L2
section
variable {X : Cx} {pins : List (Addr × Obj)} {σ : L2.St} {H : Hp} {s : Shared}
end
section
variable {C : Cfg} {Γ Γl : List Mo} {σ : L2.St} {H : Hp} {env : PEnv} {Fs : Nat → List Addr} {v : V} {vs : List V} {d : D} {ds : List D} {F G : List Addr} {te : TE} {A : Kd} {m : X1} {K : PySem.W.Frag} {CT : Nat → Addr}
end
end Pu
set_option Elab.async false
set_option linter.all false
set_option maxRecDepth 100000
set_option synthInstance.maxHeartbeats 0
set_option synthInstance.maxSize 100000
namespace Pu
open PySem PySem.Spec PyProof.Rows L2
end Pu
set_option Elab.async false
set_option linter.all false
set_option maxRecDepth 100000
namespace Pu
open PySem PySem.Spec PyProof.Rows L2
section
variable {C : Cfg} {Γ : List Mo} {te : TE} {m : X1} {K : PySem.W.Frag}
end
end Pu
set_option Elab.async false
set_option linter.all false
set_option maxRecDepth 100000
namespace Pu
open PySem PySem.Spec PyProof.Rows L2
section
variable {C : Cfg} {Γ Γf Γt : List Mo} {A B : Kd} {te : TE} {K : PySem.W.Frag} {CT : Nat → Addr}
end
end Pu
set_option Elab.async false
set_option linter.all false
set_option maxRecDepth 100000
set_option synthInstance.maxHeartbeats 0
set_option synthInstance.maxSize 100000
namespace Pu
open PySem PySem.Spec PyProof.Rows L2
def b_works_meet : XS := sRet (x1 (oAny false) (xLc (mSeq (x2 oIx (x1 (atF 3 "works") (xVar 0)) (xVar 1))) (bName 3) bYes (x2 (oIn false) (xVar 3) (x2 oIx (x1 (atF 3 "works") (xVar 0)) (xVar 2)))))
def m_works_meet : XF := fnM 4 b_works_meet
theorem mo_works_meet : MonoF m_works_meet := monoF_fn (by unfold b_works_meet; exact MS.all)
instance : MF m_works_meet := ⟨mo_works_meet⟩
end Pu
set_option Elab.async false
set_option linter.all false
namespace Pu
open PySem PySem.Spec PyProof.Rows L2
end Pu
set_option Elab.async false
set_option linter.all false
set_option maxRecDepth 100000
set_option synthInstance.maxHeartbeats 0
set_option synthInstance.maxSize 100000
namespace Pu
open PySem PySem.Spec PyProof.Rows L2
end Pu
set_option Elab.async false
set_option linter.all false
set_option maxRecDepth 100000
namespace Pu
open PySem PySem.Spec PyProof.Rows L2
end Pu
set_option Elab.async false
set_option linter.all false
set_option maxRecDepth 100000
set_option synthInstance.maxHeartbeats 0
set_option synthInstance.maxSize 100000
namespace Pu
open PySem PySem.Spec PyProof.Rows L2
end Pu
set_option Elab.async false
set_option linter.all false
set_option maxRecDepth 100000
set_option synthInstance.maxHeartbeats 0
set_option synthInstance.maxSize 100000
namespace Pu
open PySem PySem.Spec PyProof.Rows L2
end Pu
set_option Elab.async false
set_option linter.all false
set_option maxRecDepth 100000
set_option synthInstance.maxHeartbeats 0
set_option synthInstance.maxSize 100000
namespace Pu
open PySem PySem.Spec PyProof.Rows L2
end Pu
set_option Elab.async false
set_option linter.all false
set_option maxRecDepth 100000
namespace Pu
open PySem PySem.Spec PyProof.Rows L2 Evl
section
variable {σ : L2.St} {H H' H1 H2 : Hp} {te : TE} {K : PySem.W.Frag} {p : Addr × Addr} {s c n : Int} {cs ns : List Int} {W : Addr → Prop}
def Pend (p : Addr × Addr) (H : Hp) (n : Int) (rt : V → Hp → Prop) : Prop := ∀ (z : Int) (H' : Hp) (s c : Int) (cs : List Int), 0 ≤ z → z < n → cs.length ≤ 63 → H' p.1 = some (.lst [.int s, .int c, .ref p.2]) → H' p.2 = some (.lst (vInts cs)) → Fr (WD p) H H' → rt (.int z) H'
theorem Pend.go {rt : V → Hp → Prop} (k : Pend p H n rt) (f : Fr (WD p) H H1) : Pend p H1 n rt := fun z H' s c cs a1 a2 a3 a4 a5 a6 => k z H' s c cs a1 a2 a3 a4 a5 (f.trans a6)
theorem cm2 {i j : Int} (h : -(2 ^ 64) < i ∧ i < 2 ^ 64) : CMul i j := .inl h
end
end Pu
set_option Elab.async false
set_option linter.all false
set_option maxRecDepth 100000
namespace Pu
open PySem PySem.Spec PyProof.Rows L2 Evl
section
variable {σ : L2.St} {H H' H1 H2 : Hp} {te : TE} {K : PySem.W.Frag} {s c n : Int} {cs ns ms : List Int} {W : Addr → Prop} {a : Addr}
end
end Pu
set_option Elab.async false
set_option linter.all false
set_option maxRecDepth 100000
namespace Pu
open PySem PySem.Spec PyProof.Rows L2
section
variable {C : Cfg} {Γ : List Mo} {te : TE} {m : X1} {K : PySem.W.Frag}
end
end Pu
set_option Elab.async false
set_option linter.all false
set_option maxRecDepth 100000
namespace Pu
open PySem PySem.Spec PyProof.Rows L2
section
variable {C : Cfg} {Γ Γ' Γl Γ1 Γ2 : List Mo} {σ : L2.St} {H : Hp} {env : PEnv} {Fs : Nat → List Addr} {d : D} {te : TE} {A : Kd} {m : X1} {K : PySem.W.Frag} {CT : Nat → Addr}
end
end Pu
set_option Elab.async false
set_option linter.all false
set_option maxRecDepth 100000
set_option synthInstance.maxHeartbeats 0
set_option synthInstance.maxSize 100000
namespace Pu
open PySem PySem.Spec PyProof.Rows L2
def b__law_apart : XS := sSeq (sSet 1 (xLst xNil)) (sSeq (sFor (mRng1 (x1 oLenA (x2 oIx (xVar 0) (xC (.int 1))))) (bName 2) (sSet 1 (x2 oAdd (xVar 1) (xLc (mRng2 (x2 oAdd (xVar 2) (xC (.int 1))) (x1 oLenA (x2 oIx (xVar 0) (xC (.int 1))))) (bName 3) (bNot (bTest (xCall m__law_meets (xCons (xVar 0) (xCons (xVar 2) (xCons (xVar 3) xNil)))))) (xTup (xCons (xImm (xVar 2)) (xCons (xImm (xVar 3)) xNil))))))) (sRet (xVar 1)))
def m__law_apart : XF := fnM 4 b__law_apart
theorem mo__law_apart : MonoF m__law_apart := monoF_fn (by unfold b__law_apart; exact MS.all)
instance : MF m__law_apart := ⟨mo__law_apart⟩
end Pu
set_option Elab.async false
set_option linter.all false
set_option maxRecDepth 100000
namespace Pu
open PySem PySem.Spec PyProof.Rows L2
section
variable {A : Around} {E : Value → Shared → Prop} {s : Shared} {K : PySem.W.Frag} {prog : Program} {w : World}
end
section
variable {X : Cx} {n : Nat}
end
end Pu
set_option Elab.async false
set_option linter.all false
set_option maxRecDepth 100000
namespace Pu
open PySem PySem.Spec PyProof.Rows L2
structure OwnC (K : PySem.W.Frag) (C : Addr) : Prop where
  cl : Cls K C
  ha : PySem.W.findIn K (.ref C) "__class__" = some (some (.builtin "object.__class__"))
  hn : PySem.W.specialIn K (.builtin "object.__class__") "__get__" = some (some (.builtin "getset_descriptor.__get__"))
  htk : PySem.W.takesIn K (.builtin "object.__class__") = some true
  hm : PySem.W.mroIn K C (.type "object") = some true
  hne : PySem.W.findIn K (.ref C) "__ne__" = some (some (.builtin "object.__ne__"))
  ho : PySem.W.subIn K (.ref C) (.type "object") = some true
section
variable {C : Cfg} {Γ : List Mo} {te tb : TE} {A B : Kd} {m n : X1} {K : PySem.W.Frag} {S : Stat}
end
end Pu
set_option Elab.async false
set_option linter.all false
set_option maxRecDepth 100000
set_option synthInstance.maxHeartbeats 0
set_option synthInstance.maxSize 100000
namespace Pu
open PySem PySem.Spec PyProof.Rows L2
end Pu
set_option Elab.async false
set_option linter.all false
set_option maxRecDepth 100000
namespace Pu
open PySem PySem.Spec PyProof.Rows L2
def NLk (H : Hp) (d : Addr) (o : Obj) (xs : List NE) : Prop := H d = some (.frz o (hN d xs)) ∨ (xs = [] ∧ H d = some (.frz o (.dK [])))
section
variable {X : Cx} {pins : List (Addr × Obj)} {σ : L2.St} {H : Hp} {s : Shared} {d : Addr} {o : Obj} {xs : List NE}
end
section
variable {P : Program} {w : World} {K : PySem.W.Frag} {tg : Expr} {d : Addr} {o : Obj} {es : Array DictEntry} {ep : Nat} {xs : List NE}
end
section
variable {X : Cx} {tg e : Expr} {td : TE} {apos cpos : Pos}
end
end Pu
set_option Elab.async false
set_option linter.all false
set_option maxRecDepth 100000
namespace Pu
open PySem PySem.Spec PyProof.Rows L2
section
variable {CT : Nat → Addr} {H H' : Hp}
mutual
theorem Rp.nofrz {p : Addr} {od : Obj} {u : HO} (hp : H p = some (.frz od u)) : ∀ {v : V} {d : D} {F : List Addr}, Rp CT H v d F → p ∉ F
  | _, _, _, .non, m => absurd m (by simp)
  | _, _, _, .bl b, m => absurd m (by simp)
  | _, _, _, .int b, m => absurd m (by simp)
  | _, _, _, .str b, m => absurd m (by simp)
  | _, _, _, .tup h r, m => Rps.nofrz hp r m
  | _, _, _, .lst h r, m => by
    rcases List.mem_cons.mp m with e | m
    · subst e; rw [h] at hp; cases hp
    · exact Rps.nofrz hp r m
  | _, _, _, .dK h _ r, m => by
    rcases List.mem_cons.mp m with e | m
    · subst e; rw [h] at hp; cases hp
    · exact Rps.nofrz hp r m
  | _, _, _, .dT h _ r, m => by
    rcases List.mem_cons.mp m with e | m
    · subst e; rw [h] at hp; cases hp
    · exact Rps.nofrz hp r m
  | _, _, _, .obj h _ r, m => by
    rcases List.mem_cons.mp m with e | m
    · subst e; rw [h] at hp; cases hp
    · exact Rps.nofrz hp r m
  | _, _, _, .fz h _ _ r, m => Rps.nofrz hp r m
  | _, _, _, .dN h _ _ _ r, m => by
    rcases List.mem_cons.mp m with e | m
    · subst e; rw [h] at hp; cases hp
    · exact Rps.nofrz hp r m
theorem Rps.nofrz {p : Addr} {od : Obj} {u : HO} (hp : H p = some (.frz od u)) : ∀ {vs : List V} {ds : List D} {F : List Addr}, Rps CT H vs ds F → p ∉ F
  | _, _, _, .nil, m => absurd m (by simp)
  | _, _, _, .cons h r, m => by
    rcases List.mem_append.mp m with m | m
    · exact Rp.nofrz hp h m
    · exact Rps.nofrz hp r m
end
end
def selI (kds : List (D × D)) : List D := kds.map fun kd => .tup [kd.1, kd.2]
section
variable {CT : Nat → Addr} {a : Addr} {od : Obj} {xs : List NE} {kds : List (D × D)} {H : Hp}
abbrev LkN (CT : Nat → Addr) (a : Addr) (od : Obj) (xs : List NE) (kds : List (D × D)) (H : Hp) : Prop := NLk H a od xs ∧ NRp CT H xs kds []
theorem NLk.keep {W : Addr → Prop} {H' : Hp} (h : NLk H a od xs) (f : Fr W H H') : NLk H' a od xs := h.imp (fun h => f.im _ _ h rfl) fun ⟨e, h⟩ => ⟨e, f.im _ _ h rfl⟩
theorem LkN.keep {W : Addr → Prop} {H' : Hp} (h : LkN CT a od xs kds H) (f : Fr W H H') : LkN CT a od xs kds H' := ⟨h.1.keep f, h.2.keep f fun _ m => nomatch m⟩
theorem NRp.at1 (r : NRp CT H xs kds []) {i : Nat} {e : NE} (hx : xs[i]? = some e) : ∃ kd, kds[i]? = some kd ∧ Rp CT H e.key kd.1 [] ∧ Rp CT H e.val kd.2 [] := by
  have hi : i < kds.length := by rw [← r.length]; exact (List.getElem?_eq_some_iff.mp hx).1
  refine ⟨kds[i], List.getElem?_eq_getElem hi, r.kr.at (j := i) (by rw [List.getElem?_map, hx]; rfl) (by rw [List.getElem?_map, List.getElem?_eq_getElem hi]; rfl), r.vr.at (j := i) (by rw [List.getElem?_map, hx]; rfl) (by rw [List.getElem?_map, List.getElem?_eq_getElem hi]; rfl)⟩
end
structure WkN (wi : TE → TI) (sel : List (D × D) → List D) : Prop where
  run : ∀ {CT : Nat → Addr} {a : Addr} {i : Nat} {σ : L2.St} {H : Hp} {od : Obj} {xs : List NE} {kds : List (D × D)} {R : It → Hp → Prop}, σ[i]? = some (some (.ref a)) → NLk H a od xs → xs.length = kds.length →
    (∀ J, Walk CT J [] (LkN CT a od xs kds) (sel kds) → R J H) → wi (tVar i) σ H R
section
variable {C : Cfg} {Γ Γ' Γn Γl Γo Γt Γe Γ1 Γ2 Γf Γu : List Mo} {σ σ' : L2.St} {H H' H1 H2 : Hp} {env env' : PEnv} {Fs Fs' Fs1 Fs2 : Nat → List Addr} {v : V} {vs : List V} {d : D} {ds : List D} {F G : List Addr} {ta tb te : TE} {A B : Kd} {m n : X1} {K : PySem.W.Frag} {CT : Nat → Addr} {i : Nat} {a : Addr} {u : HO} {od : Obj}
def sForN (sel : List (D × D) → List D) (i : Nat) (b : XG) (body : XS) : XS := fun E env => ∃ d kds, env[i]? = some (some d) ∧ d.nv = some kds ∧ immL (kds.map (·.2)) = true ∧
  sLoop b body (sel kds) { nx := fun e => E.nx (e.set i (some d)), rt := E.rt, bk := fun _ => False, ct := fun _ => False } env
theorem mono_sForN {sel : List (D × D) → List D} {b : XG} {body : XS} (hb : ∀ d env Q Q', (∀ e, Q e → Q' e) → b d env Q → b d env Q') (h : ∀ E E' env, PLe E E' → body E env → body E' env) : ∀ (E E' : PEnds) (env : PEnv), PLe E E' → sForN sel i b body E env → sForN sel i b body E' env :=
  fun E E' env p ⟨d, kds, h1, h2, h3, q⟩ => ⟨d, kds, h1, h2, h3, mono_sLoop hb h _ { nx := fun e => E.nx (e.set i (some d)), rt := E.rt, bk := fun _ => False, ct := fun _ => False } { nx := fun e => E'.nx (e.set i (some d)), rt := E'.rt, bk := fun _ => False, ct := fun _ => False } _ ⟨fun e q => p.1 _ q, p.2.1, fun _ q => q, fun _ q => q⟩ q⟩
instance {sel : List (D × D) → List D} {g : XG} {s : XS} [h1 : MG g] [h2 : MS s] : MS (sForN sel i g s) := ⟨fun {E E' env} p q => mono_sForN h1.mono (MS.all (m := s)) E E' env p q⟩
end
end Pu
set_option Elab.async false
set_option linter.all false
set_option maxRecDepth 100000
namespace Pu
open PySem PySem.Spec PyProof.Rows L2
section
variable {C : Cfg} {Γ Γ' Γl : List Mo} {σ : L2.St} {H : Hp} {env : PEnv} {Fs : Nat → List Addr} {v : V} {vs : List V} {d : D} {ds : List D} {F G : List Addr} {ta tb tc te : TE} {A B A' : Kd} {m n p : X1} {K : PySem.W.Frag} {CT : Nat → Addr}
def getN2 (d e z : D) (Q : D → Prop) : Prop := match d.nv, e.nk with
  | some kds, some k => k.depth ≤ 8 ∧ immL (kds.map (·.2)) = true ∧ z.imm = true ∧ Q ((lookN kds k).getD z)
  | _, _ => False
theorem mono_ng {d e z : D} {Q Q' : D → Prop} (h : ∀ x, Q x → Q' x) (q : getN2 d e z Q) : getN2 d e z Q' := by
  unfold getN2 at q ⊢
  revert q
  cases d.nv <;> cases e.nk <;> intro q <;> first | exact q.elim | exact ⟨q.1, q.2.1, q.2.2.1, h _ q.2.2.2⟩
def xNGet2 (m n p : X1) : X1 := fun env Q => m env fun d => d.nv.isSome = true ∧ n env fun e => p env fun z => getN2 d e z Q
instance [h : MX m] [h' : MX n] [h2 : MX p] : MX (xNGet2 m n p) := ⟨fun env Q Q' k q => h.mono env _ _ (fun d q => ⟨q.1, h'.mono env _ _ (fun e q => h2.mono env _ _ (fun z q => mono_ng k q) q) q.2⟩) q⟩
end
end Pu
set_option Elab.async false
set_option linter.all false
set_option maxRecDepth 100000
namespace Pu
open PySem PySem.Spec PyProof.Rows L2
section
variable {C : Cfg} {Γ Γ' Γl : List Mo} {σ : L2.St} {H : Hp} {env : PEnv} {Fs : Nat → List Addr} {v : V} {vs : List V} {d : D} {ds : List D} {F G : List Addr} {ta tb tc te : TE} {A B A' : Kd} {m n p : X1} {K : PySem.W.Frag} {CT : Nat → Addr}
def dispN1 (e z : D) (Q : D → Prop) : Prop := match e.nk with
  | some k => k.depth ≤ 8 ∧ Q (.dN [(e, z)])
  | none => False
theorem mono_dn {e z : D} {Q Q' : D → Prop} (h : ∀ x, Q x → Q' x) (q : dispN1 e z Q) : dispN1 e z Q' := by
  unfold dispN1 at q ⊢
  revert q
  cases e.nk <;> intro q <;> first | exact q.elim | exact ⟨q.1, h _ q.2⟩
def xDispN1 (m n : X1) : X1 := fun env Q => m env fun e => n env fun z => dispN1 e z Q
instance [h : MX m] [h' : MX n] : MX (xDispN1 m n) := ⟨fun env Q Q' k q => h.mono env _ _ (fun e q => h'.mono env _ _ (fun z q => mono_dn k q) q) q⟩
end
def sumVN (d : D) (Q : D → Prop) : Prop := ∃ (kds : List (D × D)) (ns : List Int), d.nv = some kds ∧ kds.map (·.2) = ns.map D.int ∧ Q (.int ns.sum)
section
variable {C : Cfg} {Γ : List Mo} {ta : TE} {A : Kd} {m : X1}
def xSumVN (m : X1) : X1 := fun env Q => m env fun d => sumVN d Q
theorem mono_sumVN {d : D} {Q Q' : D → Prop} (k : ∀ x, Q x → Q' x) (q : sumVN d Q) : sumVN d Q' := let ⟨a, b, c, e, f⟩ := q; ⟨a, b, c, e, k _ f⟩
instance [h : MX m] : MX (xSumVN m) := ⟨fun env Q Q' k q => h.mono env _ _ (fun e q => mono_sumVN k q) q⟩
end
end Pu
set_option Elab.async false
set_option linter.all false
set_option maxRecDepth 100000
namespace Pu
open PySem PySem.Spec PyProof.Rows L2
section
variable {C : Cfg} {Γ Γ' Γl Γ1 Γ2 : List Mo} {σ : L2.St} {H : Hp} {env : PEnv} {Fs : Nat → List Addr} {d : D} {te : TE} {A : Kd} {m : X1} {K : PySem.W.Frag} {CT : Nat → Addr}
def sSetMv (i j : Nat) : XS := fun E env => xVar j env fun d => E.nx (env.set i (some d))
instance {i j : Nat} : MS (sSetMv i j) := ⟨fun p q => mono_var _ _ _ (fun d q => p.1 _ q) q⟩
end
end Pu
set_option Elab.async false
set_option linter.all false
set_option maxRecDepth 100000
namespace Pu
open PySem PySem.Spec PyProof.Rows L2
theorem tuple_mul0 (l : Addr) (its : Array Value) (n : Nat) (dd : Option Addr) (sl : Array (Option Value)) (u : Tok) (he : its.isEmpty = false) :
    Meets (Builtin.«tuple.__mul__» ⟨[.ref l, .int 0 u], []⟩) (fun _ R s => s.heap.get? l = some { cls := .type "tuple", dict := dd, data := .seq its n, slots := sl } ∧
      R (.ok (.ret (Value.ref s.heap.objs.size))) { s with heap := s.heap.push { cls := Value.type "tuple", data := Data.seq #[] }, toks := s.toks }) :=
  .of_wp fun prog w A R s h => by
    obtain ⟨hp, g, d, tk, os⟩ := s
    obtain ⟨hl, h⟩ := h
    have f1 := AutoSeq1.idx_int
    have c0 : (decide ((0 : Int) < -(2 ^ 63)) || decide ((0 : Int) ≥ 2 ^ 63)) = false := by decide
    have c1 : (its.isEmpty || (0 : Int) == 1) = false := by rw [he]; rfl
    have c2 : (decide ((0 : Int) ≤ 0) || its.isEmpty) = true := by rw [he]; rfl
    wp_walk using wpAny_loadPart' hl
    repeat (first
      | (refine wpAny_ite_false (decide_eq_false (by rw [c0]; decide)) ?_; wp_walk using wpAny_loadPart' hl)
      | (refine wpAny_ite_false (decide_eq_false (by rw [c1]; decide)) ?_; wp_walk using wpAny_loadPart' hl)
      | (refine wpAny_ite_true (decide_eq_true (by rw [c2])) ?_; wp_walk using wpAny_loadPart' hl))
    exact ⟨_, rfl, h⟩
def rRepT0 (K : PySem.W.Frag) : R2 := fun x y H Q => ∃ l xs, x = .ref l ∧ y = .int 0 ∧ SqT K H l xs ∧ xs ≠ [] ∧ ∀ p, H p = none → Q (.ref p) (upd H p (.tup []))
theorem op_repT0 {X : Cx} : OpR X (binaryOp .Mult) (rRepT0 X.K) := by
  intro pins s σ H x y v u Q I rx ry h
  obtain ⟨l, xs, rfl, rfl, hT, hne, q⟩ := h
  cases rx
  obtain ⟨t, rfl⟩ := ry
  obtain ⟨its, r, ⟨⟨oc, od, oa, os⟩, ho, e1, n2, e2⟩, hz⟩ := I.tuple hT
  simp only at e1 e2
  subst e1 e2
  have hi : its.toArray.isEmpty = false := by
    cases its with
    | nil => cases r; exact absurd rfl hne
    | cons a b => rfl
  refine wpAny_binaryOp_repeat_ref (T := "tuple") (U := "int") (by decide) ⟨_, ho, rfl⟩ (fun s' => typeIs_int s' 0 t) noFill_tuple_mul F.fills_int_mul F.slot_int_rmul repeat_tuple F.slot_int_index.lookup ?_
  refine call_meets F.slot_int_rmul (typeIs_int s 0 t) F.entry_int_rmul (F.args_int_rmul_2 _ _) (int_rmul_tuple 0 t l its.toArray n2 od os) ⟨ho, rfl, ⟨_, ho, rfl⟩, ?_⟩
  exact call_meets F.slot_tuple_mul ⟨_, ho, rfl⟩ F.entry_tuple_mul (F.args_tuple_mul_2 _ _) (tuple_mul0 l its.toArray n2 od os t hi) ⟨ho, ⟨.ref s.heap.objs.size, _, I.laid (a := s.heap.objs.size) (o := .tup []) (t' := s.toks) (fun _ _ q => Heap.get?_push_of_some _ q) (Nat.le_refl _) ⟨Nat.zero_le _, [], .nil, ⟨_, Heap.get?_push_size _ rfl, rfl, _, rfl⟩⟩, rfl, q _ (I.hok.fresh (Nat.le_refl _))⟩⟩
def rRepTB (K : PySem.W.Frag) : R2 := fun x y H Q => rRepTA K x y H Q ∨ rRepT0 K x y H Q
theorem k_repTB {X : Cx} {K : PySem.W.Frag} (h : X.K = K) : OpR X (binaryOp .Mult) (rRepTB K) := h ▸ (op_repT.or op_repT1).or op_repT0
def oRepTB : O2 := fun d e Q => match d, e with
  | .tup xs, .int k => immL xs = true ∧ xs ≠ [] ∧ 0 ≤ k ∧ k ≤ 1000 ∧ xs.length ≤ 1000 ∧ Q (.tup (List.replicate k.toNat xs).flatten)
  | _, _ => False
theorem mono_oRepTB : Mono2 oRepTB := fun d e Q Q' h q => by
  cases d <;> first | exact q | skip
  cases e <;> first | exact q | skip
  exact ⟨q.1, q.2.1, q.2.2.1, q.2.2.2.1, q.2.2.2.2.1, h _ q.2.2.2.2.2⟩
instance : MO2 oRepTB := ⟨mono_oRepTB⟩
theorem so_repTB {CT : Nat → Addr} {K : PySem.W.Frag} : SimO2 CT (rRepTB K) oRepTB := ⟨fun H v w d e F G Q a b q => by
  cases a with
  | tup ha ra =>
    cases b with
    | int k =>
      obtain ⟨i1, hne, h1, h2, z, q⟩ := q
      have e1 := ra.imm i1
      subst e1
      by_cases hk : k = 0
      · subst hk
        refine .inr ⟨_, _, rfl, rfl, SqT.of ha, fun e => hne ?_, fun p hp => New.at q hp (.tup upd_same .nil)⟩
        have := ra.length
        rw [e] at this
        exact List.eq_nil_of_length_eq_zero this.symm
      · exact .inl (so_repT.run _ _ _ _ _ _ _ _ (.tup ha ra) (.int k) ⟨i1, hne, by omega, h2, z, q⟩)
    | _ => exact (show False from q).elim
  | _ => exact (show False from q).elim, mono_oRepTB⟩
end Pu
set_option Elab.async false
set_option linter.all false
set_option maxRecDepth 100000
namespace Pu
open PySem PySem.Spec PyProof.Rows L2
def oSumT : O1 := fun d Q => match d with
  | .tup xs => ∃ ns : List Int, xs = ns.map D.int ∧ Q (.int ns.sum)
  | _ => False
theorem mono_oSumT : Mono1 oSumT := fun d Q Q' k q => by
  cases d <;> first | exact q | skip
  obtain ⟨ns, e, q⟩ := q
  exact ⟨ns, e, k _ q⟩
instance : MO1 oSumT := ⟨mono_oSumT⟩
section
variable {CT : Nat → Addr} {K : PySem.W.Frag}
end
end Pu
set_option Elab.async false
set_option linter.all false
set_option maxRecDepth 100000
set_option synthInstance.maxHeartbeats 0
set_option synthInstance.maxSize 100000
namespace Pu
open PySem PySem.Spec PyProof.Rows L2
def b_needs_of : XS := sRet (xLc (mEnmU (xVar 1)) (bTup 2 (bCons (bName 2) (bCons (bName 3) bNil))) bYes (xLc (mRng1 (xVar 2)) (bName 4) (bTest (xCall m_works_meet (xCons (xVar 0) (xCons (x2 oIx (xVar 1) (xVar 4)) (xCons (xVar 3) xNil))))) (xImm (xVar 4))))
def m_needs_of : XF := fnM 5 b_needs_of
theorem mo_needs_of : MonoF m_needs_of := monoF_fn (by unfold b_needs_of; exact MS.all)
instance : MF m_needs_of := ⟨mo_needs_of⟩
def b_ready_events : XS := sSeq (sSet 3 (xLc (mEnmU (xVar 2)) (bTup 2 (bCons (bName 4) (bCons (bName 5) bNil))) (bAnd (bNot (bTest (xVar 5))) (bTest (x1 (oAny true) (xLc (mSeq (x2 oIx (xVar 1) (xVar 4))) (bName 7) bYes (xImm (x2 oIx (xVar 2) (xVar 7))))))) (xTup (xCons (xImm (x2 oIx (xVar 0) (xVar 4))) (xCons (xImm (xVar 4)) xNil))))) (sRet (xLc (mSeq (x1 oSortA (xVar 3))) (bTup 2 (bCons (bName 6) (bCons (bName 4) bNil))) bYes (xImm (xVar 4))))
def m_ready_events : XF := fnM 8 b_ready_events
theorem mo_ready_events : MonoF m_ready_events := monoF_fn (by unfold b_ready_events; exact MS.all)
instance : MF m_ready_events := ⟨mo_ready_events⟩
def b_with_done : XS := sRet (x2 oAdd (x2 oAdd (xSl (xVar 0) pNo (pYes (xVar 1))) (xTup (xCons (xC (.bl true)) xNil))) (xSl (xVar 0) (pYes (x2 oAdd (xVar 1) (xC (.int 1)))) pNo))
def m_with_done : XF := fnM 2 b_with_done
theorem mo_with_done : MonoF m_with_done := monoF_fn (by unfold b_with_done; exact MS.all)
instance : MF m_with_done := ⟨mo_with_done⟩
def b_many_alike : XS := sSeq (sDrop (xCall m_check_row (xCons (xVar 0) (xCons (xVar 1) xNil)))) (sSeq (sIf (bTest (x2 (oI fun i j => .bl (decide (j < i))) (x1 oLenA (xVar 1)) (xC (.int 20)))) sNever sNext) (sSeq (sSet 2 (xCall m_needs_of (xCons (xVar 0) (xCons (xVar 1) xNil)))) (sSeq (sSet 3 (xDispN1 (x2 oRepTB (xTup (xCons (xC (.bl false)) xNil)) (x1 oLenA (xVar 1))) (xC (.int 1)))) (sSeq (sFor (mSeq (xVar 1)) (bName 4) (sSeq (sSet 5 (xC (.dK []))) (sSeq (sForN selI 3 (bTup 2 (bCons (bName 6) (bCons (bName 7) bNil))) (sFor (mSeq (xCall m_ready_events (xCons (xVar 1) (xCons (xVar 2) (xCons (xVar 6) xNil))))) (bName 8) (sSeq (sSet 9 (xCall m_with_done (xCons (xVar 6) (xCons (xVar 8) xNil)))) (sPutN 5 (xVar 9) (x2 oAdd (xNGet2 (xVar 5) (xVar 9) (xC (.int 0))) (xVar 7)))))) (sSetMv 3 5)))) (sRet (xSumVN (xVar 3)))))))
def m_many_alike : XF := fnM 10 b_many_alike
theorem mo_many_alike : MonoF m_many_alike := monoF_fn (by unfold b_many_alike; exact MS.all)
instance : MF m_many_alike := ⟨mo_many_alike⟩
def b__law_known_right : XS := sSeq (sSet 1 (xMake 3 i_Office (xCons (xC (.int 2)) (xCons (xTup (xCons (xTup (xCons (xC (.int 0)) xNil)) (xCons (xTup (xCons (xC (.int 1)) xNil)) xNil))) xNil)))) (sSeq (sSet 2 (x1 oTup (xLc (mRng1 (xC (.int 60))) (bName 7) bYes (xCall m__law_draw (xDice (xCons (xC (.int 2)) xNil)))))) (sSeq (sSet 3 (x1 oSumT (xVar 2))) (sSeq (sSet 4 (x2 oAdd (x2 oRepTB (xTup (xCons (xC (.int 0)) xNil)) (x2 (oI fun i j => .int (i - j)) (xC (.int 60)) (xVar 3))) (x2 oRepTB (xTup (xCons (xC (.int 1)) xNil)) (xVar 3)))) (sSeq (sIf (bOr (bTest (x2 oNe (xCall m_least_row (xCons (xVar 1) (xCons (xVar 2) xNil))) (xVar 4))) (bTest (x2 oNe (x1 oLenA (xCall m_layers (xCons (xVar 1) (xCons (xVar 2) xNil)))) (x2 (oI fun i j => .int (if j > i then j else i)) (xVar 3) (x2 (oI fun i j => .int (i - j)) (xC (.int 60)) (xVar 3)))))) (sRet (xC (.bl false))) sNext) (sSeq (sSet 5 (x1 oSum (xLc (mRng1 (xC (.int 60))) (bName 8) bYes (x1 oLenA (xLc (mSeq (xSl (xVar 2) pNo (pYes (xVar 8)))) (bName 9) (bTest (x2 (oI fun i j => .bl (decide (j < i))) (xVar 9) (x2 oIx (xVar 2) (xVar 8)))) (xImm (xVar 9))))))) (sSeq (sIf (bTest (x2 oNe (xCall m_exchanges (xCons (xVar 1) (xCons (xVar 2) (xCons (xVar 4) xNil)))) (xVar 5))) (sRet (xC (.bl false))) sNext) (sSeq (sSet 6 (xMake 3 i_Office (xCons (xC (.int 3)) (xCons (xTup (xCons (xTup (xCons (xC (.int 0)) (xCons (xC (.int 1)) xNil))) (xCons (xTup (xCons (xC (.int 0)) (xCons (xC (.int 2)) xNil))) (xCons (xTup (xCons (xC (.int 0)) xNil)) xNil)))) xNil)))) (sSeq (sSet 2 (x1 oTup (xLc (mRng1 (xC (.int 60))) (bName 7) bYes (xCall m__law_draw (xDice (xCons (xC (.int 3)) xNil)))))) (sSeq (sIf (bOr (bTest (x2 oNe (xCall m_least_row (xCons (xVar 6) (xCons (xVar 2) xNil))) (xVar 2))) (bTest (x2 oNe (xCall m_layers (xCons (xVar 6) (xCons (xVar 2) xNil))) (x1 oTup (xLc (mSeq (xVar 2)) (bName 10) bYes (xTup (xCons (xImm (xVar 10)) xNil))))))) (sRet (xC (.bl false))) sNext) (sRet (xAnd (x2 oEq (xCall m_many_alike (xCons (xVar 6) (xCons (xSl (xVar 2) pNo (pYes (xC (.int 20)))) xNil))) (xC (.int 1))) (x2 (oIn false) (xCall m_joint (xCons (xVar 6) (xCons (xVar 2) (xCons (xSl (xVar 2) (pYes (xC (.int 1))) pNo) xNil)))) (xLst (xCons (xC .non) (xCons (xImm (xVar 2)) xNil)))))))))))))))
def m__law_known_right : XF := fnM 11 b__law_known_right
theorem mo__law_known_right : MonoF m__law_known_right := monoF_fn (by unfold b__law_known_right; exact MS.all)
instance : MF m__law_known_right := ⟨mo__law_known_right⟩
end Pu
set_option Elab.async false
set_option linter.all false
set_option maxRecDepth 100000
namespace Pu
open PySem PySem.Spec PyProof.Rows L2
section
variable {C : Cfg} {Γ : List Mo} {ta tb : TE} {m n : X1} {K : PySem.W.Frag} {A B : Kd}
theorem k_lcnt {X : Cx} {K : PySem.W.Frag} {o e : Expr} {apos cpos : Pos} {to te : TE} (hK : X.K = K) (ho : PE X o to) (he : PE X e te)
    (hbase : attributeBase o "count" X.env (eval o X.env) = eval o X.env := by rfl)
    (hfew : ((backTo cpos (starEach [e] X.env)).all (fun x => !x.1) && (backToKw cpos (keywordEach [] X.env)).all (fun x => x.1.isSome)
      && decide (([e] : List Expr).length + ([] : List Keyword).length + (if ([] : List Keyword).isEmpty then 0 else 1) < 30)) = true := by rfl)
    (hline : (apos.endLine == cpos.line) = true := by rfl) (hs : starEach [e] X.env = (false, eval e X.env) :: starEach [] X.env := by rfl) (hplain : (backTo cpos (starEach [] X.env)).any (·.1) = false := by rfl) :
    PE X (.Call (.Attribute o "count" apos) [e] [] cpos) (tBM K "list" (rCntI K) to (tCons te tNil)) := by
  subst hK
  exact pe_bm PySem.F.plainAttrs_list PySem.F.slot_list_count PySem.F.type_list_count mt_lcount ho (pa_cons he pa_nil hs) hbase hfew hline hs hplain
def cntL (d e : D) (Q : D → Prop) : Prop := match d, e with
  | .lst xs, .int k => ∃ ns : List Int, xs = ns.map D.int ∧ Q (.int (ns.count k : Nat))
  | _, _ => False
theorem mono_cntL {d e : D} {Q Q' : D → Prop} (k : ∀ x, Q x → Q' x) (q : cntL d e Q) : cntL d e Q' := by
  unfold cntL at q ⊢
  split at q
  · obtain ⟨ns, e, q⟩ := q; exact ⟨ns, e, k _ q⟩
  · exact q.elim
def xCntL (m n : X1) : X1 := fun env Q => m env fun d => (∃ xs, d = .lst xs) ∧ n env fun e => cntL d e Q
instance [h : MX m] [h' : MX n] : MX (xCntL m n) := ⟨fun env Q Q' k q => h.mono env _ _ (fun d q => ⟨q.1, h'.mono env _ _ (fun e q => mono_cntL k q) q.2⟩) q⟩
theorem sim_cntL (s : Sim C Γ ta A m) (s' : Sim C Γ tb B n) : Sim C Γ (tBM K "list" (rCntI K) ta (tCons tb tNil)) .own (xCntL m n) :=
  ⟨fun σ H env Fs Q I h => s.run σ H env Fs _ I (s.mono env _ _ (fun d q v H1 F f dk r k => by
    obtain ⟨⟨xs, rfl⟩, q⟩ := q
    cases r with
    | @lst a vs ds F' ha ra =>
      refine ⟨.inl ⟨rfl, _, SqL.of ha⟩, s'.run σ H1 env Fs _ (I.step f dk) (s'.mono env _ _ (fun e q' w H2 G f2 dk2 r2 k2 => ?_) q)⟩
      unfold cntL at q'
      cases r2 with
      | int z =>
        obtain ⟨ns, rfl, q'⟩ := q'
        have ha2 := f2.keep _ _ ha (k.1.wq a List.mem_cons_self)
        obtain ⟨rfl, _⟩ := ra.ints
        exact ⟨_, ns, z, rfl, rfl, SqL.of ha2, q' _ H2 [] (f.trans f2) dk2 (.int _) KdOk.own_nil⟩
      | _ => exact q'.elim) h),
   fun env Q Q' k q => s.mono env _ _ (fun d q => ⟨q.1, s'.mono env _ _ (fun e q => mono_cntL k q) q.2⟩) q⟩
end
end Pu
set_option Elab.async false
set_option linter.all false
set_option maxRecDepth 100000
namespace PuN
open PySem PySem.Spec PyProof.Rows L2
open Sem (wp)
def mergeE (acc rest : List En) : List En := rest.foldl (fun a q => putE a q.1 q.2.1 q.2.2) acc
theorem putE_len (xs : List En) (k : NestedKey) (key v : Value) : (putE xs k key v).length ≤ xs.length + 1 := by
  unfold putE
  split <;> simp
def SeqKept (h h' : Heap) : Prop := ∀ a o vs n, h.get? a = some o → o.data = .seq vs n → h'.get? a = some o
theorem SeqKept.trans {h h1 h2 : Heap} (a : SeqKept h h1) (b : SeqKept h1 h2) : SeqKept h h2 := fun x o vs n e d => b x o vs n (a x o vs n e d) d
theorem KeyAt.later {h h' : Heap} {k : NestedKey} {v : Value} (x : KeyAt h k v) (s : SeqKept h h') : KeyAt h' k v := ⟨x.1.at s, x.2.1, x.2.2⟩
theorem Keyed.later {h h' : Heap} {xs : List En} (x : Keyed h xs) (s : SeqKept h h') : Keyed h' xs := ⟨x.1, fun y hy => (x.2 y hy).later s⟩
section
variable {prog : Program} {w : World} {A : Around} {E : Value → Shared → Prop}
theorem updN_loop {R : Result → Shared → Prop} {S I l : Addr} {items : Array Value} {res : Value} (hh : A.handled = none) (hu : A.units + 16 < cLine) (hlI : l ≠ I) (hSI : S ≠ I) (hSl : S ≠ l) :
    ∀ (rest : List En) (i : Nat) (acc : List En) (ix : Int) (t : Tok) (s : Shared), items.size = i + rest.length → acc.length + rest.length ≤ sizeLine →
      (∀ (j : Nat) (q : En), rest[j]? = some q → ∃ b : Addr, items[i + j]? = some (.ref b) ∧ b ≠ S ∧ b ≠ I ∧ IsTup s.heap b #[q.2.1, q.2.2] ∧ KeyAt s.heap q.1 q.2.1) →
      s.heap.IsListIter I l i → s.heap.IsList l items → DictN w s.heap S acc → Keyed s.heap acc →
      (∀ h' tk, DictN w h' S (mergeE acc rest) → Keyed h' (mergeE acc rest) → (∀ b o, b ≠ S → b ≠ I → s.heap.get? b = some o → h'.get? b = some o) → R (.ok (.ret res)) { s with heap := h', toks := tk }) →
      codeAny (model prog w) A (.builtin "dict.update.loop" ⟨[.ref S, .ref I, .int ix t, res], []⟩) R s
  | [], i, acc, ix, t, s, hsz, hln, ht, hit, hl, hm, hx, hR => by
    refine codeAny_builtin ud_entry ?_
    rw [Around.under_plainId ud_plain _]
    show wpAny _ A.in1 (pyNext (.ref I) >>= _) _ _ s
    refine wpAny_bind (wpAny_pyNext_list_end (A := A.in1) hh hit hl (by first | exact Array.getElem?_eq_none (Nat.le_of_eq hsz) | (simp at hsz; simp; omega)) fun h' he => ?_)
    show wpAny _ A.in1 (Builtin.Dict.addKeywords S [] >>= _) _ _ _
    refine wpAny_bind (wpAny_pure (wpAny_pure ?_))
    obtain ⟨oi, hoi, hci, hdi⟩ := id hit
    obtain ⟨o, es, ep, ho, hc, hd, lz⟩ := hm
    have sk : SeqKept s.heap h' := fun a o vs n e d => he a o (fun z => by
      subst z
      rw [hoi] at e
      cases e
      rw [d] at hdi
      simp at hdi) e
    exact hR h' s.toks ⟨o, es, ep, he S o hSI ho, hc, hd, lz⟩ (hx.later sk) fun b o _ hb e => he b o hb e
  | q :: rest, i, acc, ix, t, s, hsz, hln, ht, hit, hl, hm, hx, hR => by
    obtain ⟨b, hb, hbS, hbI, htup, hk⟩ := ht 0 q rfl
    rw [List.length_cons] at hsz hln
    refine codeAny_builtin ud_entry ?_
    rw [Around.under_plainId ud_plain _]
    show wpAny _ A.in1 (pyNext (.ref I) >>= _) _ _ s
    refine wpAny_bind (wpAny_pyNext_list_item (x := .ref b) hit hl (by simpa using hb) fun h1 hit1 hs1 => ?_)
    have sk1 : SeqKept s.heap h1 := fun a o vs n e d => by
      obtain ⟨oi, hoi, hci, hdi⟩ := id hit
      refine hs1.extBut a o (fun z => ?_) e
      subst z
      rw [hoi] at e
      cases e
      rw [d] at hdi
      simp at hdi
    have ht1 : IsTup h1 b #[q.2.1, q.2.2] := htup.extBut hs1.extBut hbI
    have hl1 : h1.IsList l items := hl.extBut hs1.extBut hlI
    have hm1 : DictN w h1 S acc := by
      obtain ⟨o, es, ep, ho, hc, hd, lz⟩ := hm
      exact ⟨o, es, ep, hs1.extBut S o hSI ho, hc, hd, lz⟩
    obtain ⟨o, ho, hc, n, hd⟩ := id ht1
    show wpAny _ A.in1 (holding [Value.ref b] _ >>= _) _ _ _
    refine wpAny_bind (wpAny_holding ?_)
    refine wpAny_bind (wpAny_tryCatch ?_)
    unfold Builtin.Dict.pairItems
    refine wpAny_bind (wpAny_typeOf (T := "tuple") ⟨o, ho, hc⟩ ?_)
    rw [if_pos (by first | decide | rfl | simp)]
    refine wpAny_bind (wpAny_seqItems ho hd (wpAny_pure ?_))
    show wpAny _ A.in1 (holding [q.2.1, q.2.2] (dictSet S q.2.1 q.2.2)) _ _ _
    have hx1 : Keyed h1 acc := hx.later sk1
    have hk1 : KeyAt h1 q.1 q.2.1 := hk.later sk1
    refine wpAny_holding (stored (v := q.2.2) (s := { s with heap := h1 }) (by rw [Around.in1_units]; omega) hm1 hx1 hk1 (by omega) fun h2 hm2 hs2 => ?_)
    have sk2 : SeqKept h1 h2 := fun a o' vs n' e d => by
      obtain ⟨oS, es, ep, hoS, _, hdS, _⟩ := hm1
      refine hs2.extBut a o' (fun z => ?_) e
      subst z
      rw [hoS] at e
      cases e
      rw [d] at hdS
      cases hdS
    refine wpAny_pure ⟨plainId_quiet ud_plain _, updN_loop (items := items) hh hu hlI hSI hSl rest (i + 1) (putE acc q.1 q.2.1 q.2.2) (ix + 1) 0 _ (show items.size = i + 1 + rest.length by omega) ?_ (fun j q' e => ?_) ?_ ?_ hm2 ((hx1.put hk1).later sk2) fun h' tk hd' hx' k => ?_⟩
    · have z := putE_len acc q.1 q.2.1 q.2.2
      omega
    · obtain ⟨b', hb', hbS', hbI', htup', hk'⟩ := ht (j + 1) q' (by simpa using e)
      refine ⟨b', ?_, hbS', hbI', (htup'.extBut hs1.extBut hbI').extBut hs2.extBut hbS', (hk'.later sk1).later sk2⟩
      rw [show i + 1 + j = i + (j + 1) by omega]
      exact hb'
    · exact hit1.at fun o' e => hs2.extBut I o' (Ne.symm hSI) e
    · exact hl1.extBut hs2.extBut (Ne.symm hSl)
    · exact hR h' tk hd' hx' fun c oc h3 h4 e => k c oc h3 h4 (hs2.extBut c oc h3 (hs1.extBut c oc h4 e))
theorem call_dictN {s : Shared} {l : Addr} {ol : Obj} {items : Array Value} {n : Nat} {prs : List En} {Q : Value → Shared → Prop} (hh : A.handled = none) (hu : A.units + 64 < cLine) (hl : s.heap.get? l = some ol) (hc : ol.cls = .type "list") (hd : ol.dict = none)
    (hdat : ol.data = .seq items n) (hsz : items.size = prs.length) (hln : prs.length ≤ sizeLine)
    (ht : ∀ (j : Nat) (q : En), prs[j]? = some q → ∃ b : Addr, items[j]? = some (.ref b) ∧ IsTup s.heap b #[q.2.1, q.2.2] ∧ KeyAt s.heap q.1 q.2.1)
    (h : ∀ h' tk, DictN w h' s.heap.objs.size (mergeE [] prs) → Keyed h' (mergeE [] prs) → (∀ b o, s.heap.get? b = some o → h'.get? b = some o) → Q (.ref s.heap.objs.size) { s with heap := h', toks := tk }) :
    wpAny (model prog w) A (call (.type "dict") [.ref l]) Q E s := by
  refine callType_codes (Q₁ := fun obj s₁ => obj = .ref s.heap.objs.size ∧ s₁ = { s with heap := s.heap.push { cls := .type "dict", data := .dict #[] } }) PySem.F.kt_called_dict (PySem.F.kt_typeCall_dict_1 _) PySem.F.entry_dict_init (kt_code_dict_new _ ⟨rfl, rfl⟩) ?_
  rintro obj s₁ ⟨rfl, rfl⟩
  have hnew : (s.heap.push { cls := .type "dict", data := .dict #[] }).DictOf (mixKind prog w) s.heap.objs.size [] := Heap.DictOf.new s.heap
  have k0 : ∀ b o, s.heap.get? b = some o → (s.heap.push { cls := .type "dict", data := .dict #[] }).get? b = some o := fun b o e => Heap.get?_push_of_some _ e
  refine ⟨hnew.typeIs, PySem.F.args_dict_init_2 _ _, ?_⟩
  unfold Builtin.«dict.__init__»
  refine wpAny_bind ?_
  unfold Builtin.Dict.selfAndRest
  refine wpAny_bind (wpAny_notOrdered_dict hnew.typeIs ?_)
  show wpAny _ _ (pure (s.heap.objs.size, [Value.ref l])) _ _ _
  refine wpAny_pure ?_
  show wpAny _ _ (Builtin.Dict.updateFrom "dict.__init__" s.heap.objs.size (.ref l) [] .none) _ _ _
  unfold Builtin.Dict.updateFrom
  refine wpAny_bind (wpAny_typeOf (T := "list") ⟨ol, k0 _ _ hl, hc⟩ ?_)
  rw [if_pos (by first | decide | rfl | simp)]
  refine wpAny_bind (miss_list (k0 _ _ hl) hc hdat hd hh fun h1 tk1 hk1 => ?_)
  rw [if_pos (show (none : Option Value).isNone = true from rfl)]
  refine wpAny_bind (wpAny_rule ?_)
  have hl1 : h1.IsList l items := ⟨ol, hk1 _ _ (k0 _ _ hl), hc, n, hdat⟩
  have e0 : (s.heap.push { cls := .type "dict", data := .dict #[] }).get? s.heap.objs.size = some { cls := .type "dict", data := .dict #[] } := Heap.get?_push_size _ rfl
  have hS1 : s.heap.objs.size < h1.objs.size := Heap.lt_size (hk1 _ _ e0)
  refine wpAny_bind (wpAny_pyIter_list hl1 ?_)
  have k2 : ∀ b o, h1.get? b = some o → (h1.push { cls := .type "list_iterator", data := .fields #[.ref l, .int 0 0] }).get? b = some o := fun b o e => Heap.get?_push_of_some _ e
  have hlt : l < s.heap.objs.size := Heap.lt_size hl
  have ka : ∀ b o, s.heap.get? b = some o → (h1.push { cls := .type "list_iterator", data := .fields #[.ref l, .int 0 0] }).get? b = some o := fun b o e => k2 _ _ (hk1 _ _ (k0 _ _ e))
  have key := updN_loop (prog := prog) (w := w) (A := A.in1) (R := wants (fun r s₂ => r = .none ∧ Q (.ref s.heap.objs.size) s₂) E) (S := s.heap.objs.size) (I := h1.objs.size) (l := l) (items := items) (res := Value.none) hh (by rw [Around.in1_units]; omega)
    (Nat.ne_of_lt (Nat.lt_trans hlt hS1)) (Nat.ne_of_lt hS1) (Nat.ne_of_gt hlt) prs 0 [] 0 0
    { s with heap := h1.push { cls := .type "list_iterator", data := .fields #[.ref l, .int 0 0] }, toks := tk1 } (by rw [hsz, Nat.zero_add]) (by rw [List.length_nil, Nat.zero_add]; exact hln)
    (fun j q e => by
      obtain ⟨b, e1, e2, e3⟩ := ht j q e
      have hb : b < s.heap.objs.size := e2.lt
      exact ⟨b, by rw [Nat.zero_add]; exact e1, Nat.ne_of_lt hb, Nat.ne_of_lt (Nat.lt_trans hb hS1), e2.keeps fun c o z => ka _ _ z, e3.later fun a o vs n e d => ka _ _ e⟩)
    ⟨_, Heap.get?_push_size _ rfl, rfl, rfl⟩ (hl1.at fun o e => k2 _ _ e) ⟨_, #[], 0, k2 _ _ (hk1 _ _ e0), ⟨rfl, rfl, rfl⟩, rfl, rfl⟩ ⟨List.nodup_nil, fun x h => nomatch h⟩
    (fun h' tk hd' hx' k => ⟨rfl, h h' tk hd' hx' fun b o e => k b o (Nat.ne_of_lt (Heap.lt_size e)) (Nat.ne_of_lt (Nat.lt_trans (Heap.lt_size e) hS1)) (ka _ _ e)⟩)
  first
    | exact wpAny_pure ⟨plainId_quiet ud_plain _, key⟩
    | exact wpAny_bind (wpAny_pure (wpAny_pure ⟨plainId_quiet ud_plain _, key⟩))
end
end PuN
set_option Elab.async false
set_option linter.all false
set_option maxRecDepth 100000
namespace Pu
open PySem PySem.Spec PyProof.Rows L2
open PuN (En DictN Keyed KeyAt mergeE)
def mergeN (acc es : List NE) : List NE := es.foldl (fun a e => NPut a e.k e.key e.val) acc
theorem ren_merge : ∀ {es : List NE} {rs : List En} {xs : List NE} {ys : List En}, Paired ReN es rs → Paired ReN xs ys → Paired ReN (mergeN xs es) (mergeE ys rs)
  | _, _, _, _, .nil, q => q
  | _, _, _, _, .cons (a := e) (b := r) h t, q => by
    refine ren_merge t (xs := NPut _ e.k e.key e.val) (ys := PuN.putE _ r.1 r.2.1 r.2.2) ?_
    rw [h.1]
    exact ReN.put q h.2.1 h.2.2
theorem nkeys_merge {H : Hp} : ∀ {es xs : List NE}, NKeys H es → NKeys H xs → NKeys H (mergeN xs es)
  | [], xs, _, q => q
  | e :: es, xs, h, q => nkeys_merge (es := es) (xs := NPut xs e.k e.key e.val) (fun x hx => h x (List.mem_cons_of_mem _ hx)) (nput_keys q (h e List.mem_cons_self).1 (h e List.mem_cons_self).2)
theorem merge_len : ∀ {es xs : List NE}, (mergeN xs es).length ≤ xs.length + es.length
  | [], xs => Nat.le_refl _
  | e :: es, xs => by
    have h1 := merge_len (es := es) (xs := NPut xs e.k e.key e.val)
    have h2 := nput_len (xs := xs) (k := e.k) (key := e.key) (v := e.val)
    show (mergeN (NPut xs e.k e.key e.val) es).length ≤ _
    rw [List.length_cons]
    omega
section
variable {X : Cx} {K : PySem.W.Frag}
theorem pairs_ofN {pins : List (Addr × Obj)} {σ : L2.St} {H : Hp} {s : Shared} (I : Inv X pins σ H s) : ∀ {ps : List Addr} {es : List NE}, Paired (fun p e => SqT X.K H p [e.key, e.val]) ps es → NKeys H es →
    ∃ rs : List En, Paired ReN es rs ∧ rs.length = ps.length ∧ ∀ (j : Nat) (q : En), rs[j]? = some q → ∃ b : Addr, ps[j]? = some b ∧ IsTup s.heap b #[q.2.1, q.2.2] ∧ KeyAt s.heap q.1 q.2.1
  | _, _, .nil, _ => ⟨[], .nil, rfl, fun j q e => by simp at e⟩
  | _, _, .cons (a := p) (b := e) h t, nk => by
    obtain ⟨rs, r, hl, hp⟩ := pairs_ofN I t fun x hx => nk x (List.mem_cons_of_mem _ hx)
    obtain ⟨its, rv, ht, _⟩ := I.tuple h
    obtain ⟨u, y, ei, ru, ry⟩ := vals2 rv
    subst ei
    refine ⟨(e.k, u, y) :: rs, .cons ⟨rfl, ru, ry⟩ r, by rw [List.length_cons, List.length_cons, hl], fun j q ej => ?_⟩
    cases j with
    | zero =>
      have e' : (e.k, u, y) = q := Option.some.inj ej
      subst e'
      exact ⟨p, rfl, ht, (nk e List.mem_cons_self).1.at (nk e List.mem_cons_self).2 I.hok ru⟩
    | succ j =>
      obtain ⟨b, e1, e2, e3⟩ := hp j q (by simpa using ej)
      exact ⟨b, by simpa using e1, e2, e3⟩
def rDictPN (K : PySem.W.Frag) : List V → Hp → VK → Prop := fun xs H Q => ∃ (a : Addr) (ps : List Addr) (es : List NE), xs = [.ref a] ∧ SqL K H a (ps.map V.ref) ∧ Paired (fun p e => SqT K H p [e.key, e.val]) ps es ∧ NKeys H es ∧
  ∀ p, H p = none → Q (.ref p) (upd H p (hN p (mergeN [] es)))
theorem call_dictPN (hcalm : X.calm = true) (hu : X.A.units + 64 < cLine) : CallR X (.type "dict") (rDictPN X.K) := by
  intro pins s σ H xs us Q I r q
  obtain ⟨a, ps, es, ex, hq, hp, nk, q⟩ := q
  subst ex
  obtain ⟨u, eu, rx⟩ := vals1 r
  subst eu
  cases rx
  obtain ⟨its, rv, pl, hz⟩ := I.list hq
  have ei := refs_at rv
  subst ei
  rw [List.length_map] at hz
  obtain ⟨rs, rel, hl, hpr⟩ := pairs_ofN I hp nk
  obtain ⟨o, n, ho, hc, hd, hdat⟩ := pl
  refine PuN.call_dictN (prs := rs) (I.ok.hd hcalm) hu ho hc hd hdat (by simp [hl]) (by rw [hl]; exact hz) (fun j q' e => ?_) fun h' tk hd' hx' k => ?_
  · obtain ⟨b, e1, e2, e3⟩ := hpr j q' e
    exact ⟨b, by simp [e1], e2, e3⟩
  · have hm : (s.heap.objs.size == sysModules) = false := beq_eq_false_iff_ne.mpr (Nat.ne_of_gt I.big)
    have rel2 : Paired ReN (mergeN [] es) (mergeE [] rs) := ren_merge rel .nil
    have hes : es.length = rs.length := Paired.length rel
    have hlen : (mergeN [] es).length ≤ sizeLine := by
      refine Nat.le_trans merge_len ?_
      rw [List.length_nil, Nat.zero_add, hes, hl]
      exact hz
    have nk2 : NKeys H (mergeN [] es) := nkeys_merge nk fun x h => nomatch h
    exact ⟨.ref s.heap.objs.size, _, I.laid (o := hN s.heap.objs.size (mergeN [] es)) (t' := tk) k (Nat.le_refl _) (nat_new hm (by rw [← ReN.keys rel2]; exact hx'.1) hlen rel2 (fun x hx => (nk2 x hx).1.hash) hd'), rfl, q _ (I.hok.fresh (Nat.le_refl _))⟩
theorem k_dictPN (h : X.K = K) (hcalm : X.calm = true) (hu : X.A.units + 64 < cLine) : CallR X (.type "dict") (rDictPN K) := h ▸ call_dictPN hcalm hu
end
def mergeDN (acc kvs : List (D × D)) : List (D × D) := kvs.foldl (fun a p => match p.1.nk with | some k => putN a k p.1 p.2 | none => a) acc
def oDictPN : O1 := fun d Q => match d with
  | .lst xs => ∃ kvs : List (D × D), xs = kvs.map (fun p => D.tup [p.1, p.2]) ∧ (∀ p ∈ kvs, ∃ k, p.1.nk = some k ∧ k.depth ≤ 8) ∧ immL (kvs.map (·.2)) = true ∧ Q (.dN (mergeDN [] kvs))
  | _ => False
theorem mono_oDictPN : Mono1 oDictPN := fun d Q Q' k q => by
  cases d <;> first | exact q | skip
  obtain ⟨kvs, h1, h2, h3, q⟩ := q
  exact ⟨kvs, h1, h2, h3, k _ q⟩
instance : MO1 oDictPN := ⟨mono_oDictPN⟩
section
variable {CT : Nat → Addr} {H : Hp}
theorem pairs_rp {K : PySem.W.Frag} : ∀ {kvs : List (D × D)} {vs : List V} {F : List Addr}, Rps CT H vs (kvs.map fun p => D.tup [p.1, p.2]) F → (∀ p ∈ kvs, ∃ k, p.1.nk = some k ∧ k.depth ≤ 8) → immL (kvs.map (·.2)) = true →
    ∃ (ps : List Addr) (es : List NE), vs = ps.map V.ref ∧ Paired (fun p e => SqT K H p [e.key, e.val]) ps es ∧ NKeys H es ∧ Paired (fun (e : NE) (p : D × D) => p.1.nk = some e.k ∧ e.k.depth ≤ 8 ∧ Rp CT H e.key p.1 [] ∧ Rp CT H e.val p.2 []) es kvs
  | [], _, _, .nil, _, _ => ⟨[], [], rfl, .nil, (fun x h => nomatch h), .nil⟩
  | p :: kvs, _, _, .cons (.tup (a := a) ha ra) r, hk, hi => by
    obtain ⟨k, ek, hd⟩ := hk p List.mem_cons_self
    rw [List.map_cons] at hi
    simp only [immL, Bool.and_eq_true] at hi
    obtain ⟨ps, es, e1, e2, e3, e4⟩ := pairs_rp (K := K) r (fun q hq => hk q (List.mem_cons_of_mem _ hq)) hi.2
    cases ra with
    | cons r1 rr =>
      cases rr with
      | cons r2 rn =>
        cases rn
        obtain rfl := r1.imm (nk_imm ek)
        obtain rfl := r2.imm hi.1
        refine ⟨a :: ps, ⟨k, _, _⟩ :: es, by rw [e1]; rfl, .cons (SqT.of ha) e2, fun x hx => ?_, .cons ⟨ek, hd, r1, r2⟩ e4⟩
        rcases List.mem_cons.mp hx with rfl | hx
        · exact ⟨r1.kv ek, hd⟩
        · exact e3 x hx
theorem merge_nrp : ∀ {es : List NE} {kvs : List (D × D)} {xs : List NE} {kds : List (D × D)}, Paired (fun (e : NE) (p : D × D) => p.1.nk = some e.k ∧ e.k.depth ≤ 8 ∧ Rp CT H e.key p.1 [] ∧ Rp CT H e.val p.2 []) es kvs →
    NRp CT H xs kds [] → (xs.map NE.k).Nodup → NRp CT H (mergeN xs es) (mergeDN kds kvs) [] ∧ ((mergeN xs es).map NE.k).Nodup
  | _, _, _, _, .nil, r, nd => ⟨r, nd⟩
  | _, _, xs, kds, .cons (a := e) (b := p) ⟨h1, h2, h3, h4⟩ t, r, nd => by
    obtain ⟨F', r', hF, _⟩ := nput_rps (k := e.k) r nd h3 h1 h2 h4
    have eF : F' = [] := List.eq_nil_iff_forall_not_mem.mpr fun b hb => by
      rcases hF b hb with z | z <;> cases z
    subst eF
    have nd' : ((NPut xs e.k e.key e.val).map NE.k).Nodup := by
      unfold NPut
      split
      · rename_i hs
        rw [List.map_map]
        have : (NE.k ∘ fun x : NE => if x.k = e.k then { x with val := e.val } else x) = NE.k := by
          funext x
          show (if x.k = e.k then { x with val := e.val } else x).k = x.k
          split <;> rfl
        rw [this]; exact nd
      · rename_i hs
        rw [List.map_append]
        refine List.nodup_append.mpr ⟨nd, by simp, fun a ha b hb z => hs ?_⟩
        rw [List.map_cons, List.map_nil, List.mem_singleton] at hb
        obtain ⟨y, hy, ey⟩ := List.mem_map.mp ha
        unfold NLook
        rw [Option.isSome_map, List.find?_isSome]
        exact ⟨y, hy, by simp [ey, z, hb]⟩
    have : ∀ l : List (D × D), mergeDN kds (p :: l) = mergeDN (putN kds e.k p.1 p.2) l := fun l => by
      show List.foldl _ (match p.1.nk with | some k => putN kds k p.1 p.2 | none => kds) _ = _
      rw [h1]
      rfl
    rw [this]
    have q := merge_nrp t r' nd'
    exact q
end
section
variable {C : Cfg} {Γ : List Mo} {te : TE} {A : Kd} {m : X1} {K : PySem.W.Frag}
theorem sim_dictPN (s : Sim C Γ te A m) : Sim C Γ (tCB (rDictPN K) (tCons te tNil)) .own (x1 oDictPN m) :=
  ⟨fun σ H env Fs Q I h => s.run σ H env Fs _ I (s.mono env _ _ (fun d q v H1 F f dk r k => by
    cases r with
    | @lst a vs ds F' ha ra =>
      obtain ⟨kvs, rfl, h2, h3, q⟩ := q
      obtain ⟨ps, es, rfl, p2, nk, pr⟩ := pairs_rp (K := K) ra h2 h3
      obtain ⟨nr, _⟩ := merge_nrp (xs := []) (kds := []) pr NRp.nil List.nodup_nil
      refine ⟨a, ps, es, rfl, SqL.of ha, p2, nk, fun p hp => ?_⟩
      have f2 : Fr (fun _ => False) H1 (upd H1 p (hN p (mergeN [] es))) := Fr.new hp
      have hp0 : H p = none := f.there p hp
      have nr2 : NRp C.CT (upd H1 p (hN p (mergeN [] es))) (mergeN [] es) (mergeDN [] kvs) [] := nr.keep f2 fun _ z => nomatch z
      exact q (.ref p) _ [p] (f.trans f2.wq) (dk.keep f2) (.dN upd_same nr2.ks nr2.dp nr2.kr nr2.vr) ⟨NoQ.new I.dk fun b hb => (by rw [List.mem_singleton.mp hb]; exact hp0), List.nodup_cons.mpr ⟨(fun z => nomatch z), List.nodup_nil⟩, fun b hb => by rw [List.mem_singleton.mp hb]; exact hp0⟩
    | _ => exact (show False from q).elim) h),
   fun env Q Q' k q => s.mono env _ _ (fun d q => mono_oDictPN d _ _ k q) q⟩
end
end Pu
set_option Elab.async false
set_option linter.all false
set_option maxRecDepth 100000
namespace Pu
open PySem PySem.Spec PyProof.Rows L2
section
variable {prog : Program} {w : World} {A : Around} {E : Value → Shared → Prop} {s : Shared}
theorem len_raw {d : Addr} {es : Array DictEntry} {ep : Nat} {Q : Value → Shared → Prop} (hd : (d == sysModules) = false) (hm : s.heap.DictRaw d es ep) (hfit : (es.size : Int) < 2 ^ 63)
    (h : ∀ t tk, Q (.int es.size t) { s with toks := tk }) : wpAny (model prog w) A (call (.builtin "len") [.ref d]) Q E s := by
  refine Calls.call_function_entry kind_len plain_len entry_len (args_len1 _) ?_
  unfold Builtin.«len»
  refine wpAny_bind (m := oneArg "len" _) (wpAny_pure ?_)
  refine wpAny_bind (m := callSpecial? (.ref d) (Str.ofString "__len__")) (wpAny_callSpecial?_slot (name := Str.ofString "__len__") hm.typeIs F.slot_dict_len
    (call_meetsIn F.slot_dict_len hm.typeIs F.entry_dict_len (F.args_dict_len_1 _) (meets_dict_len_raw d hd) ⟨es, ep, hm, ?_⟩))
  show wpAny _ _ _ _ _ { s with toks := s.toks + 1 }
  refine wpAny_bind (wpAny_holding (wpAny_pure ?_))
  refine wpAny_bind (wpAny_letGo ?_)
  show wpAny _ _ (if ((es.size : Nat) : Int) < 0 then _ else _) _ _ _
  rw [if_neg (by omega)]
  show wpAny _ _ (if ((es.size : Nat) : Int) ≥ 2 ^ 63 then _ else _) _ _ _
  rw [if_neg (by omega)]
  exact wpAny_bind (wpAny_mkInt (wpAny_pure ⟨_, rfl, h _ _⟩))
end
def rLenN : List V → Hp → VK → Prop := fun vs H Q => ∃ (a : Addr) (xs : List NE), vs = [.ref a] ∧ NAt H a xs ∧ Q (.int (xs.length : Nat)) H
theorem k_lenN {X : Cx} : CallR X (.builtin "len") rLenN := by
  intro pins s σ H vs us Q I r h
  obtain ⟨a, xs, rfl, ha, q⟩ := h
  rw [Vals.ref1 r]
  obtain ⟨hz, hs, nd, ys, rel, o, es, ep, ho, hx, hdt, l⟩ := nat_rd I.hok ha
  have hl : es.size = xs.length := by rw [l.size, ReN.length rel]
  refine len_raw hs ⟨o, ho, hx, hdt⟩ (by rw [hl]; rw [sizeLine_eq] at hz; omega) fun t tk => ⟨.int (xs.length : Nat), H, I.kept (t' := tk) fun b o e => e, ⟨t, by rw [hl]⟩, q⟩
def oLenN : O1 := fun d Q => match d.nv with
  | some kds => Q (.int (kds.length : Nat))
  | none => False
theorem mono_oLenN : Mono1 oLenN := fun d Q Q' k q => by
  unfold oLenN at q ⊢
  revert q
  cases d.nv <;> intro q <;> first | exact q | exact k _ q
instance : MO1 oLenN := ⟨mono_oLenN⟩
theorem sc_lenN {CT : Nat → Addr} : SimC1 CT rLenN oLenN := ⟨fun H v d F Q a q => by
  unfold oLenN at q
  cases hn : d.nv with
  | none => rw [hn] at q; exact q.elim
  | some kds =>
    rw [hn] at q
    obtain ⟨p, xs, F0, rfl, eF, ha, rN⟩ := nv_at a hn
    refine ⟨p, xs, rfl, ha, ?_⟩
    rw [rN.length]
    exact New.imm q (.int _), mono_oLenN⟩
end Pu
set_option Elab.async false
set_option linter.all false
set_option maxRecDepth 100000
set_option synthInstance.maxHeartbeats 0
set_option synthInstance.maxSize 100000
namespace Pu
open PySem PySem.Spec PyProof.Rows L2
def b_check_length : XS := sIf (bNot (bTest (xCall m_is_below (xCons (xVar 0) (xCons (x2 oAdd (xC (.int 60)) (xC (.int 1))) xNil))))) sNever sNext
def m_check_length : XF := fnM 1 b_check_length
theorem mo_check_length : MonoF m_check_length := monoF_fn (by unfold b_check_length; exact MS.all)
instance : MF m_check_length := ⟨mo_check_length⟩
def b_lots_apart : XS := sSeq (sSet 1 (xLst (xCons (xTup xNil) xNil))) (sSeq (sFor (mRng1 (x1 oLenA (x1 (atF 3 "works") (xVar 0)))) (bName 2) (sSet 1 (x2 oAdd (xVar 1) (xLc (mSeq (xVar 1)) (bName 3) (bNot (bTest (x1 (oAny false) (xLc (mSeq (xVar 3)) (bName 4) bYes (xCall m_works_meet (xCons (xVar 0) (xCons (xVar 2) (xCons (xVar 4) xNil)))))))) (x2 oAdd (xVar 3) (xTup (xCons (xImm (xVar 2)) xNil))))))) (sRet (xVar 1)))
def m_lots_apart : XF := fnM 5 b_lots_apart
theorem mo_lots_apart : MonoF m_lots_apart := monoF_fn (by unfold b_lots_apart; exact MS.all)
instance : MF m_lots_apart := ⟨mo_lots_apart⟩
def b_apart_lots : XS := sSeq (sSet 1 (xLc (mSeq (xCall m_lots_apart (xCons (xVar 0) xNil))) (bName 2) bYes (x1 oLenA (xVar 2)))) (sRet (x1 oTup (xLc (mRng1 (x2 oAdd (x1 (oMost true) (xVar 1)) (xC (.int 1)))) (bName 3) bYes (xCntL (xVar 1) (xVar 3)))))
def m_apart_lots : XF := fnM 4 b_apart_lots
theorem mo_apart_lots : MonoF m_apart_lots := monoF_fn (by unfold b_apart_lots; exact MS.all)
instance : MF m_apart_lots := ⟨mo_apart_lots⟩
def b_many_of_length : XS := sSeq (sSet 2 (xCall m_apart_lots (xCons (xVar 0) xNil))) (sSeq (sSet 3 (xLst (xCons (xC (.int 1)) xNil))) (sSeq (sFor (mRng2 (xC (.int 1)) (x2 oAdd (xVar 1) (xC (.int 1)))) (bName 4) (sSeq (sSet 5 (xC (.int 0))) (sSeq (sSet 6 (xC (.int 1))) (sSeq (sFor (mRng2 (xC (.int 1)) (x2 (oI fun i j => .int (if j < i then j else i)) (x1 oLenA (xVar 2)) (x2 oAdd (xVar 4) (xC (.int 1))))) (bName 7) (sSeq (sAug 5 oAdd1 (x2 (oIc CMul fun i j => .int (i * j)) (x2 (oIc CMul fun i j => .int (i * j)) (xVar 6) (x2 oIx (xVar 2) (xVar 7))) (x2 oIx (xVar 3) (x2 (oI fun i j => .int (i - j)) (xVar 4) (xVar 7))))) (sSet 6 (x1 oNeg (xVar 6))))) (sApp 3 (xImm (xVar 5))))))) (sRet (xImm (x2 oIx (xVar 3) (xVar 1))))))
def m_many_of_length : XF := fnM 8 b_many_of_length
theorem mo_many_of_length : MonoF m_many_of_length := monoF_fn (by unfold b_many_of_length; exact MS.all)
instance : MF m_many_of_length := ⟨mo_many_of_length⟩
def b_many_rows : XS := sSeq (sDrop (xCall m_check_length (xCons (xVar 1) xNil))) (sRet (xCall m_many_of_length (xCons (xVar 0) (xCons (xVar 1) xNil))))
def m_many_rows : XF := fnM 2 b_many_rows
theorem mo_many_rows : MonoF m_many_rows := monoF_fn (by unfold b_many_rows; exact MS.all)
instance : MF m_many_rows := ⟨mo_many_rows⟩
def b__law_same_4 (self : XF) : XS := sSeq (sIf (bOr (bTest (x1 (oIsA "tuple") (xVar 1))) (bTest (x1 (oIsA "list") (xVar 1)))) (sSeq (sIf (bOr (bTest (x2 oNe (x1 (oIsA "tuple") (xVar 0)) (x1 (oIsA "tuple") (xVar 1)))) (bTest (x2 oNe (x1 (oIsA "list") (xVar 0)) (x1 (oIsA "list") (xVar 1))))) (sRet (xC (.bl false))) sNext) (sRet (xAnd (x2 oEq (x1 oLenA (xVar 0)) (x1 oLenA (xVar 1))) (x1 (oAny true) (xLc (mRng1 (x1 oLenA (xVar 1))) (bName 2) bYes (xCall self (xCons (x2 oIx (xVar 0) (xVar 2)) (xCons (x2 oIx (xVar 1) (xVar 2)) xNil)))))))) sNext) (sSeq (sIf (bTest (x1 (oIsA "str") (xVar 1))) (sRet (xAnd (x1 (oIsA "str") (xVar 0)) (x2 oEq (xVar 0) (xVar 1)))) sNext) (sRet (xCall m__law_whole (xCons (xVar 0) (xCons (xVar 1) xNil)))))
def m__law_same_4_n : Nat → XF
  | 0 => fun _ _ => False
  | n + 1 => fnM 3 (b__law_same_4 (m__law_same_4_n n))
theorem mo__law_same_4_n : ∀ n, MonoF (m__law_same_4_n n)
  | 0 => fun _ _ _ _ q => q
  | n + 1 => by
    haveI : MF (m__law_same_4_n n) := ⟨mo__law_same_4_n n⟩
    exact monoF_fn (by unfold b__law_same_4; exact MS.all)
def m__law_same_4 : XF := m__law_same_4_n 8
theorem mo__law_same_4 : MonoF m__law_same_4 := mo__law_same_4_n 8
instance : MF m__law_same_4 := ⟨mo__law_same_4⟩
def b__law_apart_2 : XS := sSeq (sFor (mRng1 (x1 oLenA (xVar 1))) (bName 2) (sIf (bTest (x1 (oAny false) (xLc (mRng1 (xVar 2)) (bName 3) bYes (xCall m__law_meets (xCons (xVar 0) (xCons (x2 oIx (xVar 1) (xVar 3)) (xCons (x2 oIx (xVar 1) (xVar 2)) xNil))))))) (sRet (xC (.bl false))) sNext)) (sRet (xC (.bl true)))
def m__law_apart_2 : XF := fnM 4 b__law_apart_2
theorem mo__law_apart_2 : MonoF m__law_apart_2 := monoF_fn (by unfold b__law_apart_2; exact MS.all)
instance : MF m__law_apart_2 := ⟨mo__law_apart_2⟩
def b__law_numbers : XS := sSeq (sSet 1 (xLst xNil)) (sSeq (sSet 2 (xLst (xCons (xTup xNil) xNil))) (sSeq (sWhile (bTest (x2 (oI fun i j => .bl (decide (j < i))) (x1 oLenA (xVar 2)) (xC (.int 0)))) (sSeq (sApp 1 (x1 oLenA (xVar 2))) (sSeq (sSet 3 (xLst xNil)) (sSeq (sFor (mSeq (xVar 2)) (bName 4) (sFor (mRng2 (xIf (bTest (x2 (oI fun i j => .bl (decide (j < i))) (x1 oLenA (xVar 4)) (xC (.int 0)))) (x2 oAdd (x2 oIx (xVar 4) (x1 oNeg (xC (.int 1)))) (xC (.int 1))) (xC (.int 0))) (x1 oLenA (x2 oIx (xVar 0) (xC (.int 1))))) (bName 5) (sIf (bTest (xCall m__law_apart_2 (xCons (xVar 0) (xCons (x2 oAdd (xVar 4) (xTup (xCons (xImm (xVar 5)) xNil))) xNil)))) (sApp 3 (x2 oAdd (xVar 4) (xTup (xCons (xImm (xVar 5)) xNil)))) sNext))) (sSet 2 (xVar 3)))))) (sRet (x1 oTup (xVar 1)))))
def m__law_numbers : XF := fnM 6 b__law_numbers
theorem mo__law_numbers : MonoF m__law_numbers := monoF_fn (by unfold b__law_numbers; exact MS.all)
instance : MF m__law_numbers := ⟨mo__law_numbers⟩
def b__law_by_sums : XS := sSeq (sSet 2 (xLst (xCons (xC (.int 1)) xNil))) (sSeq (sFor (mRng2 (xC (.int 1)) (x2 oAdd (xVar 1) (xC (.int 1)))) (bName 3) (sSeq (sSet 4 (xC (.int 0))) (sSeq (sFor (mRng2 (xC (.int 1)) (x1 oLenA (xVar 0))) (bName 5) (sIf (bTest (x2 (oI fun i j => .bl (decide (i ≤ j))) (xVar 5) (xVar 3))) (sSet 4 (x2 oAdd (xVar 4) (x2 (oIc CMul fun i j => .int (i * j)) (x2 (oIc CMul fun i j => .int (i * j)) (x2 oIx (xVar 0) (xVar 5)) (x2 oIx (xVar 2) (x2 (oI fun i j => .int (i - j)) (xVar 3) (xVar 5)))) (xIf (bTest (x2 oEq (x2 (oIc (fun _ j => j ≠ 0) fun i j => .int (i.fmod j)) (xVar 5) (xC (.int 2))) (xC (.int 1)))) (xC (.int 1)) (x1 oNeg (xC (.int 1))))))) sNext)) (sApp 2 (xImm (xVar 4)))))) (sRet (xImm (x2 oIx (xVar 2) (xVar 1)))))
def m__law_by_sums : XF := fnM 6 b__law_by_sums
theorem mo__law_by_sums : MonoF m__law_by_sums := monoF_fn (by unfold b__law_by_sums; exact MS.all)
instance : MF m__law_by_sums := ⟨mo__law_by_sums⟩
def b__law_known_right_2 : XS := sSeq (sPar 1 2 (xCons (x2 oAdd (xC (.int 1)) (xCall m__law_draw (xDice (xCons (xC (.int 6)) xNil)))) (xCons (xCall m__law_draw (xDice (xCons (xC (.int 61)) xNil))) xNil))) (sSeq (sSet 3 (xMake 3 i_Office (xCons (xImm (xVar 1)) (xCons (x1 oTup (xLc (mRng1 (xVar 1)) (bName 5) bYes (xTup (xCons (xImm (xVar 5)) xNil)))) xNil)))) (sSeq (sSet 4 (x2 oRepL (xLst (xCons (xC (.int 1)) xNil)) (x2 oAdd (xVar 2) (xC (.int 1))))) (sSeq (sFor (mRng2 (xC (.int 1)) (xVar 1)) (bName 5) (sFor (mRng2 (xC (.int 1)) (x2 oAdd (xVar 2) (xC (.int 1)))) (bName 6) (sPut 4 (xVar 6) (x2 oAdd (x2 oIx (xVar 4) (xVar 6)) (x2 oIx (xVar 4) (x2 (oI fun i j => .int (i - j)) (xVar 6) (xC (.int 1)))))))) (sSeq (sIf (bNot (bTest (xCall m__law_whole (xCons (xCall m_many_rows (xCons (xVar 3) (xCons (xVar 2) xNil))) (xCons (x2 oIx (xVar 4) (xVar 2)) xNil))))) (sRet (xC (.bl false))) sNext) (sSeq (sSet 7 (x2 oAdd (xC (.int 1)) (xCall m__law_draw (xDice (xCons (xC (.int 10)) xNil))))) (sSeq (sSet 8 (xC (.int 1))) (sSeq (sFor (mRng1 (xVar 2)) (bName 6) (sSet 8 (x2 (oIc CMul fun i j => .int (i * j)) (xVar 8) (xVar 7)))) (sSeq (sSet 9 (xMake 3 i_Office (xCons (xImm (xVar 1)) (xCons (x2 oRepTB (xTup (xCons (xTRg1 (xVar 1)) xNil)) (xVar 7)) xNil)))) (sRet (xAnd (xCall m__law_whole (xCons (xCall m_many_rows (xCons (xVar 9) (xCons (xVar 2) xNil))) (xCons (xVar 8) xNil))) (x2 oEq (xCall m_apart_lots (xCons (xVar 9) xNil)) (xTup (xCons (xC (.int 1)) (xCons (xImm (xVar 7)) xNil))))))))))))))
def m__law_known_right_2 : XF := fnM 10 b__law_known_right_2
theorem mo__law_known_right_2 : MonoF m__law_known_right_2 := monoF_fn (by unfold b__law_known_right_2; exact MS.all)
instance : MF m__law_known_right_2 := ⟨mo__law_known_right_2⟩
def b_law_k84 : XS := sSeq (sFor (mRng1 (xC (.int 3))) (bName 2) (sSeq (sSet 3 (xCall m__law_some_parts (xDice xNil))) (sSeq (sSet 4 (xCall m__law_made (xCons (xVar 3) xNil))) (sSeq (sSet 5 (xCall m__law_numbers (xCons (xVar 3) xNil))) (sSeq (sIf (bNot (bTest (xCall m__law_same_4 (xCons (xCall m_apart_lots (xCons (xVar 4) xNil)) (xCons (xVar 5) xNil))))) (sRet (xC (.bl false))) sNext) (sSeq (sSet 6 (xCall m__law_draw (xDice (xCons (xC (.int 61)) xNil)))) (sIf (bNot (bTest (xCall m__law_whole (xCons (xCall m_many_rows (xCons (xVar 4) (xCons (xVar 6) xNil))) (xCons (xCall m__law_by_sums (xCons (xVar 5) (xCons (xVar 6) xNil))) xNil))))) (sRet (xC (.bl false))) sNext))))))) (sSeq (sSet 3 (xCall m__law_parts (xDice (xCons (xC (.int 4)) xNil)))) (sSeq (sSet 3 (xTup (xCons (xImm (x2 oIx (xVar 3) (xC (.int 0)))) (xCons (xSl (x2 oIx (xVar 3) (xC (.int 1))) pNo (pYes (xC (.int 5)))) xNil)))) (sSeq (sFor (mRng1 (xC (.int 4))) (bName 6) (sSeq (sSet 7 (xLc (mSeq (xCall m__law_rows_to (xCons (xVar 3) (xCons (xVar 6) xNil)))) (bName 9) (bTest (x2 oEq (x1 oLenA (xVar 9)) (xVar 6))) (xImm (xVar 9)))) (sSeq (sSet 8 (x1 oLenN (x1 oDictPN (xLc (mSeq (xVar 7)) (bName 9) bYes (xTup (xCons (xCall m__law_logs (xCons (xVar 3) (xCons (xVar 9) xNil))) (xCons (xC (.bl true)) xNil))))))) (sIf (bNot (bTest (xCall m__law_whole (xCons (xCall m_many_rows (xCons (xCall m__law_made (xCons (xVar 3) xNil)) (xCons (xVar 6) xNil))) (xCons (xVar 8) xNil))))) (sRet (xC (.bl false))) sNext)))) (sRet (xCall m__law_known_right_2 (xDice xNil))))))
end Pu
set_option Elab.async false
set_option linter.all false
set_option maxRecDepth 100000
set_option synthInstance.maxHeartbeats 0
set_option synthInstance.maxSize 100000
namespace Pu
open PySem PySem.Spec PyProof.Rows L2
def topS (i : Nat) : Stmt := PySem.Challenge.pw_latestword_k84_whole_rows_counted.main.body.getD i (.Pass ⟨0, 0, 0, 0⟩)
abbrev DQ0 : Addr × Addr → HO → HO → Prop := DQi IvDraw
section
abbrev s_is_integer : Stmt := topS 5
abbrev s_is_number : Stmt := topS 6
abbrev s_is_below : Stmt := topS 7
abbrev s_is_lot : Stmt := topS 8
abbrev s_are_office_works : Stmt := topS 12
abbrev s_works_meet : Stmt := topS 14
abbrev s_check_length : Stmt := topS 17
abbrev s_lots_apart : Stmt := topS 18
abbrev s_apart_lots : Stmt := topS 19
abbrev s_many_of_length : Stmt := topS 20
abbrev s_many_rows : Stmt := topS 21
abbrev s__law_dice : Stmt := topS 23
abbrev s__law_draw : Stmt := topS 24
abbrev s__law_parts : Stmt := topS 25
abbrev s__law_made : Stmt := topS 26
abbrev s__law_some_parts : Stmt := topS 27
abbrev s__law_meets : Stmt := topS 28
abbrev s__law_whole : Stmt := topS 29
abbrev s__law_same : Stmt := topS 30
abbrev s__law_rows_to : Stmt := topS 31
abbrev s__law_logs : Stmt := topS 32
abbrev s__law_apart : Stmt := topS 33
abbrev s__law_numbers : Stmt := topS 34
abbrev s__law_by_sums : Stmt := topS 35
abbrev s__law_known_right : Stmt := topS 36
abbrev s_law : Stmt := topS 37
abbrev s_Office_init : Stmt := inClass (topS 13) 0
structure Facts (K : PySem.W.Frag) (mg : Str → Option Value) where
  f_is_integer : Addr
  fd_is_integer : FuncData
  F_is_integer : L2.Fun K "is_integer" "is_integer" s_is_integer f_is_integer fd_is_integer
  m_is_integer : mg "is_integer" = some (.ref f_is_integer)
  f_is_number : Addr
  fd_is_number : FuncData
  F_is_number : L2.Fun K "is_number" "is_number" s_is_number f_is_number fd_is_number
  m_is_number : mg "is_number" = some (.ref f_is_number)
  f_is_below : Addr
  fd_is_below : FuncData
  F_is_below : L2.Fun K "is_below" "is_below" s_is_below f_is_below fd_is_below
  m_is_below : mg "is_below" = some (.ref f_is_below)
  f_is_lot : Addr
  fd_is_lot : FuncData
  F_is_lot : L2.Fun K "is_lot" "is_lot" s_is_lot f_is_lot fd_is_lot
  m_is_lot : mg "is_lot" = some (.ref f_is_lot)
  f_are_office_works : Addr
  fd_are_office_works : FuncData
  F_are_office_works : L2.Fun K "are_office_works" "are_office_works" s_are_office_works f_are_office_works fd_are_office_works
  m_are_office_works : mg "are_office_works" = some (.ref f_are_office_works)
  f_works_meet : Addr
  fd_works_meet : FuncData
  F_works_meet : L2.Fun K "works_meet" "works_meet" s_works_meet f_works_meet fd_works_meet
  m_works_meet : mg "works_meet" = some (.ref f_works_meet)
  f_check_length : Addr
  fd_check_length : FuncData
  F_check_length : L2.Fun K "check_length" "check_length" s_check_length f_check_length fd_check_length
  m_check_length : mg "check_length" = some (.ref f_check_length)
  f_lots_apart : Addr
  fd_lots_apart : FuncData
  F_lots_apart : L2.Fun K "lots_apart" "lots_apart" s_lots_apart f_lots_apart fd_lots_apart
  m_lots_apart : mg "lots_apart" = some (.ref f_lots_apart)
  f_apart_lots : Addr
  fd_apart_lots : FuncData
  F_apart_lots : L2.Fun K "apart_lots" "apart_lots" s_apart_lots f_apart_lots fd_apart_lots
  m_apart_lots : mg "apart_lots" = some (.ref f_apart_lots)
  f_many_of_length : Addr
  fd_many_of_length : FuncData
  F_many_of_length : L2.Fun K "many_of_length" "many_of_length" s_many_of_length f_many_of_length fd_many_of_length
  m_many_of_length : mg "many_of_length" = some (.ref f_many_of_length)
  f_many_rows : Addr
  fd_many_rows : FuncData
  F_many_rows : L2.Fun K "many_rows" "many_rows" s_many_rows f_many_rows fd_many_rows
  m_many_rows : mg "many_rows" = some (.ref f_many_rows)
  f__law_dice : Addr
  fd__law_dice : FuncData
  F__law_dice : L2.Fun K "_law_dice" "_law_dice" s__law_dice f__law_dice fd__law_dice
  m__law_dice : mg "_law_dice" = some (.ref f__law_dice)
  f__law_draw : Addr
  fd__law_draw : FuncData
  F__law_draw : L2.Fun K "_law_draw" "_law_draw" s__law_draw f__law_draw fd__law_draw
  m__law_draw : mg "_law_draw" = some (.ref f__law_draw)
  f__law_parts : Addr
  fd__law_parts : FuncData
  F__law_parts : L2.Fun K "_law_parts" "_law_parts" s__law_parts f__law_parts fd__law_parts
  m__law_parts : mg "_law_parts" = some (.ref f__law_parts)
  f__law_made : Addr
  fd__law_made : FuncData
  F__law_made : L2.Fun K "_law_made" "_law_made" s__law_made f__law_made fd__law_made
  m__law_made : mg "_law_made" = some (.ref f__law_made)
  f__law_some_parts : Addr
  fd__law_some_parts : FuncData
  F__law_some_parts : L2.Fun K "_law_some_parts" "_law_some_parts" s__law_some_parts f__law_some_parts fd__law_some_parts
  m__law_some_parts : mg "_law_some_parts" = some (.ref f__law_some_parts)
  f__law_meets : Addr
  fd__law_meets : FuncData
  F__law_meets : L2.Fun K "_law_meets" "_law_meets" s__law_meets f__law_meets fd__law_meets
  m__law_meets : mg "_law_meets" = some (.ref f__law_meets)
  f__law_whole : Addr
  fd__law_whole : FuncData
  F__law_whole : L2.Fun K "_law_whole" "_law_whole" s__law_whole f__law_whole fd__law_whole
  m__law_whole : mg "_law_whole" = some (.ref f__law_whole)
  f__law_same : Addr
  fd__law_same : FuncData
  F__law_same : L2.Fun K "_law_same" "_law_same" s__law_same f__law_same fd__law_same
  m__law_same : mg "_law_same" = some (.ref f__law_same)
  f__law_rows_to : Addr
  fd__law_rows_to : FuncData
  F__law_rows_to : L2.Fun K "_law_rows_to" "_law_rows_to" s__law_rows_to f__law_rows_to fd__law_rows_to
  m__law_rows_to : mg "_law_rows_to" = some (.ref f__law_rows_to)
  f__law_logs : Addr
  fd__law_logs : FuncData
  F__law_logs : L2.Fun K "_law_logs" "_law_logs" s__law_logs f__law_logs fd__law_logs
  m__law_logs : mg "_law_logs" = some (.ref f__law_logs)
  f__law_apart : Addr
  fd__law_apart : FuncData
  F__law_apart : L2.Fun K "_law_apart" "_law_apart" s__law_apart f__law_apart fd__law_apart
  m__law_apart : mg "_law_apart" = some (.ref f__law_apart)
  f__law_numbers : Addr
  fd__law_numbers : FuncData
  F__law_numbers : L2.Fun K "_law_numbers" "_law_numbers" s__law_numbers f__law_numbers fd__law_numbers
  m__law_numbers : mg "_law_numbers" = some (.ref f__law_numbers)
  f__law_by_sums : Addr
  fd__law_by_sums : FuncData
  F__law_by_sums : L2.Fun K "_law_by_sums" "_law_by_sums" s__law_by_sums f__law_by_sums fd__law_by_sums
  m__law_by_sums : mg "_law_by_sums" = some (.ref f__law_by_sums)
  f__law_known_right : Addr
  fd__law_known_right : FuncData
  F__law_known_right : L2.Fun K "_law_known_right" "_law_known_right" s__law_known_right f__law_known_right fd__law_known_right
  m__law_known_right : mg "_law_known_right" = some (.ref f__law_known_right)
  f_law : Addr
  fd_law : FuncData
  F_law : L2.Fun K "law" "law" s_law f_law fd_law
  m_law : mg "law" = some (.ref f_law)
  C_Office : Addr
  f_Office_init : Addr
  fd_Office_init : FuncData
  F_Office_init : L2.Fun K "__init__" "Office.__init__" s_Office_init f_Office_init fd_Office_init
  m_Office : mg "Office" = some (.ref C_Office)
  mk_Office : Mk K C_Office f_Office_init
  cl_Office : Cls K C_Office
  na_Office_desks : NoAttr K C_Office "desks"
  na_Office_works : NoAttr K C_Office "works"
  n_abs : mg "abs" = none
  n_all : mg "all" = none
  n_any : mg "any" = none
  n_bool : mg "bool" = none
  n_dict : mg "dict" = none
  n_int : mg "int" = none
  n_isinstance : mg "isinstance" = none
  n_len : mg "len" = none
  n_list : mg "list" = none
  n_max : mg "max" = none
  n_min : mg "min" = none
  n_range : mg "range" = none
  n_sorted : mg "sorted" = none
  n_str : mg "str" = none
  n_tuple : mg "tuple" = none
  n_zip : mg "zip" = none
  t_MOST_DESKS : Tok
  m_MOST_DESKS : mg "MOST_DESKS" = some (.int (6) t_MOST_DESKS)
  t_MOST_LENGTH : Tok
  m_MOST_LENGTH : mg "MOST_LENGTH" = some (.int (60) t_MOST_LENGTH)
  t_MOST_WORKS : Tok
  m_MOST_WORKS : mg "MOST_WORKS" = some (.int (10) t_MOST_WORKS)
variable {P : Program} {w : World} {K : PySem.W.Frag} {mg : Str → Option Value} {base : Heap}
def S0 (T : Facts K mg) : Stat := { CT := fun c => match c with | 3 => T.C_Office | _ => 0, DQ := DQ0 }
theorem sc_is_integer : FnScope ["thing"] ["thing"] (defScope s_is_integer) := ⟨rfl, rfl, rfl, by decide +kernel, rfl, by decide +kernel, by decide +kernel⟩
theorem bn_is_integer (T : Facts K mg) : Binds K T.fd_is_integer ["thing"] [] := T.F_is_integer.binds fun _ _ _ _ _ _ us hl => match us, hl with | [_], _ => rfl
theorem ok_is_integer (T : Facts K mg) : FnOk P w K mg base CX0 1 T.f_is_integer T.fd_is_integer ["thing"] (SpM (S0 T) [false] m_is_integer) := by
  refine fn_ok (N := ["thing"]) (body := b_is_integer) (Γe := []) T.F_is_integer sc_is_integer rfl (by decide) (fun cdv A outer s H E hr => ⟨_, pss_one (ps_ret (pe_and (pe_callB (id := "isinstance") (k_isa (K := K) rfl) (by rfl) T.n_isinstance (by decide +kernel) (pa_cons (pv 0) (pa_cons (k_ty (c := "int") (by rfl) T.n_int (by decide +kernel)) pa_nil))) (pe_one (pe_not (pe_callB (id := "isinstance") (k_isa (K := K) rfl) (by rfl) T.n_isinstance (by decide +kernel) (pa_cons (pv 0) (pa_cons (k_ty (c := "bool") (by rfl) T.n_bool (by decide +kernel)) pa_nil))))))), fun q => ?_⟩)
  exact sim_ret (sim_and (sim_isa (c := "int") (sim_varF (i := 0) rfl)) (sim_not (sim_isa (c := "bool") (sim_varF (i := 0) rfl))))
theorem sc_is_number : FnScope ["thing"] ["thing"] (defScope s_is_number) := ⟨rfl, rfl, rfl, by decide +kernel, rfl, by decide +kernel, by decide +kernel⟩
theorem bn_is_number (T : Facts K mg) : Binds K T.fd_is_number ["thing"] [] := T.F_is_number.binds fun _ _ _ _ _ _ us hl => match us, hl with | [_], _ => rfl
theorem ok_is_number (T : Facts K mg) : FnOk P w K mg base CX0 2 T.f_is_number T.fd_is_number ["thing"] (SpM (S0 T) [false] m_is_number) := by
  refine fn_ok (N := ["thing"]) (body := b_is_number) (Γe := []) T.F_is_number sc_is_number rfl (by decide) (fun cdv A outer s H E hr => ⟨_, pss_one (ps_ret (pe_and (pe_call (ok_is_integer T) (hr.mono (by first | decide | omega)) (by rfl) T.m_is_integer T.F_is_integer.kp (bn_is_integer T) .nil pass0 (pa_cons (pv 0) pa_nil)) (pe_one (pe_cmpR op_ge (pv 0) pe_int (nomark _))))), fun q => ?_⟩)
  exact sim_ret (sim_and (sim_call rfl mo_is_integer (sima_val (sim_varF (i := 0) rfl) sima_nil)) (sim_op so_ge (sim_varF (i := 0) rfl) sim_int))
theorem sc_is_below : FnScope ["thing", "many"] ["thing", "many"] (defScope s_is_below) := ⟨rfl, rfl, rfl, by decide +kernel, rfl, by decide +kernel, by decide +kernel⟩
theorem bn_is_below (T : Facts K mg) : Binds K T.fd_is_below ["thing", "many"] [] := T.F_is_below.binds fun _ _ _ _ _ _ us hl => match us, hl with | [_, _], _ => rfl
theorem ok_is_below (T : Facts K mg) : FnOk P w K mg base CX0 3 T.f_is_below T.fd_is_below ["thing", "many"] (SpM (S0 T) [false, false] m_is_below) := by
  refine fn_ok (N := ["thing", "many"]) (body := b_is_below) (Γe := []) T.F_is_below sc_is_below rfl (by decide) (fun cdv A outer s H E hr => ⟨_, pss_one (ps_ret (pe_and (pe_call (ok_is_number T) (hr.mono (by first | decide | omega)) (by rfl) T.m_is_number T.F_is_number.kp (bn_is_number T) .nil pass0 (pa_cons (pv 0) pa_nil)) (pe_one (pe_cmpR op_lt (pv 0) (pv 1) (nomark _))))), fun q => ?_⟩)
  exact sim_ret (sim_and (sim_call rfl mo_is_number (sima_val (sim_varF (i := 0) rfl) sima_nil)) (sim_op so_lt (sim_varF (i := 0) rfl) (sim_varF (i := 1) rfl)))
theorem sc_is_lot : FnScope ["thing", "many", "low", "high", "part"] ["thing", "many"] (defScope s_is_lot) := ⟨rfl, rfl, rfl, by decide +kernel, rfl, by decide +kernel, by decide +kernel⟩
theorem bn_is_lot (T : Facts K mg) : Binds K T.fd_is_lot ["thing", "many"] [] := T.F_is_lot.binds fun _ _ _ _ _ _ us hl => match us, hl with | [_, _], _ => rfl
theorem ok_is_lot (T : Facts K mg) : FnOk P w K mg base CX0 4 T.f_is_lot T.fd_is_lot ["thing", "many"] (SpM (S0 T) [false, false] m_is_lot) := by
  refine fn_ok (N := ["thing", "many", "low", "high", "part"]) (body := b_is_lot) (Γe := []) T.F_is_lot sc_is_lot rfl (by decide) (fun cdv A outer s H E hr => ⟨_, pss_cons (ps_if (PW.pt (pw_or (pt_not (pt_val (pe_callB (id := "isinstance") (k_isa (K := K) rfl) (by rfl) T.n_isinstance (by decide +kernel) (pa_cons (pv 0) (pa_cons (k_ty (c := "tuple") (by rfl) T.n_tuple (by decide +kernel)) pa_nil))))) (pw_or1 (pt_not (pt_val (pe_callB (id := "all") (k_all (K := K) rfl rfl) (by rfl) T.n_all (by decide +kernel) (pa_cons (pe_lc (own := [("part", 4)]) rfl sc_is_lot.nd (k_seq (K := K) rfl (pv 0)) (blkOk_by (by rfl)) (fun _ _ _ _ _ => (pg_name (i := 4) sc_is_lot.nd rfl (by first | exact Or.inl rfl | exact Or.inr rfl))) (fun _ _ _ _ _ => pts_nil) (fun _ _ _ _ _ => (pe_call (ok_is_below T) (hr.mono (by first | decide | omega)) (by rfl) T.m_is_below T.F_is_below.kp (bn_is_below T) .nil pass0 (pa_cons (pv 4) (pa_cons (pv 1) pa_nil))))) pa_nil))))))) (pss_one (ps_ret pe_bl)) pss_nil) (pss_one (ps_ret (pe_callB (id := "all") (k_all (K := K) rfl rfl) (by rfl) T.n_all (by decide +kernel) (pa_cons (pe_lc (own := [("low", 2), ("high", 3)]) rfl sc_is_lot.nd (k_zip (K := K) rfl (by rfl) T.n_zip (pa_cons (pv 0) (pa_cons (pe_slice (k_sl (K := K) rfl) (pv 0) (po_some pe_int) po_none) pa_nil))) (blkOk_by (by rfl)) (fun _ _ _ _ _ => (k_gtup (K := K) (n := 2) rfl rfl (pgs_cons (pg_name (i := 2) sc_is_lot.nd rfl (by first | exact Or.inl rfl | exact Or.inr rfl)) (pgs_cons (pg_name (i := 3) sc_is_lot.nd rfl (by first | exact Or.inl rfl | exact Or.inr rfl)) pgs_nil)))) (fun _ _ _ _ _ => pts_nil) (fun _ _ _ _ _ => pe_cmpR op_lt (pv 2) (pv 3) (nomark _))) pa_nil)))), fun q => ?_⟩)
  exact sim_seq (sim_if (simt_or (simt_not (simt_B (sim_isa (c := "tuple") (sim_varF (i := 0) rfl)))) (simt_not (simt_B (sim_call1 sc_all (sim_lc (Γf := [.f, .f, .x, .x, .x]) (ws := [4]) (ks := [4]) (by intro k hk; exact free_nil) (simi_seq (sim_varF (i := 0) rfl)) rfl rfl (simg_name (i := 4) free_nil (by decide) (by decide)) (by decide) simt_yes (sim_call rfl mo_is_below (sima_val (sim_varF (i := 4) rfl) (sima_val (sim_varF (i := 1) rfl) sima_nil)))))))) (sim_ret sim_bl) sim_next) (sim_ret (sim_call1 sc_all (sim_lc (Γf := [.f, .f, .x, .x, .x]) (ws := [2, 3]) (ks := [2, 3]) (by intro k hk; exact free_nil) (simi_zip (siml_cons (sim_varF (i := 0) rfl) (siml_cons (sim_sl (sim_varF (i := 0) rfl) (simo_yes sim_int) simo_no) siml_nil))) rfl rfl (simg_tup (simgs_cons (simg_name (i := 2) free_nil (by decide) (by decide)) (simgs_cons (simg_name (i := 3) free_nil (by decide) (by decide)) simgs_nil))) (by decide) simt_yes (sim_op so_lt (sim_varF (i := 2) rfl) (sim_varF (i := 3) rfl)))))
theorem sc_are_office_works : FnScope ["desks", "works", "lot"] ["desks", "works"] (defScope s_are_office_works) := ⟨rfl, rfl, rfl, by decide +kernel, rfl, by decide +kernel, by decide +kernel⟩
theorem bn_are_office_works (T : Facts K mg) : Binds K T.fd_are_office_works ["desks", "works"] [] := T.F_are_office_works.binds fun _ _ _ _ _ _ us hl => match us, hl with | [_, _], _ => rfl
theorem ok_are_office_works (T : Facts K mg) : FnOk P w K mg base CX0 5 T.f_are_office_works T.fd_are_office_works ["desks", "works"] (SpM (S0 T) [false, false] m_are_office_works) := by
  refine fn_ok (N := ["desks", "works", "lot"]) (body := b_are_office_works) (Γe := []) T.F_are_office_works sc_are_office_works rfl (by decide) (fun cdv A outer s H E hr => ⟨_, pss_cons (ps_if (PW.pt (pw_or (pt_not (pt_val (pe_callB (id := "isinstance") (k_isa (K := K) rfl) (by rfl) T.n_isinstance (by decide +kernel) (pa_cons (pv 1) (pa_cons (k_ty (c := "tuple") (by rfl) T.n_tuple (by decide +kernel)) pa_nil))))) (pw_or1 (pt_not (pt_chain op_le op_le pe_int (pe_callB (id := "len") (k_lenA (K := K) rfl) (by rfl) T.n_len (by decide +kernel) (pa_cons (pv 1) pa_nil)) (pe_glob (v := .int (10)) (by rfl) T.m_MOST_WORKS ⟨_, rfl⟩)))))) (pss_one (ps_ret pe_bl)) pss_nil) (pss_one (ps_ret (pe_callB (id := "all") (k_all (K := K) rfl rfl) (by rfl) T.n_all (by decide +kernel) (pa_cons (pe_lc (own := [("lot", 2)]) rfl sc_are_office_works.nd (k_seq (K := K) rfl (pv 1)) (blkOk_by (by rfl)) (fun _ _ _ _ _ => (pg_name (i := 2) sc_are_office_works.nd rfl (by first | exact Or.inl rfl | exact Or.inr rfl))) (fun _ _ _ _ _ => pts_nil) (fun _ _ _ _ _ => pe_and (pe_call (ok_is_lot T) (hr.mono (by first | decide | omega)) (by rfl) T.m_is_lot T.F_is_lot.kp (bn_is_lot T) .nil pass0 (pa_cons (pv 2) (pa_cons (pv 0) pa_nil))) (pe_one (pe_cmpR op_gt (pe_callB (id := "len") (k_lenA (K := K) rfl) (by rfl) T.n_len (by decide +kernel) (pa_cons (pv 2) pa_nil)) pe_int (nomark _))))) pa_nil)))), fun q => ?_⟩)
  exact sim_seq (sim_if (simt_or (simt_not (simt_B (sim_isa (c := "tuple") (sim_varF (i := 1) rfl)))) (simt_not (simt_test (sim_chain so_le so_le sim_int (sim_call1 sc_lenA (sim_varF (i := 1) rfl)) sim_int)))) (sim_ret sim_bl) sim_next) (sim_ret (sim_call1 sc_all (sim_lc (Γf := [.f, .f, .x]) (ws := [2]) (ks := [2]) (by intro k hk; exact free_nil) (simi_seq (sim_varF (i := 1) rfl)) rfl rfl (simg_name (i := 2) free_nil (by decide) (by decide)) (by decide) simt_yes (sim_and (sim_call rfl mo_is_lot (sima_val (sim_varF (i := 2) rfl) (sima_val (sim_varF (i := 0) rfl) sima_nil))) (sim_op so_gt (sim_call1 sc_lenA (sim_varF (i := 2) rfl)) sim_int)))))
theorem sc_Office_init : FnScope ["self", "desks", "works"] ["self", "desks", "works"] (defScope s_Office_init) := ⟨rfl, rfl, rfl, by decide +kernel, rfl, by decide +kernel, by decide +kernel⟩
theorem bn_Office_init (T : Facts K mg) : Binds K T.fd_Office_init ["self", "desks", "works"] [] := T.F_Office_init.binds fun _ _ _ _ _ _ us hl => match us, hl with | [_, _, _], _ => rfl
theorem ok_Office_init (T : Facts K mg) : FnOk P w K mg base CX0 6 T.f_Office_init T.fd_Office_init ["self", "desks", "works"] (SpI (S0 T) 3 i_Office) := by
  refine init_ok0 (N := ["self", "desks", "works"]) (n := 2) (c := 3) (body := b_Office_init) (Γe := [.o, .f, .f]) T.F_Office_init sc_Office_init rfl (by decide) rfl (fun cdv A outer s H E hr => ⟨_, pss_cons (ps_if (PW.pt (pw_or (pt_not (pt_val (pe_call (ok_is_integer T) (hr.mono (by first | decide | omega)) (by rfl) T.m_is_integer T.F_is_integer.kp (bn_is_integer T) .nil pass0 (pa_cons (pv 1) pa_nil)))) (pw_or1 (pt_not (pt_chain op_le op_le pe_int (pv 1) (pe_glob (v := .int (6)) (by rfl) T.m_MOST_DESKS ⟨_, rfl⟩)))))) (pss_one ps_never) pss_nil) (pss_cons (ps_if (pt_not (pt_val (pe_call (ok_are_office_works T) (hr.mono (by first | decide | omega)) (by rfl) T.m_are_office_works T.F_are_office_works.kp (bn_are_office_works T) .nil pass0 (pa_cons (pv 1) (pa_cons (pv 2) pa_nil))))) (pss_one ps_never) pss_nil) (pss_cons (ps_fld (pv 0) (pv 1) rfl) (pss_one (ps_fld (pv 0) (pv 2) rfl)))), fun q v => ?_⟩)
  exact sim_seq (sim_if (simt_or (simt_not (simt_B (sim_call rfl mo_is_integer (sima_val (sim_varF (i := 1) rfl) sima_nil)))) (simt_not (simt_test (sim_chain so_le so_le sim_int (sim_varF (i := 1) rfl) sim_int)))) sim_never sim_next) (sim_seq (sim_if (simt_not (simt_B (sim_call rfl mo_are_office_works (sima_val (sim_varF (i := 1) rfl) (sima_val (sim_varF (i := 2) rfl) sima_nil))))) sim_never sim_next) (sim_seq (sim_sfld (i := 0) (c0 := 3) rfl T.cl_Office T.na_Office_desks (sim_imm (sim_varF (i := 1) rfl))) (sim_sfld (i := 0) (c0 := 3) rfl T.cl_Office T.na_Office_works (sim_imm (sim_varF (i := 2) rfl)))))
theorem sc_works_meet : FnScope ["office", "one", "other", "desk"] ["office", "one", "other"] (defScope s_works_meet) := ⟨rfl, rfl, rfl, by decide +kernel, rfl, by decide +kernel, by decide +kernel⟩
theorem bn_works_meet (T : Facts K mg) : Binds K T.fd_works_meet ["office", "one", "other"] [] := T.F_works_meet.binds fun _ _ _ _ _ _ us hl => match us, hl with | [_, _, _], _ => rfl
theorem ok_works_meet (T : Facts K mg) : FnOk P w K mg base CX0 1 T.f_works_meet T.fd_works_meet ["office", "one", "other"] (SpM (S0 T) [false, false, false] m_works_meet) := by
  refine fn_ok (N := ["office", "one", "other", "desk"]) (body := b_works_meet) (Γe := []) T.F_works_meet sc_works_meet rfl (by decide) (fun cdv A outer s H E hr => ⟨_, pss_one (ps_ret (pe_callB (id := "any") (k_any (K := K) rfl rfl) (by rfl) T.n_any (by decide +kernel) (pa_cons (pe_lc (own := [("desk", 3)]) rfl sc_works_meet.nd (k_seq (K := K) rfl (pe_ix (k_ix (K := K) rfl (rm1 hr)) (k_fld (K := K) rfl (pv 0) rfl) (pv 1) (fun _ _ => rfl))) (blkOk_by (by rfl)) (fun _ _ _ _ _ => (pg_name (i := 3) sc_works_meet.nd rfl (by first | exact Or.inl rfl | exact Or.inr rfl))) (fun _ _ _ _ _ => pts_nil) (fun _ _ _ _ _ => pe_cmpR (k_in (K := K) rfl (rm65 hr)) (pv 3) (pe_ix (k_ix (K := K) rfl (rm1 hr)) (k_fld (K := K) rfl (pv 0) rfl) (pv 2) (fun _ _ => rfl)) (by rfl))) pa_nil))), fun q => ?_⟩)
  exact sim_ret (sim_call1 sc_any (sim_lc (Γf := [.f, .f, .f, .x]) (ws := [3]) (ks := [3]) (by intro k hk; exact free_nil) (simi_seq (sim_part so_ix (sim_fld (c0 := 3) T.cl_Office T.na_Office_works (sim_varF (i := 0) rfl)) (sim_varF (i := 1) rfl))) rfl rfl (simg_name (i := 3) free_nil (by decide) (by decide)) (by decide) simt_yes (sim_op so_in (sim_varF (i := 3) rfl) (sim_part so_ix (sim_fld (c0 := 3) T.cl_Office T.na_Office_works (sim_varF (i := 0) rfl)) (sim_varF (i := 2) rfl)))))
theorem sc_check_length : FnScope ["length"] ["length"] (defScope s_check_length) := ⟨rfl, rfl, rfl, by decide +kernel, rfl, by decide +kernel, by decide +kernel⟩
theorem bn_check_length (T : Facts K mg) : Binds K T.fd_check_length ["length"] [] := T.F_check_length.binds fun _ _ _ _ _ _ us hl => match us, hl with | [_], _ => rfl
theorem ok_check_length (T : Facts K mg) : FnOk P w K mg base CX0 4 T.f_check_length T.fd_check_length ["length"] (SpM (S0 T) [false] m_check_length) := by
  refine fn_ok (N := ["length"]) (body := b_check_length) (Γe := [.f]) T.F_check_length sc_check_length rfl (by decide) (fun cdv A outer s H E hr => ⟨_, pss_one (ps_if (pt_not (pt_val (pe_call (ok_is_below T) (hr.mono (by first | decide | omega)) (by rfl) T.m_is_below T.F_is_below.kp (bn_is_below T) .nil pass0 (pa_cons (pv 0) (pa_cons (pe_op (k_add (K := K) rfl) (pe_glob (v := .int (60)) (by rfl) T.m_MOST_LENGTH ⟨_, rfl⟩) pe_int) pa_nil))))) (pss_one ps_never) pss_nil), fun q => ?_⟩)
  exact sim_if (simt_not (simt_B (sim_call rfl mo_is_below (sima_val (sim_varF (i := 0) rfl) (sima_val (sim_op so_add sim_int sim_int) sima_nil))))) sim_never sim_next
theorem sc_lots_apart : FnScope ["office", "found", "work", "lot", "other"] ["office"] (defScope s_lots_apart) := ⟨rfl, rfl, rfl, by decide +kernel, rfl, by decide +kernel, by decide +kernel⟩
theorem bn_lots_apart (T : Facts K mg) : Binds K T.fd_lots_apart ["office"] [] := T.F_lots_apart.binds fun _ _ _ _ _ _ us hl => match us, hl with | [_], _ => rfl
theorem ok_lots_apart (T : Facts K mg) : FnOk P w K mg base CX0 2 T.f_lots_apart T.fd_lots_apart ["office"] (SpM (S0 T) [false] m_lots_apart) := by
  refine fn_ok (N := ["office", "found", "work", "lot", "other"]) (body := b_lots_apart) (Γe := []) T.F_lots_apart sc_lots_apart rfl (by decide) (fun cdv A outer s H E hr => ⟨_, pss_cons (ps_set (i := 1) sc_lots_apart.nd rfl (by first | exact Or.inl rfl | exact Or.inr rfl) (pe_lst (pa_cons (pe_tup pa_nil) pa_nil))) (pss_cons (ps_for PassesOwn.never rfl (pi_range1 (by rfl) T.n_range (pa_cons (pe_callB (id := "len") (k_lenA (K := K) rfl) (by rfl) T.n_len (by decide +kernel) (pa_cons (k_fld (K := K) rfl (pv 0) rfl) pa_nil)) pa_nil)) (pg_name (i := 2) sc_lots_apart.nd rfl (by first | exact Or.inl rfl | exact Or.inr rfl)) (pss_one (ps_set (i := 1) sc_lots_apart.nd rfl (by first | exact Or.inl rfl | exact Or.inr rfl) (pe_op (k_add (K := K) rfl) (pv 1) (pe_lc (own := [("lot", 3)]) rfl sc_lots_apart.nd (k_seq (K := K) rfl (pv 1)) (blkOk_by (by rfl)) (fun _ _ _ _ _ => (pg_name (i := 3) sc_lots_apart.nd rfl (by first | exact Or.inl rfl | exact Or.inr rfl))) (fun _ _ _ _ _ => pts_one (pt_not (pt_val (pe_callB (id := "any") (k_any (K := K) rfl rfl) (by rfl) T.n_any (by decide +kernel) (pa_cons (pe_lc (own := [("other", 4)]) rfl sc_lots_apart.nd (k_seq (K := K) rfl (pv 3)) (blkOk_by (by rfl)) (fun _ _ _ _ _ => (pg_name (i := 4) sc_lots_apart.nd rfl (by first | exact Or.inl rfl | exact Or.inr rfl))) (fun _ _ _ _ _ => pts_nil) (fun _ _ _ _ _ => (pe_call (ok_works_meet T) (hr.mono (by first | decide | omega)) (by rfl) T.m_works_meet T.F_works_meet.kp (bn_works_meet T) .nil pass0 (pa_cons (pv 0) (pa_cons (pv 2) (pa_cons (pv 4) pa_nil)))))) pa_nil))))) (fun _ _ _ _ _ => pe_op (k_add (K := K) rfl) (pv 3) (pe_tup (pa_cons (pv 2) pa_nil)))))))) (pss_one (ps_ret (pv 1)))), fun q => ?_⟩)
  exact sim_seq (sim_setO (i := 1) free_nil (by decide) (sim_lst (siml_cons (A := .own) (B := .own) (sim_tup siml_nil) siml_nil))) (sim_seq (sim_for (Γl := [.f, .o, .x, .x, .x]) (simi_rng1 (sim_call1 sc_lenA (sim_fld (c0 := 3) T.cl_Office T.na_Office_works (sim_varF (i := 0) rfl)))) rfl rfl (simg_name (i := 2) free_nil (by decide) (by decide)) (sim_setO (i := 1) free_nil (by decide) (sim_op so_add (sim_varO (i := 1) rfl) (sim_lc (Γf := [.f, .f, .f, .x, .x]) (ws := [3]) (ks := [3]) (by intro k hk; exact free_nil) (simi_seq (sim_varO (i := 1) rfl)) rfl rfl (simg_name (i := 3) free_nil (by decide) (by decide)) (by decide) (simt_not (simt_B (sim_call1 sc_any (sim_lc (Γf := [.f, .f, .f, .f, .x]) (ws := [4]) (ks := [4]) (by intro k hk; exact free_nil) (simi_seq (sim_varF (i := 3) rfl)) rfl rfl (simg_name (i := 4) free_nil (by decide) (by decide)) (by decide) simt_yes (sim_call rfl mo_works_meet (sima_val (sim_varF (i := 0) rfl) (sima_val (sim_varF (i := 2) rfl) (sima_val (sim_varF (i := 4) rfl) sima_nil)))))))) (sim_op so_add (sim_varF (i := 3) rfl) (sim_tup (siml_cons (A := .own) (B := .own) (sim_imm (sim_varF (i := 2) rfl)) siml_nil)))))) rfl) (sim_retO (i := 1) rfl))
theorem sc_apart_lots : FnScope ["office", "sizes", "lot", "size"] ["office"] (defScope s_apart_lots) := ⟨rfl, rfl, rfl, by decide +kernel, rfl, by decide +kernel, by decide +kernel⟩
theorem bn_apart_lots (T : Facts K mg) : Binds K T.fd_apart_lots ["office"] [] := T.F_apart_lots.binds fun _ _ _ _ _ _ us hl => match us, hl with | [_], _ => rfl
theorem ok_apart_lots (T : Facts K mg) : FnOk P w K mg base CX0 3 T.f_apart_lots T.fd_apart_lots ["office"] (SpM (S0 T) [false] m_apart_lots) := by
  refine fn_ok (N := ["office", "sizes", "lot", "size"]) (body := b_apart_lots) (Γe := []) T.F_apart_lots sc_apart_lots rfl (by decide) (fun cdv A outer s H E hr => ⟨_, pss_cons (ps_set (i := 1) sc_apart_lots.nd rfl (by first | exact Or.inl rfl | exact Or.inr rfl) (pe_lc (own := [("lot", 2)]) rfl sc_apart_lots.nd (k_seq (K := K) rfl (pe_call (ok_lots_apart T) (hr.mono (by first | decide | omega)) (by rfl) T.m_lots_apart T.F_lots_apart.kp (bn_lots_apart T) .nil pass0 (pa_cons (pv 0) pa_nil))) (blkOk_by (by rfl)) (fun _ _ _ _ _ => (pg_name (i := 2) sc_apart_lots.nd rfl (by first | exact Or.inl rfl | exact Or.inr rfl))) (fun _ _ _ _ _ => pts_nil) (fun _ _ _ _ _ => (pe_callB (id := "len") (k_lenA (K := K) rfl) (by rfl) T.n_len (by decide +kernel) (pa_cons (pv 2) pa_nil))))) (pss_one (ps_ret (pe_callTy (T := "tuple") (k_tuple (K := K) rfl) (by rfl) T.n_tuple (by decide +kernel) (pa_cons (pe_lc (own := [("size", 3)]) rfl sc_apart_lots.nd (pi_range1 (by rfl) T.n_range (pa_cons (pe_op (k_add (K := K) rfl) (pe_callB (id := "max") (k_max (K := K) rfl rfl) (by rfl) T.n_max (by decide +kernel) (pa_cons (pv 1) pa_nil)) pe_int) pa_nil)) (blkOk_by (by rfl)) (fun _ _ _ _ _ => (pg_name (i := 3) sc_apart_lots.nd rfl (by first | exact Or.inl rfl | exact Or.inr rfl))) (fun _ _ _ _ _ => pts_nil) (fun _ _ _ _ _ => (k_lcnt (K := K) rfl (pv 1) (pv 3)))) pa_nil)))), fun q => ?_⟩)
  exact sim_seq (sim_setO (i := 1) free_nil (by decide) (sim_lc (Γf := [.f, .x, .x, .x]) (ws := [2]) (ks := [2]) (by intro k hk; exact free_nil) (simi_seq (sim_call rfl mo_lots_apart (sima_val (sim_varF (i := 0) rfl) sima_nil))) rfl rfl (simg_name (i := 2) free_nil (by decide) (by decide)) (by decide) simt_yes (sim_call1 sc_lenA (sim_varF (i := 2) rfl)))) (sim_ret (sim_call1 sc_tup (sim_lc (Γf := [.f, .o, .x, .x]) (ws := [3]) (ks := [3]) (by intro k hk; exact free_nil) (simi_rng1 (sim_op so_add (sim_call1 sc_max (sim_varO (i := 1) rfl)) sim_int)) rfl rfl (simg_name (i := 3) free_nil (by decide) (by decide)) (by decide) simt_yes (sim_cntL (sim_varO (i := 1) rfl) (sim_varF (i := 3) rfl)))))
theorem sc_many_of_length : FnScope ["office", "length", "lots", "many", "reached", "total", "sign", "size"] ["office", "length"] (defScope s_many_of_length) := ⟨rfl, rfl, rfl, by decide +kernel, rfl, by decide +kernel, by decide +kernel⟩
theorem bn_many_of_length (T : Facts K mg) : Binds K T.fd_many_of_length ["office", "length"] [] := T.F_many_of_length.binds fun _ _ _ _ _ _ us hl => match us, hl with | [_, _], _ => rfl
theorem ok_many_of_length (T : Facts K mg) : FnOk P w K mg base CX0 4 T.f_many_of_length T.fd_many_of_length ["office", "length"] (SpM (S0 T) [false, false] m_many_of_length) := by
  refine fn_ok (N := ["office", "length", "lots", "many", "reached", "total", "sign", "size"]) (body := b_many_of_length) (Γe := []) T.F_many_of_length sc_many_of_length rfl (by decide) (fun cdv A outer s H E hr => ⟨_, pss_cons (ps_set (i := 2) sc_many_of_length.nd rfl (by first | exact Or.inl rfl | exact Or.inr rfl) (pe_call (ok_apart_lots T) (hr.mono (by first | decide | omega)) (by rfl) T.m_apart_lots T.F_apart_lots.kp (bn_apart_lots T) .nil pass0 (pa_cons (pv 0) pa_nil))) (pss_cons (ps_set (i := 3) sc_many_of_length.nd rfl (by first | exact Or.inl rfl | exact Or.inr rfl) (pe_lst (pa_cons pe_int pa_nil))) (pss_cons (ps_for PassesOwn.never rfl (pi_range2 (by rfl) T.n_range (pa_cons pe_int (pa_cons (pe_op (k_add (K := K) rfl) (pv 1) pe_int) pa_nil))) (pg_name (i := 4) sc_many_of_length.nd rfl (by first | exact Or.inl rfl | exact Or.inr rfl)) (pss_cons (ps_set (i := 5) sc_many_of_length.nd rfl (by first | exact Or.inl rfl | exact Or.inr rfl) pe_int) (pss_cons (ps_set (i := 6) sc_many_of_length.nd rfl (by first | exact Or.inl rfl | exact Or.inr rfl) pe_int) (pss_cons (ps_for PassesOwn.never rfl (pi_range2 (by rfl) T.n_range (pa_cons pe_int (pa_cons (pe_callB (call_min2 rfl) (by rfl) T.n_min (by decide +kernel) (pa_cons (pe_callB (id := "len") (k_lenA (K := K) rfl) (by rfl) T.n_len (by decide +kernel) (pa_cons (pv 2) pa_nil)) (pa_cons (pe_op (k_add (K := K) rfl) (pv 4) pe_int) pa_nil))) pa_nil))) (pg_name (i := 7) sc_many_of_length.nd rfl (by first | exact Or.inl rfl | exact Or.inr rfl)) (pss_cons (ps_aug (i := 5) sc_many_of_length.nd rfl (by first | exact Or.inl rfl | exact Or.inr rfl) (pe_op op_mul (pe_op op_mul (pv 6) (pe_ix (k_ix (K := K) rfl (rm1 hr)) (pv 2) (pv 7) (fun _ _ => rfl))) (pe_ix (k_ix (K := K) rfl (rm1 hr)) (pv 3) (pe_op op_sub (pv 4) (pv 7)) (fun _ _ => rfl))) ip_addU) (pss_one (ps_set (i := 6) sc_many_of_length.nd rfl (by first | exact Or.inl rfl | exact Or.inr rfl) (pe_un un_neg (pv 6)))))) (pss_one (ps_expr (pe_bm PySem.F.plainAttrs_list PySem.F.slot_list_append PySem.F.type_list_append mt_append (pv 3) (pa_cons (pv 5) pa_nil)))))))) (pss_one (ps_ret (pe_ix (k_ix (K := K) rfl (rm1 hr)) (pv 3) (pv 1) (fun _ _ => rfl)))))), fun q => ?_⟩)
  exact sim_seq (sim_setO (i := 2) free_nil (by decide) (sim_call rfl mo_apart_lots (sima_val (sim_varF (i := 0) rfl) sima_nil))) (sim_seq (sim_setO (i := 3) free_nil (by decide) (sim_lst (siml_cons (A := .own) (B := .own) sim_int siml_nil))) (sim_seq (sim_for (Γl := [.f, .f, .o, .o, .x, .x, .x, .x]) (simi_rng2 sim_int (sim_op so_add (sim_varF (i := 1) rfl) sim_int)) rfl rfl (simg_name (i := 4) free_nil (by decide) (by decide)) (sim_seq (sim_setO (i := 5) free_nil (by decide) sim_int) (sim_seq (sim_setO (i := 6) free_nil (by decide) sim_int) (sim_seq (sim_for (Γl := [.f, .f, .o, .o, .f, .o, .o, .x]) (simi_rng2 sim_int (sim_call2 sc_min2 (sim_call1 sc_lenA (sim_varO (i := 2) rfl)) (sim_op so_add (sim_varF (i := 4) rfl) sim_int))) rfl rfl (simg_name (i := 7) free_nil (by decide) (by decide)) (sim_seq (sim_aug (i := 5) (mo := .o) free_nil rfl (by first | exact Or.inl rfl | exact Or.inr rfl) so_add1 (sim_op so_mul (sim_op so_mul (sim_varO (i := 6) rfl) (sim_part so_ix (sim_varO (i := 2) rfl) (sim_varF (i := 7) rfl))) (sim_part so_ix (sim_varO (i := 3) rfl) (sim_op so_sub (sim_varF (i := 4) rfl) (sim_varF (i := 7) rfl))))) (sim_setO (i := 6) free_nil (by decide) (sim_un (sim_varO (i := 6) rfl) so_neg))) rfl) (sim_app (i := 3) rfl (sim_imm (sim_varO (i := 5) rfl)))))) rfl) (sim_ret (sim_imm (sim_part so_ix (sim_varO (i := 3) rfl) (sim_varF (i := 1) rfl))))))
theorem sc_many_rows : FnScope ["office", "length"] ["office", "length"] (defScope s_many_rows) := ⟨rfl, rfl, rfl, by decide +kernel, rfl, by decide +kernel, by decide +kernel⟩
theorem bn_many_rows (T : Facts K mg) : Binds K T.fd_many_rows ["office", "length"] [] := T.F_many_rows.binds fun _ _ _ _ _ _ us hl => match us, hl with | [_, _], _ => rfl
theorem ok_many_rows (T : Facts K mg) : FnOk P w K mg base CX0 5 T.f_many_rows T.fd_many_rows ["office", "length"] (SpM (S0 T) [false, false] m_many_rows) := by
  refine fn_ok (N := ["office", "length"]) (body := b_many_rows) (Γe := []) T.F_many_rows sc_many_rows rfl (by decide) (fun cdv A outer s H E hr => ⟨_, pss_cons (ps_expr (pe_call (ok_check_length T) (hr.mono (by first | decide | omega)) (by rfl) T.m_check_length T.F_check_length.kp (bn_check_length T) .nil pass0 (pa_cons (pv 1) pa_nil))) (pss_one (ps_ret (pe_call (ok_many_of_length T) (hr.mono (by first | decide | omega)) (by rfl) T.m_many_of_length T.F_many_of_length.kp (bn_many_of_length T) .nil pass0 (pa_cons (pv 0) (pa_cons (pv 1) pa_nil))))), fun q => ?_⟩)
  exact sim_seq (sim_drop (sim_call rfl mo_check_length (sima_val (sim_varF (i := 1) rfl) sima_nil))) (sim_ret (sim_call rfl mo_many_of_length (sima_val (sim_varF (i := 0) rfl) (sima_val (sim_varF (i := 1) rfl) sima_nil))))
theorem sc__law_dice : FnScope ["script", "cell"] ["script"] (defScope s__law_dice) := ⟨rfl, rfl, rfl, by decide +kernel, rfl, by decide +kernel, by decide +kernel⟩
theorem bn__law_dice (T : Facts K mg) : Binds K T.fd__law_dice ["script"] [] := T.F__law_dice.binds fun _ _ _ _ _ _ us hl => match us, hl with | [_], _ => rfl
theorem ok__law_dice (T : Facts K mg) : FnOk P w K mg base CX0 1 T.f__law_dice T.fd__law_dice ["script"] (spDice K) := dice_ok T.F__law_dice sc__law_dice (fun cdv A outer s H E hr => (pss_one (ps_ret (pe_lst (pa_cons (pe_lc (own := [("cell", 1)]) rfl sc__law_dice.nd (k_seq (K := K) rfl (pe_slice sl_list (pv 0) po_none (po_some pe_int))) (blkOk_by (by rfl)) (fun _ _ _ _ _ => (pg_name (i := 1) sc__law_dice.nd rfl (by first | exact Or.inl rfl | exact Or.inr rfl))) (fun _ _ _ _ _ => pts_nil) (fun _ _ _ _ _ => (pe_callB (id := "abs") call_abs (by rfl) T.n_abs (by decide +kernel) (pa_cons (pe_callTy (T := "int") call_int1 (by rfl) T.n_int (by decide +kernel) (pa_cons (pv 1) pa_nil)) pa_nil)))) (pa_cons pe_int (pa_cons pe_int (pa_cons pe_int (pa_cons pe_int pa_nil)))))))))
theorem sc__law_draw : FnScope ["dice", "sides", "cell", "digit", "mixed"] ["dice", "sides"] (defScope s__law_draw) := ⟨rfl, rfl, rfl, by decide +kernel, rfl, by decide +kernel, by decide +kernel⟩
theorem bn__law_draw (T : Facts K mg) : Binds K T.fd__law_draw ["dice", "sides"] [] := T.F__law_draw.binds fun _ _ _ _ _ _ us hl => match us, hl with | [_, _], _ => rfl
theorem ok__law_draw (T : Facts K mg) : FnOk P w K mg base CX0 1 T.f__law_draw T.fd__law_draw ["dice", "sides"] (SpM (S0 T) [true, false] m__law_draw) := by
  refine draw_ok (N := ["dice", "sides", "cell", "digit", "mixed"]) (b := bDraw) (Γe := []) (Iv := IvDraw) T.F__law_draw sc__law_draw rfl rfl rfl (fun cdv A outer s H E hr => ⟨_, pss_cons (ps_if (PW.pt (pw_and (pt_cmpR (k_eq (K := K) rfl (rm64 hr)) (pe_ix (k_ix (K := K) rfl (rm1 hr)) (pv 0) pe_int (fun _ _ => rfl)) pe_int (nomark _)) (pw_and1 (pt_cmpR op_lt (pe_ix (k_ix (K := K) rfl (rm1 hr)) (pv 0) pe_int (fun _ _ => rfl)) (pe_callB (id := "len") (k_len (K := K) rfl) (by rfl) T.n_len (by decide +kernel) (pa_cons (pe_ix (k_ix (K := K) rfl (rm1 hr)) (pv 0) pe_int (fun _ _ => rfl)) pa_nil)) (nomark _))))) (pss_cons (ps_set (i := 2) sc__law_draw.nd rfl (by first | exact Or.inl rfl | exact Or.inr rfl) (pe_ix (k_ix (K := K) rfl (rm1 hr)) (pe_ix (k_ix (K := K) rfl (rm1 hr)) (pv 0) pe_int (fun _ _ => rfl)) (pe_ix (k_ix (K := K) rfl (rm1 hr)) (pv 0) pe_int (fun _ _ => rfl)) (fun _ _ => rfl))) (pss_cons (ps_asg (pe_op (k_add (K := K) rfl) (pe_ix (k_ix (K := K) rfl (rm1 hr)) (pv 0) pe_int (fun _ _ => rfl)) pe_int) (pg_sub (pv 0) pe_int (set_U (rm1 hr)))) (pss_one (ps_if (pt_cmpR op_ge (pv 2) (pe_op op_pow pe_int pe_int) (nomark _)) (pss_one (ps_asg (pv 2) (pg_sub (pv 0) pe_int (set_U (rm1 hr))))) (pss_one (ps_asg (pe_op op_modN (pe_callTy (T := "int") call_int1 (by rfl) T.n_int (by decide +kernel) (pa_cons (pe_op (k_add (K := K) rfl) (pe_op (k_add (K := K) rfl) (pe_op op_mul (pe_ix (k_ix (K := K) rfl (rm1 hr)) (pv 0) pe_int (fun _ _ => rfl)) pe_int) (pe_op op_mul (pv 2) pe_int)) (pe_ix (k_ix (K := K) rfl (rm1 hr)) (pv 0) pe_int (fun _ _ => rfl))) pa_nil)) pe_int) (pg_sub (pv 0) pe_int (set_U (rm1 hr))))))))) pss_nil) (pss_cons (ps_if (pt_cmpR op_gt (pe_ix (k_ix (K := K) rfl (rm1 hr)) (pv 0) pe_int (fun _ _ => rfl)) pe_int (nomark _)) (pss_cons (ps_set (i := 3) sc__law_draw.nd rfl (by first | exact Or.inl rfl | exact Or.inr rfl) (pe_op op_modN (pe_callTy (T := "int") call_int1 (by rfl) T.n_int (by decide +kernel) (pa_cons (pe_ix (k_ix (K := K) rfl (rm1 hr)) (pv 0) pe_int (fun _ _ => rfl)) pa_nil)) (pv 1))) (pss_cons (ps_asg (pe_op op_fdivN (pe_callTy (T := "int") call_int1 (by rfl) T.n_int (by decide +kernel) (pa_cons (pe_ix (k_ix (K := K) rfl (rm1 hr)) (pv 0) pe_int (fun _ _ => rfl)) pa_nil)) (pv 1)) (pg_sub (pv 0) pe_int (set_U (rm1 hr)))) (pss_one (ps_ret (pv 3))))) pss_nil) (pss_cons (ps_asg (pe_op (k_add (K := K) rfl) (pe_ix (k_ix (K := K) rfl (rm1 hr)) (pv 0) pe_int (fun _ _ => rfl)) pe_int) (pg_sub (pv 0) pe_int (set_U (rm1 hr)))) (pss_cons (ps_asg (pe_op op_modN (pe_callTy (T := "int") call_int1 (by rfl) T.n_int (by decide +kernel) (pa_cons (pe_op (k_add (K := K) rfl) (pe_op (k_add (K := K) rfl) (pe_op op_mul (pe_ix (k_ix (K := K) rfl (rm1 hr)) (pv 0) pe_int (fun _ _ => rfl)) pe_int) (pe_op op_mul (pe_ix (k_ix (K := K) rfl (rm1 hr)) (pv 0) pe_int (fun _ _ => rfl)) pe_int)) pe_int) pa_nil)) pe_int) (pg_sub (pv 0) pe_int (set_U (rm1 hr)))) (pss_cons (ps_set (i := 4) sc__law_draw.nd rfl (by first | exact Or.inl rfl | exact Or.inr rfl) (pe_op op_modN (pe_callTy (T := "int") call_int1 (by rfl) T.n_int (by decide +kernel) (pa_cons (pe_op op_mul (pe_ix (k_ix (K := K) rfl (rm1 hr)) (pv 0) pe_int (fun _ _ => rfl)) (pe_op (k_add (K := K) rfl) (pe_op op_fdivN (pe_ix (k_ix (K := K) rfl (rm1 hr)) (pv 0) pe_int (fun _ _ => rfl)) pe_int) pe_int)) pa_nil)) pe_int)) (pss_cons (ps_set (i := 4) sc__law_draw.nd rfl (by first | exact Or.inl rfl | exact Or.inr rfl) (pe_op op_modN (pe_callTy (T := "int") call_int1 (by rfl) T.n_int (by decide +kernel) (pa_cons (pe_op op_mul (pv 4) (pe_op (k_add (K := K) rfl) (pe_op op_fdivN (pv 4) pe_int) pe_int)) pa_nil)) pe_int)) (pss_one (ps_ret (pe_op op_modN (pe_callTy (T := "int") call_int1 (by rfl) T.n_int (by decide +kernel) (pa_cons (pe_op op_fdivN (pv 4) pe_int) pa_nil)) (pv 1))))))))), fun q => ?_⟩) pure_draw
  exact simd_seq (simd_if (simt_and (simt_test (sim_op so_eq (sim_part so_ix (sim_varF (i := 0) rfl) sim_int) sim_int)) (simt_test (sim_op so_lt (sim_part so_ix (sim_varF (i := 0) rfl) sim_int) (sim_call1 sc_len (sim_part so_ix (sim_varF (i := 0) rfl) sim_int))))) (simd_weak (Γ2 := [.f, .x, .x, .x]) (simd_seq (simd_set (i := 1) (by decide) (sim_part so_ix (sim_part so_ix (sim_varF (i := 0) rfl) sim_int) (sim_part so_ix (sim_varF (i := 0) rfl) sim_int))) (simd_seq (simd_put (k := 0) (by decide) (sim_op so_add (sim_part so_ix (sim_varF (i := 0) rfl) sim_int) sim_int)) (simd_if (simt_test (sim_op so_ge (sim_varF (i := 2) rfl) (sim_op so_pow sim_int sim_int))) (simd_put (k := 1) (by decide) (sim_varF (i := 2) rfl)) (simd_put (k := 2) (by decide) (sim_op so_mod (sim_call1 sc_int (sim_op so_add (sim_op so_add (sim_op so_mul (sim_part so_ix (sim_varF (i := 0) rfl) sim_int) sim_int) (sim_op so_mul (sim_varF (i := 2) rfl) sim_int)) (sim_part so_ix (sim_varF (i := 0) rfl) sim_int))) sim_int))))) rfl) simd_next) (simd_seq (simd_if (simt_test (sim_op so_gt (sim_part so_ix (sim_varF (i := 0) rfl) sim_int) sim_int)) (simd_seq (simd_set (i := 2) (by decide) (sim_op so_mod (sim_call1 sc_int (sim_part so_ix (sim_varF (i := 0) rfl) sim_int)) (sim_varF (i := 1) rfl))) (simd_seq (simd_put (k := 1) (by decide) (sim_op so_fdiv (sim_call1 sc_int (sim_part so_ix (sim_varF (i := 0) rfl) sim_int)) (sim_varF (i := 1) rfl))) (simd_ret (sim_varF (i := 3) rfl)))) simd_next) (simd_seq (simd_put (k := 3) (by decide) (sim_op so_add (sim_part so_ix (sim_varF (i := 0) rfl) sim_int) sim_int)) (simd_seq (simd_put (k := 2) (by decide) (sim_op so_mod (sim_call1 sc_int (sim_op so_add (sim_op so_add (sim_op so_mul (sim_part so_ix (sim_varF (i := 0) rfl) sim_int) sim_int) (sim_op so_mul (sim_part so_ix (sim_varF (i := 0) rfl) sim_int) sim_int)) sim_int)) sim_int)) (simd_seq (simd_set (i := 3) (by decide) (sim_op so_mod (sim_call1 sc_int (sim_op so_mul (sim_part so_ix (sim_varF (i := 0) rfl) sim_int) (sim_op so_add (sim_op so_fdiv (sim_part so_ix (sim_varF (i := 0) rfl) sim_int) sim_int) sim_int))) sim_int)) (simd_seq (simd_set (i := 3) (by decide) (sim_op so_mod (sim_call1 sc_int (sim_op so_mul (sim_varF (i := 4) rfl) (sim_op so_add (sim_op so_fdiv (sim_varF (i := 4) rfl) sim_int) sim_int))) sim_int)) (simd_ret (sim_op so_mod (sim_call1 sc_int (sim_op so_fdiv (sim_varF (i := 4) rfl) sim_int)) (sim_varF (i := 1) rfl))))))))
theorem sc__law_parts : FnScope ["dice", "most", "desks", "kind", "lots", "again", "lot", "desk"] ["dice", "most"] (defScope s__law_parts) := ⟨rfl, rfl, rfl, by decide +kernel, rfl, by decide +kernel, by decide +kernel⟩
theorem bn__law_parts (T : Facts K mg) : Binds K T.fd__law_parts ["dice", "most"] [] := T.F__law_parts.binds fun _ _ _ _ _ _ us hl => match us, hl with | [_, _], _ => rfl
theorem ok__law_parts (T : Facts K mg) : FnOk P w K mg base CX0 2 T.f__law_parts T.fd__law_parts ["dice", "most"] (SpM (S0 T) [true, false] m__law_parts) := by
  refine fn_ok (N := ["dice", "most", "desks", "kind", "lots", "again", "lot", "desk"]) (body := b__law_parts) (Γe := []) T.F__law_parts sc__law_parts rfl (by decide) (fun cdv A outer s H E hr => ⟨_, pss_cons (ps_set (i := 2) sc__law_parts.nd rfl (by first | exact Or.inl rfl | exact Or.inr rfl) (pe_op (k_add (K := K) rfl) pe_int (pe_call (ok__law_draw T) (hr.mono (by first | decide | omega)) (by rfl) T.m__law_draw T.F__law_draw.kp (bn__law_draw T) .nil pass0 (pa_cons (pv 0) (pa_cons (pv 1) pa_nil))))) (pss_cons (ps_set (i := 3) sc__law_parts.nd rfl (by first | exact Or.inl rfl | exact Or.inr rfl) (pe_call (ok__law_draw T) (hr.mono (by first | decide | omega)) (by rfl) T.m__law_draw T.F__law_draw.kp (bn__law_draw T) .nil pass0 (pa_cons (pv 0) (pa_cons pe_int pa_nil)))) (pss_cons (ps_set (i := 4) sc__law_parts.nd rfl (by first | exact Or.inl rfl | exact Or.inr rfl) (pe_lst pa_nil)) (pss_cons (ps_if (PW.pt (pw_and (pt_cmpR (k_eq (K := K) rfl (rm64 hr)) (pv 3) pe_int (nomark _)) (pw_and1 (pt_cmpR op_gt (pv 2) pe_int (nomark _))))) (pss_one (ps_setLc (i := 4) (own := [("desk", 7)]) rfl sc__law_parts.nd rfl rfl (sw_true rfl rfl rfl (by decide +kernel)) (pi_range1 (by rfl) T.n_range (pa_cons (pv 2) pa_nil)) (blkOk_by (by rfl)) (fun _ _ _ _ _ => (pg_name (i := 7) sc__law_parts.nd rfl (by first | exact Or.inl rfl | exact Or.inr rfl))) (fun _ _ _ _ _ => pts_nil) (fun _ _ _ _ _ => (pe_callTy (T := "tuple") (k_tuple (K := K) rfl) (by rfl) T.n_tuple (by decide +kernel) (pa_cons (pe_callB (id := "sorted") (k_sortA (K := K) rfl) (by rfl) T.n_sorted (by decide +kernel) (pa_cons (pe_lst (pa_cons (pv 7) (pa_cons (pe_op op_modN (pe_callTy (T := "int") call_int1 (by rfl) T.n_int (by decide +kernel) (pa_cons (pe_op (k_add (K := K) rfl) (pv 7) pe_int) pa_nil)) (pv 2)) pa_nil))) pa_nil)) pa_nil))))) pss_nil) (pss_cons (ps_if (pt_cmpR (k_eq (K := K) rfl (rm64 hr)) (pv 3) pe_int (nomark _)) (pss_one (ps_setLc (i := 4) (own := [("desk", 7)]) rfl sc__law_parts.nd rfl rfl (sw_true rfl rfl rfl (by decide +kernel)) (pi_range1 (by rfl) T.n_range (pa_cons (pv 2) pa_nil)) (blkOk_by (by rfl)) (fun _ _ _ _ _ => (pg_name (i := 7) sc__law_parts.nd rfl (by first | exact Or.inl rfl | exact Or.inr rfl))) (fun _ _ _ _ _ => pts_nil) (fun _ _ _ _ _ => pe_tup (pa_cons (pv 7) pa_nil)))) pss_nil) (pss_cons (ps_if (PW.pt (pw_and (pt_cmpR (k_eq (K := K) rfl (rm64 hr)) (pv 3) pe_int (nomark _)) (pw_and1 (pt_cmpR op_gt (pv 2) pe_int (nomark _))))) (pss_one (ps_setLc (i := 4) (own := [("desk", 7)]) rfl sc__law_parts.nd rfl rfl (sw_true rfl rfl rfl (by decide +kernel)) (pi_range2 (by rfl) T.n_range (pa_cons pe_int (pa_cons (pv 2) pa_nil))) (blkOk_by (by rfl)) (fun _ _ _ _ _ => (pg_name (i := 7) sc__law_parts.nd rfl (by first | exact Or.inl rfl | exact Or.inr rfl))) (fun _ _ _ _ _ => pts_nil) (fun _ _ _ _ _ => pe_tup (pa_cons pe_int (pa_cons (pv 7) pa_nil))))) pss_nil) (pss_cons (ps_for PassesOwn.never rfl (pi_range1 (by rfl) T.n_range (pa_cons (pe_op (k_add (K := K) rfl) pe_int (pe_call (ok__law_draw T) (hr.mono (by first | decide | omega)) (by rfl) T.m__law_draw T.F__law_draw.kp (bn__law_draw T) .nil pass0 (pa_cons (pv 0) (pa_cons pe_int pa_nil)))) pa_nil)) (pg_name (i := 5) sc__law_parts.nd rfl (by first | exact Or.inl rfl | exact Or.inr rfl)) (pss_cons (ps_set (i := 6) sc__law_parts.nd rfl (by first | exact Or.inl rfl | exact Or.inr rfl) (pe_callTy (T := "tuple") (k_tuple (K := K) rfl) (by rfl) T.n_tuple (by decide +kernel) (pa_cons (pe_lc (own := [("desk", 7)]) rfl sc__law_parts.nd (pi_range1 (by rfl) T.n_range (pa_cons (pv 2) pa_nil)) (blkOk_by (by rfl)) (fun _ _ _ _ _ => (pg_name (i := 7) sc__law_parts.nd rfl (by first | exact Or.inl rfl | exact Or.inr rfl))) (fun _ _ _ _ _ => pts_one (pt_cmpR (k_eq (K := K) rfl (rm64 hr)) (pe_call (ok__law_draw T) (hr.mono (by first | decide | omega)) (by rfl) T.m__law_draw T.F__law_draw.kp (bn__law_draw T) .nil pass0 (pa_cons (pv 0) (pa_cons pe_int pa_nil))) pe_int (nomark _))) (fun _ _ _ _ _ => (pv 7))) pa_nil))) (pss_one (ps_expr (pe_bm PySem.F.plainAttrs_list PySem.F.slot_list_append PySem.F.type_list_append mt_append (pv 4) (pa_cons (pe_ifExp (pt_cmpR op_gt (pe_callB (id := "len") (k_lenA (K := K) rfl) (by rfl) T.n_len (by decide +kernel) (pa_cons (pv 6) pa_nil)) pe_int (nomark _)) (pv 6) (pe_tup (pa_cons (pe_call (ok__law_draw T) (hr.mono (by first | decide | omega)) (by rfl) T.m__law_draw T.F__law_draw.kp (bn__law_draw T) .nil pass0 (pa_cons (pv 0) (pa_cons (pv 2) pa_nil))) pa_nil))) pa_nil)))))) (pss_one (ps_ret (pe_tup (pa_cons (pv 2) (pa_cons (pe_callTy (T := "tuple") (k_tuple (K := K) rfl) (by rfl) T.n_tuple (by decide +kernel) (pa_cons (pe_slice (k_sl (K := K) rfl) (pv 4) po_none (po_some pe_int)) pa_nil)) pa_nil))))))))))), fun q => ?_⟩)
  exact sim_seq (sim_setO (i := 2) free_nil (by decide) (sim_op so_add sim_int (sim_call rfl mo__law_draw (sima_dice (i := 0) rfl (sima_val (sim_varF (i := 1) rfl) sima_nil))))) (sim_seq (sim_setO (i := 3) free_nil (by decide) (sim_call rfl mo__law_draw (sima_dice (i := 0) rfl (sima_val sim_int sima_nil)))) (sim_seq (sim_setO (i := 4) free_nil (by decide) (sim_lst siml_nil)) (sim_seq (sim_if (simt_and (simt_test (sim_op so_eq (sim_varO (i := 3) rfl) sim_int)) (simt_test (sim_op so_gt (sim_varO (i := 2) rfl) sim_int))) (sim_setO (i := 4) free_nil (by decide) (sim_lc (Γf := [.q, .f, .o, .o, .o, .x, .x, .x]) (ws := [7]) (ks := [7]) (by intro k hk; exact free_nil) (simi_rng1 (sim_varO (i := 2) rfl)) rfl rfl (simg_name (i := 7) free_nil (by decide) (by decide)) (by decide) simt_yes (sim_call1 sc_tup (sim_call1 sc_sortA (sim_lst (siml_cons (A := .own) (B := .own) (sim_imm (sim_varF (i := 7) rfl)) (siml_cons (A := .own) (B := .own) (sim_op so_mod (sim_call1 sc_int (sim_op so_add (sim_varF (i := 7) rfl) sim_int)) (sim_varO (i := 2) rfl)) siml_nil))))))) sim_next) (sim_seq (sim_if (simt_test (sim_op so_eq (sim_varO (i := 3) rfl) sim_int)) (sim_setO (i := 4) free_nil (by decide) (sim_lc (Γf := [.q, .f, .o, .o, .o, .x, .x, .x]) (ws := [7]) (ks := [7]) (by intro k hk; exact free_nil) (simi_rng1 (sim_varO (i := 2) rfl)) rfl rfl (simg_name (i := 7) free_nil (by decide) (by decide)) (by decide) simt_yes (sim_tup (siml_cons (A := .own) (B := .own) (sim_imm (sim_varF (i := 7) rfl)) siml_nil)))) sim_next) (sim_seq (sim_if (simt_and (simt_test (sim_op so_eq (sim_varO (i := 3) rfl) sim_int)) (simt_test (sim_op so_gt (sim_varO (i := 2) rfl) sim_int))) (sim_setO (i := 4) free_nil (by decide) (sim_lc (Γf := [.q, .f, .o, .o, .o, .x, .x, .x]) (ws := [7]) (ks := [7]) (by intro k hk; exact free_nil) (simi_rng2 sim_int (sim_varO (i := 2) rfl)) rfl rfl (simg_name (i := 7) free_nil (by decide) (by decide)) (by decide) simt_yes (sim_tup (siml_cons (A := .own) (B := .own) sim_int (siml_cons (A := .own) (B := .own) (sim_imm (sim_varF (i := 7) rfl)) siml_nil))))) sim_next) (sim_seq (sim_for (Γl := [.q, .f, .o, .o, .o, .x, .x, .x]) (simi_rng1 (sim_op so_add sim_int (sim_call rfl mo__law_draw (sima_dice (i := 0) rfl (sima_val sim_int sima_nil))))) rfl rfl (simg_name (i := 5) free_nil (by decide) (by decide)) (sim_seq (sim_setO (i := 6) free_nil (by decide) (sim_call1 sc_tup (sim_lc (Γf := [.q, .f, .o, .o, .o, .f, .x, .x]) (ws := [7]) (ks := [7]) (by intro k hk; exact free_nil) (simi_rng1 (sim_varO (i := 2) rfl)) rfl rfl (simg_name (i := 7) free_nil (by decide) (by decide)) (by decide) (simt_test (sim_op so_eq (sim_call rfl mo__law_draw (sima_dice (i := 0) rfl (sima_val sim_int sima_nil))) sim_int)) (sim_imm (sim_varF (i := 7) rfl))))) (sim_app (i := 4) rfl (sim_if2 (simt_test (sim_op so_gt (sim_call1 sc_lenA (sim_varO (i := 6) rfl)) sim_int)) (sim_imm (sim_varO (i := 6) rfl)) (sim_tup (siml_cons (A := .own) (B := .own) (sim_call rfl mo__law_draw (sima_dice (i := 0) rfl (sima_val (sim_varO (i := 2) rfl) sima_nil))) siml_nil))))) rfl) (sim_ret (sim_tup (siml_cons (A := .own) (B := .own) (sim_imm (sim_varO (i := 2) rfl)) (siml_cons (A := .own) (B := .own) (sim_call1 sc_tup (sim_sl (sim_varO (i := 4) rfl) simo_no (simo_yes sim_int))) siml_nil))))))))))
theorem sc__law_made : FnScope ["parts"] ["parts"] (defScope s__law_made) := ⟨rfl, rfl, rfl, by decide +kernel, rfl, by decide +kernel, by decide +kernel⟩
theorem bn__law_made (T : Facts K mg) : Binds K T.fd__law_made ["parts"] [] := T.F__law_made.binds fun _ _ _ _ _ _ us hl => match us, hl with | [_], _ => rfl
theorem ok__law_made (T : Facts K mg) : FnOk P w K mg base CX0 8 T.f__law_made T.fd__law_made ["parts"] (SpM (S0 T) [false] m__law_made) := by
  refine fn_ok (N := ["parts"]) (body := b__law_made) (Γe := []) T.F__law_made sc__law_made rfl (by decide) (fun cdv A outer s H E hr => ⟨_, pss_one (ps_ret (pe_make T.mk_Office (ok_Office_init T) (hr.mono (by decide)) (by rfl) T.m_Office (bn_Office_init T) .nil pass0 (pa_cons (pe_ix (k_ix (K := K) rfl (rm1 hr)) (pv 0) pe_int (fun _ _ => rfl)) (pa_cons (pe_ix (k_ix (K := K) rfl (rm1 hr)) (pv 0) pe_int (fun _ _ => rfl)) pa_nil)))), fun q => ?_⟩)
  exact sim_ret (sim_make rfl rfl mo_Office_init (siml_cons (sim_imm (sim_part so_ix (sim_varF (i := 0) rfl) sim_int)) (siml_cons (sim_imm (sim_part so_ix (sim_varF (i := 0) rfl) sim_int)) siml_nil)))
theorem sc__law_some_parts : FnScope ["dice"] ["dice"] (defScope s__law_some_parts) := ⟨rfl, rfl, rfl, by decide +kernel, rfl, by decide +kernel, by decide +kernel⟩
theorem bn__law_some_parts (T : Facts K mg) : Binds K T.fd__law_some_parts ["dice"] [] := T.F__law_some_parts.binds fun _ _ _ _ _ _ us hl => match us, hl with | [_], _ => rfl
theorem ok__law_some_parts (T : Facts K mg) : FnOk P w K mg base CX0 3 T.f__law_some_parts T.fd__law_some_parts ["dice"] (SpM (S0 T) [true] m__law_some_parts) := by
  refine fn_ok (N := ["dice"]) (body := b__law_some_parts) (Γe := []) T.F__law_some_parts sc__law_some_parts rfl (by decide) (fun cdv A outer s H E hr => ⟨_, pss_one (ps_ret (pe_call (ok__law_parts T) (hr.mono (by first | decide | omega)) (by rfl) T.m__law_parts T.F__law_parts.kp (bn__law_parts T) .nil pass0 (pa_cons (pv 0) (pa_cons (pe_ifExp (pt_cmpR (k_eq (K := K) rfl (rm64 hr)) (pe_call (ok__law_draw T) (hr.mono (by first | decide | omega)) (by rfl) T.m__law_draw T.F__law_draw.kp (bn__law_draw T) .nil pass0 (pa_cons (pv 0) (pa_cons pe_int pa_nil))) pe_int (nomark _)) pe_int pe_int) pa_nil)))), fun q => ?_⟩)
  exact sim_ret (sim_call rfl mo__law_parts (sima_dice (i := 0) rfl (sima_val (sim_if2 (simt_test (sim_op so_eq (sim_call rfl mo__law_draw (sima_dice (i := 0) rfl (sima_val sim_int sima_nil))) sim_int)) sim_int sim_int) sima_nil)))
theorem sc__law_meets : FnScope ["parts", "one", "other", "desk"] ["parts", "one", "other"] (defScope s__law_meets) := ⟨rfl, rfl, rfl, by decide +kernel, rfl, by decide +kernel, by decide +kernel⟩
theorem bn__law_meets (T : Facts K mg) : Binds K T.fd__law_meets ["parts", "one", "other"] [] := T.F__law_meets.binds fun _ _ _ _ _ _ us hl => match us, hl with | [_, _, _], _ => rfl
theorem ok__law_meets (T : Facts K mg) : FnOk P w K mg base CX0 1 T.f__law_meets T.fd__law_meets ["parts", "one", "other"] (SpM (S0 T) [false, false, false] m__law_meets) := by
  refine fn_ok (N := ["parts", "one", "other", "desk"]) (body := b__law_meets) (Γe := []) T.F__law_meets sc__law_meets rfl (by decide) (fun cdv A outer s H E hr => ⟨_, pss_one (ps_ret (pe_callB (id := "any") (k_any (K := K) rfl rfl) (by rfl) T.n_any (by decide +kernel) (pa_cons (pe_lc (own := [("desk", 3)]) rfl sc__law_meets.nd (k_seq (K := K) rfl (pe_ix (k_ix (K := K) rfl (rm1 hr)) (pe_ix (k_ix (K := K) rfl (rm1 hr)) (pv 0) pe_int (fun _ _ => rfl)) (pv 1) (fun _ _ => rfl))) (blkOk_by (by rfl)) (fun _ _ _ _ _ => (pg_name (i := 3) sc__law_meets.nd rfl (by first | exact Or.inl rfl | exact Or.inr rfl))) (fun _ _ _ _ _ => pts_nil) (fun _ _ _ _ _ => pe_cmpR (k_in (K := K) rfl (rm65 hr)) (pv 3) (pe_ix (k_ix (K := K) rfl (rm1 hr)) (pe_ix (k_ix (K := K) rfl (rm1 hr)) (pv 0) pe_int (fun _ _ => rfl)) (pv 2) (fun _ _ => rfl)) (by rfl))) pa_nil))), fun q => ?_⟩)
  exact sim_ret (sim_call1 sc_any (sim_lc (Γf := [.f, .f, .f, .x]) (ws := [3]) (ks := [3]) (by intro k hk; exact free_nil) (simi_seq (sim_part so_ix (sim_part so_ix (sim_varF (i := 0) rfl) sim_int) (sim_varF (i := 1) rfl))) rfl rfl (simg_name (i := 3) free_nil (by decide) (by decide)) (by decide) simt_yes (sim_op so_in (sim_varF (i := 3) rfl) (sim_part so_ix (sim_part so_ix (sim_varF (i := 0) rfl) sim_int) (sim_varF (i := 2) rfl)))))
theorem sc__law_whole : FnScope ["told", "due"] ["told", "due"] (defScope s__law_whole) := ⟨rfl, rfl, rfl, by decide +kernel, rfl, by decide +kernel, by decide +kernel⟩
theorem bn__law_whole (T : Facts K mg) : Binds K T.fd__law_whole ["told", "due"] [] := T.F__law_whole.binds fun _ _ _ _ _ _ us hl => match us, hl with | [_, _], _ => rfl
theorem ok__law_whole (T : Facts K mg) : FnOk P w K mg base CX0 1 T.f__law_whole T.fd__law_whole ["told", "due"] (SpM (S0 T) [false, false] m__law_whole) := by
  refine fn_ok (N := ["told", "due"]) (body := b__law_whole) (Γe := []) T.F__law_whole sc__law_whole rfl (by decide) (fun cdv A outer s H E hr => ⟨_, pss_cons (ps_if (pt_cmpR op_isN (pv 1) pe_non (nomark _)) (pss_one (ps_ret (pe_cmpR op_isN (pv 0) pe_non (nomark _)))) pss_nil) (pss_one (ps_ret (pe_and (pe_callB (id := "isinstance") (k_isa (K := K) rfl) (by rfl) T.n_isinstance (by decide +kernel) (pa_cons (pv 0) (pa_cons (k_ty (c := "int") (by rfl) T.n_int (by decide +kernel)) pa_nil))) (pe_and (pe_not (pe_callB (id := "isinstance") (k_isa (K := K) rfl) (by rfl) T.n_isinstance (by decide +kernel) (pa_cons (pv 0) (pa_cons (k_ty (c := "bool") (by rfl) T.n_bool (by decide +kernel)) pa_nil)))) (pe_one (pe_cmpR (k_eq (K := K) rfl (rm64 hr)) (pv 0) (pv 1) (nomark _))))))), fun q => ?_⟩)
  exact sim_seq (sim_if (simt_test (sim_op so_isN (sim_varF (i := 1) rfl) sim_non)) (sim_ret (sim_op so_isN (sim_varF (i := 0) rfl) sim_non)) sim_next) (sim_ret (sim_and (sim_isa (c := "int") (sim_varF (i := 0) rfl)) (sim_and (sim_not (sim_isa (c := "bool") (sim_varF (i := 0) rfl))) (sim_op so_eq (sim_varF (i := 0) rfl) (sim_varF (i := 1) rfl)))))
theorem sc__law_same : FnScope ["told", "due", "at"] ["told", "due"] (defScope s__law_same) := ⟨rfl, rfl, rfl, by decide +kernel, rfl, by decide +kernel, by decide +kernel⟩
theorem bn__law_same (T : Facts K mg) : Binds K T.fd__law_same ["told", "due"] [] := T.F__law_same.binds fun _ _ _ _ _ _ us hl => match us, hl with | [_, _], _ => rfl
theorem ok__law_same_n : ∀ (n : Nat) (T : Facts K mg), FnOk P w K mg base CX0 (1 + n) T.f__law_same T.fd__law_same ["told", "due"] (SpM (S0 T) [false, false] (m__law_same_4_n n))
  | 0, T => fn_never rfl
  | n + 1, T => by
    have ih : ∀ T : Facts K mg, FnOk P w K mg base CX0 (1 + n) T.f__law_same T.fd__law_same ["told", "due"] (SpM (S0 T) [false, false] (m__law_same_4_n n)) := fun T => ok__law_same_n n T
    have mo_self := mo__law_same_4_n n
    show FnOk P w K mg base CX0 (1 + n + 1) T.f__law_same T.fd__law_same ["told", "due"] (SpM (S0 T) [false, false] (fnM 3 (b__law_same_4 (m__law_same_4_n n))))
    refine fn_ok (N := ["told", "due", "at"]) (body := _) (Γe := []) T.F__law_same sc__law_same rfl (by decide) (fun cdv A outer s H E hr => ⟨_, pss_cons (ps_if (PW.pt (pw_or (pt_val (pe_callB (id := "isinstance") (k_isa (K := K) rfl) (by rfl) T.n_isinstance (by decide +kernel) (pa_cons (pv 1) (pa_cons (k_ty (c := "tuple") (by rfl) T.n_tuple (by decide +kernel)) pa_nil)))) (pw_or1 (pt_val (pe_callB (id := "isinstance") (k_isa (K := K) rfl) (by rfl) T.n_isinstance (by decide +kernel) (pa_cons (pv 1) (pa_cons (k_ty (c := "list") (by rfl) T.n_list (by decide +kernel)) pa_nil))))))) (pss_cons (ps_if (PW.pt (pw_or (pt_cmpR (k_ne (K := K) rfl (rm64 hr)) (pe_callB (id := "isinstance") (k_isa (K := K) rfl) (by rfl) T.n_isinstance (by decide +kernel) (pa_cons (pv 0) (pa_cons (k_ty (c := "tuple") (by rfl) T.n_tuple (by decide +kernel)) pa_nil))) (pe_callB (id := "isinstance") (k_isa (K := K) rfl) (by rfl) T.n_isinstance (by decide +kernel) (pa_cons (pv 1) (pa_cons (k_ty (c := "tuple") (by rfl) T.n_tuple (by decide +kernel)) pa_nil))) (nomark _)) (pw_or1 (pt_cmpR (k_ne (K := K) rfl (rm64 hr)) (pe_callB (id := "isinstance") (k_isa (K := K) rfl) (by rfl) T.n_isinstance (by decide +kernel) (pa_cons (pv 0) (pa_cons (k_ty (c := "list") (by rfl) T.n_list (by decide +kernel)) pa_nil))) (pe_callB (id := "isinstance") (k_isa (K := K) rfl) (by rfl) T.n_isinstance (by decide +kernel) (pa_cons (pv 1) (pa_cons (k_ty (c := "list") (by rfl) T.n_list (by decide +kernel)) pa_nil))) (nomark _))))) (pss_one (ps_ret pe_bl)) pss_nil) (pss_one (ps_ret (pe_and (pe_cmpR (k_eq (K := K) rfl (rm64 hr)) (pe_callB (id := "len") (k_lenA (K := K) rfl) (by rfl) T.n_len (by decide +kernel) (pa_cons (pv 0) pa_nil)) (pe_callB (id := "len") (k_lenA (K := K) rfl) (by rfl) T.n_len (by decide +kernel) (pa_cons (pv 1) pa_nil)) (nomark _)) (pe_one (pe_callB (id := "all") (k_all (K := K) rfl rfl) (by rfl) T.n_all (by decide +kernel) (pa_cons (pe_lc (own := [("at", 2)]) rfl sc__law_same.nd (pi_range1 (by rfl) T.n_range (pa_cons (pe_callB (id := "len") (k_lenA (K := K) rfl) (by rfl) T.n_len (by decide +kernel) (pa_cons (pv 1) pa_nil)) pa_nil)) (blkOk_by (by rfl)) (fun _ _ _ _ _ => (pg_name (i := 2) sc__law_same.nd rfl (by first | exact Or.inl rfl | exact Or.inr rfl))) (fun _ _ _ _ _ => pts_nil) (fun _ _ _ _ _ => (pe_call (ih T) (hr.mono (by omega)) (by rfl) T.m__law_same T.F__law_same.kp (bn__law_same T) .nil pass0 (pa_cons (pe_ix (k_ix (K := K) rfl (rm1 hr)) (pv 0) (pv 2) (fun _ _ => rfl)) (pa_cons (pe_ix (k_ix (K := K) rfl (rm1 hr)) (pv 1) (pv 2) (fun _ _ => rfl)) pa_nil))))) pa_nil))))))) pss_nil) (pss_cons (ps_if (pt_val (pe_callB (id := "isinstance") (k_isa (K := K) rfl) (by rfl) T.n_isinstance (by decide +kernel) (pa_cons (pv 1) (pa_cons (k_ty (c := "str") (by rfl) T.n_str (by decide +kernel)) pa_nil)))) (pss_one (ps_ret (pe_and (pe_callB (id := "isinstance") (k_isa (K := K) rfl) (by rfl) T.n_isinstance (by decide +kernel) (pa_cons (pv 0) (pa_cons (k_ty (c := "str") (by rfl) T.n_str (by decide +kernel)) pa_nil))) (pe_one (pe_cmpR (k_eq (K := K) rfl (rm64 hr)) (pv 0) (pv 1) (nomark _)))))) pss_nil) (pss_one (ps_ret (pe_call (ok__law_whole T) (hr.mono (by first | decide | omega)) (by rfl) T.m__law_whole T.F__law_whole.kp (bn__law_whole T) .nil pass0 (pa_cons (pv 0) (pa_cons (pv 1) pa_nil)))))), fun q => ?_⟩)
    exact sim_seq (sim_if (simt_or (simt_B (sim_isa (c := "tuple") (sim_varF (i := 1) rfl))) (simt_B (sim_isa (c := "list") (sim_varF (i := 1) rfl)))) (sim_seq (sim_if (simt_or (simt_test (sim_op so_ne (sim_isa (c := "tuple") (sim_varF (i := 0) rfl)) (sim_isa (c := "tuple") (sim_varF (i := 1) rfl)))) (simt_test (sim_op so_ne (sim_isa (c := "list") (sim_varF (i := 0) rfl)) (sim_isa (c := "list") (sim_varF (i := 1) rfl))))) (sim_ret sim_bl) sim_next) (sim_ret (sim_and (sim_op so_eq (sim_call1 sc_lenA (sim_varF (i := 0) rfl)) (sim_call1 sc_lenA (sim_varF (i := 1) rfl))) (sim_call1 sc_all (sim_lc (Γf := [.f, .f, .x]) (ws := [2]) (ks := [2]) (by intro k hk; exact free_nil) (simi_rng1 (sim_call1 sc_lenA (sim_varF (i := 1) rfl))) rfl rfl (simg_name (i := 2) free_nil (by decide) (by decide)) (by decide) simt_yes (sim_call rfl mo_self (sima_val (sim_part so_ix (sim_varF (i := 0) rfl) (sim_varF (i := 2) rfl)) (sima_val (sim_part so_ix (sim_varF (i := 1) rfl) (sim_varF (i := 2) rfl)) sima_nil)))))))) sim_next) (sim_seq (sim_if (simt_B (sim_isa (c := "str") (sim_varF (i := 1) rfl))) (sim_ret (sim_and (sim_isa (c := "str") (sim_varF (i := 0) rfl)) (sim_op so_eq (sim_varF (i := 0) rfl) (sim_varF (i := 1) rfl)))) sim_next) (sim_ret (sim_call rfl mo__law_whole (sima_val (sim_varF (i := 0) rfl) (sima_val (sim_varF (i := 1) rfl) sima_nil)))))
theorem ok__law_same (T : Facts K mg) : FnOk P w K mg base CX0 9 T.f__law_same T.fd__law_same ["told", "due"] (SpM (S0 T) [false, false] m__law_same_4) := ok__law_same_n 8 T
theorem sc__law_rows_to : FnScope ["parts", "most", "found", "ends", "again", "longer", "row", "work"] ["parts", "most"] (defScope s__law_rows_to) := ⟨rfl, rfl, rfl, by decide +kernel, rfl, by decide +kernel, by decide +kernel⟩
theorem bn__law_rows_to (T : Facts K mg) : Binds K T.fd__law_rows_to ["parts", "most"] [] := T.F__law_rows_to.binds fun _ _ _ _ _ _ us hl => match us, hl with | [_, _], _ => rfl
theorem ok__law_rows_to (T : Facts K mg) : FnOk P w K mg base CX0 1 T.f__law_rows_to T.fd__law_rows_to ["parts", "most"] (SpM (S0 T) [false, false] m__law_rows_to) := by
  refine fn_ok (N := ["parts", "most", "found", "ends", "again", "longer", "row", "work"]) (body := b__law_rows_to) (Γe := []) T.F__law_rows_to sc__law_rows_to rfl (by decide) (fun cdv A outer s H E hr => ⟨_, pss_cons (ps_set (i := 2) sc__law_rows_to.nd rfl (by first | exact Or.inl rfl | exact Or.inr rfl) (pe_lst (pa_cons (pe_tup pa_nil) pa_nil))) (pss_cons (ps_set (i := 3) sc__law_rows_to.nd rfl (by first | exact Or.inl rfl | exact Or.inr rfl) (pe_lst (pa_cons (pe_tup pa_nil) pa_nil))) (pss_cons (ps_for PassesOwn.never rfl (pi_range1 (by rfl) T.n_range (pa_cons (pv 1) pa_nil)) (pg_name (i := 4) sc__law_rows_to.nd rfl (by first | exact Or.inl rfl | exact Or.inr rfl)) (pss_cons (ps_set (i := 5) sc__law_rows_to.nd rfl (by first | exact Or.inl rfl | exact Or.inr rfl) (pe_lst pa_nil)) (pss_cons (ps_for PassesOwn.never rfl (k_seq (K := K) rfl (pv 3)) (pg_name (i := 6) sc__law_rows_to.nd rfl (by first | exact Or.inl rfl | exact Or.inr rfl)) (pss_one (ps_expr (pe_bm PySem.F.plainAttrs_list PySem.F.slot_list_extend PySem.F.type_list_extend mt_extend (pv 5) (pa_cons (pe_lc (own := [("work", 7)]) rfl sc__law_rows_to.nd (pi_range1 (by rfl) T.n_range (pa_cons (pe_callB (id := "len") (k_lenA (K := K) rfl) (by rfl) T.n_len (by decide +kernel) (pa_cons (pe_ix (k_ix (K := K) rfl (rm1 hr)) (pv 0) pe_int (fun _ _ => rfl)) pa_nil)) pa_nil)) (blkOk_by (by rfl)) (fun _ _ _ _ _ => (pg_name (i := 7) sc__law_rows_to.nd rfl (by first | exact Or.inl rfl | exact Or.inr rfl))) (fun _ _ _ _ _ => pts_nil) (fun _ _ _ _ _ => pe_op (k_add (K := K) rfl) (pv 6) (pe_tup (pa_cons (pv 7) pa_nil)))) pa_nil))))) (pss_cons (ps_set (i := 3) sc__law_rows_to.nd rfl (by first | exact Or.inl rfl | exact Or.inr rfl) (pv 5)) (pss_one (ps_set (i := 2) sc__law_rows_to.nd rfl (by first | exact Or.inl rfl | exact Or.inr rfl) (pe_op (k_add (K := K) rfl) (pv 2) (pv 3)))))))) (pss_one (ps_ret (pv 2))))), fun q => ?_⟩)
  exact sim_seq (sim_setO (i := 2) free_nil (by decide) (sim_lst (siml_cons (A := .own) (B := .own) (sim_tup siml_nil) siml_nil))) (sim_seq (sim_setO (i := 3) free_nil (by decide) (sim_lst (siml_cons (A := .own) (B := .own) (sim_tup siml_nil) siml_nil))) (sim_seq (sim_for (Γl := [.f, .f, .o, .f, .x, .x, .x, .x]) (simi_rng1 (sim_varF (i := 1) rfl)) rfl rfl (simg_name (i := 4) free_nil (by decide) (by decide)) (sim_seq (sim_setO (i := 5) free_nil (by decide) (sim_lst siml_nil)) (sim_seq (sim_for (Γl := [.f, .f, .o, .f, .f, .o, .x, .x]) (simi_seq (sim_varF (i := 3) rfl)) rfl rfl (simg_name (i := 6) free_nil (by decide) (by decide)) (sim_lm (i := 5) lo_extend rfl (siml_cons (sim_lc (Γf := [.f, .f, .o, .f, .f, .o, .f, .x]) (ws := [7]) (ks := [7]) (by intro k hk; exact free_nil) (simi_rng1 (sim_call1 sc_lenA (sim_part so_ix (sim_varF (i := 0) rfl) sim_int))) rfl rfl (simg_name (i := 7) free_nil (by decide) (by decide)) (by decide) simt_yes (sim_op so_add (sim_varF (i := 6) rfl) (sim_tup (siml_cons (A := .own) (B := .own) (sim_imm (sim_varF (i := 7) rfl)) siml_nil)))) siml_nil)) rfl) (sim_seq (sim_setF (i := 3) (Γ1 := [.f, .f, .o, .f, .f, .f, .x, .x]) free_nil rfl rfl (by decide) (sim_varO (i := 5) rfl)) (sim_setO (i := 2) free_nil (by decide) (sim_op so_add (sim_varO (i := 2) rfl) (sim_varF (i := 3) rfl)))))) rfl) (sim_retO (i := 2) rfl)))
theorem sc__law_logs : FnScope ["parts", "row", "desk", "work"] ["parts", "row"] (defScope s__law_logs) := ⟨rfl, rfl, rfl, by decide +kernel, rfl, by decide +kernel, by decide +kernel⟩
theorem bn__law_logs (T : Facts K mg) : Binds K T.fd__law_logs ["parts", "row"] [] := T.F__law_logs.binds fun _ _ _ _ _ _ us hl => match us, hl with | [_, _], _ => rfl
theorem ok__law_logs (T : Facts K mg) : FnOk P w K mg base CX0 1 T.f__law_logs T.fd__law_logs ["parts", "row"] (SpM (S0 T) [false, false] m__law_logs) := by
  refine fn_ok (N := ["parts", "row", "desk", "work"]) (body := b__law_logs) (Γe := []) T.F__law_logs sc__law_logs rfl (by decide) (fun cdv A outer s H E hr => ⟨_, pss_one (ps_ret (pe_callTy (T := "tuple") (k_tuple (K := K) rfl) (by rfl) T.n_tuple (by decide +kernel) (pa_cons (pe_lc (own := [("desk", 2)]) rfl sc__law_logs.nd (pi_range1 (by rfl) T.n_range (pa_cons (pe_ix (k_ix (K := K) rfl (rm1 hr)) (pv 0) pe_int (fun _ _ => rfl)) pa_nil)) (blkOk_by (by rfl)) (fun _ _ _ _ _ => (pg_name (i := 2) sc__law_logs.nd rfl (by first | exact Or.inl rfl | exact Or.inr rfl))) (fun _ _ _ _ _ => pts_nil) (fun _ _ _ _ _ => (pe_callTy (T := "tuple") (k_tuple (K := K) rfl) (by rfl) T.n_tuple (by decide +kernel) (pa_cons (pe_lc (own := [("work", 3)]) rfl sc__law_logs.nd (k_seq (K := K) rfl (pv 1)) (blkOk_by (by rfl)) (fun _ _ _ _ _ => (pg_name (i := 3) sc__law_logs.nd rfl (by first | exact Or.inl rfl | exact Or.inr rfl))) (fun _ _ _ _ _ => pts_one (pt_cmpR (k_in (K := K) rfl (rm65 hr)) (pv 2) (pe_ix (k_ix (K := K) rfl (rm1 hr)) (pe_ix (k_ix (K := K) rfl (rm1 hr)) (pv 0) pe_int (fun _ _ => rfl)) (pv 3) (fun _ _ => rfl)) (by rfl))) (fun _ _ _ _ _ => (pv 3))) pa_nil)))) pa_nil))), fun q => ?_⟩)
  exact sim_ret (sim_call1 sc_tup (sim_lc (Γf := [.f, .f, .x, .x]) (ws := [2]) (ks := [2]) (by intro k hk; exact free_nil) (simi_rng1 (sim_part so_ix (sim_varF (i := 0) rfl) sim_int)) rfl rfl (simg_name (i := 2) free_nil (by decide) (by decide)) (by decide) simt_yes (sim_call1 sc_tup (sim_lc (Γf := [.f, .f, .f, .x]) (ws := [3]) (ks := [3]) (by intro k hk; exact free_nil) (simi_seq (sim_varF (i := 1) rfl)) rfl rfl (simg_name (i := 3) free_nil (by decide) (by decide)) (by decide) (simt_test (sim_op so_in (sim_varF (i := 2) rfl) (sim_part so_ix (sim_part so_ix (sim_varF (i := 0) rfl) sim_int) (sim_varF (i := 3) rfl)))) (sim_imm (sim_varF (i := 3) rfl))))))
theorem sc__law_apart : FnScope ["parts", "lot", "two", "one"] ["parts", "lot"] (defScope s__law_apart) := ⟨rfl, rfl, rfl, by decide +kernel, rfl, by decide +kernel, by decide +kernel⟩
theorem bn__law_apart (T : Facts K mg) : Binds K T.fd__law_apart ["parts", "lot"] [] := T.F__law_apart.binds fun _ _ _ _ _ _ us hl => match us, hl with | [_, _], _ => rfl
theorem ok__law_apart (T : Facts K mg) : FnOk P w K mg base CX0 2 T.f__law_apart T.fd__law_apart ["parts", "lot"] (SpM (S0 T) [false, false] m__law_apart_2) := by
  refine fn_ok (N := ["parts", "lot", "two", "one"]) (body := b__law_apart_2) (Γe := []) T.F__law_apart sc__law_apart rfl (by decide) (fun cdv A outer s H E hr => ⟨_, pss_cons (ps_for PassesOwn.never rfl (pi_range1 (by rfl) T.n_range (pa_cons (pe_callB (id := "len") (k_lenA (K := K) rfl) (by rfl) T.n_len (by decide +kernel) (pa_cons (pv 1) pa_nil)) pa_nil)) (pg_name (i := 2) sc__law_apart.nd rfl (by first | exact Or.inl rfl | exact Or.inr rfl)) (pss_one (ps_if (pt_val (pe_callB (id := "any") (k_any (K := K) rfl rfl) (by rfl) T.n_any (by decide +kernel) (pa_cons (pe_lc (own := [("one", 3)]) rfl sc__law_apart.nd (pi_range1 (by rfl) T.n_range (pa_cons (pv 2) pa_nil)) (blkOk_by (by rfl)) (fun _ _ _ _ _ => (pg_name (i := 3) sc__law_apart.nd rfl (by first | exact Or.inl rfl | exact Or.inr rfl))) (fun _ _ _ _ _ => pts_nil) (fun _ _ _ _ _ => (pe_call (ok__law_meets T) (hr.mono (by first | decide | omega)) (by rfl) T.m__law_meets T.F__law_meets.kp (bn__law_meets T) .nil pass0 (pa_cons (pv 0) (pa_cons (pe_ix (k_ix (K := K) rfl (rm1 hr)) (pv 1) (pv 3) (fun _ _ => rfl)) (pa_cons (pe_ix (k_ix (K := K) rfl (rm1 hr)) (pv 1) (pv 2) (fun _ _ => rfl)) pa_nil)))))) pa_nil))) (pss_one (ps_ret pe_bl)) pss_nil))) (pss_one (ps_ret pe_bl)), fun q => ?_⟩)
  exact sim_seq (sim_for (Γl := [.f, .f, .x, .x]) (simi_rng1 (sim_call1 sc_lenA (sim_varF (i := 1) rfl))) rfl rfl (simg_name (i := 2) free_nil (by decide) (by decide)) (sim_if (simt_B (sim_call1 sc_any (sim_lc (Γf := [.f, .f, .f, .x]) (ws := [3]) (ks := [3]) (by intro k hk; exact free_nil) (simi_rng1 (sim_varF (i := 2) rfl)) rfl rfl (simg_name (i := 3) free_nil (by decide) (by decide)) (by decide) simt_yes (sim_call rfl mo__law_meets (sima_val (sim_varF (i := 0) rfl) (sima_val (sim_part so_ix (sim_varF (i := 1) rfl) (sim_varF (i := 3) rfl)) (sima_val (sim_part so_ix (sim_varF (i := 1) rfl) (sim_varF (i := 2) rfl)) sima_nil))))))) (sim_ret sim_bl) sim_next) rfl) (sim_ret sim_bl)
theorem sc__law_numbers : FnScope ["parts", "found", "lots", "longer", "lot", "work"] ["parts"] (defScope s__law_numbers) := ⟨rfl, rfl, rfl, by decide +kernel, rfl, by decide +kernel, by decide +kernel⟩
theorem bn__law_numbers (T : Facts K mg) : Binds K T.fd__law_numbers ["parts"] [] := T.F__law_numbers.binds fun _ _ _ _ _ _ us hl => match us, hl with | [_], _ => rfl
theorem ok__law_numbers (T : Facts K mg) : FnOk P w K mg base CX0 3 T.f__law_numbers T.fd__law_numbers ["parts"] (SpM (S0 T) [false] m__law_numbers) := by
  refine fn_ok (N := ["parts", "found", "lots", "longer", "lot", "work"]) (body := b__law_numbers) (Γe := []) T.F__law_numbers sc__law_numbers rfl (by decide) (fun cdv A outer s H E hr => ⟨_, pss_cons (ps_set (i := 1) sc__law_numbers.nd rfl (by first | exact Or.inl rfl | exact Or.inr rfl) (pe_lst pa_nil)) (pss_cons (ps_set (i := 2) sc__law_numbers.nd rfl (by first | exact Or.inl rfl | exact Or.inr rfl) (pe_lst (pa_cons (pe_tup pa_nil) pa_nil))) (pss_cons (ps_while PassesOwn.never (pt_cmpR op_gt (pe_callB (id := "len") (k_lenA (K := K) rfl) (by rfl) T.n_len (by decide +kernel) (pa_cons (pv 2) pa_nil)) pe_int (nomark _)) (pss_cons (ps_expr (pe_bm PySem.F.plainAttrs_list PySem.F.slot_list_append PySem.F.type_list_append mt_append (pv 1) (pa_cons (pe_callB (id := "len") (k_lenA (K := K) rfl) (by rfl) T.n_len (by decide +kernel) (pa_cons (pv 2) pa_nil)) pa_nil))) (pss_cons (ps_set (i := 3) sc__law_numbers.nd rfl (by first | exact Or.inl rfl | exact Or.inr rfl) (pe_lst pa_nil)) (pss_cons (ps_for PassesOwn.never rfl (k_seq (K := K) rfl (pv 2)) (pg_name (i := 4) sc__law_numbers.nd rfl (by first | exact Or.inl rfl | exact Or.inr rfl)) (pss_one (ps_for PassesOwn.never rfl (pi_range2 (by rfl) T.n_range (pa_cons (pe_ifExp (pt_cmpR op_gt (pe_callB (id := "len") (k_lenA (K := K) rfl) (by rfl) T.n_len (by decide +kernel) (pa_cons (pv 4) pa_nil)) pe_int (nomark _)) (pe_op (k_add (K := K) rfl) (pe_ix (k_ix (K := K) rfl (rm1 hr)) (pv 4) (pe_un un_neg pe_int) (fun _ _ => rfl)) pe_int) pe_int) (pa_cons (pe_callB (id := "len") (k_lenA (K := K) rfl) (by rfl) T.n_len (by decide +kernel) (pa_cons (pe_ix (k_ix (K := K) rfl (rm1 hr)) (pv 0) pe_int (fun _ _ => rfl)) pa_nil)) pa_nil))) (pg_name (i := 5) sc__law_numbers.nd rfl (by first | exact Or.inl rfl | exact Or.inr rfl)) (pss_one (ps_if (pt_val (pe_call (ok__law_apart T) (hr.mono (by first | decide | omega)) (by rfl) T.m__law_apart T.F__law_apart.kp (bn__law_apart T) .nil pass0 (pa_cons (pv 0) (pa_cons (pe_op (k_add (K := K) rfl) (pv 4) (pe_tup (pa_cons (pv 5) pa_nil))) pa_nil)))) (pss_one (ps_expr (pe_bm PySem.F.plainAttrs_list PySem.F.slot_list_append PySem.F.type_list_append mt_append (pv 3) (pa_cons (pe_op (k_add (K := K) rfl) (pv 4) (pe_tup (pa_cons (pv 5) pa_nil))) pa_nil)))) pss_nil))))) (pss_one (ps_set (i := 2) sc__law_numbers.nd rfl (by first | exact Or.inl rfl | exact Or.inr rfl) (pv 3))))))) (pss_one (ps_ret (pe_callTy (T := "tuple") (k_tuple (K := K) rfl) (by rfl) T.n_tuple (by decide +kernel) (pa_cons (pv 1) pa_nil)))))), fun q => ?_⟩)
  exact sim_seq (sim_setO (i := 1) free_nil (by decide) (sim_lst siml_nil)) (sim_seq (sim_setO (i := 2) free_nil (by decide) (sim_lst (siml_cons (A := .own) (B := .own) (sim_tup siml_nil) siml_nil))) (sim_seq (sim_while (Γl := [.f, .o, .f, .x, .x, .x]) rfl (simt_test (sim_op so_gt (sim_call1 sc_lenA (sim_varF (i := 2) rfl)) sim_int)) (sim_seq (sim_app (i := 1) rfl (sim_call1 sc_lenA (sim_varF (i := 2) rfl))) (sim_seq (sim_setO (i := 3) free_nil (by decide) (sim_lst siml_nil)) (sim_seq (sim_for (Γl := [.f, .o, .f, .o, .x, .x]) (simi_seq (sim_varF (i := 2) rfl)) rfl rfl (simg_name (i := 4) free_nil (by decide) (by decide)) (sim_for (Γl := [.f, .o, .f, .o, .f, .x]) (simi_rng2 (sim_if2 (simt_test (sim_op so_gt (sim_call1 sc_lenA (sim_varF (i := 4) rfl)) sim_int)) (sim_op so_add (sim_part so_ix (sim_varF (i := 4) rfl) (sim_un sim_int so_neg)) sim_int) sim_int) (sim_call1 sc_lenA (sim_part so_ix (sim_varF (i := 0) rfl) sim_int))) rfl rfl (simg_name (i := 5) free_nil (by decide) (by decide)) (sim_if (simt_B (sim_call rfl mo__law_apart_2 (sima_val (sim_varF (i := 0) rfl) (sima_val (sim_op so_add (sim_varF (i := 4) rfl) (sim_tup (siml_cons (A := .own) (B := .own) (sim_imm (sim_varF (i := 5) rfl)) siml_nil))) sima_nil)))) (sim_app (i := 3) rfl (sim_op so_add (sim_varF (i := 4) rfl) (sim_tup (siml_cons (A := .own) (B := .own) (sim_imm (sim_varF (i := 5) rfl)) siml_nil)))) sim_next) rfl) rfl) (sim_setF (i := 2) (Γ1 := [.f, .o, .f, .f, .x, .x]) free_nil rfl rfl (by decide) (sim_varO (i := 3) rfl))))) rfl) (sim_ret (sim_call1 sc_tup (sim_varO (i := 1) rfl)))))
theorem sc__law_by_sums : FnScope ["numbers", "length", "found", "size", "total", "at"] ["numbers", "length"] (defScope s__law_by_sums) := ⟨rfl, rfl, rfl, by decide +kernel, rfl, by decide +kernel, by decide +kernel⟩
theorem bn__law_by_sums (T : Facts K mg) : Binds K T.fd__law_by_sums ["numbers", "length"] [] := T.F__law_by_sums.binds fun _ _ _ _ _ _ us hl => match us, hl with | [_, _], _ => rfl
theorem ok__law_by_sums (T : Facts K mg) : FnOk P w K mg base CX0 1 T.f__law_by_sums T.fd__law_by_sums ["numbers", "length"] (SpM (S0 T) [false, false] m__law_by_sums) := by
  refine fn_ok (N := ["numbers", "length", "found", "size", "total", "at"]) (body := b__law_by_sums) (Γe := []) T.F__law_by_sums sc__law_by_sums rfl (by decide) (fun cdv A outer s H E hr => ⟨_, pss_cons (ps_set (i := 2) sc__law_by_sums.nd rfl (by first | exact Or.inl rfl | exact Or.inr rfl) (pe_lst (pa_cons pe_int pa_nil))) (pss_cons (ps_for PassesOwn.never rfl (pi_range2 (by rfl) T.n_range (pa_cons pe_int (pa_cons (pe_op (k_add (K := K) rfl) (pv 1) pe_int) pa_nil))) (pg_name (i := 3) sc__law_by_sums.nd rfl (by first | exact Or.inl rfl | exact Or.inr rfl)) (pss_cons (ps_set (i := 4) sc__law_by_sums.nd rfl (by first | exact Or.inl rfl | exact Or.inr rfl) pe_int) (pss_cons (ps_for PassesOwn.never rfl (pi_range2 (by rfl) T.n_range (pa_cons pe_int (pa_cons (pe_callB (id := "len") (k_lenA (K := K) rfl) (by rfl) T.n_len (by decide +kernel) (pa_cons (pv 0) pa_nil)) pa_nil))) (pg_name (i := 5) sc__law_by_sums.nd rfl (by first | exact Or.inl rfl | exact Or.inr rfl)) (pss_one (ps_if (pt_cmpR op_le (pv 5) (pv 3) (nomark _)) (pss_one (ps_set (i := 4) sc__law_by_sums.nd rfl (by first | exact Or.inl rfl | exact Or.inr rfl) (pe_op (k_add (K := K) rfl) (pv 4) (pe_op op_mul (pe_op op_mul (pe_ix (k_ix (K := K) rfl (rm1 hr)) (pv 0) (pv 5) (fun _ _ => rfl)) (pe_ix (k_ix (K := K) rfl (rm1 hr)) (pv 2) (pe_op op_sub (pv 3) (pv 5)) (fun _ _ => rfl))) (pe_ifExp (pt_cmpR (k_eq (K := K) rfl (rm64 hr)) (pe_op op_modN (pv 5) pe_int) pe_int (nomark _)) pe_int (pe_un un_neg pe_int)))))) pss_nil))) (pss_one (ps_expr (pe_bm PySem.F.plainAttrs_list PySem.F.slot_list_append PySem.F.type_list_append mt_append (pv 2) (pa_cons (pv 4) pa_nil))))))) (pss_one (ps_ret (pe_ix (k_ix (K := K) rfl (rm1 hr)) (pv 2) (pv 1) (fun _ _ => rfl))))), fun q => ?_⟩)
  exact sim_seq (sim_setO (i := 2) free_nil (by decide) (sim_lst (siml_cons (A := .own) (B := .own) sim_int siml_nil))) (sim_seq (sim_for (Γl := [.f, .f, .o, .x, .x, .x]) (simi_rng2 sim_int (sim_op so_add (sim_varF (i := 1) rfl) sim_int)) rfl rfl (simg_name (i := 3) free_nil (by decide) (by decide)) (sim_seq (sim_setO (i := 4) free_nil (by decide) sim_int) (sim_seq (sim_for (Γl := [.f, .f, .o, .f, .o, .x]) (simi_rng2 sim_int (sim_call1 sc_lenA (sim_varF (i := 0) rfl))) rfl rfl (simg_name (i := 5) free_nil (by decide) (by decide)) (sim_if (simt_test (sim_op so_le (sim_varF (i := 5) rfl) (sim_varF (i := 3) rfl))) (sim_setO (i := 4) free_nil (by decide) (sim_op so_add (sim_varO (i := 4) rfl) (sim_op so_mul (sim_op so_mul (sim_part so_ix (sim_varF (i := 0) rfl) (sim_varF (i := 5) rfl)) (sim_part so_ix (sim_varO (i := 2) rfl) (sim_op so_sub (sim_varF (i := 3) rfl) (sim_varF (i := 5) rfl)))) (sim_if2 (simt_test (sim_op so_eq (sim_op so_mod (sim_varF (i := 5) rfl) sim_int) sim_int)) sim_int (sim_un sim_int so_neg))))) sim_next) rfl) (sim_app (i := 2) rfl (sim_imm (sim_varO (i := 4) rfl))))) rfl) (sim_ret (sim_imm (sim_part so_ix (sim_varO (i := 2) rfl) (sim_varF (i := 1) rfl)))))
theorem sc__law_known_right : FnScope ["dice", "desks", "length", "alone", "row", "desk", "at", "works", "due", "every"] ["dice"] (defScope s__law_known_right) := ⟨rfl, rfl, rfl, by decide +kernel, rfl, by decide +kernel, by decide +kernel⟩
theorem bn__law_known_right (T : Facts K mg) : Binds K T.fd__law_known_right ["dice"] [] := T.F__law_known_right.binds fun _ _ _ _ _ _ us hl => match us, hl with | [_], _ => rfl
theorem ok__law_known_right (T : Facts K mg) : FnOk P w K mg base CX0 8 T.f__law_known_right T.fd__law_known_right ["dice"] (SpM (S0 T) [true] m__law_known_right_2) := by
  refine fn_ok (N := ["dice", "desks", "length", "alone", "row", "desk", "at", "works", "due", "every"]) (body := b__law_known_right_2) (Γe := []) T.F__law_known_right sc__law_known_right rfl (by decide) (fun cdv A outer s H E hr => ⟨_, pss_cons (ps_par (i := 1) (j := 2) rfl sc__law_known_right.nd rfl rfl (by decide) rfl rfl (pa_cons (pe_op (k_add (K := K) rfl) pe_int (pe_call (ok__law_draw T) (hr.mono (by first | decide | omega)) (by rfl) T.m__law_draw T.F__law_draw.kp (bn__law_draw T) .nil pass0 (pa_cons (pv 0) (pa_cons pe_int pa_nil)))) (pa_cons (pe_call (ok__law_draw T) (hr.mono (by first | decide | omega)) (by rfl) T.m__law_draw T.F__law_draw.kp (bn__law_draw T) .nil pass0 (pa_cons (pv 0) (pa_cons pe_int pa_nil))) pa_nil)) (by rfl)) (pss_cons (ps_set (i := 3) sc__law_known_right.nd rfl (by first | exact Or.inl rfl | exact Or.inr rfl) (pe_make T.mk_Office (ok_Office_init T) (hr.mono (by decide)) (by rfl) T.m_Office (bn_Office_init T) .nil pass0 (pa_cons (pv 1) (pa_cons (pe_callTy (T := "tuple") (k_tuple (K := K) rfl) (by rfl) T.n_tuple (by decide +kernel) (pa_cons (pe_lc (own := [("desk", 5)]) rfl sc__law_known_right.nd (pi_range1 (by rfl) T.n_range (pa_cons (pv 1) pa_nil)) (blkOk_by (by rfl)) (fun _ _ _ _ _ => (pg_name (i := 5) sc__law_known_right.nd rfl (by first | exact Or.inl rfl | exact Or.inr rfl))) (fun _ _ _ _ _ => pts_nil) (fun _ _ _ _ _ => pe_tup (pa_cons (pv 5) pa_nil))) pa_nil)) pa_nil)))) (pss_cons (ps_set (i := 4) sc__law_known_right.nd rfl (by first | exact Or.inl rfl | exact Or.inr rfl) (pe_op op_rep (pe_lst (pa_cons pe_int pa_nil)) (pe_op (k_add (K := K) rfl) (pv 2) pe_int))) (pss_cons (ps_for PassesOwn.never rfl (pi_range2 (by rfl) T.n_range (pa_cons pe_int (pa_cons (pv 1) pa_nil))) (pg_name (i := 5) sc__law_known_right.nd rfl (by first | exact Or.inl rfl | exact Or.inr rfl)) (pss_one (ps_for PassesOwn.never rfl (pi_range2 (by rfl) T.n_range (pa_cons pe_int (pa_cons (pe_op (k_add (K := K) rfl) (pv 2) pe_int) pa_nil))) (pg_name (i := 6) sc__law_known_right.nd rfl (by first | exact Or.inl rfl | exact Or.inr rfl)) (pss_one (ps_asg (pe_op (k_add (K := K) rfl) (pe_ix (k_ix (K := K) rfl (rm1 hr)) (pv 4) (pv 6) (fun _ _ => rfl)) (pe_ix (k_ix (K := K) rfl (rm1 hr)) (pv 4) (pe_op op_sub (pv 6) pe_int) (fun _ _ => rfl))) (pg_sub (pv 4) (pv 6) (set_U (rm1 hr)))))))) (pss_cons (ps_if (pt_not (pt_val (pe_call (ok__law_whole T) (hr.mono (by first | decide | omega)) (by rfl) T.m__law_whole T.F__law_whole.kp (bn__law_whole T) .nil pass0 (pa_cons (pe_call (ok_many_rows T) (hr.mono (by first | decide | omega)) (by rfl) T.m_many_rows T.F_many_rows.kp (bn_many_rows T) .nil pass0 (pa_cons (pv 3) (pa_cons (pv 2) pa_nil))) (pa_cons (pe_ix (k_ix (K := K) rfl (rm1 hr)) (pv 4) (pv 2) (fun _ _ => rfl)) pa_nil))))) (pss_one (ps_ret pe_bl)) pss_nil) (pss_cons (ps_set (i := 7) sc__law_known_right.nd rfl (by first | exact Or.inl rfl | exact Or.inr rfl) (pe_op (k_add (K := K) rfl) pe_int (pe_call (ok__law_draw T) (hr.mono (by first | decide | omega)) (by rfl) T.m__law_draw T.F__law_draw.kp (bn__law_draw T) .nil pass0 (pa_cons (pv 0) (pa_cons pe_int pa_nil))))) (pss_cons (ps_set (i := 8) sc__law_known_right.nd rfl (by first | exact Or.inl rfl | exact Or.inr rfl) pe_int) (pss_cons (ps_for PassesOwn.never rfl (pi_range1 (by rfl) T.n_range (pa_cons (pv 2) pa_nil)) (pg_name (i := 6) sc__law_known_right.nd rfl (by first | exact Or.inl rfl | exact Or.inr rfl)) (pss_one (ps_set (i := 8) sc__law_known_right.nd rfl (by first | exact Or.inl rfl | exact Or.inr rfl) (pe_op op_mul (pv 8) (pv 7))))) (pss_cons (ps_set (i := 9) sc__law_known_right.nd rfl (by first | exact Or.inl rfl | exact Or.inr rfl) (pe_make T.mk_Office (ok_Office_init T) (hr.mono (by decide)) (by rfl) T.m_Office (bn_Office_init T) .nil pass0 (pa_cons (pv 1) (pa_cons (pe_op (k_repTB (K := K) rfl) (pe_tup (pa_cons (pe_tupRg rfl (by rfl) T.n_tuple (prg_1 (by rfl) T.n_range (pv 1))) pa_nil)) (pv 7)) pa_nil)))) (pss_one (ps_ret (pe_and (pe_call (ok__law_whole T) (hr.mono (by first | decide | omega)) (by rfl) T.m__law_whole T.F__law_whole.kp (bn__law_whole T) .nil pass0 (pa_cons (pe_call (ok_many_rows T) (hr.mono (by first | decide | omega)) (by rfl) T.m_many_rows T.F_many_rows.kp (bn_many_rows T) .nil pass0 (pa_cons (pv 9) (pa_cons (pv 2) pa_nil))) (pa_cons (pv 8) pa_nil))) (pe_one (pe_cmpR (k_eq (K := K) rfl (rm64 hr)) (pe_call (ok_apart_lots T) (hr.mono (by first | decide | omega)) (by rfl) T.m_apart_lots T.F_apart_lots.kp (bn_apart_lots T) .nil pass0 (pa_cons (pv 9) pa_nil)) (pe_tup (pa_cons pe_int (pa_cons (pv 7) pa_nil))) (nomark _)))))))))))))), fun q => ?_⟩)
  exact sim_seq (sim_par (i := 1) (j := 2) free_nil free_nil (by decide) (by decide) (by decide) (siml_cons (sim_op so_add sim_int (sim_call rfl mo__law_draw (sima_dice (i := 0) rfl (sima_val sim_int sima_nil)))) (siml_cons (sim_call rfl mo__law_draw (sima_dice (i := 0) rfl (sima_val sim_int sima_nil))) siml_nil))) (sim_seq (sim_setO (i := 3) free_nil (by decide) (sim_make rfl rfl mo_Office_init (siml_cons (sim_imm (sim_varO (i := 1) rfl)) (siml_cons (sim_call1 sc_tup (sim_lc (Γf := [.q, .o, .o, .x, .x, .x, .x, .x, .x, .x]) (ws := [5]) (ks := [5]) (by intro k hk; exact free_nil) (simi_rng1 (sim_varO (i := 1) rfl)) rfl rfl (simg_name (i := 5) free_nil (by decide) (by decide)) (by decide) simt_yes (sim_tup (siml_cons (A := .own) (B := .own) (sim_imm (sim_varF (i := 5) rfl)) siml_nil)))) siml_nil)))) (sim_seq (sim_setO (i := 4) free_nil (by decide) (sim_op so_repL (sim_lst (siml_cons (A := .own) (B := .own) sim_int siml_nil)) (sim_op so_add (sim_varO (i := 2) rfl) sim_int))) (sim_seq (sim_for (Γl := [.q, .o, .o, .o, .o, .x, .x, .x, .x, .x]) (simi_rng2 sim_int (sim_varO (i := 1) rfl)) rfl rfl (simg_name (i := 5) free_nil (by decide) (by decide)) (sim_for (Γl := [.q, .o, .o, .o, .o, .f, .x, .x, .x, .x]) (simi_rng2 sim_int (sim_op so_add (sim_varO (i := 2) rfl) sim_int)) rfl rfl (simg_name (i := 6) free_nil (by decide) (by decide)) (sim_put (i := 4) rfl (sim_op so_add (sim_part so_ix (sim_varO (i := 4) rfl) (sim_varF (i := 6) rfl)) (sim_part so_ix (sim_varO (i := 4) rfl) (sim_op so_sub (sim_varF (i := 6) rfl) sim_int))) (sim_varF (i := 6) rfl)) rfl) rfl) (sim_seq (sim_if (simt_not (simt_B (sim_call rfl mo__law_whole (sima_val (sim_call rfl mo_many_rows (sima_val (sim_varO (i := 3) rfl) (sima_val (sim_varO (i := 2) rfl) sima_nil))) (sima_val (sim_part so_ix (sim_varO (i := 4) rfl) (sim_varO (i := 2) rfl)) sima_nil))))) (sim_ret sim_bl) sim_next) (sim_seq (sim_setO (i := 7) free_nil (by decide) (sim_op so_add sim_int (sim_call rfl mo__law_draw (sima_dice (i := 0) rfl (sima_val sim_int sima_nil))))) (sim_seq (sim_setO (i := 8) free_nil (by decide) sim_int) (sim_seq (sim_for (Γl := [.q, .o, .o, .o, .o, .x, .x, .o, .o, .x]) (simi_rng1 (sim_varO (i := 2) rfl)) rfl rfl (simg_name (i := 6) free_nil (by decide) (by decide)) (sim_setO (i := 8) free_nil (by decide) (sim_op so_mul (sim_varO (i := 8) rfl) (sim_varO (i := 7) rfl))) rfl) (sim_seq (sim_setO (i := 9) free_nil (by decide) (sim_make rfl rfl mo_Office_init (siml_cons (sim_imm (sim_varO (i := 1) rfl)) (siml_cons (sim_op so_repTB (sim_tup (siml_cons (A := .own) (B := .own) (sim_trg1 (sim_varO (i := 1) rfl)) siml_nil)) (sim_varO (i := 7) rfl)) siml_nil)))) (sim_ret (sim_and (sim_call rfl mo__law_whole (sima_val (sim_call rfl mo_many_rows (sima_val (sim_varO (i := 9) rfl) (sima_val (sim_varO (i := 2) rfl) sima_nil))) (sima_val (sim_varO (i := 8) rfl) sima_nil))) (sim_op so_eq (sim_call rfl mo_apart_lots (sima_val (sim_varO (i := 9) rfl) sima_nil)) (sim_tup (siml_cons (A := .own) (B := .own) sim_int (siml_cons (A := .own) (B := .own) (sim_imm (sim_varO (i := 7) rfl)) siml_nil))))))))))))))
theorem sc_law : FnScope ["script", "dice", "again", "parts", "office", "numbers", "length", "rows", "unlike", "row"] ["script"] (defScope s_law) := ⟨rfl, rfl, rfl, by decide +kernel, rfl, by decide +kernel, by decide +kernel⟩
theorem ok_law (T : Facts K mg) (hp : b_law_k84 lawEnds (List.replicate 10 none)) : FnOk P w K mg base CX0 10 T.f_law T.fd_law ["script"] (spLaw K) := by
  refine law_ok (N := ["script", "dice", "again", "parts", "office", "numbers", "length", "rows", "unlike", "row"]) (n := 8) (b := b_law_k84) (S := S0 T) (Γe := []) T.F_law sc_law rfl rfl (fun cdv A outer s H E hr => ⟨_, pss_cons (ps_set (i := 1) sc_law.nd rfl (by first | exact Or.inl rfl | exact Or.inr rfl) (pe_call (ok__law_dice T) (hr.mono (by decide)) (by rfl) T.m__law_dice T.F__law_dice.kp (bn__law_dice T) .nil pass0 (pa_cons (pv 0) pa_nil))) (pss_cons (ps_for PassesOwn.never rfl (pi_range1 (by rfl) T.n_range (pa_cons pe_int pa_nil)) (pg_name (i := 2) sc_law.nd rfl (by first | exact Or.inl rfl | exact Or.inr rfl)) (pss_cons (ps_set (i := 3) sc_law.nd rfl (by first | exact Or.inl rfl | exact Or.inr rfl) (pe_call (ok__law_some_parts T) (hr.mono (by first | decide | omega)) (by rfl) T.m__law_some_parts T.F__law_some_parts.kp (bn__law_some_parts T) .nil pass0 (pa_cons (pv 1) pa_nil))) (pss_cons (ps_set (i := 4) sc_law.nd rfl (by first | exact Or.inl rfl | exact Or.inr rfl) (pe_call (ok__law_made T) (hr.mono (by first | decide | omega)) (by rfl) T.m__law_made T.F__law_made.kp (bn__law_made T) .nil pass0 (pa_cons (pv 3) pa_nil))) (pss_cons (ps_set (i := 5) sc_law.nd rfl (by first | exact Or.inl rfl | exact Or.inr rfl) (pe_call (ok__law_numbers T) (hr.mono (by first | decide | omega)) (by rfl) T.m__law_numbers T.F__law_numbers.kp (bn__law_numbers T) .nil pass0 (pa_cons (pv 3) pa_nil))) (pss_cons (ps_if (pt_not (pt_val (pe_call (ok__law_same T) (hr.mono (by first | decide | omega)) (by rfl) T.m__law_same T.F__law_same.kp (bn__law_same T) .nil pass0 (pa_cons (pe_call (ok_apart_lots T) (hr.mono (by first | decide | omega)) (by rfl) T.m_apart_lots T.F_apart_lots.kp (bn_apart_lots T) .nil pass0 (pa_cons (pv 4) pa_nil)) (pa_cons (pv 5) pa_nil))))) (pss_one (ps_ret pe_bl)) pss_nil) (pss_cons (ps_set (i := 6) sc_law.nd rfl (by first | exact Or.inl rfl | exact Or.inr rfl) (pe_call (ok__law_draw T) (hr.mono (by first | decide | omega)) (by rfl) T.m__law_draw T.F__law_draw.kp (bn__law_draw T) .nil pass0 (pa_cons (pv 1) (pa_cons pe_int pa_nil)))) (pss_one (ps_if (pt_not (pt_val (pe_call (ok__law_whole T) (hr.mono (by first | decide | omega)) (by rfl) T.m__law_whole T.F__law_whole.kp (bn__law_whole T) .nil pass0 (pa_cons (pe_call (ok_many_rows T) (hr.mono (by first | decide | omega)) (by rfl) T.m_many_rows T.F_many_rows.kp (bn_many_rows T) .nil pass0 (pa_cons (pv 4) (pa_cons (pv 6) pa_nil))) (pa_cons (pe_call (ok__law_by_sums T) (hr.mono (by first | decide | omega)) (by rfl) T.m__law_by_sums T.F__law_by_sums.kp (bn__law_by_sums T) .nil pass0 (pa_cons (pv 5) (pa_cons (pv 6) pa_nil))) pa_nil))))) (pss_one (ps_ret pe_bl)) pss_nil)))))))) (pss_cons (ps_set (i := 3) sc_law.nd rfl (by first | exact Or.inl rfl | exact Or.inr rfl) (pe_call (ok__law_parts T) (hr.mono (by first | decide | omega)) (by rfl) T.m__law_parts T.F__law_parts.kp (bn__law_parts T) .nil pass0 (pa_cons (pv 1) (pa_cons pe_int pa_nil)))) (pss_cons (ps_set (i := 3) sc_law.nd rfl (by first | exact Or.inl rfl | exact Or.inr rfl) (pe_tup (pa_cons (pe_ix (k_ix (K := K) rfl (rm1 hr)) (pv 3) pe_int (fun _ _ => rfl)) (pa_cons (pe_slice (k_sl (K := K) rfl) (pe_ix (k_ix (K := K) rfl (rm1 hr)) (pv 3) pe_int (fun _ _ => rfl)) po_none (po_some pe_int)) pa_nil)))) (pss_cons (ps_for PassesOwn.never rfl (pi_range1 (by rfl) T.n_range (pa_cons pe_int pa_nil)) (pg_name (i := 6) sc_law.nd rfl (by first | exact Or.inl rfl | exact Or.inr rfl)) (pss_cons (ps_setLc (i := 7) (own := [("row", 9)]) rfl sc_law.nd rfl rfl (sw_true rfl rfl rfl (by decide +kernel)) (k_seq (K := K) rfl (pe_call (ok__law_rows_to T) (hr.mono (by first | decide | omega)) (by rfl) T.m__law_rows_to T.F__law_rows_to.kp (bn__law_rows_to T) .nil pass0 (pa_cons (pv 3) (pa_cons (pv 6) pa_nil)))) (blkOk_by (by rfl)) (fun _ _ _ _ _ => (pg_name (i := 9) sc_law.nd rfl (by first | exact Or.inl rfl | exact Or.inr rfl))) (fun _ _ _ _ _ => pts_one (pt_cmpR (k_eq (K := K) rfl (rm64 hr)) (pe_callB (id := "len") (k_lenA (K := K) rfl) (by rfl) T.n_len (by decide +kernel) (pa_cons (pv 9) pa_nil)) (pv 6) (nomark _))) (fun _ _ _ _ _ => (pv 9))) (pss_cons (ps_set (i := 8) sc_law.nd rfl (by first | exact Or.inl rfl | exact Or.inr rfl) (pe_callB (id := "len") k_lenN (by rfl) T.n_len (by decide +kernel) (pa_cons (pe_callTy (T := "dict") (k_dictPN (K := K) rfl rfl (rm64 hr)) (by rfl) T.n_dict (by decide +kernel) (pa_cons (pe_lc (own := [("row", 9)]) rfl sc_law.nd (k_seq (K := K) rfl (pv 7)) (blkOk_by (by rfl)) (fun _ _ _ _ _ => (pg_name (i := 9) sc_law.nd rfl (by first | exact Or.inl rfl | exact Or.inr rfl))) (fun _ _ _ _ _ => pts_nil) (fun _ _ _ _ _ => pe_tup (pa_cons (pe_call (ok__law_logs T) (hr.mono (by first | decide | omega)) (by rfl) T.m__law_logs T.F__law_logs.kp (bn__law_logs T) .nil pass0 (pa_cons (pv 3) (pa_cons (pv 9) pa_nil))) (pa_cons pe_bl pa_nil)))) pa_nil)) pa_nil))) (pss_one (ps_if (pt_not (pt_val (pe_call (ok__law_whole T) (hr.mono (by first | decide | omega)) (by rfl) T.m__law_whole T.F__law_whole.kp (bn__law_whole T) .nil pass0 (pa_cons (pe_call (ok_many_rows T) (hr.mono (by first | decide | omega)) (by rfl) T.m_many_rows T.F_many_rows.kp (bn_many_rows T) .nil pass0 (pa_cons (pe_call (ok__law_made T) (hr.mono (by first | decide | omega)) (by rfl) T.m__law_made T.F__law_made.kp (bn__law_made T) .nil pass0 (pa_cons (pv 3) pa_nil)) (pa_cons (pv 6) pa_nil))) (pa_cons (pv 8) pa_nil))))) (pss_one (ps_ret pe_bl)) pss_nil))))) (pss_one (ps_ret (pe_call (ok__law_known_right T) (hr.mono (by first | decide | omega)) (by rfl) T.m__law_known_right T.F__law_known_right.kp (bn__law_known_right T) .nil pass0 (pa_cons (pv 1) pa_nil)))))))), fun q => ?_⟩) hp
  exact sim_seq (sim_for (Γl := [.x, .q, .x, .x, .x, .x, .x, .x, .x, .x]) (simi_rng1 sim_int) rfl rfl (simg_name (i := 2) free_nil (by decide) (by decide)) (sim_seq (sim_setO (i := 3) free_nil (by decide) (sim_call rfl mo__law_some_parts (sima_dice (i := 1) rfl sima_nil))) (sim_seq (sim_setO (i := 4) free_nil (by decide) (sim_call rfl mo__law_made (sima_val (sim_varO (i := 3) rfl) sima_nil))) (sim_seq (sim_setO (i := 5) free_nil (by decide) (sim_call rfl mo__law_numbers (sima_val (sim_varO (i := 3) rfl) sima_nil))) (sim_seq (sim_if (simt_not (simt_B (sim_call rfl mo__law_same_4 (sima_val (sim_call rfl mo_apart_lots (sima_val (sim_varO (i := 4) rfl) sima_nil)) (sima_val (sim_varO (i := 5) rfl) sima_nil))))) (sim_ret sim_bl) sim_next) (sim_seq (sim_setO (i := 6) free_nil (by decide) (sim_call rfl mo__law_draw (sima_dice (i := 1) rfl (sima_val sim_int sima_nil)))) (sim_if (simt_not (simt_B (sim_call rfl mo__law_whole (sima_val (sim_call rfl mo_many_rows (sima_val (sim_varO (i := 4) rfl) (sima_val (sim_varO (i := 6) rfl) sima_nil))) (sima_val (sim_call rfl mo__law_by_sums (sima_val (sim_varO (i := 5) rfl) (sima_val (sim_varO (i := 6) rfl) sima_nil))) sima_nil))))) (sim_ret sim_bl) sim_next)))))) rfl) (sim_seq (sim_setO (i := 3) free_nil (by decide) (sim_call rfl mo__law_parts (sima_dice (i := 1) rfl (sima_val sim_int sima_nil)))) (sim_seq (sim_setO (i := 3) free_nil (by decide) (sim_tup (siml_cons (A := .own) (B := .own) (sim_imm (sim_part so_ix (sim_varO (i := 3) rfl) sim_int)) (siml_cons (A := .own) (B := .own) (sim_sl (sim_part so_ix (sim_varO (i := 3) rfl) sim_int) simo_no (simo_yes sim_int)) siml_nil)))) (sim_seq (sim_for (Γl := [.x, .q, .x, .o, .x, .x, .x, .x, .x, .x]) (simi_rng1 sim_int) rfl rfl (simg_name (i := 6) free_nil (by decide) (by decide)) (sim_seq (sim_setO (i := 7) free_nil (by decide) (sim_lc (Γf := [.x, .q, .x, .o, .x, .x, .f, .x, .x, .x]) (ws := [9]) (ks := [9]) (by intro k hk; exact free_nil) (simi_seq (sim_call rfl mo__law_rows_to (sima_val (sim_varO (i := 3) rfl) (sima_val (sim_varF (i := 6) rfl) sima_nil)))) rfl rfl (simg_name (i := 9) free_nil (by decide) (by decide)) (by decide) (simt_test (sim_op so_eq (sim_call1 sc_lenA (sim_varF (i := 9) rfl)) (sim_varF (i := 6) rfl))) (sim_imm (sim_varF (i := 9) rfl)))) (sim_seq (sim_setO (i := 8) free_nil (by decide) (sim_call1 sc_lenN (sim_dictPN (sim_lc (Γf := [.x, .q, .x, .o, .x, .x, .f, .f, .x, .x]) (ws := [9]) (ks := [9]) (by intro k hk; exact free_nil) (simi_seq (sim_varO (i := 7) rfl)) rfl rfl (simg_name (i := 9) free_nil (by decide) (by decide)) (by decide) simt_yes (sim_tup (siml_cons (A := .own) (B := .own) (sim_call rfl mo__law_logs (sima_val (sim_varO (i := 3) rfl) (sima_val (sim_varF (i := 9) rfl) sima_nil))) (siml_cons (A := .own) (B := .own) sim_bl siml_nil))))))) (sim_if (simt_not (simt_B (sim_call rfl mo__law_whole (sima_val (sim_call rfl mo_many_rows (sima_val (sim_call rfl mo__law_made (sima_val (sim_varO (i := 3) rfl) sima_nil)) (sima_val (sim_varF (i := 6) rfl) sima_nil))) (sima_val (sim_varO (i := 8) rfl) sima_nil))))) (sim_ret sim_bl) sim_next))) rfl) (sim_ret (sim_call rfl mo__law_known_right_2 (sima_dice (i := 1) rfl sima_nil))))))
end
theorem all_mk {l : PySem.W.OpenLaw} {w : World} {K : PySem.W.Frag} {h : Heap} {mg : Str → Option Value} {fa f_is_integer f_is_number f_is_below f_is_lot f_are_office_works f_works_meet f_check_length f_lots_apart f_apart_lots f_many_of_length f_many_rows f__law_dice f__law_draw f__law_parts f__law_made f__law_some_parts f__law_meets f__law_whole f__law_same f__law_rows_to f__law_logs f__law_apart f__law_numbers f__law_by_sums f__law_known_right f_law C_Office f_Office_init : Addr}
    {od_is_integer an_is_integer : Option Addr} {sl_is_integer : Array (Option Value)} {oc_is_integer kV_is_integer dc_is_integer pm_is_integer cd_is_integer ct_is_integer : Value}
    {od_is_number an_is_number : Option Addr} {sl_is_number : Array (Option Value)} {oc_is_number kV_is_number dc_is_number pm_is_number cd_is_number ct_is_number : Value}
    {od_is_below an_is_below : Option Addr} {sl_is_below : Array (Option Value)} {oc_is_below kV_is_below dc_is_below pm_is_below cd_is_below ct_is_below : Value}
    {od_is_lot an_is_lot : Option Addr} {sl_is_lot : Array (Option Value)} {oc_is_lot kV_is_lot dc_is_lot pm_is_lot cd_is_lot ct_is_lot : Value}
    {od_are_office_works an_are_office_works : Option Addr} {sl_are_office_works : Array (Option Value)} {oc_are_office_works kV_are_office_works dc_are_office_works pm_are_office_works cd_are_office_works ct_are_office_works : Value}
    {od_works_meet an_works_meet : Option Addr} {sl_works_meet : Array (Option Value)} {oc_works_meet kV_works_meet dc_works_meet pm_works_meet cd_works_meet ct_works_meet : Value}
    {od_check_length an_check_length : Option Addr} {sl_check_length : Array (Option Value)} {oc_check_length kV_check_length dc_check_length pm_check_length cd_check_length ct_check_length : Value}
    {od_lots_apart an_lots_apart : Option Addr} {sl_lots_apart : Array (Option Value)} {oc_lots_apart kV_lots_apart dc_lots_apart pm_lots_apart cd_lots_apart ct_lots_apart : Value}
    {od_apart_lots an_apart_lots : Option Addr} {sl_apart_lots : Array (Option Value)} {oc_apart_lots kV_apart_lots dc_apart_lots pm_apart_lots cd_apart_lots ct_apart_lots : Value}
    {od_many_of_length an_many_of_length : Option Addr} {sl_many_of_length : Array (Option Value)} {oc_many_of_length kV_many_of_length dc_many_of_length pm_many_of_length cd_many_of_length ct_many_of_length : Value}
    {od_many_rows an_many_rows : Option Addr} {sl_many_rows : Array (Option Value)} {oc_many_rows kV_many_rows dc_many_rows pm_many_rows cd_many_rows ct_many_rows : Value}
    {od__law_dice an__law_dice : Option Addr} {sl__law_dice : Array (Option Value)} {oc__law_dice kV__law_dice dc__law_dice pm__law_dice cd__law_dice ct__law_dice : Value}
    {od__law_draw an__law_draw : Option Addr} {sl__law_draw : Array (Option Value)} {oc__law_draw kV__law_draw dc__law_draw pm__law_draw cd__law_draw ct__law_draw : Value}
    {od__law_parts an__law_parts : Option Addr} {sl__law_parts : Array (Option Value)} {oc__law_parts kV__law_parts dc__law_parts pm__law_parts cd__law_parts ct__law_parts : Value}
    {od__law_made an__law_made : Option Addr} {sl__law_made : Array (Option Value)} {oc__law_made kV__law_made dc__law_made pm__law_made cd__law_made ct__law_made : Value}
    {od__law_some_parts an__law_some_parts : Option Addr} {sl__law_some_parts : Array (Option Value)} {oc__law_some_parts kV__law_some_parts dc__law_some_parts pm__law_some_parts cd__law_some_parts ct__law_some_parts : Value}
    {od__law_meets an__law_meets : Option Addr} {sl__law_meets : Array (Option Value)} {oc__law_meets kV__law_meets dc__law_meets pm__law_meets cd__law_meets ct__law_meets : Value}
    {od__law_whole an__law_whole : Option Addr} {sl__law_whole : Array (Option Value)} {oc__law_whole kV__law_whole dc__law_whole pm__law_whole cd__law_whole ct__law_whole : Value}
    {od__law_same an__law_same : Option Addr} {sl__law_same : Array (Option Value)} {oc__law_same kV__law_same dc__law_same pm__law_same cd__law_same ct__law_same : Value}
    {od__law_rows_to an__law_rows_to : Option Addr} {sl__law_rows_to : Array (Option Value)} {oc__law_rows_to kV__law_rows_to dc__law_rows_to pm__law_rows_to cd__law_rows_to ct__law_rows_to : Value}
    {od__law_logs an__law_logs : Option Addr} {sl__law_logs : Array (Option Value)} {oc__law_logs kV__law_logs dc__law_logs pm__law_logs cd__law_logs ct__law_logs : Value}
    {od__law_apart an__law_apart : Option Addr} {sl__law_apart : Array (Option Value)} {oc__law_apart kV__law_apart dc__law_apart pm__law_apart cd__law_apart ct__law_apart : Value}
    {od__law_numbers an__law_numbers : Option Addr} {sl__law_numbers : Array (Option Value)} {oc__law_numbers kV__law_numbers dc__law_numbers pm__law_numbers cd__law_numbers ct__law_numbers : Value}
    {od__law_by_sums an__law_by_sums : Option Addr} {sl__law_by_sums : Array (Option Value)} {oc__law_by_sums kV__law_by_sums dc__law_by_sums pm__law_by_sums cd__law_by_sums ct__law_by_sums : Value}
    {od__law_known_right an__law_known_right : Option Addr} {sl__law_known_right : Array (Option Value)} {oc__law_known_right kV__law_known_right dc__law_known_right pm__law_known_right cd__law_known_right ct__law_known_right : Value}
    {od_law an_law : Option Addr} {sl_law : Array (Option Value)} {oc_law kV_law dc_law pm_law cd_law ct_law : Value}
    {od_Office_init an_Office_init : Option Addr} {sl_Office_init : Array (Option Value)} {oc_Office_init kV_Office_init dc_Office_init pm_Office_init cd_Office_init ct_Office_init : Value}
    {t_MOST_DESKS : Tok}
    {t_MOST_LENGTH : Tok}
    {t_MOST_WORKS : Tok}
    (X : K.In h) (G : h.Ns mainGlobals mg) (hfa : mg "law" = some (.ref fa))
    (a_is_integer : PySem.W.nsIn K mainGlobals "is_integer" = some (some (.ref f_is_integer)))
    (l_is_integer : K.lookup f_is_integer = some ⟨oc_is_integer, od_is_integer, .func (PySem.W.fnOf "is_integer" "is_integer" (defArgs s_is_integer) (defBody s_is_integer) (defScope s_is_integer) .none kV_is_integer dc_is_integer pm_is_integer an_is_integer cd_is_integer ct_is_integer), sl_is_integer⟩)
    (c_is_integer : PySem.W.codeIn K cd_is_integer "is_integer" = true)
    (k_is_integer : PySem.W.keepIn K (.ref f_is_integer) = true)
    (a_is_number : PySem.W.nsIn K mainGlobals "is_number" = some (some (.ref f_is_number)))
    (l_is_number : K.lookup f_is_number = some ⟨oc_is_number, od_is_number, .func (PySem.W.fnOf "is_number" "is_number" (defArgs s_is_number) (defBody s_is_number) (defScope s_is_number) .none kV_is_number dc_is_number pm_is_number an_is_number cd_is_number ct_is_number), sl_is_number⟩)
    (c_is_number : PySem.W.codeIn K cd_is_number "is_number" = true)
    (k_is_number : PySem.W.keepIn K (.ref f_is_number) = true)
    (a_is_below : PySem.W.nsIn K mainGlobals "is_below" = some (some (.ref f_is_below)))
    (l_is_below : K.lookup f_is_below = some ⟨oc_is_below, od_is_below, .func (PySem.W.fnOf "is_below" "is_below" (defArgs s_is_below) (defBody s_is_below) (defScope s_is_below) .none kV_is_below dc_is_below pm_is_below an_is_below cd_is_below ct_is_below), sl_is_below⟩)
    (c_is_below : PySem.W.codeIn K cd_is_below "is_below" = true)
    (k_is_below : PySem.W.keepIn K (.ref f_is_below) = true)
    (a_is_lot : PySem.W.nsIn K mainGlobals "is_lot" = some (some (.ref f_is_lot)))
    (l_is_lot : K.lookup f_is_lot = some ⟨oc_is_lot, od_is_lot, .func (PySem.W.fnOf "is_lot" "is_lot" (defArgs s_is_lot) (defBody s_is_lot) (defScope s_is_lot) .none kV_is_lot dc_is_lot pm_is_lot an_is_lot cd_is_lot ct_is_lot), sl_is_lot⟩)
    (c_is_lot : PySem.W.codeIn K cd_is_lot "is_lot" = true)
    (k_is_lot : PySem.W.keepIn K (.ref f_is_lot) = true)
    (a_are_office_works : PySem.W.nsIn K mainGlobals "are_office_works" = some (some (.ref f_are_office_works)))
    (l_are_office_works : K.lookup f_are_office_works = some ⟨oc_are_office_works, od_are_office_works, .func (PySem.W.fnOf "are_office_works" "are_office_works" (defArgs s_are_office_works) (defBody s_are_office_works) (defScope s_are_office_works) .none kV_are_office_works dc_are_office_works pm_are_office_works an_are_office_works cd_are_office_works ct_are_office_works), sl_are_office_works⟩)
    (c_are_office_works : PySem.W.codeIn K cd_are_office_works "are_office_works" = true)
    (k_are_office_works : PySem.W.keepIn K (.ref f_are_office_works) = true)
    (a_works_meet : PySem.W.nsIn K mainGlobals "works_meet" = some (some (.ref f_works_meet)))
    (l_works_meet : K.lookup f_works_meet = some ⟨oc_works_meet, od_works_meet, .func (PySem.W.fnOf "works_meet" "works_meet" (defArgs s_works_meet) (defBody s_works_meet) (defScope s_works_meet) .none kV_works_meet dc_works_meet pm_works_meet an_works_meet cd_works_meet ct_works_meet), sl_works_meet⟩)
    (c_works_meet : PySem.W.codeIn K cd_works_meet "works_meet" = true)
    (k_works_meet : PySem.W.keepIn K (.ref f_works_meet) = true)
    (a_check_length : PySem.W.nsIn K mainGlobals "check_length" = some (some (.ref f_check_length)))
    (l_check_length : K.lookup f_check_length = some ⟨oc_check_length, od_check_length, .func (PySem.W.fnOf "check_length" "check_length" (defArgs s_check_length) (defBody s_check_length) (defScope s_check_length) .none kV_check_length dc_check_length pm_check_length an_check_length cd_check_length ct_check_length), sl_check_length⟩)
    (c_check_length : PySem.W.codeIn K cd_check_length "check_length" = true)
    (k_check_length : PySem.W.keepIn K (.ref f_check_length) = true)
    (a_lots_apart : PySem.W.nsIn K mainGlobals "lots_apart" = some (some (.ref f_lots_apart)))
    (l_lots_apart : K.lookup f_lots_apart = some ⟨oc_lots_apart, od_lots_apart, .func (PySem.W.fnOf "lots_apart" "lots_apart" (defArgs s_lots_apart) (defBody s_lots_apart) (defScope s_lots_apart) .none kV_lots_apart dc_lots_apart pm_lots_apart an_lots_apart cd_lots_apart ct_lots_apart), sl_lots_apart⟩)
    (c_lots_apart : PySem.W.codeIn K cd_lots_apart "lots_apart" = true)
    (k_lots_apart : PySem.W.keepIn K (.ref f_lots_apart) = true)
    (a_apart_lots : PySem.W.nsIn K mainGlobals "apart_lots" = some (some (.ref f_apart_lots)))
    (l_apart_lots : K.lookup f_apart_lots = some ⟨oc_apart_lots, od_apart_lots, .func (PySem.W.fnOf "apart_lots" "apart_lots" (defArgs s_apart_lots) (defBody s_apart_lots) (defScope s_apart_lots) .none kV_apart_lots dc_apart_lots pm_apart_lots an_apart_lots cd_apart_lots ct_apart_lots), sl_apart_lots⟩)
    (c_apart_lots : PySem.W.codeIn K cd_apart_lots "apart_lots" = true)
    (k_apart_lots : PySem.W.keepIn K (.ref f_apart_lots) = true)
    (a_many_of_length : PySem.W.nsIn K mainGlobals "many_of_length" = some (some (.ref f_many_of_length)))
    (l_many_of_length : K.lookup f_many_of_length = some ⟨oc_many_of_length, od_many_of_length, .func (PySem.W.fnOf "many_of_length" "many_of_length" (defArgs s_many_of_length) (defBody s_many_of_length) (defScope s_many_of_length) .none kV_many_of_length dc_many_of_length pm_many_of_length an_many_of_length cd_many_of_length ct_many_of_length), sl_many_of_length⟩)
    (c_many_of_length : PySem.W.codeIn K cd_many_of_length "many_of_length" = true)
    (k_many_of_length : PySem.W.keepIn K (.ref f_many_of_length) = true)
    (a_many_rows : PySem.W.nsIn K mainGlobals "many_rows" = some (some (.ref f_many_rows)))
    (l_many_rows : K.lookup f_many_rows = some ⟨oc_many_rows, od_many_rows, .func (PySem.W.fnOf "many_rows" "many_rows" (defArgs s_many_rows) (defBody s_many_rows) (defScope s_many_rows) .none kV_many_rows dc_many_rows pm_many_rows an_many_rows cd_many_rows ct_many_rows), sl_many_rows⟩)
    (c_many_rows : PySem.W.codeIn K cd_many_rows "many_rows" = true)
    (k_many_rows : PySem.W.keepIn K (.ref f_many_rows) = true)
    (a__law_dice : PySem.W.nsIn K mainGlobals "_law_dice" = some (some (.ref f__law_dice)))
    (l__law_dice : K.lookup f__law_dice = some ⟨oc__law_dice, od__law_dice, .func (PySem.W.fnOf "_law_dice" "_law_dice" (defArgs s__law_dice) (defBody s__law_dice) (defScope s__law_dice) .none kV__law_dice dc__law_dice pm__law_dice an__law_dice cd__law_dice ct__law_dice), sl__law_dice⟩)
    (c__law_dice : PySem.W.codeIn K cd__law_dice "_law_dice" = true)
    (k__law_dice : PySem.W.keepIn K (.ref f__law_dice) = true)
    (a__law_draw : PySem.W.nsIn K mainGlobals "_law_draw" = some (some (.ref f__law_draw)))
    (l__law_draw : K.lookup f__law_draw = some ⟨oc__law_draw, od__law_draw, .func (PySem.W.fnOf "_law_draw" "_law_draw" (defArgs s__law_draw) (defBody s__law_draw) (defScope s__law_draw) .none kV__law_draw dc__law_draw pm__law_draw an__law_draw cd__law_draw ct__law_draw), sl__law_draw⟩)
    (c__law_draw : PySem.W.codeIn K cd__law_draw "_law_draw" = true)
    (k__law_draw : PySem.W.keepIn K (.ref f__law_draw) = true)
    (a__law_parts : PySem.W.nsIn K mainGlobals "_law_parts" = some (some (.ref f__law_parts)))
    (l__law_parts : K.lookup f__law_parts = some ⟨oc__law_parts, od__law_parts, .func (PySem.W.fnOf "_law_parts" "_law_parts" (defArgs s__law_parts) (defBody s__law_parts) (defScope s__law_parts) .none kV__law_parts dc__law_parts pm__law_parts an__law_parts cd__law_parts ct__law_parts), sl__law_parts⟩)
    (c__law_parts : PySem.W.codeIn K cd__law_parts "_law_parts" = true)
    (k__law_parts : PySem.W.keepIn K (.ref f__law_parts) = true)
    (a__law_made : PySem.W.nsIn K mainGlobals "_law_made" = some (some (.ref f__law_made)))
    (l__law_made : K.lookup f__law_made = some ⟨oc__law_made, od__law_made, .func (PySem.W.fnOf "_law_made" "_law_made" (defArgs s__law_made) (defBody s__law_made) (defScope s__law_made) .none kV__law_made dc__law_made pm__law_made an__law_made cd__law_made ct__law_made), sl__law_made⟩)
    (c__law_made : PySem.W.codeIn K cd__law_made "_law_made" = true)
    (k__law_made : PySem.W.keepIn K (.ref f__law_made) = true)
    (a__law_some_parts : PySem.W.nsIn K mainGlobals "_law_some_parts" = some (some (.ref f__law_some_parts)))
    (l__law_some_parts : K.lookup f__law_some_parts = some ⟨oc__law_some_parts, od__law_some_parts, .func (PySem.W.fnOf "_law_some_parts" "_law_some_parts" (defArgs s__law_some_parts) (defBody s__law_some_parts) (defScope s__law_some_parts) .none kV__law_some_parts dc__law_some_parts pm__law_some_parts an__law_some_parts cd__law_some_parts ct__law_some_parts), sl__law_some_parts⟩)
    (c__law_some_parts : PySem.W.codeIn K cd__law_some_parts "_law_some_parts" = true)
    (k__law_some_parts : PySem.W.keepIn K (.ref f__law_some_parts) = true)
    (a__law_meets : PySem.W.nsIn K mainGlobals "_law_meets" = some (some (.ref f__law_meets)))
    (l__law_meets : K.lookup f__law_meets = some ⟨oc__law_meets, od__law_meets, .func (PySem.W.fnOf "_law_meets" "_law_meets" (defArgs s__law_meets) (defBody s__law_meets) (defScope s__law_meets) .none kV__law_meets dc__law_meets pm__law_meets an__law_meets cd__law_meets ct__law_meets), sl__law_meets⟩)
    (c__law_meets : PySem.W.codeIn K cd__law_meets "_law_meets" = true)
    (k__law_meets : PySem.W.keepIn K (.ref f__law_meets) = true)
    (a__law_whole : PySem.W.nsIn K mainGlobals "_law_whole" = some (some (.ref f__law_whole)))
    (l__law_whole : K.lookup f__law_whole = some ⟨oc__law_whole, od__law_whole, .func (PySem.W.fnOf "_law_whole" "_law_whole" (defArgs s__law_whole) (defBody s__law_whole) (defScope s__law_whole) .none kV__law_whole dc__law_whole pm__law_whole an__law_whole cd__law_whole ct__law_whole), sl__law_whole⟩)
    (c__law_whole : PySem.W.codeIn K cd__law_whole "_law_whole" = true)
    (k__law_whole : PySem.W.keepIn K (.ref f__law_whole) = true)
    (a__law_same : PySem.W.nsIn K mainGlobals "_law_same" = some (some (.ref f__law_same)))
    (l__law_same : K.lookup f__law_same = some ⟨oc__law_same, od__law_same, .func (PySem.W.fnOf "_law_same" "_law_same" (defArgs s__law_same) (defBody s__law_same) (defScope s__law_same) .none kV__law_same dc__law_same pm__law_same an__law_same cd__law_same ct__law_same), sl__law_same⟩)
    (c__law_same : PySem.W.codeIn K cd__law_same "_law_same" = true)
    (k__law_same : PySem.W.keepIn K (.ref f__law_same) = true)
    (a__law_rows_to : PySem.W.nsIn K mainGlobals "_law_rows_to" = some (some (.ref f__law_rows_to)))
    (l__law_rows_to : K.lookup f__law_rows_to = some ⟨oc__law_rows_to, od__law_rows_to, .func (PySem.W.fnOf "_law_rows_to" "_law_rows_to" (defArgs s__law_rows_to) (defBody s__law_rows_to) (defScope s__law_rows_to) .none kV__law_rows_to dc__law_rows_to pm__law_rows_to an__law_rows_to cd__law_rows_to ct__law_rows_to), sl__law_rows_to⟩)
    (c__law_rows_to : PySem.W.codeIn K cd__law_rows_to "_law_rows_to" = true)
    (k__law_rows_to : PySem.W.keepIn K (.ref f__law_rows_to) = true)
    (a__law_logs : PySem.W.nsIn K mainGlobals "_law_logs" = some (some (.ref f__law_logs)))
    (l__law_logs : K.lookup f__law_logs = some ⟨oc__law_logs, od__law_logs, .func (PySem.W.fnOf "_law_logs" "_law_logs" (defArgs s__law_logs) (defBody s__law_logs) (defScope s__law_logs) .none kV__law_logs dc__law_logs pm__law_logs an__law_logs cd__law_logs ct__law_logs), sl__law_logs⟩)
    (c__law_logs : PySem.W.codeIn K cd__law_logs "_law_logs" = true)
    (k__law_logs : PySem.W.keepIn K (.ref f__law_logs) = true)
    (a__law_apart : PySem.W.nsIn K mainGlobals "_law_apart" = some (some (.ref f__law_apart)))
    (l__law_apart : K.lookup f__law_apart = some ⟨oc__law_apart, od__law_apart, .func (PySem.W.fnOf "_law_apart" "_law_apart" (defArgs s__law_apart) (defBody s__law_apart) (defScope s__law_apart) .none kV__law_apart dc__law_apart pm__law_apart an__law_apart cd__law_apart ct__law_apart), sl__law_apart⟩)
    (c__law_apart : PySem.W.codeIn K cd__law_apart "_law_apart" = true)
    (k__law_apart : PySem.W.keepIn K (.ref f__law_apart) = true)
    (a__law_numbers : PySem.W.nsIn K mainGlobals "_law_numbers" = some (some (.ref f__law_numbers)))
    (l__law_numbers : K.lookup f__law_numbers = some ⟨oc__law_numbers, od__law_numbers, .func (PySem.W.fnOf "_law_numbers" "_law_numbers" (defArgs s__law_numbers) (defBody s__law_numbers) (defScope s__law_numbers) .none kV__law_numbers dc__law_numbers pm__law_numbers an__law_numbers cd__law_numbers ct__law_numbers), sl__law_numbers⟩)
    (c__law_numbers : PySem.W.codeIn K cd__law_numbers "_law_numbers" = true)
    (k__law_numbers : PySem.W.keepIn K (.ref f__law_numbers) = true)
    (a__law_by_sums : PySem.W.nsIn K mainGlobals "_law_by_sums" = some (some (.ref f__law_by_sums)))
    (l__law_by_sums : K.lookup f__law_by_sums = some ⟨oc__law_by_sums, od__law_by_sums, .func (PySem.W.fnOf "_law_by_sums" "_law_by_sums" (defArgs s__law_by_sums) (defBody s__law_by_sums) (defScope s__law_by_sums) .none kV__law_by_sums dc__law_by_sums pm__law_by_sums an__law_by_sums cd__law_by_sums ct__law_by_sums), sl__law_by_sums⟩)
    (c__law_by_sums : PySem.W.codeIn K cd__law_by_sums "_law_by_sums" = true)
    (k__law_by_sums : PySem.W.keepIn K (.ref f__law_by_sums) = true)
    (a__law_known_right : PySem.W.nsIn K mainGlobals "_law_known_right" = some (some (.ref f__law_known_right)))
    (l__law_known_right : K.lookup f__law_known_right = some ⟨oc__law_known_right, od__law_known_right, .func (PySem.W.fnOf "_law_known_right" "_law_known_right" (defArgs s__law_known_right) (defBody s__law_known_right) (defScope s__law_known_right) .none kV__law_known_right dc__law_known_right pm__law_known_right an__law_known_right cd__law_known_right ct__law_known_right), sl__law_known_right⟩)
    (c__law_known_right : PySem.W.codeIn K cd__law_known_right "_law_known_right" = true)
    (k__law_known_right : PySem.W.keepIn K (.ref f__law_known_right) = true)
    (a_law : PySem.W.nsIn K mainGlobals "law" = some (some (.ref f_law)))
    (l_law : K.lookup f_law = some ⟨oc_law, od_law, .func (PySem.W.fnOf "law" "law" (defArgs s_law) (defBody s_law) (defScope s_law) .none kV_law dc_law pm_law an_law cd_law ct_law), sl_law⟩)
    (c_law : PySem.W.codeIn K cd_law "law" = true)
    (k_law : PySem.W.keepIn K (.ref f_law) = true)
    (a_Office : PySem.W.nsIn K mainGlobals "Office" = some (some (.ref C_Office)))
    (i_Office : PySem.W.findIn K (.ref C_Office) "__init__" = some (some (.ref f_Office_init)))
    (j_Office : PySem.W.isFn K (.ref f_Office_init) = true)
    (l_Office_init : K.lookup f_Office_init = some ⟨oc_Office_init, od_Office_init, .func (PySem.W.fnOf "__init__" "Office.__init__" (defArgs s_Office_init) (defBody s_Office_init) (defScope s_Office_init) .none kV_Office_init dc_Office_init pm_Office_init an_Office_init cd_Office_init ct_Office_init), sl_Office_init⟩)
    (c_Office_init : PySem.W.codeIn K cd_Office_init "Office.__init__" = true)
    (k_Office_init : PySem.W.keepIn K (.ref f_Office_init) = true)
    (pg_Office : PySem.W.plainGet K C_Office Str.empty = true)
    (hd_Office : PySem.W.hasDictIn K C_Office = true)
    (po_Office : PySem.W.plainOver K C_Office = true)
    (sa_Office : PySem.W.findIn K (.ref C_Office) "__setattr__" = some (some (.builtin "object.__setattr__")))
    (mk_Office : PySem.W.makesIn K C_Office = true)
    (kc_Office : PySem.W.keepIn K (.ref C_Office) = true)
    (na_Office_desks : PySem.W.findIn K (.ref C_Office) "desks" = some none)
    (na_Office_works : PySem.W.findIn K (.ref C_Office) "works" = some none)
    (n_abs : PySem.W.nsIn K mainGlobals "abs" = some none)
    (n_all : PySem.W.nsIn K mainGlobals "all" = some none)
    (n_any : PySem.W.nsIn K mainGlobals "any" = some none)
    (n_bool : PySem.W.nsIn K mainGlobals "bool" = some none)
    (n_dict : PySem.W.nsIn K mainGlobals "dict" = some none)
    (n_int : PySem.W.nsIn K mainGlobals "int" = some none)
    (n_isinstance : PySem.W.nsIn K mainGlobals "isinstance" = some none)
    (n_len : PySem.W.nsIn K mainGlobals "len" = some none)
    (n_list : PySem.W.nsIn K mainGlobals "list" = some none)
    (n_max : PySem.W.nsIn K mainGlobals "max" = some none)
    (n_min : PySem.W.nsIn K mainGlobals "min" = some none)
    (n_range : PySem.W.nsIn K mainGlobals "range" = some none)
    (n_sorted : PySem.W.nsIn K mainGlobals "sorted" = some none)
    (n_str : PySem.W.nsIn K mainGlobals "str" = some none)
    (n_tuple : PySem.W.nsIn K mainGlobals "tuple" = some none)
    (n_zip : PySem.W.nsIn K mainGlobals "zip" = some none)
    (a_MOST_DESKS : PySem.W.nsIn K mainGlobals "MOST_DESKS" = some (some (.int (6) t_MOST_DESKS)))
    (a_MOST_LENGTH : PySem.W.nsIn K mainGlobals "MOST_LENGTH" = some (some (.int (60) t_MOST_LENGTH)))
    (a_MOST_WORKS : PySem.W.nsIn K mainGlobals "MOST_WORKS" = some (some (.int (10) t_MOST_WORKS)))
    (hp : b_law_k84 lawEnds (List.replicate 10 none)) :
    ∃ fd : FuncData, (∀ (s : Shared) (v : Value), BindsTo s fd ⟨[v], []⟩ [("script", v)]) ∧ ∀ base : Heap, K.In base → base.Ns mainGlobals mg → FnOk l.prog w K mg base CX0 10 fa fd ["script"] (spLaw K) := by
  have e := hfa.symm.trans (PySem.W.mg_of X G a_law)
  cases e
  let T : Facts K mg := {
    f_is_integer := f_is_integer,
    fd_is_integer := PySem.W.fnOf "is_integer" "is_integer" (defArgs s_is_integer) (defBody s_is_integer) (defScope s_is_integer) .none kV_is_integer dc_is_integer pm_is_integer an_is_integer cd_is_integer ct_is_integer,
    F_is_integer := fun_mk (st := s_is_integer) l_is_integer c_is_integer k_is_integer,
    m_is_integer := PySem.W.mg_of X G a_is_integer,
    f_is_number := f_is_number,
    fd_is_number := PySem.W.fnOf "is_number" "is_number" (defArgs s_is_number) (defBody s_is_number) (defScope s_is_number) .none kV_is_number dc_is_number pm_is_number an_is_number cd_is_number ct_is_number,
    F_is_number := fun_mk (st := s_is_number) l_is_number c_is_number k_is_number,
    m_is_number := PySem.W.mg_of X G a_is_number,
    f_is_below := f_is_below,
    fd_is_below := PySem.W.fnOf "is_below" "is_below" (defArgs s_is_below) (defBody s_is_below) (defScope s_is_below) .none kV_is_below dc_is_below pm_is_below an_is_below cd_is_below ct_is_below,
    F_is_below := fun_mk (st := s_is_below) l_is_below c_is_below k_is_below,
    m_is_below := PySem.W.mg_of X G a_is_below,
    f_is_lot := f_is_lot,
    fd_is_lot := PySem.W.fnOf "is_lot" "is_lot" (defArgs s_is_lot) (defBody s_is_lot) (defScope s_is_lot) .none kV_is_lot dc_is_lot pm_is_lot an_is_lot cd_is_lot ct_is_lot,
    F_is_lot := fun_mk (st := s_is_lot) l_is_lot c_is_lot k_is_lot,
    m_is_lot := PySem.W.mg_of X G a_is_lot,
    f_are_office_works := f_are_office_works,
    fd_are_office_works := PySem.W.fnOf "are_office_works" "are_office_works" (defArgs s_are_office_works) (defBody s_are_office_works) (defScope s_are_office_works) .none kV_are_office_works dc_are_office_works pm_are_office_works an_are_office_works cd_are_office_works ct_are_office_works,
    F_are_office_works := fun_mk (st := s_are_office_works) l_are_office_works c_are_office_works k_are_office_works,
    m_are_office_works := PySem.W.mg_of X G a_are_office_works,
    f_works_meet := f_works_meet,
    fd_works_meet := PySem.W.fnOf "works_meet" "works_meet" (defArgs s_works_meet) (defBody s_works_meet) (defScope s_works_meet) .none kV_works_meet dc_works_meet pm_works_meet an_works_meet cd_works_meet ct_works_meet,
    F_works_meet := fun_mk (st := s_works_meet) l_works_meet c_works_meet k_works_meet,
    m_works_meet := PySem.W.mg_of X G a_works_meet,
    f_check_length := f_check_length,
    fd_check_length := PySem.W.fnOf "check_length" "check_length" (defArgs s_check_length) (defBody s_check_length) (defScope s_check_length) .none kV_check_length dc_check_length pm_check_length an_check_length cd_check_length ct_check_length,
    F_check_length := fun_mk (st := s_check_length) l_check_length c_check_length k_check_length,
    m_check_length := PySem.W.mg_of X G a_check_length,
    f_lots_apart := f_lots_apart,
    fd_lots_apart := PySem.W.fnOf "lots_apart" "lots_apart" (defArgs s_lots_apart) (defBody s_lots_apart) (defScope s_lots_apart) .none kV_lots_apart dc_lots_apart pm_lots_apart an_lots_apart cd_lots_apart ct_lots_apart,
    F_lots_apart := fun_mk (st := s_lots_apart) l_lots_apart c_lots_apart k_lots_apart,
    m_lots_apart := PySem.W.mg_of X G a_lots_apart,
    f_apart_lots := f_apart_lots,
    fd_apart_lots := PySem.W.fnOf "apart_lots" "apart_lots" (defArgs s_apart_lots) (defBody s_apart_lots) (defScope s_apart_lots) .none kV_apart_lots dc_apart_lots pm_apart_lots an_apart_lots cd_apart_lots ct_apart_lots,
    F_apart_lots := fun_mk (st := s_apart_lots) l_apart_lots c_apart_lots k_apart_lots,
    m_apart_lots := PySem.W.mg_of X G a_apart_lots,
    f_many_of_length := f_many_of_length,
    fd_many_of_length := PySem.W.fnOf "many_of_length" "many_of_length" (defArgs s_many_of_length) (defBody s_many_of_length) (defScope s_many_of_length) .none kV_many_of_length dc_many_of_length pm_many_of_length an_many_of_length cd_many_of_length ct_many_of_length,
    F_many_of_length := fun_mk (st := s_many_of_length) l_many_of_length c_many_of_length k_many_of_length,
    m_many_of_length := PySem.W.mg_of X G a_many_of_length,
    f_many_rows := f_many_rows,
    fd_many_rows := PySem.W.fnOf "many_rows" "many_rows" (defArgs s_many_rows) (defBody s_many_rows) (defScope s_many_rows) .none kV_many_rows dc_many_rows pm_many_rows an_many_rows cd_many_rows ct_many_rows,
    F_many_rows := fun_mk (st := s_many_rows) l_many_rows c_many_rows k_many_rows,
    m_many_rows := PySem.W.mg_of X G a_many_rows,
    f__law_dice := f__law_dice,
    fd__law_dice := PySem.W.fnOf "_law_dice" "_law_dice" (defArgs s__law_dice) (defBody s__law_dice) (defScope s__law_dice) .none kV__law_dice dc__law_dice pm__law_dice an__law_dice cd__law_dice ct__law_dice,
    F__law_dice := fun_mk (st := s__law_dice) l__law_dice c__law_dice k__law_dice,
    m__law_dice := PySem.W.mg_of X G a__law_dice,
    f__law_draw := f__law_draw,
    fd__law_draw := PySem.W.fnOf "_law_draw" "_law_draw" (defArgs s__law_draw) (defBody s__law_draw) (defScope s__law_draw) .none kV__law_draw dc__law_draw pm__law_draw an__law_draw cd__law_draw ct__law_draw,
    F__law_draw := fun_mk (st := s__law_draw) l__law_draw c__law_draw k__law_draw,
    m__law_draw := PySem.W.mg_of X G a__law_draw,
    f__law_parts := f__law_parts,
    fd__law_parts := PySem.W.fnOf "_law_parts" "_law_parts" (defArgs s__law_parts) (defBody s__law_parts) (defScope s__law_parts) .none kV__law_parts dc__law_parts pm__law_parts an__law_parts cd__law_parts ct__law_parts,
    F__law_parts := fun_mk (st := s__law_parts) l__law_parts c__law_parts k__law_parts,
    m__law_parts := PySem.W.mg_of X G a__law_parts,
    f__law_made := f__law_made,
    fd__law_made := PySem.W.fnOf "_law_made" "_law_made" (defArgs s__law_made) (defBody s__law_made) (defScope s__law_made) .none kV__law_made dc__law_made pm__law_made an__law_made cd__law_made ct__law_made,
    F__law_made := fun_mk (st := s__law_made) l__law_made c__law_made k__law_made,
    m__law_made := PySem.W.mg_of X G a__law_made,
    f__law_some_parts := f__law_some_parts,
    fd__law_some_parts := PySem.W.fnOf "_law_some_parts" "_law_some_parts" (defArgs s__law_some_parts) (defBody s__law_some_parts) (defScope s__law_some_parts) .none kV__law_some_parts dc__law_some_parts pm__law_some_parts an__law_some_parts cd__law_some_parts ct__law_some_parts,
    F__law_some_parts := fun_mk (st := s__law_some_parts) l__law_some_parts c__law_some_parts k__law_some_parts,
    m__law_some_parts := PySem.W.mg_of X G a__law_some_parts,
    f__law_meets := f__law_meets,
    fd__law_meets := PySem.W.fnOf "_law_meets" "_law_meets" (defArgs s__law_meets) (defBody s__law_meets) (defScope s__law_meets) .none kV__law_meets dc__law_meets pm__law_meets an__law_meets cd__law_meets ct__law_meets,
    F__law_meets := fun_mk (st := s__law_meets) l__law_meets c__law_meets k__law_meets,
    m__law_meets := PySem.W.mg_of X G a__law_meets,
    f__law_whole := f__law_whole,
    fd__law_whole := PySem.W.fnOf "_law_whole" "_law_whole" (defArgs s__law_whole) (defBody s__law_whole) (defScope s__law_whole) .none kV__law_whole dc__law_whole pm__law_whole an__law_whole cd__law_whole ct__law_whole,
    F__law_whole := fun_mk (st := s__law_whole) l__law_whole c__law_whole k__law_whole,
    m__law_whole := PySem.W.mg_of X G a__law_whole,
    f__law_same := f__law_same,
    fd__law_same := PySem.W.fnOf "_law_same" "_law_same" (defArgs s__law_same) (defBody s__law_same) (defScope s__law_same) .none kV__law_same dc__law_same pm__law_same an__law_same cd__law_same ct__law_same,
    F__law_same := fun_mk (st := s__law_same) l__law_same c__law_same k__law_same,
    m__law_same := PySem.W.mg_of X G a__law_same,
    f__law_rows_to := f__law_rows_to,
    fd__law_rows_to := PySem.W.fnOf "_law_rows_to" "_law_rows_to" (defArgs s__law_rows_to) (defBody s__law_rows_to) (defScope s__law_rows_to) .none kV__law_rows_to dc__law_rows_to pm__law_rows_to an__law_rows_to cd__law_rows_to ct__law_rows_to,
    F__law_rows_to := fun_mk (st := s__law_rows_to) l__law_rows_to c__law_rows_to k__law_rows_to,
    m__law_rows_to := PySem.W.mg_of X G a__law_rows_to,
    f__law_logs := f__law_logs,
    fd__law_logs := PySem.W.fnOf "_law_logs" "_law_logs" (defArgs s__law_logs) (defBody s__law_logs) (defScope s__law_logs) .none kV__law_logs dc__law_logs pm__law_logs an__law_logs cd__law_logs ct__law_logs,
    F__law_logs := fun_mk (st := s__law_logs) l__law_logs c__law_logs k__law_logs,
    m__law_logs := PySem.W.mg_of X G a__law_logs,
    f__law_apart := f__law_apart,
    fd__law_apart := PySem.W.fnOf "_law_apart" "_law_apart" (defArgs s__law_apart) (defBody s__law_apart) (defScope s__law_apart) .none kV__law_apart dc__law_apart pm__law_apart an__law_apart cd__law_apart ct__law_apart,
    F__law_apart := fun_mk (st := s__law_apart) l__law_apart c__law_apart k__law_apart,
    m__law_apart := PySem.W.mg_of X G a__law_apart,
    f__law_numbers := f__law_numbers,
    fd__law_numbers := PySem.W.fnOf "_law_numbers" "_law_numbers" (defArgs s__law_numbers) (defBody s__law_numbers) (defScope s__law_numbers) .none kV__law_numbers dc__law_numbers pm__law_numbers an__law_numbers cd__law_numbers ct__law_numbers,
    F__law_numbers := fun_mk (st := s__law_numbers) l__law_numbers c__law_numbers k__law_numbers,
    m__law_numbers := PySem.W.mg_of X G a__law_numbers,
    f__law_by_sums := f__law_by_sums,
    fd__law_by_sums := PySem.W.fnOf "_law_by_sums" "_law_by_sums" (defArgs s__law_by_sums) (defBody s__law_by_sums) (defScope s__law_by_sums) .none kV__law_by_sums dc__law_by_sums pm__law_by_sums an__law_by_sums cd__law_by_sums ct__law_by_sums,
    F__law_by_sums := fun_mk (st := s__law_by_sums) l__law_by_sums c__law_by_sums k__law_by_sums,
    m__law_by_sums := PySem.W.mg_of X G a__law_by_sums,
    f__law_known_right := f__law_known_right,
    fd__law_known_right := PySem.W.fnOf "_law_known_right" "_law_known_right" (defArgs s__law_known_right) (defBody s__law_known_right) (defScope s__law_known_right) .none kV__law_known_right dc__law_known_right pm__law_known_right an__law_known_right cd__law_known_right ct__law_known_right,
    F__law_known_right := fun_mk (st := s__law_known_right) l__law_known_right c__law_known_right k__law_known_right,
    m__law_known_right := PySem.W.mg_of X G a__law_known_right,
    f_law := fa,
    fd_law := PySem.W.fnOf "law" "law" (defArgs s_law) (defBody s_law) (defScope s_law) .none kV_law dc_law pm_law an_law cd_law ct_law,
    F_law := fun_mk (st := s_law) l_law c_law k_law,
    m_law := PySem.W.mg_of X G a_law,
    f_Office_init := f_Office_init,
    fd_Office_init := PySem.W.fnOf "__init__" "Office.__init__" (defArgs s_Office_init) (defBody s_Office_init) (defScope s_Office_init) .none kV_Office_init dc_Office_init pm_Office_init an_Office_init cd_Office_init ct_Office_init,
    F_Office_init := fun_mk (st := s_Office_init) l_Office_init c_Office_init k_Office_init,
    C_Office := C_Office,
    m_Office := PySem.W.mg_of X G a_Office,
    mk_Office := ⟨mk_Office, i_Office, j_Office, kc_Office⟩,
    cl_Office := ⟨pg_Office, hd_Office, po_Office, sa_Office⟩,
    na_Office_desks := na_Office_desks,
    na_Office_works := na_Office_works,
    n_abs := PySem.W.mg_none_of X G n_abs,
    n_all := PySem.W.mg_none_of X G n_all,
    n_any := PySem.W.mg_none_of X G n_any,
    n_bool := PySem.W.mg_none_of X G n_bool,
    n_dict := PySem.W.mg_none_of X G n_dict,
    n_int := PySem.W.mg_none_of X G n_int,
    n_isinstance := PySem.W.mg_none_of X G n_isinstance,
    n_len := PySem.W.mg_none_of X G n_len,
    n_list := PySem.W.mg_none_of X G n_list,
    n_max := PySem.W.mg_none_of X G n_max,
    n_min := PySem.W.mg_none_of X G n_min,
    n_range := PySem.W.mg_none_of X G n_range,
    n_sorted := PySem.W.mg_none_of X G n_sorted,
    n_str := PySem.W.mg_none_of X G n_str,
    n_tuple := PySem.W.mg_none_of X G n_tuple,
    n_zip := PySem.W.mg_none_of X G n_zip,
    t_MOST_DESKS := t_MOST_DESKS,
    m_MOST_DESKS := PySem.W.mg_of X G a_MOST_DESKS,
    t_MOST_LENGTH := t_MOST_LENGTH,
    m_MOST_LENGTH := PySem.W.mg_of X G a_MOST_LENGTH,
    t_MOST_WORKS := t_MOST_WORKS,
    m_MOST_WORKS := PySem.W.mg_of X G a_MOST_WORKS }
  exact ⟨T.fd_law, fun s v => .of_eq rfl, fun base _ _ => ok_law T hp⟩
end Pu
set_option Elab.async false
set_option linter.all false
set_option maxRecDepth 100000
namespace Pu
open PySem PySem.Spec PyProof.Rows L2
abbrev FEv (mf : XF) (ds : List D) (d : D) : Prop := ∀ Q : D → Prop, Q d → mf ds Q
abbrev FP (mf : XF) (ds : List D) (P : D → Prop) : Prop := ∀ Q : D → Prop, (∀ d, P d → Q d) → mf ds Q
theorem lc_ev {i : Nat} {mt : XB} {me : X1} {env : PEnv} (t : D → Bool) (e : D → D) : ∀ (ds acc : List D) (Q : List D → Prop), acc.length + ds.length ≤ sizeLine → (∀ d ∈ ds, ∀ Q, Q (t d) → mt (env.set i (some d)) Q) → (∀ d ∈ ds, t d = true → ∀ Q : D → Prop, Q (e d) → me (env.set i (some d)) Q) →
    Q (acc ++ (ds.filter t).map e) → lcLoop (bName i) mt me env ds acc Q
  | [], acc, Q, _, _, _, q => by simpa [lcLoop] using q
  | d :: ds, acc, Q, hl, ht, he, q => by
    simp at hl
    refine ht d List.mem_cons_self _ ?_
    cases h : t d with
    | true =>
      rw [if_pos rfl]
      refine he d List.mem_cons_self h _ ⟨by omega, lc_ev t e ds _ Q (by simp; omega) (fun x hx => ht x (List.mem_cons_of_mem _ hx)) (fun x hx => he x (List.mem_cons_of_mem _ hx)) ?_⟩
      rw [List.filter_cons_of_pos h, List.map_cons] at q
      simpa using q
    | false =>
      rw [if_neg Bool.false_ne_true]
      refine lc_ev t e ds _ Q (by omega) (fun x hx => ht x (List.mem_cons_of_mem _ hx)) (fun x hx => he x (List.mem_cons_of_mem _ hx)) ?_
      rwa [List.filter_cons_of_neg (by rw [h]; decide)] at q
theorem lc_map {i : Nat} {me : X1} {env : PEnv} (e : D → D) (ds : List D) (Q : List D → Prop) (hl : ds.length ≤ sizeLine) (he : ∀ d ∈ ds, ∀ Q : D → Prop, Q (e d) → me (env.set i (some d)) Q) (q : Q (ds.map e)) : lcLoop (bName i) bYes me env ds [] Q :=
  lc_ev (fun _ => true) e ds [] Q (by simpa using hl) (fun _ _ _ q => q) (fun d hd _ => he d hd) (by rw [List.filter_eq_self.mpr fun _ _ => rfl]; simpa using q)
theorem lc_P {i : Nat} {me : X1} {env : PEnv} (P : D → Prop) : ∀ (ds acc : List D) (Q : List D → Prop), acc.length + ds.length ≤ sizeLine → (∀ d ∈ ds, ∀ Q : D → Prop, (∀ y, P y → Q y) → me (env.set i (some d)) Q) →
    (∀ ys : List D, ys.length = ds.length → (∀ y ∈ ys, P y) → Q (acc ++ ys)) → lcLoop (bName i) bYes me env ds acc Q
  | [], acc, Q, _, _, q => by simpa [lcLoop] using q [] rfl (fun _ h => nomatch h)
  | d :: ds, acc, Q, hl, he, q => by
    simp at hl
    refine he d List.mem_cons_self _ fun y hy => ⟨by omega, lc_P P ds _ Q (by simp; omega) (fun x hx => he x (List.mem_cons_of_mem _ hx)) fun ys hl hp => ?_⟩
    have := q (y :: ys) (by simp [hl]) fun z hz => by
      rcases List.mem_cons.mp hz with e | hz
      · rw [e]; exact hy
      · exact hp z hz
    simpa using this
theorem lc_F {i : Nat} {mt : XB} {me : X1} {env : PEnv} (e : D → D) : ∀ (ds acc : List D) (Q : List D → Prop), acc.length + ds.length ≤ sizeLine → (∀ d ∈ ds, ∀ Q : Bool → Prop, (∀ k, Q k) → mt (env.set i (some d)) Q) → (∀ d ∈ ds, ∀ Q : D → Prop, Q (e d) → me (env.set i (some d)) Q) →
    (∀ ys : List D, ys.Sublist ds → Q (acc ++ ys.map e)) → lcLoop (bName i) mt me env ds acc Q
  | [], acc, Q, _, _, _, q => by simpa [lcLoop] using q [] (List.Sublist.refl _)
  | d :: ds, acc, Q, hl, ht, he, q => by
    simp at hl
    refine ht d List.mem_cons_self _ fun k => ?_
    cases k with
    | true =>
      rw [if_pos rfl]
      refine he d List.mem_cons_self _ ⟨by omega, lc_F e ds _ Q (by simp; omega) (fun x hx => ht x (List.mem_cons_of_mem _ hx)) (fun x hx => he x (List.mem_cons_of_mem _ hx)) fun ys s => ?_⟩
      have := q (d :: ys) (s.cons_cons d)
      simpa using this
    | false =>
      rw [if_neg Bool.false_ne_true]
      exact lc_F e ds _ Q (by omega) (fun x hx => ht x (List.mem_cons_of_mem _ hx)) (fun x hx => he x (List.mem_cons_of_mem _ hx)) fun ys s => q ys (s.cons d)
theorem loop_ev {b : XG} {body : XS} {E : PEnds} (W : List D → PEnv → Prop) (hb : ∀ d ds env, W (d :: ds) env → b d env fun env1 => body { nx := W ds, rt := E.rt, bk := E.nx, ct := W ds } env1) (hm : ∀ d env Q Q', (∀ e, Q e → Q' e) → b d env Q → b d env Q') (hs : ∀ {E E' env}, PLe E E' → body E env → body E' env) :
    ∀ (ds : List D) (env : PEnv), W ds env → (∀ env, W [] env → E.nx env) → sLoop b body ds E env
  | [], env, w, q => q env w
  | d :: ds, env, w, q => hm _ _ _ _ (fun env1 h => hs (E := { nx := W ds, rt := E.rt, bk := E.nx, ct := W ds }) ⟨fun e we => loop_ev W hb hm hs ds e we q, fun _ z => z, fun _ z => z, fun e we => loop_ev W hb hm hs ds e we q⟩ h) (hb d ds env w)
section
variable {Q : D → Prop} {i n : Int} {ns ms : List Int}
theorem is_below_ev (h0 : 0 ≤ i) (h1 : i < n) : FEv m_is_below [.int i, .int n] (.bl true) := fun Q q => by
  have e0 : decide (0 ≤ i) = true := decide_eq_true h0
  show (if decide (0 ≤ i) = true then Q (.bl (decide (i < n))) else _)
  rw [if_pos e0, decide_eq_true h1]
  exact q
def lotOk (n : Int) : List Int → Prop
  | [] => True
  | [x] => 0 ≤ x ∧ x < n
  | x :: y :: r => 0 ≤ x ∧ x < n ∧ x < y ∧ lotOk n (y :: r)
theorem lotOk_all : ∀ {l : List Int}, lotOk n l → ∀ x ∈ l, 0 ≤ x ∧ x < n
  | [], _, x, h => nomatch h
  | [y], h, x, hx => by rw [List.mem_singleton.mp hx]; exact h
  | y :: z :: r, h, x, hx => by
    rcases List.mem_cons.mp hx with e | hx
    · rw [e]; exact ⟨h.1, h.2.1⟩
    · exact lotOk_all h.2.2.2 x hx
end
end Pu
set_option Elab.async false
set_option linter.all false
set_option maxRecDepth 100000
namespace Pu
open PySem PySem.Spec PyProof.Rows L2
section
variable {Q : D → Prop} {i n : Int} {ns ms r : List Int} {ws : List (List Int)}
def rD (r : List Int) : D := .tup (dInts r)
def wD (ws : List (List Int)) : D := .tup (rowsD ws)
def oD (n : Int) (ws : List (List Int)) : D := .fz 3 [("desks", .int n), ("works", wD ws)]
theorem dInts_len : (dInts r).length = r.length := by simp [dInts]
theorem rowsD_len : (rowsD ws).length = ws.length := by simp [rowsD]
theorem mem_dInts {d : D} (h : d ∈ dInts r) : ∃ x, x ∈ r ∧ d = .int x := by
  obtain ⟨x, hx, e⟩ := List.mem_map.mp h
  exact ⟨x, hx, e.symm⟩
theorem all_bls {ds : List D} {f : D → D} (h : ∀ d ∈ ds, f d = .bl true) (q : Q (.bl true)) : oAny true (.lst (ds.map f)) Q := by
  refine ⟨List.replicate ds.length true, ?_, ?_⟩
  · rw [List.map_replicate]
    exact List.eq_replicate_iff.mpr ⟨by simp, fun b hb => by obtain ⟨d, hd, e⟩ := List.mem_map.mp hb; rw [← e]; exact h d hd⟩
  · rw [if_pos rfl]
    rw [show (List.replicate ds.length true).all id = true by rw [List.all_eq_true]; intro x hx; exact (List.mem_replicate.mp hx).2]
    exact q
theorem pairs_lt : ∀ l : List Int, lotOk n l → ∀ d ∈ zpD (dInts l) (dInts (l.drop 1)), ∃ x y : Int, d = .tup [.int x, .int y] ∧ x < y
  | [], _, d, hd => by cases hd
  | [x], _, d, hd => by cases hd
  | x :: y :: l, h, d, hd => by
    rcases List.mem_cons.mp hd with e | hd
    · exact ⟨x, y, e, h.2.2.1⟩
    · exact pairs_lt (y :: l) h.2.2.2 d hd
theorem lc_mapB {b : XG} {me : X1} {env : PEnv} (e : D → D) : ∀ (ds acc : List D) (Q : List D → Prop), acc.length + ds.length ≤ sizeLine → (∀ d ∈ ds, ∀ R : D → Prop, R (e d) → b d env fun env1 => me env1 R) → Q (acc ++ ds.map e) → lcLoop b bYes me env ds acc Q
  | [], acc, Q, _, _, q => by simpa [lcLoop] using q
  | d :: ds, acc, Q, hl, he, q => by
    simp at hl
    refine he d List.mem_cons_self (fun y => acc.length < sizeLine ∧ lcLoop b bYes me env ds (acc ++ [y]) Q) ⟨by omega, lc_mapB e ds _ Q (by simp; omega) (fun x hx => he x (List.mem_cons_of_mem _ hx)) (by simpa using q)⟩
theorem immL_dInts : ∀ r : List Int, immL (dInts r) = true
  | [] => rfl
  | x :: r => immL_dInts r
theorem cut_drop {ds : List D} {k : Nat} : cutD ds (some (k : Int)) none = ds.drop k := by
  unfold cutD
  rw [HT.sIx_nat, HT.sIx_none]
  by_cases h : k ≤ ds.length
  · rw [Nat.min_eq_left h, List.take_of_length_le (by simp)]
  · rw [Nat.min_eq_right (by omega), List.drop_length, List.drop_eq_nil_of_le (by omega), List.take_nil]
theorem cut_take {ds : List D} {k : Nat} : cutD ds none (some (k : Int)) = ds.take k := by
  unfold cutD
  rw [HT.sIx_nat, HT.sIx_none, List.drop_zero, Nat.sub_zero]
  by_cases h : k ≤ ds.length
  · rw [Nat.min_eq_left h]
  · rw [Nat.min_eq_right (by omega), List.take_length, List.take_of_length_le (by omega)]
theorem dInts_drop (k : Nat) : (dInts r).drop k = dInts (r.drop k) := by simp [dInts, List.map_drop]
theorem is_lot_ev {l : List Int} (hl : l.length ≤ 100) (h : lotOk n l) : FEv m_is_lot [rD l, .int n] (.bl true) := fun Q q => by
  have h100 : 100 ≤ sizeLine := by decide
  refine lc_map (fun _ => .bl true) _ _ (by rw [dInts_len]; omega) (fun d hd Q q => ?_) (all_bls (fun _ _ => rfl) ?_)
  · obtain ⟨x, hx, e⟩ := mem_dInts hd
    subst e
    have h2 := lotOk_all h x hx
    exact is_below_ev h2.1 h2.2 Q q
  · refine ⟨immL_dInts l, ?_⟩
    dsimp only [xNil]
    rw [show cutD (dInts l) (some 1) none = (dInts l).drop 1 from cut_drop (k := 1), dInts_drop]
    refine lc_mapB (fun _ => .bl true) _ [] _ (by rw [zpD_len, dInts_len]; simp; omega) (fun d hd R hR => ?_) (by rw [List.nil_append]; exact all_bls (fun _ _ => rfl) q)
    obtain ⟨x, y, e, hxy⟩ := pairs_lt l h d hd
    subst e
    have e1 : decide (x < y) = true := decide_eq_true hxy
    refine ⟨rfl, ?_⟩
    show R (.bl (decide (x < y)))
    rw [e1]; exact hR
def rangeI (n : Int) : List Int := (List.range n.toNat).map fun k => Int.ofNat k
def WsOk (n : Int) (ws : List (List Int)) : Prop := 1 ≤ n ∧ n ≤ 6 ∧ 1 ≤ ws.length ∧ ws.length ≤ 10 ∧ ∀ l ∈ ws, lotOk n l ∧ l ≠ [] ∧ l.length ≤ 6
theorem mem_rowsD {d : D} (h : d ∈ rowsD ws) : ∃ l, l ∈ ws ∧ d = rD l := by
  obtain ⟨x, hx, e⟩ := List.mem_map.mp h
  exact ⟨x, hx, e.symm⟩
theorem are_office_works_ev (h : WsOk n ws) : FEv m_are_office_works [.int n, wD ws] (.bl true) := fun Q q => by
  obtain ⟨h1, h2, h3, h4, h5⟩ := h
  have h100 : 100 ≤ sizeLine := by decide
  refine .inl ?_
  have e1 : decide ((1 : Int) ≤ ((rowsD ws).length : Nat)) = true := decide_eq_true (by rw [rowsD_len]; omega)
  have e2 : decide ((((rowsD ws).length : Nat) : Int) ≤ 10) = true := decide_eq_true (by rw [rowsD_len]; omega)
  show (if decide ((1 : Int) ≤ ((rowsD ws).length : Nat)) = true then _ else _)
  rw [if_pos e1]
  show (if (!decide ((((rowsD ws).length : Nat) : Int) ≤ 10)) = true then _ else _)
  rw [e2, if_neg (by decide)]
  refine lc_map (fun _ => .bl true) _ _ (by rw [rowsD_len]; omega) (fun d hd Q q => ?_) (all_bls (fun _ _ => rfl) q)
  obtain ⟨l, hm, e⟩ := mem_rowsD hd
  subst e
  obtain ⟨g1, g2, g3⟩ := h5 l hm
  refine is_lot_ev (by omega) g1 _ ?_
  show (if true = true then _ else _)
  rw [if_pos rfl]
  refine .inl ?_
  have e3 : decide ((0 : Int) < ((dInts l).length : Nat)) = true := decide_eq_true (by
    rw [dInts_len]
    have := List.length_pos_iff.mpr g2
    omega)
  show Q (.bl (decide ((0 : Int) < ((dInts l).length : Nat))))
  rw [e3]; exact q
theorem imm_wD : ∀ ws : List (List Int), immL (rowsD ws) = true
  | [] => rfl
  | l :: ws => by
    show (D.imm (.tup (dInts l)) && immL (rowsD ws)) = true
    rw [imm_wD ws, show D.imm (.tup (dInts l)) = true from immL_dInts l]
    rfl
theorem made_ev (h : WsOk n ws) : FEv m__law_made [.tup [.int n, wD ws]] (oD n ws) := fun Q q => by
  obtain ⟨h1, h2, h3, h4, h5⟩ := id h
  refine ⟨rfl, imm_wD ws, rfl, ?_⟩
  have e1 : decide ((1 : Int) ≤ n) = true := decide_eq_true h1
  have e2 : decide (n ≤ 6) = true := decide_eq_true h2
  show (if decide ((1 : Int) ≤ n) = true then _ else _)
  rw [if_pos e1]
  show (if (!decide (n ≤ 6)) = true then _ else _)
  rw [e2, if_neg (by decide)]
  refine are_office_works_ev h _ ?_
  refine ⟨rfl, rfl, by simp, by decide, imm_wD ws, rfl, by simp [putFD], (show Fz ["desks"] = false by decide), ?_⟩
  refine ⟨rfl, by simp [putFD]; split <;> simp, ?_⟩
  show Q (mkO 3 [("desks", .int n), ("works", wD ws)])
  rw [show mkO 3 [("desks", .int n), ("works", wD ws)] = oD n ws from if_pos (show Fz ["desks", "works"] = true by decide)]
  exact q
def logF (ws : List (List Int)) (r : List Int) (d : Int) : List Int := r.filter fun x => (ws.getD x.toNat []).contains d
theorem atD_some {xs : List D} {x : Int} {d : D} (h0 : 0 ≤ x) (h : xs[x.toNat]? = some d) (q : Q d) : atD xs x Q := by
  have hl := (List.getElem?_eq_some_iff.mp h).1
  unfold atD atI ixN
  rw [if_pos h0, if_pos (by omega)]
  show (match xs[x.toNat]? with | some x => Q x | none => False)
  rw [h]
  exact q
theorem rows_at {x : Int} (h0 : 0 ≤ x) (h1 : x < (ws.length : Int)) : (rowsD ws)[x.toNat]? = some (rD (ws.getD x.toNat [])) := by
  have hj : x.toNat < ws.length := by omega
  unfold rowsD
  rw [List.getElem?_map, List.getElem?_eq_getElem hj, List.getD_eq_getElem?_getD, List.getElem?_eq_getElem hj]
  rfl
theorem eqb_int {a b : Int} : D.eqb (.int a) (.int b) = decide (a = b) := by
  show PyData.eqv (.int a) (.int b) = _
  simp [PyData.eqv]
  by_cases h : a = b <;> simp [h]
theorem any_ints (l : List Int) (b : Int) : ((dInts l).any fun z => D.eqb z (.int b)) = l.contains b := by
  induction l with
  | nil => rfl
  | cons x l ih =>
    show (D.eqb (.int x) (.int b) || (dInts l).any fun z => D.eqb z (.int b)) = _
    rw [ih, eqb_int, List.contains_cons]
    congr 1
    rw [Bool.eq_iff_iff, decide_eq_true_iff, beq_iff_eq]
    exact eq_comm
theorem flat_ints : ∀ l : List Int, (dInts l).all D.flat = true
  | [] => rfl
  | x :: l => flat_ints l
theorem in_ints {b : Int} {l : List Int} (q : Q (.bl (l.contains b))) : oIn false (.int b) (rD l) Q := by
  refine ⟨rfl, flat_ints l, ?_⟩
  rw [any_ints, Bool.false_xor]
  exact q
theorem immL_rows : ∀ ws : List (List Int), immL (rowsD ws) = true := imm_wD
theorem eqv_ints : ∀ a b : List Int, PyData.eqvAll (pyL (dInts a)) (pyL (dInts b)) = decide (a = b)
  | [], [] => rfl
  | [], _ :: _ => rfl
  | _ :: _, [] => rfl
  | x :: a, y :: b => by
    show (PyData.eqv (.int x) (.int y) && PyData.eqvAll (pyL (dInts a)) (pyL (dInts b))) = _
    rw [eqv_ints a b, show PyData.eqv (.int x) (.int y) = decide (x = y) from eqb_int, Bool.eq_iff_iff]
    simp
theorem eqv_rows : ∀ a b : List (List Int), PyData.eqvAll (pyL (rowsD a)) (pyL (rowsD b)) = decide (a = b)
  | [], [] => rfl
  | [], _ :: _ => rfl
  | _ :: _, [] => rfl
  | x :: a, y :: b => by
    show (PyData.eqv (.tuple (pyL (dInts x))) (.tuple (pyL (dInts y))) && PyData.eqvAll (pyL (rowsD a)) (pyL (rowsD b))) = _
    rw [eqv_rows a b, show PyData.eqv (.tuple (pyL (dInts x))) (.tuple (pyL (dInts y))) = decide (x = y) from eqv_ints x y, Bool.eq_iff_iff]
    simp
theorem lay_ints : ∀ a : List Int, PyData.canLayAll0 (pyL (dInts a)) = true
  | [] => rfl
  | x :: a => by
    show (true && PyData.canLayAll0 (pyL (dInts a))) = true
    rw [lay_ints a] <;> rfl
theorem lay_rows : ∀ a : List (List Int), PyData.canLayAll0 (pyL (rowsD a)) = true
  | [] => rfl
  | x :: a => by
    show (PyData.canLayAll0 (pyL (dInts x)) && PyData.canLayAll0 (pyL (rowsD a))) = true
    rw [lay_ints x, lay_rows a] <;> rfl
theorem dep_ints : ∀ a : List Int, PyData.depthAll (pyL (dInts a)) = 0
  | [] => rfl
  | x :: a => by
    show max 0 (PyData.depthAll (pyL (dInts a))) = 0
    rw [dep_ints a] <;> rfl
theorem dep_rows : ∀ a : List (List Int), PyData.depthAll (pyL (rowsD a)) ≤ 1
  | [] => by decide
  | x :: a => by
    show max (PyData.depthAll (pyL (dInts x)) + 1) (PyData.depthAll (pyL (rowsD a))) ≤ 1
    rw [dep_ints x]
    exact Nat.max_le.mpr ⟨Nat.le_refl _, dep_rows a⟩
theorem sh_rows (a : List (List Int)) : Sh (.tup (rowsD a)) := by
  show (PyData.canLayAll0 (pyL (rowsD a)) && decide (PyData.depthAll (pyL (rowsD a)) + 1 ≤ 64)) = true
  rw [lay_rows a, decide_eq_true (by have := dep_rows a; omega)]
  rfl
theorem sh_ints (a : List Int) : Sh (rD a) := by
  show (PyData.canLayAll0 (pyL (dInts a)) && decide (PyData.depthAll (pyL (dInts a)) + 1 ≤ 64)) = true
  rw [lay_ints a, dep_ints a] <;> rfl
def logsF (n : Int) (ws : List (List Int)) (r : List Int) : List (List Int) := (rangeI n).map (logF ws r)
def RowOk (ws : List (List Int)) (r : List Int) : Prop := r.length ≤ 100 ∧ ∀ x ∈ r, 0 ≤ x ∧ x < (ws.length : Int)
section
end
end
end Pu
set_option Elab.async false
set_option linter.all false
set_option maxRecDepth 100000
namespace Pu
open PySem PySem.Spec PyProof.Rows L2
section
variable {Q : D → Prop} {i n : Int} {ns ms r : List Int} {ws : List (List Int)}
def pD (n : Int) (ws : List (List Int)) : D := .tup [.int n, wD ws]
def W (ws : List (List Int)) (x : Int) : List Int := ws.getD x.toNat []
def meetsF (ws : List (List Int)) (x y : Int) : Bool := (W ws x).any fun d => (W ws y).contains d
def eIn (l : List Int) : D → D
  | .int d => .bl (l.contains d)
  | d => d
theorem any_in (a b : List Int) (q : Q (.bl (a.any fun d => b.contains d))) : oAny false (.lst ((dInts a).map (eIn b))) Q := by
  refine ⟨a.map fun d => b.contains d, ?_, ?_⟩
  · unfold dInts
    rw [List.map_map, List.map_map]
    rfl
  · rw [if_neg Bool.false_ne_true, List.any_map]
    exact q
def WsLen (ws : List (List Int)) : Prop := ∀ l ∈ ws, l.length ≤ 6
theorem w_len (h : WsLen ws) (x : Int) : (W ws x).length ≤ 6 := by
  unfold W
  rw [List.getD_eq_getElem?_getD]
  cases e : ws[x.toNat]? with
  | none => simp
  | some l => exact h l (List.mem_of_getElem? e)
theorem meets_ev {x y : Int} (h : WsLen ws) (hx : 0 ≤ x ∧ x < (ws.length : Int)) (hy : 0 ≤ y ∧ y < (ws.length : Int)) : FEv m__law_meets [pD n ws, .int x, .int y] (.bl (meetsF ws x y)) := fun Q q => by
  have h100 : 100 ≤ sizeLine := by decide
  have hw : ∀ (z : Int) (R : D → Prop), (0 ≤ z ∧ z < (ws.length : Int)) → R (rD (W ws z)) → atD (rowsD ws) z R := fun z R hz q => atD_some hz.1 (rows_at hz.1 hz.2) q
  refine hw x _ hx ?_
  refine lc_map (eIn (W ws y)) _ _ (by rw [dInts_len]; have := w_len h x; omega) (fun d hd R hR => ?_) (any_in _ _ q)
  obtain ⟨z, hz, e⟩ := mem_dInts hd
  subst e
  exact hw y _ hy (in_ints hR)
def nearF (ws : List (List Int)) : List (List Bool) := (rangeI ws.length).map fun x => (rangeI ws.length).map fun y => meetsF ws x y
def blD (l : List Bool) : D := .lst (l.map .bl)
def nD (near : List (List Bool)) : D := .lst (near.map blD)
section
end
end
end Pu
set_option Elab.async false
set_option linter.all false
set_option maxRecDepth 100000
set_option synthInstance.maxHeartbeats 0
set_option synthInstance.maxSize 100000
namespace Pu
open PySem PySem.Spec PyProof.Rows L2
def bp_3 : XS := sIf (bAnd (bTest (x2 oEq (xVar 3) (xC (.int 1)))) (bTest (x2 (oI fun i j => .bl (decide (j < i))) (xVar 2) (xC (.int 2))))) (sSet 4 (xLc (mRng1 (xVar 2)) (bName 7) bYes (x1 oTup (x1 oSortA (xLst (xCons (xImm (xVar 7)) (xCons (x2 (oIc (fun _ j => j ≠ 0) fun i j => .int (i.fmod j)) (x1 oInt (x2 oAdd (xVar 7) (xC (.int 1)))) (xVar 2)) xNil))))))) sNext
def bp_4 : XS := sIf (bTest (x2 oEq (xVar 3) (xC (.int 2)))) (sSet 4 (xLc (mRng1 (xVar 2)) (bName 7) bYes (xTup (xCons (xImm (xVar 7)) xNil)))) sNext
def bp_5 : XS := sIf (bAnd (bTest (x2 oEq (xVar 3) (xC (.int 3)))) (bTest (x2 (oI fun i j => .bl (decide (j < i))) (xVar 2) (xC (.int 1))))) (sSet 4 (xLc (mRng2 (xC (.int 1)) (xVar 2)) (bName 7) bYes (xTup (xCons (xC (.int 0)) (xCons (xImm (xVar 7)) xNil))))) sNext
def bp_6 : XS := sFor (mRng1 (x2 oAdd (xC (.int 1)) (xCall m__law_draw (xDice (xCons (xC (.int 4)) xNil))))) (bName 5) (sSeq (sSet 6 (x1 oTup (xLc (mRng1 (xVar 2)) (bName 7) (bTest (x2 oEq (xCall m__law_draw (xDice (xCons (xC (.int 2)) xNil))) (xC (.int 0)))) (xImm (xVar 7))))) (sApp 4 (xIf (bTest (x2 (oI fun i j => .bl (decide (j < i))) (x1 oLenA (xVar 6)) (xC (.int 0)))) (xImm (xVar 6)) (xTup (xCons (xCall m__law_draw (xDice (xCons (xVar 2) xNil))) xNil)))))
def bp_7 : XS := sRet (xTup (xCons (xImm (xVar 2)) (xCons (x1 oTup (xSl (xVar 4) pNo (pYes (xC (.int 10))))) xNil)))
section
variable {Q : D → Prop} {i n : Int} {ns ms r : List Int} {ws : List (List Int)} {dd : D} {e5 e6 e7 : Option D}
def Good (n : Int) (l : List Int) : Prop := lotOk n l ∧ l ≠ [] ∧ l.length ≤ 6
theorem two_good {a b : Int} (p : ns.Perm [a, b]) (s : ns.Pairwise (· ≤ ·)) (ne : a ≠ b) (ha : 0 ≤ a ∧ a < n) (hb : 0 ≤ b ∧ b < n) : Good n ns := by
  have hl := p.length_eq
  match ns, hl, p, s with
  | [x, y], _, p, s =>
    have nd : [x, y].Nodup := p.nodup_iff.mpr (by simp [ne])
    have hx : x ∈ [a, b] := p.mem_iff.mp (by simp)
    have hy : y ∈ [a, b] := p.mem_iff.mp (by simp)
    simp at nd hx hy s
    refine ⟨⟨?_, ?_, ?_, ?_⟩, by simp, by simp⟩
    · rcases hx with e | e <;> omega
    · rcases hx with e | e <;> omega
    · omega
    · show 0 ≤ y ∧ y < n
      rcases hy with e | e <;> omega
def PG1 (n : Int) (d : D) : Prop := ∃ l, d = rD l ∧ Good n l
theorem of_P : ∀ {ys : List D}, (∀ y ∈ ys, PG1 n y) → ∃ L : List (List Int), ys = rowsD L ∧ ∀ l ∈ L, Good n l
  | [], _ => ⟨[], rfl, fun _ h => nomatch h⟩
  | y :: ys, h => by
    obtain ⟨L, e, g⟩ := of_P fun z hz => h z (List.mem_cons_of_mem _ hz)
    obtain ⟨l, e2, g2⟩ := h y List.mem_cons_self
    refine ⟨l :: L, by rw [e2, e] <;> rfl, fun z hz => ?_⟩
    rcases List.mem_cons.mp hz with z1 | z1
    · rw [z1]; exact g2
    · exact g z z1
def pEnv (dd : D) (most n kind : Int) (L : List (List Int)) (e5 e6 e7 : Option D) : PEnv := [some dd, some (.int most), some (.int n), some (.int kind), some (.lst (rowsD L)), e5, e6, e7]
def LG (n : Int) (L : List (List Int)) : Prop := L.length ≤ 6 ∧ ∀ l ∈ L, Good n l
theorem mem_rg {lo : Int} {k : Nat} {d : D} (h : d ∈ rgD lo k) : ∃ j : Nat, j < k ∧ d = .int (lo + (j : Int)) := by
  obtain ⟨j, hj, e⟩ := List.mem_map.mp h
  exact ⟨j, List.mem_range.mp hj, e.symm⟩
theorem bp3_ev {most kind : Int} {L : List (List Int)} {E : PEnds} (n1 : 1 ≤ n) (n6 : n ≤ 6) (hL : LG n L) (h : ∀ L, LG n L → E.nx (pEnv dd most n kind L e5 e6 e7)) : bp_3 E (pEnv dd most n kind L e5 e6 e7) := by
  have h100 : 100 ≤ sizeLine := by decide
  refine ⟨rfl, rfl, ?_⟩
  show (if _ = true then _ else _)
  split
  · show (if decide (2 < n) = true then _ else _)
    split
    · rename_i hn
      have hn := of_decide_eq_true hn
      refine ⟨⟨by omega, by omega⟩, ?_⟩
      refine lc_P (PG1 n) _ [] _ (by rw [rgD_len]; simp; omega) (fun d hd R hR => ?_) fun ys hl hy => ?_
      · obtain ⟨j, hj, e⟩ := mem_rg hd
        subst e
        have hf := fmod_lt (i := 0 + (j : Int) + 1) (j := n) (by omega)
        have ne : (0 + (j : Int)) ≠ (0 + (j : Int) + 1).fmod n := fun e => by
          rw [Int.fmod_eq_emod_of_nonneg _ (by omega)] at e
          by_cases hh : (0 + (j : Int) + 1) < n
          · rw [Int.emod_eq_of_lt (by omega) hh] at e
            omega
          · have e1 : (0 + (j : Int) + 1) = n := by omega
            rw [e1, Int.emod_self] at e
            omega
        refine ⟨rfl, by show n ≠ 0; omega, by show 2 ≤ sizeLine; decide, .inl ⟨[_, _], rfl, fun ns' p s => ⟨immL_dInts ns', hR _ ⟨ns', rfl, two_good p s ne ⟨by omega, by omega⟩ hf⟩⟩⟩⟩
      · obtain ⟨L', e, g⟩ := of_P hy
        rw [List.nil_append, e]
        exact h L' ⟨by rw [← rowsD_len, ← e, hl, rgD_len]; omega, g⟩
    · exact h L hL
  · exact h L hL
theorem bp4_ev {most kind : Int} {L : List (List Int)} {E : PEnds} (n1 : 1 ≤ n) (n6 : n ≤ 6) (hL : LG n L) (h : ∀ L, LG n L → E.nx (pEnv dd most n kind L e5 e6 e7)) : bp_4 E (pEnv dd most n kind L e5 e6 e7) := by
  have h100 : 100 ≤ sizeLine := by decide
  refine ⟨rfl, rfl, ?_⟩
  show (if _ = true then _ else _)
  split
  · refine ⟨⟨by omega, by omega⟩, ?_⟩
    refine lc_P (PG1 n) _ [] _ (by rw [rgD_len]; simp; omega) (fun d hd R hR => ?_) fun ys hl hy => ?_
    · obtain ⟨j, hj, e⟩ := mem_rg hd
      subst e
      exact ⟨rfl, by show 1 ≤ sizeLine; decide, hR _ ⟨[_], rfl, ⟨by omega, by omega⟩, by simp, by simp⟩⟩
    · obtain ⟨L', e, g⟩ := of_P hy
      rw [List.nil_append, e]
      exact h L' ⟨by rw [← rowsD_len, ← e, hl, rgD_len]; omega, g⟩
  · exact h L hL
theorem bp5_ev {most kind : Int} {L : List (List Int)} {E : PEnds} (n1 : 1 ≤ n) (n6 : n ≤ 6) (hL : LG n L) (h : ∀ L, LG n L → E.nx (pEnv dd most n kind L e5 e6 e7)) : bp_5 E (pEnv dd most n kind L e5 e6 e7) := by
  have h100 : 100 ≤ sizeLine := by decide
  refine ⟨rfl, rfl, ?_⟩
  show (if _ = true then _ else _)
  split
  · show (if decide (1 < n) = true then _ else _)
    split
    · rename_i hn
      have hn := of_decide_eq_true hn
      refine ⟨⟨by decide, by decide⟩, ⟨by omega, by omega⟩, ?_⟩
      refine lc_P (PG1 n) _ [] _ (by rw [rgD_len]; simp; omega) (fun d hd R hR => ?_) fun ys hl hy => ?_
      · obtain ⟨j, hj, e⟩ := mem_rg hd
        subst e
        exact ⟨rfl, by show 2 ≤ sizeLine; decide, hR _ ⟨[0, _], rfl, ⟨by omega, by omega, by omega, by omega, by omega⟩, by simp, by simp⟩⟩
      · obtain ⟨L', e, g⟩ := of_P hy
        rw [List.nil_append, e]
        exact h L' ⟨by rw [← rowsD_len, ← e, hl, rgD_len]; omega, g⟩
    · exact h L hL
  · exact h L hL
theorem lot_of : ∀ {l : List Int}, l.Pairwise (· < ·) → (∀ x ∈ l, 0 ≤ x ∧ x < n) → lotOk n l
  | [], _, _ => trivial
  | [x], _, h => h x List.mem_cons_self
  | x :: y :: r, p, h => ⟨(h x List.mem_cons_self).1, (h x List.mem_cons_self).2, (List.pairwise_cons.mp p).1 y List.mem_cons_self, lot_of (List.pairwise_cons.mp p).2 fun z hz => h z (List.mem_cons_of_mem _ hz)⟩
theorem rangeI_pw (n : Int) : (rangeI n).Pairwise (· < ·) := by
  unfold rangeI
  rw [List.pairwise_map]
  exact List.pairwise_lt_range.imp fun h => Int.ofNat_lt.mpr h
theorem rangeI_mem {x : Int} (h : x ∈ rangeI n) : 0 ≤ x ∧ x < n := by
  obtain ⟨k, hk, e⟩ := List.mem_map.mp h
  have := List.mem_range.mp hk
  have e : x = (k : Int) := e.symm
  omega
theorem sub_range {ys : List D} (s : ys.Sublist (rgD 0 n.toNat)) : ∃ l : List Int, ys = dInts l ∧ lotOk n l ∧ l.length ≤ n.toNat := by
  have e : rgD 0 n.toNat = (rangeI n).map D.int := by
    unfold rgD rangeI
    rw [List.map_map]
    refine List.map_congr_left fun k _ => ?_
    show D.int (0 + (k : Int)) = D.int (Int.ofNat k)
    rw [Int.zero_add]
    rfl
  have hl := s.length_le
  rw [rgD_len] at hl
  rw [e] at s
  obtain ⟨l, hs, e2⟩ := List.sublist_map_iff.mp s
  refine ⟨l, e2, lot_of ((rangeI_pw n).sublist hs) fun x hx => rangeI_mem (hs.mem hx), ?_⟩
  rw [e2, List.length_map] at hl
  exact hl
theorem rowsD_snoc (L : List (List Int)) (l : List Int) : rowsD L ++ [rD l] = rowsD (L ++ [l]) := by
  unfold rowsD
  rw [List.map_append]
  rfl
def bodyP : XS := sSeq (sSet 6 (x1 oTup (xLc (mRng1 (xVar 2)) (bName 7) (bTest (x2 oEq (xCall m__law_draw (xDice (xCons (xC (.int 2)) xNil))) (xC (.int 0)))) (xImm (xVar 7))))) (sApp 4 (xIf (bTest (x2 (oI fun i j => .bl (decide (j < i))) (x1 oLenA (xVar 6)) (xC (.int 0)))) (xImm (xVar 6)) (xTup (xCons (xCall m__law_draw (xDice (xCons (xVar 2) xNil))) xNil))))
instance : MS bodyP := by unfold bodyP; infer_instance
theorem bodyP_ev {most kind : Int} {L : List (List Int)} {E : PEnds} (n1 : 1 ≤ n) (n6 : n ≤ 6) (hL : L.length ≤ 9) (h : ∀ l e6, Good n l → E.nx (pEnv dd most n kind (L ++ [l]) e5 e6 e7)) : bodyP E (pEnv dd most n kind L e5 e6 e7) := by
  have h100 : 100 ≤ sizeLine := by decide
  refine ⟨⟨by omega, by omega⟩, ?_⟩
  refine lc_F id _ [] _ (by rw [rgD_len]; simp; omega) (fun d hd R hR => ⟨by decide, by decide, fun r _ _ => ⟨rfl, rfl, hR _⟩⟩) (fun d hd R hR => ?_) fun ys s => ?_
  · obtain ⟨j, hj, e⟩ := mem_rg hd
    subst e
    exact ⟨rfl, hR⟩
  · rw [List.map_id, List.nil_append]
    obtain ⟨l, e, g1, g2⟩ := sub_range s
    subst e
    refine ⟨immL_dInts l, .inl ?_⟩
    show (if decide ((0 : Int) < ((dInts l).length : Nat)) = true then _ else _)
    split
    · rename_i hh
      have hh := of_decide_eq_true hh
      rw [dInts_len] at hh
      refine ⟨immL_dInts l, by rw [rowsD_len]; omega, ?_⟩
      have hg : Good n l := ⟨g1, fun e => by subst e; simp at hh, by omega⟩
      have := h l (some (rD l)) hg
      unfold pEnv at this
      rw [← rowsD_snoc] at this
      exact this
    · refine ⟨by omega, by omega, fun r r0 r1 => ⟨by show 1 ≤ sizeLine; decide, by rw [rowsD_len]; omega, ?_⟩⟩
      have hg : Good n [r] := ⟨⟨r0, r1⟩, by simp, by simp⟩
      have := h [r] (some (rD l)) hg
      unfold pEnv at this
      rw [← rowsD_snoc] at this
      exact this
def WP (dd : D) (most n kind : Int) (e7 : Option D) (ds : List D) (env : PEnv) : Prop := ∃ L e5 e6, env = pEnv dd most n kind L e5 e6 e7 ∧ (∀ l ∈ L, Good n l) ∧ L.length + ds.length ≤ 10 ∧ 1 ≤ L.length + ds.length
theorem bp6_ev {most kind : Int} {L : List (List Int)} {E : PEnds} (n1 : 1 ≤ n) (n6 : n ≤ 6) (hL : LG n L) (h : ∀ L e5 e6, (∀ l ∈ L, Good n l) → 1 ≤ L.length → L.length ≤ 10 → E.nx (pEnv dd most n kind L e5 e6 e7)) : bp_6 E (pEnv dd most n kind L e5 e6 e7) := by
  refine ⟨by decide, by decide, fun r r0 r1 => ⟨⟨by omega, by omega⟩, ?_⟩⟩
  refine loop_ev (b := bName 5) (body := bodyP) (WP dd most n kind e7) ?_ (fun d env Q Q' k q => k _ q) (MS.all (m := bodyP) _ _ _) _ _ ⟨L, e5, e6, rfl, hL.2, ?_, ?_⟩ ?_
  · rintro d ds env ⟨L, e5, e6, rfl, g, l1, l2⟩
    simp at l1
    refine bodyP_ev (e5 := some d) n1 n6 (by omega) fun l e6 gl => ⟨L ++ [l], some d, e6, rfl, fun z hz => ?_, by simp; omega, by simp; omega⟩
    rcases List.mem_append.mp hz with z1 | z1
    · exact g z z1
    · rw [List.mem_singleton.mp z1]; exact gl
  · rw [rgD_len]; have := hL.1; omega
  · rw [rgD_len]; omega
  · rintro env ⟨L, e5, e6, rfl, g, l1, l2⟩
    exact h L e5 e6 g (by simpa using l2) (by simpa using l1)
theorem bp7_ev {most kind : Int} {L : List (List Int)} {E : PEnds} (hL : L.length ≤ 10) (h : E.rt (pD n L)) : bp_7 E (pEnv dd most n kind L e5 e6 e7) := by
  refine ⟨rfl, immL_rows L, ?_⟩
  have e : cutD (rowsD L) none (some 10) = rowsD L := by
    rw [show cutD (rowsD L) none (some 10) = (rowsD L).take 10 from cut_take (k := 10), List.take_of_length_le (by rw [rowsD_len]; exact hL)]
  dsimp only
  rw [e]
  exact ⟨immL_rows L, by show 2 ≤ sizeLine; decide, h⟩
theorem parts_ev {most : Int} (h1 : 1 ≤ most) (h6 : most ≤ 6) : FP m__law_parts [dd, .int most] (fun d => ∃ n ws, d = pD n ws ∧ WsOk n ws) := fun Q q => by
  refine ⟨by omega, by omega, fun r r0 r1 => ⟨by decide, by decide, fun kind k0 k1 => ⟨by show 0 ≤ sizeLine; decide, ?_⟩⟩⟩
  have n1 : 1 ≤ 1 + r := by omega
  have n6 : 1 + r ≤ 6 := by omega
  refine bp3_ev (L := []) n1 n6 ⟨by simp, fun _ h => nomatch h⟩ fun L hL => bp4_ev n1 n6 hL fun L hL => bp5_ev n1 n6 hL fun L hL => bp6_ev n1 n6 hL fun L e5 e6 g l1 l2 => bp7_ev l2 (q _ ⟨_, L, rfl, n1, n6, l1, l2, g⟩)
end
end Pu
set_option Elab.async false
set_option linter.all false
set_option maxRecDepth 100000
set_option synthInstance.maxHeartbeats 0
set_option synthInstance.maxSize 100000
namespace Pu
open PySem PySem.Spec PyProof.Rows L2
section
variable {Q : D → Prop} {i n : Int} {ns ms r : List Int} {ws : List (List Int)} {dd : D} {e5 e6 e7 : Option D}
section
theorem some_parts_ev : FP m__law_some_parts [dd] (fun d => ∃ n ws, d = pD n ws ∧ WsOk n ws) := fun Q q => by
  refine ⟨by decide, by decide, fun r _ _ => ⟨rfl, rfl, ?_⟩⟩
  show (if _ = true then _ else _)
  split
  · exact parts_ev (by decide) (by decide) Q q
  · exact parts_ev (by decide) (by decide) Q q
end
def InW (ws : List (List Int)) (r : List Int) : Prop := ∀ x ∈ r, 0 ≤ x ∧ x < (ws.length : Int)
theorem atD_int {l : List Int} {x : Int} (h0 : 0 ≤ x) (h1 : x < (l.length : Int)) (q : Q (.int (l.getD x.toNat 0))) : atD (dInts l) x Q := by
  have hj : x.toNat < l.length := by omega
  refine atD_some h0 ?_ q
  unfold dInts
  rw [List.getElem?_map, List.getElem?_eq_getElem hj, List.getD_eq_getElem?_getD, List.getElem?_eq_getElem hj]
  rfl
theorem setD_int {l : List Int} {x y : Int} {k : D → Prop} (h0 : 0 ≤ x) (h1 : x < (l.length : Int)) (q : k (.lst (dInts (l.set x.toNat y)))) : setD (.lst (dInts l)) (.int x) (.int y) k := by
  show (match ixN (dInts l).length x with | some j => k (.lst ((dInts l).set j (.int y))) | none => False)
  rw [dInts_len]
  unfold ixN
  rw [if_pos h0, if_pos h1]
  show k (.lst ((dInts l).set x.toNat (.int y)))
  rw [show (dInts l).set x.toNat (.int y) = dInts (l.set x.toNat y) by unfold dInts; rw [List.map_set]]
  exact q
end
end Pu
set_option Elab.async false
set_option linter.all false
set_option maxRecDepth 100000
set_option synthInstance.maxHeartbeats 0
set_option synthInstance.maxSize 100000
namespace Pu
open PySem PySem.Spec PyProof.Rows L2
section
variable {Q : D → Prop} {i n : Int} {ns ms r s : List Int} {ws : List (List Int)} {dd : D} {e5 e6 e7 : Option D}
section
end
end
end Pu
set_option Elab.async false
set_option linter.all false
set_option maxRecDepth 100000
namespace Pu
section
variable {ap : Int → Int → Prop}
inductive Rch (ap : Int → Int → Prop) : List Int → List Int → Prop
  | refl (r : List Int) : Rch ap r r
  | step {r A B : List Int} {x y : Int} : Rch ap r (A ++ x :: y :: B) → ap x y → Rch ap r (A ++ y :: x :: B)
theorem Rch.trans {r s t : List Int} (a : Rch ap r s) (b : Rch ap s t) : Rch ap r t := by
  induction b with
  | refl => exact a
  | step h e ih => exact .step ih e
theorem Rch.cons {r s : List Int} (z : Int) (a : Rch ap r s) : Rch ap (z :: r) (z :: s) := by
  induction a with
  | refl => exact .refl _
  | @step A B x y h e ih => exact .step (A := z :: A) ih e
theorem Rch.bubble {a : Int} {R : List Int} : ∀ P : List Int, (∀ x ∈ P, ap x a) → Rch ap (P ++ a :: R) (a :: (P ++ R))
  | [], _ => .refl _
  | x :: P, h => (Rch.cons x (Rch.bubble P fun z hz => h z (List.mem_cons_of_mem _ hz))).trans (.step (A := []) (.refl _) (h x List.mem_cons_self))
theorem Rch.len {r s : List Int} (a : Rch ap r s) : s.length = r.length := by
  induction a with
  | refl => rfl
  | step h e ih => rw [← ih]; simp
theorem Rch.mem {r s : List Int} (a : Rch ap r s) : ∀ x, x ∈ s ↔ x ∈ r := by
  induction a with
  | refl => exact fun x => Iff.rfl
  | step h e ih =>
    intro x
    rw [← ih x]
    simp only [List.mem_append, List.mem_cons]
    constructor
    · rintro (h | h | h | h)
      · exact .inl h
      · exact .inr (.inr (.inl h))
      · exact .inr (.inl h)
      · exact .inr (.inr (.inr h))
    · rintro (h | h | h | h)
      · exact .inl h
      · exact .inr (.inr (.inl h))
      · exact .inr (.inl h)
      · exact .inr (.inr (.inr h))
end
section
variable {ws : List (List Int)} {n : Int}
def apF (ws : List (List Int)) (x y : Int) : Prop := meetsF ws x y = false
theorem apF_no {x y d : Int} (h : apF ws x y) (hx : (W ws x).contains d = true) (hy : (W ws y).contains d = true) : False := by
  have : meetsF ws x y = true := List.any_eq_true.mpr ⟨d, by simpa using hx, hy⟩
  rw [show meetsF ws x y = false from h] at this
  cases this
theorem logF_cons {x d : Int} {r : List Int} : logF ws (x :: r) d = if (W ws x).contains d = true then x :: logF ws r d else logF ws r d := by
  unfold logF
  rw [List.filter_cons]
  rfl
theorem logF_app {d : Int} {r s : List Int} : logF ws (r ++ s) d = logF ws r d ++ logF ws s d := by
  unfold logF
  rw [List.filter_append]
theorem Rch.logs {r s : List Int} (a : Rch (apF ws) r s) (d : Int) : logF ws s d = logF ws r d := by
  induction a with
  | refl => rfl
  | @step A B x y h e ih =>
    rw [← ih, logF_app, logF_app, logF_cons, logF_cons, logF_cons, logF_cons]
    by_cases hx : (W ws x).contains d = true
    · by_cases hy : (W ws y).contains d = true
      · exact (apF_no e hx hy).elim
      · rw [if_pos hx, if_neg hy, if_pos hx, if_neg hy]
    · by_cases hy : (W ws y).contains d = true
      · rw [if_neg hx, if_pos hy, if_neg hx]
      · rw [if_neg hx, if_neg hy, if_neg hx]
def Desks (ws : List (List Int)) (n : Int) (r : List Int) : Prop := ∀ x ∈ r, ∃ d, d ∈ rangeI n ∧ (W ws x).contains d = true
end
end Pu
set_option Elab.async false
set_option linter.all false
set_option maxRecDepth 100000
set_option synthInstance.maxHeartbeats 0
set_option synthInstance.maxSize 100000
namespace Pu
open PySem PySem.Spec PyProof.Rows L2
section
variable {Q : D → Prop} {n : Int} {r s : List Int} {ws : List (List Int)} {e4 e5 e6 e7 : Option D} {K T : List (List Int)} {kvs : List (List Key × D)}
def kk (s : List Int) : List Key := s.map Sum.inl
theorem kk_inj : ∀ {a b : List Int}, kk a = kk b → a = b
  | [], [], _ => rfl
  | [], _ :: _, h => by simp [kk] at h
  | _ :: _, [], h => by simp [kk] at h
  | x :: a, y :: b, h => by
    simp only [kk, List.map_cons, List.cons.injEq, Sum.inl.injEq] at h
    rw [h.1, kk_inj (a := a) (b := b) h.2]
def Fd (K : List (List Int)) (kvs : List (List Key × D)) : Prop := kvs.map (·.1) = K.map kk ∧ ∀ kv ∈ kvs, ∃ z, kv.2 = .int z
end
end Pu
set_option Elab.async false
set_option linter.all false
set_option maxRecDepth 100000
set_option synthInstance.maxHeartbeats 0
set_option synthInstance.maxSize 100000
namespace Pu
open PySem PySem.Spec PyProof.Rows L2
section
variable {Q : D → Prop} {n : Int} {r s here row : List Int} {ws : List (List Int)} {e3 e4 e5 e6 e7 : Option D} {K T : List (List Int)} {kvs : List (List Key × D)}
def swapL (s : List Int) (k : Nat) : List Int := s.take k ++ [s.getD (k + 1) 0, s.getD k 0] ++ s.drop (k + 2)
theorem dInts_app (a b : List Int) : dInts a ++ dInts b = dInts (a ++ b) := by unfold dInts; rw [List.map_append]
end
end Pu
set_option Elab.async false
set_option linter.all false
set_option maxRecDepth 100000
set_option synthInstance.maxHeartbeats 0
set_option synthInstance.maxSize 100000
namespace Pu
open PySem PySem.Spec PyProof.Rows L2
section
variable {Q : D → Prop} {n : Int} {r s here row : List Int} {ws : List (List Int)} {e3 e4 e5 e6 e7 : Option D} {K T K' T' L : List (List Int)} {kvs kvs' : List (List Key × D)}
structure IV (ws : List (List Int)) (row : List Int) (K T : List (List Int)) : Prop where
  nd : K.Nodup
  row_in : row ∈ K
  rch : ∀ s ∈ K, Rch (apF ws) row s
  sub : ∀ s ∈ T, s ∈ K
  tl : T.length ≤ K.length
def Dn (ws : List (List Int)) (K : List (List Int)) (s : List Int) : Prop := ∀ j, j + 1 < s.length → apF ws (s.getD j 0) (s.getD (j + 1) 0) → swapL s j ∈ K
theorem Dn.mono (h : Dn ws K s) (k : ∀ s ∈ K, s ∈ K') : Dn ws K' s := fun j hj a => k _ (h j hj a)
structure Mo2 (K T K' T' : List (List Int)) : Prop where
  k : ∀ s ∈ K, s ∈ K'
  n : ∀ s ∈ K', s ∈ K ∨ s ∈ T'
  t : ∀ s ∈ T, s ∈ T'
  c : K'.length + T.length = K.length + T'.length
theorem Mo2.refl : Mo2 K T K T := ⟨fun _ h => h, fun _ h => .inl h, fun _ h => h, rfl⟩
theorem Mo2.trans {K2 T2 : List (List Int)} (a : Mo2 K T K' T') (b : Mo2 K' T' K2 T2) : Mo2 K T K2 T2 := ⟨fun s h => b.k s (a.k s h), fun s h => (b.n s h).elim (fun h => (a.n s h).imp id (b.t s)) .inr, fun s h => b.t s (a.t s h), by have := a.c; have := b.c; omega⟩
theorem IV.add (I : IV ws row K T) {x : List Int} (hx : x ∉ K) (hr : Rch (apF ws) row x) : IV ws row (K ++ [x]) (T ++ [x]) ∧ Mo2 K T (K ++ [x]) (T ++ [x]) := by
  refine ⟨⟨?_, List.mem_append_left _ I.row_in, fun s hs => ?_, fun s hs => ?_, by have := I.tl; simp; omega⟩, fun s h => List.mem_append_left _ h, fun s h => ?_, fun s h => List.mem_append_left _ h, by simp; omega⟩
  · refine List.nodup_append.mpr ⟨I.nd, by simp, fun a ha b hb => ?_⟩
    rw [List.mem_singleton.mp hb]
    exact fun e => hx (e ▸ ha)
  · rcases List.mem_append.mp hs with z | z
    · exact I.rch s z
    · rw [List.mem_singleton.mp z]; exact hr
  · rcases List.mem_append.mp hs with z | z
    · exact List.mem_append_left _ (I.sub s z)
    · exact List.mem_append_right _ z
  · rcases List.mem_append.mp h with z | z
    · exact .inl z
    · exact .inr (List.mem_append_right _ z)
end
end Pu
set_option Elab.async false
set_option linter.all false
set_option maxRecDepth 100000
set_option synthInstance.maxHeartbeats 0
set_option synthInstance.maxSize 100000
namespace Pu
open PySem PySem.Spec PyProof.Rows L2
section
variable {Q : D → Prop} {n : Int} {r s here row : List Int} {ws : List (List Int)} {e2 e3 e4 e5 e6 e7 : Option D} {K T K' T' L : List (List Int)} {kvs kvs' : List (List Key × D)}
def lay (L : List (List Int)) : Nat := if L = [] then 0 else 1
end
end Pu
set_option Elab.async false
set_option linter.all false
set_option maxRecDepth 100000
set_option synthInstance.maxHeartbeats 0
set_option synthInstance.maxSize 100000
namespace Pu
open PySem PySem.Spec PyProof.Rows L2
section
variable {Q : D → Prop} {n : Int} {r s o m row : List Int} {ws : List (List Int)} {e2 e3 e4 e5 e6 e7 e8 e9 e10 e11 e12 e13 e14 : Option D} {K T : List (List Int)} {kvs : List (List Key × D)}
theorem logs_iff : logsF n ws r = logsF n ws s ↔ ∀ d ∈ rangeI n, logF ws r d = logF ws s d := List.map_inj_left
theorem lot_in (h : WsOk n ws) (x d : Int) (hd : (W ws x).contains d = true) : d ∈ rangeI n := by
  have hm : d ∈ W ws x := by simpa using hd
  have hl : W ws x ∈ ws := by
    unfold W at hm ⊢
    rw [List.getD_eq_getElem?_getD] at hm ⊢
    cases e : ws[x.toNat]? with
    | none => rw [e] at hm; cases hm
    | some l => exact List.mem_of_getElem? e
  have := lotOk_all (h.2.2.2.2 _ hl).1 d hm
  exact List.mem_map.mpr ⟨d.toNat, List.mem_range.mpr (by omega), Int.toNat_of_nonneg this.1⟩
theorem desks_of (h : WsOk n ws) (hr : InW ws r) : Desks ws n r := fun x hx => by
  have h2 := hr x hx
  have hj : x.toNat < ws.length := by omega
  have hl : W ws x ∈ ws := by
    unfold W
    rw [List.getD_eq_getElem?_getD, List.getElem?_eq_getElem hj]
    exact List.getElem_mem hj
  obtain ⟨d, hd⟩ := List.exists_mem_of_ne_nil _ (h.2.2.2.2 _ hl).2.1
  have hc : (W ws x).contains d = true := by simpa using hd
  exact ⟨d, lot_in h x d hc, hc⟩
structure Tn (n : Int) (ws : List (List Int)) (row : List Int) (K : List (List Int)) (kvs : List (List Key × D)) : Prop where
  w : WsOk n ws
  r : InW ws row
  l : row.length ≤ 7
  f : Fd K kvs
  i : IV ws row K []
  d : ∀ s ∈ K, Dn ws K s
end
end Pu
set_option Elab.async false
set_option linter.all false
namespace Pu
open PySem PySem.Spec PyProof.Rows L2
section
variable {Q : D → Prop} {R : List D → Prop} {B : Bool → Prop} {N : PEnv → Prop} {env : PEnv} {d e : D} {o : Option D} {i : Nat} {E : PEnds} {m n : X1} {r : XL} {a b : XB} {s t : XS} {f : XF}
def boo (d : D) (B : Bool → Prop) : Prop := match d with
  | .bl b => B b
  | _ => False
theorem u_len_lst {xs : List D} : oLenA (.lst xs) Q = Q (.int (xs.length : Nat)) := by simp [oLenA, oLen, oLenT, oLenK]
theorem u_len_tup {xs : List D} : oLenA (.tup xs) Q = Q (.int (xs.length : Nat)) := by simp [oLenA, oLen, oLenT, oLenK]
theorem u_len_dT {xs : List (List Key × D)} : oLenA (.dT xs) Q = Q (.int (xs.length : Nat)) := by simp [oLenA, oLen, oLenT, oLenK]
theorem u_len_dK {xs : List (Key × D)} : oLenA (.dK xs) Q = Q (.int (xs.length : Nat)) := by simp [oLenA, oLen, oLenT, oLenK]
end
end Pu
set_option Elab.async false
set_option linter.all false
set_option maxRecDepth 100000
set_option synthInstance.maxHeartbeats 0
set_option synthInstance.maxSize 100000
namespace Pu
open PySem PySem.Spec PyProof.Rows L2
section
variable {Q : D → Prop} {n : Int} {r s o m row : List Int} {ws : List (List Int)} {e0 e1 e2 e3 e4 e5 e6 e7 e8 e9 e10 e11 e12 e13 e14 : Option D} {K T : List (List Int)} {kvs : List (List Key × D)}
structure LS (fch fdr fex ffl fma fne fro fsp fal : XF) : Prop where
  ch : ∀ {ws : List (List Int)} {r : List Int}, 1 ≤ ws.length → ws.length ≤ 10 → InW ws r → r.length ≤ 200 → FP fch [.non, nD (nearF ws), rD r] (fun d => ∃ s, d = rD s ∧ s.length ≤ r.length + 1 ∧ InW ws s)
  dr : ∀ {k : Int}, 0 < k → k < 2 ^ 30 → FP fdr [.non, .int k] (fun d => ∃ z, d = .int z ∧ 0 ≤ z ∧ z < k)
  ex : ∀ {ws : List (List Int)} {row : List Int}, InW ws row → ws.length ≤ 10 → row.length ≤ 7 → FP fex [nD (nearF ws), rD row] (fun d => ∃ K kvs, d = .dT kvs ∧ Fd K kvs ∧ IV ws row K [] ∧ ∀ s ∈ K, Dn ws K s)
  fl : ∀ x y : Bool, FEv ffl [.bl x, .bl y] (.bl (x == y))
  ma : ∀ {n : Int} {ws : List (List Int)}, WsOk n ws → FEv fma [pD n ws] (oD n ws)
  ne : ∀ {n : Int} {ws : List (List Int)}, WsLen ws → ws.length ≤ 10 → FEv fne [pD n ws] (nD (nearF ws))
  ro : ∀ {n most : Int} {ws : List (List Int)}, 0 ≤ most → most ≤ 100 → 1 ≤ ws.length → ws.length ≤ 10 → FP fro [.non, pD n ws, .int most] (fun d => ∃ r : List Int, d = rD r ∧ (r.length : Int) ≤ most ∧ InW ws r)
  sp : FP fsp [.non] (fun d => ∃ n ws, d = pD n ws ∧ WsOk n ws)
  al : ∀ {n : Int} {ws : List (List Int)} {r s : List Int}, WsOk n ws → RowOk ws r → RowOk ws s → FEv fal [oD n ws, rD r, rD s] (.bl (decide (logsF n ws r = logsF n ws s)))
section
variable {fch fdr fex ffl fma fne fro fsp fal : XF} [MF fch] [MF fdr] [MF fex] [MF ffl] [MF fma] [MF fne] [MF fro] [MF fsp] [MF fal]
end
end
end Pu
set_option Elab.async false
set_option linter.all false
set_option maxRecDepth 100000
set_option synthInstance.maxHeartbeats 0
set_option synthInstance.maxSize 100000
namespace Pu
open PySem PySem.Spec PyProof.Rows L2
section
variable {Q : D → Prop} {n : Int} {r s o m row : List Int} {ws : List (List Int)} {e0 e1 e2 e3 e4 e5 e6 e7 e8 e9 e10 e11 e12 e13 e14 : Option D} {K T : List (List Int)} {kvs : List (List Key × D)}
variable {fch fdr fex ffl fma fne fro fsp fal : XF} [MF fch] [MF fdr] [MF fex] [MF ffl] [MF fma] [MF fne] [MF fro] [MF fsp] [MF fal]
end
end Pu
set_option Elab.async false
set_option linter.all false
set_option maxRecDepth 100000
namespace Pu
open PySem PySem.Spec PyProof.Rows L2
section
variable {Q : D → Prop} {R : List D → Prop} {B : Bool → Prop} {env : PEnv} {d e x y : D} {o : Option D} {i j : Nat} {E : PEnds} {m n m1 m2 m3 : X1} {r : XL} {a b : XB} {s t : XS} {f : XF} {g : XG} {xs ds : List D} {k l : Bool} {O : O2} {P : O1}
theorem Zaa : xVar 0 (some d :: env) Q = Q d := (rfl)
theorem Zab : xVar (i + 1) (o :: env) Q = xVar i env Q := (rfl)
theorem w_c : xC d env Q = Q d := (rfl)
theorem Zac : xImm m env Q = m env fun d => d.imm = true ∧ Q d := (rfl)
theorem Zad : xNil env R = R [] := (rfl)
theorem Zae : xCons m r env R = m env fun d => r env fun ds => R (d :: ds) := (rfl)
theorem Zaf : xDice r env R = r env fun ds => R (.non :: ds) := (rfl)
theorem Zag : xCall f r env Q = r env fun ds => f ds Q := (rfl)
theorem Zah : x1 P m env Q = m env fun d => P d Q := (rfl)
theorem Zai : x2 O m n env Q = m env fun d => n env fun e => O d e Q := (rfl)
theorem Zaj : xTup r env Q = r env fun ds => ds.length ≤ sizeLine ∧ Q (.tup ds) := (rfl)
theorem Zak : xLst r env Q = r env fun ds => ds.length ≤ sizeLine ∧ Q (.lst ds) := (rfl)
theorem Zal : xIf a m n env Q = a env fun k => if k = true then m env Q else n env Q := (rfl)
theorem Zam : bAnd a b env B = a env fun c => if c = true then b env B else B false := (rfl)
theorem Zan : bOr a b env B = a env fun c => if c = true then B true else b env B := (rfl)
theorem Zao : bNot a env B = a env fun c => B (!c) := (rfl)
theorem Zap : bYes env B = B true := (rfl)
theorem Zaq : bTest m env B = m env fun d => boo d B := by unfold bTest boo; rfl
theorem Zar : boo (.bl k) B = B k := (rfl)
theorem Zas : xAnd m n env Q = m env fun d => boo d fun c => if c = true then n env Q else Q (.bl false) := by unfold xAnd boo; rfl
theorem Zat : xOr m n env Q = m env fun d => boo d fun c => if c = true then Q (.bl true) else n env Q := by unfold xOr boo; rfl
theorem Zau : xNot m env Q = m env fun d => boo d fun c => Q (.bl (!c)) := by unfold xNot boo; rfl
theorem Zav {O' : O2} : xChain O O' m1 m2 m3 env Q = m1 env fun x => m2 env fun y => O x y fun z => boo z fun k => if k = true then m3 env fun w => O' y w Q else Q (.bl false) := by unfold xChain boo; rfl
theorem Zaw : sSeq s t E env = s { nx := t E, rt := E.rt, bk := E.bk, ct := E.ct } env := (rfl)
theorem Zax : sSet i m E env = m env fun d => E.nx (env.set i (some d)) := (rfl)
theorem w_sif : sIf a s t E env = a env fun k => if k = true then s E env else t E env := (rfl)
theorem Zay : sIf a (sRet m) t E env = a env fun k => if k = true then m env E.rt else t E env := (rfl)
theorem Zaz : sIf a (sSeq s (sRet m)) t E env = a env fun k => if k = true then s { nx := sRet m E, rt := E.rt, bk := E.bk, ct := E.ct } env else t E env := (rfl)
theorem ZaA : sIf a sNever t E env = a env fun k => if k = true then False else t E env := (rfl)
theorem ZaB : sIf a sBreak t E env = a env fun k => if k = true then E.bk env else t E env := (rfl)
theorem ZaC : sIf a sCont t E env = a env fun k => if k = true then E.ct env else t E env := (rfl)
theorem ZaD : sRet m E env = m env E.rt := (rfl)
theorem ZaE : sNext E env = E.nx env := (rfl)
theorem ZaF : sBreak E env = E.bk env := (rfl)
theorem ZaG : sCont E env = E.ct env := (rfl)
theorem ZaH : sNever E env = False := (rfl)
theorem ZaI : sDrop m E env = m env fun _ => E.nx env := (rfl)
theorem ZaJ : List.set (o :: env) 0 (some d) = some d :: env := (rfl)
theorem ZaK : List.set (o :: env) (i + 1) (some d) = o :: List.set env i (some d) := (rfl)
theorem ZaL : List.set (o :: env) 0 none = none :: env := (rfl)
theorem ZaM : List.set (o :: env) (i + 1) none = o :: List.set env i none := (rfl)
theorem ZaN : bName i d env = fun Q => Q (env.set i (some d)) := (rfl)
def seqQ (d : D) (R : List D → Prop) : Prop := match d with
  | .lst ds => R ds
  | .tup ds => R ds
  | _ => False
theorem ZaO : mSeq m env R = m env fun d => seqQ d R := by unfold mSeq seqQ; rfl
theorem ZaP : seqQ (.lst ds) R = R ds := (rfl)
theorem ZaQ : seqQ (.tup ds) R = R ds := (rfl)
def rngQ (d : D) (R : List D → Prop) : Prop := match d with
  | .int j => RgOk j ∧ R (rgD 0 j.toNat)
  | _ => False
theorem ZaR : mRng1 m env R = m env fun d => rngQ d R := by unfold mRng1 rngQ; rfl
def rng2Q (d e : D) (R : List D → Prop) : Prop := match d, e with
  | .int i, .int j => RgOk i ∧ RgOk j ∧ R (rgD i (j - i).toNat)
  | _, _ => False
theorem ZaS : mRng2 m n env R = m env fun d => n env fun e => rng2Q d e R := by unfold mRng2 rng2Q; rfl
def enmQ (d : D) (R : List D → Prop) : Prop := match d with
  | .lst ds => R (enD 0 ds)
  | .tup ds => R (enD 0 ds)
  | _ => False
theorem ZaT : mEnmU m env R = m env fun d => enmQ d R := by unfold mEnmU enmQ; rfl
theorem ZaU : enmQ (.lst ds) R = R (enD 0 ds) := (rfl)
theorem ZaV : enmQ (.tup ds) R = R (enD 0 ds) := (rfl)
theorem ZaW : oGet (.lst xs) e Q = oIx (.lst xs) e Q := (rfl)
theorem ZaX {kvs : List (Key × D)} : oGet (.dK kvs) e Q = oIx (.dK kvs) e Q := (rfl)
theorem ZaY {kvs : List (List Key × D)} : oGet (.dT kvs) e Q = oIx (.dT kvs) e Q := (rfl)
theorem ZaZ {mi : XL} : sFor mi g s E env = mi env fun ds => sLoop g s ds E env := (rfl)
theorem Za0 {mi : XL} : xLc mi g a m env Q = mi env fun ds => lcLoop g a m env ds [] fun acc => Q (.lst acc) := (rfl)
theorem Za1 : sApp i m E env = xVar i env fun d => onL d fun xs => m env fun e => xs.length < sizeLine ∧ E.nx (env.set i (some (.lst (xs ++ [e])))) := (rfl)
theorem Za2 {k : List D → Prop} : onL (.lst xs) k = k xs := (rfl)
theorem Za3 : sPut i m n E env = n env fun x => xVar i env fun d => m env fun e => setD d e x fun d' => E.nx (env.set i (some d')) := (rfl)
theorem Za4 : sAug i O m E env = xVar i env fun d => m env fun e => O d e fun x => E.nx (env.set i (some x)) := (rfl)
theorem Za5 : sAugS i m n E env = xVar i env fun d => m env fun e => oGet d e fun old => n env fun w => oAdd1 old w fun z => setD d e z fun d' => E.nx (env.set i (some d')) := (rfl)
theorem Za6 {u : UL} : sLm i u r E env = xVar i env fun d => onL d fun xs => r env fun es => u xs es fun ds => E.nx (env.set i (some (.lst ds))) := (rfl)
theorem Za7 {z : XE} : sSetE i z E env = z env fun d env' => E.nx (env'.set i (some d)) := (rfl)
theorem Za8 {z : XE} : sRetE z E env = z env fun d _ => E.rt d := (rfl)
theorem Za9 {z : XE} : sAppE' i z E env = (isL env[i]? ∧ z env fun e env' => xVar i env' fun d => onL d fun xs => xs.length < sizeLine ∧ E.nx (env'.set i (some (.lst (xs ++ [e]))))) := (rfl)
theorem Zba {z : D → PEnv → Prop} : xPop i n env z = xVar i env fun d => onL d fun xs => n env fun e => popQ xs e fun x ys => z x (env.set i (some (.lst ys))) := (rfl)
theorem Zbb : sAsgG g m E env = m env fun d => g d env E.nx := (rfl)
def slcQ (d : D) (lo hi : Option Int) (Q : D → Prop) : Prop := match d with
  | .tup xs => immL xs = true ∧ Q (.tup (cutD xs lo hi))
  | .lst xs => immL xs = true ∧ Q (.lst (cutD xs lo hi))
  | _ => False
theorem Zbc {lo hi : PEnv → (Option Int → Prop) → Prop} : xSl m lo hi env Q = m env fun d => lo env fun l => hi env fun h => slcQ d l h Q := by unfold xSl slcQ; rfl
def lrgQ (d : D) (Q : D → Prop) : Prop := match d with
  | .int j => L2.RgOk 0 j ∧ Q (.lst (rgD 0 (j - 0).toNat))
  | _ => False
theorem Zbd : xLRg1 m env Q = m env fun d => lrgQ d Q := by unfold xLRg1 lrgQ; rfl
theorem Zbe {R : Option Int → Prop} : pNo env R = R none := (rfl)
def intQ (d : D) (R : Int → Prop) : Prop := match d with
  | .int i => R i
  | _ => False
theorem Zbg {z : Int} {R : Int → Prop} : intQ (.int z) R = R z := (rfl)
theorem Zbf {R : Option Int → Prop} : pYes m env R = m env fun d => intQ d fun i => R (some i) := by unfold pYes intQ; rfl
theorem Zbh {gs : XGs} {N : PEnv → Prop} {k : Nat} : bTup k gs (.tup ds) env N = (ds.length = k ∧ gs ds env N) := (rfl)
theorem Zbi {gs : XGs} {N : PEnv → Prop} : bCons g gs (d :: ds) env N = g d env fun env1 => gs ds env1 N := (rfl)
theorem Zbj {N : PEnv → Prop} : bNil [] env N = N env := (rfl)
theorem Zbk {G : Int → Int → D} {a b : Int} : oI G (.int a) (.int b) Q = Q (G a b) := (rfl)
theorem Zbl {c : Int → Int → Prop} {G : Int → Int → D} {a b : Int} : oIc c G (.int a) (.int b) Q = (c a b ∧ Q (G a b)) := (rfl)
theorem Zbm {a b : Int} : oAdd (.int a) (.int b) Q = Q (.int (a + b)) := (rfl)
theorem Zbn {a b : Int} : oAdd1 (.int a) (.int b) Q = Q (.int (a + b)) := (rfl)
theorem Zbo {a : Int} : oInt (.int a) Q = Q (.int a) := (rfl)
theorem Zbp {k : Bool} : oInt (.bl k) Q = Q (.int (if k then 1 else 0)) := (rfl)
theorem Zbq : oLenA (.lst xs) Q = Q (.int (xs.length : Nat)) := u_len_lst
theorem Zbr : oLenA (.tup xs) Q = Q (.int (xs.length : Nat)) := u_len_tup
theorem Zbs {kvs : List (List Key × D)} : oLenA (.dT kvs) Q = Q (.int (kvs.length : Nat)) := u_len_dT
theorem Zbt {kvs : List (Key × D)} : oLenA (.dK kvs) Q = Q (.int (kvs.length : Nat)) := u_len_dK
theorem Zbu : oIsN d .non Q = Q (.bl d.isN) := by unfold oIsN; simp [D.isN]
theorem Zbv : oNotN d .non Q = Q (.bl (!d.isN)) := by unfold oNotN; simp [D.isN]
theorem Zbw {a b : Bool} {neg : Bool} : oIsB neg (.bl a) (.bl b) Q = Q (.bl (xor neg (decide (a = b)))) := by cases a <;> cases b <;> cases neg <;> rfl
theorem Zbx : oTup (.lst xs) Q = (immL xs = true ∧ Q (.tup xs)) := (rfl)
theorem Zby : oTup (.tup xs) Q = (immL xs = true ∧ Q (.tup xs)) := (rfl)
end
end Pu
set_option Elab.async false
set_option linter.all false
set_option maxRecDepth 100000
namespace Pu
open PySem PySem.Spec PyProof.Rows L2
section
variable {Q : D → Prop} {R : List D → Prop} {a b i n : Int} {r s l ns : List Int} {ws us : List (List Int)} {near : List (List Bool)} {bs : List Bool} {p q : Bool} {α β : Type} {e : α → D} {xs ys : List α}
theorem Zb8 : D.imm (.int a) = true := (rfl)
theorem Zb9 : D.imm (.bl p) = true := (rfl)
theorem Zca : D.imm .non = true := (rfl)
theorem Zcb : D.imm (rD r) = true := immL_dInts r
theorem Zcc : D.imm (wD ws) = true := imm_wD ws
theorem Zcd : immL [] = true := (rfl)
theorem Zce {d : D} {ds : List D} : immL (d :: ds) = (D.imm d && immL ds) := (rfl)
theorem Zcf {ds : List D} : D.imm (.tup ds) = immL ds := by simp [D.imm]
theorem Zbz : List.map D.int r = dInts r := (rfl)
theorem ZbA : List.map rD ws = rowsD ws := (rfl)
theorem ZbC : immL (dInts r) = true := immL_dInts r
theorem ZbE : immL (rowsD ws) = true := immL_rows ws
theorem y_W : ws.getD a.toNat [] = W ws a := (rfl)
theorem Zcg : D.tup (dInts r) = rD r := (rfl)
theorem Zch : D.tup (rowsD ws) = wD ws := (rfl)
theorem Zci : ((dInts r).length : Nat) = r.length := dInts_len
theorem Zcj : ((rowsD ws).length : Nat) = ws.length := rowsD_len
theorem Zck : oLenA (rD r) Q = Q (.int (r.length : Nat)) := by unfold rD; rw [Zbr, dInts_len]
theorem Zcl : oLenA (wD ws) Q = Q (.int (ws.length : Nat)) := by unfold wD; rw [Zbr, rowsD_len]
theorem Zcm : oLenA (nD near) Q = Q (.int (near.length : Nat)) := by unfold nD; rw [Zbq, List.length_map]
theorem sh_int : Sh (.int a) := (rfl)
theorem sh_bl : Sh (.bl p) := by cases p <;> rfl
theorem eqb_rD : D.eqb (rD r) (rD s) = decide (r = s) := eqv_ints r s
theorem eqb_wD : D.eqb (wD ws) (wD us) = decide (ws = us) := eqv_rows ws us
theorem eqb_bl : D.eqb (.bl p) (.bl q) = (p == q) := (rfl)
theorem Zcn : oEq (.int a) (.int b) Q = Q (.bl (decide (a = b))) := by unfold oEq; rw [eqb_int]; simp [sh_int]
theorem Zco : oNe (.int a) (.int b) Q = Q (.bl (!decide (a = b))) := by unfold oNe; rw [eqb_int]; simp [sh_int]
theorem Zcp : oEq (rD r) (rD s) Q = Q (.bl (decide (r = s))) := by unfold oEq; rw [eqb_rD]; simp [sh_ints]
theorem Zcq : oNe (rD r) (rD s) Q = Q (.bl (!decide (r = s))) := by unfold oNe; rw [eqb_rD]; simp [sh_ints]
theorem sh_wD : Sh (wD ws) := sh_rows ws
theorem Zcr : oEq (wD ws) (wD us) Q = Q (.bl (decide (ws = us))) := by unfold oEq; rw [eqb_wD]; simp [sh_wD]
theorem Zcs : oNe (wD ws) (wD us) Q = Q (.bl (!decide (ws = us))) := by unfold oNe; rw [eqb_wD]; simp [sh_wD]
theorem Zct : oEq (.bl p) (.bl q) Q = Q (.bl (p == q)) := by unfold oEq; rw [eqb_bl]; simp [sh_bl]
theorem Zcu : oNe (.bl p) (.bl q) Q = Q (.bl (!(p == q))) := by unfold oNe; rw [eqb_bl]; simp [sh_bl]
theorem Zcv : oIn false (.int b) (rD l) Q = Q (.bl (l.contains b)) := propext ⟨fun h => by
  obtain ⟨_, _, h⟩ := h
  rw [any_ints, Bool.false_xor] at h; exact h, in_ints⟩
theorem Zcw : oIn true (.int b) (rD l) Q = Q (.bl (!l.contains b)) := propext ⟨fun h => by
  obtain ⟨_, _, h⟩ := h
  rw [any_ints, Bool.true_xor] at h; exact h, fun q => ⟨rfl, flat_ints l, by rw [any_ints, Bool.true_xor]; exact q⟩⟩
theorem Zcx {c : Int} : atF 3 "works" (oD c ws) Q = Q (wD ws) := propext ⟨fun h => h.2, fun h => ⟨rfl, h⟩⟩
theorem Zcy {c : Int} : atF 3 "desks" (oD c ws) Q = Q (.int c) := propext ⟨fun h => h.2, fun h => ⟨rfl, h⟩⟩
theorem Zcz : oIx (pD n ws) (.int 0) Q = Q (.int n) := (rfl)
theorem ZcA : oIx (pD n ws) (.int 1) Q = Q (wD ws) := (rfl)
theorem y_ixR (h0 : 0 ≤ i) (h1 : i < (r.length : Int)) (q : Q (.int (r.getD i.toNat 0))) : oIx (rD r) (.int i) Q := atD_int h0 h1 q
theorem y_ixL (h0 : 0 ≤ i) (h1 : i < (r.length : Int)) (q : Q (.int (r.getD i.toNat 0))) : oIx (.lst (dInts r)) (.int i) Q := atD_int h0 h1 q
theorem y_ixW (h0 : 0 ≤ i) (h1 : i < (ws.length : Int)) (q : Q (rD (ws.getD i.toNat []))) : oIx (wD ws) (.int i) Q := atD_some h0 (rows_at h0 h1) q
theorem rgD_ints : rgD 0 n.toNat = dInts (rangeI n) := by
  unfold rgD rangeI dInts
  rw [List.map_map]
  refine List.map_congr_left fun k _ => ?_
  show D.int (0 + (k : Int)) = D.int (Int.ofNat k)
  rw [Int.zero_add]
  rfl
theorem y_rng (h0 : -(2 ^ 62) ≤ n) (h1 : n < 2 ^ 62) (q : R (dInts (rangeI n))) : rngQ (.int n) R := ⟨⟨h0, h1⟩, by rw [rgD_ints]; exact q⟩
theorem y_rngN {k : Nat} (h1 : k ≤ 1000000) (q : R (dInts (rangeI (k : Int)))) : rngQ (.int (k : Int)) R := y_rng (by omega) (by omega) q
theorem ZbB : enmQ (wD ws) R = R (enD 0 (rowsD ws)) := (rfl)
theorem ZbD : List.map (logF ws r) (rangeI n) = logsF n ws r := (rfl)
theorem draw_ev {k : Int} {o : D} (h0 : 0 < k) (h1 : k < 2 ^ 30) (q : ∀ z, 0 ≤ z → z < k → Q (.int z)) : mDraw [o, .int k] Q := ⟨h0, h1, fun r r0 r1 => q r r0 r1⟩
theorem rangeI_len : (rangeI n).length = n.toNat := by simp [rangeI]
theorem mem_rangeI {x : Int} : x ∈ rangeI n ↔ 0 ≤ x ∧ x < n := ⟨rangeI_mem, fun h => List.mem_map.mpr ⟨x.toNat, List.mem_range.mpr (by omega), Int.toNat_of_nonneg h.1⟩⟩
theorem y_addR (h : r.length + s.length ≤ sizeLine) (q : Q (rD (r ++ s))) : oAdd (rD r) (rD s) Q := ⟨immL_dInts r, immL_dInts s, by rw [dInts_len, dInts_len]; exact h, by rw [dInts_app]; exact q⟩
theorem ZcB : oListA (rD r) Q = Q (.lst (dInts r)) := propext ⟨fun h => by
  rcases h with h | h | h
  · exact h.2
  · exact h.elim
  · exact h.elim, fun h => .inl ⟨immL_dInts r, h⟩⟩
theorem lc_G {g : XG} {mt : XB} {me : X1} {env : PEnv} (t : α → Bool) (f : α → β) (e' : β → D) : ∀ (xs : List α) (acc : List D) (Z : List D → Prop), acc.length + xs.length ≤ sizeLine →
    (∀ x ∈ xs, ∀ (R : D → Prop) (N : Prop), (t x = true → R (e' (f x))) → (t x = false → N) → g (e x) env fun env1 => mt env1 fun k => if k = true then me env1 R else N) →
    Z (acc ++ ((xs.filter t).map f).map e') → lcLoop g mt me env (xs.map e) acc Z
  | [], acc, Z, _, _, q => by simpa [lcLoop] using q
  | x :: xs, acc, Z, hl, h, q => by
    simp at hl
    refine h x List.mem_cons_self _ _ (fun ht => ⟨by omega, ?_⟩) fun ht => ?_
    · refine lc_G t f e' xs _ Z (by simp; omega) (fun y hy => h y (List.mem_cons_of_mem _ hy)) ?_
      rw [List.filter_cons_of_pos ht, List.map_cons, List.map_cons] at q
      simpa using q
    · refine lc_G t f e' xs _ Z (by omega) (fun y hy => h y (List.mem_cons_of_mem _ hy)) ?_
      rwa [List.filter_cons_of_neg (by rw [ht]; decide)] at q
theorem lc_FT {g : XG} {mt : XB} {me : X1} {env : PEnv} {Z : List D → Prop} (t : α → Bool) (f : α → β) (e' : β → D) (hl : xs.length ≤ sizeLine)
    (h : ∀ x ∈ xs, ∀ (R : D → Prop) (N : Prop), (t x = true → R (e' (f x))) → (t x = false → N) → g (e x) env fun env1 => mt env1 fun k => if k = true then me env1 R else N)
    (q : Z (((xs.filter t).map f).map e')) : lcLoop g mt me env (xs.map e) [] Z := lc_G t f e' xs [] Z (by simpa using hl) h q
theorem lc_M {g : XG} {me : X1} {env : PEnv} {Z : List D → Prop} (f : α → β) (e' : β → D) (hl : xs.length ≤ sizeLine) (h : ∀ x ∈ xs, ∀ R : D → Prop, R (e' (f x)) → g (e x) env fun env1 => me env1 R)
    (q : Z ((xs.map f).map e')) : lcLoop g bYes me env (xs.map e) [] Z :=
  lc_FT (fun _ => true) f e' hl (fun x hx R N h1 _ => by have := h x hx R (h1 rfl); exact this) (by rw [List.filter_eq_self.mpr fun _ _ => rfl]; exact q)
theorem loop_T {g : XG} {body : XS} [hs : MS body] [hg : MG g] {E : PEnds} {env : PEnv} (I : List α → List α → PEnv → Prop) (xs : List α) (h0 : I [] xs env)
    (hb : ∀ (p : List α) (x : α) (s : List α) (env : PEnv), p ++ x :: s = xs → I p (x :: s) env → g (e x) env fun env1 => body { nx := I (p ++ [x]) s, rt := E.rt, bk := E.nx, ct := I (p ++ [x]) s } env1)
    (hd : ∀ env, I xs [] env → E.nx env) : sLoop g body (xs.map e) E env := by
  refine loop_ev (b := g) (body := body) (fun ds env => ∃ p s, p ++ s = xs ∧ ds = s.map e ∧ I p s env) ?_ (fun d env Q Q' k q => hg.mono _ _ _ _ k q) (fun p q => hs.mono p q) _ _ ⟨[], xs, rfl, rfl, h0⟩ ?_
  · rintro d ds env ⟨p, s, e1, e2, h⟩
    cases s with
    | nil => cases e2
    | cons x s =>
      obtain ⟨rfl, rfl⟩ := List.cons.inj e2
      have up : ∀ z, I (p ++ [x]) s z → ∃ p' s', p' ++ s' = xs ∧ List.map e s = List.map e s' ∧ I p' s' z := fun z hz => ⟨p ++ [x], s, by simpa using e1, rfl, hz⟩
      exact hg.mono _ _ _ _ (fun env1 q => hs.mono (E := { nx := I (p ++ [x]) s, rt := E.rt, bk := E.nx, ct := I (p ++ [x]) s }) ⟨up, fun _ z => z, fun _ z => z, up⟩ q) (hb p x s env e1 h)
  · rintro env ⟨p, s, e1, e2, h⟩
    cases s with
    | nil => simp at e1; subst e1; exact hd env h
    | cons x s => cases e2
theorem loop_I {g : XG} {body : XS} [hs : MS body] [hg : MG g] {E : PEnds} {env : PEnv} (I : List Int → List Int → PEnv → Prop) (xs : List Int) (h0 : I [] xs env)
    (hb : ∀ (p : List Int) (x : Int) (s : List Int) (env : PEnv), p ++ x :: s = xs → I p (x :: s) env → g (.int x) env fun env1 => body { nx := I (p ++ [x]) s, rt := E.rt, bk := E.nx, ct := I (p ++ [x]) s } env1)
    (hd : ∀ env, I xs [] env → E.nx env) : sLoop g body (dInts xs) E env := loop_T I xs h0 hb hd
theorem map_bl_inj : ∀ {bs cs : List Bool}, bs.map D.bl = cs.map D.bl → bs = cs
  | [], [], _ => rfl
  | [], _ :: _, h => nomatch h
  | _ :: _, [], h => nomatch h
  | a :: bs, b :: cs, h => by
    obtain ⟨h1, h2⟩ := List.cons.inj (show D.bl a :: bs.map D.bl = D.bl b :: cs.map D.bl from h)
    cases h1
    rw [map_bl_inj h2]
theorem ZcC : oAny true (.lst (bs.map D.bl)) Q = Q (.bl (bs.all id)) := propext ⟨fun ⟨cs, e, h⟩ => by
  have : bs = cs := map_bl_inj e
  rw [this]; simpa using h, fun h => ⟨bs, rfl, by simpa using h⟩⟩
theorem ZcD : oAny false (.lst (bs.map D.bl)) Q = Q (.bl (bs.any id)) := propext ⟨fun ⟨cs, e, h⟩ => by
  have : bs = cs := map_bl_inj e
  rw [this]; simpa using h, fun h => ⟨bs, rfl, by simpa using h⟩⟩
theorem ZbF {c : String} : oIsA c (.int a) Q = Q (.bl (subB "int" c)) := (rfl)
theorem ZbG {c : String} : oIsA c (.bl p) Q = Q (.bl (subB "bool" c)) := (rfl)
theorem ZbH {c : String} {z : Str} : oIsA c (.str z) Q = Q (.bl (subB "str" c)) := (rfl)
theorem ZbI {c : String} : oIsA c .non Q = Q (.bl (subB "NoneType" c)) := (rfl)
theorem ZbJ {c : String} {ds : List D} : oIsA c (.tup ds) Q = Q (.bl (subB "tuple" c)) := (rfl)
theorem ZbK {c : String} {ds : List D} : oIsA c (.lst ds) Q = Q (.bl (subB "list" c)) := (rfl)
theorem ZbL {c : String} : oIsA c (rD r) Q = Q (.bl (subB "tuple" c)) := (rfl)
theorem ZbM {c : String} : oIsA c (wD ws) Q = Q (.bl (subB "tuple" c)) := (rfl)
theorem ZbN {cs : List String} : oIsAny cs (.int a) Q = Q (.bl (cs.any fun c => subB "int" c)) := (rfl)
theorem ZbO {cs : List String} : oIsAny cs (.bl p) Q = Q (.bl (cs.any fun c => subB "bool" c)) := (rfl)
theorem ZbP {cs : List String} {z : Str} : oIsAny cs (.str z) Q = Q (.bl (cs.any fun c => subB "str" c)) := (rfl)
theorem ZbQ {cs : List String} : oIsAny cs .non Q = Q (.bl (cs.any fun c => subB "NoneType" c)) := (rfl)
theorem ZbR {cs : List String} {ds : List D} : oIsAny cs (.tup ds) Q = Q (.bl (cs.any fun c => subB "tuple" c)) := (rfl)
theorem ZbS {cs : List String} {ds : List D} : oIsAny cs (.lst ds) Q = Q (.bl (cs.any fun c => subB "list" c)) := (rfl)
theorem sb1 : (["tuple", "list"].any fun c => subB "int" c) = false := by decide
theorem sb2 : (["tuple", "list"].any fun c => subB "bool" c) = false := by decide
theorem sb3 : (["tuple", "list"].any fun c => subB "str" c) = false := by decide
theorem sb4 : (["tuple", "list"].any fun c => subB "NoneType" c) = false := by decide
theorem sb5 : (["tuple", "list"].any fun c => subB "tuple" c) = true := by decide
theorem sb6 : (["tuple", "list"].any fun c => subB "list" c) = true := by decide
theorem sb7 : (["bool", "str"].any fun c => subB "bool" c) = true := by decide
theorem sb8 : (["bool", "str"].any fun c => subB "str" c) = true := by decide
theorem sb9 : subB "int" "bool" = false := by decide
theorem ZbT : subB "int" "str" = false := by decide
theorem ZbU : subB "int" "int" = true := by decide
theorem ZbV : subB "NoneType" "bool" = false := by decide
theorem ZbW : subB "NoneType" "str" = false := by decide
theorem ZbX : subB "bool" "bool" = true := by decide
theorem ZbY : subB "str" "bool" = false := by decide
theorem ZbZ : subB "str" "str" = true := by decide
theorem Zb0 : subB "tuple" "tuple" = true := by decide
theorem Zb1 : subB "tuple" "list" = false := by decide
theorem Zb2 : subB "list" "tuple" = false := by decide
theorem Zb3 : subB "list" "list" = true := by decide
theorem Zb4 : subB "bool" "int" = true := by decide
theorem Zb5 : (D.int a).isN = false := (rfl)
theorem Zb6 : D.non.isN = true := (rfl)
theorem Zb7 : (rD r).isN = false := (rfl)
end
end Pu
set_option Elab.async false
set_option linter.all false
set_option maxRecDepth 100000
set_option synthInstance.maxHeartbeats 0
set_option synthInstance.maxSize 100000
namespace Pu
open PySem PySem.Spec PyProof.Rows L2
section
variable {Q : D → Prop} {n : Int} {r s row left : List Int} {ws : List (List Int)}
def freeAt (ws : List (List Int)) : List Int → Int → Option Nat
  | [], _ => none
  | y :: r, x => if y = x then some 0 else if meetsF ws y x = true then none else (freeAt ws r x).map (· + 1)
theorem range_split {p s : List Int} {x : Int} (e : p ++ x :: s = rangeI n) : x = (p.length : Int) ∧ (p.length : Int) < n := by
  have hl := congrArg List.length e
  rw [rangeI_len] at hl
  simp at hl
  have h1 : (rangeI n)[p.length]? = some x := by rw [← e]; simp
  unfold rangeI at h1
  rw [List.getElem?_map, List.getElem?_range (by omega)] at h1
  simp at h1
  exact ⟨h1.symm, by omega⟩
def Pick (ws : List (List Int)) (left : List Int) (x : Int) (k : Nat) : Prop := freeAt ws left x = some k ∧ ∀ y ∈ left, y < x → freeAt ws left y = none
inductive Lst (ws : List (List Int)) : List Int → List Int → Prop
  | nil : Lst ws [] []
  | cons {left rest : List Int} {x : Int} {k : Nat} : Pick ws left x k → Lst ws (left.eraseIdx k) rest → Lst ws left (x :: rest)
theorem free_at : ∀ {left : List Int} {x : Int} {k : Nat}, freeAt ws left x = some k → left[k]? = some x ∧ ∀ j < k, ∀ y, left[j]? = some y → meetsF ws y x = false
  | [], _, _, h => nomatch h
  | y :: r, x, k, h => by
    unfold freeAt at h
    split at h
    · rename_i e
      cases h
      exact ⟨by rw [e] <;> rfl, fun j hj => absurd hj (Nat.not_lt_zero _)⟩
    · split at h
      · cases h
      · rename_i h2
        cases e : freeAt ws r x with
        | none => rw [e] at h; cases h
        | some m =>
          rw [e] at h
          cases h
          obtain ⟨g1, g2⟩ := free_at e
          refine ⟨by simpa using g1, fun j hj z hz => ?_⟩
          cases j with
          | zero => simp at hz; subst hz; simpa using h2
          | succ j => exact g2 j (Nat.lt_of_succ_lt_succ hj) z (by simpa using hz)
end
section
variable {n : Int} {r s a b row left : List Int} {ws : List (List Int)} {x z : Int}
theorem free_cut : ∀ {left : List Int} {x : Int} {k : Nat}, freeAt ws left x = some k → ∃ P R, left = P ++ x :: R ∧ P.length = k ∧ left.eraseIdx k = P ++ R ∧ ∀ y ∈ P, apF ws y x
  | [], _, _, h => nomatch h
  | y :: r, x, k, h => by
    unfold freeAt at h
    split at h
    · rename_i e
      cases h
      exact ⟨[], r, by rw [e] <;> rfl, rfl, rfl, fun _ h => nomatch h⟩
    · split at h
      · cases h
      · rename_i h2
        cases e : freeAt ws r x with
        | none => rw [e] at h; cases h
        | some m =>
          rw [e] at h
          cases h
          obtain ⟨P, R, g1, g2, g3, g4⟩ := free_cut e
          refine ⟨y :: P, R, by rw [g1] <;> rfl, by simp [g2], by simpa using g3, fun z hz => ?_⟩
          rcases List.mem_cons.mp hz with q | q
          · rw [q]; show meetsF ws y x = false; simpa using h2
          · exact g4 z q
theorem lst_rch (h : Lst ws row a) : Rch (apF ws) row a := by
  induction h with
  | nil => exact .refl _
  | @cons left rest x k p _ ih =>
    obtain ⟨P, R, e1, e2, e3, e4⟩ := free_cut p.1
    rw [e3] at ih
    rw [e1]
    exact (Rch.bubble P e4).trans (Rch.cons x ih)
theorem logF_none {P : List Int} {x d : Int} (hd : (W ws x).contains d = true) (h : ∀ y ∈ P, apF ws y x) : logF ws P d = [] := by
  unfold logF
  rw [List.filter_eq_nil_iff]
  intro y hy hc
  exact apF_no (h y hy) hc hd
theorem free_head {k : Nat} (h : freeAt ws r z = some k) {d : Int} (hd : (W ws z).contains d = true) : (logF ws r d).head? = some z := by
  obtain ⟨P, R, e1, _, _, e4⟩ := free_cut h
  rw [e1, logF_app, logF_none hd e4, List.nil_append, logF_cons, if_pos hd]
  rfl
theorem head_free : ∀ {r : List Int} {z : Int}, W ws z ≠ [] → (∀ d, (W ws z).contains d = true → (logF ws r d).head? = some z) → ∃ k, freeAt ws r z = some k
  | [], z, hz, h => by
    obtain ⟨d, hd⟩ := List.exists_mem_of_ne_nil _ hz
    have := h d (by simpa using hd)
    cases this
  | y :: r, z, hz, h => by
    unfold freeAt
    by_cases e : y = z
    · rw [if_pos e]; exact ⟨_, rfl⟩
    · rw [if_neg e]
      cases hm : meetsF ws y z with
      | true =>
        obtain ⟨d, hd1, hd2⟩ := List.any_eq_true.mp hm
        have hy : (W ws y).contains d = true := by simpa using hd1
        have := h d hd2
        rw [logF_cons, if_pos hy] at this
        exact absurd (Option.some.inj this) e
      | false =>
        obtain ⟨k, hk⟩ := head_free (r := r) hz fun d hd => by
          have := h d hd
          have hn : ¬ (W ws y).contains d = true := fun hy => apF_no (ws := ws) hm hy hd
          rwa [logF_cons, if_neg hn] at this
        rw [if_neg (by decide), hk]
        exact ⟨_, rfl⟩
def SameLogs (ws : List (List Int)) (r s : List Int) : Prop := ∀ d, logF ws r d = logF ws s d
def NoEmpty (ws : List (List Int)) (r : List Int) : Prop := ∀ x ∈ r, W ws x ≠ []
theorem same_nil (h : SameLogs ws [] s) (hs : NoEmpty ws s) : s = [] := by
  cases s with
  | nil => rfl
  | cons y s =>
    obtain ⟨d, hd⟩ := List.exists_mem_of_ne_nil _ (hs y List.mem_cons_self)
    have hc : (W ws y).contains d = true := by simpa using hd
    have := h d
    rw [logF_cons, if_pos hc] at this
    cases this
theorem same_mem (h : SameLogs ws r s) (hr : NoEmpty ws r) (hx : x ∈ r) : x ∈ s := by
  obtain ⟨d, hd⟩ := List.exists_mem_of_ne_nil _ (hr x hx)
  have hc : (W ws x).contains d = true := by simpa using hd
  have h1 : x ∈ logF ws r d := List.mem_filter.mpr ⟨hx, hc⟩
  rw [h d] at h1
  exact (List.mem_filter.mp h1).1
theorem lst_nil (h : Lst ws [] a) : a = [] := by
  cases h with
  | nil => rfl
  | cons p _ => cases p.1
theorem lst_same (h1 : Lst ws r a) : ∀ {s b : List Int}, Lst ws s b → SameLogs ws r s → NoEmpty ws r → NoEmpty ws s → a = b := by
  induction h1 with
  | nil =>
    intro s b h2 hs _ n2
    rw [same_nil hs n2] at h2
    exact (lst_nil h2).symm
  | @cons left rest x k p h1 ih =>
    intro s b h2 hs n1 n2
    have xl : x ∈ left := List.mem_of_getElem? (free_at p.1).1
    have xs := same_mem hs n1 xl
    cases h2 with
    | nil => cases xs
    | @cons _ rest2 y k2 p2 h2 =>
      have yl : y ∈ s := List.mem_of_getElem? (free_at p2.1).1
      have ys : y ∈ left := same_mem (fun d => (hs d).symm) n2 yl
      have e : x = y := by
        obtain ⟨k3, f3⟩ := head_free (r := s) (z := x) (n1 x xl) fun d hd => by rw [← hs d]; exact free_head p.1 hd
        obtain ⟨k4, f4⟩ := head_free (r := left) (z := y) (n2 y yl) fun d hd => by rw [hs d]; exact free_head p2.1 hd
        by_cases q : x < y
        · have := p2.2 x xs q; rw [f3] at this; cases this
        · by_cases q2 : y < x
          · have := p.2 y ys q2; rw [f4] at this; cases this
          · omega
      subst e
      congr 1
      obtain ⟨P, R, e1, _, e3, e4⟩ := free_cut p.1
      obtain ⟨P2, R2, g1, _, g3, g4⟩ := free_cut p2.1
      refine ih h2 (fun d => ?_) (fun z hz => n1 z (List.mem_of_mem_eraseIdx hz)) (fun z hz => n2 z (List.mem_of_mem_eraseIdx hz))
      have l1 := (Rch.bubble (R := R) P e4).logs d
      have l2 := (Rch.bubble (R := R2) P2 g4).logs d
      rw [← e1, ← e3, logF_cons] at l1
      rw [← g1, ← g3, logF_cons, ← hs d, ← l1] at l2
      split at l2
      · exact (List.cons.inj l2).2.symm
      · exact l2.symm
theorem lst_iff (h : WsOk n ws) (hr : InW ws r) (hs : InW ws s) (h1 : Lst ws r a) (h2 : Lst ws s b) : logsF n ws r = logsF n ws s ↔ a = b := by
  have ne : ∀ {t : List Int}, InW ws t → NoEmpty ws t := fun ht x hx e => by
    obtain ⟨d, _, hd⟩ := desks_of h ht x hx
    rw [e] at hd; cases hd
  constructor
  · intro e
    refine lst_same h1 h2 (fun d => ?_) (ne hr) (ne hs)
    by_cases hd : d ∈ rangeI n
    · exact logs_iff.mp e d hd
    · have out : ∀ t : List Int, logF ws t d = [] := fun t => by
        unfold logF
        rw [List.filter_eq_nil_iff]
        intro y _ hc
        exact hd (lot_in h y d hc)
      rw [out, out]
  · rintro rfl
    exact logs_iff.mpr fun d _ => ((lst_rch h1).logs d).symm.trans ((lst_rch h2).logs d)
end
end Pu
set_option Elab.async false
set_option linter.all false
set_option maxRecDepth 100000
set_option synthInstance.maxHeartbeats 0
set_option synthInstance.maxSize 100000
namespace Pu
open PySem PySem.Spec PyProof.Rows L2
section
variable {Q : D → Prop} {n i : Int} {r s row left : List Int} {ws us : List (List Int)}
local macro_rules
  | `(tactic| and_intros) => `(tactic| (simp only [Zaa, Zab, w_c, Zac, Zad, Zae, Zaf, Zag, Zah, Zai, Zaj, Zak, Zal, Zam, Zan, Zao, Zap, Zaq, Zar, Zas, Zat, Zau, Zav, Zaw, Zax, Zay, Zaz, ZaA, ZaB, ZaC, ZaD, ZaE, ZaF, ZaG, ZaH, ZaI, ZaJ, ZaK, ZaL, ZaM, ZaN, ZaO, ZaP, ZaQ, ZaR, ZaS, ZaZ, Za0, Za1, Za2, Za3, Za4, Za5, Za6, Za7, Za8, Za9, Zba, Zbb, Zbc, Zbd, Zbe, Zbf, Zbg, Zbh, Zbi, Zbj, Zbk, Zbl, Zbm, Zbn, Zbo, Zbp, Zbq, Zbr, Zbs, Zbt, Zbu, Zbv, Zbw, Zbx, Zby, Zbz, ZbA, ZbC, ZbD, ZbE, y_W, ZbF, ZbG, ZbH, ZbI, ZbJ, ZbK, ZbL, ZbM, ZbN, ZbO, ZbP, ZbQ, ZbR, ZbS, sb1, sb2, sb3, sb4, sb5, sb6, sb7, sb8, sb9, ZbT, ZbU, ZbV, ZbW, ZbX, ZbY, ZbZ, Zb0, Zb1, Zb2, Zb3, Zb4, Zb5, Zb6, Zb7, List.map_id, id_eq, BEq.rfl, bne_self_eq_false, Zb8, Zb9, Zca, Zcb, Zcc, Zcd, Zce, Zcf, Zcg, Zch, Zci, Zcj, Zck, Zcl, Zcm, Zcn, Zco, Zcp, Zcq, Zcr, Zcs, Zct, Zcu, Zcv, Zcw, Zcx, Zcy, Zcz, ZcA, ZcB, ZcC, ZcD, true_and, and_true, Bool.and_self, Bool.and_true, Bool.true_and, Bool.not_true, Bool.not_false, Bool.false_eq_true, if_false, if_true, ite_true, ite_false, decide_true, decide_false, reduceIte]))
local macro_rules
  | `(tactic| array_get_dec) => `(tactic| (simp only [env0, List.map_cons, List.map_nil, List.length_cons, List.length_nil, List.replicate_succ, List.replicate_zero, List.cons_append, List.nil_append, Nat.reduceSub, Nat.reduceAdd, Nat.zero_add, Zaa, Zab, w_c, Zac, Zad, Zae, Zaf, Zag, Zah, Zai, Zaj, Zak, Zal, Zam, Zan, Zao, Zap, Zaq, Zar, Zas, Zat, Zau, Zav, Zaw, Zax, Zay, Zaz, ZaA, ZaB, ZaC, ZaD, ZaE, ZaF, ZaG, ZaH, ZaI, ZaJ, ZaK, ZaL, ZaM, ZaN, ZaO, ZaP, ZaQ, ZaR, ZaS, ZaZ, Za0, Za1, Za2, Za3, Za4, Za5, Za6, Za7, Za8, Za9, Zba, Zbb, Zbc, Zbd, Zbe, Zbf, Zbg, Zbh, Zbi, Zbj, Zbk, Zbl, Zbm, Zbn, Zbo, Zbp, Zbq, Zbr, Zbs, Zbt, Zbu, Zbv, Zbw, Zbx, Zby, Zbz, ZbA, ZbC, ZbD, ZbE, y_W, ZbF, ZbG, ZbH, ZbI, ZbJ, ZbK, ZbL, ZbM, ZbN, ZbO, ZbP, ZbQ, ZbR, ZbS, sb1, sb2, sb3, sb4, sb5, sb6, sb7, sb8, sb9, ZbT, ZbU, ZbV, ZbW, ZbX, ZbY, ZbZ, Zb0, Zb1, Zb2, Zb3, Zb4, Zb5, Zb6, Zb7, List.map_id, id_eq, BEq.rfl, bne_self_eq_false, Zb8, Zb9, Zca, Zcb, Zcc, Zcd, Zce, Zcf, Zcg, Zch, Zci, Zcj, Zck, Zcl, Zcm, Zcn, Zco, Zcp, Zcq, Zcr, Zcs, Zct, Zcu, Zcv, Zcw, Zcx, Zcy, Zcz, ZcA, ZcB, ZcC, ZcD, true_and, and_true, Bool.and_self, Bool.and_true, Bool.true_and, Bool.not_true, Bool.not_false, Bool.false_eq_true, if_false, if_true, ite_true, ite_false, decide_true, decide_false, reduceIte]))
theorem lawlogs_ev (h : WsOk n ws) (hr : RowOk ws r) : FEv m__law_logs [pD n ws, rD r] (wD (logsF n ws r)) := fun Q q => by
  have hs : 100 ≤ sizeLine := by decide
  obtain ⟨h1, h2, h3, h4, h5⟩ := h
  unfold m__law_logs fnM b__law_logs
  array_get_dec
  refine y_rng (by omega) (by omega) ?_
  refine lc_M (fun d => logF ws r d) rD (by rw [rangeI_len]; omega) (fun d hd R hR => ?_) ?_
  · and_intros
    refine lc_FT (fun x => (W ws x).contains d) id D.int (by have := hr.1; omega) (fun x hx R N k1 k2 => ?_) ?_
    · and_intros
      refine y_ixW (hr.2 x hx).1 (hr.2 x hx).2 ?_
      and_intros
      split
      · rename_i hh; exact k1 hh
      · rename_i hh; exact k2 (by simpa using hh)
    · and_intros
      exact hR
  · and_intros
    exact q
inductive Pl : Nat → D → Prop
  | int {k : Nat} (a : Int) : Pl k (.int a)
  | bl {k : Nat} (b : Bool) : Pl k (.bl b)
  | non {k : Nat} : Pl k .non
  | tup {k : Nat} {ds : List D} (h : ∀ d ∈ ds, Pl k d) (l : ds.length ≤ 1000000) : Pl (k + 1) (.tup ds)
  | lst {k : Nat} {ds : List D} (h : ∀ d ∈ ds, Pl k d) (l : ds.length ≤ 1000000) : Pl (k + 1) (.lst ds)
theorem whole_refl {a : Int} : FEv m__law_whole [.int a, .int a] (.bl true) := fun Q q => by
  unfold m__law_whole fnM b__law_whole
  array_get_dec
  exact q
end
end Pu
set_option Elab.async false
set_option linter.all false
set_option maxRecDepth 100000
set_option synthInstance.maxHeartbeats 0
set_option synthInstance.maxSize 100000
namespace Pu
open PySem PySem.Spec PyProof.Rows L2
section
variable {Q : D → Prop} {n i : Int} {r s row left : List Int} {ws us : List (List Int)}
end
end Pu
set_option Elab.async false
set_option linter.all false
set_option maxRecDepth 100000
set_option synthInstance.maxHeartbeats 0
set_option synthInstance.maxSize 100000
namespace Pu
open PySem PySem.Spec PyProof.Rows L2
section
variable {Q : D → Prop} {n i : Int} {r s row left : List Int} {ws us L : List (List Int)} {C : List Int}
def Rem (L : List (List Int)) (C : List Int) (d : Int) : List Int := if 0 ≤ d ∧ d < (L.length : Int) then (L.getD d.toNat []).drop (C.getD d.toNat 0).toNat else []
def Ready (ws : List (List Int)) (R : Int → List Int) (x : Int) : Prop := W ws x ≠ [] ∧ ∀ d ∈ W ws x, (R d).head? = some x
instance {ws : List (List Int)} {R : Int → List Int} {x : Int} : Decidable (Ready ws R x) := by unfold Ready; infer_instance
def firstR (ws : List (List Int)) (R : Int → List Int) : Option Int := (rangeI ws.length).find? fun x => decide (Ready ws R x)
def COk : List (List Int) → List Int → Prop
  | [], [] => True
  | l :: L, c :: C => 0 ≤ c ∧ c ≤ (l.length : Int) ∧ COk L C
  | _, _ => False
theorem COk.len : ∀ {L : List (List Int)} {C : List Int}, COk L C → C.length = L.length
  | [], [], _ => rfl
  | l :: L, c :: C, h => by simp [COk.len h.2.2]
  | [], _ :: _, h => h.elim
  | _ :: _, [], h => h.elim
theorem COk.at : ∀ {L : List (List Int)} {C : List Int} (k : Nat), COk L C → 0 ≤ C.getD k 0 ∧ C.getD k 0 ≤ ((L.getD k []).length : Int)
  | [], [], k, _ => by simp
  | l :: L, c :: C, 0, h => by simpa using ⟨h.1, h.2.1⟩
  | l :: L, c :: C, k + 1, h => by simpa using COk.at k h.2.2
  | [], _ :: _, _, h => h.elim
  | _ :: _, [], _, h => h.elim
theorem COk.set : ∀ {L : List (List Int)} {C : List Int} (k : Nat) {c : Int}, COk L C → 0 ≤ c → c ≤ ((L.getD k []).length : Int) → COk L (C.set k c)
  | [], [], k, c, _, _, _ => by simp [COk]
  | l :: L, c0 :: C, 0, c, h, h1, h2 => ⟨h1, by simpa using h2, h.2.2⟩
  | l :: L, c0 :: C, k + 1, c, h, h1, h2 => ⟨h.1, h.2.1, COk.set k h.2.2 h1 (by simpa using h2)⟩
  | [], _ :: _, _, _, h, _, _ => h.elim
  | _ :: _, [], _, _, h, _, _ => h.elim
def tot (L : List (List Int)) : Int := (L.map fun l => (l.length : Int)).sum
theorem COk.sum : ∀ {L : List (List Int)} {C : List Int}, COk L C → 0 ≤ C.sum ∧ C.sum ≤ tot L
  | [], [], _ => by simp [tot]
  | l :: L, c :: C, h => by
    have := COk.sum h.2.2
    have h1 := h.1
    have h2 := h.2.1
    simp only [tot, List.map_cons, List.sum_cons] at this ⊢
    omega
  | [], _ :: _, h => h.elim
  | _ :: _, [], h => h.elim
theorem COk.zero : ∀ L : List (List Int), COk L (List.replicate L.length 0)
  | [] => trivial
  | l :: L => ⟨Int.le_refl _, by omega, COk.zero L⟩
theorem w_mem {x : Int} (hx : 0 ≤ x ∧ x < (ws.length : Int)) : W ws x ∈ ws := by
  unfold W
  rw [List.getD_eq_getElem?_getD, List.getElem?_eq_getElem (show x.toNat < ws.length by omega)]
  exact List.getElem_mem _
end
end Pu
set_option Elab.async false
set_option linter.all false
set_option maxRecDepth 100000
set_option synthInstance.maxHeartbeats 0
set_option synthInstance.maxSize 100000
namespace Pu
open PySem PySem.Spec PyProof.Rows L2
section
variable {Q : D → Prop} {n i : Int} {r s row left : List Int} {ws us L : List (List Int)} {C : List Int}
inductive Run (ws : List (List Int)) : (Int → List Int) → List Int → (Int → List Int) → Prop
  | stop {R : Int → List Int} : firstR ws R = none → Run ws R [] R
  | step {R R' : Int → List Int} {x : Int} {row : List Int} : firstR ws R = some x → Run ws (fun d => if d ∈ W ws x then (R d).tail else R d) row R' → Run ws R (x :: row) R'
def bump (C : List Int) (ds : List Int) : List Int := ds.foldl (fun C d => C.set d.toNat (C.getD d.toNat 0 + 1)) C
def zeros (k : Nat) : List Int := List.replicate k 0
end
end Pu
set_option Elab.async false
set_option linter.all false
set_option maxRecDepth 100000
set_option synthInstance.maxHeartbeats 0
set_option synthInstance.maxSize 100000
namespace Pu
open PySem PySem.Spec PyProof.Rows L2
section
variable {Q : D → Prop} {n i : Int} {r s row left a b : List Int} {ws us L : List (List Int)} {C : List Int}
theorem ne_of_wsok (h : WsOk n ws) {t : List Int} (ht : InW ws t) : NoEmpty ws t := fun x hx e => by
  obtain ⟨d, _, hd⟩ := desks_of h ht x hx
  rw [e] at hd; cases hd
theorem tot_le : ∀ {L : List (List Int)} {m : Nat}, (∀ l ∈ L, l.length ≤ m) → tot L ≤ (L.length * m : Nat)
  | [], m, _ => by simp [tot]
  | l :: L, m, h => by
    have := tot_le (L := L) (m := m) fun x hx => h x (List.mem_cons_of_mem _ hx)
    have := h l List.mem_cons_self
    simp only [tot, List.map_cons, List.sum_cons, List.length_cons, Nat.succ_mul] at *
    omega
end
end Pu
set_option Elab.async false
set_option linter.all false
set_option maxRecDepth 100000
set_option synthInstance.maxHeartbeats 0
set_option synthInstance.maxSize 100000
namespace Pu
open PySem PySem.Spec PyProof.Rows L2
section
variable {Q : D → Prop} {n i : Int} {r s row left a b : List Int} {ws us L K : List (List Int)} {C : List Int} {kvs : List (List Key × D)} {dd : D}
theorem free_head0 {x : Int} {l : List Int} : freeAt ws (x :: l) x = some 0 := by unfold freeAt; rw [if_pos rfl]
theorem lst_own_cons {x : Int} {l : List Int} : Lst ws (x :: l) (x :: l) ↔ (∀ y ∈ x :: l, y < x → freeAt ws (x :: l) y = none) ∧ Lst ws l l := by
  constructor
  · intro h
    cases h with
    | cons p h2 =>
      have e := p.1
      rw [free_head0] at e
      cases e
      exact ⟨p.2, h2⟩
  · rintro ⟨h1, h2⟩
    exact .cons ⟨free_head0, h1⟩ h2
theorem lst_own (h1 : Lst ws r a) : NoEmpty ws r → Lst ws a a := by
  induction h1 with
  | nil => exact fun _ => .nil
  | @cons left rest x k p h2 ih =>
    intro n1
    have n2 : NoEmpty ws (left.eraseIdx k) := fun z hz => n1 z (List.mem_of_mem_eraseIdx hz)
    have rc := lst_rch (.cons p h2)
    refine lst_own_cons.mpr ⟨fun y hy hlt => ?_, ih n2⟩
    have yl := (rc.mem y).mp hy
    cases e : freeAt ws (x :: rest) y with
    | none => rfl
    | some j =>
      obtain ⟨j2, e2⟩ := head_free (r := left) (z := y) (n1 y yl) fun d hd => by rw [← rc.logs d]; exact free_head e hd
      rw [p.2 y yl hlt] at e2
      cases e2
theorem lst_len (h : Lst ws r a) : a.length = r.length := (lst_rch h).len
theorem lst_inW (h : Lst ws r a) (hr : InW ws r) : InW ws a := fun x hx => hr x (((lst_rch h).mem x).mp hx)
end
end Pu
set_option Elab.async false
set_option linter.all false
set_option maxRecDepth 100000
set_option synthInstance.maxHeartbeats 0
set_option synthInstance.maxSize 100000
namespace Pu
open PySem PySem.Spec PyProof.Rows L2
section
variable {Q : D → Prop} {n i : Int} {r s row left a b g C D0 : List Int} {ws us L K T : List (List Int)} {kvs : List (List Key × D)} {x : Int}
inductive Rh (ws L : List (List Int)) : List Int → List Int → Prop
  | nil : Rh ws L [] (zeros L.length)
  | snoc {r C : List Int} {x : Int} : Rh ws L r C → 0 ≤ x ∧ x < (ws.length : Int) → Ready ws (Rem L C) x → Rh ws L (r ++ [x]) (bump C (W ws x))
end
end Pu
set_option Elab.async false
set_option linter.all false
set_option maxRecDepth 100000
set_option synthInstance.maxHeartbeats 0
set_option synthInstance.maxSize 100000
namespace Pu
open PySem PySem.Spec PyProof.Rows L2
section
variable {Q : D → Prop} {n i : Int} {r s row left a b g B C D0 dn : List Int} {ws us L K T p : List (List Int)} {kvs : List (List Key × D)} {x : Int} {f : List Int → List Int}
theorem look_put {κ : Type} [DecidableEq κ] {k k' : κ} {v : D} : ∀ {kvs : List (κ × D)}, lookD (putD kvs k v) k' = if k' = k then some v else lookD kvs k' := by
  have mapL : ∀ {kvs : List (κ × D)}, lookD (kvs.map fun kv => if kv.1 = k then (kv.1, v) else kv) k' = if k' = k then (if kvs.any fun kv => decide (kv.1 = k) then some v else none) else lookD kvs k' := by
    intro kvs
    induction kvs with
    | nil => unfold lookD; simp
    | cons q kvs ih =>
      unfold lookD at ih ⊢
      rw [List.map_cons, List.find?_cons, List.find?_cons]
      by_cases e : q.1 = k
      · rw [if_pos e]
        by_cases e2 : k' = k
        · subst e2
          simp [e]
        · have : ¬ q.1 = k' := fun z => e2 (z.symm.trans e)
          rw [if_neg e2] at ih
          simp only [this, decide_false, if_neg e2]
          exact ih
      · rw [if_neg e]
        by_cases e2 : k' = k
        · subst e2
          simp only [decide_eq_false e, if_true, List.any_cons, Bool.false_or] at ih ⊢
          exact ih
        · rw [if_neg e2] at ih ⊢
          by_cases e3 : q.1 = k'
          · simp [e3]
          · simp only [decide_eq_false e3]
            exact ih
  have none_of : ∀ {kvs : List (κ × D)}, (kvs.any fun kv => decide (kv.1 = k)) = false → kvs.find? (fun kv => decide (kv.1 = k)) = none := fun h => by
    rw [List.find?_eq_none]
    intro z hz q
    have := List.any_eq_false.mp h z hz
    exact this q
  intro kvs
  unfold putD
  split
  · rename_i h
    rw [mapL, h, if_pos rfl]
  · rename_i h
    unfold lookD
    rw [List.find?_append]
    by_cases e : k' = k
    · subst e
      rw [none_of ((Bool.not_eq_true _).mp h), if_pos rfl]
      simp
    · rw [if_neg e]
      have : List.find? (fun kv => decide (kv.1 = k')) [(k, v)] = none := by simp [Ne.symm e]
      rw [this, Option.or_none]
structure KV (kvs : List (List Key × D)) (K : List (List Int)) (f : List Int → List Int) : Prop where
  keys : kvs.map (·.1) = K.map kk
  nd : K.Nodup
  val : ∀ C ∈ K, lookD kvs (kk C) = some (rD (f C))
theorem KV.none (h : KV kvs K f) (hc : C ∉ K) : lookD kvs (kk C) = none := by
  unfold lookD
  rw [List.find?_eq_none.mpr]
  · rfl
  · intro z hz q
    have : z.1 ∈ kvs.map (·.1) := List.mem_map.mpr ⟨z, hz, rfl⟩
    rw [h.keys] at this
    obtain ⟨t, ht, e⟩ := List.mem_map.mp this
    exact hc (kk_inj (e.trans (of_decide_eq_true q)) ▸ ht)
theorem KV.any (h : KV kvs K f) : (kvs.any fun kv => decide (kv.1 = kk C)) = decide (C ∈ K) := by
  by_cases hc : C ∈ K
  · rw [decide_eq_true hc, List.any_eq_true]
    have : kk C ∈ kvs.map (·.1) := by rw [h.keys]; exact List.mem_map.mpr ⟨C, hc, rfl⟩
    obtain ⟨z, hz, e⟩ := List.mem_map.mp this
    exact ⟨z, hz, decide_eq_true e⟩
  · rw [decide_eq_false hc, List.any_eq_false]
    intro z hz q
    have : z.1 ∈ kvs.map (·.1) := List.mem_map.mpr ⟨z, hz, rfl⟩
    rw [h.keys] at this
    obtain ⟨t, ht, e⟩ := List.mem_map.mp this
    exact hc (kk_inj (e.trans (of_decide_eq_true q)) ▸ ht)
theorem KV.len (h : KV kvs K f) : kvs.length = K.length := by have := congrArg List.length h.keys; simpa using this
def updf (f : List Int → List Int) (C r : List Int) : List Int → List Int := fun B => if B = C then r else f B
def addK (K : List (List Int)) (C : List Int) : List (List Int) := if C ∈ K then K else K ++ [C]
theorem mem_addK : B ∈ addK K C ↔ B ∈ K ∨ B = C := by
  unfold addK
  split
  · exact ⟨.inl, fun h => h.elim id fun e => e ▸ ‹_›⟩
  · simp
theorem KV.put (h : KV kvs K f) : KV (putD kvs (kk C) (rD r)) (addK K C) (updf f C r) := by
  refine ⟨?_, ?_, fun B hB => ?_⟩
  · unfold putD addK
    rw [h.any]
    by_cases hc : C ∈ K
    · rw [decide_eq_true hc, if_pos rfl, if_pos hc, ← h.keys, List.map_map]
      refine List.map_congr_left fun kv _ => ?_
      show (if kv.1 = kk C then (kv.1, rD r) else kv).1 = kv.1
      split <;> rfl
    · rw [decide_eq_false hc, if_neg Bool.false_ne_true, if_neg hc, List.map_append, List.map_append, h.keys]
      rfl
  · unfold addK
    split
    · exact h.nd
    · rename_i hc
      refine List.nodup_append.mpr ⟨h.nd, List.pairwise_singleton _ _, fun a ha b hb e => ?_⟩
      rw [List.mem_singleton.mp hb] at e
      exact hc (e ▸ ha)
  · rw [look_put]
    unfold updf
    by_cases e : B = C
    · subst e; rw [if_pos rfl, if_pos rfl]
    · rw [if_neg (fun q => e (kk_inj q)), if_neg e]
      rcases mem_addK.mp hB with q | q
      · exact h.val B q
      · exact absurd q e
structure Bf (ws L K : List (List Int)) (f : List Int → List Int) (T : List (List Int)) (o : Option (List Int × List Int)) : Prop where
  rh : ∀ C ∈ K, Rh ws L (f C) C
  z : zeros L.length ∈ K
  sub : ∀ C ∈ T, C ∈ K
  nd : T.Nodup
  cl : ∀ C ∈ K, C ∉ T → ∀ x, 0 ≤ x ∧ x < (ws.length : Int) → Ready ws (Rem L C) x → (∀ q, o = some q → C = q.1 → x ∈ q.2) → bump C (W ws x) ∈ K ∧ HT.lexLt (f C ++ [x]) (f (bump C (W ws x))) = false
  lv : ∃ l : Nat, (∀ C ∈ K, C ∉ T → (f C).length ≤ l) ∧ (∀ C ∈ T, l ≤ (f C).length ∧ (f C).length ≤ l + 1) ∧ T.Pairwise (fun a b => (f a).length ≤ (f b).length) ∧ ∀ q, o = some q → q.1 ∈ K ∧ q.1 ∉ T ∧ (f q.1).length = l
end
end Pu
set_option Elab.async false
set_option linter.all false
set_option maxRecDepth 100000
set_option synthInstance.maxHeartbeats 0
set_option synthInstance.maxSize 100000
namespace Pu
open PySem PySem.Spec PyProof.Rows L2
section
variable {Q : D → Prop} {n i : Int} {r s row left a b g B C D0 dn : List Int} {ws us L K T p : List (List Int)} {kvs : List (List Key × D)} {x : Int} {f : List Int → List Int}
end
end Pu
set_option Elab.async false
set_option linter.all false
set_option maxRecDepth 100000
set_option synthInstance.maxHeartbeats 0
set_option synthInstance.maxSize 100000
namespace Pu
open PySem PySem.Spec PyProof.Rows L2
section
variable {Q : D → Prop} {n i : Int} {r s row left a b g B C D0 dn : List Int} {ws us L K T p : List (List Int)} {kvs : List (List Key × D)} {x : Int} {f : List Int → List Int}
end
end Pu
set_option Elab.async false
set_option linter.all false
set_option maxRecDepth 100000
set_option synthInstance.maxHeartbeats 0
set_option synthInstance.maxSize 100000
namespace Pu
open PySem PySem.Spec PyProof.Rows L2
section
variable {Q : D → Prop} {n i : Int} {r s row left a b g B C D0 dn : List Int} {ws us L K T p : List (List Int)} {kvs : List (List Key × D)} {x : Int} {f : List Int → List Int}
end
end Pu
set_option Elab.async false
set_option linter.all false
set_option maxRecDepth 100000
set_option synthInstance.maxHeartbeats 0
set_option synthInstance.maxSize 100000
namespace Pu
open PySem PySem.Spec PyProof.Rows L2
section
variable {Q : D → Prop} {n i : Int} {r s row left a b : List Int} {ws us L K : List (List Int)} {C : List Int} {kvs : List (List Key × D)} {dd : D}
end
end Pu
set_option Elab.async false
set_option linter.all false
set_option maxRecDepth 100000
set_option synthInstance.maxHeartbeats 0
set_option synthInstance.maxSize 100000
namespace Pu
open PySem PySem.Spec PyProof.Rows L2
section
variable {n : Int} {r s row a b : List Int} {ws : List (List Int)} {G G' S S' : List (List Int)} {x y p : Int} {R : Int → Int}
def maxR (R : Int → Int) (l : List Int) : Int := l.foldl (fun m d => max m (R d)) 0
def upR (R : Int → Int) (l : List Int) (v : Int) : Int → Int := fun d => if d ∈ l then v else R d
def addAt (G : List (List Int)) (p : Int) (x : Int) : List (List Int) := if p < (G.length : Int) then G.set p.toNat (G.getD p.toNat [] ++ [x]) else G ++ [[x]]
structure LSt where
  R : Int → Int
  G : List (List Int)
def stepL (ws : List (List Int)) (t : LSt) (x : Int) : LSt := ⟨upR t.R (W ws x) (maxR t.R (W ws x) + 1), addAt t.G (maxR t.R (W ws x)) x⟩
def runL (ws : List (List Int)) (t : LSt) (row : List Int) : LSt := row.foldl (stepL ws) t
def lay0 : LSt := ⟨fun _ => 0, []⟩
def layR (ws : List (List Int)) (row : List Int) : Int → Int := (runL ws lay0 row).R
inductive Same2 : List (List Int) → List (List Int) → Prop
  | nil : Same2 [] []
  | cons {g g' : List Int} {G G' : List (List Int)} : g.Perm g' → Same2 G G' → Same2 (g :: G) (g' :: G')
theorem Same2.refl : ∀ G : List (List Int), Same2 G G
  | [] => .nil
  | g :: G => .cons (.refl _) (Same2.refl G)
theorem Same2.trans {G1 G2 G3 : List (List Int)} (a : Same2 G1 G2) (b : Same2 G2 G3) : Same2 G1 G3 := by
  induction a generalizing G3 with
  | nil => cases b; exact .nil
  | cons h _ ih => cases b with
    | cons h' b => exact .cons (h.trans h') (ih b)
theorem Same2.symm (a : Same2 G G') : Same2 G' G := by
  induction a with
  | nil => exact .nil
  | cons h _ ih => exact .cons h.symm ih
theorem Same2.len (a : Same2 G G') : G.length = G'.length := by
  induction a with
  | nil => rfl
  | cons _ _ ih => simp [ih]
theorem Same2.at (a : Same2 G G') : ∀ k : Nat, (G.getD k []).Perm (G'.getD k []) := by
  induction a with
  | nil => intro k; simp
  | @cons g g' G G' h _ ih =>
    intro k
    cases k with
    | zero => simpa using h
    | succ k => simpa using ih k
def LInv (t : LSt) : Prop := ∀ d, 0 ≤ t.R d ∧ t.R d ≤ (t.G.length : Int)
end
end Pu
set_option Elab.async false
set_option linter.all false
set_option maxRecDepth 100000
set_option synthInstance.maxHeartbeats 0
set_option synthInstance.maxSize 100000
namespace Pu
open PySem PySem.Spec PyProof.Rows L2
section
variable {n : Int} {r s row a b g : List Int} {ws : List (List Int)} {G G' S S' : List (List Int)} {x y p : Int} {R : Int → Int}
structure LP (ws : List (List Int)) (t : LSt) : Prop where
  inv : LInv t
  i1 : ∀ (k : Nat) (y d : Int), y ∈ t.G.getD k [] → d ∈ W ws y → (k : Int) + 1 ≤ t.R d
  i2 : ∀ d, 0 < t.R d → ∃ y, y ∈ t.G.getD (t.R d - 1).toNat [] ∧ d ∈ W ws y
  a1 : ∀ k : Nat, (t.G.getD k []).Pairwise (apF ws)
  a2 : ∀ (k : Nat) (y : Int), y ∈ t.G.getD (k + 1) [] → ∃ z, z ∈ t.G.getD k [] ∧ meetsF ws y z = true
  a3 : ∀ k : Nat, k < t.G.length → t.G.getD k [] ≠ []
theorem meets_of {d : Int} (hx : d ∈ W ws x) (hy : d ∈ W ws y) : meetsF ws x y = true := List.any_eq_true.mpr ⟨d, hx, by simpa using hy⟩
end
end Pu
set_option Elab.async false
set_option linter.all false
set_option maxRecDepth 100000
set_option synthInstance.maxHeartbeats 0
set_option synthInstance.maxSize 100000
namespace Pu
open PySem PySem.Spec PyProof.Rows L2
section
variable {Q : D → Prop} {n p : Int} {r s row a b g l : List Int} {ws : List (List Int)} {G S : List (List Int)} {C P : List Int} {x : Int}
theorem y_max (h : 0 < l.length) (q : ∀ m, m ∈ l → (∀ y ∈ l, y ≤ m) → Q (.int m)) : oMost true (.lst (dInts l)) Q := ⟨l, rfl, h, fun i h1 h2 => q i h1 fun y hy => by simpa using h2 y hy⟩
theorem y_put {z v : Int} {K : D → Prop} (h0 : 0 ≤ z) (h1 : z < (C.length : Int)) (q : K (.lst (dInts (C.set z.toNat v)))) : setD (.lst (dInts C)) (.int z) (.int v) K := setD_int h0 h1 q
end
end Pu
set_option Elab.async false
set_option linter.all false
set_option maxRecDepth 100000
set_option synthInstance.maxHeartbeats 0
set_option synthInstance.maxSize 100000
namespace Pu
open PySem PySem.Spec PyProof.Rows L2
section
variable {Q : D → Prop} {n i d p : Int} {r s row left a b g B C D0 dn : List Int} {ws us L K T G : List (List Int)} {kvs : List (List Key × D)} {x : Int} {f : List Int → List Int} {dd : D}
end
end Pu
set_option Elab.async false
set_option linter.all false
set_option maxRecDepth 100000
set_option synthInstance.maxHeartbeats 0
set_option synthInstance.maxSize 100000
namespace Pu
open PySem PySem.Spec PyProof.Rows L2
section
variable {Q : D → Prop} {n i d p : Int} {r s row left a b g B C D0 dn : List Int} {ws us L K T G : List (List Int)} {kvs : List (List Key × D)} {x : Int} {f : List Int → List Int} {dd : D}
end
end Pu
set_option Elab.async false
set_option linter.all false
set_option maxRecDepth 100000
set_option synthInstance.maxHeartbeats 0
set_option synthInstance.maxSize 100000
namespace Pu
open PySem PySem.Spec PyProof.Rows L2
section
variable {Q : D → Prop} {n i : Int} {r s o row left a b l : List Int} {ws us L K : List (List Int)} {C : List Int} {kvs : List (List Key × D)} {dd : D} {w : Int}
def Beg (ws : List (List Int)) (r o : List Int) : Prop := ∀ d, logF ws r d <+: logF ws o d
end
end Pu
set_option Elab.async false
set_option linter.all false
set_option maxRecDepth 100000
set_option synthInstance.maxHeartbeats 0
set_option synthInstance.maxSize 100000
namespace Pu
open PySem PySem.Spec PyProof.Rows L2
section
variable {Q : D → Prop} {n i : Int} {r s o row left a b l : List Int} {ws us L K : List (List Int)} {C : List Int} {kvs : List (List Key × D)} {dd : D} {w : Int}
end
end Pu
set_option Elab.async false
set_option linter.all false
set_option maxRecDepth 100000
set_option synthInstance.maxHeartbeats 0
set_option synthInstance.maxSize 100000
namespace Pu
open PySem PySem.Spec PyProof.Rows L2
section
variable {Q : D → Prop} {n i : Int} {r s o row left a b l m : List Int} {ws us L K K1 K2 : List (List Int)} {C : List Int} {kvs : List (List Key × D)} {dd : D} {w : Int}
theorem least_in : ∀ {l : List Int} {p : Int → Bool}, (∃ x ∈ l, p x = true) → ∃ x ∈ l, p x = true ∧ ∀ y ∈ l, y < x → p y = false
  | [], _, ⟨_, h, _⟩ => nomatch h
  | z :: l, p, h => by
    by_cases hl : ∃ x ∈ l, p x = true
    · obtain ⟨x, hx, px, hm⟩ := least_in hl
      by_cases hz : p z = true ∧ z < x
      · exact ⟨z, List.mem_cons_self, hz.1, fun y hy hlt => by
          rcases List.mem_cons.mp hy with q | q
          · omega
          · exact hm y q (by omega)⟩
      · refine ⟨x, List.mem_cons_of_mem _ hx, px, fun y hy hlt => ?_⟩
        rcases List.mem_cons.mp hy with q | q
        · subst q
          cases e : p y with
          | false => rfl
          | true => exact absurd ⟨e, hlt⟩ hz
        · exact hm y q hlt
    · obtain ⟨x, hx, px⟩ := h
      rcases List.mem_cons.mp hx with q | q
      · subst q
        exact ⟨x, List.mem_cons_self, px, fun y hy hlt => by
          rcases List.mem_cons.mp hy with q | q
          · omega
          · cases e : p y with
            | false => rfl
            | true => exact absurd ⟨y, q, e⟩ hl⟩
      · exact absurd ⟨x, q, px⟩ hl
theorem lst_ex : ∀ (k : Nat) {l : List Int}, l.length = k → ∃ a, Lst ws l a
  | 0, l, e => by rw [List.eq_nil_of_length_eq_zero e]; exact ⟨[], .nil⟩
  | k + 1, l, e => by
    obtain ⟨z, l', rfl⟩ := List.exists_cons_of_length_eq_add_one e
    obtain ⟨x, hx, px, hm⟩ := least_in (l := z :: l') (p := fun x => (freeAt ws (z :: l') x).isSome) ⟨z, List.mem_cons_self, by rw [free_head0]; rfl⟩
    obtain ⟨j, hj⟩ := Option.isSome_iff_exists.mp px
    have hlt := (List.getElem?_eq_some_iff.mp (free_at hj).1).1
    obtain ⟨a, la⟩ := lst_ex k (l := (z :: l').eraseIdx j) (by rw [List.length_eraseIdx_of_lt hlt, e]; rfl)
    exact ⟨x :: a, .cons ⟨hj, fun y hy hlt => by
      have := hm y hy hlt
      simpa using this⟩ la⟩
end
end Pu
set_option Elab.async false
set_option linter.all false
set_option maxRecDepth 100000
set_option synthInstance.maxHeartbeats 0
set_option synthInstance.maxSize 100000
namespace Pu
open PySem PySem.Spec PyProof.Rows L2
section
variable {Q : D → Prop} {n i d p : Int} {r s row left a b g B C D0 dn : List Int} {ws us L K T G : List (List Int)} {kvs : List (List Key × D)} {x : Int} {f : List Int → List Int} {dd : D}
end
end Pu
set_option Elab.async false
set_option linter.all false
set_option maxRecDepth 100000
set_option synthInstance.maxHeartbeats 0
set_option synthInstance.maxSize 100000
namespace Pu
open PySem PySem.Spec PyProof.Rows L2
section
variable {Q : D → Prop} {n i : Int} {r s o row left a b l m : List Int} {ws us L K K1 K2 : List (List Int)} {C : List Int} {kvs : List (List Key × D)} {dd : D} {w : Int}
end
end Pu
set_option Elab.async false
set_option linter.all false
set_option maxRecDepth 100000
set_option synthInstance.maxHeartbeats 0
set_option synthInstance.maxSize 100000
namespace Pu
open PySem PySem.Spec PyProof.Rows L2
section
variable {Q : D → Prop} {n i : Int} {r s o t row left far a b g l m F : List Int} {ws us L P K : List (List Int)} {C : List Int} {kvs : List (List Key × D)} {dd : D} {x w : Int}
structure Com (ws : List (List Int)) (r o g : List Int) : Prop where
  bl : Beg ws g r
  br : Beg ws g o
  gr : ∀ b, InW ws b → Beg ws b r → Beg ws b o → Beg ws b g
  ls : Lst ws g g
  w : InW ws g
theorem Beg.tr (h1 : Beg ws a b) (h2 : Beg ws b o) : Beg ws a o := fun d => (h1 d).trans (h2 d)
theorem Beg.self : Beg ws a a := fun d => List.prefix_refl _
end
end Pu
set_option Elab.async false
set_option linter.all false
set_option maxRecDepth 100000
set_option synthInstance.maxHeartbeats 0
set_option synthInstance.maxSize 100000
namespace Pu
open PySem PySem.Spec PyProof.Rows L2
section
variable {Q : D → Prop} {n i : Int} {r s o t row left far a b g l m F : List Int} {ws us L P K : List (List Int)} {C : List Int} {kvs : List (List Key × D)} {dd : D} {x w : Int}
def parQ (i j : Nat) (env : PEnv) (ds : List D) (Z : PEnv → Prop) : Prop := match ds with
  | [d, e] => Z ((env.set i (some d)).set j (some e))
  | _ => False
theorem w_par {i j : Nat} {ms : XL} {E : PEnds} {env : PEnv} : sPar i j ms E env = ms env fun ds => parQ i j env ds E.nx := (rfl)
theorem y_par {i j : Nat} {env : PEnv} {d e : D} {Z : PEnv → Prop} : parQ i j env [d, e] Z = Z ((env.set i (some d)).set j (some e)) := (rfl)
end
end Pu
set_option Elab.async false
set_option linter.all false
set_option maxRecDepth 100000
set_option synthInstance.maxHeartbeats 0
set_option synthInstance.maxSize 100000
namespace Pu
open PySem PySem.Spec PyProof.Rows L2
section
variable {Q : D → Prop} {n i : Int} {r s o t row left far a b g l m F : List Int} {ws us L P K K1 K2 : List (List Int)} {C : List Int} {kvs : List (List Key × D)} {dd : D} {x w : Int}
structure Ky (kvs : List (List Key × D)) (K : List (List Int)) : Prop where
  keys : kvs.map (·.1) = K.map kk
  nd : K.Nodup
theorem Ky.any (h : Ky kvs K) : (kvs.any fun kv => decide (kv.1 = kk a)) = decide (a ∈ K) := by
  by_cases hc : a ∈ K
  · rw [decide_eq_true hc, List.any_eq_true]
    have : kk a ∈ kvs.map (·.1) := by rw [h.keys]; exact List.mem_map.mpr ⟨a, hc, rfl⟩
    obtain ⟨z, hz, e⟩ := List.mem_map.mp this
    exact ⟨z, hz, decide_eq_true e⟩
  · rw [decide_eq_false hc, List.any_eq_false]
    intro z hz q
    have : z.1 ∈ kvs.map (·.1) := List.mem_map.mpr ⟨z, hz, rfl⟩
    rw [h.keys] at this
    obtain ⟨t, ht, e⟩ := List.mem_map.mp this
    exact hc (kk_inj (e.trans (of_decide_eq_true q)) ▸ ht)
theorem Ky.len (h : Ky kvs K) : kvs.length = K.length := by have := congrArg List.length h.keys; simpa using this
theorem Ky.put {v : D} (h : Ky kvs K) : Ky (putD kvs (kk a) v) (addK K a) := by
  refine ⟨?_, ?_⟩
  · unfold putD addK
    rw [h.any]
    by_cases hc : a ∈ K
    · rw [decide_eq_true hc, if_pos rfl, if_pos hc, ← h.keys, List.map_map]
      refine List.map_congr_left fun kv _ => ?_
      show (if kv.1 = kk a then (kv.1, v) else kv).1 = kv.1
      split <;> rfl
    · rw [decide_eq_false hc, if_neg Bool.false_ne_true, if_neg hc, List.map_append, List.map_append, h.keys]
      rfl
  · unfold addK
    split
    · exact h.nd
    · rename_i hc
      refine List.nodup_append.mpr ⟨h.nd, List.pairwise_singleton _ _, fun b hb c hc2 e => ?_⟩
      rw [List.mem_singleton.mp hc2] at e
      exact hc (e ▸ hb)
end
end Pu
set_option Elab.async false
set_option linter.all false
set_option maxRecDepth 100000
set_option synthInstance.maxHeartbeats 0
set_option synthInstance.maxSize 100000
namespace Pu
open PySem PySem.Spec PyProof.Rows L2
section
variable {Q : D → Prop} {n i : Int} {r s o t row left far a b g l m F : List Int} {ws us L P K K1 K2 : List (List Int)} {C : List Int} {kvs : List (List Key × D)} {dd : D} {x w : Int}
end
end Pu
set_option Elab.async false
set_option linter.all false
set_option maxRecDepth 100000
set_option synthInstance.maxHeartbeats 0
set_option synthInstance.maxSize 100000
namespace Pu
open PySem PySem.Spec PyProof.Rows L2
section
variable {Q : D → Prop} {n i : Int} {r s o t row left far a b g j l m F : List Int} {ws us L P K : List (List Int)} {C : List Int} {kvs : List (List Key × D)} {dd : D} {x y w : Int}
structure Jn (ws : List (List Int)) (r o j : List Int) : Prop where
  bl : Beg ws r j
  br : Beg ws o j
  gr : ∀ b, InW ws b → Beg ws r b → Beg ws o b → Beg ws j b
  ls : Lst ws j j
  w : InW ws j
structure Prt (ws : List (List Int)) (r o F left far : List Int) : Prop where
  h1 : ∀ d, logF ws r d = logF ws F d ++ logF ws left d
  h2 : ∀ d, logF ws o d = logF ws F d ++ logF ws far d
  wF : InW ws F
  wl : InW ws left
  wf : InW ws far
  c1 : F.length + left.length = r.length
  c2 : F.length + far.length = o.length
  st : ∀ x, ¬ ((freeAt ws left x).isSome = true ∧ (freeAt ws far x).isSome = true)
end
end Pu
set_option Elab.async false
set_option linter.all false
set_option maxRecDepth 100000
set_option synthInstance.maxHeartbeats 0
set_option synthInstance.maxSize 100000
namespace Pu
open PySem PySem.Spec PyProof.Rows L2
section
variable {Q : D → Prop} {n p : Int} {r s row a b g l : List Int} {ws : List (List Int)} {G S : List (List Int)} {C P B : List Int} {x : Int}
structure PInv (ws : List (List Int)) (q P : List Int) : Prop where
  len : P.length = q.length
  nn : ∀ j : Nat, j < q.length → 0 ≤ P.getD j 0
  le : ∀ (j : Nat) (d : Int), j < q.length → d ∈ W ws (q.getD j 0) → P.getD j 0 + 1 ≤ layR ws q d
  at' : ∀ d : Int, layR ws q d = 0 ∨ ∃ j : Nat, j < q.length ∧ d ∈ W ws (q.getD j 0) ∧ P.getD j 0 + 1 = layR ws q d
theorem own_meets (h : W ws x ≠ []) : meetsF ws x x = true := by
  obtain ⟨d, hd⟩ := List.exists_mem_of_ne_nil _ h
  exact meets_of hd hd
end
end Pu
set_option Elab.async false
set_option linter.all false
set_option maxRecDepth 100000
set_option synthInstance.maxHeartbeats 0
set_option synthInstance.maxSize 100000
namespace Pu
open PySem PySem.Spec PyProof.Rows L2
section
variable {Q : D → Prop} {n i : Int} {r s o t row left far a b g j l m F found : List Int} {ws us L P K : List (List Int)} {C : List Int} {kvs : List (List Key × D)} {dd : D} {x y w : Int}
end
section
variable {n : Int} {r s a b row left : List Int} {ws : List (List Int)} {x z : Int}
end
end Pu
set_option Elab.async false
set_option linter.all false
set_option maxRecDepth 100000
set_option synthInstance.maxHeartbeats 0
set_option synthInstance.maxSize 100000
namespace Pu
open PySem PySem.Spec PyProof.Rows L2
section
variable {Q : D → Prop} {n i : Int} {r s o t row left far a b g j l m F found : List Int} {ws us L P K : List (List Int)} {C : List Int} {kvs : List (List Key × D)} {dd : D} {x y w : Int}
end
end Pu
set_option Elab.async false
set_option linter.all false
set_option maxRecDepth 100000
set_option synthInstance.maxHeartbeats 0
set_option synthInstance.maxSize 100000
namespace Pu
open PySem PySem.Spec PyProof.Rows L2
section
variable {n i : Int} {r s a b A B P : List Int} {ws : List (List Int)} {x y z : Int}
def nv : List Int → List Int → Nat
  | [], _ => 0
  | x :: r, s => s.idxOf x + nv r (s.erase x)
end
end Pu
set_option Elab.async false
set_option linter.all false
set_option maxRecDepth 100000
set_option synthInstance.maxHeartbeats 0
set_option synthInstance.maxSize 100000
namespace Pu
open PySem PySem.Spec PyProof.Rows L2
section
variable {Q : D → Prop} {n i : Int} {r s here row left a b A B P : List Int} {ws K T K' T' L : List (List Int)} {x y z : Int} {kvs kvs' : List (List Key × D)} {f : List Int → Int} {e2 e3 e4 e5 e6 e7 : Option D} {l : Nat}
structure KI (kvs : List (List Key × D)) (K : List (List Int)) (f : List Int → Int) : Prop where
  keys : kvs.map (·.1) = K.map kk
  val : ∀ s ∈ K, lookD kvs (kk s) = some (.int (f s))
theorem KI.none (h : KI kvs K f) (hc : s ∉ K) : lookD kvs (kk s) = none := by
  unfold lookD
  rw [List.find?_eq_none.mpr]
  · rfl
  · intro z hz q
    have : z.1 ∈ kvs.map (·.1) := List.mem_map.mpr ⟨z, hz, rfl⟩
    rw [h.keys] at this
    obtain ⟨t, ht, e⟩ := List.mem_map.mp this
    exact hc (kk_inj (e.trans (of_decide_eq_true q)) ▸ ht)
theorem KI.len (h : KI kvs K f) : kvs.length = K.length := by have := congrArg List.length h.keys; simpa using this
theorem KI.put (h : KI kvs K f) (hc : s ∉ K) : KI (putD kvs (kk s) (.int (f s))) (K ++ [s]) f := by
  have ha : (kvs.any fun kv => decide (kv.1 = kk s)) = false := by
    rw [List.any_eq_false]
    intro z hz q
    have : z.1 ∈ kvs.map (·.1) := List.mem_map.mpr ⟨z, hz, rfl⟩
    rw [h.keys] at this
    obtain ⟨t, ht, e⟩ := List.mem_map.mp this
    exact hc (kk_inj (e.trans (of_decide_eq_true q)) ▸ ht)
  refine ⟨?_, fun t ht => ?_⟩
  · unfold putD
    rw [ha, if_neg Bool.false_ne_true, List.map_append, h.keys, List.map_append]
    rfl
  · rw [look_put]
    by_cases e : t = s
    · subst e; rw [if_pos rfl]
    · rw [if_neg (fun q => e (kk_inj q))]
      rcases List.mem_append.mp ht with q | q
      · exact h.val t q
      · exact absurd (List.mem_singleton.mp q) e
structure IU (ws : List (List Int)) (row : List Int) (K T : List (List Int)) (l : Nat) : Prop where
  iv : IV ws row K T
  lo : ∀ s, Rch (apF ws) row s → nv row s ≤ l → s ∈ K
  hi : ∀ s ∈ K, nv row s ≤ l ∨ s ∈ T
  at1 : ∀ t ∈ T, nv row t = l + 1
theorem IU.add (I : IU ws row K T l) {x : List Int} (hx : x ∉ K) (hr : Rch (apF ws) row x) (hn : nv row x = l + 1) : IU ws row (K ++ [x]) (T ++ [x]) l := by
  refine ⟨(I.iv.add hx hr).1, fun s h1 h2 => List.mem_append_left _ (I.lo s h1 h2), fun s hs => ?_, fun t ht => ?_⟩
  · rcases List.mem_append.mp hs with q | q
    · exact (I.hi s q).imp id (List.mem_append_left _)
    · exact .inr (List.mem_append_right _ q)
  · rcases List.mem_append.mp ht with q | q
    · exact I.at1 t q
    · rw [List.mem_singleton.mp q]; exact hn
end
end Pu
set_option Elab.async false
set_option linter.all false
set_option maxRecDepth 100000
set_option synthInstance.maxHeartbeats 0
set_option synthInstance.maxSize 100000
namespace Pu
open PySem PySem.Spec PyProof.Rows L2
section
variable {r s a b A B P : List Int} {x y z : Int} {t : List (Int × Int)}
end
end Pu
set_option Elab.async false
set_option linter.all false
set_option maxRecDepth 100000
set_option synthInstance.maxHeartbeats 0
set_option synthInstance.maxSize 100000
namespace Pu
open PySem PySem.Spec PyProof.Rows L2
section
variable {Q : D → Prop} {R : List D → Prop} {n i : Int} {r s a b A B P : List Int} {ws : List (List Int)} {x y z : Int} {env : PEnv} {α κ : Type} [DecidableEq κ] [DecidableEq α] {inl : α → κ} {kvs : List (κ × D)} {K : List α} {f g : α → D} {c c' : α} {d d0 : D} {kds : List (Key × D)} {J : List Int} {F : Int → D}
structure KG (inl : α → κ) (kvs : List (κ × D)) (K : List α) (f : α → D) : Prop where
  keys : kvs.map (·.1) = K.map inl
  nd : K.Nodup
  inj : ∀ a b, inl a = inl b → a = b
  val : ∀ a ∈ K, lookD kvs (inl a) = some (f a)
theorem KG.len (h : KG inl kvs K f) : kvs.length = K.length := by have := congrArg List.length h.keys; simpa using this
theorem KG.any (h : KG inl kvs K f) : (kvs.any fun kv => decide (kv.1 = inl c)) = decide (c ∈ K) := by
  by_cases hc : c ∈ K
  · rw [decide_eq_true hc, List.any_eq_true]
    have : inl c ∈ kvs.map (·.1) := by rw [h.keys]; exact List.mem_map.mpr ⟨c, hc, rfl⟩
    obtain ⟨z, hz, e⟩ := List.mem_map.mp this
    exact ⟨z, hz, decide_eq_true e⟩
  · rw [decide_eq_false hc, List.any_eq_false]
    intro z hz q
    have : z.1 ∈ kvs.map (·.1) := List.mem_map.mpr ⟨z, hz, rfl⟩
    rw [h.keys] at this
    obtain ⟨t, ht, e⟩ := List.mem_map.mp this
    exact hc (h.inj _ _ (e.trans (of_decide_eq_true q)) ▸ ht)
theorem KG.none (h : KG inl kvs K f) (hc : c ∉ K) : lookD kvs (inl c) = none := by
  unfold lookD
  rw [List.find?_eq_none.mpr]
  · rfl
  · intro z hz
    have := h.any (c := c)
    rw [decide_eq_false hc, List.any_eq_false] at this
    simpa using this z hz
theorem KG.congr (h : KG inl kvs K f) (e : ∀ a ∈ K, f a = g a) : KG inl kvs K g := ⟨h.keys, h.nd, h.inj, fun a ha => by rw [h.val a ha, e a ha]⟩
def inlK (x : Int) : Key := Sum.inl x
abbrev KX (kds : List (Key × D)) (J : List Int) (F : Int → D) : Prop := KG inlK kds J F
end
end Pu
set_option Elab.async false
set_option linter.all false
set_option maxRecDepth 100000
set_option synthInstance.maxHeartbeats 0
set_option synthInstance.maxSize 100000
namespace Pu
open PySem PySem.Spec PyProof.Rows L2
section
variable {Q : D → Prop} {R : List D → Prop} {n i : Int} {r s a b A B P : List Int} {ws : List (List Int)} {x y z : Int} {env : PEnv} {α κ : Type} [DecidableEq κ] [DecidableEq α] {inl : α → κ} {kvs : List (κ × D)} {K : List α} {f g : α → D} {c c' : α} {d d0 : D} {kds : List (Key × D)} {J : List Int} {F : Int → D}
def eP (p : Int × Int) : D := .tup [.int p.1, .int p.2]
end
end Pu
set_option Elab.async false
set_option linter.all false
set_option maxRecDepth 100000
set_option synthInstance.maxHeartbeats 0
set_option synthInstance.maxSize 100000
namespace Pu
open PySem PySem.Spec PyProof.Rows L2
section
variable {Q : D → Prop} {n i : Int} {r s row other a b A B P : List Int} {ws : List (List Int)} {x y z : Int}
end
end Pu
set_option Elab.async false
set_option linter.all false
set_option maxRecDepth 100000
set_option synthInstance.maxHeartbeats 0
set_option synthInstance.maxSize 100000
namespace Pu
open PySem PySem.Spec PyProof.Rows L2
section
variable {Q : D → Prop} {n i : Int} {r s row other a b A B P left : List Int} {ws K : List (List Int)} {x y z c : Int} {kvs : List (List Key × D)} {f : List Int → D} {dd : D}
end
end Pu
set_option Elab.async false
set_option linter.all false
set_option maxRecDepth 100000
set_option synthInstance.maxHeartbeats 0
set_option synthInstance.maxSize 100000
namespace Pu
open PySem PySem.Spec PyProof.Rows L2
section
variable {Q : D → Prop} {n i : Int} {r s row other a b : List Int} {ws K : List (List Int)} {kvs : List (List Key × D)} {dd : D}
end
end Pu
set_option Elab.async false
set_option linter.all false
set_option maxRecDepth 100000
set_option synthInstance.maxHeartbeats 0
set_option synthInstance.maxSize 100000
namespace Pu
open PySem PySem.Spec PyProof.Rows L2
section
variable {Q : D → Prop} {n i : Int} {r s row : List Int} {ws : List (List Int)}
end
end Pu
set_option Elab.async false
set_option linter.all false
set_option maxRecDepth 100000
set_option synthInstance.maxHeartbeats 0
set_option synthInstance.maxSize 100000
namespace Pu
open PySem PySem.Spec PyProof.Rows L2
section
variable {Q : D → Prop} {n i : Int} {r s row a b C : List Int} {ws us L K : List (List Int)} {dd : D}
end
end Pu
set_option Elab.async false
set_option linter.all false
set_option maxRecDepth 100000
set_option synthInstance.maxHeartbeats 0
set_option synthInstance.maxSize 100000
namespace Pu
open PySem PySem.Spec PyProof.Rows L2
section
variable {Q : D → Prop} {n i : Int} {r s o row left far a b g l : List Int} {ws us L K : List (List Int)} {C : List Int} {kvs : List (List Key × D)} {dd : D} {x y w : Int}
end
end Pu
set_option Elab.async false
set_option linter.all false
set_option maxRecDepth 100000
set_option synthInstance.maxHeartbeats 0
set_option synthInstance.maxSize 100000
namespace Pu
open PySem PySem.Spec PyProof.Rows L2
section
variable {Q : D → Prop} {n i : Int} {r s o row left far a b c g j l m : List Int} {ws us L K : List (List Int)} {C : List Int} {kvs : List (List Key × D)} {dd : D} {x y w : Int}
end
end Pu
set_option Elab.async false
set_option linter.all false
set_option maxRecDepth 100000
set_option synthInstance.maxHeartbeats 0
set_option synthInstance.maxSize 100000
namespace Pu
open PySem PySem.Spec PyProof.Rows L2
section
variable {Q : D → Prop} {n i : Int} {r s o row left far a b c g j l m : List Int} {ws us L K : List (List Int)} {C : List Int} {kvs : List (List Key × D)} {dd : D} {x y w : Int}
end
end Pu
set_option Elab.async false
set_option linter.all false
set_option maxRecDepth 100000
set_option synthInstance.maxHeartbeats 0
set_option synthInstance.maxSize 100000
namespace Pu
open PySem PySem.Spec PyProof.Rows L2
section
variable {Q : D → Prop} {n i : Int} {r s o row left far a b c g j l m : List Int} {ws us L K : List (List Int)} {C : List Int} {kvs : List (List Key × D)} {dd : D} {x y w : Int}
def W1 : List (List Int) := [[0], [1]]
theorem in1 (hr : InW W1 r) : ∀ x ∈ r, x = 0 ∨ x = 1 := fun x hx => by
  have := hr x hx
  have e : (W1.length : Int) = 2 := rfl
  omega
end
end Pu
set_option Elab.async false
set_option linter.all false
set_option maxRecDepth 100000
set_option synthInstance.maxHeartbeats 0
set_option synthInstance.maxSize 100000
namespace Pu
open PySem PySem.Spec PyProof.Rows L2
section
variable {n i j k e d c m p q : Int} {r s l : List Int} {ws : List (List Int)} {x y : Int} {P P' : Int → Prop}
def Ev (r : List Int) (k : Int) : Int := r.getD k.toNat 0
inductive Pst (ws : List (List Int)) (r : List Int) : Int → Int → Prop
  | self {i : Int} : 0 ≤ i → i < (r.length : Int) → Pst ws r i i
  | step {j k i : Int} : Pst ws r j k → k < i → i < (r.length : Int) → meetsF ws (Ev r k) (Ev r i) = true → Pst ws r j i
theorem Pst.le (h : Pst ws r j i) : 0 ≤ j ∧ j ≤ i ∧ i < (r.length : Int) := by
  induction h with
  | self h1 h2 => exact ⟨h1, Int.le_refl _, h2⟩
  | step h1 h2 h3 h4 ih => exact ⟨ih.1, by omega, h3⟩
theorem Pst.trans (h1 : Pst ws r j k) (h2 : Pst ws r k i) : Pst ws r j i := by
  induction h2 with
  | self _ _ => exact h1
  | step a b c d ih => exact .step ih b c d
theorem ev_app (h0 : 0 ≤ k) (h1 : k < (r.length : Int)) : Ev (r ++ s) k = Ev r k := by
  unfold Ev
  rw [List.getD_eq_getElem?_getD, List.getD_eq_getElem?_getD, List.getElem?_append_left (by omega)]
theorem Pst.app (h : Pst ws r j i) : Pst ws (r ++ s) j i := by
  have ll : (r.length : Int) ≤ ((r ++ s).length : Int) := by simp <;> omega
  induction h with
  | self h1 h2 => exact .self h1 (by omega)
  | step h1 h2 h3 h4 ih =>
    have := h1.le
    exact .step ih h2 (by omega) (by rw [ev_app (by omega) (by omega), ev_app (by omega) h3]; exact h4)
theorem meets_of' (hx : d ∈ W ws x) (hy : d ∈ W ws y) : meetsF ws x y = true := List.any_eq_true.mpr ⟨d, hx, by simpa using hy⟩
theorem meets_sh' (h : meetsF ws x y = true) : ∃ d, d ∈ W ws x ∧ d ∈ W ws y := by
  obtain ⟨d, h1, h2⟩ := List.any_eq_true.mp h
  exact ⟨d, h1, by simpa using h2⟩
noncomputable def pastL (ws : List (List Int)) (r : List Int) (i : Int) : List Int := (rangeI (i + 1)).filter fun j => @decide (Pst ws r j i) (Classical.propDecidable _)
def IsLast (P : Int → Prop) (m : Int) : Prop := (∀ j, P j → j ≤ m) ∧ (m = -1 ∨ P m)
theorem IsLast.congr {m : Int} (h : IsLast P m) (e : ∀ j, P j ↔ P' j) : IsLast P' m := ⟨fun j hj => h.1 j ((e j).mpr hj), h.2.imp id (e m).mp⟩
def lastL (l : List Int) : Int := l.getLast?.getD (-1)
def onD (ws : List (List Int)) (r : List Int) (d : Int) (l : List Int) : List Int := l.filter fun j => (W ws (Ev r j)).contains d
noncomputable def lastIn (ws : List (List Int)) (r : List Int) (e d : Int) : Int := lastL (onD ws r d (pastL ws r e))
def lastOf (ws : List (List Int)) (r : List Int) (d : Int) : Int := lastL (onD ws r d (rangeI (r.length : Int)))
end
end Pu
set_option Elab.async false
set_option linter.all false
set_option maxRecDepth 100000
set_option synthInstance.maxHeartbeats 0
set_option synthInstance.maxSize 100000
namespace Pu
open PySem PySem.Spec PyProof.Rows L2
section
variable {Q : D → Prop} {n i j k e d c m p q : Int} {r s l : List Int} {ws : List (List Int)} {x y : Int} {o a b g h : D} {ls : List D} {lab : D} {K : D → Prop} {R : List (Str × D) → Prop} {env : PEnv} {E : PEnds}
def trO (o a b g h : D) : D := .obj 6 [("office", o), ("row", a), ("lasts_in", b), ("names", g), ("lasts", h)]
theorem w_setF {i c0 : Nat} {f : Str} {m : X1} : sSetF i c0 f m E env = m env fun x => xVar i env fun d => onM c0 d fun gs => E.nx (env.set i (some (.obj c0 (putFD f x gs)))) := (rfl)
noncomputable def liV (n : Int) (ws : List (List Int)) (r : List Int) (e : Int) : List Int := (rangeI n).map (lastIn ws r e)
def lastsV (n : Int) (ws : List (List Int)) (r : List Int) : List Int := (rangeI n).map (lastOf ws r)
def nmF (r : List Int) (ls : List D) (e : Int) : D := if e < 0 then .non else .tup [.int (Ev r e), ls.getD e.toNat .non]
def trK (r : List Int) : List Int := (-1) :: rangeI (r.length : Int)
structure Tr (n : Int) (ws : List (List Int)) (r : List Int) (ls : List D) (d : D) : Prop where
  ex : ∃ lk nk, d = trO (oD n ws) (rD r) (.dK lk) (.dK nk) (rD (lastsV n ws r)) ∧ KX lk (trK r) (fun e => rD (liV n ws r e)) ∧ KX nk (trK r) (nmF r ls)
  len : ls.length = r.length
theorem s_seqR {S : List D → Prop} : seqQ (rD r) S = S (dInts r) := (rfl)
theorem s_seqL {S : List D → Prop} {ds : List D} : seqQ (.lst ds) S = S ds := (rfl)
def eT (l : List Int) (p : Int) : D := .tup [.int p, .int (l.getD p.toNat 0)]
end
end Pu
set_option Elab.async false
set_option linter.all false
set_option maxRecDepth 100000
set_option synthInstance.maxHeartbeats 0
set_option synthInstance.maxSize 100000
namespace Pu
open PySem PySem.Spec PyProof.Rows L2
section
variable {Q : D → Prop} {n i j k e d c m p q : Int} {r s l J : List Int} {ws : List (List Int)} {x y : Int} {K : D → Prop} {R : List (Str × D) → Prop} {env : PEnv} {E : PEnds} {ls : List D} {t d0 : D}
theorem w_make {c : Nat} {mf : XI} {r : XL} : xMake c mf r env Q = r env fun ds => mf ds fun gs => Q (mkO c gs) := (rfl)
end
end Pu
set_option Elab.async false
set_option linter.all false
set_option maxRecDepth 100000
set_option synthInstance.maxHeartbeats 0
set_option synthInstance.maxSize 100000
namespace Pu
open PySem PySem.Spec PyProof.Rows L2
section
variable {Q : D → Prop} {n i j k e d c m p q : Int} {r s l J a lot : List Int} {ws : List (List Int)} {x y : Int} {K : D → Prop} {env : PEnv} {dd t : D} {ls : List D}
end
end Pu
set_option Elab.async false
set_option linter.all false
set_option maxRecDepth 100000
set_option synthInstance.maxHeartbeats 0
set_option synthInstance.maxSize 100000
namespace Pu
open PySem PySem.Spec PyProof.Rows L2
section
variable {Q : D → Prop} {k : Nat} {d : D} {ds : List D}
inductive Nb : Nat → D → Prop
  | non {k : Nat} : Nb k .non
  | int {k : Nat} (i : Int) : Nb k (.int i)
  | bl {k : Nat} (b : Bool) : Nb k (.bl b)
  | tup {k : Nat} {ds : List D} : (∀ d ∈ ds, Nb k d) → ds.length ≤ 1000000 → Nb (k + 1) (.tup ds)
theorem Nb.imm (h : Nb k d) : d.imm = true := by
  induction h with
  | non => rfl
  | int i => rfl
  | bl b => rfl
  | @tup k ds h l ih =>
    rw [Zcf]
    clear l
    induction ds with
    | nil => rfl
    | cons d ds i2 =>
      rw [Zce, ih d List.mem_cons_self, i2 (fun x hx => h x (List.mem_cons_of_mem _ hx)) (fun x hx => ih x (List.mem_cons_of_mem _ hx))]
      rfl
theorem Nb.lay (h : Nb k d) : d.py.canLay0 = true ∧ d.py.depth ≤ k ∧ PyData.eqv d.py d.py = true := by
  induction h with
  | non => exact ⟨rfl, Nat.zero_le _, rfl⟩
  | int i => exact ⟨rfl, Nat.zero_le _, by show D.eqb (.int i) (.int i) = true; rw [eqb_int]; exact decide_eq_true rfl⟩
  | bl b => exact ⟨rfl, Nat.zero_le _, by cases b <;> rfl⟩
  | @tup k ds h l ih =>
    clear l
    have all : PyData.canLayAll0 (pyL ds) = true ∧ PyData.depthAll (pyL ds) ≤ k ∧ PyData.eqvAll (pyL ds) (pyL ds) = true := by
      induction ds with
      | nil => exact ⟨rfl, Nat.zero_le _, rfl⟩
      | cons d ds i2 =>
        obtain ⟨a1, a2, a3⟩ := ih d List.mem_cons_self
        obtain ⟨b1, b2, b3⟩ := i2 (fun x hx => h x (List.mem_cons_of_mem _ hx)) (fun x hx => ih x (List.mem_cons_of_mem _ hx))
        refine ⟨?_, ?_, ?_⟩
        · show (d.py.canLay0 && PyData.canLayAll0 (pyL ds)) = true
          rw [a1, b1]; rfl
        · show max d.py.depth (PyData.depthAll (pyL ds)) ≤ k
          exact Nat.max_le.mpr ⟨a2, b2⟩
        · show (PyData.eqv d.py d.py && PyData.eqvAll (pyL ds) (pyL ds)) = true
          rw [a3, b3]; rfl
    exact ⟨all.1, Nat.succ_le_succ all.2.1, all.2.2⟩
theorem Nb.eqb (h : Nb k d) : D.eqb d d = true := h.lay.2.2
theorem Nb.up (h : Nb k d) : Nb (k + 1) d := by
  induction h with
  | non => exact .non
  | int i => exact .int i
  | bl b => exact .bl b
  | tup h l ih => exact .tup ih l
theorem Nb.le {j : Nat} (h : Nb k d) (l : k ≤ j) : Nb j d := by
  induction l with
  | refl => exact h
  | step _ ih => exact ih.up
end
end Pu
set_option Elab.async false
set_option linter.all false
set_option maxRecDepth 100000
set_option synthInstance.maxHeartbeats 0
set_option synthInstance.maxSize 100000
namespace Pu
open PySem PySem.Spec PyProof.Rows L2
section
variable {Q : D → Prop} {n i j k e d c m p q : Int} {r s l J a lot : List Int} {ws L : List (List Int)} {x y : Int} {K : D → Prop} {env : PEnv} {dd t : D} {ls ds : List D}
end
end Pu
set_option Elab.async false
set_option linter.all false
set_option maxRecDepth 100000
set_option synthInstance.maxHeartbeats 0
set_option synthInstance.maxSize 100000
namespace Pu
open PySem PySem.Spec PyProof.Rows L2
section
variable {Q : D → Prop} {n i j k e d c m p q : Int} {r s l J a lot left found row : List Int} {ws L : List (List Int)} {x y : Int} {K : D → Prop} {env : PEnv} {dd t : D} {ls ds : List D}
def trgQ (d : D) (Q : D → Prop) : Prop := match d with
  | .int j => L2.RgOk 0 j ∧ Q (.tup (rgD 0 (j - 0).toNat))
  | _ => False
theorem w_trg1 {m : X1} : xTRg1 m env Q = m env fun d => trgQ d Q := by unfold xTRg1 trgQ; rfl
theorem y_trg (h0 : 0 ≤ n) (h1 : n ≤ 1000000) (q : Q (rD (rangeI n))) : trgQ (.int n) Q := ⟨⟨by omega, by omega, by omega⟩, by rw [Int.sub_zero, rgD_ints]; exact q⟩
theorem meets_sym : meetsF ws x y = meetsF ws y x := by
  rw [Bool.eq_iff_iff]
  constructor
  · intro h
    obtain ⟨d, h1, h2⟩ := meets_sh' h
    exact meets_of' h2 h1
  · intro h
    obtain ⟨d, h1, h2⟩ := meets_sh' h
    exact meets_of' h2 h1
end
end Pu
set_option Elab.async false
set_option linter.all false
set_option maxRecDepth 100000
set_option synthInstance.maxHeartbeats 0
set_option synthInstance.maxSize 100000
namespace Pu
open PySem PySem.Spec PyProof.Rows L2
section
variable {Q : D → Prop} {n i j k e d c m p q A b : Int} {r s l J a lot left found row : List Int} {ws L : List (List Int)} {x y : Int} {K : D → Prop} {env : PEnv} {dd t : D} {ls ds : List D}
end
end Pu
set_option Elab.async false
set_option linter.all false
set_option maxRecDepth 100000
set_option synthInstance.maxHeartbeats 0
set_option synthInstance.maxSize 100000
namespace Pu
open PySem PySem.Spec PyProof.Rows L2
section
variable {α : Type} {Q : D → Prop} {kds acc : List (D × D)} {ks l : List NestedKey} {k : NestedKey} {y z : D} {env : PEnv} {E : PEnds}
def NX (kds : List (D × D)) (ks : List NestedKey) : Prop := kds.map (fun p => p.1.nk) = ks.map some ∧ ks.Nodup
def insK (ks : List NestedKey) (k : NestedKey) : List NestedKey := if k ∈ ks then ks else ks ++ [k]
def insAll (ks l : List NestedKey) : List NestedKey := l.foldl insK ks
theorem mem_insK {x : NestedKey} : x ∈ insK ks k ↔ x ∈ ks ∨ x = k := by
  unfold insK
  split
  · rename_i h
    exact ⟨.inl, fun z => z.elim id fun e => e ▸ h⟩
  · rw [List.mem_append, List.mem_singleton]
theorem insK_nd (h : ks.Nodup) : (insK ks k).Nodup := by
  unfold insK
  split
  · exact h
  · rename_i hk
    exact List.nodup_append.mpr ⟨h, by simp, fun a ha b hb e => by rw [List.mem_singleton.mp hb] at e; exact hk (e ▸ ha)⟩
theorem mem_insAll {x : NestedKey} : ∀ {l ks : List NestedKey}, x ∈ insAll ks l ↔ x ∈ ks ∨ x ∈ l
  | [], ks => by simp [insAll]
  | a :: l, ks => by
    show x ∈ insAll (insK ks a) l ↔ _
    rw [mem_insAll, mem_insK, List.mem_cons, or_assoc]
theorem NX.nil : NX [] [] := ⟨rfl, List.nodup_nil⟩
theorem NX.len (h : NX kds ks) : kds.length = ks.length := by have := congrArg List.length h.1; simpa using this
theorem NX.nd (h : NX kds ks) : (kds.map fun p => p.1.nk).Nodup := by
  rw [h.1]
  exact List.pairwise_map.mpr (h.2.imp fun h e => h (Option.some.inj e))
theorem NX.isSome : ∀ {kds : List (D × D)} {ks : List NestedKey}, NX kds ks → (lookN kds k).isSome = decide (k ∈ ks)
  | [], [], _ => by simp [lookN]
  | [], _ :: _, h => by have := h.len; simp at this
  | _ :: _, [], h => by have := h.len; simp at this
  | p :: kds, a :: ks, ⟨h1, h2⟩ => by
    rw [List.map_cons, List.map_cons] at h1
    obtain ⟨e1, e2⟩ := List.cons.inj h1
    have ih : (lookN kds k).isSome = decide (k ∈ ks) := NX.isSome ⟨e2, (List.nodup_cons.mp h2).2⟩
    unfold lookN at ih ⊢
    by_cases e : a = k
    · rw [List.find?_cons_of_pos (by rw [e1, e]; simp)]
      simp [e]
    · rw [List.find?_cons_of_neg (by rw [e1]; simpa using e), ih, Bool.eq_iff_iff, decide_eq_true_iff, decide_eq_true_iff, List.mem_cons]
      exact ⟨.inr, fun z => z.elim (fun w => absurd w.symm e) id⟩
theorem NX.put (h : NX kds ks) (e : y.nk = some k) : NX (putN kds k y z) (insK ks k) := by
  unfold putN insK
  rw [h.isSome]
  by_cases hk : k ∈ ks
  · rw [if_pos (by simpa using hk), if_pos hk]
    refine ⟨?_, h.2⟩
    rw [← h.1, List.map_map]
    refine List.map_congr_left fun p _ => ?_
    show (if p.1.nk = some k then (p.1, z) else p).1.nk = p.1.nk
    split <;> rfl
  · rw [if_neg (by simpa using hk), if_neg hk]
    refine ⟨by rw [List.map_append, List.map_append, h.1]; simp [e], ?_⟩
    have := insK_nd (k := k) h.2
    unfold insK at this
    rwa [if_neg hk] at this
def IsMex (U : Int → Prop) (m : Int) : Prop := 0 ≤ m ∧ ¬ U m ∧ ∀ j, 0 ≤ j → j < m → U j
theorem IsMex.congr {U U' : Int → Prop} {m : Int} (h : IsMex U m) (e : ∀ j, U j ↔ U' j) : IsMex U' m := ⟨h.1, fun z => h.2.1 ((e m).mpr z), fun j h0 h1 => (e j).mp (h.2.2 j h0 h1)⟩
theorem IsMex.le {U : Int → Prop} {m : Int} (h : IsMex U m) (xs : List Int) (hx : ∀ j, U j → j ∈ xs) : m ≤ xs.length := by
  have h0 := h.1
  have : ∀ (k : Nat) (xs : List Int), (∀ j : Int, 0 ≤ j → j < (k : Int) → j ∈ xs) → k ≤ xs.length := by
    intro k
    induction k with
    | zero => intro xs _; exact Nat.zero_le _
    | succ k ih =>
      intro xs hh
      have h1 := ih (xs.erase (k : Int)) fun j j0 j1 => (List.mem_erase_of_ne (by omega)).mpr (hh j j0 (by omega))
      have h2 := hh (k : Int) (by omega) (by omega)
      rw [List.length_erase_of_mem h2] at h1
      have := List.length_pos_of_mem h2
      omega
  have := this m.toNat xs fun j j0 j1 => hx j (h.2.2 j j0 (by omega))
  omega
end
end Pu
set_option Elab.async false
set_option linter.all false
set_option maxRecDepth 100000
set_option synthInstance.maxHeartbeats 0
set_option synthInstance.maxSize 100000
namespace Pu
open PySem PySem.Spec PyProof.Rows L2
section
variable {Q : D → Prop} {n i j k e d c m p q : Int} {r s l J a ls : List Int} {ws L : List (List Int)} {x y : Int} {K : D → Prop} {env : PEnv} {dd t : D}
def Thd (n : Int) (ws : List (List Int)) (r : List Int) (e f : Int) : Prop := ∃ d1 d2 d3, ((0 ≤ d1 ∧ d1 < n) ∧ (0 ≤ d2 ∧ d2 < n) ∧ (0 ≤ d3 ∧ d3 < n)) ∧ f = lastIn ws r (lastIn ws r (lastIn ws r e d1) d2) d3
def Used (n : Int) (ws : List (List Int)) (r ls : List Int) (x k : Int) : Prop := ∃ c ∈ W ws x, ∃ f, Thd n ws r (lastOf ws r c) f ∧ 0 ≤ f ∧ Ev r f = x ∧ ls.getD f.toNat 0 = k
end
end Pu
set_option Elab.async false
set_option linter.all false
set_option maxRecDepth 100000
set_option synthInstance.maxHeartbeats 0
set_option synthInstance.maxSize 100000
namespace Pu
open PySem PySem.Spec PyProof.Rows L2
section
variable {Q : D → Prop} {n i j k e d c m p q : Int} {r s l J a ls ls' : List Int} {ws L : List (List Int)} {x y : Int} {K : D → Prop} {env : PEnv} {dd t : D}
end
end Pu
set_option Elab.async false
set_option linter.all false
set_option maxRecDepth 100000
set_option synthInstance.maxHeartbeats 0
set_option synthInstance.maxSize 100000
namespace Pu
open PySem PySem.Spec PyProof.Rows L2
section
variable {Q : D → Prop} {n i j k e d c m p q : Int} {r s l J a ls ls' : List Int} {ws L : List (List Int)} {x y : Int} {K : D → Prop} {env : PEnv} {dd t : D}
def Labs (n : Int) (ws : List (List Int)) (r ls : List Int) : Prop := ls.length = r.length ∧ ∀ (p : Nat) (x : Int), r[p]? = some x → IsMex (Used n ws (r.take p) (ls.take p) x) (ls.getD p 0)
theorem Labs.nil : Labs n ws [] [] := ⟨rfl, fun p x h => nomatch h⟩
theorem Labs.snoc (h : Labs n ws r ls) (hm : IsMex (Used n ws r ls x) m) : Labs n ws (r ++ [x]) (ls ++ [m]) := by
  refine ⟨by simp [h.1], fun p y hp => ?_⟩
  have hl := (List.getElem?_eq_some_iff.mp hp).1
  simp at hl
  by_cases e : p < r.length
  · rw [List.take_append_of_le_length (by omega), List.take_append_of_le_length (by rw [h.1]; omega), List.getD_eq_getElem?_getD, List.getElem?_append_left (by rw [h.1]; omega), ← List.getD_eq_getElem?_getD]
    exact h.2 p y (by rw [List.getElem?_append_left e] at hp; exact hp)
  · have ep : p = r.length := by omega
    subst ep
    rw [List.getElem?_append_right (Nat.le_refl _), Nat.sub_self] at hp
    cases hp
    rw [List.take_left, List.take_left' h.1, List.getD_eq_getElem?_getD, List.getElem?_append_right (by rw [h.1]; exact Nat.le_refl _), h.1, Nat.sub_self]
    exact hm
theorem Labs.take (h : Labs n ws r ls) (k : Nat) : Labs n ws (r.take k) (ls.take k) := by
  refine ⟨by simp [h.1], fun p x hp => ?_⟩
  rw [List.getElem?_take] at hp
  split at hp
  · rename_i hk
    rw [List.take_take, List.take_take, Nat.min_eq_left (by omega), List.getD_eq_getElem?_getD, List.getElem?_take, if_pos hk, ← List.getD_eq_getElem?_getD]
    exact h.2 p x hp
  · cases hp
end
end Pu
set_option Elab.async false
set_option linter.all false
set_option maxRecDepth 100000
set_option synthInstance.maxHeartbeats 0
set_option synthInstance.maxSize 100000
namespace Pu
open PySem PySem.Spec PyProof.Rows L2
section
variable {Q : D → Prop} {n i j k e d c m p q : Int} {r s l J a lot : List Int} {ws : List (List Int)} {x y : Int} {K : D → Prop} {env : PEnv} {dd t P : D} {ls : List D}
end
end Pu
set_option Elab.async false
set_option linter.all false
set_option maxRecDepth 100000
set_option synthInstance.maxHeartbeats 0
set_option synthInstance.maxSize 100000
namespace Pu
open PySem PySem.Spec PyProof.Rows L2
section
variable {Q : D → Prop} {n i j k e d c m p q : Int} {r s l J a ls ls' : List Int} {ws L : List (List Int)} {x y : Int} {K : D → Prop} {env : PEnv} {dd t : D}
end
end Pu
set_option Elab.async false
set_option linter.all false
set_option maxRecDepth 100000
set_option synthInstance.maxHeartbeats 0
set_option synthInstance.maxSize 100000
namespace Pu
open PySem PySem.Spec PyProof.Rows L2
section
variable {Q : D → Prop} {n i j k e d c m p q f : Int} {r s l J a ls ls' u v lu lv : List Int} {ws L : List (List Int)} {x y lx ly : Int} {K : D → Prop} {env : PEnv} {dd t : D}
theorem meets_sym28 : meetsF ws x y = meetsF ws y x := by
  rw [Bool.eq_iff_iff]
  constructor
  · intro h
    obtain ⟨d, h1, h2⟩ := meets_sh' h
    exact meets_of' h2 h1
  · intro h
    obtain ⟨d, h1, h2⟩ := meets_sh' h
    exact meets_of' h2 h1
end
end Pu
set_option Elab.async false
set_option linter.all false
set_option maxRecDepth 100000
set_option synthInstance.maxHeartbeats 0
set_option synthInstance.maxSize 100000
namespace Pu
open PySem PySem.Spec PyProof.Rows L2
section
variable {Q : D → Prop} {n i j k e d c m p q f : Int} {r s l J a ls ls' u v lu lv : List Int} {ws L : List (List Int)} {x y lx ly : Int} {K : D → Prop} {env : PEnv} {dd t : D}
end
end Pu
set_option Elab.async false
set_option linter.all false
set_option maxRecDepth 100000
set_option synthInstance.maxHeartbeats 0
set_option synthInstance.maxSize 100000
namespace Pu
open PySem PySem.Spec PyProof.Rows L2
section
variable {Q : D → Prop} {n i j k e d c m p q f g A B : Int} {r s l J a ls ls' u v lu lv : List Int} {ws L : List (List Int)} {x y lx ly : Int} {K : D → Prop} {env : PEnv} {dd t : D}
end
end Pu
set_option Elab.async false
set_option linter.all false
set_option maxRecDepth 100000
set_option synthInstance.maxHeartbeats 0
set_option synthInstance.maxSize 100000
namespace Pu
open PySem PySem.Spec PyProof.Rows L2
section
variable {Q : D → Prop} {n i j k e d c m p q f g A B b : Int} {r s l J a ls ls' u v lu lv : List Int} {ws L : List (List Int)} {x y lx ly : Int} {K : D → Prop} {env : PEnv} {dd t : D}
end
end Pu
set_option Elab.async false
set_option linter.all false
set_option maxRecDepth 100000
set_option synthInstance.maxHeartbeats 0
set_option synthInstance.maxSize 100000
namespace Pu
open PySem PySem.Spec PyProof.Rows L2
section
variable {Q : D → Prop} {n i j k e d c m p q f g A B b : Int} {r s l J a ls ls' u v lu lv : List Int} {ws L : List (List Int)} {x y lx ly : Int} {K : D → Prop} {env : PEnv} {dd t P : D}
end
end Pu
set_option Elab.async false
set_option linter.all false
set_option maxRecDepth 100000
set_option synthInstance.maxHeartbeats 0
set_option synthInstance.maxSize 100000
namespace Pu
open PySem PySem.Spec PyProof.Rows L2
section
variable {Q : D → Prop} {n i j k e d c m p q f g A B b : Int} {r s l J a ls ls' u v T S : List Int} {ws L : List (List Int)} {x y : Int} {K : D → Prop} {env : PEnv} {dd t : D} {acc : List (Key × D)} {labs : List D} {p' : List Int}
def prs : List Int → List (List Int)
  | [] => []
  | x :: l => l.map (fun y => [x, y]) ++ prs l
end
end Pu
set_option Elab.async false
set_option linter.all false
set_option maxRecDepth 100000
set_option synthInstance.maxHeartbeats 0
set_option synthInstance.maxSize 100000
namespace Pu
open PySem PySem.Spec PyProof.Rows L2
section
variable {Q : D → Prop} {n i j k e d c m p q f g A B b : Int} {r s l J a ls ls' u v T S : List Int} {ws L X Y K1 : List (List Int)} {x y : Int} {K : D → Prop} {env : PEnv} {dd t : D} {p' : List Int}
end
end Pu
set_option Elab.async false
set_option linter.all false
set_option maxRecDepth 100000
set_option synthInstance.maxHeartbeats 0
set_option synthInstance.maxSize 100000
namespace Pu
open PySem PySem.Spec PyProof.Rows L2
section
variable {n i j k e d c m p q f g A B b P : Int} {r s l J a ls h v M T S va vb : List Int} {ws L X Y K1 : List (List Int)} {x y : Int}
def updS : List Int → List Int → List Int → List Int
  | h, d :: l, x :: v => updS (h.set d.toNat x) l v
  | h, _, _ => h
def prjS (h l : List Int) : List Int := l.map fun d => h.getD d.toNat 0
def InB (M h : List Int) : Prop := h.length = M.length ∧ ∀ k : Nat, k < M.length → 0 ≤ h.getD k 0 ∧ h.getD k 0 < M.getD k 0
def ValOk (M : List Int) : List Int → List Int → Prop
  | d :: l, x :: v => (0 ≤ x ∧ x < M.getD d.toNat 0) ∧ ValOk M l v
  | [], [] => True
  | _, _ => False
end
end Pu
set_option Elab.async false
set_option linter.all false
set_option maxRecDepth 100000
set_option synthInstance.maxHeartbeats 0
set_option synthInstance.maxSize 100000
namespace Pu
open PySem PySem.Spec PyProof.Rows L2
section
variable {Q : D → Prop} {n i j k e d c m p q f g A B b P : Int} {r s l J a ls h v M T va vb : List Int} {ws L X Y K1 S : List (List Int)} {x y w : Int} {kds : List (D × D)} {env : PEnv} {dd : D}
def kyN (w : Int) (l : List Int) : NestedKey := .tup [.num w, .tup (l.map .num)]
theorem nkL_ints : ∀ l : List Int, nkL (dInts l) = some (l.map NestedKey.num)
  | [] => by simp [dInts, nkL]
  | x :: l => by
    have ih := nkL_ints l
    show nkL (.int x :: dInts l) = _
    simp [nkL, D.nk, ih]
theorem ky_nk : (D.tup [.int w, rD l]).nk = some (kyN w l) := by
  have e1 : (rD l).nk = some (.tup (l.map NestedKey.num)) := by
    show (D.tup (dInts l)).nk = _
    simp [D.nk, nkL_ints]
  simp [D.nk, nkL, e1, kyN]
theorem ky_inj {w' : Int} {l' : List Int} (h : kyN w l = kyN w' l') : w = w' ∧ l = l' := by
  unfold kyN at h
  injection h with h
  injection h with h1 h2
  injection h1 with h1
  injection h2 with h2 _
  injection h2 with h2
  exact ⟨h1, (List.map_inj_right fun x y e => by injection e).mp h2⟩
structure MV (kds : List (D × D)) (f : Int → List Int → Option (List Int)) (N : Nat) : Prop where
  nd : (kds.map fun p => p.1.nk).Nodup
  len : kds.length ≤ N
  look : ∀ w l, lookN kds (kyN w l) = (f w l).map fun v => .lst (dInts v)
theorem MV.nil : MV [] (fun _ _ => none) 0 := ⟨List.nodup_nil, Nat.le_refl _, fun w l => rfl⟩
def mvSet (f : Int → List Int → Option (List Int)) (w : Int) (l v : List Int) : Int → List Int → Option (List Int) := fun w' l' => if w' = w ∧ l' = l then some v else f w' l'
theorem look_app {kd : D × D} {k : NestedKey} : lookN (kds ++ [kd]) k = (match lookN kds k with | some x => some x | none => if kd.1.nk = some k then some kd.2 else none) := by
  unfold lookN
  rw [List.find?_append]
  cases e : kds.find? (fun kd => decide (kd.1.nk = some k)) with
  | some x => rfl
  | none =>
    by_cases h : kd.1.nk = some k
    · rw [if_pos h]; simp [h]
    · rw [if_neg h]; simp [h]
theorem MV.put {f : Int → List Int → Option (List Int)} {N : Nat} (h : MV kds f N) (hn : f w l = none) : MV (putN kds (kyN w l) (.tup [.int w, rD l]) (.lst (dInts v))) (mvSet f w l v) (N + 1) := by
  have e0 : lookN kds (kyN w l) = none := by rw [h.look, hn]; rfl
  have e1 : putN kds (kyN w l) (.tup [.int w, rD l]) (.lst (dInts v)) = kds ++ [(.tup [.int w, rD l], .lst (dInts v))] := by
    unfold putN
    rw [e0]
    rfl
  rw [e1]
  refine ⟨?_, by rw [List.length_append]; have := h.len; simp; omega, fun w' l' => ?_⟩
  · rw [List.map_append]
    refine List.nodup_append.mpr ⟨h.nd, by simp, fun a ha b hb e => ?_⟩
    rw [List.map_singleton, List.mem_singleton] at hb
    obtain ⟨p, hp, ep⟩ := List.mem_map.mp ha
    unfold lookN at e0
    rw [Option.map_eq_none_iff] at e0
    have := List.find?_eq_none.mp e0 p hp
    rw [ep, e, hb, ky_nk] at this
    exact this (decide_eq_true rfl)
  · rw [look_app, ky_nk]
    unfold mvSet
    by_cases z : w' = w ∧ l' = l
    · obtain ⟨z1, z2⟩ := z
      subst z1; subst z2
      rw [if_pos (And.intro rfl rfl), e0]
      simp
    · rw [if_neg z, h.look]
      cases f w' l' with
      | some x => rfl
      | none =>
        show (if some (kyN w l) = some (kyN w' l') then _ else none) = none
        rw [if_neg]
        intro e
        obtain ⟨a1, a2⟩ := ky_inj (Option.some.inj e)
        exact z ⟨a1.symm, a2.symm⟩
end
end Pu
set_option Elab.async false
set_option linter.all false
set_option maxRecDepth 100000
set_option synthInstance.maxHeartbeats 0
set_option synthInstance.maxSize 100000
namespace Pu
open PySem PySem.Spec PyProof.Rows L2
section
variable {Q : D → Prop} {n i j k e d c m p q f g A B b P : Int} {r s l J a ls h v M T va vb : List Int} {ws L X Y K1 S st : List (List Int)} {x y w : Int} {kds : List (D × D)} {env : PEnv} {dd : D} {F : Int → List Int → Option (List Int)}
structure EI (ws : List (List Int)) (M : List Int) (S st : List (List Int)) (F : Int → List Int → Option (List Int)) : Prop where
  nd : S.Nodup
  inb : ∀ h ∈ S, InB M h
  ne : 1 ≤ S.length
  le : st.length ≤ S.length
  val : ∀ w l v, F w l = some v → 0 ≤ w → w < (ws.length : Int) → ValOk M (W ws w) v
  stp : ∀ (s : Nat) (row : List Int), st[s]? = some row → row.length = ws.length ∧ ∀ w, 0 ≤ w → w < (ws.length : Int) → ∃ h v, ∃ j : Nat, S[s]? = some h ∧ F w (prjS h (W ws w)) = some v ∧ S[j]? = some (updS h (W ws w) v) ∧ row.getD w.toNat 0 = (j : Int)
def GI (ws S : List (List Int)) (F : Int → List Int → Option (List Int)) (h G : List Int) (p : Nat) : Prop := G.length = p ∧ ∀ w, 0 ≤ w → w < (p : Int) → ∃ v, ∃ j : Nat, F w (prjS h (W ws w)) = some v ∧ S[j]? = some (updS h (W ws w) v) ∧ G.getD w.toNat 0 = (j : Int)
theorem mvSet_ext (hn : F w l = none) {w' : Int} {l' v' : List Int} (h : F w' l' = some v') : mvSet F w l v w' l' = some v' := by
  unfold mvSet
  rw [if_neg]
  · exact h
  · rintro ⟨rfl, rfl⟩
    rw [hn] at h; cases h
theorem get_app {t : List Int} {k : Nat} (h : S[k]? = some l) : (S ++ [t])[k]? = some l := by
  rw [List.getElem?_append_left (List.getElem?_eq_some_iff.mp h).1]
  exact h
theorem EI.mv (ei : EI ws M S st F) (hn : F w l = none) (hv : ValOk M (W ws w) v) : EI ws M S st (mvSet F w l v) := by
  refine ⟨ei.nd, ei.inb, ei.ne, ei.le, fun w' l' v' h h0 h1 => ?_, fun s row hs => ?_⟩
  · unfold mvSet at h
    split at h
    · rename_i z
      obtain ⟨z1, z2⟩ := z
      subst z1
      cases h
      exact hv
    · exact ei.val w' l' v' h h0 h1
  · obtain ⟨a1, a2⟩ := ei.stp s row hs
    refine ⟨a1, fun w' h0 h1 => ?_⟩
    obtain ⟨h, v', j, b1, b2, b3, b4⟩ := a2 w' h0 h1
    exact ⟨h, v', j, b1, mvSet_ext hn b2, b3, b4⟩
theorem EI.push {t : List Int} (ei : EI ws M S st F) (ht : t ∉ S) (hb : InB M t) : EI ws M (S ++ [t]) st F := by
  refine ⟨List.nodup_append.mpr ⟨ei.nd, by simp, fun a ha b hb e => by rw [List.mem_singleton.mp hb] at e; exact ht (e ▸ ha)⟩, fun h hh => ?_, by rw [List.length_append]; have := ei.ne; omega, by rw [List.length_append]; have := ei.le; omega, ei.val, fun s row hs => ?_⟩
  · rcases List.mem_append.mp hh with z | z
    · exact ei.inb h z
    · rw [List.mem_singleton.mp z]; exact hb
  · obtain ⟨a1, a2⟩ := ei.stp s row hs
    refine ⟨a1, fun w' h0 h1 => ?_⟩
    obtain ⟨h, v', j, b1, b2, b3, b4⟩ := a2 w' h0 h1
    exact ⟨h, v', j, get_app b1, b2, get_app b3, b4⟩
theorem EI.row {G : List Int} (ei : EI ws M S st F) (hh : S[st.length]? = some h) (gi : GI ws S F h G ws.length) : EI ws M S (st ++ [G]) F := by
  have lt := (List.getElem?_eq_some_iff.mp hh).1
  refine ⟨ei.nd, ei.inb, ei.ne, by rw [List.length_append, List.length_singleton]; omega, ei.val, fun s row hs => ?_⟩
  by_cases z : s < st.length
  · rw [List.getElem?_append_left z] at hs
    exact ei.stp s row hs
  · have sl : s < (st ++ [G]).length := (List.getElem?_eq_some_iff.mp hs).1
    rw [List.length_append, List.length_singleton] at sl
    have es : s = st.length := by omega
    subst es
    rw [List.getElem?_append_right (Nat.le_refl _), Nat.sub_self] at hs
    cases hs
    refine ⟨gi.1, fun w h0 h1 => ?_⟩
    obtain ⟨v, j, a1, a2, a3⟩ := gi.2 w h0 h1
    exact ⟨h, v, j, hh, a1, a2, a3⟩
theorem GI.mv {G : List Int} {p : Nat} (gi : GI ws S F h G p) (hn : F w l = none) : GI ws S (mvSet F w l v) h G p := ⟨gi.1, fun w' h0 h1 => by
  obtain ⟨v', j, a1, a2, a3⟩ := gi.2 w' h0 h1
  exact ⟨v', j, mvSet_ext hn a1, a2, a3⟩⟩
theorem GI.push {G t : List Int} {p : Nat} (gi : GI ws S F h G p) : GI ws (S ++ [t]) F h G p := ⟨gi.1, fun w' h0 h1 => by
  obtain ⟨v', j, a1, a2, a3⟩ := gi.2 w' h0 h1
  exact ⟨v', j, a1, get_app a2, a3⟩⟩
theorem GI.snoc {G : List Int} {p j : Nat} (gi : GI ws S F h G p) (hf : F (p : Int) (prjS h (W ws (p : Int))) = some v) (hj : S[j]? = some (updS h (W ws (p : Int)) v)) : GI ws S F h (G ++ [(j : Int)]) (p + 1) := by
  have gl := gi.1
  refine ⟨by rw [List.length_append, gl]; rfl, fun w h0 h1 => ?_⟩
  by_cases z : w < (p : Int)
  · obtain ⟨v', j', a1, a2, a3⟩ := gi.2 w h0 z
    refine ⟨v', j', a1, a2, ?_⟩
    rw [List.getD_eq_getElem?_getD, List.getElem?_append_left (by omega), ← List.getD_eq_getElem?_getD]
    exact a3
  · have e : w = (p : Int) := by omega
    subst e
    refine ⟨v, j, hf, hj, ?_⟩
    rw [Int.toNat_natCast, List.getD_eq_getElem?_getD, List.getElem?_append_right (by omega), gl, Nat.sub_self]
    rfl
theorem EI.at (ei : EI ws M S st F) {s : Int} (h0 : 0 ≤ s) (h1 : s < (st.length : Int)) (w0 : 0 ≤ w) (w1 : w < (ws.length : Int)) : ∃ h v, ∃ j : Nat, S[s.toNat]? = some h ∧ F w (prjS h (W ws w)) = some v ∧ S[j]? = some (updS h (W ws w) v) ∧ (st.getD s.toNat []).getD w.toNat 0 = (j : Int) := by
  have e : st[s.toNat]? = some (st.getD s.toNat []) := by rw [List.getD_eq_getElem?_getD, List.getElem?_eq_getElem (show s.toNat < st.length by omega)]; rfl
  exact (ei.stp _ _ e).2 w w0 w1
theorem rep_flat {z : Int} : ∀ k : Nat, (List.replicate k [D.int z]).flatten = dInts (List.replicate k z)
  | 0 => rfl
  | k + 1 => by rw [List.replicate_succ, List.flatten_cons, rep_flat k]; rfl
theorem y_repL53 {z : Int} (h0 : 0 ≤ n) (h1 : n ≤ 1000) (q : Q (.lst (dInts (List.replicate n.toNat z)))) : oRepL (.lst [.int z]) (.int n) Q := by
  have hs : 100000 ≤ sizeLine := by decide
  refine ⟨rfl, by omega, by omega, by simp; omega, ?_⟩
  rw [rep_flat]
  exact q
end
end Pu
set_option Elab.async false
set_option linter.all false
set_option maxRecDepth 100000
set_option synthInstance.maxHeartbeats 0
set_option synthInstance.maxSize 100000
namespace Pu
open PySem PySem.Spec PyProof.Rows L2
section
variable {Q : D → Prop} {n i j k e d c m p q f g A B b P : Int} {r s l J a ls h v M T tl va vb : List Int} {ws L X Y K1 S st : List (List Int)} {x y w : Int} {kds : List (D × D)} {env : PEnv} {dd : D} {F : Int → List Int → Option (List Int)}
local macro_rules
  | `(tactic| and_intros) => `(tactic| (try simp only [Zaa, Zab, w_c, Zac, Zad, Zae, Zaf, Zag, Zah, Zai, Zaj, Zak, Zal, Zam, Zan, Zao, Zap, Zaq, Zar, Zas, Zat, Zau, Zav, Zaw, Zax, Zay, Zaz, ZaA, ZaB, ZaC, ZaD, ZaE, ZaF, ZaG, ZaH, ZaI, ZaJ, ZaK, ZaL, ZaM, ZaN, ZaO, ZaP, ZaQ, ZaR, ZaS, ZaT, ZaU, ZaV, ZaW, ZaX, ZaY, ZaZ, Za0, Za1, Za2, Za3, Za4, Za5, Za6, Za7, Za8, Za9, Zba, Zbb, Zbc, Zbd, Zbe, Zbf, Zbg, Zbh, Zbi, Zbj, Zbk, Zbl, Zbm, Zbn, Zbo, Zbp, Zbq, Zbr, Zbs, Zbt, Zbu, Zbv, Zbw, Zbx, Zby, Zbz, ZbA, List.length_cons, List.length_nil, Nat.reduceAdd, Nat.zero_add, ZbB, ZbC, ZbD, ZbE, y_W, ZbF, ZbG, ZbH, ZbI, ZbJ, ZbK, ZbL, ZbM, ZbN, ZbO, ZbP, ZbQ, ZbR, ZbS, sb1, sb2, sb3, sb4, sb5, sb6, sb7, sb8, sb9, ZbT, ZbU, ZbV, ZbW, ZbX, ZbY, ZbZ, Zb0, Zb1, Zb2, Zb3, Zb4, Zb5, Zb6, Zb7, List.map_id, id_eq, BEq.rfl, bne_self_eq_false, Zb8, Zb9, Zca, Zcb, Zcc, Zcd, Zce, Zcf, Zcg, Zch, Zci, Zcj, Zck, Zcl, Zcm, Zcn, Zco, Zcp, Zcq, Zcr, Zcs, Zct, Zcu, Zcv, Zcw, Zcx, Zcy, Zcz, ZcA, ZcB, ZcC, ZcD, true_and, and_true, Bool.and_self, Bool.and_true, Bool.true_and, Bool.not_true, Bool.not_false, Bool.false_eq_true, if_false, if_true, ite_true, ite_false, decide_true, decide_false, reduceIte, s_seqR, s_seqL, w_make, w_setF]))
theorem works_meet_ev (h : WsLen ws) (hx : 0 ≤ x ∧ x < (ws.length : Int)) (hy : 0 ≤ y ∧ y < (ws.length : Int)) : FEv m_works_meet [oD n ws, .int x, .int y] (.bl (meetsF ws x y)) := fun Q q => by
  have hs : 100000 ≤ sizeLine := by decide
  unfold m_works_meet fnM b_works_meet
  simp only [env0, List.map_cons, List.map_nil, List.length_cons, List.length_nil, List.replicate_succ, List.replicate_zero, List.cons_append, List.nil_append, Nat.reduceSub, Nat.reduceAdd, Nat.zero_add, Zaa, Zab, w_c, Zac, Zad, Zae, Zaf, Zag, Zah, Zai, Zaj, Zak, Zal, Zam, Zan, Zao, Zap, Zaq, Zar, Zas, Zat, Zau, Zav, Zaw, Zax, Zay, Zaz, ZaA, ZaB, ZaC, ZaD, ZaE, ZaF, ZaG, ZaH, ZaI, ZaJ, ZaK, ZaL, ZaM, ZaN, ZaO, ZaP, ZaQ, ZaR, ZaS, ZaT, ZaU, ZaV, ZaW, ZaX, ZaY, ZaZ, Za0, Za1, Za2, Za3, Za4, Za5, Za6, Za7, Za8, Za9, Zba, Zbb, Zbc, Zbd, Zbe, Zbf, Zbg, Zbh, Zbi, Zbj, Zbk, Zbl, Zbm, Zbn, Zbo, Zbp, Zbq, Zbr, Zbs, Zbt, Zbu, Zbv, Zbw, Zbx, Zby, Zbz, ZbA, List.length_cons, List.length_nil, Nat.reduceAdd, Nat.zero_add, ZbB, ZbC, ZbD, ZbE, y_W, ZbF, ZbG, ZbH, ZbI, ZbJ, ZbK, ZbL, ZbM, ZbN, ZbO, ZbP, ZbQ, ZbR, ZbS, sb1, sb2, sb3, sb4, sb5, sb6, sb7, sb8, sb9, ZbT, ZbU, ZbV, ZbW, ZbX, ZbY, ZbZ, Zb0, Zb1, Zb2, Zb3, Zb4, Zb5, Zb6, Zb7, List.map_id, id_eq, BEq.rfl, bne_self_eq_false, Zb8, Zb9, Zca, Zcb, Zcc, Zcd, Zce, Zcf, Zcg, Zch, Zci, Zcj, Zck, Zcl, Zcm, Zcn, Zco, Zcp, Zcq, Zcr, Zcs, Zct, Zcu, Zcv, Zcw, Zcx, Zcy, Zcz, ZcA, ZcB, ZcC, ZcD, true_and, and_true, Bool.and_self, Bool.and_true, Bool.true_and, Bool.not_true, Bool.not_false, Bool.false_eq_true, if_false, if_true, ite_true, ite_false, decide_true, decide_false, reduceIte, s_seqR, s_seqL, w_make, w_setF]
  refine y_ixW hx.1 hx.2 ?_
  rw [y_W]
  and_intros
  refine lc_M (e := D.int) (fun d => (W ws y).contains d) D.bl (by have := w_len h x; omega) (fun d hd R hR => ?_) ?_
  · and_intros
    refine y_ixW hy.1 hy.2 ?_
    rw [y_W, Zcv]
    exact hR
  rw [ZcD, List.any_map]
  exact q
theorem y_rng253 {R : List D → Prop} {a b : Nat} (ha : a ≤ 100000) (hb : b ≤ 100000) (q : R ((List.range (b - a)).map fun k => D.int ((a + k : Nat) : Int))) : rng2Q (.int (a : Int)) (.int (b : Int)) R := by
  refine ⟨⟨by omega, by omega⟩, ⟨by omega, by omega⟩, ?_⟩
  have e : rgD (a : Int) ((b : Int) - a).toNat = (List.range (b - a)).map fun k => D.int ((a + k : Nat) : Int) := by
    unfold rgD
    rw [show ((b : Int) - a).toNat = b - a by omega]
    exact List.map_congr_left fun k _ => by rw [Int.natCast_add]
  rw [e]
  exact q
end
end Pu
set_option Elab.async false
set_option linter.all false
set_option maxRecDepth 100000
set_option synthInstance.maxHeartbeats 0
set_option synthInstance.maxSize 100000
namespace Pu
open PySem PySem.Spec PyProof.Rows L2
section
variable {Q : D → Prop} {n i : Int} {r s o row left far a b c g j l m : List Int} {ws us L K : List (List Int)} {C : List Int} {kvs : List (List Key × D)} {dd : D} {x y w : Int}
def tn (r : List Int) : Nat := ((List.range r.length).map fun k => ((r.take k).filter fun y => decide (r.getD k 0 < y)).length).sum
end
end Pu
set_option Elab.async false
set_option linter.all false
set_option maxRecDepth 100000
set_option synthInstance.maxHeartbeats 0
set_option synthInstance.maxSize 100000
namespace Pu
open PySem PySem.Spec PyProof.Rows L2
section
variable {Q : D → Prop} {n i : Int} {r s o row left far a b c g j l m : List Int} {ws us L K : List (List Int)} {C : List Int} {kvs : List (List Key × D)} {dd : D} {x y w : Int} {bs : List Bool}
def tB (bs : List Bool) : D := .tup (bs.map D.bl)
end
end Pu
set_option Elab.async false
set_option linter.all false
set_option maxRecDepth 100000
set_option synthInstance.maxHeartbeats 0
set_option synthInstance.maxSize 100000
namespace Pu
open PySem PySem.Spec PyProof.Rows L2
section
variable {Q : D → Prop} {n i : Int} {T r s o row left far a b c g j l m : List Int} {ws us L K : List (List Int)} {C : List Int} {kvs : List (List Key × D)} {dd : D} {x y w : Int} {bs : List Bool}
theorem make_ev {Z : List (Str × D) → Prop} (h : WsOk n ws) (q : Z [("desks", .int n), ("works", wD ws)]) : i_Office [.int n, wD ws] Z := by
  obtain ⟨h1, h2, h3, h4, h5⟩ := id h
  have e1 : decide ((1 : Int) ≤ n) = true := decide_eq_true h1
  have e2 : decide (n ≤ 6) = true := decide_eq_true h2
  refine ⟨rfl, ?_⟩
  show (if decide ((1 : Int) ≤ n) = true then _ else _)
  rw [if_pos e1]
  show (if (!decide (n ≤ 6)) = true then _ else _)
  rw [e2, if_neg (by decide)]
  refine are_office_works_ev h _ ?_
  refine ⟨rfl, rfl, by simp, by decide, imm_wD ws, rfl, by simp [putFD], (show Fz ["desks"] = false by decide), ?_⟩
  refine ⟨rfl, by simp [putFD]; split <;> simp, ?_⟩
  exact q
theorem mk_oD : mkO 3 [("desks", .int n), ("works", wD ws)] = oD n ws := if_pos (show Fz ["desks", "works"] = true by decide)
end
end Pu
set_option Elab.async false
set_option linter.all false
set_option maxRecDepth 100000
set_option synthInstance.maxHeartbeats 0
set_option synthInstance.maxSize 100000
namespace Pu
open PySem PySem.Spec PyProof.Rows L2
section
variable {Q : D → Prop} {n i : Int} {r s o row left far a b c g j l m : List Int} {ws us L K : List (List Int)} {C : List Int} {dd : D} {x y w : Int} {bs : List Bool}
def lotsA (ws : List (List Int)) : Nat → List (List Int)
  | 0 => [[]]
  | k + 1 => lotsA ws k ++ ((lotsA ws k).filter fun l => !(l.any fun o => meetsF ws (k : Int) o)).map fun l => l ++ [(k : Int)]
theorem lotsA_in : ∀ {k : Nat} {l : List Int}, l ∈ lotsA ws k → (∀ x ∈ l, 0 ≤ x ∧ x < (k : Int)) ∧ l.length ≤ k
  | 0, l, h => by
    rw [List.mem_singleton.mp h]
    exact ⟨(fun x hx => nomatch hx), Nat.le_refl _⟩
  | k + 1, l, h => by
    rcases List.mem_append.mp h with h | h
    · obtain ⟨h1, h2⟩ := lotsA_in h
      exact ⟨fun x hx => by have := h1 x hx; omega, by omega⟩
    · obtain ⟨l', hl, rfl⟩ := List.mem_map.mp h
      obtain ⟨h1, h2⟩ := lotsA_in (List.mem_filter.mp hl).1
      refine ⟨fun x hx => ?_, by rw [List.length_append]; simp; omega⟩
      rcases List.mem_append.mp hx with hx | hx
      · have := h1 x hx; omega
      · rw [List.mem_singleton.mp hx]; omega
theorem lotsA_len : ∀ k : Nat, (lotsA ws k).length ≤ 2 ^ k
  | 0 => by simp [lotsA]
  | k + 1 => by
    have := lotsA_len k
    have h2 := List.length_filter_le (fun l => !(l.any fun o => meetsF ws (k : Int) o)) (lotsA ws k)
    show (lotsA ws k ++ _).length ≤ _
    rw [List.length_append, List.length_map, Nat.pow_succ]
    omega
theorem lotsA_nil : ∀ k : Nat, [] ∈ lotsA ws k
  | 0 => List.mem_singleton.mpr rfl
  | k + 1 => List.mem_append_left _ (lotsA_nil k)
local macro_rules
  | `(tactic| and_intros) => `(tactic| (try simp only [Zaa, Zab, w_c, Zac, Zad, Zae, Zaf, Zag, Zah, Zai, Zaj, Zak, Zal, Zam, Zan, Zao, Zap, Zaq, Zar, Zas, Zat, Zau, Zav, Zaw, Zax, Zay, Zaz, ZaA, ZaB, ZaC, ZaD, ZaE, ZaF, ZaG, ZaH, ZaI, ZaJ, ZaK, ZaL, ZaM, ZaN, ZaO, ZaP, ZaQ, ZaR, ZaS, ZaT, ZaU, ZaV, ZaW, ZaX, ZaY, ZaZ, Za0, Za1, Za2, Za3, Za4, Za5, Za6, Za7, Za8, Za9, Zba, Zbb, Zbc, Zbd, Zbe, Zbf, Zbg, Zbh, Zbi, Zbj, Zbk, Zbl, Zbm, Zbn, Zbo, Zbp, Zbq, Zbr, Zbs, Zbt, Zbu, Zbv, Zbw, Zbx, Zby, Zbz, ZbA, List.length_cons, List.length_nil, Nat.reduceAdd, Nat.zero_add, ZbB, ZbC, ZbD, ZbE, y_W, ZbF, ZbG, ZbH, ZbI, ZbJ, ZbK, ZbL, ZbM, ZbN, ZbO, ZbP, ZbQ, ZbR, ZbS, sb1, sb2, sb3, sb4, sb5, sb6, sb7, sb8, sb9, ZbT, ZbU, ZbV, ZbW, ZbX, ZbY, ZbZ, Zb0, Zb1, Zb2, Zb3, Zb4, Zb5, Zb6, Zb7, List.map_id, id_eq, BEq.rfl, bne_self_eq_false, Zb8, Zb9, Zca, Zcb, Zcc, Zcd, Zce, Zcf, Zcg, Zch, Zci, Zcj, Zck, Zcl, Zcm, Zcn, Zco, Zcp, Zcq, Zcr, Zcs, Zct, Zcu, Zcv, Zcw, Zcx, Zcy, Zcz, ZcA, ZcB, ZcC, ZcD, true_and, and_true, Bool.and_self, Bool.and_true, Bool.true_and, Bool.not_true, Bool.not_false, Bool.false_eq_true, if_false, if_true, ite_true, ite_false, decide_true, decide_false, reduceIte]))
local macro_rules
  | `(tactic| array_get_dec) => `(tactic| (simp only [env0, List.map_cons, List.map_nil, List.length_cons, List.length_nil, List.replicate_succ, List.replicate_zero, List.cons_append, List.nil_append, Nat.reduceSub, Nat.reduceAdd, Nat.zero_add, Zaa, Zab, w_c, Zac, Zad, Zae, Zaf, Zag, Zah, Zai, Zaj, Zak, Zal, Zam, Zan, Zao, Zap, Zaq, Zar, Zas, Zat, Zau, Zav, Zaw, Zax, Zay, Zaz, ZaA, ZaB, ZaC, ZaD, ZaE, ZaF, ZaG, ZaH, ZaI, ZaJ, ZaK, ZaL, ZaM, ZaN, ZaO, ZaP, ZaQ, ZaR, ZaS, ZaT, ZaU, ZaV, ZaW, ZaX, ZaY, ZaZ, Za0, Za1, Za2, Za3, Za4, Za5, Za6, Za7, Za8, Za9, Zba, Zbb, Zbc, Zbd, Zbe, Zbf, Zbg, Zbh, Zbi, Zbj, Zbk, Zbl, Zbm, Zbn, Zbo, Zbp, Zbq, Zbr, Zbs, Zbt, Zbu, Zbv, Zbw, Zbx, Zby, Zbz, ZbA, List.length_cons, List.length_nil, Nat.reduceAdd, Nat.zero_add, ZbB, ZbC, ZbD, ZbE, y_W, ZbF, ZbG, ZbH, ZbI, ZbJ, ZbK, ZbL, ZbM, ZbN, ZbO, ZbP, ZbQ, ZbR, ZbS, sb1, sb2, sb3, sb4, sb5, sb6, sb7, sb8, sb9, ZbT, ZbU, ZbV, ZbW, ZbX, ZbY, ZbZ, Zb0, Zb1, Zb2, Zb3, Zb4, Zb5, Zb6, Zb7, List.map_id, id_eq, BEq.rfl, bne_self_eq_false, Zb8, Zb9, Zca, Zcb, Zcc, Zcd, Zce, Zcf, Zcg, Zch, Zci, Zcj, Zck, Zcl, Zcm, Zcn, Zco, Zcp, Zcq, Zcr, Zcs, Zct, Zcu, Zcv, Zcw, Zcx, Zcy, Zcz, ZcA, ZcB, ZcC, ZcD, true_and, and_true, Bool.and_self, Bool.and_true, Bool.true_and, Bool.not_true, Bool.not_false, Bool.false_eq_true, if_false, if_true, ite_true, ite_false, decide_true, decide_false, reduceIte]))
theorem lots_apart_ev (h : WsOk n ws) : FEv m_lots_apart [oD n ws] (.lst (rowsD (lotsA ws ws.length))) := fun Q q => by
  have hs : 100000 ≤ sizeLine := by decide
  obtain ⟨h1, h2, h3, h4, h5⟩ := id h
  have wl : WsLen ws := fun l hl => (h5 l hl).2.2
  have p10 : ∀ k : Nat, k ≤ 10 → 2 ^ k ≤ 1024 := fun k hk => by
    have : 2 ^ k ≤ 2 ^ 10 := Nat.pow_le_pow_right (by decide) hk
    simpa using this
  unfold m_lots_apart fnM b_lots_apart
  array_get_dec
  refine ⟨by omega, by omega, y_rng (n := (ws.length : Int)) (by omega) (by omega) ?_⟩
  refine loop_I (fun p s env => ∃ e2 e3 e4, env = [some (oD n ws), some (.lst (rowsD (lotsA ws p.length))), e2, e3, e4]) _ ⟨_, _, _, rfl⟩ ?_ ?_
  · rintro p x s env e ⟨e2, e3, e4, rfl⟩
    obtain ⟨ex, hx⟩ := range_split e
    have b10 := p10 p.length (by omega)
    have ll := lotsA_len (ws := ws) p.length
    subst ex
    and_intros
    refine lc_FT (e := rD) (fun l => !(l.any fun o => meetsF ws (p.length : Int) o)) (fun l => l ++ [(p.length : Int)]) rD (by omega) (fun l hl R N q1 q2 => ?_) ?_
    · obtain ⟨i1, i2⟩ := lotsA_in hl
      and_intros
      refine lc_M (e := D.int) (fun o => meetsF ws (p.length : Int) o) D.bl (by omega) (fun o ho R2 hR => ?_) ?_
      · have := i1 o ho
        and_intros
        exact works_meet_ev wl ⟨by omega, by omega⟩ ⟨by omega, by omega⟩ _ hR
      and_intros
      rw [show ((l.map fun o => meetsF ws (p.length : Int) o).any id) = l.any fun o => meetsF ws (p.length : Int) o by rw [List.any_map]; rfl]
      by_cases hb : (l.any fun o => meetsF ws (p.length : Int) o) = true
      · rw [hb]
        exact q2 (by rw [hb]; rfl)
      · rw [Bool.not_eq_true] at hb
        rw [hb]
        exact ⟨by omega, y_addR (s := [(p.length : Int)]) (by simp; omega) (q1 (by rw [hb]; rfl))⟩
    have lf := List.length_filter_le (fun l => !(l.any fun o => meetsF ws (p.length : Int) o)) (lotsA ws p.length)
    refine ⟨immL_rows _, immL_rows _, by simp [rowsD_len]; omega, ?_⟩
    rw [show rowsD (lotsA ws p.length) ++ List.map rD (((lotsA ws p.length).filter fun l => !(l.any fun o => meetsF ws (p.length : Int) o)).map fun l => l ++ [(p.length : Int)]) = rowsD (lotsA ws (p ++ [(p.length : Int)]).length) by
      rw [List.length_append, List.length_singleton]; exact List.map_append.symm]
    exact ⟨_, _, _, rfl⟩
  · rintro env ⟨e2, e3, e4, rfl⟩
    and_intros
    have e : (rangeI (ws.length : Int)).length = ws.length := by rw [rangeI_len]; omega
    rw [e]
    exact q
def sizesA (ws : List (List Int)) : List Int := (lotsA ws ws.length).map fun l => (l.length : Int)
def topA (ws : List (List Int)) : Nat := ((lotsA ws ws.length).map List.length).foldr max 0
theorem foldr_max : ∀ (l : List Nat), (∀ x ∈ l, x ≤ l.foldr max 0) ∧ (l ≠ [] → l.foldr max 0 ∈ l)
  | [] => ⟨(fun x h => nomatch h), fun h => absurd rfl h⟩
  | x :: l => by
    obtain ⟨i1, i2⟩ := foldr_max l
    refine ⟨fun y hy => ?_, fun _ => ?_⟩
    · show y ≤ max x (l.foldr max 0)
      rcases List.mem_cons.mp hy with rfl | hy
      · omega
      · have := i1 y hy; omega
    · show max x (l.foldr max 0) ∈ x :: l
      by_cases h : l.foldr max 0 ≤ x
      · rw [Nat.max_eq_left h]; exact List.mem_cons_self
      · rw [Nat.max_eq_right (by omega)]
        refine List.mem_cons_of_mem _ (i2 fun e => ?_)
        rw [e] at h
        exact h (Nat.zero_le _)
def cntA (ws : List (List Int)) : List Int := (rangeI ((topA ws : Int) + 1)).map fun s => ((sizesA ws).count s : Nat)
theorem apart_lots_ev (h : WsOk n ws) : FEv m_apart_lots [oD n ws] (rD (cntA ws)) := fun Q q => by
  have hs : 100000 ≤ sizeLine := by decide
  obtain ⟨h1, h2, h3, h4, h5⟩ := id h
  have ll := lotsA_len (ws := ws) ws.length
  have b10 : 2 ^ ws.length ≤ 2 ^ 10 := Nat.pow_le_pow_right (by decide) h4
  have b11 : (2 : Nat) ^ 10 = 1024 := by decide
  unfold m_apart_lots fnM b_apart_lots
  array_get_dec
  refine lots_apart_ev h _ ?_
  and_intros
  refine lc_M (e := rD) (fun l => (l.length : Int)) D.int (by omega) (fun l hl R hR => ?_) ?_
  · and_intros
    exact hR
  show oMost true (.lst (dInts (sizesA ws))) _
  have ne : 0 < (sizesA ws).length := by unfold sizesA; rw [List.length_map]; exact List.length_pos_of_mem (lotsA_nil _)
  refine y_max ne fun mx hm1 hm2 => ?_
  have emx : mx = (topA ws : Int) := by
    obtain ⟨f1, f2⟩ := foldr_max ((lotsA ws ws.length).map List.length)
    have t1 : ((topA ws : Nat) : Int) ∈ sizesA ws := by
      have := f2 (List.ne_nil_of_mem (List.mem_map.mpr ⟨[], lotsA_nil _, rfl⟩))
      obtain ⟨l, hl, e⟩ := List.mem_map.mp this
      exact List.mem_map.mpr ⟨l, hl, by show ((l.length : Nat) : Int) = ((List.foldr max 0 _ : Nat) : Int); rw [e]⟩
    have t2 := hm2 _ t1
    obtain ⟨l, hl, e⟩ := List.mem_map.mp hm1
    have := f1 _ (List.mem_map.mpr ⟨l, hl, rfl⟩)
    have : l.length ≤ topA ws := this
    omega
  subst emx
  have t10 : topA ws ≤ 10 := by
    have := (foldr_max ((lotsA ws ws.length).map List.length)).2 (List.ne_nil_of_mem (List.mem_map.mpr ⟨[], lotsA_nil _, rfl⟩))
    obtain ⟨l, hl, e⟩ := List.mem_map.mp this
    have := (lotsA_in hl).2
    have : topA ws = l.length := e.symm
    omega
  and_intros
  refine y_rng (by omega) (by omega) ?_
  refine lc_M (e := D.int) (fun s => (((sizesA ws).count s : Nat) : Int)) D.int (by rw [rangeI_len]; omega) (fun s hs R hR => ?_) ?_
  · exact ⟨⟨_, rfl⟩, ⟨sizesA ws, rfl, hR⟩⟩
  exact ⟨immL_dInts _, q⟩
end
end Pu
set_option Elab.async false
set_option linter.all false
set_option maxRecDepth 100000
set_option synthInstance.maxHeartbeats 0
set_option synthInstance.maxSize 100000
namespace Pu
open PySem PySem.Spec PyProof.Rows L2
section
variable {Q : D → Prop} {n i : Int} {r s o row left far a b c g j l m M : List Int} {ws us L K : List (List Int)} {C : List Int} {dd : D} {x y w : Int} {bs : List Bool}
def sg (k : Nat) : Int := if k % 2 = 1 then 1 else -1
theorem sg_step (k : Nat) : sg (k + 1) = - sg k := by
  unfold sg
  by_cases h : k % 2 = 1
  · rw [if_pos h, if_neg (by omega)]
  · rw [if_neg h, if_pos (by omega)]; rfl
def termL (c M : List Int) (t : Nat) (p : List Nat) : Int := (p.map fun k => sg (1 + k) * c.getD (1 + k) 0 * M.getD (t - (1 + k)) 0).sum
def recL (c : List Int) : Nat → List Int
  | 0 => [1]
  | t + 1 => recL c t ++ [termL c (recL c t) (t + 1) (List.range (min (c.length - 1) (t + 1)))]
theorem recL_len : ∀ t : Nat, (recL c t).length = t + 1
  | 0 => rfl
  | t + 1 => by show (recL c t ++ [_]).length = _; rw [List.length_append, recL_len t]; rfl
theorem termL_snoc {t : Nat} {p : List Nat} {k : Nat} : termL c M t (p ++ [k]) = termL c M t p + sg (1 + k) * c.getD (1 + k) 0 * M.getD (t - (1 + k)) 0 := by
  unfold termL
  rw [List.map_append, List.sum_append]
  simp
theorem nat_split {p s : List Nat} {k m : Nat} (e : p ++ k :: s = List.range m) : k = p.length ∧ p.length < m ∧ p = List.range p.length := by
  have hl : p.length < m := by have := congrArg List.length e; simp at this; omega
  have h1 : (List.range m)[p.length]? = some k := by rw [← e, List.getElem?_append_right (Nat.le_refl _)]; simp
  rw [List.getElem?_range hl] at h1
  refine ⟨(Option.some.inj h1).symm, hl, ?_⟩
  have := congrArg (List.take p.length) e
  rw [List.take_left, List.take_range, Nat.min_eq_left (by omega)] at this
  exact this
theorem cntA_small : ∀ x ∈ cntA ws, 0 ≤ x ∧ x ≤ 2 ^ ws.length := fun x hx => by
  obtain ⟨s, _, rfl⟩ := List.mem_map.mp hx
  refine ⟨by omega, ?_⟩
  have h1 := List.count_le_length (a := s) (l := sizesA ws)
  have h2 : (sizesA ws).length = (lotsA ws ws.length).length := List.length_map ..
  have h3 := lotsA_len (ws := ws) ws.length
  have : ((2 : Int) ^ ws.length) = ((2 ^ ws.length : Nat) : Int) := by simp
  rw [this]
  omega
theorem getD_small {B : Int} (h : ∀ x ∈ c, 0 ≤ x ∧ x ≤ B) (hB : 0 ≤ B) (k : Nat) : 0 ≤ c.getD k 0 ∧ c.getD k 0 ≤ B := by
  rw [List.getD_eq_getElem?_getD]
  by_cases hk : k < c.length
  · rw [List.getElem?_eq_getElem hk]
    exact h _ (List.getElem_mem hk)
  · rw [List.getElem?_eq_none (by omega)]
    exact ⟨Int.le_refl _, hB⟩
theorem cntA_len (h : WsOk n ws) : (cntA ws).length ≤ 11 ∧ 1 ≤ (cntA ws).length := by
  have t10 : topA ws ≤ 10 := by
    have := (foldr_max ((lotsA ws ws.length).map List.length)).2 (List.ne_nil_of_mem (List.mem_map.mpr ⟨[], lotsA_nil _, rfl⟩))
    obtain ⟨l, hl, e⟩ := List.mem_map.mp this
    have := (lotsA_in hl).2
    have : topA ws = l.length := e.symm
    have := h.2.2.2.1
    omega
  unfold cntA
  rw [List.length_map, rangeI_len]
  omega
theorem y_negI : oNeg (.int x) Q = Q (.int (-x)) := (rfl)
theorem y_add1 : oAdd1 (.int x) (.int y) Q = Q (.int (x + y)) := Zbn
local macro_rules
  | `(tactic| and_intros) => `(tactic| (try simp only [Zaa, Zab, w_c, Zac, Zad, Zae, Zaf, Zag, Zah, Zai, Zaj, Zak, Zal, Zam, Zan, Zao, Zap, Zaq, Zar, Zas, Zat, Zau, Zav, Zaw, Zax, Zay, Zaz, ZaA, ZaB, ZaC, ZaD, ZaE, ZaF, ZaG, ZaH, ZaI, ZaJ, ZaK, ZaL, ZaM, ZaN, ZaO, ZaP, ZaQ, ZaR, ZaS, ZaT, ZaU, ZaV, ZaW, ZaX, ZaY, ZaZ, Za0, Za1, Za2, Za3, Za4, Za5, Za6, Za7, Za8, Za9, Zba, Zbb, Zbc, Zbd, Zbe, Zbf, Zbg, Zbh, Zbi, Zbj, Zbk, Zbl, Zbm, Zbn, Zbo, Zbp, Zbq, Zbr, Zbs, Zbt, Zbu, Zbv, Zbw, Zbx, Zby, Zbz, ZbA, List.length_cons, List.length_nil, Nat.reduceAdd, Nat.zero_add, ZbB, ZbC, ZbD, ZbE, y_W, ZbF, ZbG, ZbH, ZbI, ZbJ, ZbK, ZbL, ZbM, ZbN, ZbO, ZbP, ZbQ, ZbR, ZbS, sb1, sb2, sb3, sb4, sb5, sb6, sb7, sb8, sb9, ZbT, ZbU, ZbV, ZbW, ZbX, ZbY, ZbZ, Zb0, Zb1, Zb2, Zb3, Zb4, Zb5, Zb6, Zb7, List.map_id, id_eq, BEq.rfl, bne_self_eq_false, Zb8, Zb9, Zca, Zcb, Zcc, Zcd, Zce, Zcf, Zcg, Zch, Zci, Zcj, Zck, Zcl, Zcm, Zcn, Zco, Zcp, Zcq, Zcr, Zcs, Zct, Zcu, Zcv, Zcw, Zcx, Zcy, Zcz, ZcA, ZcB, ZcC, ZcD, true_and, and_true, Bool.and_self, Bool.and_true, Bool.true_and, Bool.not_true, Bool.not_false, Bool.false_eq_true, if_false, if_true, ite_true, ite_false, decide_true, decide_false, reduceIte]))
theorem many_of_ev (h : WsOk n ws) {t : Nat} (ht : t ≤ 60) : FEv m_many_of_length [oD n ws, .int (t : Int)] (.int ((recL (cntA ws) t).getD t 0)) := fun Q q => by
  have hs : 100000 ≤ sizeLine := by decide
  have h4 := h.2.2.2.1
  obtain ⟨c11, c1⟩ := cntA_len h
  have small := fun k => getD_small (c := cntA ws) (B := 2 ^ 10) (fun x hx => by
    obtain ⟨a1, a2⟩ := cntA_small x hx
    have : (2 : Int) ^ ws.length ≤ 2 ^ 10 := by
      have : (2 : Nat) ^ ws.length ≤ 2 ^ 10 := Nat.pow_le_pow_right (by decide) h4
      exact_mod_cast this
    exact ⟨a1, by omega⟩) (by decide) k
  unfold m_many_of_length fnM b_many_of_length
  simp only [env0, List.map_cons, List.map_nil, List.length_cons, List.length_nil, List.replicate_succ, List.replicate_zero, List.cons_append, List.nil_append, Nat.reduceSub, Nat.reduceAdd, Nat.zero_add, Zaa, Zab, w_c, Zac, Zad, Zae, Zaf, Zag, Zah, Zai, Zaj, Zak, Zal, Zam, Zan, Zao, Zap, Zaq, Zar, Zas, Zat, Zau, Zav, Zaw, Zax, Zay, Zaz, ZaA, ZaB, ZaC, ZaD, ZaE, ZaF, ZaG, ZaH, ZaI, ZaJ, ZaK, ZaL, ZaM, ZaN, ZaO, ZaP, ZaQ, ZaR, ZaS, ZaT, ZaU, ZaV, ZaW, ZaX, ZaY, ZaZ, Za0, Za1, Za2, Za3, Za4, Za5, Za6, Za7, Za8, Za9, Zba, Zbb, Zbc, Zbd, Zbe, Zbf, Zbg, Zbh, Zbi, Zbj, Zbk, Zbl, Zbm, Zbn, Zbo, Zbp, Zbq, Zbr, Zbs, Zbt, Zbu, Zbv, Zbw, Zbx, Zby, Zbz, ZbA, List.length_cons, List.length_nil, Nat.reduceAdd, Nat.zero_add, ZbB, ZbC, ZbD, ZbE, y_W, ZbF, ZbG, ZbH, ZbI, ZbJ, ZbK, ZbL, ZbM, ZbN, ZbO, ZbP, ZbQ, ZbR, ZbS, sb1, sb2, sb3, sb4, sb5, sb6, sb7, sb8, sb9, ZbT, ZbU, ZbV, ZbW, ZbX, ZbY, ZbZ, Zb0, Zb1, Zb2, Zb3, Zb4, Zb5, Zb6, Zb7, List.map_id, id_eq, BEq.rfl, bne_self_eq_false, Zb8, Zb9, Zca, Zcb, Zcc, Zcd, Zce, Zcf, Zcg, Zch, Zci, Zcj, Zck, Zcl, Zcm, Zcn, Zco, Zcp, Zcq, Zcr, Zcs, Zct, Zcu, Zcv, Zcw, Zcx, Zcy, Zcz, ZcA, ZcB, ZcC, ZcD, true_and, and_true, Bool.and_self, Bool.and_true, Bool.true_and, Bool.not_true, Bool.not_false, Bool.false_eq_true, if_false, if_true, ite_true, ite_false, decide_true, decide_false, reduceIte]
  refine apart_lots_ev h _ ?_
  generalize cntA ws = c at *
  and_intros
  rw [show ((t : Int) + 1) = ((t + 1 : Nat) : Int) by omega]
  refine ⟨by omega, y_rng253 (a := 1) (b := t + 1) (by omega) (by omega) ?_⟩
  refine loop_T (fun p s env => ∃ e4 e5 e6 e7, p.length ≤ t ∧ env = [some (oD n ws), some (.int (t : Int)), some (rD c), some (.lst (dInts (recL c p.length))), e4, e5, e6, e7]) _ ⟨_, _, _, _, by simp, rfl⟩ ?_ ?_
  · rintro p k s env e ⟨e4, e5, e6, e7, hp, rfl⟩
    obtain ⟨ek, hk, _⟩ := nat_split e
    subst ek
    and_intros
    rw [show (if ((1 + p.length : Nat) : Int) + 1 < (c.length : Int) then ((1 + p.length : Nat) : Int) + 1 else (c.length : Int)) = ((min c.length (p.length + 2) : Nat) : Int) by split <;> omega]
    refine y_rng253 (a := 1) (b := min c.length (p.length + 2)) (by omega) (by omega) ?_
    refine loop_T (fun p2 s2 env => ∃ e7, p2 = List.range p2.length ∧ env = [some (oD n ws), some (.int (t : Int)), some (rD c), some (.lst (dInts (recL c p.length))), some (.int ((1 + p.length : Nat) : Int)), some (.int (termL c (recL c p.length) (p.length + 1) p2)), some (.int (sg (1 + p2.length))), e7]) _ ⟨_, rfl, rfl⟩ ?_ ?_
    · rintro p2 k2 s2 env e2 ⟨e7, _, rfl⟩
      obtain ⟨ek, hk2, ep⟩ := nat_split e2
      subst ek
      and_intros
      have s1 := small (1 + p2.length)
      have g1 : sg (1 + p2.length) = 1 ∨ sg (1 + p2.length) = -1 := by unfold sg; split <;> simp
      have cm : CMul (sg (1 + p2.length)) (c.getD (1 + p2.length) 0) := .inl (by rcases g1 with e | e <;> rw [e] <;> decide)
      have cm2 : CMul (sg (1 + p2.length) * c.getD (1 + p2.length) 0) ((recL c p.length).getD (p.length + 1 - (1 + p2.length)) 0) := .inl (by rcases g1 with e | e <;> rw [e] <;> omega)
      refine y_ixR (by omega) (by omega) ?_
      rw [Int.toNat_natCast]
      refine ⟨cm, ?_⟩
      refine y_ixL (r := recL c p.length) (by omega) (by rw [recL_len]; omega) ?_
      rw [show (((1 + p.length : Nat) : Int) - ((1 + p2.length : Nat) : Int)).toNat = p.length + 1 - (1 + p2.length) by omega]
      refine ⟨cm2, ?_⟩
      dsimp only
      rw [y_add1, y_negI]
      refine ⟨some (.int ((1 + p2.length : Nat) : Int)), by rw [List.length_append, List.length_singleton, List.range_succ, ← ep], ?_⟩
      rw [termL_snoc, List.length_append, List.length_singleton, ← Nat.add_assoc, sg_step]
    · rintro env ⟨e7, _, rfl⟩
      and_intros
      refine ⟨by rw [recL_len]; omega, ?_⟩
      rw [show dInts (recL c p.length) ++ [D.int (termL c (recL c p.length) (p.length + 1) (List.range (min c.length (p.length + 2) - 1)))] = dInts (recL c (p ++ [p.length]).length) by
        rw [List.length_append, List.length_singleton, show min c.length (p.length + 2) - 1 = min (c.length - 1) (p.length + 1) by omega]
        exact (dInts_app (recL c p.length) [termL c (recL c p.length) (p.length + 1) (List.range (min (c.length - 1) (p.length + 1)))])]
      exact ⟨_, _, _, _, by rw [List.length_append, List.length_singleton]; omega, rfl⟩
  · rintro env ⟨e4, e5, e6, e7, hp, rfl⟩
    rw [List.length_range, Nat.add_sub_cancel] at *
    and_intros
    refine y_ixL (r := recL c t) (by omega) (by rw [recL_len]; omega) ?_
    rw [Int.toNat_natCast]
    exact ⟨rfl, q⟩
end
end Pu
set_option Elab.async false
set_option linter.all false
set_option maxRecDepth 100000
set_option synthInstance.maxHeartbeats 0
set_option synthInstance.maxSize 100000
namespace Pu
open PySem PySem.Spec PyProof.Rows L2
section
variable {Q : D → Prop} {n i : Int} {r s o row left far a b c g j l m M : List Int} {ws us L K : List (List Int)} {C : List Int} {dd : D} {x y w : Int} {bs : List Bool}
local macro_rules
  | `(tactic| and_intros) => `(tactic| (try simp only [Zaa, Zab, w_c, Zac, Zad, Zae, Zaf, Zag, Zah, Zai, Zaj, Zak, Zal, Zam, Zan, Zao, Zap, Zaq, Zar, Zas, Zat, Zau, Zav, Zaw, Zax, Zay, Zaz, ZaA, ZaB, ZaC, ZaD, ZaE, ZaF, ZaG, ZaH, ZaI, ZaJ, ZaK, ZaL, ZaM, ZaN, ZaO, ZaP, ZaQ, ZaR, ZaS, ZaT, ZaU, ZaV, ZaW, ZaX, ZaY, ZaZ, Za0, Za1, Za2, Za3, Za4, Za5, Za6, Za7, Za8, Za9, Zba, Zbb, Zbc, Zbd, Zbe, Zbf, Zbg, Zbh, Zbi, Zbj, Zbk, Zbl, Zbm, Zbn, Zbo, Zbp, Zbq, Zbr, Zbs, Zbt, Zbu, Zbv, Zbw, Zbx, Zby, Zbz, ZbA, List.length_cons, List.length_nil, Nat.reduceAdd, Nat.zero_add, ZbB, ZbC, ZbD, ZbE, y_W, ZbF, ZbG, ZbH, ZbI, ZbJ, ZbK, ZbL, ZbM, ZbN, ZbO, ZbP, ZbQ, ZbR, ZbS, sb1, sb2, sb3, sb4, sb5, sb6, sb7, sb8, sb9, ZbT, ZbU, ZbV, ZbW, ZbX, ZbY, ZbZ, Zb0, Zb1, Zb2, Zb3, Zb4, Zb5, Zb6, Zb7, List.map_id, id_eq, BEq.rfl, bne_self_eq_false, Zb8, Zb9, Zca, Zcb, Zcc, Zcd, Zce, Zcf, Zcg, Zch, Zci, Zcj, Zck, Zcl, Zcm, Zcn, Zco, Zcp, Zcq, Zcr, Zcs, Zct, Zcu, Zcv, Zcw, Zcx, Zcy, Zcz, ZcA, ZcB, ZcC, ZcD, true_and, and_true, Bool.and_self, Bool.and_true, Bool.true_and, Bool.not_true, Bool.not_false, Bool.false_eq_true, if_false, if_true, ite_true, ite_false, decide_true, decide_false, reduceIte]))
local macro_rules
  | `(tactic| array_get_dec) => `(tactic| (simp only [env0, List.map_cons, List.map_nil, List.length_cons, List.length_nil, List.replicate_succ, List.replicate_zero, List.cons_append, List.nil_append, Nat.reduceSub, Nat.reduceAdd, Nat.zero_add, Zaa, Zab, w_c, Zac, Zad, Zae, Zaf, Zag, Zah, Zai, Zaj, Zak, Zal, Zam, Zan, Zao, Zap, Zaq, Zar, Zas, Zat, Zau, Zav, Zaw, Zax, Zay, Zaz, ZaA, ZaB, ZaC, ZaD, ZaE, ZaF, ZaG, ZaH, ZaI, ZaJ, ZaK, ZaL, ZaM, ZaN, ZaO, ZaP, ZaQ, ZaR, ZaS, ZaT, ZaU, ZaV, ZaW, ZaX, ZaY, ZaZ, Za0, Za1, Za2, Za3, Za4, Za5, Za6, Za7, Za8, Za9, Zba, Zbb, Zbc, Zbd, Zbe, Zbf, Zbg, Zbh, Zbi, Zbj, Zbk, Zbl, Zbm, Zbn, Zbo, Zbp, Zbq, Zbr, Zbs, Zbt, Zbu, Zbv, Zbw, Zbx, Zby, Zbz, ZbA, List.length_cons, List.length_nil, Nat.reduceAdd, Nat.zero_add, ZbB, ZbC, ZbD, ZbE, y_W, ZbF, ZbG, ZbH, ZbI, ZbJ, ZbK, ZbL, ZbM, ZbN, ZbO, ZbP, ZbQ, ZbR, ZbS, sb1, sb2, sb3, sb4, sb5, sb6, sb7, sb8, sb9, ZbT, ZbU, ZbV, ZbW, ZbX, ZbY, ZbZ, Zb0, Zb1, Zb2, Zb3, Zb4, Zb5, Zb6, Zb7, List.map_id, id_eq, BEq.rfl, bne_self_eq_false, Zb8, Zb9, Zca, Zcb, Zcc, Zcd, Zce, Zcf, Zcg, Zch, Zci, Zcj, Zck, Zcl, Zcm, Zcn, Zco, Zcp, Zcq, Zcr, Zcs, Zct, Zcu, Zcv, Zcw, Zcx, Zcy, Zcz, ZcA, ZcB, ZcC, ZcD, true_and, and_true, Bool.and_self, Bool.and_true, Bool.true_and, Bool.not_true, Bool.not_false, Bool.false_eq_true, if_false, if_true, ite_true, ite_false, decide_true, decide_false, reduceIte]))
theorem many_rows_ev (h : WsOk n ws) {t : Nat} (ht : t ≤ 60) : FEv m_many_rows [oD n ws, .int (t : Int)] (.int ((recL (cntA ws) t).getD t 0)) := fun Q q => by
  unfold m_many_rows fnM b_many_rows
  array_get_dec
  show m_check_length [.int (t : Int)] _
  unfold m_check_length fnM b_check_length
  array_get_dec
  refine is_below_ev (n := 61) (by omega) (by omega) _ ?_
  and_intros
  exact many_of_ev h ht _ q
theorem by_sums_ev (c11 : c.length ≤ 11) (c1 : 1 ≤ c.length) (small : ∀ k, 0 ≤ c.getD k 0 ∧ c.getD k 0 ≤ 2 ^ 10) {t : Nat} (ht : t ≤ 60) : FEv m__law_by_sums [rD c, .int (t : Int)] (.int ((recL c t).getD t 0)) := fun Q q => by
  have hs : 100000 ≤ sizeLine := by decide
  unfold m__law_by_sums fnM b__law_by_sums
  array_get_dec
  rw [show ((t : Int) + 1) = ((t + 1 : Nat) : Int) by omega]
  refine ⟨by omega, y_rng253 (a := 1) (b := t + 1) (by omega) (by omega) ?_⟩
  refine loop_T (fun p s env => ∃ e3 e4 e5, p.length ≤ t ∧ env = [some (rD c), some (.int (t : Int)), some (.lst (dInts (recL c p.length))), e3, e4, e5]) _ ⟨_, _, _, by simp, rfl⟩ ?_ ?_
  · rintro p k s env e ⟨e3, e4, e5, hp, rfl⟩
    obtain ⟨ek, hk, _⟩ := nat_split e
    subst ek
    and_intros
    refine y_rng253 (a := 1) (b := c.length) (by omega) (by omega) ?_
    refine loop_T (fun p2 s2 env => ∃ e5, env = [some (rD c), some (.int (t : Int)), some (.lst (dInts (recL c p.length))), some (.int ((1 + p.length : Nat) : Int)), some (.int (termL c (recL c p.length) (p.length + 1) (List.range (min p2.length (p.length + 1))))), e5]) _ ⟨_, rfl⟩ ?_ ?_
    · rintro p2 k2 s2 env e2 ⟨e5, rfl⟩
      obtain ⟨ek, hk2, ep⟩ := nat_split e2
      subst ek
      and_intros
      by_cases hle : p2.length ≤ p.length
      · have s1 := small (1 + p2.length)
        have cm : CMul (c.getD (1 + p2.length) 0) ((recL c p.length).getD (p.length + 1 - (1 + p2.length)) 0) := .inl (by omega)
        rw [w_sif]
        and_intros
        rw [decide_eq_true (show ((1 + p2.length : Nat) : Int) ≤ ((1 + p.length : Nat) : Int) by omega)]
        and_intros
        refine y_ixR (by omega) (by omega) ?_
        rw [Int.toNat_natCast]
        refine y_ixL (r := recL c p.length) (by omega) (by rw [recL_len]; omega) ?_
        rw [show (((1 + p.length : Nat) : Int) - ((1 + p2.length : Nat) : Int)).toNat = p.length + 1 - (1 + p2.length) by omega]
        refine ⟨cm, ?_⟩
        and_intros
        refine ⟨by decide, ?_⟩
        have ef : ((1 + p2.length : Nat) : Int).fmod 2 = (((1 + p2.length) % 2 : Nat) : Int) := by rw [Int.fmod_eq_emod_of_nonneg _ (by decide)]; omega
        have et : termL c (recL c p.length) (p.length + 1) (List.range (min (p2 ++ [p2.length]).length (p.length + 1))) = termL c (recL c p.length) (p.length + 1) (List.range (min p2.length (p.length + 1))) + sg (1 + p2.length) * c.getD (1 + p2.length) 0 * (recL c p.length).getD (p.length + 1 - (1 + p2.length)) 0 := by
          rw [List.length_append, List.length_singleton, show min (p2.length + 1) (p.length + 1) = p2.length + 1 by omega, show min p2.length (p.length + 1) = p2.length by omega, List.range_succ, termL_snoc]
        rw [et]
        generalize termL c (recL c p.length) (p.length + 1) (List.range (min p2.length (p.length + 1))) = tt
        generalize (recL c p.length).getD (p.length + 1 - (1 + p2.length)) 0 = mm
        by_cases h2 : (1 + p2.length) % 2 = 1
        · rw [decide_eq_true (show ((1 + p2.length : Nat) : Int).fmod 2 = 1 by rw [ef, h2]; rfl), if_pos rfl]
          refine ⟨.inr (by decide), ?_⟩
          rw [show sg (1 + p2.length) = 1 from if_pos h2, Int.mul_one, Int.one_mul]
          exact ⟨_, rfl⟩
        · rw [decide_eq_false (show ¬ ((1 + p2.length : Nat) : Int).fmod 2 = 1 by rw [ef]; omega), if_neg (by decide), y_negI]
          refine ⟨.inr (by decide), ?_⟩
          dsimp only
          and_intros
          rw [show sg (1 + p2.length) = -1 from if_neg h2, show (-1 : Int) * c.getD (1 + p2.length) 0 * mm = c.getD (1 + p2.length) 0 * mm * -1 by rw [Int.neg_mul, Int.one_mul, Int.neg_mul, Int.mul_neg, Int.mul_one]]
          exact ⟨_, rfl⟩
      · rw [w_sif]
        and_intros
        rw [decide_eq_false (show ¬ ((1 + p2.length : Nat) : Int) ≤ ((1 + p.length : Nat) : Int) by omega)]
        and_intros
        rw [List.length_append, List.length_singleton, show min (p2.length + 1) (p.length + 1) = min p2.length (p.length + 1) by omega]
        exact ⟨_, rfl⟩
    · rintro env ⟨e5, rfl⟩
      and_intros
      refine ⟨by rw [recL_len]; omega, ?_⟩
      rw [List.length_range, show dInts (recL c p.length) ++ [D.int (termL c (recL c p.length) (p.length + 1) (List.range (min (c.length - 1) (p.length + 1))))] = dInts (recL c (p ++ [p.length]).length) by
        rw [List.length_append, List.length_singleton]
        exact (dInts_app (recL c p.length) [termL c (recL c p.length) (p.length + 1) (List.range (min (c.length - 1) (p.length + 1)))])]
      exact ⟨_, _, _, by rw [List.length_append, List.length_singleton]; omega, rfl⟩
  · rintro env ⟨e3, e4, e5, hp, rfl⟩
    rw [List.length_range, Nat.add_sub_cancel] at *
    and_intros
    refine y_ixL (r := recL c t) (by omega) (by rw [recL_len]; omega) ?_
    rw [Int.toNat_natCast]
    exact ⟨rfl, q⟩
end
end Pu
set_option Elab.async false
set_option linter.all false
set_option maxRecDepth 100000
set_option synthInstance.maxHeartbeats 0
set_option synthInstance.maxSize 100000
namespace Pu
open PySem PySem.Spec PyProof.Rows L2
section
variable {Q : D → Prop} {n i : Int} {r s o row left far a b c g j l m M : List Int} {ws us L K : List (List Int)} {C : List Int} {dd : D} {x y w : Int} {bs : List Bool}
def Apt (ws : List (List Int)) (k : Int) (l : List Int) : Prop := l.Pairwise (fun x y => x < y ∧ meetsF ws y x = false) ∧ ∀ x ∈ l, 0 ≤ x ∧ x < k
theorem apt_snoc {k : Nat} : Apt ws (k + 1 : Nat) l ↔ Apt ws k l ∨ ∃ l', l = l' ++ [(k : Int)] ∧ Apt ws k l' ∧ (l'.any fun o => meetsF ws (k : Int) o) = false := by
  constructor
  · rintro ⟨h1, h2⟩
    by_cases hk : ∀ x ∈ l, x < (k : Int)
    · exact .inl ⟨h1, fun x hx => ⟨(h2 x hx).1, hk x hx⟩⟩
    · right
      have : ∃ z ∈ l, z = (k : Int) := by
        refine Classical.byContradiction fun hno => hk fun x hx => ?_
        have := h2 x hx
        have : x ≠ (k : Int) := fun e => hno ⟨x, hx, e⟩
        omega
      obtain ⟨z, hz, rfl⟩ := this
      obtain ⟨A, B, rfl⟩ := List.append_of_mem hz
      have hB : B = [] := by
        cases B with
        | nil => rfl
        | cons y B =>
          have p2 := (List.pairwise_append.mp h1).2.1
          have := ((List.pairwise_cons.mp p2).1 y List.mem_cons_self).1
          have := h2 y (by simp)
          omega
      subst hB
      obtain ⟨pA, _, pc⟩ := List.pairwise_append.mp h1
      refine ⟨A, rfl, ⟨pA, fun x hx => ⟨(h2 x (List.mem_append_left _ hx)).1, (pc x hx _ List.mem_cons_self).1⟩⟩, ?_⟩
      rw [List.any_eq_false]
      intro o ho
      rw [(pc o ho _ List.mem_cons_self).2]
      decide
  · rintro (⟨h1, h2⟩ | ⟨l', rfl, ⟨h1, h2⟩, h3⟩)
    · exact ⟨h1, fun x hx => by have := h2 x hx; omega⟩
    · refine ⟨List.pairwise_append.mpr ⟨h1, List.pairwise_singleton _ _, fun a ha b hb => ?_⟩, fun x hx => ?_⟩
      · rw [List.mem_singleton.mp hb]
        refine ⟨(h2 a ha).2, ?_⟩
        have := List.any_eq_false.mp h3 a ha
        simpa using this
      · rcases List.mem_append.mp hx with hx | hx
        · have := h2 x hx; omega
        · rw [List.mem_singleton.mp hx]; omega
theorem lotsA_mem : ∀ {k : Nat} {l : List Int}, l ∈ lotsA ws k ↔ Apt ws k l
  | 0, l => by
    constructor
    · intro h
      rw [List.mem_singleton.mp h]
      exact ⟨.nil, fun x hx => nomatch hx⟩
    · rintro ⟨_, h2⟩
      cases l with
      | nil => exact List.mem_singleton.mpr rfl
      | cons x l => have := h2 x List.mem_cons_self; omega
  | k + 1, l => by
    rw [apt_snoc, ← lotsA_mem]
    show l ∈ lotsA ws k ++ _ ↔ _
    rw [List.mem_append, List.mem_map]
    refine or_congr Iff.rfl ⟨?_, ?_⟩
    · rintro ⟨l', h, rfl⟩
      obtain ⟨h1, h2⟩ := List.mem_filter.mp h
      exact ⟨l', rfl, lotsA_mem.mp h1, by simpa using h2⟩
    · rintro ⟨l', rfl, h1, h2⟩
      exact ⟨l', List.mem_filter.mpr ⟨lotsA_mem.mpr h1, by rw [h2]; rfl⟩, rfl⟩
theorem lotsA_nodup : ∀ k : Nat, (lotsA ws k).Nodup
  | 0 => List.nodup_cons.mpr ⟨(fun h => nomatch h), List.nodup_nil⟩
  | k + 1 => by
    refine List.nodup_append.mpr ⟨lotsA_nodup k, List.pairwise_map.mpr ((List.Pairwise.filter _ (lotsA_nodup k)).imp fun h e => h (List.append_cancel_right e)), fun a ha b hb e => ?_⟩
    subst e
    obtain ⟨l', _, rfl⟩ := List.mem_map.mp hb
    have := (lotsA_mem.mp ha).2 (k : Int) (by simp)
    omega
theorem count_lots {k : Nat} {X : List (List Int)} (nd : X.Nodup) (hX : ∀ l, l ∈ X ↔ Apt ws ws.length l ∧ l.length = k) : (sizesA ws).count (k : Int) = X.length := by
  unfold sizesA
  rw [List.count_eq_countP, List.countP_map, List.countP_eq_length_filter]
  refine (List.Perm.length_eq ?_)
  refine (List.perm_ext_iff_of_nodup (List.Pairwise.filter _ (lotsA_nodup _)) nd).mpr fun l => ?_
  rw [List.mem_filter, lotsA_mem, hX]
  refine and_congr Iff.rfl ?_
  simp
  omega
end
end Pu
set_option Elab.async false
set_option linter.all false
set_option maxRecDepth 100000
set_option synthInstance.maxHeartbeats 0
set_option synthInstance.maxSize 100000
namespace Pu
open PySem PySem.Spec PyProof.Rows L2
section
variable {Q : D → Prop} {n i : Int} {r s o row left far a b c g j l m M : List Int} {ws us L K : List (List Int)} {C : List Int} {dd : D} {x y w : Int} {bs : List Bool}
def apB (ws : List (List Int)) (l : List Int) : Bool := (rangeI (l.length : Int)).all fun t => !((rangeI t).any fun o => meetsF ws (l.getD o.toNat 0) (l.getD t.toNat 0))
local macro_rules
  | `(tactic| and_intros) => `(tactic| (try simp only [Zaa, Zab, w_c, Zac, Zad, Zae, Zaf, Zag, Zah, Zai, Zaj, Zak, Zal, Zam, Zan, Zao, Zap, Zaq, Zar, Zas, Zat, Zau, Zav, Zaw, Zax, Zay, Zaz, ZaA, ZaB, ZaC, ZaD, ZaE, ZaF, ZaG, ZaH, ZaI, ZaJ, ZaK, ZaL, ZaM, ZaN, ZaO, ZaP, ZaQ, ZaR, ZaS, ZaT, ZaU, ZaV, ZaW, ZaX, ZaY, ZaZ, Za0, Za1, Za2, Za3, Za4, Za5, Za6, Za7, Za8, Za9, Zba, Zbb, Zbc, Zbd, Zbe, Zbf, Zbg, Zbh, Zbi, Zbj, Zbk, Zbl, Zbm, Zbn, Zbo, Zbp, Zbq, Zbr, Zbs, Zbt, Zbu, Zbv, Zbw, Zbx, Zby, Zbz, ZbA, List.length_cons, List.length_nil, Nat.reduceAdd, Nat.zero_add, ZbB, ZbC, ZbD, ZbE, y_W, ZbF, ZbG, ZbH, ZbI, ZbJ, ZbK, ZbL, ZbM, ZbN, ZbO, ZbP, ZbQ, ZbR, ZbS, sb1, sb2, sb3, sb4, sb5, sb6, sb7, sb8, sb9, ZbT, ZbU, ZbV, ZbW, ZbX, ZbY, ZbZ, Zb0, Zb1, Zb2, Zb3, Zb4, Zb5, Zb6, Zb7, List.map_id, id_eq, BEq.rfl, bne_self_eq_false, Zb8, Zb9, Zca, Zcb, Zcc, Zcd, Zce, Zcf, Zcg, Zch, Zci, Zcj, Zck, Zcl, Zcm, Zcn, Zco, Zcp, Zcq, Zcr, Zcs, Zct, Zcu, Zcv, Zcw, Zcx, Zcy, Zcz, ZcA, ZcB, ZcC, ZcD, true_and, and_true, Bool.and_self, Bool.and_true, Bool.true_and, Bool.not_true, Bool.not_false, Bool.false_eq_true, if_false, if_true, ite_true, ite_false, decide_true, decide_false, reduceIte]))
theorem apart2_ev (h : WsOk n ws) (hl : InW ws l) (l10 : l.length ≤ 100) : FEv m__law_apart_2 [pD n ws, rD l] (.bl (apB ws l)) := fun Q q => by
  have hs : 100000 ≤ sizeLine := by decide
  have wl : WsLen ws := fun l hl => (h.2.2.2.2 l hl).2.2
  have at1 : ∀ k : Int, 0 ≤ k → k < (l.length : Int) → 0 ≤ l.getD k.toNat 0 ∧ l.getD k.toNat 0 < (ws.length : Int) := fun k k0 k1 => by
    rw [List.getD_eq_getElem?_getD, List.getElem?_eq_getElem (by omega)]
    exact hl _ (List.getElem_mem _)
  unfold m__law_apart_2 fnM b__law_apart_2
  simp only [env0, List.map_cons, List.map_nil, List.length_cons, List.length_nil, List.replicate_succ, List.replicate_zero, List.cons_append, List.nil_append, Nat.reduceSub, Nat.reduceAdd, Nat.zero_add, Zaa, Zab, w_c, Zac, Zad, Zae, Zaf, Zag, Zah, Zai, Zaj, Zak, Zal, Zam, Zan, Zao, Zap, Zaq, Zar, Zas, Zat, Zau, Zav, Zaw, Zax, Zay, Zaz, ZaA, ZaB, ZaC, ZaD, ZaE, ZaF, ZaG, ZaH, ZaI, ZaJ, ZaK, ZaL, ZaM, ZaN, ZaO, ZaP, ZaQ, ZaR, ZaS, ZaT, ZaU, ZaV, ZaW, ZaX, ZaY, ZaZ, Za0, Za1, Za2, Za3, Za4, Za5, Za6, Za7, Za8, Za9, Zba, Zbb, Zbc, Zbd, Zbe, Zbf, Zbg, Zbh, Zbi, Zbj, Zbk, Zbl, Zbm, Zbn, Zbo, Zbp, Zbq, Zbr, Zbs, Zbt, Zbu, Zbv, Zbw, Zbx, Zby, Zbz, ZbA, List.length_cons, List.length_nil, Nat.reduceAdd, Nat.zero_add, ZbB, ZbC, ZbD, ZbE, y_W, ZbF, ZbG, ZbH, ZbI, ZbJ, ZbK, ZbL, ZbM, ZbN, ZbO, ZbP, ZbQ, ZbR, ZbS, sb1, sb2, sb3, sb4, sb5, sb6, sb7, sb8, sb9, ZbT, ZbU, ZbV, ZbW, ZbX, ZbY, ZbZ, Zb0, Zb1, Zb2, Zb3, Zb4, Zb5, Zb6, Zb7, List.map_id, id_eq, BEq.rfl, bne_self_eq_false, Zb8, Zb9, Zca, Zcb, Zcc, Zcd, Zce, Zcf, Zcg, Zch, Zci, Zcj, Zck, Zcl, Zcm, Zcn, Zco, Zcp, Zcq, Zcr, Zcs, Zct, Zcu, Zcv, Zcw, Zcx, Zcy, Zcz, ZcA, ZcB, ZcC, ZcD, true_and, and_true, Bool.and_self, Bool.and_true, Bool.true_and, Bool.not_true, Bool.not_false, Bool.false_eq_true, if_false, if_true, ite_true, ite_false, decide_true, decide_false, reduceIte]
  refine y_rng (n := (l.length : Int)) (by omega) (by omega) ?_
  refine loop_I (fun p s env => ∃ e2 e3, (∀ t ∈ p, ((rangeI t).any fun o => meetsF ws (l.getD o.toNat 0) (l.getD t.toNat 0)) = false) ∧ env = [some (pD n ws), some (rD l), e2, e3]) _ ⟨_, _, (fun t ht => nomatch ht), rfl⟩ ?_ ?_
  · rintro p t s env e ⟨e2, e3, hp, rfl⟩
    have ht := mem_rangeI.mp (show t ∈ rangeI (l.length : Int) by rw [← e]; simp)
    and_intros
    refine y_rng (n := t) (by omega) (by omega) ?_
    refine lc_M (e := D.int) (fun o => meetsF ws (l.getD o.toNat 0) (l.getD t.toNat 0)) D.bl (by rw [rangeI_len]; omega) (fun o ho R hR => ?_) ?_
    · have ho := mem_rangeI.mp ho
      and_intros
      refine y_ixR ho.1 (by omega) ?_
      refine y_ixR ht.1 (by omega) ?_
      exact meets_ev wl (at1 o ho.1 (by omega)) (at1 t ht.1 ht.2) _ hR
    and_intros
    rw [show (((rangeI t).map fun o => meetsF ws (l.getD o.toNat 0) (l.getD t.toNat 0)).any id) = (rangeI t).any fun o => meetsF ws (l.getD o.toNat 0) (l.getD t.toNat 0) by rw [List.any_map]; rfl]
    cases hb : ((rangeI t).any fun o => meetsF ws (l.getD o.toNat 0) (l.getD t.toNat 0)) with
    | true =>
      and_intros
      have : apB ws l = false := by
        unfold apB
        rw [List.all_eq_false]
        exact ⟨t, by rw [← e]; simp, by rw [hb]; decide⟩
      rw [this] at q
      exact q
    | false =>
      and_intros
      refine ⟨_, _, fun t' ht' => ?_, rfl⟩
      rcases List.mem_append.mp ht' with z | z
      · exact hp t' z
      · rw [List.mem_singleton.mp z]; exact hb
  · rintro env ⟨e2, e3, hp, rfl⟩
    and_intros
    have : apB ws l = true := by
      unfold apB
      rw [List.all_eq_true]
      intro t ht
      rw [hp t ht]
      rfl
    rw [this] at q
    exact q
end
end Pu
set_option Elab.async false
set_option linter.all false
set_option maxRecDepth 100000
set_option synthInstance.maxHeartbeats 0
set_option synthInstance.maxSize 100000
namespace Pu
open PySem PySem.Spec PyProof.Rows L2
section
variable {Q : D → Prop} {n i : Int} {r s o row left far a b c g j l m M : List Int} {ws us L K : List (List Int)} {C : List Int} {dd : D} {x y w k : Int} {bs : List Bool}
theorem apB_snoc (h : Apt ws k l) : apB ws (l ++ [w]) = !(l.any fun o => meetsF ws w o) := by
  have e1 : ∀ t : Nat, t < l.length → (l ++ [w]).getD t 0 = l.getD t 0 := fun t ht => by
    rw [List.getD_eq_getElem?_getD, List.getD_eq_getElem?_getD, List.getElem?_append_left ht]
  have e2 : (l ++ [w]).getD l.length 0 = w := by
    rw [List.getD_eq_getElem?_getD, List.getElem?_append_right (Nat.le_refl _)]; simp
  have g : ∀ t : Nat, t < l.length → l.getD t 0 ∈ l := fun t ht => by
    rw [List.getD_eq_getElem?_getD, List.getElem?_eq_getElem ht]; exact List.getElem_mem _
  have last : ((rangeI (l.length : Int)).any fun o => meetsF ws ((l ++ [w]).getD o.toNat 0) ((l ++ [w]).getD ((l.length : Int)).toNat 0)) = l.any fun o => meetsF ws w o := by
    rw [Int.toNat_natCast, e2, Bool.eq_iff_iff, List.any_eq_true, List.any_eq_true]
    constructor
    · rintro ⟨o, ho, h⟩
      have ho := mem_rangeI.mp ho
      rw [e1 _ (by omega)] at h
      exact ⟨_, g o.toNat (by omega), by rw [meets_sym]; exact h⟩
    · rintro ⟨o, ho, h⟩
      obtain ⟨t, ht⟩ := List.getElem?_of_mem ho
      have hl := (List.getElem?_eq_some_iff.mp ht).1
      refine ⟨(t : Int), mem_rangeI.mpr ⟨by omega, by omega⟩, ?_⟩
      rw [Int.toNat_natCast, e1 t hl, List.getD_eq_getElem?_getD, ht, meets_sym]
      exact h
  unfold apB
  rw [List.length_append, List.length_singleton, Bool.eq_iff_iff, List.all_eq_true, Bool.not_eq_true']
  constructor
  · intro hh
    have := hh (l.length : Int) (mem_rangeI.mpr ⟨by omega, by omega⟩)
    rw [last] at this
    simpa using this
  · intro hh t ht
    have ht := mem_rangeI.mp ht
    by_cases et : t = (l.length : Int)
    · rw [et, last, hh]; rfl
    · have : ((rangeI t).any fun o => meetsF ws ((l ++ [w]).getD o.toNat 0) ((l ++ [w]).getD t.toNat 0)) = false := by
        rw [List.any_eq_false]
        intro o ho
        have ho := mem_rangeI.mp ho
        rw [e1 o.toNat (by omega), e1 t.toNat (by omega)]
        have pw := List.pairwise_iff_getElem.mp h.1 o.toNat t.toNat (by omega) (by omega) (by omega)
        rw [List.getD_eq_getElem?_getD, List.getD_eq_getElem?_getD, List.getElem?_eq_getElem (by omega), List.getElem?_eq_getElem (by omega)]
        have := pw.2
        rw [meets_sym] at this
        simpa using this
      rw [this]; rfl
def startA (l : List Int) : Int := match l.getLast? with
  | some x => x + 1
  | none => 0
def nxtL (ws : List (List Int)) (l : List Int) : List (List Int) := ((rangeI (ws.length : Int)).filter fun w => decide (startA l ≤ w) && apB ws (l ++ [w])).map fun w => l ++ [w]
def lvl (ws : List (List Int)) : Nat → List (List Int)
  | 0 => [[]]
  | k + 1 => (lvl ws k).flatMap (nxtL ws)
theorem lvl_mem : ∀ {k : Nat} {l : List Int}, l ∈ lvl ws k ↔ Apt ws ws.length l ∧ l.length = k
  | 0, l => by
    constructor
    · intro h
      rw [List.mem_singleton.mp h]
      exact ⟨⟨.nil, fun x hx => nomatch hx⟩, rfl⟩
    · rintro ⟨_, h2⟩
      rw [List.eq_nil_of_length_eq_zero h2]
      exact List.mem_singleton.mpr rfl
  | k + 1, l => by
    show l ∈ (lvl ws k).flatMap (nxtL ws) ↔ _
    rw [List.mem_flatMap]
    constructor
    · rintro ⟨l', h1, h2⟩
      obtain ⟨a1, a2⟩ := lvl_mem.mp h1
      obtain ⟨w, hw, rfl⟩ := List.mem_map.mp h2
      obtain ⟨w1, w2⟩ := List.mem_filter.mp hw
      have w1 := mem_rangeI.mp w1
      rw [Bool.and_eq_true, decide_eq_true_iff, apB_snoc a1] at w2
      refine ⟨⟨List.pairwise_append.mpr ⟨a1.1, List.pairwise_singleton _ _, fun x hx y hy => ?_⟩, fun x hx => ?_⟩, by rw [List.length_append, a2]; rfl⟩
      · rw [List.mem_singleton.mp hy]
        refine ⟨?_, ?_⟩
        · -- the last one is the greatest
          have : x < startA l' := by
            unfold startA
            obtain ⟨A, z, e⟩ : ∃ A z, l' = A ++ [z] := by
              refine ⟨l'.dropLast, l'.getLast (List.ne_nil_of_mem hx), (List.dropLast_concat_getLast _).symm⟩
            subst e
            rw [List.getLast?_append]
            show x < z + 1
            rcases List.mem_append.mp hx with hx | hx
            · have := (List.pairwise_append.mp a1.1).2.2 x hx z List.mem_cons_self
              omega
            · rw [List.mem_singleton.mp hx]; omega
          omega
        · have := w2.2
          rw [Bool.not_eq_true'] at this
          have := List.any_eq_false.mp this x hx
          simpa using this
      · rcases List.mem_append.mp hx with hx | hx
        · exact a1.2 x hx
        · rw [List.mem_singleton.mp hx]; exact w1
    · rintro ⟨⟨a1, a2⟩, a3⟩
      have ne : l ≠ [] := fun e => by rw [e] at a3; cases a3
      obtain ⟨A, z, e⟩ : ∃ A z, l = A ++ [z] := ⟨l.dropLast, l.getLast ne, (List.dropLast_concat_getLast _).symm⟩
      subst e
      obtain ⟨p1, _, p3⟩ := List.pairwise_append.mp a1
      have hA : Apt ws ws.length A := ⟨p1, fun x hx => a2 x (List.mem_append_left _ hx)⟩
      refine ⟨A, lvl_mem.mpr ⟨hA, by simpa using a3⟩, List.mem_map.mpr ⟨z, List.mem_filter.mpr ⟨mem_rangeI.mpr (a2 z (by simp)), ?_⟩, rfl⟩⟩
      rw [Bool.and_eq_true, decide_eq_true_iff, apB_snoc hA]
      refine ⟨?_, ?_⟩
      · unfold startA
        cases eg : A.getLast? with
        | none => exact (a2 z (by simp)).1
        | some y =>
          have := (p3 y (List.mem_of_getLast? eg) z List.mem_cons_self).1
          show y + 1 ≤ z
          omega
      · rw [Bool.not_eq_true', List.any_eq_false]
        intro o ho
        rw [(p3 o ho z List.mem_cons_self).2]
        decide
end
end Pu
set_option Elab.async false
set_option linter.all false
set_option maxRecDepth 100000
set_option synthInstance.maxHeartbeats 0
set_option synthInstance.maxSize 100000
namespace Pu
open PySem PySem.Spec PyProof.Rows L2
section
variable {Q : D → Prop} {n i : Int} {r s o row left far a b c g j l m M : List Int} {ws us L K : List (List Int)} {C : List Int} {dd : D} {x y w : Int} {bs : List Bool}
theorem lvl_nodup : ∀ k : Nat, (lvl ws k).Nodup
  | 0 => List.nodup_cons.mpr ⟨(fun h => nomatch h), List.nodup_nil⟩
  | k + 1 => by
    show ((lvl ws k).flatMap (nxtL ws)).Nodup
    have nr : (rangeI (ws.length : Int)).Nodup := List.pairwise_map.mpr (List.nodup_range.imp fun h e => h (Int.ofNat.inj e))
    unfold List.Nodup
    rw [List.pairwise_flatMap]
    refine ⟨fun l hl => List.pairwise_map.mpr ((List.Pairwise.filter _ nr).imp fun h e => h (by simpa using e)), (lvl_nodup k).imp fun {l1 l2} hne x hx y hy e => ?_⟩
    obtain ⟨w1, _, rfl⟩ := List.mem_map.mp hx
    obtain ⟨w2, _, rfl⟩ := List.mem_map.mp hy
    exact hne (List.append_inj_left' e rfl)
theorem lvl_count (k : Nat) : (sizesA ws).count (k : Int) = (lvl ws k).length := count_lots (lvl_nodup k) fun _ => lvl_mem
theorem top_lot : ∃ l, Apt ws ws.length l ∧ l.length = topA ws := by
  have := (foldr_max ((lotsA ws ws.length).map List.length)).2 (List.ne_nil_of_mem (List.mem_map.mpr ⟨[], lotsA_nil _, rfl⟩))
  obtain ⟨l, hl, e⟩ := List.mem_map.mp this
  exact ⟨l, lotsA_mem.mp hl, e⟩
theorem lvl_some {k : Nat} (h : k ≤ topA ws) : 0 < (lvl ws k).length := by
  obtain ⟨l, h1, h2⟩ := top_lot (ws := ws)
  refine List.length_pos_of_mem ((lvl_mem (l := l.take k)).mpr ⟨⟨h1.1.sublist (List.take_sublist _ _), fun x hx => h1.2 x (List.mem_of_mem_take hx)⟩, by rw [List.length_take]; omega⟩)
theorem lvl_none {k : Nat} (h : topA ws < k) : lvl ws k = [] := by
  refine List.eq_nil_iff_forall_not_mem.mpr fun l hl => ?_
  obtain ⟨h1, h2⟩ := lvl_mem.mp hl
  have := (foldr_max ((lotsA ws ws.length).map List.length)).1 _ (List.mem_map.mpr ⟨l, lotsA_mem.mpr h1, rfl⟩)
  have : l.length ≤ topA ws := this
  omega
theorem cnt_lvl : (List.range (topA ws + 1)).map (fun k => ((lvl ws k).length : Int)) = cntA ws := by
  unfold cntA rangeI
  rw [List.map_map, show ((topA ws : Int) + 1).toNat = topA ws + 1 by omega]
  exact List.map_congr_left fun k _ => by show _ = (((sizesA ws).count ((k : Nat) : Int) : Nat) : Int); rw [lvl_count]
theorem lvl_len (h : ws.length ≤ 10) {k : Nat} : (lvl ws k).length ≤ 1024 := by
  rw [← lvl_count]
  refine Nat.le_trans List.count_le_length ?_
  unfold sizesA
  rw [List.length_map]
  refine Nat.le_trans (lotsA_len _) ?_
  have : (2 : Nat) ^ ws.length ≤ 2 ^ 10 := Nat.pow_le_pow_right (by decide) h
  simpa using this
theorem nxt_alt {st : Nat} (hs : startA l = (st : Int)) (h : st ≤ ws.length) : nxtL ws l = (((List.range (ws.length - st)).map fun k => ((st + k : Nat) : Int)).filter fun w => apB ws (l ++ [w])).map fun w => l ++ [w] := by
  unfold nxtL rangeI
  rw [hs, show ((ws.length : Nat) : Int).toNat = st + (ws.length - st) by omega, List.range_add, List.map_append, List.filter_append, List.map_map]
  have e1 : (((List.range st).map fun k : Nat => Int.ofNat k).filter fun w => decide ((st : Int) ≤ w) && apB ws (l ++ [w])) = [] := by
    rw [List.filter_eq_nil_iff]
    intro w hw
    obtain ⟨k, hk, rfl⟩ := List.mem_map.mp hw
    have := List.mem_range.mp hk
    rw [decide_eq_false (show ¬ (st : Int) ≤ Int.ofNat k by show ¬ (st : Int) ≤ (k : Int); omega)]
    simp
  have e2 : (((List.range (ws.length - st)).map ((fun k : Nat => Int.ofNat k) ∘ fun x => st + x)).filter fun w => decide ((st : Int) ≤ w) && apB ws (l ++ [w])) = ((List.range (ws.length - st)).map fun k => ((st + k : Nat) : Int)).filter fun w => apB ws (l ++ [w]) := by
    refine List.filter_congr fun w hw => ?_
    obtain ⟨k, hk, rfl⟩ := List.mem_map.mp hw
    rw [decide_eq_true (show (st : Int) ≤ _ from by show (st : Int) ≤ ((st + k : Nat) : Int); omega), Bool.true_and]
  rw [e1, List.nil_append, e2]
end
end Pu
set_option Elab.async false
set_option linter.all false
set_option maxRecDepth 100000
set_option synthInstance.maxHeartbeats 0
set_option synthInstance.maxSize 100000
namespace Pu
open PySem PySem.Spec PyProof.Rows L2
section
variable {Q : D → Prop} {n i : Int} {r s o row left far a b c g j l m M : List Int} {ws us L K : List (List Int)} {C : List Int} {dd : D} {x y w : Int} {bs : List Bool}
theorem y_ixLastR {z : Int} (q : Q (.int z)) : oIx (rD (a ++ [z])) (.int (-1)) Q := by
  show atD (dInts (a ++ [z])) (-1) Q
  unfold atD atI ixN
  rw [if_neg (by decide), dInts_len, List.length_append, List.length_singleton, if_pos (by omega)]
  show (match (dInts (a ++ [z]))[((-1 : Int) + ((a.length + 1 : Nat) : Int)).toNat]? with | some x => Q x | none => False)
  rw [show ((-1 : Int) + ((a.length + 1 : Nat) : Int)).toNat = a.length by omega]
  have : (dInts (a ++ [z]))[a.length]? = some (.int z) := by
    unfold dInts
    rw [List.getElem?_map, List.getElem?_append_right (Nat.le_refl _)]
    simp
  rw [this]
  exact q
theorem start_ok (h : Apt ws ws.length l) : 0 ≤ startA l ∧ startA l ≤ (ws.length : Int) := by
  unfold startA
  cases e : l.getLast? with
  | none => exact ⟨Int.le_refl _, by show (0 : Int) ≤ _; omega⟩
  | some y =>
    have := h.2 y (List.mem_of_getLast? e)
    exact ⟨by show 0 ≤ y + 1; omega, by show y + 1 ≤ _; omega⟩
theorem y_start {Z : D → Prop} (q : Z (.int (startA l))) : if decide ((0 : Int) < (l.length : Int)) = true then (oNeg (.int 1) fun e => oIx (rD l) e fun d => oAdd d (.int 1) fun d => Z d) else Z (.int 0) := by
  by_cases ne : l = []
  · subst ne
    exact q
  · obtain ⟨A, z, e⟩ : ∃ A z, l = A ++ [z] := ⟨l.dropLast, l.getLast ne, (List.dropLast_concat_getLast _).symm⟩
    subst e
    rw [if_pos (by simp)]
    show oIx (rD (A ++ [z])) (.int (-1)) _
    refine y_ixLastR ?_
    have : startA (A ++ [z]) = z + 1 := by unfold startA; rw [List.getLast?_append]; rfl
    rw [this] at q
    exact q
local macro_rules
  | `(tactic| and_intros) => `(tactic| (try simp only [Zaa, Zab, w_c, Zac, Zad, Zae, Zaf, Zag, Zah, Zai, Zaj, Zak, Zal, Zam, Zan, Zao, Zap, Zaq, Zar, Zas, Zat, Zau, Zav, Zaw, Zax, Zay, Zaz, ZaA, ZaB, ZaC, ZaD, ZaE, ZaF, ZaG, ZaH, ZaI, ZaJ, ZaK, ZaL, ZaM, ZaN, ZaO, ZaP, ZaQ, ZaR, ZaS, ZaT, ZaU, ZaV, ZaW, ZaX, ZaY, ZaZ, Za0, Za1, Za2, Za3, Za4, Za5, Za6, Za7, Za8, Za9, Zba, Zbb, Zbc, Zbd, Zbe, Zbf, Zbg, Zbh, Zbi, Zbj, Zbk, Zbl, Zbm, Zbn, Zbo, Zbp, Zbq, Zbr, Zbs, Zbt, Zbu, Zbv, Zbw, Zbx, Zby, Zbz, ZbA, List.length_cons, List.length_nil, Nat.reduceAdd, Nat.zero_add, ZbB, ZbC, ZbD, ZbE, y_W, ZbF, ZbG, ZbH, ZbI, ZbJ, ZbK, ZbL, ZbM, ZbN, ZbO, ZbP, ZbQ, ZbR, ZbS, sb1, sb2, sb3, sb4, sb5, sb6, sb7, sb8, sb9, ZbT, ZbU, ZbV, ZbW, ZbX, ZbY, ZbZ, Zb0, Zb1, Zb2, Zb3, Zb4, Zb5, Zb6, Zb7, List.map_id, id_eq, BEq.rfl, bne_self_eq_false, Zb8, Zb9, Zca, Zcb, Zcc, Zcd, Zce, Zcf, Zcg, Zch, Zci, Zcj, Zck, Zcl, Zcm, Zcn, Zco, Zcp, Zcq, Zcr, Zcs, Zct, Zcu, Zcv, Zcw, Zcx, Zcy, Zcz, ZcA, ZcB, ZcC, ZcD, true_and, and_true, Bool.and_self, Bool.and_true, Bool.true_and, Bool.not_true, Bool.not_false, Bool.false_eq_true, if_false, if_true, ite_true, ite_false, decide_true, decide_false, reduceIte]))
theorem numbers_ev (h : WsOk n ws) : FEv m__law_numbers [pD n ws] (rD (cntA ws)) := fun Q q => by
  have hs : 100000 ≤ sizeLine := by decide
  have h4 := h.2.2.2.1
  have t10 : topA ws ≤ 10 := by
    obtain ⟨l, h1, h2⟩ := top_lot (ws := ws)
    have := (lotsA_in (lotsA_mem.mpr h1)).2
    omega
  unfold m__law_numbers fnM b__law_numbers
  simp only [env0, List.map_cons, List.map_nil, List.length_cons, List.length_nil, List.replicate_succ, List.replicate_zero, List.cons_append, List.nil_append, Nat.reduceSub, Nat.reduceAdd, Nat.zero_add, Zaa, Zab, w_c, Zac, Zad, Zae, Zaf, Zag, Zah, Zai, Zaj, Zak, Zal, Zam, Zan, Zao, Zap, Zaq, Zar, Zas, Zat, Zau, Zav, Zaw, Zax, Zay, Zaz, ZaA, ZaB, ZaC, ZaD, ZaE, ZaF, ZaG, ZaH, ZaI, ZaJ, ZaK, ZaL, ZaM, ZaN, ZaO, ZaP, ZaQ, ZaR, ZaS, ZaT, ZaU, ZaV, ZaW, ZaX, ZaY, ZaZ, Za0, Za1, Za2, Za3, Za4, Za5, Za6, Za7, Za8, Za9, Zba, Zbb, Zbc, Zbd, Zbe, Zbf, Zbg, Zbh, Zbi, Zbj, Zbk, Zbl, Zbm, Zbn, Zbo, Zbp, Zbq, Zbr, Zbs, Zbt, Zbu, Zbv, Zbw, Zbx, Zby, Zbz, ZbA, List.length_cons, List.length_nil, Nat.reduceAdd, Nat.zero_add, ZbB, ZbC, ZbD, ZbE, y_W, ZbF, ZbG, ZbH, ZbI, ZbJ, ZbK, ZbL, ZbM, ZbN, ZbO, ZbP, ZbQ, ZbR, ZbS, sb1, sb2, sb3, sb4, sb5, sb6, sb7, sb8, sb9, ZbT, ZbU, ZbV, ZbW, ZbX, ZbY, ZbZ, Zb0, Zb1, Zb2, Zb3, Zb4, Zb5, Zb6, Zb7, List.map_id, id_eq, BEq.rfl, bne_self_eq_false, Zb8, Zb9, Zca, Zcb, Zcc, Zcd, Zce, Zcf, Zcg, Zch, Zci, Zcj, Zck, Zcl, Zcm, Zcn, Zco, Zcp, Zcq, Zcr, Zcs, Zct, Zcu, Zcv, Zcw, Zcx, Zcy, Zcz, ZcA, ZcB, ZcC, ZcD, true_and, and_true, Bool.and_self, Bool.and_true, Bool.true_and, Bool.not_true, Bool.not_false, Bool.false_eq_true, if_false, if_true, ite_true, ite_false, decide_true, decide_false, reduceIte]
  refine ⟨by omega, by omega, by omega, fun m env => ∃ k e3 e4 e5, m = topA ws + 1 - k ∧ k ≤ topA ws + 1 ∧ env = [some (pD n ws), some (.lst (dInts ((List.range k).map fun j => ((lvl ws j).length : Int)))), some (.lst (rowsD (lvl ws k))), e3, e4, e5], ⟨_, 0, _, _, _, rfl, by omega, rfl⟩, ?_⟩
  rintro m env ⟨k, e3, e4, e5, rfl, hk, rfl⟩
  have ll := lvl_len (ws := ws) h4 (k := k)
  and_intros
  by_cases hz : k ≤ topA ws
  · have pos := lvl_some hz
    rw [decide_eq_true (show (0 : Int) < ((lvl ws k).length : Int) by omega)]
    and_intros
    refine ⟨by simp; omega, by omega, ?_⟩
    refine loop_T (e := rD) (fun p s env => ∃ e4 e5, env = [some (pD n ws), some (.lst (dInts ((List.range k).map fun j => ((lvl ws j).length : Int)) ++ [D.int ((lvl ws k).length : Int)])), some (.lst (rowsD (lvl ws k))), some (.lst (rowsD (p.flatMap (nxtL ws)))), e4, e5]) (lvl ws k) ⟨_, _, rfl⟩ ?_ ?_
    · rintro p l s env e ⟨e4, e5, rfl⟩
      obtain ⟨ap, _⟩ := lvl_mem.mp (show l ∈ lvl ws k by rw [← e]; simp)
      obtain ⟨st0, st1⟩ := start_ok ap
      and_intros
      refine y_start ?_
      obtain ⟨st, hst⟩ : ∃ st : Nat, startA l = (st : Int) := ⟨(startA l).toNat, by omega⟩
      rw [List.flatMap_append, List.flatMap_singleton, nxt_alt hst (by omega), hst]
      have ll2 := lvl_len (ws := ws) h4 (k := k + 1)
      have hpl : (p.flatMap (nxtL ws)).length ≤ 1024 := by
        have : (lvl ws (k + 1)).length = (p.flatMap (nxtL ws)).length + ((l :: s).flatMap (nxtL ws)).length := by
          show ((lvl ws k).flatMap (nxtL ws)).length = _
          rw [← e, List.flatMap_append, List.length_append]
        omega
      refine y_rng253 (a := st) (b := ws.length) (by omega) (by omega) ?_
      refine loop_T (fun p2 s2 env => ∃ e5, env = [some (pD n ws), some (.lst (dInts ((List.range k).map fun j => ((lvl ws j).length : Int)) ++ [D.int ((lvl ws k).length : Int)])), some (.lst (rowsD (lvl ws k))), some (.lst (rowsD (p.flatMap (nxtL ws) ++ (((p2.map fun k => ((st + k : Nat) : Int)).filter fun w => apB ws (l ++ [w])).map fun w => l ++ [w])))), some (rD l), e5]) _ ⟨_, by rw [List.map_nil, List.filter_nil, List.map_nil, List.append_nil]⟩ ?_ ?_
      · rintro p2 k2 s2 env e2 ⟨e5, rfl⟩
        obtain ⟨ek, hk2, ep⟩ := nat_split e2
        subst ek
        have kl := (lotsA_in (lotsA_mem.mpr ap)).2
        have wi : InW ws (l ++ [((st + p2.length : Nat) : Int)]) := fun x hx => by
          rcases List.mem_append.mp hx with hx | hx
          · exact ap.2 x hx
          · rw [List.mem_singleton.mp hx]; omega
        have fl := List.length_filter_le (fun w => apB ws (l ++ [w])) (p2.map fun k => ((st + k : Nat) : Int))
        rw [List.length_map] at fl
        have snoc : ((p2 ++ [p2.length]).map fun k => ((st + k : Nat) : Int)).filter (fun w => apB ws (l ++ [w])) = ((p2.map fun k => ((st + k : Nat) : Int)).filter fun w => apB ws (l ++ [w])) ++ (if apB ws (l ++ [((st + p2.length : Nat) : Int)]) = true then [((st + p2.length : Nat) : Int)] else []) := by
          rw [List.map_append, List.filter_append]
          congr 1
          show List.filter _ [((st + p2.length : Nat) : Int)] = _
          rw [List.filter_cons, List.filter_nil]
        rw [snoc]
        and_intros
        rw [w_sif]
        and_intros
        refine ⟨by omega, y_addR (s := [((st + p2.length : Nat) : Int)]) (by simp; omega) (apart2_ev h wi (by rw [List.length_append]; simp; omega) _ ?_)⟩
        cases hb : apB ws (l ++ [((st + p2.length : Nat) : Int)]) with
        | true =>
          and_intros
          refine ⟨by omega, y_addR (s := [((st + p2.length : Nat) : Int)]) (by simp; omega) ?_⟩
          refine ⟨by rw [List.length_append, List.length_map]; omega, ?_⟩
          rw [List.map_append, ← List.append_assoc, show ∀ A : List (List Int), rowsD A ++ [rD (l ++ [((st + p2.length : Nat) : Int)])] = rowsD (A ++ [l ++ [((st + p2.length : Nat) : Int)]]) from fun A => by unfold rowsD; rw [List.map_append]; rfl]
          exact ⟨_, rfl⟩
        | false =>
          and_intros
          rw [List.append_nil]
          exact ⟨_, rfl⟩
      · rintro env ⟨e5, rfl⟩
        exact ⟨_, _, rfl⟩
    · rintro env ⟨e4, e5, rfl⟩
      and_intros
      have eq : dInts ((List.range k).map fun j => ((lvl ws j).length : Int)) ++ [D.int ((lvl ws k).length : Int)] = dInts ((List.range (k + 1)).map fun j => ((lvl ws j).length : Int)) := by
        rw [List.range_succ, List.map_append, ← dInts_app]
        rfl
      rw [eq]
      exact ⟨topA ws + 1 - (k + 1), by omega, k + 1, _, _, _, rfl, by omega, rfl⟩
  · have e0 := lvl_none (ws := ws) (k := k) (by omega)
    rw [e0]
    and_intros
    rw [if_neg (by simp)]
    have ek : k = topA ws + 1 := by omega
    subst ek
    rw [cnt_lvl]
    exact q
end
end Pu
set_option Elab.async false
set_option linter.all false
set_option maxRecDepth 100000
set_option synthInstance.maxHeartbeats 0
set_option synthInstance.maxSize 100000
namespace Pu
open PySem PySem.Spec PyProof.Rows L2
section
variable {Q : D → Prop} {n i : Int} {r s o row left far a b c g j l m M : List Int} {ws us L K : List (List Int)} {C : List Int} {dd : D} {x y w : Int} {bs : List Bool}
local macro_rules
  | `(tactic| and_intros) => `(tactic| (simp only [env0, List.map_cons, List.map_nil, List.length_cons, List.length_nil, List.replicate_succ, List.replicate_zero, List.cons_append, List.nil_append, Nat.reduceSub, Nat.reduceAdd, Nat.zero_add, Zaa, Zab, w_c, Zac, Zad, Zae, Zaf, Zag, Zah, Zai, Zaj, Zak, Zal, Zam, Zan, Zao, Zap, Zaq, Zar, Zas, Zat, Zau, Zav, Zaw, Zax, Zay, Zaz, ZaA, ZaB, ZaC, ZaD, ZaE, ZaF, ZaG, ZaH, ZaI, ZaJ, ZaK, ZaL, ZaM, ZaN, ZaO, ZaP, ZaQ, ZaR, ZaS, ZaT, ZaU, ZaV, ZaW, ZaX, ZaY, ZaZ, Za0, Za1, Za2, Za3, Za4, Za5, Za6, Za7, Za8, Za9, Zba, Zbb, Zbc, Zbd, Zbe, Zbf, Zbg, Zbh, Zbi, Zbj, Zbk, Zbl, Zbm, Zbn, Zbo, Zbp, Zbq, Zbr, Zbs, Zbt, Zbu, Zbv, Zbw, Zbx, Zby, Zbz, ZbA, List.length_cons, List.length_nil, Nat.reduceAdd, Nat.zero_add, ZbB, ZbC, ZbD, ZbE, y_W, ZbF, ZbG, ZbH, ZbI, ZbJ, ZbK, ZbL, ZbM, ZbN, ZbO, ZbP, ZbQ, ZbR, ZbS, sb1, sb2, sb3, sb4, sb5, sb6, sb7, sb8, sb9, ZbT, ZbU, ZbV, ZbW, ZbX, ZbY, ZbZ, Zb0, Zb1, Zb2, Zb3, Zb4, Zb5, Zb6, Zb7, List.map_id, id_eq, BEq.rfl, bne_self_eq_false, Zb8, Zb9, Zca, Zcb, Zcc, Zcd, Zce, Zcf, Zcg, Zch, Zci, Zcj, Zck, Zcl, Zcm, Zcn, Zco, Zcp, Zcq, Zcr, Zcs, Zct, Zcu, Zcv, Zcw, Zcx, Zcy, Zcz, ZcA, ZcB, ZcC, ZcD, true_and, and_true, Bool.and_self, Bool.and_true, Bool.true_and, Bool.not_true, Bool.not_false, Bool.false_eq_true, if_false, if_true, ite_true, ite_false, decide_true, decide_false, reduceIte]))
theorem same84_int (k : Nat) : FEv (m__law_same_4_n (k + 1)) [.int x, .int x] (.bl true) := fun Q q => by
  unfold m__law_same_4_n fnM b__law_same_4
  and_intros
  rw [if_neg (show ¬ subB "int" "tuple" = true by decide +kernel), if_neg (show ¬ subB "int" "list" = true by decide +kernel)]
  exact whole_refl _ q
local macro_rules
  | `(tactic| array_get_dec) => `(tactic| (try simp only [Zaa, Zab, w_c, Zac, Zad, Zae, Zaf, Zag, Zah, Zai, Zaj, Zak, Zal, Zam, Zan, Zao, Zap, Zaq, Zar, Zas, Zat, Zau, Zav, Zaw, Zax, Zay, Zaz, ZaA, ZaB, ZaC, ZaD, ZaE, ZaF, ZaG, ZaH, ZaI, ZaJ, ZaK, ZaL, ZaM, ZaN, ZaO, ZaP, ZaQ, ZaR, ZaS, ZaT, ZaU, ZaV, ZaW, ZaX, ZaY, ZaZ, Za0, Za1, Za2, Za3, Za4, Za5, Za6, Za7, Za8, Za9, Zba, Zbb, Zbc, Zbd, Zbe, Zbf, Zbg, Zbh, Zbi, Zbj, Zbk, Zbl, Zbm, Zbn, Zbo, Zbp, Zbq, Zbr, Zbs, Zbt, Zbu, Zbv, Zbw, Zbx, Zby, Zbz, ZbA, List.length_cons, List.length_nil, Nat.reduceAdd, Nat.zero_add, ZbB, ZbC, ZbD, ZbE, y_W, ZbF, ZbG, ZbH, ZbI, ZbJ, ZbK, ZbL, ZbM, ZbN, ZbO, ZbP, ZbQ, ZbR, ZbS, sb1, sb2, sb3, sb4, sb5, sb6, sb7, sb8, sb9, ZbT, ZbU, ZbV, ZbW, ZbX, ZbY, ZbZ, Zb0, Zb1, Zb2, Zb3, Zb4, Zb5, Zb6, Zb7, List.map_id, id_eq, BEq.rfl, bne_self_eq_false, Zb8, Zb9, Zca, Zcb, Zcc, Zcd, Zce, Zcf, Zcg, Zch, Zci, Zcj, Zck, Zcl, Zcm, Zcn, Zco, Zcp, Zcq, Zcr, Zcs, Zct, Zcu, Zcv, Zcw, Zcx, Zcy, Zcz, ZcA, ZcB, ZcC, ZcD, true_and, and_true, Bool.and_self, Bool.and_true, Bool.true_and, Bool.not_true, Bool.not_false, Bool.false_eq_true, if_false, if_true, ite_true, ite_false, decide_true, decide_false, reduceIte]))
theorem same84_ev (hl : c.length ≤ 1000) : FEv m__law_same_4 [rD c, rD c] (.bl true) := fun Q q => by
  have hs : 100000 ≤ sizeLine := by decide
  show m__law_same_4_n (7 + 1) _ _
  unfold m__law_same_4_n fnM b__law_same_4
  and_intros
  refine y_rng (n := (c.length : Int)) (by omega) (by omega) ?_
  refine lc_M (e := D.int) (fun _ => true) D.bl (by rw [rangeI_len]; omega) (fun k hk R hR => ?_) ?_
  · have hk := mem_rangeI.mp hk
    array_get_dec
    refine y_ixR hk.1 hk.2 ?_
    refine y_ixR hk.1 hk.2 ?_
    exact same84_int 6 _ hR
  array_get_dec
  rw [show (((rangeI (c.length : Int)).map fun _ => true).all id) = true by rw [List.all_eq_true]; intro b hb; obtain ⟨_, _, rfl⟩ := List.mem_map.mp hb; rfl]
  exact q
end
end Pu
set_option Elab.async false
set_option linter.all false
set_option maxRecDepth 100000
set_option synthInstance.maxHeartbeats 0
set_option synthInstance.maxSize 100000
namespace Pu
open PySem PySem.Spec PyProof.Rows L2
section
variable {Q : D → Prop} {n i : Int} {r s o row left far a b c g j l m M : List Int} {ws us L K : List (List Int)} {C : List Int} {dd : D} {x y w : Int} {bs : List Bool}
theorem apt_one (hm : ∀ x y, 0 ≤ x ∧ x < (ws.length : Int) → 0 ≤ y ∧ y < (ws.length : Int) → meetsF ws x y = true) (h : Apt ws ws.length l) : l.length ≤ 1 := by
  match l, h with
  | [], _ => simp
  | [_], _ => simp
  | x :: y :: l, ⟨h1, h2⟩ =>
    have := ((List.pairwise_cons.mp h1).1 y (by simp)).2
    rw [hm y x (h2 y (by simp)) (h2 x (by simp))] at this
    cases this
theorem cnt_all (h1 : 1 ≤ ws.length) (hm : ∀ x y, 0 ≤ x ∧ x < (ws.length : Int) → 0 ≤ y ∧ y < (ws.length : Int) → meetsF ws x y = true) : cntA ws = [1, (ws.length : Int)] := by
  have ap1 : ∀ x : Int, 0 ≤ x ∧ x < (ws.length : Int) → Apt ws ws.length [x] := fun x hx => ⟨List.pairwise_singleton _ _, fun y hy => by rw [List.mem_singleton.mp hy]; exact hx⟩
  have t1 : topA ws = 1 := by
    obtain ⟨l, h2, h3⟩ := top_lot (ws := ws)
    have := apt_one hm h2
    by_cases h0 : topA ws = 0
    · have e := lvl_none (ws := ws) (k := 1) (by omega)
      have : [0] ∈ lvl ws 1 := lvl_mem.mpr ⟨ap1 0 ⟨by omega, by omega⟩, rfl⟩
      rw [e] at this
      cases this
    · omega
  have l1 : (lvl ws 1).length = ws.length := by
    rw [← lvl_count, count_lots (k := 1) (X := (rangeI (ws.length : Int)).map fun x => [x])]
    · rw [List.length_map, rangeI_len]; omega
    · have nr : (rangeI (ws.length : Int)).Nodup := List.pairwise_map.mpr (List.nodup_range.imp fun h e => h (Int.ofNat.inj e))
      exact List.pairwise_map.mpr (nr.imp fun h e => h (by simpa using e))
    · intro l
      rw [List.mem_map]
      constructor
      · rintro ⟨x, hx, rfl⟩
        exact ⟨ap1 x (mem_rangeI.mp hx), rfl⟩
      · rintro ⟨h2, h3⟩
        obtain ⟨x, rfl⟩ := List.length_eq_one_iff.mp h3
        exact ⟨x, mem_rangeI.mpr (h2.2 x (by simp)), rfl⟩
  rw [← cnt_lvl, t1]
  show [((lvl ws 0).length : Int), ((lvl ws 1).length : Int)] = _
  rw [l1]
  rfl
theorem rec_all : ∀ t : Nat, recL [1, w] t = (List.range (t + 1)).map fun k => w ^ k
  | 0 => by show [1] = [w ^ 0]; simp
  | t + 1 => by
    show recL [1, w] t ++ [termL [1, w] (recL [1, w] t) (t + 1) (List.range (min 1 (t + 1)))] = _
    rw [show min 1 (t + 1) = 1 by omega, List.range_succ (n := t + 1), List.map_append, rec_all t]
    congr 1
    show [termL [1, w] _ (t + 1) [0]] = [w ^ (t + 1)]
    unfold termL
    congr 1
    show (sg 1 * w * _ + 0 : Int) = _
    rw [show t + 1 - (1 + 0) = t by omega, List.getD_eq_getElem?_getD, List.getElem?_map, List.getElem?_range (by omega), show sg 1 = 1 from rfl, Int.one_mul, Int.add_zero, Int.pow_succ, Int.mul_comm]
    rfl
theorem rec_all_at {t : Nat} : (recL [1, w] t).getD t 0 = w ^ t := by
  rw [rec_all, List.getD_eq_getElem?_getD, List.getElem?_map, List.getElem?_range (by omega)]
  rfl
end
end Pu
set_option Elab.async false
set_option linter.all false
set_option maxRecDepth 100000
set_option synthInstance.maxHeartbeats 0
set_option synthInstance.maxSize 100000
namespace Pu
open PySem PySem.Spec PyProof.Rows L2
section
def psum : List Int → Int → List Int
  | [], _ => []
  | x :: l, s => (s + x) :: psum l (s + x)
theorem alone_all : (List.range 6).all (fun d => decide (recL ((cntA ((List.range (d + 1)).map fun k : Nat => [Int.ofNat k]))) 60 = (List.range d).foldl (fun l _ => psum l 0) (List.replicate 61 1))) = true := by decide +kernel
end
end Pu
set_option Elab.async false
set_option linter.all false
set_option maxRecDepth 100000
set_option synthInstance.maxHeartbeats 0
set_option synthInstance.maxSize 100000
namespace Pu
open PySem PySem.Spec PyProof.Rows L2
section
variable {Q : D → Prop} {n i : Int} {r s row left a b lot l G C : List Int} {ws L T : List (List Int)} {x y z p : Int}
theorem lex_snoc_l : ∀ {a b : List Int}, a.length = b.length → HT.lexLt a b = true → HT.lexLt (a ++ [x]) (b ++ [y]) = true
  | [], [], _, h => by simp [HT.lexLt] at h
  | [], _ :: _, e, _ => by simp at e
  | _ :: _, [], e, _ => by simp at e
  | u :: a, v :: b, e, h => by
    rw [List.cons_append, List.cons_append]
    unfold HT.lexLt at h ⊢
    by_cases q : u = v
    · rw [if_pos q] at h ⊢
      exact lex_snoc_l (by simpa using e) h
    · rw [if_neg q] at h ⊢
      exact h
theorem lex_snoc_r (h : x < y) : ∀ a : List Int, HT.lexLt (a ++ [x]) (a ++ [y]) = true
  | [] => by
    show HT.lexLt [x] [y] = true
    unfold HT.lexLt
    rw [if_neg (by omega)]
    exact decide_eq_true h
  | u :: a => by
    rw [List.cons_append, List.cons_append]
    unfold HT.lexLt
    rw [if_pos rfl]
    exact lex_snoc_r h a
end
end Pu
set_option Elab.async false
set_option linter.all false
set_option maxRecDepth 100000
set_option synthInstance.maxHeartbeats 0
set_option synthInstance.maxSize 100000
namespace Pu
open PySem PySem.Spec PyProof.Rows L2
section
variable {Q : D → Prop} {R : List D → Prop} {n i : Int} {r s row left a b lot l G C : List Int} {ws L T K : List (List Int)} {x y z p : Int} {dd : D} {m : Nat}
structure LgOk (ws : List (List Int)) (lot : List Int) (m : Nat) (L : List (List Int)) : Prop where
  len : L.length = lot.length
  own : ∀ (k : Nat), ∀ x ∈ L.getD k [], (0 ≤ x ∧ x < (ws.length : Int)) ∧ lot.getD k 0 ∈ W ws x
  few : ∀ l ∈ L, l.length ≤ m
theorem LgOk.tot (h : LgOk ws lot m L) (h6 : lot.length ≤ 6) (hm : m ≤ 100) : tot L ≤ 1000 := by
  have := tot_le h.few
  have h2 : L.length * m ≤ 6 * 100 := Nat.mul_le_mul (by rw [h.len]; exact h6) hm
  omega
end
end Pu
set_option Elab.async false
set_option linter.all false
set_option maxRecDepth 100000
set_option synthInstance.maxHeartbeats 0
set_option synthInstance.maxSize 100000
namespace Pu
open PySem PySem.Spec PyProof.Rows L2
section
variable {Q : D → Prop} {R : List D → Prop} {n i : Int} {r s row left a b lot l G C : List Int} {ws L T K : List (List Int)} {x y z p : Int} {dd : D} {m : Nat}
end
end Pu
set_option Elab.async false
set_option linter.all false
set_option maxRecDepth 100000
set_option synthInstance.maxHeartbeats 0
set_option synthInstance.maxSize 100000
namespace Pu
open PySem PySem.Spec PyProof.Rows L2
section
variable {Q : D → Prop} {R : List D → Prop} {n i : Int} {r s row left a b lot l G C : List Int} {ws L T K : List (List Int)} {x y z p : Int} {dd : D} {m : Nat}
end
end Pu
set_option Elab.async false
set_option linter.all false
set_option maxRecDepth 100000
set_option synthInstance.maxHeartbeats 0
set_option synthInstance.maxSize 100000
namespace Pu
open PySem PySem.Spec PyProof.Rows L2
section
variable {Q : D → Prop} {R : List D → Prop} {n i : Int} {r s row left a b lot l G C : List Int} {ws L T K : List (List Int)} {x y z p : Int} {dd : D} {m : Nat}
theorem y_slW_hi (h : 0 ≤ z) (q : Q (wD (L.take z.toNat))) : slcQ (wD L) none (some z) Q := by
  refine ⟨immL_rows L, ?_⟩
  rw [← Int.toNat_of_nonneg h, cut_take]
  rw [show (rowsD L).take z.toNat = rowsD (L.take z.toNat) by unfold rowsD; rw [List.map_take]]
  exact q
def wds (k : Nat) : Nat → List (List Int)
  | 0 => [[]]
  | j + 1 => (wds k j).flatMap fun t => (rangeI k).map fun x => t ++ [x]
def rowsTo (k : Nat) : Nat → List (List Int)
  | 0 => [[]]
  | j + 1 => rowsTo k j ++ wds k (j + 1)
theorem y_ext9 {xs ys : List (List Int)} {R : List D → Prop} (hl : xs.length + ys.length ≤ sizeLine) (q : R (rowsD (xs ++ ys))) : uExtend (rowsD xs) [.lst (rowsD ys)] R := by
  refine ⟨by rw [rowsD_len, rowsD_len]; exact hl, ?_⟩
  rw [show rowsD xs ++ rowsD ys = rowsD (xs ++ ys) by unfold rowsD; rw [List.map_append]]
  exact q
theorem wds_mem {k : Nat} : ∀ {j : Nat} {t : List Int}, t ∈ wds k j ↔ t.length = j ∧ ∀ x ∈ t, 0 ≤ x ∧ x < (k : Int)
  | 0, t => by
    rw [show wds k 0 = [[]] from rfl, List.mem_singleton]
    exact ⟨fun e => by rw [e]; exact ⟨rfl, fun x h => nomatch h⟩, fun h => List.eq_nil_of_length_eq_zero h.1⟩
  | j + 1, t => by
    rw [show wds k (j + 1) = (wds k j).flatMap fun t => (rangeI k).map fun x => t ++ [x] from rfl, List.mem_flatMap]
    constructor
    · rintro ⟨u, hu, ht⟩
      obtain ⟨x, hx, rfl⟩ := List.mem_map.mp ht
      obtain ⟨e, hm⟩ := wds_mem.mp hu
      refine ⟨by rw [List.length_append, e]; rfl, fun y hy => ?_⟩
      rcases List.mem_append.mp hy with z | z
      · exact hm y z
      · rw [List.mem_singleton.mp z]; exact mem_rangeI.mp hx
    · rintro ⟨e, hx⟩
      have ne : t ≠ [] := fun z => by rw [z] at e; cases e
      have et := List.dropLast_concat_getLast ne
      exact ⟨t.dropLast, wds_mem.mpr ⟨by rw [List.length_dropLast]; omega, fun x hx2 => hx x ((List.dropLast_sublist t).mem hx2)⟩, List.mem_map.mpr ⟨t.getLast ne, mem_rangeI.mpr (hx _ (List.getLast_mem ne)), et⟩⟩
theorem wds_len {k : Nat} : ∀ {j : Nat}, (wds k j).length = k ^ j
  | 0 => rfl
  | j + 1 => by
    have : ∀ T : List (List Int), (T.flatMap fun t => (rangeI (k : Int)).map fun x => t ++ [x]).length = T.length * k := fun T => by
      induction T with
      | nil => simp
      | cons t T ih => rw [List.flatMap_cons, List.length_append, List.length_map, ih, List.length_cons, Nat.succ_mul, Nat.add_comm, rangeI_len]; simp
    rw [show wds k (j + 1) = (wds k j).flatMap fun t => (rangeI k).map fun x => t ++ [x] from rfl, this, wds_len, Nat.pow_succ]
theorem wds_pw {k : Nat} : ∀ {j : Nat}, (wds k j).Pairwise fun a b => a.length = b.length ∧ HT.lexLt a b = true
  | 0 => List.pairwise_singleton _ _
  | j + 1 => by
    rw [show wds k (j + 1) = (wds k j).flatMap fun t => (rangeI k).map fun x => t ++ [x] from rfl, List.pairwise_flatMap]
    refine ⟨fun t _ => List.pairwise_map.mpr ((rangeI_pw _).imp fun h => ⟨by simp, lex_snoc_r h t⟩), wds_pw.imp fun {a b} h => ?_⟩
    rintro u hu v hv
    obtain ⟨x, _, rfl⟩ := List.mem_map.mp hu
    obtain ⟨y, _, rfl⟩ := List.mem_map.mp hv
    exact ⟨by simp [h.1], lex_snoc_l h.1 h.2⟩
theorem rowsTo_mem {k : Nat} : ∀ {j : Nat} {t : List Int}, t ∈ rowsTo k j ↔ t.length ≤ j ∧ ∀ x ∈ t, 0 ≤ x ∧ x < (k : Int)
  | 0, t => by
    rw [show rowsTo k 0 = wds k 0 from rfl, wds_mem]
    exact ⟨fun h => ⟨by omega, h.2⟩, fun h => ⟨by omega, h.2⟩⟩
  | j + 1, t => by
    rw [show rowsTo k (j + 1) = rowsTo k j ++ wds k (j + 1) from rfl, List.mem_append, rowsTo_mem, wds_mem]
    constructor
    · rintro (h | h)
      · exact ⟨by omega, h.2⟩
      · exact ⟨by omega, h.2⟩
    · rintro ⟨h1, h2⟩
      by_cases e : t.length = j + 1
      · exact .inr ⟨e, h2⟩
      · exact .inl ⟨by omega, h2⟩
theorem rowsTo_len {k j : Nat} (hk : k ≤ 10) (hj : j ≤ 4) : (rowsTo k j).length ≤ 100000 := by
  have : ∀ j, (rowsTo k j).length ≤ (j + 1) * 10 ^ j := fun j => by
    induction j with
    | zero => exact Nat.le_refl _
    | succ j ih =>
      rw [show rowsTo k (j + 1) = rowsTo k j ++ wds k (j + 1) from rfl, List.length_append, wds_len]
      have h1 : k ^ (j + 1) ≤ 10 ^ (j + 1) := Nat.pow_le_pow_left hk _
      have h2 : (j + 1) * 10 ^ j ≤ (j + 1) * 10 ^ (j + 1) := Nat.mul_le_mul_left _ (Nat.pow_le_pow_right (by decide) (by omega))
      rw [Nat.succ_mul (j + 1)]
      omega
  have h := this j
  have : j = 0 ∨ j = 1 ∨ j = 2 ∨ j = 3 ∨ j = 4 := by omega
  rcases this with e | e | e | e | e <;> subst e <;> exact Nat.le_trans h (by decide)
local macro_rules
  | `(tactic| and_intros) => `(tactic| (try simp only [Zaa, Zab, w_c, Zac, Zad, Zae, Zaf, Zag, Zah, Zai, Zaj, Zak, Zal, Zam, Zan, Zao, Zap, Zaq, Zar, Zas, Zat, Zau, Zav, Zaw, Zax, Zay, Zaz, ZaA, ZaB, ZaC, ZaD, ZaE, ZaF, ZaG, ZaH, ZaI, ZaJ, ZaK, ZaL, ZaM, ZaN, ZaO, ZaP, ZaQ, ZaR, ZaS, ZaT, ZaU, ZaV, ZaW, ZaX, ZaY, ZaZ, Za0, Za1, Za2, Za3, Za4, Za5, Za6, Za7, Za8, Za9, Zba, Zbb, Zbc, Zbd, Zbe, Zbf, Zbg, Zbh, Zbi, Zbj, Zbk, Zbl, Zbm, Zbn, Zbo, Zbp, Zbq, Zbr, Zbs, Zbt, Zbu, Zbv, Zbw, Zbx, Zby, Zbz, ZbA, List.length_cons, List.length_nil, Nat.reduceAdd, Nat.zero_add, ZbB, ZbC, ZbD, ZbE, y_W, ZbF, ZbG, ZbH, ZbI, ZbJ, ZbK, ZbL, ZbM, ZbN, ZbO, ZbP, ZbQ, ZbR, ZbS, sb1, sb2, sb3, sb4, sb5, sb6, sb7, sb8, sb9, ZbT, ZbU, ZbV, ZbW, ZbX, ZbY, ZbZ, Zb0, Zb1, Zb2, Zb3, Zb4, Zb5, Zb6, Zb7, List.map_id, id_eq, BEq.rfl, bne_self_eq_false, Zb8, Zb9, Zca, Zcb, Zcc, Zcd, Zce, Zcf, Zcg, Zch, Zci, Zcj, Zck, Zcl, Zcm, Zcn, Zco, Zcp, Zcq, Zcr, Zcs, Zct, Zcu, Zcv, Zcw, Zcx, Zcy, Zcz, ZcA, ZcB, ZcC, ZcD, true_and, and_true, Bool.and_self, Bool.and_true, Bool.true_and, Bool.not_true, Bool.not_false, Bool.false_eq_true, if_false, if_true, ite_true, ite_false, decide_true, decide_false, reduceIte]))
theorem rows_to_ev (h1 : ws.length ≤ 10) (hm : m ≤ 4) : FEv m__law_rows_to [pD n ws, .int (m : Int)] (.lst (rowsD (rowsTo ws.length m))) := fun Q q => by
  have hs : 1000000 ≤ sizeLine := by decide
  unfold m__law_rows_to fnM b__law_rows_to
  simp only [env0, List.map_cons, List.map_nil, List.length_cons, List.length_nil, List.replicate_succ, List.replicate_zero, List.cons_append, List.nil_append, Nat.reduceSub, Nat.reduceAdd, Nat.zero_add, Zaa, Zab, w_c, Zac, Zad, Zae, Zaf, Zag, Zah, Zai, Zaj, Zak, Zal, Zam, Zan, Zao, Zap, Zaq, Zar, Zas, Zat, Zau, Zav, Zaw, Zax, Zay, Zaz, ZaA, ZaB, ZaC, ZaD, ZaE, ZaF, ZaG, ZaH, ZaI, ZaJ, ZaK, ZaL, ZaM, ZaN, ZaO, ZaP, ZaQ, ZaR, ZaS, ZaT, ZaU, ZaV, ZaW, ZaX, ZaY, ZaZ, Za0, Za1, Za2, Za3, Za4, Za5, Za6, Za7, Za8, Za9, Zba, Zbb, Zbc, Zbd, Zbe, Zbf, Zbg, Zbh, Zbi, Zbj, Zbk, Zbl, Zbm, Zbn, Zbo, Zbp, Zbq, Zbr, Zbs, Zbt, Zbu, Zbv, Zbw, Zbx, Zby, Zbz, ZbA, List.length_cons, List.length_nil, Nat.reduceAdd, Nat.zero_add, ZbB, ZbC, ZbD, ZbE, y_W, ZbF, ZbG, ZbH, ZbI, ZbJ, ZbK, ZbL, ZbM, ZbN, ZbO, ZbP, ZbQ, ZbR, ZbS, sb1, sb2, sb3, sb4, sb5, sb6, sb7, sb8, sb9, ZbT, ZbU, ZbV, ZbW, ZbX, ZbY, ZbZ, Zb0, Zb1, Zb2, Zb3, Zb4, Zb5, Zb6, Zb7, List.map_id, id_eq, BEq.rfl, bne_self_eq_false, Zb8, Zb9, Zca, Zcb, Zcc, Zcd, Zce, Zcf, Zcg, Zch, Zci, Zcj, Zck, Zcl, Zcm, Zcn, Zco, Zcp, Zcq, Zcr, Zcs, Zct, Zcu, Zcv, Zcw, Zcx, Zcy, Zcz, ZcA, ZcB, ZcC, ZcD, true_and, and_true, Bool.and_self, Bool.and_true, Bool.true_and, Bool.not_true, Bool.not_false, Bool.false_eq_true, if_false, if_true, ite_true, ite_false, decide_true, decide_false, reduceIte]
  refine ⟨by omega, by omega, by omega, by omega, y_rngN (by omega) ?_⟩
  have sz : ∀ j, j ≤ 4 → (rowsTo ws.length j).length ≤ 100000 ∧ (wds ws.length j).length ≤ 100000 := fun j hj => by
    refine ⟨rowsTo_len h1 hj, ?_⟩
    rw [wds_len]
    exact Nat.le_trans (Nat.pow_le_pow_left h1 _) (Nat.le_trans (Nat.pow_le_pow_right (by decide) hj) (by decide))
  refine loop_I (fun p s env => ∃ e4 e5 e6 e7, env = [some (pD n ws), some (.int (m : Int)), some (.lst (rowsD (rowsTo ws.length p.length))), some (.lst (rowsD (wds ws.length p.length))), e4, e5, e6, e7]) _ ⟨_, _, _, _, rfl⟩ ?_ ?_
  · rintro p x s env e ⟨e4, e5, e6, e7, rfl⟩
    have pl : p.length < m := by have := congrArg List.length e; rw [rangeI_len] at this; simp at this; omega
    have s1 := sz p.length (by omega)
    have s2 := sz (p.length + 1) (by omega)
    and_intros
    refine ⟨by omega, ?_⟩
    have all : ∀ T : List (List Int), (T.flatMap fun t => (rangeI (ws.length : Int)).map fun x => t ++ [x]).length = T.length * ws.length := fun T => by
      induction T with
      | nil => simp
      | cons t T ih => rw [List.flatMap_cons, List.length_append, List.length_map, ih, List.length_cons, Nat.succ_mul, Nat.add_comm, rangeI_len]; simp
    refine loop_T (e := rD) (fun q s env => ∃ e6 e7, env = [some (pD n ws), some (.int (m : Int)), some (.lst (rowsD (rowsTo ws.length p.length))), some (.lst (rowsD (wds ws.length p.length))), some (.int x), some (.lst (rowsD (q.flatMap fun t => (rangeI (ws.length : Int)).map fun x => t ++ [x]))), e6, e7]) (wds ws.length p.length) ⟨_, _, rfl⟩ ?_ ?_
    · rintro q2 t s2 env e2 ⟨e6, e7, rfl⟩
      have tT : t ∈ wds ws.length p.length := by rw [← e2]; simp
      have tl := (wds_mem.mp tT).1
      have fl : (q2.flatMap fun t => (rangeI (ws.length : Int)).map fun x => t ++ [x]).length ≤ 100000 := by
        rw [all]
        have : q2.length + 1 ≤ (wds ws.length p.length).length := by rw [← e2]; simp
        have h3 : (wds ws.length (p.length + 1)).length = (wds ws.length p.length).length * ws.length := all _
        have h2 : q2.length * ws.length ≤ (wds ws.length p.length).length * ws.length := Nat.mul_le_mul_right _ (by omega)
        omega
      and_intros
      refine y_rngN (by omega) ?_
      refine lc_M (fun x => t ++ [x]) rD (by rw [rangeI_len]; omega) (fun y hy R hR => ?_) ?_
      · and_intros
        exact ⟨by omega, y_addR (s := [y]) (by simp; omega) hR⟩
      · refine y_ext9 (ys := (rangeI (ws.length : Int)).map fun x => t ++ [x]) (by rw [List.length_map, rangeI_len]; omega) ⟨some (rD t), e7, ?_⟩
        rw [List.flatMap_append, List.flatMap_singleton]
    · rintro env ⟨e6, e7, rfl⟩
      and_intros
      refine ⟨immL_rows _, immL_rows _, by rw [rowsD_len, rowsD_len]; show _ + (wds ws.length (p.length + 1)).length ≤ _; omega, some (.int x), some (.lst (rowsD (wds ws.length (p.length + 1)))), e6, e7, ?_⟩
      rw [List.length_append]
      rw [show rowsTo ws.length (p.length + [x].length) = rowsTo ws.length p.length ++ wds ws.length (p.length + 1) from rfl]
      rw [show rowsD (rowsTo ws.length p.length ++ wds ws.length (p.length + 1)) = rowsD (rowsTo ws.length p.length) ++ rowsD (wds ws.length (p.length + 1)) by unfold rowsD; rw [List.map_append]]
      rfl
  · rintro env ⟨e4, e5, e6, e7, rfl⟩
    rw [show (rangeI (m : Int)).length = m by rw [rangeI_len]; simp]
    and_intros
    exact q
end
end Pu
set_option Elab.async false
set_option linter.all false
set_option maxRecDepth 100000
set_option synthInstance.maxHeartbeats 0
set_option synthInstance.maxSize 100000
namespace Pu
open PySem PySem.Spec PyProof.Rows L2
section
variable {Q : D → Prop} {n : Int} {r s l a b row : List Int} {ws L M : List (List Int)} {x y : Int} {G : Int → Int → Bool} {m t : Nat}
def kyL (L : List (List Int)) : NestedKey := .tup (L.map fun l => .tup (l.map .num))
theorem nkL_rows84 : ∀ L : List (List Int), nkL (rowsD L) = some (L.map fun l => NestedKey.tup (l.map .num))
  | [] => by simp [rowsD, nkL]
  | l :: L => by
    have ih := nkL_rows84 L
    have e1 : (rD l).nk = some (.tup (l.map NestedKey.num)) := by
      show (D.tup (dInts l)).nk = _
      simp [D.nk, nkL_ints]
    show nkL (rD l :: rowsD L) = _
    simp [nkL, e1, ih]
theorem kyL_nk : (wD L).nk = some (kyL L) := by
  show (D.tup (rowsD L)).nk = _
  simp [D.nk, nkL_rows84, kyL]
theorem kyL_inj (h : kyL L = kyL M) : L = M := by
  unfold kyL at h
  injection h with h
  exact (List.map_inj_right fun x y e => by
    injection e with e
    exact (List.map_inj_right fun x y e => by injection e).mp e).mp h
theorem kyL_depth : (kyL L).depth ≤ 8 := by
  have d0 : ∀ l : List Int, NestedKey.depthAll (l.map NestedKey.num) = 0 := fun l => by
    induction l with
    | nil => simp [NestedKey.depthAll]
    | cons x l ih => rw [List.map_cons, NestedKey.depthAll, ih]; simp [NestedKey.depth]
  have d1 : ∀ L : List (List Int), NestedKey.depthAll (L.map fun l => NestedKey.tup (l.map .num)) ≤ 1 := fun L => by
    induction L with
    | nil => simp [NestedKey.depthAll]
    | cons l L ih =>
      rw [List.map_cons, NestedKey.depthAll]
      simp [NestedKey.depth, d0]
      omega
  have := d1 L
  unfold kyL
  simp only [NestedKey.depth]
  omega
def fB (G : Int → Int → Bool) : List Int → Int → Bool
  | [], _ => false
  | y :: r, x => if y = x then true else if G y x then false else fB G r x
theorem fB_free : ∀ {r : List Int}, (freeAt ws r x).isSome = fB (meetsF ws) r x
  | [] => rfl
  | y :: r => by
    unfold freeAt fB
    by_cases e : y = x
    · rw [if_pos e, if_pos e]; rfl
    · rw [if_neg e, if_neg e]
      by_cases h : meetsF ws y x = true
      · rw [if_pos h, if_pos h]; rfl
      · rw [if_neg h, if_neg h, ← fB_free (r := r)]
        cases freeAt ws r x <;> rfl
def lB (G : Int → Int → Bool) : List Int → Bool
  | [] => true
  | x :: l => ((x :: l).all fun y => !decide (y < x) || !fB G (x :: l) y) && lB G l
theorem lB_lst : ∀ {r : List Int}, lB (meetsF ws) r = true ↔ Lst ws r r
  | [] => ⟨fun _ => .nil, fun _ => rfl⟩
  | x :: l => by
    rw [lst_own_cons, ← lB_lst (r := l), show lB (meetsF ws) (x :: l) = (((x :: l).all fun y => !decide (y < x) || !fB (meetsF ws) (x :: l) y) && lB (meetsF ws) l) from rfl, Bool.and_eq_true, List.all_eq_true]
    refine and_congr (forall_congr' fun y => forall_congr' fun hy => ?_) Iff.rfl
    rw [← fB_free]
    cases freeAt ws (x :: l) y <;> simp
theorem insAll_nd : ∀ {l ks : List NestedKey}, ks.Nodup → (insAll ks l).Nodup
  | [], _, h => h
  | k :: l, ks, h => insAll_nd (l := l) (insK_nd h)
theorem unlike_len (h : WsOk n ws) : (insAll [] ((wds ws.length t).map fun r => kyL (logsF n ws r))).length = ((wds ws.length t).filter (lB (meetsF ws))).length := by
  have iw : ∀ {r}, r ∈ wds ws.length t → InW ws r := fun hr => (wds_mem.mp hr).2
  rw [← List.length_map (f := fun r => kyL (logsF n ws r)) (as := (wds ws.length t).filter (lB (meetsF ws)))]
  refine List.Perm.length_eq ((List.perm_ext_iff_of_nodup (insAll_nd List.nodup_nil) ?_).mpr fun k => ?_)
  · refine List.pairwise_map.mpr (List.Pairwise.imp_of_mem (R := fun a b => a ≠ b) (fun {a b} ha hb ne e => ne ?_) (List.Pairwise.filter _ (wds_pw.imp fun {a b} ⟨_, q⟩ e => by rw [e, PuS.lex_irr] at q; cases q)))
    obtain ⟨ha1, ha2⟩ := List.mem_filter.mp ha
    obtain ⟨hb1, hb2⟩ := List.mem_filter.mp hb
    exact (lst_iff h (iw ha1) (iw hb1) (lB_lst.mp ha2) (lB_lst.mp hb2)).mp (kyL_inj e)
  · rw [mem_insAll, List.mem_map, List.mem_map]
    constructor
    · rintro (z | ⟨r, hr, rfl⟩)
      · cases z
      · obtain ⟨a, ha⟩ := lst_ex (ws := ws) _ (l := r) rfl
        have hl := lst_len ha
        have hi := lst_inW ha (iw hr)
        have own := lst_own ha (ne_of_wsok h (iw hr))
        refine ⟨a, List.mem_filter.mpr ⟨wds_mem.mpr ⟨hl.trans (wds_mem.mp hr).1, hi⟩, lB_lst.mpr own⟩, ?_⟩
        show kyL (logsF n ws a) = kyL (logsF n ws r)
        rw [(lst_iff h (iw hr) hi ha own).mpr rfl]
    · rintro ⟨r, hr, rfl⟩
      exact .inr ⟨r, (List.mem_filter.mp hr).1, rfl⟩
end
end Pu
set_option Elab.async false
set_option linter.all false
set_option maxRecDepth 100000
set_option synthInstance.maxHeartbeats 0
set_option synthInstance.maxSize 100000
namespace Pu
open PySem PySem.Spec PyProof.Rows L2
section
variable {Q : D → Prop} {n : Int} {r s l a b c M row : List Int} {ws L : List (List Int)} {x y : Int} {m t : Nat}
def bn : Bool → Nat
  | true => 1
  | false => 0
def sm (f : Nat → Nat) : Nat → Nat
  | 0 => 0
  | m + 1 => Nat.add (sm f m) (f m)
def P2 (G : Nat → Nat → Bool) (x y : Nat) : Bool := !(Nat.ble (y + 1) x && !G x y)
def P3 (G : Nat → Nat → Bool) (x y z : Nat) : Bool := match Nat.ble (y + 1) x && !G x y with
  | true => false
  | false => match Nat.ble (z + 1) y && !G y z with
    | true => false
    | false => !(Nat.ble (z + 1) x && !G x z && !G y z)
def Q2 (G : Nat → Nat → Bool) (x y : Nat) : Bool := Nat.ble (x + 1) y && !G x y
def Q3 (G : Nat → Nat → Bool) (x y z : Nat) : Bool := Nat.ble (x + 1) y && Nat.ble (y + 1) z && !G x y && !G x z && !G y z
def GN (b01 b02 b12 b03 b13 b23 b04 b14 b24 b34 : Bool) (x y : Nat) : Bool :=
  match x, y with
  | 0, 1 => b01 | 1, 0 => b01 | 0, 2 => b02 | 2, 0 => b02 | 1, 2 => b12 | 2, 1 => b12
  | 0, 3 => b03 | 3, 0 => b03 | 1, 3 => b13 | 3, 1 => b13 | 2, 3 => b23 | 3, 2 => b23
  | 0, 4 => b04 | 4, 0 => b04 | 1, 4 => b14 | 4, 1 => b14 | 2, 4 => b24 | 4, 2 => b24 | 3, 4 => b34 | 4, 3 => b34
  | _, _ => true
def n2 (P : Nat → Nat → Bool) (m : Nat) : Nat := sm (fun x => sm (fun y => bn (P x y)) m) m
def n3 (P : Nat → Nat → Nat → Bool) (m : Nat) : Nat := sm (fun x => sm (fun y => sm (fun z => bn (P x y z)) m) m) m
def ck (G : Nat → Nat → Bool) (m : Nat) : Bool :=
  Nat.beq (n2 (P2 G) m + n2 (Q2 G) m) (m * m) && Nat.beq (n3 (P3 G) m + 2 * (m * n2 (Q2 G) m)) (m * m * m + n3 (Q3 G) m)
theorem ck1 : ck (GN true true true true true true true true true true) 1 = true := by decide +kernel
theorem ck2 : ∀ b01 : Bool, ck (GN b01 true true true true true true true true true) 2 = true := by decide +kernel
theorem ck3 : ∀ b01 b02 b12 : Bool, ck (GN b01 b02 b12 true true true true true true true) 3 = true := by decide +kernel
theorem ck4 : ∀ b01 b02 b12 b03 b13 b23 : Bool, ck (GN b01 b02 b12 b03 b13 b23 true true true true) 4 = true := by decide +kernel
theorem ck5 : ∀ b01 b02 b12 b03 b13 b23 b04 b14 b24 b34 : Bool, ck (GN b01 b02 b12 b03 b13 b23 b04 b14 b24 b34) 5 = true := by decide +kernel
theorem sm_congr {f g : Nat → Nat} : ∀ {m : Nat}, (∀ k, k < m → f k = g k) → sm f m = sm g m
  | 0, _ => rfl
  | m + 1, h => by
    show Nat.add (sm f m) (f m) = Nat.add (sm g m) (g m)
    rw [sm_congr fun k hk => h k (by omega), h m (by omega)]
theorem sm_range (f : Nat → Nat) : ∀ m : Nat, ((List.range m).map f).sum = sm f m
  | 0 => rfl
  | m + 1 => by
    rw [List.range_succ, List.map_append, List.sum_append, sm_range f m]
    simp [sm]
theorem ck_congr {G G' : Nat → Nat → Bool} (h : ∀ x y, x < m → y < m → G x y = G' x y) : ck G m = ck G' m := by
  have e1 : n2 (P2 G) m = n2 (P2 G') m := sm_congr fun x hx => sm_congr fun y hy => by unfold P2; rw [h x y hx hy]
  have e2 : n2 (Q2 G) m = n2 (Q2 G') m := sm_congr fun x hx => sm_congr fun y hy => by unfold Q2; rw [h x y hx hy]
  have e3 : n3 (P3 G) m = n3 (P3 G') m := sm_congr fun x hx => sm_congr fun y hy => sm_congr fun z hz => by unfold P3; rw [h x y hx hy, h y z hy hz, h x z hx hz]
  have e4 : n3 (Q3 G) m = n3 (Q3 G') m := sm_congr fun x hx => sm_congr fun y hy => sm_congr fun z hz => by unfold Q3; rw [h x y hx hy, h y z hy hz, h x z hx hz]
  unfold ck
  rw [e1, e2, e3, e4]
theorem cnt_sum (p : List Int → Bool) : ∀ l : List (List Int), (l.filter p).length = (l.map fun r => bn (p r)).sum
  | [] => rfl
  | r :: l => by
    rw [List.map_cons, List.sum_cons, ← cnt_sum p l, List.filter_cons]
    cases p r <;> simp [bn] <;> omega
theorem sum_flat (f : List Int → Nat) : ∀ l : List (List Int), ((l.flatMap fun t => (rangeI (m : Int)).map fun x => t ++ [x]).map f).sum = (l.map fun t => sm (fun k => f (t ++ [(k : Int)])) m).sum
  | [] => rfl
  | t :: l => by
    rw [List.flatMap_cons, List.map_append, List.sum_append, sum_flat f l, List.map_cons, List.sum_cons, ← sm_range]
    unfold rangeI
    rw [List.map_map, List.map_map, Int.toNat_natCast]
    rfl
theorem sum_wds (f : List Int → Nat) : ((wds m (t + 1)).map f).sum = ((wds m t).map fun r => sm (fun k => f (r ++ [(k : Int)])) m).sum := sum_flat f (wds m t)
theorem wds1_sum (f : List Int → Nat) : ((wds m 1).map f).sum = sm (fun x => f [(x : Int)]) m := by
  rw [sum_wds]
  show sm _ m + 0 = _
  rfl
theorem wds2_sum (f : List Int → Nat) : ((wds m 2).map f).sum = sm (fun x => sm (fun y => f [(x : Int), (y : Int)]) m) m := by
  rw [sum_wds, wds1_sum]
  rfl
theorem wds3_sum (f : List Int → Nat) : ((wds m 3).map f).sum = sm (fun x => sm (fun y => sm (fun z => f [(x : Int), (y : Int), (z : Int)]) m) m) m := by
  rw [sum_wds, wds2_sum]
  rfl
def gN (ws : List (List Int)) (x y : Nat) : Bool := meetsF ws (x : Int) (y : Int)
theorem ble_dec {a b : Nat} : Nat.ble (a + 1) b = decide ((a : Int) < (b : Int)) := by
  by_cases h : a < b
  · rw [decide_eq_true (by omega), Nat.ble_eq]; omega
  · rw [decide_eq_false (by omega)]
    cases e : Nat.ble (a + 1) b with
    | true => rw [Nat.ble_eq] at e; omega
    | false => rfl
theorem lB2 {x y : Nat} : lB (meetsF ws) [(x : Int), (y : Int)] = P2 (gN ws) x y := by
  unfold P2 gN
  rw [ble_dec]
  have e1 : fB (meetsF ws) [(x : Int), (y : Int)] (y : Int) = (decide ((x : Int) = (y : Int)) || !meetsF ws (x : Int) (y : Int)) := by
    unfold fB fB
    by_cases h : (x : Int) = (y : Int)
    · rw [if_pos h, decide_eq_true h]; rfl
    · rw [if_neg h, decide_eq_false h, if_pos rfl]
      cases meetsF ws (x : Int) (y : Int) <;> rfl
  show (([(x : Int), (y : Int)].all fun z => !decide (z < (x : Int)) || !fB (meetsF ws) [(x : Int), (y : Int)] z) && (([(y : Int)].all fun z => !decide (z < (y : Int)) || !fB (meetsF ws) [(y : Int)] z) && true)) = _
  simp only [List.all_cons, List.all_nil, Bool.and_true, decide_eq_false (Int.lt_irrefl (x : Int)), decide_eq_false (Int.lt_irrefl (y : Int)), Bool.not_false, Bool.true_or, Bool.true_and, e1]
  by_cases h : (y : Int) < (x : Int)
  · rw [decide_eq_true h, decide_eq_false (by omega)]
    cases meetsF ws (x : Int) (y : Int) <;> rfl
  · rw [decide_eq_false h]; rfl
theorem lB3 {x y z : Nat} : lB (meetsF ws) [(x : Int), (y : Int), (z : Int)] = P3 (gN ws) x y z := by
  have e0 : lB (meetsF ws) [(x : Int), (y : Int), (z : Int)] = (([(x : Int), (y : Int), (z : Int)].all fun u => !decide (u < (x : Int)) || !fB (meetsF ws) [(x : Int), (y : Int), (z : Int)] u) && lB (meetsF ws) [(y : Int), (z : Int)]) := rfl
  rw [e0, lB2]
  unfold P3 P2 gN
  simp only [ble_dec]
  have e1 : fB (meetsF ws) [(x : Int), (y : Int), (z : Int)] (y : Int) = (decide ((x : Int) = (y : Int)) || !meetsF ws (x : Int) (y : Int)) := by
    unfold fB fB
    by_cases h : (x : Int) = (y : Int)
    · rw [if_pos h, decide_eq_true h]; rfl
    · rw [if_neg h, decide_eq_false h, if_pos rfl]
      cases meetsF ws (x : Int) (y : Int) <;> rfl
  have e2 : fB (meetsF ws) [(x : Int), (y : Int), (z : Int)] (z : Int) = (decide ((x : Int) = (z : Int)) || (!meetsF ws (x : Int) (z : Int) && (decide ((y : Int) = (z : Int)) || !meetsF ws (y : Int) (z : Int)))) := by
    unfold fB fB fB
    by_cases h : (x : Int) = (z : Int)
    · rw [if_pos h, decide_eq_true h]; rfl
    · rw [if_neg h, decide_eq_false h]
      by_cases h2 : (y : Int) = (z : Int)
      · rw [if_pos h2, decide_eq_true h2]
        cases meetsF ws (x : Int) (z : Int) <;> rfl
      · rw [if_neg h2, decide_eq_false h2, if_pos rfl]
        cases meetsF ws (x : Int) (z : Int) <;> cases meetsF ws (y : Int) (z : Int) <;> rfl
  simp only [List.all_cons, List.all_nil, Bool.and_true, decide_eq_false (Int.lt_irrefl (x : Int)), Bool.not_false, Bool.true_or, Bool.true_and, e1, e2]
  by_cases h1 : (y : Int) < (x : Int)
  · rw [decide_eq_true h1, decide_eq_false (show ¬ (x : Int) = (y : Int) by omega)]
    cases hxy : meetsF ws (x : Int) (y : Int)
    · simp
    · by_cases h2 : (z : Int) < (y : Int)
      · rw [decide_eq_true h2, decide_eq_true (show (z : Int) < (x : Int) by omega), decide_eq_false (show ¬ (x : Int) = (z : Int) by omega), decide_eq_false (show ¬ (y : Int) = (z : Int) by omega)]
        cases meetsF ws (x : Int) (z : Int) <;> cases meetsF ws (y : Int) (z : Int) <;> rfl
      · rw [decide_eq_false h2]
        by_cases h3 : (z : Int) < (x : Int)
        · rw [decide_eq_true h3, decide_eq_false (show ¬ (x : Int) = (z : Int) by omega)]
          by_cases h4 : (y : Int) = (z : Int)
          · rw [decide_eq_true h4, ← h4, hxy]; simp
          · rw [decide_eq_false h4]
            cases meetsF ws (x : Int) (z : Int) <;> cases meetsF ws (y : Int) (z : Int) <;> rfl
        · rw [decide_eq_false h3]; simp
  · rw [decide_eq_false h1]
    by_cases h2 : (z : Int) < (y : Int)
    · rw [decide_eq_true h2, decide_eq_false (show ¬ (y : Int) = (z : Int) by omega)]
      cases hyz : meetsF ws (y : Int) (z : Int)
      · simp
      · by_cases h3 : (z : Int) < (x : Int)
        · rw [decide_eq_true h3, decide_eq_false (show ¬ (x : Int) = (z : Int) by omega)]
          cases meetsF ws (x : Int) (z : Int) <;> rfl
        · rw [decide_eq_false h3]; simp
    · rw [decide_eq_false h2, decide_eq_false (show ¬ (z : Int) < (x : Int) by omega)]; simp
end
end Pu
set_option Elab.async false
set_option linter.all false
set_option maxRecDepth 100000
set_option synthInstance.maxHeartbeats 0
set_option synthInstance.maxSize 100000
namespace Pu
open PySem PySem.Spec PyProof.Rows L2
section
variable {Q : D → Prop} {n : Int} {r s l a b c M row : List Int} {ws L : List (List Int)} {x y : Int} {m t k : Nat}
def p2 (ws : List (List Int)) : List Int → Bool
  | [x, y] => decide (x < y) && !meetsF ws x y
  | _ => false
def p3 (ws : List (List Int)) : List Int → Bool
  | [x, y, z] => decide (x < y) && decide (y < z) && !meetsF ws x y && !meetsF ws x z && !meetsF ws y z
  | _ => false
theorem wds_nd : (wds m t).Nodup := wds_pw.imp fun {a b} ⟨_, q⟩ e => by rw [e, PuS.lex_irr] at q; cases q
theorem lvl_eq {X : List (List Int)} (nd : X.Nodup) (hX : ∀ l, l ∈ X ↔ Apt ws ws.length l ∧ l.length = k) : (lvl ws k).length = X.length :=
  ((List.perm_ext_iff_of_nodup (lvl_nodup k) nd).mpr fun l => by rw [lvl_mem, hX]).length_eq
theorem lvl1 : (lvl ws 1).length = ws.length := by
  rw [lvl_eq (X := wds ws.length 1) wds_nd fun l => ?_, wds_len, Nat.pow_one]
  rw [wds_mem]
  constructor
  · rintro ⟨h1, h2⟩
    match l, h1 with
    | [x], _ => exact ⟨⟨List.pairwise_singleton _ _, h2⟩, rfl⟩
  · rintro ⟨h1, h2⟩
    exact ⟨h2, h1.2⟩
theorem lvl2 : (lvl ws 2).length = n2 (Q2 (gN ws)) ws.length := by
  rw [lvl_eq (X := (wds ws.length 2).filter (p2 ws)) (List.Pairwise.filter _ wds_nd) fun l => ?_, cnt_sum, wds2_sum]
  · refine sm_congr fun x hx => sm_congr fun y hy => ?_
    show bn (decide ((x : Int) < (y : Int)) && !meetsF ws (x : Int) (y : Int)) = bn (Q2 (gN ws) x y)
    unfold Q2 gN
    rw [ble_dec]
  · rw [List.mem_filter, wds_mem]
    constructor
    · rintro ⟨⟨h1, h2⟩, h3⟩
      match l, h1 with
      | [x, y], _ =>
        simp only [p2, Bool.and_eq_true, decide_eq_true_eq, Bool.not_eq_true'] at h3
        exact ⟨⟨by simp [h3.1, meets_sym28 (x := y), h3.2], h2⟩, rfl⟩
    · rintro ⟨⟨h1, h2⟩, h3⟩
      match l, h3 with
      | [x, y], _ =>
        simp only [List.pairwise_cons, List.mem_cons, List.not_mem_nil, or_false, forall_eq] at h1
        refine ⟨⟨rfl, h2⟩, ?_⟩
        simp [p2, h1.1.1, meets_sym28 (x := x), h1.1.2]
theorem lvl3 : (lvl ws 3).length = n3 (Q3 (gN ws)) ws.length := by
  rw [lvl_eq (X := (wds ws.length 3).filter (p3 ws)) (List.Pairwise.filter _ wds_nd) fun l => ?_, cnt_sum, wds3_sum]
  · refine sm_congr fun x hx => sm_congr fun y hy => sm_congr fun z hz => ?_
    show bn (decide ((x : Int) < (y : Int)) && decide ((y : Int) < (z : Int)) && !meetsF ws (x : Int) (y : Int) && !meetsF ws (x : Int) (z : Int) && !meetsF ws (y : Int) (z : Int)) = bn (Q3 (gN ws) x y z)
    unfold Q3 gN
    rw [ble_dec, ble_dec]
  · rw [List.mem_filter, wds_mem]
    constructor
    · rintro ⟨⟨h1, h2⟩, h3⟩
      match l, h1 with
      | [x, y, z], _ =>
        simp only [p3, Bool.and_eq_true, decide_eq_true_eq, Bool.not_eq_true'] at h3
        obtain ⟨⟨⟨⟨a1, a2⟩, a3⟩, a4⟩, a5⟩ := h3
        refine ⟨⟨?_, h2⟩, rfl⟩
        simp [a1, a2, meets_sym28 (x := y) (y := x), meets_sym28 (x := z) (y := x), meets_sym28 (x := z) (y := y), a3, a4, a5]
        omega
    · rintro ⟨⟨h1, h2⟩, h3⟩
      match l, h3 with
      | [x, y, z], _ =>
        simp only [List.pairwise_cons, List.mem_cons, List.not_mem_nil, or_false, forall_eq_or_imp, forall_eq] at h1
        obtain ⟨⟨⟨a1, a2⟩, a3, a4⟩, ⟨a5, a6⟩, _⟩ := h1
        refine ⟨⟨rfl, h2⟩, ?_⟩
        simp [p3, a1, a5, meets_sym28 (x := x) (y := y), meets_sym28 (x := x) (y := z), meets_sym28 (x := y) (y := z), a2, a4, a6]
theorem cnt_at (k : Nat) : (cntA ws).getD k 0 = ((lvl ws k).length : Int) := by
  rw [← cnt_lvl, List.getD_eq_getElem?_getD, List.getElem?_map]
  by_cases h : k < topA ws + 1
  · rw [List.getElem?_range h]; rfl
  · rw [List.getElem?_eq_none (by simp; omega), lvl_none (by omega)]; rfl
theorem term_cut {t : Nat} (h : c.length - 1 ≤ k) : ∀ d : Nat, termL c M t (List.range (k + d)) = termL c M t (List.range k)
  | 0 => rfl
  | d + 1 => by
    rw [← Nat.add_assoc, List.range_succ, termL_snoc, term_cut h d, List.getD_eq_getElem?_getD (l := c), List.getElem?_eq_none (by omega)]
    simp
theorem term_min (t : Nat) : termL c M t (List.range (min (c.length - 1) t)) = termL c M t (List.range t) := by
  by_cases h : c.length - 1 ≤ t
  · rw [Nat.min_eq_left h]
    conv => rhs; rw [show t = (c.length - 1) + (t - (c.length - 1)) by omega]
    rw [term_cut (Nat.le_refl _), show c.length - 1 + (t - (c.length - 1)) = t by omega]
  · rw [Nat.min_eq_right (by omega)]
theorem rec1 : recL c 1 = [1, c.getD 1 0] := by
  show [1] ++ [termL c [1] 1 (List.range (min (c.length - 1) 1))] = _
  rw [term_min]
  simp [termL, List.range_succ, sg]
theorem rec2 : recL c 2 = [1, c.getD 1 0, c.getD 1 0 * c.getD 1 0 - c.getD 2 0] := by
  show recL c 1 ++ [termL c (recL c 1) 2 (List.range (min (c.length - 1) 2))] = _
  rw [term_min, rec1]
  simp [termL, List.range_succ, sg]
  omega
theorem rec3 : recL c 3 = [1, c.getD 1 0, c.getD 1 0 * c.getD 1 0 - c.getD 2 0, c.getD 1 0 * (c.getD 1 0 * c.getD 1 0 - c.getD 2 0) - c.getD 2 0 * c.getD 1 0 + c.getD 3 0] := by
  show recL c 2 ++ [termL c (recL c 2) 3 (List.range (min (c.length - 1) 3))] = _
  rw [term_min, rec2]
  simp [termL, List.range_succ, sg, Int.sub_eq_add_neg, Int.neg_mul, Int.add_assoc]
theorem ck_ws (h1 : 1 ≤ ws.length) (h5 : ws.length ≤ 5) (hr : ∀ x : Nat, x < ws.length → gN ws x x = true) : ck (gN ws) ws.length = true := by
  have sy : ∀ x y, gN ws x y = gN ws y x := fun x y => meets_sym28
  obtain ⟨m, hm⟩ : ∃ m, ws.length = m := ⟨_, rfl⟩
  rw [hm] at h1 h5 hr ⊢
  have G : ∀ x y, x < m → y < m → gN ws x y = GN (gN ws 0 1) (gN ws 0 2) (gN ws 1 2) (gN ws 0 3) (gN ws 1 3) (gN ws 2 3) (gN ws 0 4) (gN ws 1 4) (gN ws 2 4) (gN ws 3 4) x y := fun x y hx hy => by
    have ex : x = 0 ∨ x = 1 ∨ x = 2 ∨ x = 3 ∨ x = 4 := by omega
    have ey : y = 0 ∨ y = 1 ∨ y = 2 ∨ y = 3 ∨ y = 4 := by omega
    rcases ex with rfl | rfl | rfl | rfl | rfl <;> rcases ey with rfl | rfl | rfl | rfl | rfl <;> first | rfl | exact hr _ hx | exact sy _ _
  have em : m = 1 ∨ m = 2 ∨ m = 3 ∨ m = 4 ∨ m = 5 := by omega
  rcases em with rfl | rfl | rfl | rfl | rfl
  · rw [ck_congr fun x y hx hy => (G x y hx hy).trans (show _ = GN true true true true true true true true true true x y by
      obtain rfl : x = 0 := by omega
      obtain rfl : y = 0 := by omega
      rfl)]
    exact ck1
  · rw [ck_congr fun x y hx hy => (G x y hx hy).trans (show _ = GN (gN ws 0 1) true true true true true true true true true x y by
      have ex : x = 0 ∨ x = 1 := by omega
      have ey : y = 0 ∨ y = 1 := by omega
      rcases ex with rfl | rfl <;> rcases ey with rfl | rfl <;> rfl)]
    exact ck2 _
  · rw [ck_congr fun x y hx hy => (G x y hx hy).trans (show _ = GN (gN ws 0 1) (gN ws 0 2) (gN ws 1 2) true true true true true true true x y by
      have ex : x = 0 ∨ x = 1 ∨ x = 2 := by omega
      have ey : y = 0 ∨ y = 1 ∨ y = 2 := by omega
      rcases ex with rfl | rfl | rfl <;> rcases ey with rfl | rfl | rfl <;> rfl)]
    exact ck3 _ _ _
  · rw [ck_congr fun x y hx hy => (G x y hx hy).trans (show _ = GN (gN ws 0 1) (gN ws 0 2) (gN ws 1 2) (gN ws 0 3) (gN ws 1 3) (gN ws 2 3) true true true true x y by
      have ex : x = 0 ∨ x = 1 ∨ x = 2 ∨ x = 3 := by omega
      have ey : y = 0 ∨ y = 1 ∨ y = 2 ∨ y = 3 := by omega
      rcases ex with rfl | rfl | rfl | rfl <;> rcases ey with rfl | rfl | rfl | rfl <;> rfl)]
    exact ck4 _ _ _ _ _ _
  · rw [ck_congr fun x y hx hy => G x y hx hy]
    exact ck5 _ _ _ _ _ _ _ _ _ _
theorem meets_self (h : WsOk n ws) {x : Nat} (hx : x < ws.length) : gN ws x x = true := by
  have := ne_of_wsok h (t := [(x : Int)]) (fun y hy => by rw [List.mem_singleton.mp hy]; omega) (x : Int) (by simp)
  unfold gN
  exact own_meets this
theorem unlike_rec (h : WsOk n ws) (h5 : ws.length ≤ 5) (ht : t ≤ 3) : (((insAll [] ((wds ws.length t).map fun r => kyL (logsF n ws r))).length : Nat) : Int) = (recL (cntA ws) t).getD t 0 := by
  have ckw := ck_ws h.2.2.1 h5 fun x hx => meets_self h hx
  unfold ck at ckw
  rw [Bool.and_eq_true, Nat.beq_eq, Nat.beq_eq] at ckw
  obtain ⟨k2, k3⟩ := ckw
  have c1 : (cntA ws).getD 1 0 = (ws.length : Int) := by rw [cnt_at, lvl1]
  have c2 : (cntA ws).getD 2 0 = (n2 (Q2 (gN ws)) ws.length : Int) := by rw [cnt_at, lvl2]
  have c3 : (cntA ws).getD 3 0 = (n3 (Q3 (gN ws)) ws.length : Int) := by rw [cnt_at, lvl3]
  rw [unlike_len h]
  have et : t = 0 ∨ t = 1 ∨ t = 2 ∨ t = 3 := by omega
  rcases et with rfl | rfl | rfl | rfl
  · rfl
  · rw [rec1, c1, cnt_sum, wds1_sum, sm_congr (g := fun _ => 1) fun x hx => ?_]
    · have : ∀ m, sm (fun _ => 1) m = m := fun m => by
        induction m with
        | zero => rfl
        | succ m ih => show sm _ m + 1 = _; rw [ih]
      rw [this]
      rfl
    · show bn (lB (meetsF ws) [(x : Int)]) = 1
      show bn ((([(x : Int)]).all fun y => !decide (y < (x : Int)) || !fB (meetsF ws) [(x : Int)] y) && true) = 1
      simp [bn]
  · rw [rec2, c1, c2, cnt_sum, wds2_sum, sm_congr fun x hx => sm_congr fun y hy => congrArg bn lB2]
    show ((n2 (P2 (gN ws)) ws.length : Nat) : Int) = (ws.length : Int) * ws.length - _
    have : ((n2 (P2 (gN ws)) ws.length + n2 (Q2 (gN ws)) ws.length : Nat) : Int) = ((ws.length * ws.length : Nat) : Int) := by rw [k2]
    rw [Int.natCast_add, Int.natCast_mul] at this
    omega
  · rw [rec3, c1, c2, c3, cnt_sum, wds3_sum, sm_congr fun x hx => sm_congr fun y hy => sm_congr fun z hz => congrArg bn lB3]
    show ((n3 (P3 (gN ws)) ws.length : Nat) : Int) = (ws.length : Int) * ((ws.length : Int) * ws.length - _) - _ * (ws.length : Int) + _
    have k3' : ((n3 (P3 (gN ws)) ws.length + 2 * (ws.length * n2 (Q2 (gN ws)) ws.length) : Nat) : Int) = ((ws.length * ws.length * ws.length + n3 (Q3 (gN ws)) ws.length : Nat) : Int) := by rw [k3]
    simp only [Int.natCast_add, Int.natCast_mul] at k3'
    rw [Int.mul_sub, Int.mul_comm (n2 _ _ : Int) (ws.length : Int), ← Int.mul_assoc]
    have : ((2 : Nat) : Int) = 2 := rfl
    rw [this] at k3'
    omega
end
end Pu
set_option Elab.async false
set_option linter.all false
set_option maxRecDepth 100000
set_option synthInstance.maxHeartbeats 0
set_option synthInstance.maxSize 100000
namespace Pu
open PySem PySem.Spec PyProof.Rows L2
section
variable {Q : D → Prop} {n i j k e d c m p q : Int} {r s l J a lot : List Int} {ws L : List (List Int)} {x y : Int} {K : D → Prop} {env : PEnv} {dd t : D} {ls ds : List D}
theorem lot_range (h0 : 0 ≤ n) : lotOk n (rangeI n) := lot_of (rangeI_pw n) fun x hx => mem_rangeI.mp hx
end
end Pu
set_option Elab.async false
set_option linter.all false
set_option maxRecDepth 100000
set_option synthInstance.maxHeartbeats 0
set_option synthInstance.maxSize 100000
namespace Pu
open PySem PySem.Spec PyProof.Rows L2
section
variable {Q : D → Prop} {n i : Int} {T r s o row left far a b c g j l m : List Int} {ws us L K : List (List Int)} {C : List Int} {kvs : List (List Key × D)} {dd : D} {x y w : Int} {bs : List Bool}
def aloneW (d : Nat) : List (List Int) := (List.range d).map fun k : Nat => [Int.ofNat k]
theorem alone_len {d : Nat} : (aloneW d).length = d := by simp [aloneW]
theorem alone_ok {d : Nat} (h0 : 1 ≤ d) (h1 : d ≤ 6) : WsOk (d : Int) (aloneW d) := by
  refine ⟨by omega, by omega, by rw [alone_len]; omega, by rw [alone_len]; omega, fun l hl => ?_⟩
  obtain ⟨k, hk, rfl⟩ := List.mem_map.mp hl
  have hk := List.mem_range.mp hk
  exact ⟨show 0 ≤ (k : Int) ∧ (k : Int) < (d : Int) by omega, by simp, by simp⟩
theorem psum_len : ∀ {l : List Int} {s : Int}, (psum l s).length = l.length
  | [], _ => rfl
  | x :: l, s => by show (psum l (s + x)).length + 1 = _; rw [psum_len]; rfl
theorem psum_take : ∀ (l : List Int) (s : Int) (k : Nat), psum (l.take k) s = (psum l s).take k
  | [], s, k => by rw [List.take_nil]; show [] = List.take k []; rw [List.take_nil]
  | x :: l, s, 0 => rfl
  | x :: l, s, k + 1 => by
    show (s + x) :: psum (l.take k) (s + x) = (s + x) :: (psum l (s + x)).take k
    rw [psum_take]
theorem psum_at : ∀ {l : List Int} {s : Int} {j : Nat}, j + 1 < l.length → (psum l s).getD (j + 1) 0 = (psum l s).getD j 0 + l.getD (j + 1) 0
  | [], _, _, h => by simp at h
  | [x], _, j, h => by simp at h
  | x :: y :: l, s, 0, _ => rfl
  | x :: y :: l, s, j + 1, h => by
    show (psum (y :: l) (s + x)).getD (j + 1) 0 = (psum (y :: l) (s + x)).getD j 0 + (y :: l).getD (j + 1) 0
    exact psum_at (by simpa using h)
def psums (d m : Nat) : List Int := (List.range d).foldl (fun l _ => psum l 0) (List.replicate m 1)
theorem psums_succ {d m : Nat} : psums (d + 1) m = psum (psums d m) 0 := by unfold psums; rw [List.range_succ, List.foldl_append]; rfl
theorem psums_len {m : Nat} : ∀ {d : Nat}, (psums d m).length = m
  | 0 => List.length_replicate
  | d + 1 => by rw [psums_succ, psum_len, psums_len]
theorem psums_take {m k : Nat} (h : k ≤ m) : ∀ d : Nat, (psums d m).take k = psums d k
  | 0 => by show (List.replicate m (1 : Int)).take k = List.replicate k 1; rw [List.take_replicate, Nat.min_eq_left h]
  | d + 1 => by rw [psums_succ, psums_succ, ← psum_take, psums_take h d]
theorem recL_take {c : List Int} : ∀ {t j : Nat}, (recL c (t + j)).take (t + 1) = recL c t
  | t, 0 => by rw [Nat.add_zero]; exact List.take_of_length_le (by rw [recL_len]; omega)
  | t, j + 1 => by
    show (recL c (t + j) ++ [_]).take (t + 1) = _
    rw [List.take_append_of_le_length (by rw [recL_len]; omega), recL_take]
theorem alone_rec {d t : Nat} (hd : d < 6) (ht : t ≤ 60) : recL (cntA (aloneW (d + 1))) t = psums d (t + 1) := by
  have h := of_decide_eq_true (List.all_eq_true.mp alone_all d (List.mem_range.mpr hd))
  have h : recL (cntA (aloneW (d + 1))) 60 = psums d 61 := h
  rw [← recL_take (t := t) (j := 60 - t), show t + (60 - t) = 60 by omega, h, psums_take (by omega)]
def stepS (l : List Int) (j : Nat) : List Int := (psum l 0).take (j + 1) ++ l.drop (j + 1)
theorem stepS_len {l : List Int} {j : Nat} (h : j + 1 ≤ l.length) : (stepS l j).length = l.length := by unfold stepS; rw [List.length_append, List.length_take, List.length_drop, psum_len]; omega
theorem stepS_0 {l : List Int} (h : 1 ≤ l.length) : stepS l 0 = l := by
  cases l with
  | nil => simp at h
  | cons x l =>
    show (0 + x) :: l = x :: l
    rw [Int.zero_add]
theorem stepS_end {l : List Int} : stepS l (l.length - 1) = psum l 0 := by
  unfold stepS
  rw [List.take_of_length_le (by rw [psum_len]; omega), List.drop_eq_nil_of_le (by omega), List.append_nil]
theorem stepS_lo {l : List Int} {j : Nat} (h : j + 1 < l.length) : (stepS l j).getD j 0 = (psum l 0).getD j 0 := by
  unfold stepS
  rw [List.getD_eq_getElem?_getD, List.getElem?_append_left (by rw [List.length_take, psum_len]; omega), List.getElem?_take_of_lt (by omega), ← List.getD_eq_getElem?_getD]
theorem stepS_hi {l : List Int} {j : Nat} (h : j + 1 < l.length) : (stepS l j).getD (j + 1) 0 = l.getD (j + 1) 0 := by
  unfold stepS
  have e : ((psum l 0).take (j + 1)).length = j + 1 := by rw [List.length_take, psum_len]; omega
  rw [List.getD_eq_getElem?_getD, List.getElem?_append_right (by omega), e, List.getElem?_drop, ← List.getD_eq_getElem?_getD]
  congr 1
  omega
theorem stepS_set {l : List Int} {j : Nat} (h : j + 1 < l.length) : (stepS l j).set (j + 1) (l.getD (j + 1) 0 + (psum l 0).getD j 0) = stepS l (j + 1) := by
  have e : ((psum l 0).take (j + 1)).length = j + 1 := by rw [List.length_take, psum_len]; omega
  have lp : j + 1 < (psum l 0).length := by rw [psum_len]; exact h
  unfold stepS
  rw [List.set_append_right _ _ (by omega), e, Nat.sub_self, List.drop_eq_getElem_cons h, List.set_cons_zero, List.take_succ_eq_append_getElem (i := j + 1) lp, List.append_assoc]
  congr 2
  have h2 := psum_at (l := l) (s := 0) (j := j) h
  rw [List.getD_eq_getElem?_getD, List.getElem?_eq_getElem lp] at h2
  have h2 : (psum l 0)[j + 1] = _ := h2
  rw [h2, Int.add_comm]
theorem y_range_alone {d : Nat} : wD ((rangeI (1 + (d : Int))).map fun k => [k]) = wD (aloneW (d + 1)) := by
  unfold rangeI aloneW
  rw [List.map_map, show (1 + (d : Int)).toNat = d + 1 by omega]
  rfl
def everyW (n : Int) (w : Nat) : List (List Int) := List.replicate w (rangeI n)
theorem every_ok {w : Nat} (h0 : 1 ≤ n) (h1 : n ≤ 6) (w0 : 1 ≤ w) (w1 : w ≤ 10) : WsOk n (everyW n w) := by
  refine ⟨h0, h1, by simpa [everyW] using w0, by simpa [everyW] using w1, fun l hl => ?_⟩
  rw [List.eq_of_mem_replicate hl]
  exact ⟨lot_range (by omega), fun e => by have := congrArg List.length e; rw [rangeI_len] at this; simp at this; omega, by rw [rangeI_len]; omega⟩
theorem every_meet {w : Nat} (h0 : 1 ≤ n) (hx : 0 ≤ x ∧ x < ((everyW n w).length : Int)) (hy : 0 ≤ y ∧ y < ((everyW n w).length : Int)) : meetsF (everyW n w) x y = true := by
  have e : ∀ z, 0 ≤ z ∧ z < ((everyW n w).length : Int) → W (everyW n w) z = rangeI n := fun z hz => List.eq_of_mem_replicate (w_mem hz)
  unfold meetsF
  have m0 : (0 : Int) ∈ rangeI n := mem_rangeI.mpr ⟨by omega, by omega⟩
  simp only [e x hx, e y hy]
  exact List.any_eq_true.mpr ⟨0, m0, by simpa using m0⟩
theorem y_repE {w : Nat} (h0 : 1 ≤ w) (h1 : w ≤ 10) (h6 : n ≤ 6) (q : Q (wD (everyW n w))) : oRepTB (.tup [rD (rangeI n)]) (.int (w : Int)) Q := by
  refine ⟨by rw [Zce, Zcb]; rfl, by simp, by omega, by omega, by simp, ?_⟩
  have : ∀ m : Nat, (List.replicate m [rD (rangeI n)]).flatten = rowsD (everyW n m) := fun m => by
    induction m with
    | zero => rfl
    | succ m ih => rw [List.replicate_succ, List.flatten_cons, ih]; rfl
  rw [Int.toNat_natCast, this]
  exact q
local macro_rules
  | `(tactic| and_intros) => `(tactic| (try simp only [Zaa, Zab, w_c, Zac, Zad, Zae, Zaf, Zag, Zah, Zai, Zaj, Zak, Zal, Zam, Zan, Zao, Zap, Zaq, Zar, Zas, Zat, Zau, Zav, Zaw, Zax, Zay, Zaz, ZaA, ZaB, ZaC, ZaD, ZaE, ZaF, ZaG, ZaH, ZaI, ZaJ, ZaK, ZaL, ZaM, ZaN, ZaO, ZaP, ZaQ, ZaR, ZaS, ZaT, ZaU, ZaV, ZaW, ZaX, ZaY, ZaZ, Za0, Za1, Za2, Za3, Za4, Za5, Za6, Za7, Za8, Za9, Zba, Zbb, Zbc, Zbd, Zbe, Zbf, Zbg, Zbh, Zbi, Zbj, Zbk, Zbl, Zbm, Zbn, Zbo, Zbp, Zbq, Zbr, Zbs, Zbt, Zbu, Zbv, Zbw, Zbx, Zby, Zbz, ZbA, List.length_cons, List.length_nil, Nat.reduceAdd, Nat.zero_add, ZbB, ZbC, ZbD, ZbE, y_W, ZbF, ZbG, ZbH, ZbI, ZbJ, ZbK, ZbL, ZbM, ZbN, ZbO, ZbP, ZbQ, ZbR, ZbS, sb1, sb2, sb3, sb4, sb5, sb6, sb7, sb8, sb9, ZbT, ZbU, ZbV, ZbW, ZbX, ZbY, ZbZ, Zb0, Zb1, Zb2, Zb3, Zb4, Zb5, Zb6, Zb7, List.map_id, id_eq, BEq.rfl, bne_self_eq_false, Zb8, Zb9, Zca, Zcb, Zcc, Zcd, Zce, Zcf, Zcg, Zch, Zci, Zcj, Zck, Zcl, Zcm, Zcn, Zco, Zcp, Zcq, Zcr, Zcs, Zct, Zcu, Zcv, Zcw, Zcx, Zcy, Zcz, ZcA, ZcB, ZcC, ZcD, true_and, and_true, Bool.and_self, Bool.and_true, Bool.true_and, Bool.not_true, Bool.not_false, Bool.false_eq_true, if_false, if_true, ite_true, ite_false, decide_true, decide_false, reduceIte, w_make, w_par, y_par, w_trg1]))
theorem known84_ev : FEv m__law_known_right_2 [dd] (.bl true) := fun Q q => by
  have hs : 1000 ≤ sizeLine := by decide
  unfold m__law_known_right_2 fnM b__law_known_right_2
  simp only [env0, List.map_cons, List.map_nil, List.length_cons, List.length_nil, List.replicate_succ, List.replicate_zero, List.cons_append, List.nil_append, Nat.reduceSub, Nat.reduceAdd, Nat.zero_add, Zaa, Zab, w_c, Zac, Zad, Zae, Zaf, Zag, Zah, Zai, Zaj, Zak, Zal, Zam, Zan, Zao, Zap, Zaq, Zar, Zas, Zat, Zau, Zav, Zaw, Zax, Zay, Zaz, ZaA, ZaB, ZaC, ZaD, ZaE, ZaF, ZaG, ZaH, ZaI, ZaJ, ZaK, ZaL, ZaM, ZaN, ZaO, ZaP, ZaQ, ZaR, ZaS, ZaT, ZaU, ZaV, ZaW, ZaX, ZaY, ZaZ, Za0, Za1, Za2, Za3, Za4, Za5, Za6, Za7, Za8, Za9, Zba, Zbb, Zbc, Zbd, Zbe, Zbf, Zbg, Zbh, Zbi, Zbj, Zbk, Zbl, Zbm, Zbn, Zbo, Zbp, Zbq, Zbr, Zbs, Zbt, Zbu, Zbv, Zbw, Zbx, Zby, Zbz, ZbA, List.length_cons, List.length_nil, Nat.reduceAdd, Nat.zero_add, ZbB, ZbC, ZbD, ZbE, y_W, ZbF, ZbG, ZbH, ZbI, ZbJ, ZbK, ZbL, ZbM, ZbN, ZbO, ZbP, ZbQ, ZbR, ZbS, sb1, sb2, sb3, sb4, sb5, sb6, sb7, sb8, sb9, ZbT, ZbU, ZbV, ZbW, ZbX, ZbY, ZbZ, Zb0, Zb1, Zb2, Zb3, Zb4, Zb5, Zb6, Zb7, List.map_id, id_eq, BEq.rfl, bne_self_eq_false, Zb8, Zb9, Zca, Zcb, Zcc, Zcd, Zce, Zcf, Zcg, Zch, Zci, Zcj, Zck, Zcl, Zcm, Zcn, Zco, Zcp, Zcq, Zcr, Zcs, Zct, Zcu, Zcv, Zcw, Zcx, Zcy, Zcz, ZcA, ZcB, ZcC, ZcD, true_and, and_true, Bool.and_self, Bool.and_true, Bool.true_and, Bool.not_true, Bool.not_false, Bool.false_eq_true, if_false, if_true, ite_true, ite_false, decide_true, decide_false, reduceIte, w_make, w_par, y_par, w_trg1]
  refine draw_ev (by omega) (by omega) fun x x0 x1 => ?_
  and_intros
  refine draw_ev (by omega) (by omega) fun t t0 t1 => ?_
  and_intros
  obtain ⟨d, rfl⟩ : ∃ d : Nat, x = (d : Int) := ⟨x.toNat, by omega⟩
  obtain ⟨t, rfl⟩ : ∃ k : Nat, t = (k : Int) := ⟨t.toNat, by omega⟩
  refine y_rng (by omega) (by omega) ?_
  refine lc_M (e := D.int) (fun k => [k]) rD (by rw [rangeI_len]; omega) (fun k hk R hR => ?_) ?_
  · and_intros
    exact ⟨by omega, hR⟩
  and_intros
  have aok := alone_ok (d := d + 1) (by omega) (by omega)
  show i_Office [.int (1 + (d : Int)), wD ((rangeI (1 + (d : Int))).map fun k => [k])] _
  rw [y_range_alone, show (1 + (d : Int)) = ((d + 1 : Nat) : Int) by omega]
  refine make_ev aok ?_
  rw [mk_oD]
  refine ⟨by omega, ?_⟩
  rw [show ((t : Int) + 1) = ((t + 1 : Nat) : Int) by omega]
  refine y_repL53 (by omega) (by omega) ?_
  rw [Int.toNat_natCast, show List.replicate (t + 1) (1 : Int) = psums 0 (t + 1) from rfl]
  refine y_rng253 (a := 1) (b := d + 1) (by omega) (by omega) ?_
  refine loop_T (fun p s env => ∃ e5 e6 e7 e8 e9, env = [some dd, some (.int ((d + 1 : Nat) : Int)), some (.int (t : Int)), some (oD ((d + 1 : Nat) : Int) (aloneW (d + 1))), some (.lst (dInts (psums p.length (t + 1)))), e5, e6, e7, e8, e9]) _ ⟨_, _, _, _, _, rfl⟩ ?_ ?_
  · rintro p k s env e ⟨e5, e6, e7, e8, e9, rfl⟩
    and_intros
    rw [show ((t : Int) + 1) = ((t + 1 : Nat) : Int) by omega]
    refine y_rng253 (a := 1) (b := t + 1) (by omega) (by omega) ?_
    have l1 := psums_len (m := t + 1) (d := p.length)
    refine loop_T (fun p2 s2 env => ∃ e6, env = [some dd, some (.int ((d + 1 : Nat) : Int)), some (.int (t : Int)), some (oD ((d + 1 : Nat) : Int) (aloneW (d + 1))), some (.lst (dInts (stepS (psums p.length (t + 1)) p2.length))), some (.int ((1 + k : Nat) : Int)), e6, e7, e8, e9]) _ ⟨_, by rw [List.length_nil, stepS_0 (by omega)]⟩ ?_ ?_
    · rintro p2 k2 s2 env e2 ⟨e6, rfl⟩
      obtain ⟨ek, hk2, ep⟩ := nat_split e2
      subst ek
      have sl := stepS_len (l := psums p.length (t + 1)) (j := p2.length) (by omega)
      and_intros
      refine y_ixL (r := stepS (psums p.length (t + 1)) p2.length) (by omega) (by omega) ?_
      refine y_ixL (r := stepS (psums p.length (t + 1)) p2.length) (by omega) (by omega) ?_
      and_intros
      refine y_put (by omega) (by omega) ?_
      rw [show ((1 + p2.length : Nat) : Int).toNat = p2.length + 1 by omega, show (((1 + p2.length : Nat) : Int) - 1).toNat = p2.length by omega, stepS_lo (by omega), stepS_hi (by omega), stepS_set (by omega), List.length_append]
      exact ⟨_, rfl⟩
    · rintro env ⟨e6, rfl⟩
      rw [List.length_range, show t + 1 - 1 = (psums p.length (t + 1)).length - 1 by omega, stepS_end, ← psums_succ, List.length_append]
      exact ⟨_, _, _, _, _, rfl⟩
  · rintro env ⟨e5, e6, e7, e8, e9, rfl⟩
    rw [List.length_range]
    and_intros
    refine many_rows_ev aok (by omega) _ ?_
    refine y_ixL (r := psums (d + 1 - 1) (t + 1)) (by omega) (by rw [psums_len]; omega) ?_
    rw [show d + 1 - 1 = d from rfl, alone_rec (by omega) (by omega), Int.toNat_natCast]
    refine whole_refl _ ?_
    and_intros
    refine draw_ev (by omega) (by omega) fun w w0 w1 => ?_
    and_intros
    obtain ⟨v, hv⟩ : ∃ v : Nat, 1 + w = (v : Int) := ⟨(1 + w).toNat, by omega⟩
    rw [hv]
    refine y_rng (by omega) (by omega) ?_
    refine loop_I (fun p s env => ∃ e6, env = [some dd, some (.int ((d + 1 : Nat) : Int)), some (.int (t : Int)), some (oD ((d + 1 : Nat) : Int) (aloneW (d + 1))), some (.lst (dInts (psums d (t + 1)))), e5, e6, some (.int (v : Int)), some (.int ((v : Int) ^ p.length)), e9]) _ ⟨_, rfl⟩ ?_ ?_
    · rintro p z s env e ⟨e6, rfl⟩
      and_intros
      refine ⟨.inr (by omega), ?_⟩
      rw [List.length_append, List.length_singleton, Int.pow_succ]
      exact ⟨_, rfl⟩
    · rintro env ⟨e6, rfl⟩
      rw [rangeI_len, Int.toNat_natCast]
      and_intros
      refine y_trg (by omega) (by omega) ?_
      refine ⟨by omega, y_repE (by omega) (by omega) (by omega) ?_⟩
      have eok := every_ok (n := ((d + 1 : Nat) : Int)) (w := v) (by omega) (by omega) (by omega) (by omega)
      have el : (everyW ((d + 1 : Nat) : Int) v).length = v := List.length_replicate
      have ec : cntA (everyW ((d + 1 : Nat) : Int) v) = [1, (v : Int)] := by
        have := cnt_all (ws := everyW ((d + 1 : Nat) : Int) v) (by omega) fun x y hx hy => every_meet (by omega) hx hy
        rw [this, el]
      refine make_ev eok ?_
      rw [mk_oD]
      and_intros
      refine many_rows_ev eok (by omega) _ ?_
      rw [ec, rec_all_at]
      refine whole_refl _ ?_
      and_intros
      refine apart_lots_ev eok _ ?_
      rw [ec]
      refine ⟨by decide, ?_⟩
      show oEq (rD [1, (v : Int)]) (rD [1, (v : Int)]) _
      rw [Zcp, decide_eq_true rfl]
      exact q
end
end Pu
set_option Elab.async false
set_option linter.all false
set_option maxRecDepth 100000
set_option synthInstance.maxHeartbeats 0
set_option synthInstance.maxSize 100000
namespace Pu
open PySem PySem.Spec PyProof.Rows L2
section
variable {Q : D → Prop} {n i : Int} {T r s o row left far a b c g j l m : List Int} {ws us L K : List (List Int)} {C : List Int} {dd : D} {x y w : Int} {bs : List Bool}
theorem merge_nx : ∀ {rs : List (List Int)} {acc : List (D × D)} {ks : List NestedKey}, NX acc ks → NX (mergeDN acc (rs.map fun r => (wD (logsF n ws r), D.bl true))) (insAll ks (rs.map fun r => kyL (logsF n ws r)))
  | [], _, _, h => h
  | r :: rs, acc, ks, h => by
    rw [List.map_cons, List.map_cons]
    show NX (mergeDN (match (wD (logsF n ws r)).nk with | some k => putN acc k (wD (logsF n ws r)) (.bl true) | none => acc) _) (insAll (insK ks (kyL (logsF n ws r))) _)
    rw [kyL_nk]
    exact merge_nx (h.put kyL_nk)
theorem rows_of_len {k t : Nat} : (rowsTo k t).filter (fun r => decide ((r.length : Int) = (t : Int))) = wds k t := by
  have all : (wds k t).filter (fun r => decide ((r.length : Int) = (t : Int))) = wds k t := List.filter_eq_self.mpr fun r hr => by
    have := (wds_mem.mp hr).1
    exact decide_eq_true (by omega)
  cases t with
  | zero => exact all
  | succ t =>
    rw [show rowsTo k (t + 1) = rowsTo k t ++ wds k (t + 1) from rfl, List.filter_append, all, List.filter_eq_nil_iff.mpr fun r hr => by
      have := (rowsTo_mem.mp hr).1
      simp
      omega, List.nil_append]
theorem wsok_take {k : Nat} (hk : 1 ≤ k) (h : WsOk n ws) : WsOk n (ws.take k) := by
  obtain ⟨h1, h2, h3, h4, h5⟩ := h
  exact ⟨h1, h2, by rw [List.length_take]; omega, by rw [List.length_take]; omega, fun l hl => h5 l (List.mem_of_mem_take hl)⟩
local macro_rules
  | `(tactic| and_intros) => `(tactic| (try simp only [Zaa, Zab, w_c, Zac, Zad, Zae, Zaf, Zag, Zah, Zai, Zaj, Zak, Zal, Zam, Zan, Zao, Zap, Zaq, Zar, Zas, Zat, Zau, Zav, Zaw, Zax, Zay, Zaz, ZaA, ZaB, ZaC, ZaD, ZaE, ZaF, ZaG, ZaH, ZaI, ZaJ, ZaK, ZaL, ZaM, ZaN, ZaO, ZaP, ZaQ, ZaR, ZaS, ZaT, ZaU, ZaV, ZaW, ZaX, ZaY, ZaZ, Za0, Za1, Za2, Za3, Za4, Za5, Za6, Za7, Za8, Za9, Zba, Zbb, Zbc, Zbd, Zbe, Zbf, Zbg, Zbh, Zbi, Zbj, Zbk, Zbl, Zbm, Zbn, Zbo, Zbp, Zbq, Zbr, Zbs, Zbt, Zbu, Zbv, Zbw, Zbx, Zby, Zbz, ZbA, List.length_cons, List.length_nil, Nat.reduceAdd, Nat.zero_add, ZbB, ZbC, ZbD, ZbE, y_W, ZbF, ZbG, ZbH, ZbI, ZbJ, ZbK, ZbL, ZbM, ZbN, ZbO, ZbP, ZbQ, ZbR, ZbS, sb1, sb2, sb3, sb4, sb5, sb6, sb7, sb8, sb9, ZbT, ZbU, ZbV, ZbW, ZbX, ZbY, ZbZ, Zb0, Zb1, Zb2, Zb3, Zb4, Zb5, Zb6, Zb7, List.map_id, id_eq, BEq.rfl, bne_self_eq_false, Zb8, Zb9, Zca, Zcb, Zcc, Zcd, Zce, Zcf, Zcg, Zch, Zci, Zcj, Zck, Zcl, Zcm, Zcn, Zco, Zcp, Zcq, Zcr, Zcs, Zct, Zcu, Zcv, Zcw, Zcx, Zcy, Zcz, ZcA, ZcB, ZcC, ZcD, true_and, and_true, Bool.and_self, Bool.and_true, Bool.true_and, Bool.not_true, Bool.not_false, Bool.false_eq_true, if_false, if_true, ite_true, ite_false, decide_true, decide_false, reduceIte, w_make, w_par, y_par, w_trg1]))
theorem pure_law_k84 : b_law_k84 lawEnds (List.replicate 10 none) := by
  have hs : 1000000 ≤ sizeLine := by decide
  unfold b_law_k84
  simp only [env0, List.map_cons, List.map_nil, List.length_cons, List.length_nil, List.replicate_succ, List.replicate_zero, List.cons_append, List.nil_append, Nat.reduceSub, Nat.reduceAdd, Nat.zero_add, Zaa, Zab, w_c, Zac, Zad, Zae, Zaf, Zag, Zah, Zai, Zaj, Zak, Zal, Zam, Zan, Zao, Zap, Zaq, Zar, Zas, Zat, Zau, Zav, Zaw, Zax, Zay, Zaz, ZaA, ZaB, ZaC, ZaD, ZaE, ZaF, ZaG, ZaH, ZaI, ZaJ, ZaK, ZaL, ZaM, ZaN, ZaO, ZaP, ZaQ, ZaR, ZaS, ZaT, ZaU, ZaV, ZaW, ZaX, ZaY, ZaZ, Za0, Za1, Za2, Za3, Za4, Za5, Za6, Za7, Za8, Za9, Zba, Zbb, Zbc, Zbd, Zbe, Zbf, Zbg, Zbh, Zbi, Zbj, Zbk, Zbl, Zbm, Zbn, Zbo, Zbp, Zbq, Zbr, Zbs, Zbt, Zbu, Zbv, Zbw, Zbx, Zby, Zbz, ZbA, List.length_cons, List.length_nil, Nat.reduceAdd, Nat.zero_add, ZbB, ZbC, ZbD, ZbE, y_W, ZbF, ZbG, ZbH, ZbI, ZbJ, ZbK, ZbL, ZbM, ZbN, ZbO, ZbP, ZbQ, ZbR, ZbS, sb1, sb2, sb3, sb4, sb5, sb6, sb7, sb8, sb9, ZbT, ZbU, ZbV, ZbW, ZbX, ZbY, ZbZ, Zb0, Zb1, Zb2, Zb3, Zb4, Zb5, Zb6, Zb7, List.map_id, id_eq, BEq.rfl, bne_self_eq_false, Zb8, Zb9, Zca, Zcb, Zcc, Zcd, Zce, Zcf, Zcg, Zch, Zci, Zcj, Zck, Zcl, Zcm, Zcn, Zco, Zcp, Zcq, Zcr, Zcs, Zct, Zcu, Zcv, Zcw, Zcx, Zcy, Zcz, ZcA, ZcB, ZcC, ZcD, true_and, and_true, Bool.and_self, Bool.and_true, Bool.true_and, Bool.not_true, Bool.not_false, Bool.false_eq_true, if_false, if_true, ite_true, ite_false, decide_true, decide_false, reduceIte, w_make, w_par, y_par, w_trg1]
  refine y_rng (by decide) (by decide) ?_
  refine loop_I (fun p s env => ∃ e2 e3 e4 e5 e6 e7 e8 e9, env = [none, none, e2, e3, e4, e5, e6, e7, e8, e9]) _ ⟨_, _, _, _, _, _, _, _, rfl⟩ ?_ ?_
  · rintro p i s env e ⟨e2, e3, e4, e5, e6, e7, e8, e9, rfl⟩
    and_intros
    refine some_parts_ev _ fun d ⟨n, ws, e, h⟩ => ?_
    subst e
    refine made_ev h _ ?_
    refine numbers_ev h _ ?_
    refine apart_lots_ev h _ ?_
    have cl := cntA_len h
    refine same84_ev (by omega) _ ?_
    and_intros
    refine draw_ev (by omega) (by omega) fun t t0 t1 => ?_
    obtain ⟨t, rfl⟩ : ∃ k : Nat, t = (k : Int) := ⟨t.toNat, by omega⟩
    refine many_rows_ev h (by omega) _ ?_
    have sm2 : ∀ k, 0 ≤ (cntA ws).getD k 0 ∧ (cntA ws).getD k 0 ≤ 2 ^ 10 := fun k => by
      have h1 := getD_small (cntA_small (ws := ws)) (by have : (0 : Int) < 2 ^ ws.length := Int.pow_pos (by decide); omega) k
      refine ⟨h1.1, Int.le_trans h1.2 ?_⟩
      have : (2 : Nat) ^ ws.length ≤ 2 ^ 10 := Nat.pow_le_pow_right (by decide) h.2.2.2.1
      have e1 : ((2 : Int) ^ ws.length) = ((2 ^ ws.length : Nat) : Int) := by simp
      rw [e1]
      have e2 : ((2 : Int) ^ 10) = ((2 ^ 10 : Nat) : Int) := by simp
      rw [e2]
      exact Int.ofNat_le.mpr this
    refine by_sums_ev cl.1 cl.2 sm2 (by omega) _ ?_
    refine whole_refl _ ?_
    and_intros
    exact ⟨_, _, _, _, _, _, _, _, rfl⟩
  · rintro env ⟨e2, e3, e4, e5, e6, e7, e8, e9, rfl⟩
    and_intros
    refine parts_ev (by decide) (by decide) _ fun d ⟨n, ws, e, h⟩ => ?_
    subst e
    and_intros
    show slcQ (wD ws) none (some 5) _
    refine y_slW_hi (by decide) ?_
    have hk : WsOk n (ws.take 5) := wsok_take (by decide) h
    have hk5 : (ws.take 5).length ≤ 5 := by rw [List.length_take]; omega
    refine ⟨by omega, ?_⟩
    show rngQ (.int 4) (fun ds => sLoop _ _ ds _ [none, none, e2, some (pD n (ws.take 5)), e4, e5, e6, e7, e8, e9])
    generalize ws.take 5 = us at hk hk5
    refine y_rng (by decide) (by decide) ?_
    refine loop_I (fun p s env => ∃ e6 e7 e8, env = [none, none, e2, some (pD n us), e4, e5, e6, e7, e8, e9]) _ ⟨_, _, _, rfl⟩ ?_ ?_
    · rintro p t s env e ⟨e6, e7, e8, rfl⟩
      have tr : t ∈ rangeI 4 := by rw [← e]; simp
      have tb := mem_rangeI.mp tr
      obtain ⟨t, rfl⟩ : ∃ k : Nat, t = (k : Int) := ⟨t.toNat, by omega⟩
      and_intros
      refine rows_to_ev (by omega) (by omega) _ ?_
      have rl := rowsTo_len (k := us.length) (j := t) (by omega) (by omega)
      have wl : (wds us.length t).length ≤ 100000 := by
        have := List.length_filter_le (fun r => decide ((r.length : Int) = (t : Int))) (rowsTo us.length t)
        rw [rows_of_len] at this
        omega
      and_intros
      refine lc_FT (e := rD) (fun r => decide ((r.length : Int) = (t : Int))) (fun r => r) rD (by omega) (fun r hr R2 N q1 q2 => ?_) ?_
      · and_intros
        split
        · rename_i hh; exact q1 (by simpa using hh)
        · rename_i hh; exact q2 (by simpa using hh)
      · rw [List.map_id', rows_of_len]
        and_intros
        refine lc_M (e := rD) (fun r => r) (fun r => D.tup [wD (logsF n us r), .bl true]) (by omega) (fun r hr R hR => ?_) ?_
        · and_intros
          have rok : RowOk us r := ⟨by have := (wds_mem.mp hr).1; omega, (wds_mem.mp hr).2⟩
          refine lawlogs_ev hk rok _ ?_
          exact ⟨by omega, hR⟩
        · rw [List.map_id']
          refine ⟨(wds us.length t).map fun r => (wD (logsF n us r), D.bl true), by rw [List.map_map]; rfl, fun p hp => ?_, ?_, ?_⟩
          · obtain ⟨r, _, rfl⟩ := List.mem_map.mp hp
            exact ⟨_, kyL_nk, kyL_depth⟩
          · rw [List.map_map]
            generalize wds us.length t = R
            induction R with
            | nil => rfl
            | cons r R ih => rw [List.map_cons, Zce, ih]; rfl
          · have nx := merge_nx (n := n) (ws := us) (rs := wds us.length t) NX.nil
            have un := unlike_rec (t := t) hk hk5 (by omega)
            show m__law_made [pD n us] (fun d => m_many_rows [d, .int (t : Int)] fun d => m__law_whole [d, .int ((mergeDN [] ((wds us.length t).map fun r => (wD (logsF n us r), D.bl true))).length : Nat)] _)
            rw [nx.len, un]
            refine made_ev hk _ ?_
            refine many_rows_ev hk (by omega) _ ?_
            refine whole_refl _ ?_
            and_intros
            exact ⟨_, _, _, rfl⟩
    · rintro env ⟨e6, e7, e8, rfl⟩
      and_intros
      exact known84_ev _ rfl
end
end Pu
set_option Elab.async false
set_option linter.all false
set_option maxRecDepth 100000
set_option synthInstance.maxHeartbeats 0
set_option synthInstance.maxSize 100000
namespace Pu
open PySem PySem.Spec PyProof.Rows L2
end Pu
open PySem PySem.W PyProof.Rows
set_option maxHeartbeats 0 in
theorem PySem.Challenge.cw_latestword_k84_whole_rows_counted_holds : PySem.Challenge.rw_latestword_k84_whole_rows_counted.Holds := by
  w_on; o_law; k_head; (case hw => w_witness2)
  k_fill
  refine L2.walk_of (l := PySem.Challenge.rw_latestword_k84_whole_rows_counted) (n := 63) (k := 10) (x := "script") (CX := fun _ => L2.CX0) (sp := fun w => Pu.spLaw _) rfl (by decide) rfl ⟨rfl, by decide, by decide⟩ (fun w h Y => PySem.W.kIn_of Y) ?F (fun _ _ a ns hl _ hS => ⟨a, ns, rfl, hS, hl, fun _ => rfl⟩) (fun _ _ _ _ _ h => h)
  case F =>
    intro w mg fa h KX G hmg
    refine' Pu.all_mk KX G hmg ?a_is_integer ?l_is_integer ?c_is_integer ?k_is_integer ?a_is_number ?l_is_number ?c_is_number ?k_is_number ?a_is_below ?l_is_below ?c_is_below ?k_is_below ?a_is_lot ?l_is_lot ?c_is_lot ?k_is_lot ?a_are_office_works ?l_are_office_works ?c_are_office_works ?k_are_office_works ?a_works_meet ?l_works_meet ?c_works_meet ?k_works_meet ?a_check_length ?l_check_length ?c_check_length ?k_check_length ?a_lots_apart ?l_lots_apart ?c_lots_apart ?k_lots_apart ?a_apart_lots ?l_apart_lots ?c_apart_lots ?k_apart_lots ?a_many_of_length ?l_many_of_length ?c_many_of_length ?k_many_of_length ?a_many_rows ?l_many_rows ?c_many_rows ?k_many_rows ?a__law_dice ?l__law_dice ?c__law_dice ?k__law_dice ?a__law_draw ?l__law_draw ?c__law_draw ?k__law_draw ?a__law_parts ?l__law_parts ?c__law_parts ?k__law_parts ?a__law_made ?l__law_made ?c__law_made ?k__law_made ?a__law_some_parts ?l__law_some_parts ?c__law_some_parts ?k__law_some_parts ?a__law_meets ?l__law_meets ?c__law_meets ?k__law_meets ?a__law_whole ?l__law_whole ?c__law_whole ?k__law_whole ?a__law_same ?l__law_same ?c__law_same ?k__law_same ?a__law_rows_to ?l__law_rows_to ?c__law_rows_to ?k__law_rows_to ?a__law_logs ?l__law_logs ?c__law_logs ?k__law_logs ?a__law_apart ?l__law_apart ?c__law_apart ?k__law_apart ?a__law_numbers ?l__law_numbers ?c__law_numbers ?k__law_numbers ?a__law_by_sums ?l__law_by_sums ?c__law_by_sums ?k__law_by_sums ?a__law_known_right ?l__law_known_right ?c__law_known_right ?k__law_known_right ?a_law ?l_law ?c_law ?k_law ?a_Office ?i_Office ?j_Office ?l_Office_init ?c_Office_init ?k_Office_init ?pg_Office ?hd_Office ?po_Office ?sa_Office ?mk_Office ?kc_Office ?na_Office_desks ?na_Office_works ?n_abs ?n_all ?n_any ?n_bool ?n_dict ?n_int ?n_isinstance ?n_len ?n_list ?n_max ?n_min ?n_range ?n_sorted ?n_str ?n_tuple ?n_zip ?a_MOST_DESKS ?a_MOST_LENGTH ?a_MOST_WORKS Pu.pure_law_k84
    (case a_is_integer => k_is)
    (case l_is_integer => k_is)
    (case c_is_integer => k_is)
    (case k_is_integer => k_is)
    (case a_is_number => k_is)
    (case l_is_number => k_is)
    (case c_is_number => k_is)
    (case k_is_number => k_is)
    (case a_is_below => k_is)
    (case l_is_below => k_is)
    (case c_is_below => k_is)
    (case k_is_below => k_is)
    (case a_is_lot => k_is)
    (case l_is_lot => k_is)
    (case c_is_lot => k_is)
    (case k_is_lot => k_is)
    (case a_are_office_works => k_is)
    (case l_are_office_works => k_is)
    (case c_are_office_works => k_is)
    (case k_are_office_works => k_is)
    (case a_works_meet => k_is)
    (case l_works_meet => k_is)
    (case c_works_meet => k_is)
    (case k_works_meet => k_is)
    (case a_check_length => k_is)
    (case l_check_length => k_is)
    (case c_check_length => k_is)
    (case k_check_length => k_is)
    (case a_lots_apart => k_is)
    (case l_lots_apart => k_is)
    (case c_lots_apart => k_is)
    (case k_lots_apart => k_is)
    (case a_apart_lots => k_is)
    (case l_apart_lots => k_is)
    (case c_apart_lots => k_is)
    (case k_apart_lots => k_is)
    (case a_many_of_length => k_is)
    (case l_many_of_length => k_is)
    (case c_many_of_length => k_is)
    (case k_many_of_length => k_is)
    (case a_many_rows => k_is)
    (case l_many_rows => k_is)
    (case c_many_rows => k_is)
    (case k_many_rows => k_is)
    (case a__law_dice => k_is)
    (case l__law_dice => k_is)
    (case c__law_dice => k_is)
    (case k__law_dice => k_is)
    (case a__law_draw => k_is)
    (case l__law_draw => k_is)
    (case c__law_draw => k_is)
    (case k__law_draw => k_is)
    (case a__law_parts => k_is)
    (case l__law_parts => k_is)
    (case c__law_parts => k_is)
    (case k__law_parts => k_is)
    (case a__law_made => k_is)
    (case l__law_made => k_is)
    (case c__law_made => k_is)
    (case k__law_made => k_is)
    (case a__law_some_parts => k_is)
    (case l__law_some_parts => k_is)
    (case c__law_some_parts => k_is)
    (case k__law_some_parts => k_is)
    (case a__law_meets => k_is)
    (case l__law_meets => k_is)
    (case c__law_meets => k_is)
    (case k__law_meets => k_is)
    (case a__law_whole => k_is)
    (case l__law_whole => k_is)
    (case c__law_whole => k_is)
    (case k__law_whole => k_is)
    (case a__law_same => k_is)
    (case l__law_same => k_is)
    (case c__law_same => k_is)
    (case k__law_same => k_is)
    (case a__law_rows_to => k_is)
    (case l__law_rows_to => k_is)
    (case c__law_rows_to => k_is)
    (case k__law_rows_to => k_is)
    (case a__law_logs => k_is)
    (case l__law_logs => k_is)
    (case c__law_logs => k_is)
    (case k__law_logs => k_is)
    (case a__law_apart => k_is)
    (case l__law_apart => k_is)
    (case c__law_apart => k_is)
    (case k__law_apart => k_is)
    (case a__law_numbers => k_is)
    (case l__law_numbers => k_is)
    (case c__law_numbers => k_is)
    (case k__law_numbers => k_is)
    (case a__law_by_sums => k_is)
    (case l__law_by_sums => k_is)
    (case c__law_by_sums => k_is)
    (case k__law_by_sums => k_is)
    (case a__law_known_right => k_is)
    (case l__law_known_right => k_is)
    (case c__law_known_right => k_is)
    (case k__law_known_right => k_is)
    (case a_law => k_is)
    (case l_law => k_is)
    (case c_law => k_is)
    (case k_law => k_is)
    (case a_Office => k_is)
    (case i_Office => k_is)
    (case j_Office => k_is)
    (case l_Office_init => k_is)
    (case c_Office_init => k_is)
    (case k_Office_init => k_is)
    (case pg_Office => k_is)
    (case hd_Office => k_is)
    (case po_Office => k_is)
    (case sa_Office => k_is)
    (case mk_Office => k_is)
    (case kc_Office => k_is)
    (case na_Office_desks => k_is)
    (case na_Office_works => k_is)
    (case n_abs => k_is)
    (case n_all => k_is)
    (case n_any => k_is)
    (case n_bool => k_is)
    (case n_dict => k_is)
    (case n_int => k_is)
    (case n_isinstance => k_is)
    (case n_len => k_is)
    (case n_list => k_is)
    (case n_max => k_is)
    (case n_min => k_is)
    (case n_range => k_is)
    (case n_sorted => k_is)
    (case n_str => k_is)
    (case n_tuple => k_is)
    (case n_zip => k_is)
    (case a_MOST_DESKS => k_is)
    (case a_MOST_LENGTH => k_is)
    (case a_MOST_WORKS => k_is)
