import PyProof.Rows.All
import Wide.All
import OpenK.AllK
import Wide.FinOn
import HandS.ForMost
import HandS.Evl
import KE.KeyNested
import HandS.TupAny
import HandS.TupLe
import HandS.Wide
import HandS.Deep
import HandS.Zip
import HandS.Conv
import HandS.SortInts
import HandS.IsInst
import HandS.More
import PyProof.Rows.TupDisplay
import KE.KDictDisplayH
import KE.GoesMore
import HandS.SortRule
import HandS.TupLen
import HandS.WordsDict
import HandS.SetFor
import HandS.Strs
import KE.DatumOrd
import HandS.TupMul
import KE.KDictZip
import PyProof.ListNew
import HandS.NamedTupSort
import KE.DataMinKey
import KE.DataMinMax
import Flt.Ops
import HandS.DictComp
import HandS.Style
import HandS.Defaults
import KE.KDictPairs
import HandS.Dict
import KE.KDictKeyed
import PyProof.DictFindH
import PyProof.DictRoadsH
import PyProof.MeetsDict
import HandS.TryOnly
import HandS.TupSets
import HandS.OwnEq
import PyProof.InstEq
import HandS.RaiseMore
import PySem.Challenge.RW_latestword_k42_whole_standings_and_numbe
set_option Elab.async false
set_option linter.all false
set_option maxRecDepth 100000
namespace Pu
open PySem PySem.Spec PyProof.Rows L2
inductive D where
  | non
  | bl (b : Bool)
  | int (i : Int)
  | str (x : Str)
  | tup (xs : List D)
  | lst (xs : List D)
  | dK (kvs : List (Key × D))
  | dT (kvs : List (List Key × D))
  | obj (c : Nat) (fs : List (Str × D))
  | fz (c : Nat) (fs : List (Str × D))
  | dN (kvs : List (D × D))
mutual
def D.nk : D → Option PySem.NestedKey
  | .non => some .none
  | .bl b => some (.num (if b = true then 1 else 0))
  | .int i => some (.num i)
  | .tup xs => match nkL xs with
    | some ks => some (.tup ks)
    | none => none
  | .str _ => none
  | .lst _ => none
  | .dK _ => none
  | .dT _ => none
  | .obj _ _ => none
  | .fz _ _ => none
  | .dN _ => none
def nkL : List D → Option (List PySem.NestedKey)
  | [] => some []
  | d :: ds => match D.nk d, nkL ds with
    | some k, some ks => some (k :: ks)
    | _, _ => none
end
structure NE where
  k : PySem.NestedKey
  key : V
  val : V
def NDict (a : Addr) (xs : List NE) (h : Heap) : Prop := (a == sysModules) = false ∧ (xs.map NE.k).Nodup ∧ xs.length ≤ sizeLine ∧
  ∃ o es ep, h.get? a = some o ∧ o.ExactDict ∧ o.data = .dict es ep ∧ Paired (fun (x : NE) (e : DictEntry) => (∀ w : World, e.hash = x.k.hash w) ∧ RelV x.key e.key ∧ RelV x.val e.val) xs es.toList
def hN (a : Addr) (xs : List NE) : HO := .ext (NDict a xs)
def fzNames : List (List Str) := [["desks", "works"], ["office", "telling", "steps"]]
def Fz (ns : List Str) : Bool := fzNames.contains ns
mutual
def D.imm : D → Bool
  | .tup xs => immL xs
  | .lst _ => false
  | .dK _ => false
  | .dT _ => false
  | .dN _ => false
  | .obj _ _ => false
  | .fz _ fs => immF fs
  | _ => true
def immL : List D → Bool
  | [] => true
  | d :: ds => D.imm d && immL ds
def immF : List (Str × D) → Bool
  | [] => true
  | (_, d) :: ds => D.imm d && immF ds
end
theorem immF_eq : ∀ fs : List (Str × D), immF fs = immL (fs.map (·.2))
  | [] => rfl
  | (_, d) :: ds => by
    show (D.imm d && immF ds) = (D.imm d && immL (ds.map (·.2)))
    rw [immF_eq ds]
mutual
inductive Rp (CT : Nat → Addr) (H : Hp) : V → D → List Addr → Prop
  | non : Rp CT H .non .non []
  | bl (b : Bool) : Rp CT H (.bl b) (.bl b) []
  | int (i : Int) : Rp CT H (.int i) (.int i) []
  | str (x : Str) : Rp CT H (.str x) (.str x) []
  | tup {a : Addr} {vs : List V} {ds : List D} {F : List Addr} : H a = some (.tup vs) → Rps CT H vs ds F → Rp CT H (.ref a) (.tup ds) F
  | lst {a : Addr} {vs : List V} {ds : List D} {F : List Addr} : H a = some (.lst vs) → Rps CT H vs ds F → Rp CT H (.ref a) (.lst ds) (a :: F)
  | dK {a : Addr} {kvs : List (Key × V)} {kds : List (Key × D)} {F : List Addr} : H a = some (.dK kvs) → kvs.map (·.1) = kds.map (·.1) → Rps CT H (kvs.map (·.2)) (kds.map (·.2)) F → Rp CT H (.ref a) (.dK kds) (a :: F)
  | dT {a : Addr} {kvs : List (List Key × V)} {kds : List (List Key × D)} {F : List Addr} : H a = some (.dT kvs) → kvs.map (·.1) = kds.map (·.1) → Rps CT H (kvs.map (·.2)) (kds.map (·.2)) F → Rp CT H (.ref a) (.dT kds) (a :: F)
  | obj {a dx : Addr} {c : Nat} {fs : List (Str × V)} {gs : List (Str × D)} {F : List Addr} : H a = some (.ins (CT c) dx fs) → fs.map (·.1) = gs.map (·.1) → Rps CT H (fs.map (·.2)) (gs.map (·.2)) F → Rp CT H (.ref a) (.obj c gs) (a :: F)
  | fz {a dx : Addr} {c : Nat} {fs : List (Str × V)} {gs : List (Str × D)} {F : List Addr} : H a = some (.ins (CT c) dx fs) → Fz (fs.map (·.1)) = true → fs.map (·.1) = gs.map (·.1) → Rps CT H (fs.map (·.2)) (gs.map (·.2)) F → Rp CT H (.ref a) (.fz c gs) F
  | dN {a : Addr} {xs : List NE} {kds : List (D × D)} {F : List Addr} : H a = some (hN a xs) → xs.map (fun x => some x.k) = kds.map (fun kd => D.nk kd.1) → (∀ x ∈ xs, x.k.depth ≤ 8) → Rps CT H (xs.map NE.key) (kds.map (·.1)) [] → Rps CT H (xs.map NE.val) (kds.map (·.2)) F → Rp CT H (.ref a) (.dN kds) (a :: F)
inductive Rps (CT : Nat → Addr) (H : Hp) : List V → List D → List Addr → Prop
  | nil : Rps CT H [] [] []
  | cons {v : V} {d : D} {F G : List Addr} {vs : List V} {ds : List D} : Rp CT H v d F → Rps CT H vs ds G → Rps CT H (v :: vs) (d :: ds) (F ++ G)
end
def Im : HO → Bool
  | .tup _ => true
  | .frz _ _ => true
  | .ins _ _ fs => Fz (fs.map (·.1))
  | _ => false
structure Fr (W : Addr → Prop) (H H' : Hp) : Prop where
  keep : ∀ a o, H a = some o → ¬ W a → H' a = some o
  im : ∀ a o, H a = some o → Im o = true → H' a = some o
  there : ∀ a, H' a = none → H a = none
section
variable {W W' : Addr → Prop} {H H' H1 H2 : Hp} {CT : Nat → Addr} {v : V} {vs : List V} {d : D} {ds : List D} {F : List Addr}
theorem Fr.refl : Fr W H H := ⟨fun _ _ h _ => h, fun _ _ h _ => h, fun _ h => h⟩
theorem Fr.trans (a : Fr W H H1) (b : Fr W H1 H2) : Fr W H H2 :=
  ⟨fun x o h n => b.keep x o (a.keep x o h n) n, fun x o h n => b.im x o (a.im x o h n) n, fun x h => a.there x (b.there x h)⟩
theorem Fr.mono (a : Fr W H H1) (h : ∀ x, W x → W' x) : Fr W' H H1 := ⟨fun x o e n => a.keep x o e fun w => n (h x w), a.im, a.there⟩
theorem Fr.new {p : Addr} {o : HO} (h : H p = none) : Fr W H (upd H p o) := by
  refine ⟨fun a u e _ => ?_, fun a u e _ => ?_, fun a e => ?_⟩
  · rw [upd_ne (ne_of_none e h)]; exact e
  · rw [upd_ne (ne_of_none e h)]; exact e
  · by_cases q : a = p
    · rw [q]; exact h
    · rw [upd_ne q] at e; exact e
theorem Fr.at {p : Addr} {o u : HO} (w : W p) (h : H p = some u) (i : Im u = false) : Fr W H (upd H p o) := by
  refine ⟨fun a x e n => ?_, fun a x e n => ?_, fun a e => ?_⟩
  · rw [upd_ne (fun q => n (by rw [q]; exact w))]; exact e
  · rw [upd_ne (fun q => by subst q; rw [h] at e; cases e; rw [i] at n; cases n)]; exact e
  · by_cases q : a = p
    · rw [q, upd_same] at e; cases e
    · rw [upd_ne q] at e; exact e
theorem Fr.some_of (a : Fr W H H1) {x : Addr} (h : H x ≠ none) : H1 x ≠ none := fun e => h (a.there x e)
mutual
theorem Rp.keep : ∀ {v : V} {d : D} {F : List Addr}, Rp CT H v d F → Fr W H H' → (∀ a ∈ F, ¬ W a) → Rp CT H' v d F
  | _, _, _, .non, _, _ => .non
  | _, _, _, .bl b, _, _ => .bl b
  | _, _, _, .int b, _, _ => .int b
  | _, _, _, .str b, _, _ => .str b
  | _, _, _, .tup h r, f, n => .tup (f.im _ _ h rfl) (Rps.keep r f n)
  | _, _, _, .lst h r, f, n => .lst (f.keep _ _ h (n _ List.mem_cons_self)) (Rps.keep r f fun a m => n a (List.mem_cons_of_mem _ m))
  | _, _, _, .dK h k r, f, n => .dK (f.keep _ _ h (n _ List.mem_cons_self)) k (Rps.keep r f fun a m => n a (List.mem_cons_of_mem _ m))
  | _, _, _, .dT h k r, f, n => .dT (f.keep _ _ h (n _ List.mem_cons_self)) k (Rps.keep r f fun a m => n a (List.mem_cons_of_mem _ m))
  | _, _, _, .obj h k r, f, n => .obj (f.keep _ _ h (n _ List.mem_cons_self)) k (Rps.keep r f fun a m => n a (List.mem_cons_of_mem _ m))
  | _, _, _, .fz h z k r, f, n => .fz (f.im _ _ h z) z k (Rps.keep r f n)
  | _, _, _, .dN h k z r1 r, f, n => .dN (f.keep _ _ h (n _ List.mem_cons_self)) k z (Rps.keep r1 f fun _ m => nomatch m) (Rps.keep r f fun a m => n a (List.mem_cons_of_mem _ m))
theorem Rps.keep : ∀ {vs : List V} {ds : List D} {F : List Addr}, Rps CT H vs ds F → Fr W H H' → (∀ a ∈ F, ¬ W a) → Rps CT H' vs ds F
  | _, _, _, .nil, _, _ => .nil
  | _, _, _, .cons h r, f, n => .cons (Rp.keep h f fun a m => n a (List.mem_append_left _ m)) (Rps.keep r f fun a m => n a (List.mem_append_right _ m))
end
mutual
theorem Rp.tracked : ∀ {v : V} {d : D} {F : List Addr}, Rp CT H v d F → ∀ a ∈ F, H a ≠ none
  | _, _, _, .non, a, m => absurd m (by simp)
  | _, _, _, .bl b, a, m => absurd m (by simp)
  | _, _, _, .int b, a, m => absurd m (by simp)
  | _, _, _, .str b, a, m => absurd m (by simp)
  | _, _, _, .tup h r, a, m => Rps.tracked r a m
  | _, _, _, .lst h r, a, m => by
    rcases List.mem_cons.mp m with e | m
    · rw [e, h]; exact fun z => nomatch z
    · exact Rps.tracked r a m
  | _, _, _, .dK h _ r, a, m => by
    rcases List.mem_cons.mp m with e | m
    · rw [e, h]; exact fun z => nomatch z
    · exact Rps.tracked r a m
  | _, _, _, .dT h _ r, a, m => by
    rcases List.mem_cons.mp m with e | m
    · rw [e, h]; exact fun z => nomatch z
    · exact Rps.tracked r a m
  | _, _, _, .obj h _ r, a, m => by
    rcases List.mem_cons.mp m with e | m
    · rw [e, h]; exact fun z => nomatch z
    · exact Rps.tracked r a m
  | _, _, _, .fz h _ _ r, a, m => Rps.tracked r a m
  | _, _, _, .dN h _ _ _ r, a, m => by
    rcases List.mem_cons.mp m with e | m
    · rw [e, h]; exact fun z => nomatch z
    · exact Rps.tracked r a m
theorem Rps.tracked : ∀ {vs : List V} {ds : List D} {F : List Addr}, Rps CT H vs ds F → ∀ a ∈ F, H a ≠ none
  | _, _, _, .nil, a, m => absurd m (by simp)
  | _, _, _, .cons h r, a, m => by
    rcases List.mem_append.mp m with m | m
    · exact Rp.tracked h a m
    · exact Rps.tracked r a m
end
mutual
theorem Rp.imm : ∀ {v : V} {d : D} {F : List Addr}, Rp CT H v d F → d.imm = true → F = []
  | _, _, _, .non, _ => rfl
  | _, _, _, .bl b, _ => rfl
  | _, _, _, .int b, _ => rfl
  | _, _, _, .str b, _ => rfl
  | _, _, _, .tup h r, e => Rps.imm r (by simpa [D.imm] using e)
  | _, _, _, .lst h r, e => by simp [D.imm] at e
  | _, _, _, .dK h _ r, e => by simp [D.imm] at e
  | _, _, _, .dT h _ r, e => by simp [D.imm] at e
  | _, _, _, .obj h _ r, e => by simp [D.imm] at e
  | _, _, _, .fz h _ _ r, e => Rps.imm r (by rw [← immF_eq]; simpa [D.imm] using e)
  | _, _, _, .dN _ _ _ _ r, e => by simp [D.imm] at e
theorem Rps.imm : ∀ {vs : List V} {ds : List D} {F : List Addr}, Rps CT H vs ds F → immL ds = true → F = []
  | _, _, _, .nil, _ => rfl
  | _, _, _, .cons h r, e => by
    simp [immL] at e
    rw [Rp.imm h e.1, Rps.imm r e.2]
    rfl
end
theorem Rps.length : ∀ {vs : List V} {ds : List D} {F : List Addr}, Rps CT H vs ds F → vs.length = ds.length
  | _, _, _, .nil => rfl
  | _, _, _, .cons _ r => by simp [Rps.length r]
theorem Rps.get : ∀ {vs : List V} {ds : List D} {F : List Addr} {j : Nat} {d : D}, Rps CT H vs ds F → ds[j]? = some d → ∃ v G, vs[j]? = some v ∧ Rp CT H v d G ∧ G.Sublist F
  | _, _, _, _, _, .nil, e => by simp at e
  | _, _, _, 0, _, .cons (F := F) h r, e => by
    simp at e; subst e
    exact ⟨_, _, rfl, h, List.sublist_append_left _ _⟩
  | _, _, _, j + 1, _, .cons h r, e => by
    obtain ⟨v, G, h1, h2, h3⟩ := Rps.get (j := j) r (by simpa using e)
    exact ⟨v, G, by simpa using h1, h2, h3.trans (List.sublist_append_right _ _)⟩
theorem Rps.append : ∀ {vs : List V} {ds : List D} {F : List Addr} {ws : List V} {es : List D} {G : List Addr}, Rps CT H vs ds F → Rps CT H ws es G → Rps CT H (vs ++ ws) (ds ++ es) (F ++ G)
  | _, _, _, _, _, _, .nil, s => s
  | _, _, _, _, _, _, .cons h r, s => by
    rw [List.append_assoc]
    exact .cons h (Rps.append r s)
theorem Rps.of_imm : ∀ {vs : List V} {ds : List D}, vs.length = ds.length → (∀ (j : Nat) (v : V) (d : D), vs[j]? = some v → ds[j]? = some d → Rp CT H v d []) → Rps CT H vs ds []
  | [], [], _, _ => .nil
  | v :: vs, d :: ds, l, h => by
    have := Rps.cons (h 0 v d rfl rfl) (Rps.of_imm (vs := vs) (ds := ds) (by simpa using l) fun j v' d' e1 e2 => h (j + 1) v' d' (by simpa using e1) (by simpa using e2))
    simpa using this
  | [], _ :: _, l, _ => by simp at l
  | _ :: _, [], l, _ => by simp at l
theorem Rps.at (r : Rps CT H vs ds []) {j : Nat} {v : V} {d : D} (e1 : vs[j]? = some v) (e2 : ds[j]? = some d) : Rp CT H v d [] := by
  obtain ⟨v', G, h1, h2, h3⟩ := r.get e2
  rw [e1] at h1; cases h1
  rw [List.sublist_nil.mp h3] at h2
  exact h2
theorem Rps.take (r : Rps CT H vs ds []) (n : Nat) : Rps CT H (vs.take n) (ds.take n) [] := by
  refine Rps.of_imm (by simp [r.length]) fun j v d e1 e2 => ?_
  rw [List.getElem?_take] at e1 e2
  split at e1
  · rename_i hj
    rw [if_pos hj] at e2
    exact r.at e1 e2
  · cases e1
theorem Rps.drop (r : Rps CT H vs ds []) (n : Nat) : Rps CT H (vs.drop n) (ds.drop n) [] := by
  refine Rps.of_imm (by simp [r.length]) fun j v d e1 e2 => ?_
  rw [List.getElem?_drop] at e1 e2
  exact r.at e1 e2
end
end Pu
set_option Elab.async false
set_option linter.all false
set_option maxRecDepth 100000
namespace Pu
open PySem PySem.Spec PyProof.Rows L2
structure Stat where
  CT : Nat → Addr
  DQ : Addr × Addr → HO → HO → Prop
structure Cfg extends Stat where
  q : Option (Addr × Addr)
  pin : List (Nat × V)
def Free (C : Cfg) (i : Nat) : Prop := i ∉ C.pin.map (·.1)
structure Dice (DQ : Addr × Addr → HO → HO → Prop) (H : Hp) (p : Addr × Addr) : Prop where
  ex : ∃ o u, H p.1 = some o ∧ H p.2 = some u ∧ DQ p o u
theorem Dice.t1 {DQ : Addr × Addr → HO → HO → Prop} {H : Hp} {p : Addr × Addr} (x : Dice DQ H p) : H p.1 ≠ none := fun z => by
  obtain ⟨o, u, h1, h2, _⟩ := x.ex
  rw [z] at h1; cases h1
theorem Dice.t2 {DQ : Addr × Addr → HO → HO → Prop} {H : Hp} {p : Addr × Addr} (x : Dice DQ H p) : H p.2 ≠ none := fun z => by
  obtain ⟨o, u, h1, h2, _⟩ := x.ex
  rw [z] at h2; cases h2
inductive Mo where
  | o | f | x | q
  deriving DecidableEq
inductive Kd where
  | own | al (S : List Nat)
def Kd.set : Kd → List Nat
  | .own => []
  | .al S => S
def Kd.j : Kd → Kd → Kd
  | .own, .own => .own
  | a, b => .al (a.set ++ b.set)
abbrev PEnv := List (Option D)
abbrev X1 := PEnv → (D → Prop) → Prop
abbrev XB := PEnv → (Bool → Prop) → Prop
abbrev XL := PEnv → (List D → Prop) → Prop
structure PEnds where
  nx : PEnv → Prop
  rt : D → Prop
  bk : PEnv → Prop := fun _ => False
  ct : PEnv → Prop := fun _ => False
abbrev XS := PEnds → PEnv → Prop
def Wq (C : Cfg) : Addr → Prop := fun a => ∃ p, C.q = some p ∧ (a = p.1 ∨ a = p.2)
def DiceOk (C : Cfg) (H : Hp) : Prop := ∀ p, C.q = some p → Dice C.DQ H p
def NoQ (C : Cfg) (F : List Addr) : Prop := ∀ p, C.q = some p → p.1 ∉ F ∧ p.2 ∉ F
theorem NoQ.wq {C : Cfg} {F : List Addr} (n : NoQ C F) : ∀ a ∈ F, ¬ Wq C a := fun a m ⟨p, e, ea⟩ => by
  rcases ea with ea | ea
  · exact (n p e).1 (ea ▸ m)
  · exact (n p e).2 (ea ▸ m)
theorem NoQ.nil {C : Cfg} : NoQ C [] := fun _ _ => by simp
theorem NoQ.app {C : Cfg} {F G : List Addr} (a : NoQ C F) (b : NoQ C G) : NoQ C (F ++ G) := fun p e => ⟨fun m => (List.mem_append.mp m).elim (a p e).1 (b p e).1, fun m => (List.mem_append.mp m).elim (a p e).2 (b p e).2⟩
theorem NoQ.sub {C : Cfg} {F G : List Addr} (a : NoQ C F) (s : G.Sublist F) : NoQ C G := fun p e => ⟨fun m => (a p e).1 (s.mem m), fun m => (a p e).2 (s.mem m)⟩
theorem NoQ.new {C : Cfg} {F : List Addr} {H0 : Hp} (dk : DiceOk C H0) (h : ∀ a ∈ F, H0 a = none) : NoQ C F := fun p e => ⟨fun m => (dk p e).t1 (h _ m), fun m => (dk p e).t2 (h _ m)⟩
theorem wq_there {C : Cfg} {H : Hp} {a : Addr} (dk : DiceOk C H) (w : Wq C a) : H a ≠ none := by
  obtain ⟨p, e, ea⟩ := w
  rcases ea with ea | ea
  · rw [ea]; exact (dk p e).t1
  · rw [ea]; exact (dk p e).t2
def live (m : Mo) : Prop := m = .o ∨ m = .f
structure Ok (C : Cfg) (Γ : List Mo) (σ : L2.St) (H : Hp) (env : PEnv) (Fs : Nat → List Addr) : Prop where
  le : env.length = Γ.length
  ls : σ.length = Γ.length
  val : ∀ (i : Nat) (m : Mo), Γ[i]? = some m → live m → ∃ v d, σ[i]? = some (some v) ∧ env[i]? = some (some d) ∧ Rp C.CT H v d (Fs i)
  dice : ∀ i : Nat, Γ[i]? = some .q → ∃ p, C.q = some p ∧ σ[i]? = some (some (.ref p.1))
  nd : ∀ i : Nat, Γ[i]? = some .o → (Fs i).Nodup
  dj : ∀ (i j : Nat) (m : Mo), Γ[i]? = some .o → Γ[j]? = some m → live m → i ≠ j → ∀ a ∈ Fs i, a ∉ Fs j
  nq : ∀ (i : Nat) (m : Mo), Γ[i]? = some m → live m → NoQ C (Fs i)
  dk : DiceOk C H
  pn : ∀ p ∈ C.pin, σ[p.1]? = some (some p.2)
section
variable {C : Cfg} {Γ Γ' Γl Γ1 : List Mo} {σ σ' : L2.St} {H H' H1 H2 : Hp} {env env' : PEnv} {Fs Fs' : Nat → List Addr} {v : V} {d : D} {F G : List Addr}
theorem Ok.step (I : Ok C Γ σ H env Fs) (f : Fr (Wq C) H H') (dk : DiceOk C H') : Ok C Γ σ H' env Fs := by
  refine ⟨I.le, I.ls, fun i m h l => ?_, I.dice, I.nd, I.dj, I.nq, dk, I.pn⟩
  obtain ⟨v, d, h1, h2, h3⟩ := I.val i m h l
  exact ⟨v, d, h1, h2, h3.keep f (I.nq i m h l).wq⟩
theorem DiceOk.keep (x : DiceOk C H) (f : Fr (fun _ => False) H H') : DiceOk C H' := fun p e => by
  obtain ⟨o, u, h1, h2, r⟩ := (x p e).ex
  exact ⟨o, u, f.keep _ _ h1 (fun z => z), f.keep _ _ h2 (fun z => z), r⟩
theorem Fr.wq {W : Addr → Prop} (f : Fr (fun _ => False) H H') : Fr W H H' := f.mono fun _ z => z.elim
def KdOk (C : Cfg) (Γ : List Mo) (Fs : Nat → List Addr) (H0 : Hp) (A : Kd) (F : List Addr) : Prop :=
  NoQ C F ∧ match A with
    | .own => F.Nodup ∧ ∀ a ∈ F, H0 a = none
    | .al S => ∀ a ∈ F, ∀ i : Nat, Γ[i]? = some .o → a ∈ Fs i → i ∈ S
theorem KdOk.own_nil {H0 : Hp} : KdOk C Γ Fs H0 .own [] := ⟨NoQ.nil, List.nodup_nil, fun _ h => nomatch h⟩
theorem KdOk.nil {H0 : Hp} {A : Kd} : KdOk C Γ Fs H0 A [] := ⟨NoQ.nil, by cases A <;> simp⟩
theorem KdOk.set {H0 : Hp} {A : Kd} (I : Ok C Γ σ H0 env Fs) (k : KdOk C Γ Fs H0 A F) : ∀ a ∈ F, ∀ i : Nat, Γ[i]? = some .o → a ∈ Fs i → i ∈ A.set := fun a m i g b => by
  cases A with
  | own =>
    obtain ⟨v, d, _, _, r⟩ := I.val i _ g (.inl rfl)
    exact absurd (k.2.2 a m) (r.tracked a b)
  | al S => exact k.2 a m i g b
theorem KdOk.al {H0 : Hp} {A : Kd} (I : Ok C Γ σ H0 env Fs) (k : KdOk C Γ Fs H0 A F) : KdOk C Γ Fs H0 (.al A.set) F := ⟨k.1, k.set I⟩
theorem KdOk.sub {H0 : Hp} {A : Kd} (k : KdOk C Γ Fs H0 A F) (s : G.Sublist F) : KdOk C Γ Fs H0 A G := by
  refine ⟨k.1.sub s, ?_⟩
  cases A with
  | own => exact ⟨k.2.1.sublist s, fun a m => k.2.2 a (s.mem m)⟩
  | al S => exact fun a m => k.2 a (s.mem m)
theorem KdOk.j {A B : Kd} (I : Ok C Γ σ H env Fs) (f : Fr (Wq C) H H1) (r : ∀ a ∈ F, H1 a ≠ none) (k : KdOk C Γ Fs H A F) (k' : KdOk C Γ Fs H1 B G) (I1 : Ok C Γ σ H1 env Fs) : KdOk C Γ Fs H (A.j B) (F ++ G) := by
  refine ⟨k.1.app k'.1, ?_⟩
  have al : ∀ a ∈ F ++ G, ∀ i : Nat, Γ[i]? = some .o → a ∈ Fs i → i ∈ A.set ++ B.set := fun a m i g b => by
    rcases List.mem_append.mp m with m | m
    · exact List.mem_append_left _ (k.set I a m i g b)
    · exact List.mem_append_right _ (k'.set I1 a m i g b)
  cases A with
  | own =>
    cases B with
    | own =>
      refine ⟨List.nodup_append.mpr ⟨k.2.1, k'.2.1, fun a m b m' e => ?_⟩, fun a m => ?_⟩
      · subst e
        exact r a m (k'.2.2 a m')
      · rcases List.mem_append.mp m with m | m
        · exact k.2.2 a m
        · exact f.there a (k'.2.2 a m)
    | al S => exact al
  | al S => cases B <;> exact al
def Mono {α : Type} (m : PEnv → (α → Prop) → Prop) : Prop := ∀ env Q Q', (∀ d, Q d → Q' d) → m env Q → m env Q'
structure Sim (C : Cfg) (Γ : List Mo) (t : TE) (A : Kd) (m : X1) : Prop where
  run : ∀ (σ : L2.St) (H : Hp) (env : PEnv) (Fs : Nat → List Addr) (Q : VK), Ok C Γ σ H env Fs →
    m env (fun d => ∀ v H' F, Fr (Wq C) H H' → DiceOk C H' → Rp C.CT H' v d F → KdOk C Γ Fs H A F → Q v H') → t σ H Q
  mono : Mono m
structure SimT (C : Cfg) (Γ : List Mo) (t : TT) (m : XB) : Prop where
  run : ∀ (σ : L2.St) (H : Hp) (env : PEnv) (Fs : Nat → List Addr) (Q : Bool → Hp → Prop), Ok C Γ σ H env Fs →
    m env (fun b => ∀ H', Fr (Wq C) H H' → DiceOk C H' → Q b H') → t σ H Q
  mono : Mono m
structure SimL (C : Cfg) (Γ : List Mo) (t : TA) (A : Kd) (m : XL) : Prop where
  run : ∀ (σ : L2.St) (H : Hp) (env : PEnv) (Fs : Nat → List Addr) (Q : List V → Hp → Prop), Ok C Γ σ H env Fs →
    m env (fun ds => ∀ vs H' F, Fr (Wq C) H H' → DiceOk C H' → Rps C.CT H' vs ds F → KdOk C Γ Fs H A F → Q vs H') → t σ H Q
  mono : Mono m
def xVar (i : Nat) : X1 := fun env Q => match env[i]? with
  | some (some d) => Q d
  | _ => False
theorem mono_var {i : Nat} : Mono (xVar i) := fun env Q Q' h q => by
  unfold xVar at q ⊢
  split at q
  · exact h _ q
  · exact q
theorem sim_var {i : Nat} {m : Mo} (g : Γ[i]? = some m) (l : live m) : Sim C Γ (tVar i) (.al [i]) (xVar i) := ⟨fun σ H env Fs Q I h => by
  obtain ⟨v, d, h1, h2, h3⟩ := I.val i m g l
  unfold xVar at h
  rw [h2] at h
  refine ⟨v, h1, h v H (Fs i) Fr.refl I.dk h3 ⟨I.nq i m g l, fun a ma j gj b => ?_⟩⟩
  by_cases e : j = i
  · simp [e]
  · exact absurd ma (I.dj j i m gj g l e a b), mono_var⟩
theorem sim_varF {i : Nat} (g : Γ[i]? = some .f) : Sim C Γ (tVar i) (.al []) (xVar i) := ⟨fun σ H env Fs Q I h => by
  obtain ⟨v, d, h1, h2, h3⟩ := I.val i _ g (.inr rfl)
  unfold xVar at h
  rw [h2] at h
  refine ⟨v, h1, h v H (Fs i) Fr.refl I.dk h3 ⟨I.nq i _ g (.inr rfl), fun a ma j gj b => ?_⟩⟩
  by_cases e : j = i
  · rw [e, g] at gj; cases gj
  · exact absurd ma (I.dj j i _ gj g (.inr rfl) e a b), mono_var⟩
theorem sim_varO {i : Nat} (g : Γ[i]? = some .o) : Sim C Γ (tVar i) (.al [i]) (xVar i) := sim_var g (.inl rfl)
def xC (d : D) : X1 := fun _ Q => Q d
theorem mono_c {d : D} : Mono (xC d) := fun _ _ _ h q => h _ q
theorem sim_int {i : Int} : Sim C Γ (tC (.int i)) .own (xC (.int i)) := ⟨fun σ H env Fs Q I h => h _ H [] Fr.refl I.dk (.int i) KdOk.own_nil, mono_c⟩
theorem sim_bl {b : Bool} : Sim C Γ (tC (.bl b)) .own (xC (.bl b)) := ⟨fun σ H env Fs Q I h => h _ H [] Fr.refl I.dk (.bl b) KdOk.own_nil, mono_c⟩
def xImm (m : X1) : X1 := fun env Q => m env fun d => d.imm = true ∧ Q d
theorem sim_imm {t : TE} {A : Kd} {m : X1} (s : Sim C Γ t A m) : Sim C Γ t .own (xImm m) := ⟨fun σ H env Fs Q I h => s.run σ H env Fs Q I (s.mono env _ _ (fun d ⟨e, k⟩ v H' F f dk r _ => by
  obtain rfl := r.imm e
  exact k v H' [] f dk r KdOk.own_nil) h), fun env Q Q' h q => s.mono env _ _ (fun d ⟨e, k⟩ => ⟨e, h d k⟩) q⟩
def xNil : XL := fun _ Q => Q []
def xCons (m : X1) (r : XL) : XL := fun env Q => m env fun d => r env fun ds => Q (d :: ds)
theorem siml_nil : SimL C Γ tNil .own xNil := ⟨fun σ H env Fs Q I h => h [] H [] Fr.refl I.dk .nil KdOk.own_nil, fun _ _ _ h q => h _ q⟩
theorem siml_cons {t : TE} {ts : TA} {A B : Kd} {m : X1} {r : XL} (s : Sim C Γ t A m) (s' : SimL C Γ ts B r) : SimL C Γ (tCons t ts) (A.j B) (xCons m r) :=
  ⟨fun σ H env Fs Q I h => s.run σ H env Fs _ I (s.mono env _ _ (fun d q v H1 F f1 dk1 r1 k1 => s'.run σ H1 env Fs _ (I.step f1 dk1) (s'.mono env _ _ (fun ds q vs H2 G f2 dk2 r2 k2 =>
    q (v :: vs) H2 (F ++ G) (f1.trans f2) dk2 (.cons (r1.keep f2 k1.1.wq) r2) (k1.j I f1 r1.tracked k2 (I.step f1 dk1))) q)) h),
   fun env Q Q' h q => s.mono env _ _ (fun d q => s'.mono env _ _ (fun ds q => h _ q) q) q⟩
def xTup (r : XL) : X1 := fun env Q => r env fun ds => ds.length ≤ sizeLine ∧ Q (.tup ds)
def xLst (r : XL) : X1 := fun env Q => r env fun ds => ds.length ≤ sizeLine ∧ Q (.lst ds)
theorem sim_tup {ts : TA} {A : Kd} {r : XL} (s : SimL C Γ ts A r) : Sim C Γ (tTup ts) A (xTup r) :=
  ⟨fun σ H env Fs Q I h => s.run σ H env Fs _ I (s.mono env _ _ (fun ds ⟨z, q⟩ vs H1 F f1 dk1 r1 k1 => ⟨by rw [r1.length]; exact z, fun p hp =>
    q (.ref p) _ F (f1.trans (Fr.new hp)) (dk1.keep (Fr.new hp)) (.tup upd_same (r1.keep (W := fun _ => False) (Fr.new hp) fun _ _ z => z)) k1⟩) h),
   fun env Q Q' h q => s.mono env _ _ (fun ds ⟨z, q⟩ => ⟨z, h _ q⟩) q⟩
theorem KdOk.new {H0 : Hp} {A : Kd} {p : Addr} (I : Ok C Γ σ H0 env Fs) (dk : DiceOk C H1) (f : Fr (Wq C) H0 H1) (k : KdOk C Γ Fs H0 A F) (hp : H1 p = none) (r : ∀ a ∈ F, H1 a ≠ none) : KdOk C Γ Fs H0 A (p :: F) := by
  refine ⟨fun x e => ⟨fun m => ?_, fun m => ?_⟩, ?_⟩
  · rcases List.mem_cons.mp m with z | m
    · exact (dk x e).t1 (z ▸ hp)
    · exact (k.1 x e).1 m
  · rcases List.mem_cons.mp m with z | m
    · exact (dk x e).t2 (z ▸ hp)
    · exact (k.1 x e).2 m
  · cases A with
    | own =>
      refine ⟨List.nodup_cons.mpr ⟨fun m => r p m hp, k.2.1⟩, fun a m => ?_⟩
      rcases List.mem_cons.mp m with z | m
      · rw [z]; exact f.there p hp
      · exact k.2.2 a m
    | al S =>
      intro a m i g b
      rcases List.mem_cons.mp m with z | m
      · obtain ⟨v, d, _, _, r'⟩ := I.val i _ g (.inl rfl)
        exact absurd (f.there p hp) (by rw [← z]; exact r'.tracked a b)
      · exact k.2 a m i g b
theorem sim_lst {ts : TA} {A : Kd} {r : XL} (s : SimL C Γ ts A r) : Sim C Γ (tLst ts) A (xLst r) :=
  ⟨fun σ H env Fs Q I h => s.run σ H env Fs _ I (s.mono env _ _ (fun ds ⟨z, q⟩ vs H1 F f1 dk1 r1 k1 => ⟨by rw [r1.length]; exact z, fun p hp =>
    q (.ref p) _ (p :: F) (f1.trans (Fr.new hp)) (dk1.keep (Fr.new hp)) (.lst upd_same (r1.keep (W := fun _ => False) (Fr.new hp) fun _ _ z => z)) (k1.new I dk1 f1 hp r1.tracked)⟩) h),
   fun env Q Q' h q => s.mono env _ _ (fun ds ⟨z, q⟩ => ⟨z, h _ q⟩) q⟩
end
end Pu
set_option Elab.async false
set_option linter.all false
set_option maxRecDepth 100000
namespace Pu
open PySem PySem.Spec PyProof.Rows L2
abbrev O1 := D → (D → Prop) → Prop
abbrev O2 := D → D → (D → Prop) → Prop
def Mono1 (o : O1) : Prop := ∀ d Q Q', (∀ x, Q x → Q' x) → o d Q → o d Q'
def Mono2 (o : O2) : Prop := ∀ d e Q Q', (∀ x, Q x → Q' x) → o d e Q → o d e Q'
def New (CT : Nat → Addr) (H : Hp) (Q : VK) (d : D) : Prop := ∀ v H' F, Fr (fun _ => False) H H' → Rp CT H' v d F → F.Nodup → (∀ a ∈ F, H a = none) → Q v H'
theorem New.imm {CT : Nat → Addr} {H : Hp} {Q : VK} {d : D} {v : V} (n : New CT H Q d) (r : Rp CT H v d []) : Q v H := n v H [] Fr.refl r List.nodup_nil fun _ h => nomatch h
theorem New.at {CT : Nat → Addr} {H : Hp} {Q : VK} {d : D} {v : V} {p : Addr} {o : HO} (n : New CT H Q d) (hp : H p = none) (r : Rp CT (upd H p o) v d []) : Q v (upd H p o) :=
  n v _ [] (Fr.new hp) r List.nodup_nil fun _ h => nomatch h
theorem New.at1 {CT : Nat → Addr} {H : Hp} {Q : VK} {d : D} {v : V} {p : Addr} {o : HO} (n : New CT H Q d) (hp : H p = none) (r : Rp CT (upd H p o) v d [p]) : Q v (upd H p o) :=
  n v _ [p] (Fr.new hp) r (by simp) fun a h => by rw [List.mem_singleton.mp h]; exact hp
structure SimO1 (CT : Nat → Addr) (r : V → Hp → VK → Prop) (o : O1) : Prop where
  run : ∀ (H : Hp) (v : V) (d : D) (F : List Addr) (Q : VK), Rp CT H v d F → o d (New CT H Q) → r v H Q
  mono : Mono1 o
structure SimO2 (CT : Nat → Addr) (r : R2) (o : O2) : Prop where
  run : ∀ (H : Hp) (v w : V) (d e : D) (F G : List Addr) (Q : VK), Rp CT H v d F → Rp CT H w e G → o d e (New CT H Q) → r v w H Q
  mono : Mono2 o
structure SimC1 (CT : Nat → Addr) (r : List V → Hp → VK → Prop) (o : O1) : Prop where
  run : ∀ (H : Hp) (v : V) (d : D) (F : List Addr) (Q : VK), Rp CT H v d F → o d (New CT H Q) → r [v] H Q
  mono : Mono1 o
structure SimC2 (CT : Nat → Addr) (r : List V → Hp → VK → Prop) (o : O2) : Prop where
  run : ∀ (H : Hp) (v w : V) (d e : D) (F G : List Addr) (Q : VK), Rp CT H v d F → Rp CT H w e G → o d e (New CT H Q) → r [v, w] H Q
  mono : Mono2 o
def x1 (o : O1) (m : X1) : X1 := fun env Q => m env fun d => o d Q
def x2 (o : O2) (m n : X1) : X1 := fun env Q => m env fun d => n env fun e => o d e Q
theorem mono_x1 {o : O1} {m : X1} (h : Mono1 o) (hm : Mono m) : Mono (x1 o m) := fun env Q Q' k q => hm env _ _ (fun d q => h d _ _ k q) q
theorem mono_x2 {o : O2} {m n : X1} (h : Mono2 o) (hm : Mono m) (hn : Mono n) : Mono (x2 o m n) := fun env Q Q' k q => hm env _ _ (fun d q => hn env _ _ (fun e q => h d e _ _ k q) q) q
section
variable {C : Cfg} {Γ : List Mo} {σ : L2.St} {H H' H1 : Hp} {env : PEnv} {Fs : Nat → List Addr} {v : V} {vs : List V} {d : D} {ds : List D} {F G : List Addr} {ta tb te : TE} {A B : Kd} {m n : X1}
theorem fin_new {Q : VK} (I : Ok C Γ σ H env Fs) (f : Fr (Wq C) H H1) (dk : DiceOk C H1)
    (k : ∀ v H' F, Fr (Wq C) H H' → DiceOk C H' → Rp C.CT H' v d F → KdOk C Γ Fs H .own F → Q v H') : New C.CT H1 Q d := fun v H' F f2 r nd fr =>
  k v H' F (f.trans f2.wq) (dk.keep f2) r ⟨NoQ.new dk fr, nd, fun a mm => f.there a (fr a mm)⟩
theorem sim_op {r : R2} {o : O2} (h : SimO2 C.CT r o) (s : Sim C Γ ta A m) (s' : Sim C Γ tb B n) : Sim C Γ (tOp r ta tb) .own (x2 o m n) :=
  ⟨fun σ H env Fs Q I q => s.run σ H env Fs _ I (s.mono env _ _ (fun d q v H1 F f dk r k => s'.run σ H1 env Fs _ (I.step f dk) (s'.mono env _ _ (fun e q w H2 G f2 dk2 r2 k2 =>
    h.run H2 v w d e F G Q (r.keep f2 k.1.wq) r2 (h.mono d e _ _ (fun x k => fin_new I (f.trans f2) dk2 k) q)) q)) q), mono_x2 h.mono s.mono s'.mono⟩
theorem sim_call1 {r : List V → Hp → VK → Prop} {o : O1} (h : SimC1 C.CT r o) (s : Sim C Γ ta A m) : Sim C Γ (tCB r (tCons ta tNil)) .own (x1 o m) :=
  ⟨fun σ H env Fs Q I q => s.run σ H env Fs _ I (s.mono env _ _ (fun d q v H1 F f dk r k => h.run H1 v d F Q r (h.mono d _ _ (fun x k => fin_new I f dk k) q)) q), mono_x1 h.mono s.mono⟩
theorem Rps.ints {CT : Nat → Addr} : ∀ {ns : List Int} {vs : List V} {F : List Addr}, Rps CT H vs (ns.map D.int) F → vs = ns.map V.int ∧ F = []
  | [], _, _, .nil => ⟨rfl, rfl⟩
  | n :: ns, _, _, .cons (.int _) r => by
    obtain ⟨h1, h2⟩ := Rps.ints (ns := ns) r
    exact ⟨by rw [h1] <;> rfl, by rw [h2] <;> rfl⟩
theorem Rps.bls {CT : Nat → Addr} : ∀ {ns : List Bool} {vs : List V} {F : List Addr}, Rps CT H vs (ns.map D.bl) F → vs = ns.map V.bl ∧ F = []
  | [], _, _, .nil => ⟨rfl, rfl⟩
  | n :: ns, _, _, .cons (.bl _) r => by
    obtain ⟨h1, h2⟩ := Rps.bls (ns := ns) r
    exact ⟨by rw [h1] <;> rfl, by rw [h2] <;> rfl⟩
def oI (g : Int → Int → D) : O2 := fun d e Q => match d, e with
  | .int i, .int j => Q (g i j)
  | _, _ => False
def oIc (c : Int → Int → Prop) (g : Int → Int → D) : O2 := fun d e Q => match d, e with
  | .int i, .int j => c i j ∧ Q (g i j)
  | _, _ => False
theorem mono_oI {g : Int → Int → D} : Mono2 (oI g) := fun d e Q Q' k q => by
  cases d <;> cases e <;> first | exact k _ q | exact q
theorem mono_oIc {c : Int → Int → Prop} {g : Int → Int → D} : Mono2 (oIc c g) := fun d e Q Q' k q => by
  cases d <;> cases e <;> first | exact ⟨q.1, k _ q.2⟩ | exact q
theorem so_I {g : Int → Int → V} {g' : Int → Int → D} {CT : Nat → Addr} (h : ∀ H i j, Rp CT H (g i j) (g' i j) []) : SimO2 CT (rI0 g) (oI g') :=
  ⟨fun H v w d e F G Q a b q => by
    cases a <;> cases b <;> first | exact ⟨_, _, rfl, rfl, New.imm q (h _ _ _)⟩ | exact (show False from q).elim, mono_oI⟩
theorem so_Ic {c : Int → Int → Prop} {g : Int → Int → V} {g' : Int → Int → D} {CT : Nat → Addr} (h : ∀ H i j, Rp CT H (g i j) (g' i j) []) : SimO2 CT (rI c g) (oIc c g') :=
  ⟨fun H v w d e F G Q a b q => by
    cases a <;> cases b <;> first | exact ⟨_, _, rfl, rfl, q.1, New.imm q.2 (h _ _ _)⟩ | exact (show False from q).elim, mono_oIc⟩
def rAddU (K : PySem.W.Frag) : R2 := fun x y H Q => ((rI0 (fun i j => .int (i + j)) x y H Q ∨ rCatA K x y H Q) ∨ rCat x y H Q) ∨ ∃ i j, x = .str i ∧ y = .str j ∧ i.length + j.length ≤ sizeLine ∧ Q (.str (i ++ j)) H
theorem op_addU {X : Cx} : OpR X (binaryOp .Add) (rAddU X.K) := ((op_add.or op_catA).or op_cat).or op_add_str
def oAdd : O2 := fun d e Q => match d, e with
  | .int i, .int j => Q (.int (i + j))
  | .tup xs, .tup ys => immL xs = true ∧ immL ys = true ∧ xs.length + ys.length ≤ sizeLine ∧ Q (.tup (xs ++ ys))
  | .lst xs, .lst ys => immL xs = true ∧ immL ys = true ∧ xs.length + ys.length ≤ sizeLine ∧ Q (.lst (xs ++ ys))
  | .str x, .str y => x.length + y.length ≤ sizeLine ∧ Q (.str (x ++ y))
  | _, _ => False
theorem mono_oAdd : Mono2 oAdd := fun d e Q Q' k q => by
  cases d <;> cases e <;> first | exact k _ q | exact ⟨q.1, k _ q.2⟩ | exact ⟨q.1, q.2.1, q.2.2.1, k _ q.2.2.2⟩ | exact q
theorem so_add {K : PySem.W.Frag} {CT : Nat → Addr} : SimO2 CT (rAddU K) oAdd := ⟨fun H v w d e F G Q a b q => by
  cases a with
  | int i =>
    cases b <;> first | exact .inl (.inl (.inl ⟨_, _, rfl, rfl, New.imm q (.int _)⟩)) | exact (show False from q).elim
  | str x =>
    cases b <;> first | exact .inr ⟨_, _, rfl, rfl, q.1, New.imm q.2 (.str _)⟩ | exact (show False from q).elim
  | tup ha ra =>
    cases b with
    | tup hb rb =>
      obtain ⟨i1, i2, z, q⟩ := q
      have e1 := ra.imm i1
      have e2 := rb.imm i2
      subst e1 e2
      refine .inl (.inl (.inr ⟨_, _, _, _, rfl, rfl, SqT.of ha, SqT.of hb, by rw [ra.length, rb.length]; exact z, fun e => ?_, fun _ e => ?_, fun _ _ p hp => ?_⟩))
      · subst e
        cases ra
        exact New.imm q (.tup hb rb)
      · subst e
        cases rb
        rw [List.append_nil] at q
        exact New.imm q (.tup ha ra)
      · exact New.at q hp (.tup upd_same ((ra.append rb).keep (W := fun _ => False) (Fr.new hp) fun _ h => nomatch h))
    | _ => exact (show False from q).elim
  | lst ha ra =>
    cases b with
    | lst hb rb =>
      obtain ⟨i1, i2, z, q⟩ := q
      have e1 := ra.imm i1
      have e2 := rb.imm i2
      subst e1 e2
      exact .inl (.inr ⟨_, _, _, _, rfl, rfl, ha, hb, by rw [ra.length, rb.length]; exact z, fun p hp => New.at1 q hp (.lst upd_same ((ra.append rb).keep (W := fun _ => False) (Fr.new hp) fun _ h => nomatch h))⟩)
    | _ => exact (show False from q).elim
  | _ => exact (show False from q).elim, mono_oAdd⟩
theorem so_mul {CT : Nat → Addr} : SimO2 CT (rI CMul fun i j => .int (i * j)) (oIc CMul fun i j => .int (i * j)) := so_Ic fun _ _ _ => .int _
theorem so_mod {CT : Nat → Addr} : SimO2 CT (rI (fun _ j => j ≠ 0) fun i j => .int (i.fmod j)) (oIc (fun _ j => j ≠ 0) fun i j => .int (i.fmod j)) := so_Ic fun _ _ _ => .int _
theorem so_lt {CT : Nat → Addr} : SimO2 CT (rI0 fun i j => .bl (decide (i < j))) (oI fun i j => .bl (decide (i < j))) := so_I fun _ _ _ => .bl _
theorem so_le {CT : Nat → Addr} : SimO2 CT (rI0 fun i j => .bl (decide (i ≤ j))) (oI fun i j => .bl (decide (i ≤ j))) := so_I fun _ _ _ => .bl _
theorem so_gt {CT : Nat → Addr} : SimO2 CT (rI0 fun i j => .bl (decide (j < i))) (oI fun i j => .bl (decide (j < i))) := so_I fun _ _ _ => .bl _
theorem so_ge {CT : Nat → Addr} : SimO2 CT (rI0 fun i j => .bl (decide (j ≤ i))) (oI fun i j => .bl (decide (j ≤ i))) := so_I fun _ _ _ => .bl _
mutual
def D.py : D → PyData
  | .non => .none
  | .bl b => .bool b
  | .int i => .int i
  | .str x => .str x
  | .tup xs => .tuple (pyL xs)
  | .lst xs => .list (pyL xs)
  | .dK _ => .dict []
  | .dT _ => .dict []
  | .obj _ _ => .dict []
  | .fz _ _ => .dict []
  | .dN _ => .dict []
def pyL : List D → List PyData
  | [] => []
  | x :: xs => D.py x :: pyL xs
end
mutual
theorem Rp.dp {CT : Nat → Addr} {K : PySem.W.Frag} : ∀ {v : V} {d : D} {F : List Addr}, Rp CT H v d F → d.py.canLay0 = true → Dp K H v d.py
  | _, _, _, .non, _ => .non
  | _, _, _, .bl b, _ => .bl b
  | _, _, _, .int b, _ => .int b
  | _, _, _, .str b, _ => .str b
  | _, _, _, .tup h r, c => .tup (SqT.of h) (Rps.dp r (by simpa [D.py, PyData.canLay0] using c))
  | _, _, _, .lst h r, c => .lst (SqL.of h) (Rps.dp r (by simpa [D.py, PyData.canLay0] using c))
  | _, _, _, .dK h _ r, c => by simp [D.py, PyData.canLay0] at c
  | _, _, _, .dT h _ r, c => by simp [D.py, PyData.canLay0] at c
  | _, _, _, .obj h _ r, c => by simp [D.py, PyData.canLay0] at c
  | _, _, _, .fz h _ _ r, c => by simp [D.py, PyData.canLay0] at c
  | _, _, _, .dN _ _ _ _ _, c => by simp [D.py, PyData.canLay0] at c
theorem Rps.dp {CT : Nat → Addr} {K : PySem.W.Frag} : ∀ {vs : List V} {ds : List D} {F : List Addr}, Rps CT H vs ds F → PyData.canLayAll0 (pyL ds) = true → DpAll K H vs (pyL ds)
  | _, _, _, .nil, _ => .nil
  | _, _, _, .cons h r, c => by
    simp only [pyL, PyData.canLayAll0, Bool.and_eq_true] at c
    exact .cons (Rp.dp h c.1) (Rps.dp r c.2)
end
def Sh (d : D) : Prop := SeqAt.shaped d.py = true
def D.eqb (d e : D) : Bool := PyData.eqv d.py e.py
def oEq : O2 := fun d e Q => Sh d ∧ Sh e ∧ Q (.bl (D.eqb d e))
def oNe : O2 := fun d e Q => Sh d ∧ Sh e ∧ Q (.bl (!D.eqb d e))
theorem so_eq {K : PySem.W.Frag} {CT : Nat → Addr} : SimO2 CT (rEqD K) oEq := ⟨fun H v w d e F G Q a b ⟨h1, h2, q⟩ =>
  ⟨_, _, a.dp (SeqAt.canLay_of_shaped h1), b.dp (SeqAt.canLay_of_shaped h2), h1, h2, New.imm q (.bl _)⟩, fun d e Q Q' k ⟨h1, h2, q⟩ => ⟨h1, h2, k _ q⟩⟩
theorem so_ne {K : PySem.W.Frag} {CT : Nat → Addr} : SimO2 CT (rNeD K) oNe := ⟨fun H v w d e F G Q a b ⟨h1, h2, q⟩ =>
  ⟨_, _, a.dp (SeqAt.canLay_of_shaped h1), b.dp (SeqAt.canLay_of_shaped h2), h1, h2, New.imm q (.bl _)⟩, fun d e Q Q' k ⟨h1, h2, q⟩ => ⟨h1, h2, k _ q⟩⟩
def D.isN : D → Bool
  | .non => true
  | _ => false
theorem Rp.isN {CT : Nat → Addr} (r : Rp CT H v d F) : decide (v = .non) = d.isN := by
  cases r <;> simp [D.isN]
def oIsN : O2 := fun d e Q => e.isN = true ∧ Q (.bl d.isN)
def oNotN : O2 := fun d e Q => e.isN = true ∧ Q (.bl (!d.isN))
def oIsB (neg : Bool) : O2 := fun d e Q => match d, e with
  | .bl a, .bl b => Q (.bl (if neg then !decide (a = b) else decide (a = b)))
  | _, _ => False
end
end Pu
set_option Elab.async false
set_option linter.all false
set_option maxRecDepth 100000
namespace Pu
open PySem PySem.Spec PyProof.Rows L2
section
variable {C : Cfg} {Γ : List Mo} {σ : L2.St} {H H' H1 : Hp} {env : PEnv} {Fs : Nat → List Addr} {v : V} {vs : List V} {d : D} {ds : List D} {F G : List Addr} {ta tb te : TE} {A B : Kd} {m n : X1} {CT : Nat → Addr} {K : PySem.W.Frag}
def D.key? : D → Option Key
  | .int i => some (.inl i)
  | .str x => some (.inr x)
  | _ => none
def keys? : List D → Option (List Key)
  | [] => some []
  | d :: ds => match d.key?, keys? ds with
    | some k, some ks => some (k :: ks)
    | _, _ => none
def D.tkey? : D → Option (List Key)
  | .tup ds => keys? ds
  | _ => none
theorem Rp.key {k : Key} (r : Rp CT H v d F) (h : d.key? = some k) : v = kV k := by
  cases r <;> simp [D.key?] at h <;> subst h <;> rfl
theorem Rps.keys : ∀ {vs : List V} {ds : List D} {F : List Addr} {ks : List Key}, Rps CT H vs ds F → keys? ds = some ks → vs = ks.map kV
  | _, _, _, _, .nil, h => by simp [keys?] at h; subst h; rfl
  | _, _, _, ks, .cons (d := d) (ds := ds) r rs, h => by
    unfold keys? at h
    split at h
    · rename_i k ks' h1 h2
      cases h
      rw [r.key h1, rs.keys h2]
      rfl
    · cases h
theorem Rp.tkey {k : List Key} (r : Rp CT H v d F) (h : d.tkey? = some k) : ∃ b, v = .ref b ∧ H b = some (.tup (k.map kV)) := by
  cases r <;> simp [D.tkey?] at h
  rename_i a vs ds ha rs
  exact ⟨_, rfl, by rw [ha, rs.keys h]⟩
def lookD {κ : Type} [DecidableEq κ] (kvs : List (κ × D)) (k : κ) : Option D := (kvs.find? fun kv => decide (kv.1 = k)).map (·.2)
theorem look_val {κ : Type} [DecidableEq κ] : ∀ {kvs : List (κ × V)} {kds : List (κ × D)} {F : List Addr} (k : κ), kvs.map (·.1) = kds.map (·.1) → Rps CT H (kvs.map (·.2)) (kds.map (·.2)) F →
    (lookD kds k = none ∧ valV kvs k = none) ∨ ∃ d v G, lookD kds k = some d ∧ valV kvs k = some v ∧ Rp CT H v d G ∧ G.Sublist F
  | [], [], _, k, _, _ => .inl ⟨rfl, rfl⟩
  | [], _ :: _, _, _, e, _ => by simp at e
  | _ :: _, [], _, _, e, _ => by simp at e
  | p :: kvs, q :: kds, _, k, e, .cons (F := F) (G := G) r rs => by
    simp only [List.map_cons, List.cons.injEq] at e
    obtain ⟨e1, e2⟩ := e
    by_cases h : p.1 = k
    · refine .inr ⟨q.2, p.2, F, ?_, ?_, r, List.sublist_append_left _ _⟩
      · unfold lookD; rw [List.find?_cons, decide_eq_true (e1 ▸ h)] <;> rfl
      · exact valV_pos h
    · have h' : ¬ q.1 = k := e1 ▸ h
      have a1 : lookD (q :: kds) k = lookD kds k := by unfold lookD; rw [List.find?_cons, decide_eq_false h']
      rcases look_val k e2 rs with ⟨b1, b2⟩ | ⟨d, v, G', b1, b2, b3, b4⟩
      · exact .inl ⟨a1.trans b1, (valV_neg h).trans b2⟩
      · exact .inr ⟨d, v, G', a1.trans b1, (valV_neg h).trans b2, b3, b4.trans (List.sublist_append_right _ _)⟩
theorem ix_dict {X : Cx} (hu : X.A.units + 1 < cLine) : IxR X (fun x y H Q => ∃ a v, x = .ref a ∧ DGet H a y (some v) ∧ Q v H) := by
  intro value slice pins s σ H x y v u Q I rx ry h hs
  obtain ⟨a, z, rfl, g, q⟩ := h
  obtain rfl : v = Value.ref a := rx
  exact tail_any (dict_typeIs I g) PySem.F.slot_dict_getitem.lookup (d_getItem hu I g ry fun w' s3 I3 rw' => ⟨z, H, I3, rw', q⟩) hs
def rIxU (K : PySem.W.Frag) : R2 := fun x y H Q => rIx K x y H Q ∨ ∃ a v, x = .ref a ∧ DGet H a y (some v) ∧ Q v H
theorem ix_U {X : Cx} (hu : X.A.units + 1 < cLine) : IxR X (rIxU X.K) := ix_seq.or (ix_dict hu)
def atD (xs : List D) (i : Int) (Q : D → Prop) : Prop := match atI xs i with
  | some d => Q d
  | none => False
def oIx : O2 := fun d e Q => match d with
  | .tup xs => (match e with | .int i => atD xs i Q | _ => False)
  | .lst xs => (match e with | .int i => atD xs i Q | _ => False)
  | .str z => (match e with | .int i => z.length ≤ sizeLine ∧ (match atI z.cps.toList i with | some c => Q (.str ⟨#[c]⟩) | none => False) | _ => False)
  | .dK kvs => (match e.key? with | some k => (match lookD kvs k with | some x => Q x | none => False) | none => False)
  | .dT kvs => (match e.tkey? with | some k => (match lookD kvs k with | some x => Q x | none => False) | none => False)
  | _ => False
theorem mono_atD {xs : List D} {i : Int} {Q Q' : D → Prop} (h : ∀ x, Q x → Q' x) (q : atD xs i Q) : atD xs i Q' := by
  unfold atD at q ⊢
  split at q
  · exact h _ q
  · exact q
theorem mono_oIx : Mono2 oIx := fun d e Q Q' h q => by
  cases d with
  | tup xs => cases e <;> first | exact mono_atD h q | exact q
  | lst xs => cases e <;> first | exact mono_atD h q | exact q
  | str z =>
    cases e with
    | int i =>
      refine ⟨q.1, ?_⟩
      have q2 := q.2
      revert q2
      cases atI z.cps.toList i with
      | some c => exact h _
      | none => exact fun z => z
    | _ => exact q
  | dK kvs =>
    unfold oIx at q ⊢
    revert q
    cases e.key? with
    | none => exact fun z => z
    | some k =>
      cases hl : lookD kvs k with
      | none => simp only [hl]; exact fun z => z
      | some x => simp only [hl]; exact h _
  | dT kvs =>
    unfold oIx at q ⊢
    revert q
    cases e.tkey? with
    | none => exact fun z => z
    | some k =>
      cases hl : lookD kvs k with
      | none => simp only [hl]; exact fun z => z
      | some x => simp only [hl]; exact h _
  | _ => exact q
theorem atI_len {α β : Type} {xs : List α} {ys : List β} {i : Int} {y : β} (l : xs.length = ys.length) (h : atI ys i = some y) : ∃ j : Nat, ys[j]? = some y ∧ ∀ x, xs[j]? = some x → atI xs i = some x := by
  unfold atI at h ⊢
  rw [← l] at h
  cases e : ixN xs.length i with
  | none => rw [e] at h; cases h
  | some j => rw [e] at h; exact ⟨j, h, fun x hx => hx⟩
theorem Rps.atI (r : Rps CT H vs ds F) {i : Int} {Q : D → Prop} (q : atD ds i Q) : ∃ v d G, L2.atI vs i = some v ∧ Q d ∧ Rp CT H v d G ∧ G.Sublist F := by
  unfold atD at q
  split at q
  · rename_i d e
    obtain ⟨j, h1, h2⟩ := atI_len (r.length) e
    obtain ⟨v, G, h3, h4, h5⟩ := r.get h1
    exact ⟨v, d, G, h2 v h3, q, h4, h5⟩
  · exact q.elim
structure SimPart (CT : Nat → Addr) (r : R2) (o : O2) : Prop where
  run : ∀ (H : Hp) (v w : V) (d e : D) (F G : List Addr) (Q : VK), Rp CT H v d F → Rp CT H w e G → o d e (fun x => ∀ z P, Rp CT H z x P → P.Sublist F → Q z H) → r v w H Q
  mono : Mono2 o
theorem so_ix : SimPart CT (rIxU K) oIx := ⟨fun H v w d e F G Q a b q => by
  cases a with
  | tup ha ra =>
    cases b with
    | int i =>
      obtain ⟨v, d, P, h1, h2, h3, h4⟩ := ra.atI q
      exact .inl (.inr (.inl ⟨_, _, _, _, rfl, rfl, SqT.of ha, h1, h2 v P h3 h4⟩))
    | _ => exact (show False from q).elim
  | lst ha ra =>
    cases b with
    | int i =>
      obtain ⟨v, d, P, h1, h2, h3, h4⟩ := ra.atI q
      exact .inl (.inl ⟨_, _, _, _, rfl, rfl, SqL.of ha, h1, h2 v P h3 (h4.trans (List.sublist_cons_self _ _))⟩)
    | _ => exact (show False from q).elim
  | str z =>
    cases b with
    | int i =>
      obtain ⟨q1, q2⟩ := q
      dsimp only at q2
      cases e : L2.atI z.cps.toList i with
      | none => rw [e] at q2; exact q2.elim
      | some c => rw [e] at q2; exact .inl (.inr (.inr ⟨_, _, _, rfl, rfl, q1, e, q2 _ [] (.str _) (List.nil_sublist _)⟩))
    | _ => exact (show False from q).elim
  | dK ha hk ra =>
    unfold oIx at q
    dsimp only at q
    cases ek : e.key? with
    | none => rw [ek] at q; exact q.elim
    | some k =>
      rw [ek] at q
      rcases look_val k hk ra with ⟨h1, _⟩ | ⟨x, v, P, h1, h2, h3, h4⟩
      · simp only [h1] at q
      · simp only [h1] at q
        exact .inr ⟨_, v, rfl, .inl ⟨_, k, .inl ha, b.key ek, h2.symm⟩, q v P h3 (h4.trans (List.sublist_cons_self _ _))⟩
  | dT ha hk ra =>
    unfold oIx at q
    dsimp only at q
    cases ek : e.tkey? with
    | none => rw [ek] at q; exact q.elim
    | some k =>
      rw [ek] at q
      obtain ⟨b', eb, hb⟩ := b.tkey ek
      rcases look_val k hk ra with ⟨h1, _⟩ | ⟨x, v, P, h1, h2, h3, h4⟩
      · simp only [h1] at q
      · simp only [h1] at q
        exact .inr ⟨_, v, rfl, .inr ⟨_, k, b', .inl ha, eb, hb, h2.symm⟩, q v P h3 (h4.trans (List.sublist_cons_self _ _))⟩
  | _ => exact (show False from q).elim, mono_oIx⟩
theorem sim_part {r : R2} {o : O2} (h : SimPart C.CT r o) (s : Sim C Γ ta A m) (s' : Sim C Γ tb B n) : Sim C Γ (tOp r ta tb) A (x2 o m n) :=
  ⟨fun σ H env Fs Q I q => s.run σ H env Fs _ I (s.mono env _ _ (fun d q v H1 F f dk r k => s'.run σ H1 env Fs _ (I.step f dk) (s'.mono env _ _ (fun e q w H2 G f2 dk2 r2 k2 =>
    h.run H2 v w d e F G Q (r.keep f2 k.1.wq) r2 (h.mono d e _ _ (fun x q z P rz sub => q z H2 P (f.trans f2) dk2 rz (k.sub sub)) q)) q)) q), mono_x2 h.mono s.mono s'.mono⟩
def D.flat : D → Bool
  | .non => true
  | .bl _ => true
  | .int _ => true
  | .str _ => true
  | _ => false
theorem Rp.flat (r : Rp CT H v d F) (h : d.flat = true) : flatV v = true := by cases r <;> first | rfl | exact absurd h Bool.false_ne_true
theorem Rps.flat : ∀ {vs : List V} {ds : List D} {F : List Addr}, Rps CT H vs ds F → ds.all D.flat = true → vs.all flatV = true
  | _, _, _, .nil, _ => rfl
  | _, _, _, .cons r rs, h => by
    simp only [List.all_cons, Bool.and_eq_true] at h ⊢
    exact ⟨r.flat h.1, rs.flat h.2⟩
def inSeq (neg : Bool) (d : D) (xs : List D) (Q : D → Prop) : Prop := d.flat = true ∧ xs.all D.flat = true ∧ Q (.bl (xor neg (xs.any fun z => D.eqb z d)))
def oIn (neg : Bool) : O2 := fun d e Q => match e with
  | .tup xs => inSeq neg d xs Q
  | .lst xs => (inSeq neg d xs Q) ∨ (Sh d ∧ Sh (.lst xs) ∧ Q (.bl (xor neg (xs.any fun z => D.eqb z d))))
  | .dK kvs => (match d.key? with | some k => Q (.bl (xor neg (lookD kvs k).isSome)) | none => False)
  | .dT kvs => (match d.tkey? with | some k => Q (.bl (xor neg (lookD kvs k).isSome)) | none => False)
  | _ => False
theorem mono_oIn {neg : Bool} : Mono2 (oIn neg) := fun d e Q Q' h q => by
  cases e with
  | tup xs => exact ⟨q.1, q.2.1, h _ q.2.2⟩
  | lst xs =>
    rcases q with q | q
    · exact .inl ⟨q.1, q.2.1, h _ q.2.2⟩
    · exact .inr ⟨q.1, q.2.1, h _ q.2.2⟩
  | dK kvs =>
    unfold oIn at q ⊢
    revert q
    cases d.key? with
    | none => exact fun z => z
    | some k => exact h _
  | dT kvs =>
    unfold oIn at q ⊢
    revert q
    cases d.tkey? with
    | none => exact fun z => z
    | some k => exact h _
  | _ => exact q
end
end Pu
set_option Elab.async false
set_option linter.all false
set_option maxRecDepth 100000
namespace Pu
open PySem PySem.Spec PyProof.Rows L2
section
variable {C : Cfg} {Γ Γ' Γn Γl Γ1 Γ2 : List Mo} {σ σ' : L2.St} {H H' H1 H2 : Hp} {env env' : PEnv} {Fs Fs' Fs1 Fs2 : Nat → List Addr} {v : V} {vs : List V} {d : D} {ds : List D} {F G : List Addr} {ta tb te : TE} {A B : Kd} {m n : X1}
def WO (C : Cfg) (Γ : List Mo) (Fs : Nat → List Addr) : Addr → Prop := fun a => Wq C a ∨ ∃ i : Nat, Γ[i]? = some .o ∧ a ∈ Fs i
def Mine (Γ : List Mo) (Fs : Nat → List Addr) (H : Hp) (F : List Addr) : Prop := ∀ a ∈ F, (∃ j : Nat, Γ[j]? = some .o ∧ a ∈ Fs j) ∨ H a = none
structure Go (C : Cfg) (Γ : List Mo) (Fs : Nat → List Addr) (H : Hp) (Γ' : List Mo) (Fs' : Nat → List Addr) (H' : Hp) : Prop where
  fr : Fr (WO C Γ Fs) H H'
  gr : ∀ i : Nat, Γ'[i]? = some .o → Mine Γ Fs H (Fs' i)
theorem Mine.back (g : Go C Γ Fs H Γ1 Fs1 H1) (m : Mine Γ1 Fs1 H1 F) : Mine Γ Fs H F := fun a ha => by
  rcases m a ha with ⟨j, g1, b⟩ | e
  · exact g.gr j g1 a b
  · exact .inr (g.fr.there a e)
theorem Fr.behind (g : Go C Γ Fs H Γ1 Fs1 H1) (f : Fr (WO C Γ1 Fs1) H1 H2) : Fr (WO C Γ Fs) H H2 := by
  refine ⟨fun a o e n => f.keep a o (g.fr.keep a o e n) fun w => ?_, fun a o e i => f.im a o (g.fr.im a o e i) i, fun a e => g.fr.there a (f.there a e)⟩
  rcases w with w | ⟨i, gi, b⟩
  · exact n (.inl w)
  · rcases g.gr i gi a b with ⟨j, gj, c⟩ | z
    · exact n (.inr ⟨j, gj, c⟩)
    · rw [e] at z; cases z
theorem Go.trans (g : Go C Γ Fs H Γ1 Fs1 H1) (f : Go C Γ1 Fs1 H1 Γ2 Fs2 H2) : Go C Γ Fs H Γ2 Fs2 H2 := ⟨Fr.behind g f.fr, fun i gi => (f.gr i gi).back g⟩
theorem Go.refl : Go C Γ Fs H Γ Fs H := ⟨Fr.refl, fun i gi a ha => .inl ⟨i, gi, ha⟩⟩
theorem Go.ev (f : Fr (Wq C) H H') : Go C Γ Fs H Γ Fs H' := ⟨f.mono fun _ w => .inl w, fun i gi a ha => .inl ⟨i, gi, ha⟩⟩
structure Lk (C : Cfg) (Γ : List Mo) (Fs : Nat → List Addr) (H : Hp) (Γn Γl : List Mo) (D : Ends) (E : PEnds) : Prop where
  nx : ∀ σ' H' env' Fs', Ok C Γn σ' H' env' Fs' → Go C Γ Fs H Γn Fs' H' → E.nx env' → D.nx σ' H'
  bk : ∀ σ' H' env' Fs', Ok C Γl σ' H' env' Fs' → Go C Γ Fs H Γl Fs' H' → E.bk env' → D.bk σ' H'
  ct : ∀ σ' H' env' Fs', Ok C Γl σ' H' env' Fs' → Go C Γ Fs H Γl Fs' H' → E.ct env' → D.ct σ' H'
  rt : ∀ v H' d F, Fr (WO C Γ Fs) H H' → DiceOk C H' → Rp C.CT H' v d F → F.Nodup → NoQ C F → Mine Γ Fs H F → E.rt d → D.rt v H'
theorem Lk.step {D : Ends} {E : PEnds} (l : Lk C Γ Fs H Γn Γl D E) (g : Go C Γ Fs H Γ1 Fs1 H1) : Lk C Γ1 Fs1 H1 Γn Γl D E :=
  ⟨fun σ' H' env' Fs' I g2 => l.nx σ' H' env' Fs' I (g.trans g2), fun σ' H' env' Fs' I g2 => l.bk σ' H' env' Fs' I (g.trans g2), fun σ' H' env' Fs' I g2 => l.ct σ' H' env' Fs' I (g.trans g2),
   fun v H' d F f dk r nd nq mi => l.rt v H' d F (Fr.behind g f) dk r nd nq (mi.back g)⟩
def PLe (E E' : PEnds) : Prop := (∀ e, E.nx e → E'.nx e) ∧ (∀ d, E.rt d → E'.rt d) ∧ (∀ e, E.bk e → E'.bk e) ∧ ∀ e, E.ct e → E'.ct e
structure SimS (C : Cfg) (Γl Γ Γ' : List Mo) (t : TS) (m : XS) : Prop where
  run : ∀ (σ : L2.St) (H : Hp) (env : PEnv) (Fs : Nat → List Addr) (D : Ends) (E : PEnds), Ok C Γ σ H env Fs → Lk C Γ Fs H Γ' Γl D E → m E env → t D σ H
  mono : ∀ E E' env, PLe E E' → m E env → m E' env
def sNext : XS := fun E env => E.nx env
def sSeq (a b : XS) : XS := fun E env => a { E with nx := b E } env
theorem sim_next : SimS C Γl Γ Γ tNext sNext := ⟨fun σ H env Fs D E I l h => l.nx σ H env Fs I Go.refl h, fun E E' env p h => p.1 env h⟩
theorem sim_seq {t u : TS} {a b : XS} (s : SimS C Γl Γ Γ1 t a) (s' : SimS C Γl Γ1 Γ2 u b) : SimS C Γl Γ Γ2 (tSeq t u) (sSeq a b) :=
  ⟨fun σ H env Fs D E I l h => s.run σ H env Fs _ { E with nx := b E } I ⟨fun σ' H' env' Fs' I' g q => s'.run σ' H' env' Fs' D E I' (l.step g) q, l.bk, l.ct, l.rt⟩ h,
   fun E E' env p h => s.mono { E with nx := b E } { E' with nx := b E' } env ⟨fun e q => s'.mono _ _ e p q, p.2.1, p.2.2.1, p.2.2.2⟩ h⟩
def wk1 : Mo → Mo → Bool
  | _, .x => true
  | .o, .f => true
  | a, b => decide (a = b)
def wk : List Mo → List Mo → Bool
  | [], [] => true
  | a :: as, b :: bs => wk1 a b && wk as bs
  | _, _ => false
theorem wk_len : ∀ {Γ Γ' : List Mo}, wk Γ Γ' = true → Γ.length = Γ'.length
  | [], [], _ => rfl
  | a :: as, b :: bs, h => by
    simp only [wk, Bool.and_eq_true] at h
    simp [wk_len h.2]
  | [], _ :: _, h => by simp [wk] at h
  | _ :: _, [], h => by simp [wk] at h
theorem wk_at : ∀ {Γ Γ' : List Mo} {i : Nat} {b : Mo}, wk Γ Γ' = true → Γ'[i]? = some b → ∃ a, Γ[i]? = some a ∧ wk1 a b = true
  | a :: as, b :: bs, 0, c, h, e => by
    simp only [wk, Bool.and_eq_true] at h
    simp at e; subst e
    exact ⟨a, rfl, h.1⟩
  | a :: as, b :: bs, i + 1, c, h, e => by
    simp only [wk, Bool.and_eq_true] at h
    obtain ⟨x, h1, h2⟩ := wk_at (i := i) h.2 (by simpa using e)
    exact ⟨x, by simpa using h1, h2⟩
  | [], _, _, _, h, e => by
    rename_i Γ' _ _
    cases Γ' with
    | nil => simp at e
    | cons _ _ => simp [wk] at h
  | _ :: _, [], _, _, h, e => by simp [wk] at h
theorem wk_o {i : Nat} (h : wk Γ Γ' = true) (e : Γ'[i]? = some .o) : Γ[i]? = some .o := by
  obtain ⟨a, h1, h2⟩ := wk_at h e
  cases a <;> first | exact h1 | exact absurd h2 (by decide)
theorem wk_live {i : Nat} {b : Mo} (h : wk Γ Γ' = true) (e : Γ'[i]? = some b) (l : live b) : ∃ a, Γ[i]? = some a ∧ live a := by
  obtain ⟨a, h1, h2⟩ := wk_at h e
  refine ⟨a, h1, ?_⟩
  rcases l with rfl | rfl <;> cases a <;> first | exact .inl rfl | exact .inr rfl | exact absurd h2 (by decide)
theorem wk_q {i : Nat} (h : wk Γ Γ' = true) (e : Γ'[i]? = some .q) : Γ[i]? = some .q := by
  obtain ⟨a, h1, h2⟩ := wk_at h e
  cases a <;> first | exact h1 | exact absurd h2 (by decide)
theorem Ok.weak (I : Ok C Γ σ H env Fs) (h : wk Γ Γ' = true) : Ok C Γ' σ H env Fs :=
  ⟨I.le.trans (wk_len h), I.ls.trans (wk_len h), fun i m g l => by
    obtain ⟨a, g1, l1⟩ := wk_live h g l
    exact I.val i a g1 l1, fun i g => I.dice i (wk_q h g), fun i g => I.nd i (wk_o h g), fun i j m g g' l ne => by
    obtain ⟨a, g1, l1⟩ := wk_live h g' l
    exact I.dj i j a (wk_o h g) g1 l1 ne, fun i m g l => by
    obtain ⟨a, g1, l1⟩ := wk_live h g l
    exact I.nq i a g1 l1, I.dk, I.pn⟩
theorem Go.weak (g : Go C Γ Fs H Γ1 Fs1 H1) (h : wk Γ1 Γ2 = true) : Go C Γ Fs H Γ2 Fs1 H1 := ⟨g.fr, fun i gi => g.gr i (wk_o h gi)⟩
def setF (Fs : Nat → List Addr) (i : Nat) (F : List Addr) : Nat → List Addr := fun j => if j = i then F else Fs j
theorem setF_same {i : Nat} : setF Fs i F i = F := if_pos rfl
theorem setF_ne {i j : Nat} (h : j ≠ i) : setF Fs i F j = Fs j := if_neg h
theorem get_set {α : Type} {l : List α} {i j : Nat} {a b : α} (h : (l.set i a)[j]? = some b) : (j = i ∧ b = a ∧ i < l.length) ∨ (j ≠ i ∧ l[j]? = some b) := by
  by_cases e : j = i
  · subst e
    rw [List.getElem?_set_self'] at h
    by_cases hl : j < l.length
    · simp [hl] at h; exact .inl ⟨rfl, h.symm, hl⟩
    · simp [List.getElem?_eq_none (Nat.le_of_not_lt hl)] at h
  · rw [List.getElem?_set_ne (Ne.symm e)] at h
    exact .inr ⟨e, h⟩
theorem Ok.setA (I : Ok C Γ σ H env Fs) {i : Nat} {mo : Mo} (fr : Free C i) (hm : live mo) (hi : i < Γ.length) (r : Rp C.CT H v d F) (nq : NoQ C F)
    (dj : ∀ a ∈ F, ∀ j : Nat, Γ[j]? = some .o → j ≠ i → a ∉ Fs j) (own : mo = .o → F.Nodup ∧ ∀ a ∈ F, ∀ (j : Nat) (m : Mo), Γ[j]? = some m → live m → j ≠ i → a ∉ Fs j) :
    Ok C (Γ.set i mo) (σ.set i (some v)) H (env.set i (some d)) (setF Fs i F) := by
  have hσ : i < σ.length := by rw [I.ls]; exact hi
  have he : i < env.length := by rw [I.le]; exact hi
  refine ⟨by simp [I.le], by simp [I.ls], fun j m g l => ?_, fun j g => ?_, fun j g => ?_, fun j k m g g' l ne => ?_, fun j m g l => ?_, I.dk, fun p hp => ?_⟩
  · rcases get_set g with ⟨rfl, rfl, _⟩ | ⟨ne, g⟩
    · exact ⟨v, d, by rw [List.getElem?_set_self hσ], by rw [List.getElem?_set_self he], by rw [setF_same]; exact r⟩
    · obtain ⟨v', d', h1, h2, h3⟩ := I.val j m g l
      exact ⟨v', d', by rw [List.getElem?_set_ne (Ne.symm ne)]; exact h1, by rw [List.getElem?_set_ne (Ne.symm ne)]; exact h2, by rw [setF_ne ne]; exact h3⟩
  · rcases get_set g with ⟨rfl, e, _⟩ | ⟨ne, g⟩
    · rcases hm with rfl | rfl <;> cases e
    · obtain ⟨p, h1, h2⟩ := I.dice j g
      exact ⟨p, h1, by rw [List.getElem?_set_ne (Ne.symm ne)]; exact h2⟩
  · rcases get_set g with ⟨rfl, e, _⟩ | ⟨ne, g⟩
    · rw [setF_same]; exact (own e.symm).1
    · rw [setF_ne ne]; exact I.nd j g
  · intro a ha hb
    rcases get_set g with ⟨ej, e, _⟩ | ⟨nj, g1⟩
    · rw [ej, setF_same] at ha
      rcases get_set g' with ⟨ek, _, _⟩ | ⟨nk, g2⟩
      · exact ne (ej.trans ek.symm)
      · rw [setF_ne nk] at hb
        exact (own e.symm).2 a ha k m g2 l nk hb
    · rw [setF_ne nj] at ha
      rcases get_set g' with ⟨ek, _, _⟩ | ⟨nk, g2⟩
      · rw [ek, setF_same] at hb
        exact dj a hb j g1 nj ha
      · rw [setF_ne nk] at hb
        exact I.dj j k m g1 g2 l ne a ha hb
  · rcases get_set g with ⟨rfl, _, _⟩ | ⟨ne, g⟩
    · rw [setF_same]; exact nq
    · rw [setF_ne ne]; exact I.nq j m g l
  · have ne : i ≠ p.1 := fun e => fr (by rw [e]; exact List.mem_map.mpr ⟨p, hp, rfl⟩)
    rw [List.getElem?_set_ne ne]; exact I.pn p hp
theorem Ok.tracked (I : Ok C Γ σ H env Fs) {i : Nat} {m : Mo} (g : Γ[i]? = some m) (l : live m) : ∀ a ∈ Fs i, H a ≠ none := by
  obtain ⟨v, d, _, _, r⟩ := I.val i m g l
  exact r.tracked
theorem Ok.setO (I : Ok C Γ σ H env Fs) (f : Fr (Wq C) H H1) (dk : DiceOk C H1) {i : Nat} (fr : Free C i) (hi : i < Γ.length) (r : Rp C.CT H1 v d F) (k : KdOk C Γ Fs H .own F) :
    Ok C (Γ.set i .o) (σ.set i (some v)) H1 (env.set i (some d)) (setF Fs i F) :=
  (I.step f dk).setA fr (.inl rfl) hi r k.1 (fun a ha j g _ hb => I.tracked g (.inl rfl) a hb (k.2.2 a ha)) fun _ => ⟨k.2.1, fun a ha j m g l _ hb => I.tracked g l a hb (k.2.2 a ha)⟩
def sSet (i : Nat) (m : X1) : XS := fun E env => m env fun d => E.nx (env.set i (some d))
theorem mono_sSet {i : Nat} (hm : Mono m) : ∀ E E' env, PLe E E' → sSet i m E env → sSet i m E' env := fun E E' env p h => hm env _ _ (fun d q => p.1 _ q) h
theorem sim_setO {i : Nat} (fr : Free C i) (hi : i < Γ.length) (s : Sim C Γ te .own m) : SimS C Γl Γ (Γ.set i .o) (tAsg te (gName i)) (sSet i m) :=
  ⟨fun σ H env Fs D E I l h => s.run σ H env Fs _ I (s.mono env _ _ (fun d q v H1 F f dk r k => l.nx _ H1 _ _ (I.setO f dk fr hi r k) ⟨f.mono fun _ w => .inl w, fun j g a ha => by
    rcases get_set g with ⟨rfl, _, _⟩ | ⟨ne, g⟩
    · rw [setF_same] at ha; exact .inr (k.2.2 a ha)
    · rw [setF_ne ne] at ha; exact .inl ⟨j, g, ha⟩⟩ q) h), mono_sSet s.mono⟩
def noO (S : List Nat) (Γ : List Mo) : Bool := S.all fun i => decide (Γ[i]? ≠ some .o)
theorem sim_setF {i : Nat} {S : List Nat} (fr : Free C i) (hw : wk Γ Γ1 = true) (hS : noO S Γ1 = true) (hi : i < Γ1.length) (s : Sim C Γ te (.al S) m) : SimS C Γl Γ (Γ1.set i .f) (tAsg te (gName i)) (sSet i m) :=
  ⟨fun σ H env Fs D E I l h => s.run σ H env Fs _ I (s.mono env _ _ (fun d q v H1 F f dk r k => l.nx _ H1 _ _
    (((I.step f dk).weak hw).setA fr (.inr rfl) hi r k.1 (fun a ha j g _ hb => by
      have h1 := k.2 a ha j (wk_o hw g) hb
      have h2 := List.all_eq_true.mp hS j h1
      exact absurd g (of_decide_eq_true h2)) (fun z => nomatch z)) ⟨f.mono fun _ w => .inl w, fun j g a ha => by
    rcases get_set g with ⟨rfl, e, _⟩ | ⟨ne, g⟩
    · cases e
    · rw [setF_ne ne] at ha; exact .inl ⟨j, wk_o hw g, ha⟩⟩ q) h), mono_sSet s.mono⟩
def sIf (c : XB) (a b : XS) : XS := fun E env => c env fun k => if k = true then a E env else b E env
theorem sim_if {c : TT} {t u : TS} {mc : XB} {a b : XS} (s : SimT C Γ c mc) (s1 : SimS C Γl Γ Γ1 t a) (s2 : SimS C Γl Γ Γ1 u b) : SimS C Γl Γ Γ1 (tIfS c t u) (sIf mc a b) :=
  ⟨fun σ H env Fs D E I l h => s.run σ H env Fs _ I (s.mono env _ _ (fun k q H1 f dk => by
    cases k with
    | true => exact s1.run σ H1 env Fs D E (I.step f dk) (l.step (Go.ev f)) q
    | false => exact s2.run σ H1 env Fs D E (I.step f dk) (l.step (Go.ev f)) q) h),
   fun E E' env p h => s.mono env _ _ (fun k q => by
    cases k with
    | true => exact s1.mono _ _ env p q
    | false => exact s2.mono _ _ env p q) h⟩
def sRet (m : X1) : XS := fun E env => m env E.rt
theorem sim_ret (s : Sim C Γ te .own m) : SimS C Γl Γ Γ' (tRet te) (sRet m) :=
  ⟨fun σ H env Fs D E I l h => s.run σ H env Fs _ I (s.mono env _ _ (fun d q v H1 F f dk r k => l.rt v H1 d F (f.mono fun _ w => .inl w) dk r k.2.1 k.1 (fun a ha => .inr (k.2.2 a ha)) q) h),
   fun E E' env p h => s.mono env _ _ p.2.1 h⟩
def sDrop (m : X1) : XS := fun E env => m env fun _ => E.nx env
theorem sim_drop (s : Sim C Γ te A m) : SimS C Γl Γ Γ (tDrop te) (sDrop m) :=
  ⟨fun σ H env Fs D E I l h => s.run σ H env Fs _ I (s.mono env _ _ (fun d q v H1 F f dk r k => l.nx σ H1 env Fs (I.step f dk) (Go.ev f) q) h), fun E E' env p h => s.mono env _ _ (fun _ q => p.1 _ q) h⟩
def sNever : XS := fun _ _ => False
theorem sim_never : SimS C Γl Γ Γ' tNever sNever := ⟨fun σ H env Fs D E I l h => h, fun E E' env p h => h⟩
def sBreak : XS := fun E env => E.bk env
def sCont : XS := fun E env => E.ct env
end
end Pu
set_option Elab.async false
set_option linter.all false
set_option maxRecDepth 100000
namespace Pu
open PySem PySem.Spec PyProof.Rows L2
structure Walk (CT : Nat → Addr) (J : It) (S : List Addr) (P : Hp → Prop) (ds : List D) : Prop where
  keep : ∀ (W : Addr → Prop) (H H' : Hp), P H → Fr W H H' → (∀ a ∈ S, ¬ W a) → P H'
  there : ∀ H, P H → ∀ a ∈ S, H a ≠ none
  go : ∀ (i : Nat) (H : Hp), P H → i < ds.length → J.go i H
  stop : ∀ H, P H → J.stop ds.length H
  yld : ∀ (i : Nat) (H : Hp) (x : V) (H' : Hp), P H → i < ds.length → J.yld i H x H' → ∃ d G, ds[i]? = some d ∧ Fr (fun _ => False) H H' ∧ Rp CT H' x d G ∧ ∀ a ∈ G, a ∈ S
def KdS (C : Cfg) (Γ : List Mo) (Fs : Nat → List Addr) (A : Kd) (S : List Addr) : Prop := NoQ C S ∧ ∀ a ∈ S, ∀ i : Nat, Γ[i]? = some .o → a ∈ Fs i → i ∈ A.set
structure SimI (C : Cfg) (Γ : List Mo) (wi : TI) (A : Kd) (m : XL) : Prop where
  run : ∀ (σ : L2.St) (H : Hp) (env : PEnv) (Fs : Nat → List Addr) (R : It → Hp → Prop), Ok C Γ σ H env Fs →
    m env (fun ds => ∀ H' J S P, Fr (Wq C) H H' → DiceOk C H' → Walk C.CT J S P ds → P H' → KdS C Γ Fs A S → R J H') → wi σ H R
  mono : Mono m
abbrev XG := D → PEnv → (PEnv → Prop) → Prop
structure SimG (C : Cfg) (Γ Γ' : List Mo) (ks : List Nat) (g : TG) (b : XG) : Prop where
  run : ∀ (σ : L2.St) (H : Hp) (env : PEnv) (Fs : Nat → List Addr) (v : V) (d : D) (F : List Addr) (Q : L2.St → Hp → Prop), Ok C Γ σ H env Fs → Rp C.CT H v d F → NoQ C F → (∀ a ∈ F, ∀ j : Nat, Γ[j]? = some .o → a ∉ Fs j) →
    b d env (fun env' => ∀ σ' Fs', Ok C Γ' σ' H env' Fs' → (∀ j : Nat, Γ'[j]? = some .o ↔ Γ[j]? = some .o) → (∀ j : Nat, Γ[j]? = some .o → Fs' j = Fs j) → σ'.length = σ.length → (∀ j : Nat, j ∉ ks → σ'[j]? = σ[j]?) → Q σ' H) → g v σ H Q
  mono : ∀ d env Q Q', (∀ e, Q e → Q' e) → b d env Q → b d env Q'
def bName (i : Nat) : XG := fun d env Q => Q (env.set i (some d))
section
variable {C : Cfg} {Γ Γ' Γn Γl Γo Γt Γe Γ1 Γ2 : List Mo} {σ σ' : L2.St} {H H' H1 H2 : Hp} {env env' : PEnv} {Fs Fs' Fs1 Fs2 : Nat → List Addr} {v : V} {vs : List V} {d : D} {ds : List D} {F G : List Addr} {ta tb te : TE} {A B : Kd} {m n : X1}
theorem simg_name {i : Nat} (fr : Free C i) (hi : i < Γ.length) (ho : Γ[i]? ≠ some .o) : SimG C Γ (Γ.set i .f) [i] (gName i) (bName i) :=
  ⟨fun σ H env Fs v d F Q I r nq dj h => h _ _ (I.setA fr (.inr rfl) hi r nq (fun a ha j g _ => dj a ha j g) (fun z => nomatch z)) (fun j => ⟨fun g => by
    rcases get_set g with ⟨_, e, _⟩ | ⟨_, g⟩
    · cases e
    · exact g, fun g => by
    have ne : j ≠ i := fun e => ho (e ▸ g)
    rw [List.getElem?_set_ne (Ne.symm ne)]; exact g⟩) (fun j g => setF_ne fun e => ho (e ▸ g)) (by simp) (fun j hj => by
    rw [List.getElem?_set_ne (fun e => hj (by simp [e]))]), fun d env Q Q' h q => h _ q⟩
abbrev XGs := List D → PEnv → (PEnv → Prop) → Prop
structure SimGs (C : Cfg) (Γ Γ' : List Mo) (ks : List Nat) (g : TGs) (b : XGs) : Prop where
  run : ∀ (σ : L2.St) (H : Hp) (env : PEnv) (Fs : Nat → List Addr) (vs : List V) (ds : List D) (F : List Addr) (Q : L2.St → Hp → Prop), Ok C Γ σ H env Fs → Rps C.CT H vs ds F → NoQ C F → (∀ a ∈ F, ∀ j : Nat, Γ[j]? = some .o → a ∉ Fs j) →
    b ds env (fun env' => ∀ σ' Fs', Ok C Γ' σ' H env' Fs' → (∀ j : Nat, Γ'[j]? = some .o ↔ Γ[j]? = some .o) → (∀ j : Nat, Γ[j]? = some .o → Fs' j = Fs j) → σ'.length = σ.length → (∀ j : Nat, j ∉ ks → σ'[j]? = σ[j]?) → Q σ' H) → g vs σ H Q
  mono : ∀ d env Q Q', (∀ e, Q e → Q' e) → b d env Q → b d env Q'
def bNil : XGs := fun ds env Q => match ds with
  | [] => Q env
  | _ :: _ => False
def bCons (b : XG) (r : XGs) : XGs := fun ds env Q => match ds with
  | [] => False
  | d :: ds => b d env fun env' => r ds env' Q
theorem simgs_nil : SimGs C Γ Γ [] gNil bNil := ⟨fun σ H env Fs vs ds F Q I r nq dj h => by
  cases r with
  | nil => exact ⟨rfl, h σ Fs I (fun _ => Iff.rfl) (fun _ _ => rfl) rfl fun _ _ => rfl⟩
  | cons _ _ => exact (show False from h).elim, fun d env Q Q' k h => by cases d <;> first | exact k _ h | exact h⟩
theorem simgs_cons {ks ls : List Nat} {g : TG} {gs : TGs} {b : XG} {r : XGs} (s : SimG C Γ Γ1 ks g b) (s' : SimGs C Γ1 Γ2 ls gs r) : SimGs C Γ Γ2 (ks ++ ls) (gCons g gs) (bCons b r) :=
  ⟨fun σ H env Fs vs ds F Q I rr nq dj h => by
    cases rr with
    | nil => exact (show False from h).elim
    | cons hd tl =>
      rename_i v d F1 F2 vs ds
      refine ⟨v, vs, rfl, s.run σ H env Fs v d F1 _ I hd (nq.sub (List.sublist_append_left _ _)) (fun a ha => dj a (List.mem_append_left _ ha)) (s.mono _ _ _ _ (fun env' q σ1 Fs1 I1 o1 f1 l1 k1 => ?_) h)⟩
      refine s'.run σ1 H env' Fs1 vs ds F2 Q I1 tl (nq.sub (List.sublist_append_right _ _)) (fun a ha j g => by rw [f1 j ((o1 j).mp g)]; exact dj a (List.mem_append_right _ ha) j ((o1 j).mp g)) (s'.mono _ _ _ _ (fun env2 q σ2 Fs2 I2 o2 f2 l2 k2 => ?_) q)
      exact q σ2 Fs2 I2 (fun j => (o2 j).trans (o1 j)) (fun j g => (f2 j ((o1 j).mpr g)).trans (f1 j g)) (l2.trans l1) fun j hj => (k2 j fun z => hj (List.mem_append_right _ z)).trans (k1 j fun z => hj (List.mem_append_left _ z)),
   fun d env Q Q' k h => by
    cases d with
    | nil => exact h
    | cons d ds => exact s.mono _ _ _ _ (fun e q => s'.mono _ _ _ _ k q) h⟩
def bTup (n : Nat) (r : XGs) : XG := fun d env Q => match d with
  | .tup ds => ds.length = n ∧ r ds env Q
  | _ => False
theorem simg_tup {K : PySem.W.Frag} {ks : List Nat} {n : Nat} {gs : TGs} {r : XGs} (s : SimGs C Γ Γ1 ks gs r) : SimG C Γ Γ1 ks (gTup K n gs) (bTup n r) :=
  ⟨fun σ H env Fs v d F Q I rr nq dj h => by
    cases rr with
    | tup ha ra => exact ⟨_, _, rfl, SqT.of ha, by rw [ra.length]; exact h.1, s.run σ H env Fs _ _ _ Q I ra nq dj h.2⟩
    | _ => exact (show False from h).elim, fun d env Q Q' k h => by
    cases d <;> first | exact ⟨h.1, s.mono _ _ _ _ k h.2⟩ | exact h⟩
def sLoop (b : XG) (body : XS) : List D → XS
  | [] => fun E env => E.nx env
  | d :: ds => fun E env => b d env fun env1 => body { nx := sLoop b body ds E, rt := E.rt, bk := E.nx, ct := sLoop b body ds E } env1
def sFor (mi : XL) (b : XG) (body : XS) : XS := fun E env => mi env fun ds => sLoop b body ds E env
theorem mono_sLoop {b : XG} {body : XS} (hb : ∀ d env Q Q', (∀ e, Q e → Q' e) → b d env Q → b d env Q') (h : ∀ E E' env, PLe E E' → body E env → body E' env) : ∀ (ds : List D) (E E' : PEnds) (env : PEnv), PLe E E' → sLoop b body ds E env → sLoop b body ds E' env
  | [], E, E', env, p, q => p.1 _ q
  | d :: ds, E, E', env, p, q => hb _ _ _ _ (fun e q => h { nx := sLoop b body ds E, rt := E.rt, bk := E.nx, ct := sLoop b body ds E } { nx := sLoop b body ds E', rt := E'.rt, bk := E'.nx, ct := sLoop b body ds E' } e ⟨fun e q => mono_sLoop hb h ds E E' e p q, p.2.1, p.1, fun e q => mono_sLoop hb h ds E E' e p q⟩ q) q
theorem sim_for {wi : TI} {g : TG} {tb : TS} {mi : XL} {b : XG} {body : XS} {ks : List Nat} (s : SimI C Γ wi A mi) (hw : wk Γ Γl = true) (hS : noO A.set Γl = true) (sg : SimG C Γl Γt ks g b) (sb : SimS C Γl Γt Γe tb body) (hb : wk Γe Γl = true) :
    SimS C Γo Γ Γl (tFor wi g tb) (sFor mi b body) :=
  ⟨fun σ H env Fs D E I l h => s.run σ H env Fs _ I (s.mono env _ _ (fun ds q H1 J S P f dk wlk p kd => by
    have I1 : Ok C Γl σ H1 env Fs := (I.step f dk).weak hw
    have g1 : Go C Γ Fs H Γl Fs H1 := (Go.ev f).weak hw
    have nw : ∀ a ∈ S, ¬ WO C Γl Fs a := fun a ha w => by
      rcases w with w | ⟨i, gi, hb⟩
      · exact kd.1.wq a ha w
      · exact absurd gi (of_decide_eq_true (List.all_eq_true.mp hS i (kd.2 a ha i (wk_o hw gi) hb)))
    refine ⟨fun i m σ H => m = ds.length - i ∧ i ≤ ds.length ∧ ∃ env Fs2, Ok C Γl σ H env Fs2 ∧ Go C Γl Fs H1 Γl Fs2 H ∧ sLoop b body (ds.drop i) E env, ⟨ds.length, rfl, Nat.zero_le _, env, Fs, I1, Go.refl, q⟩, ?_⟩
    rintro i m σ2 H2 ⟨rfl, hi, env2, Fs2, I2, g2, q2⟩
    have p2 : P H2 := wlk.keep _ H1 H2 p g2.fr nw
    by_cases hlt : i < ds.length
    · refine .inr ⟨wlk.go i H2 p2 hlt, fun σ' H' => ∃ env Fs3, Ok C Γl σ' H' env Fs3 ∧ Go C Γl Fs H1 Γl Fs3 H' ∧ sLoop b body (ds.drop (i + 1)) E env, fun σ' H' hN => ⟨ds.length - (i + 1), by omega, rfl, hlt, hN⟩, fun x H3 y => ?_⟩
      obtain ⟨d, G, e, f3, r3, sub⟩ := wlk.yld i H2 x H3 p2 hlt y
      have hd : ds.drop i = d :: ds.drop (i + 1) := by
        obtain ⟨h1, h2⟩ := List.getElem?_eq_some_iff.mp e
        rw [← h2, List.drop_eq_getElem_cons h1]
      rw [hd] at q2
      have I3 : Ok C Γl σ2 H3 env2 Fs2 := I2.step f3.wq (I2.dk.keep f3)
      have g3 : Go C Γl Fs H1 Γl Fs2 H3 := g2.trans (Go.ev f3.wq)
      refine sg.run σ2 H3 env2 Fs2 x d G _ I3 r3 (fun p e => ⟨fun hm => (kd.1 p e).1 (sub _ hm), fun hm => (kd.1 p e).2 (sub _ hm)⟩) (fun a ha j gj hb => ?_) (sg.mono _ _ _ _ (fun env3 q3 σ4 Fs4 I4 o4 f4 _ _ => ?_) q2)
      · rcases g3.gr j gj a hb with ⟨k, gk, hk⟩ | z
        · exact nw a (sub a ha) (.inr ⟨k, gk, hk⟩)
        · exact wlk.there H1 p a (sub a ha) z
      · have g4 : Go C Γl Fs H1 Γt Fs4 H3 := ⟨g3.fr, fun j gj => by rw [f4 j ((o4 j).mp gj)]; exact g3.gr j ((o4 j).mp gj)⟩
        have g0 : Go C Γ Fs H Γt Fs4 H3 := g1.trans g4
        refine sb.run σ4 H3 env3 Fs4 _ _ I4 ⟨fun σ' H' env' Fs' I' g' q' => ⟨env', Fs', I'.weak hb, (g4.trans g').weak hb, q'⟩, fun σ' H' env' Fs' I' g' q' => l.nx σ' H' env' Fs' I' (g0.trans g') q', fun σ' H' env' Fs' I' g' q' => ⟨env', Fs', I', g4.trans g', q'⟩, ?_⟩ q3
        exact fun v H' d F f dk r nd nq mi q => l.rt v H' d F (Fr.behind g0 f) dk r nd nq (mi.back g0) q
    · have e : i = ds.length := by omega
      subst e
      rw [List.drop_length] at q2
      exact .inl ⟨wlk.stop H2 p2, l.nx σ2 H2 env2 Fs2 I2 (g1.trans g2) q2⟩) h),
   fun E E' env p h => s.mono env _ _ (fun ds q => mono_sLoop sg.mono sb.mono ds E E' env p q) h⟩
end
end Pu
set_option Elab.async false
set_option linter.all false
set_option maxRecDepth 100000
namespace Pu
open PySem PySem.Spec PyProof.Rows L2
abbrev XF := List D → (D → Prop) → Prop
inductive ArgsOk (C : Cfg) (H : Hp) : List Bool → List V → List D → List Addr → Prop
  | nil : ArgsOk C H [] [] [] []
  | dice {p : Addr × Addr} {pm : List Bool} {vs : List V} {ds : List D} {F : List Addr} : C.q = some p → ArgsOk C H pm vs ds F → ArgsOk C H (true :: pm) (.ref p.1 :: vs) (.non :: ds) F
  | val {v : V} {d : D} {pm : List Bool} {vs : List V} {ds : List D} {F G : List Addr} : Rp C.CT H v d F → ArgsOk C H pm vs ds G → ArgsOk C H (false :: pm) (v :: vs) (d :: ds) (F ++ G)
def SpM (S : Stat) (pm : List Bool) (mf : XF) : Sp := fun vs H Q _ => ∃ (C : Cfg) (ds : List D) (F : List Addr), C.toStat = S ∧ C.pin = [] ∧ ArgsOk C H pm vs ds F ∧ DiceOk C H ∧ NoQ C F ∧
  mf ds (fun d => ∀ v H' F', Fr (Wq C) H H' → DiceOk C H' → Rp C.CT H' v d F' → F'.Nodup → (∀ a ∈ F', H a = none) → Q v H')
def pmo (b : Bool) : Mo := if b = true then .q else .f
def Gam (N : Nat) (pm : List Bool) : List Mo := pm.map pmo ++ List.replicate (N - pm.length) .x
def env0 (N : Nat) (ds : List D) : PEnv := ds.map some ++ List.replicate (N - ds.length) none
def fnM (N : Nat) (body : XS) : XF := fun ds Q => body { nx := fun _ => Q .non, rt := Q } (env0 N ds)
section
variable {C : Cfg} {Γ Γ' Γn Γl Γo Γt Γe Γ1 Γ2 : List Mo} {σ σ' : L2.St} {H H' H1 H2 : Hp} {env env' : PEnv} {Fs Fs' Fs1 Fs2 : Nat → List Addr} {v : V} {vs : List V} {d : D} {ds : List D} {F G : List Addr} {ta tb te : TE} {A B : Kd} {m n : X1} {pm : List Bool}
theorem ArgsOk.len : ∀ {pm : List Bool} {vs : List V} {ds : List D} {F : List Addr}, ArgsOk C H pm vs ds F → vs.length = pm.length ∧ ds.length = pm.length
  | _, _, _, _, .nil => ⟨rfl, rfl⟩
  | _, _, _, _, .dice _ r => by have := r.len; simp [this]
  | _, _, _, _, .val _ r => by have := r.len; simp [this]
theorem ArgsOk.at : ∀ {pm : List Bool} {vs : List V} {ds : List D} {F : List Addr}, ArgsOk C H pm vs ds F → ∃ L : Nat → List Addr, ∀ (i : Nat) (b : Bool), pm[i]? = some b →
    (b = true → ∃ p, C.q = some p ∧ vs[i]? = some (.ref p.1)) ∧ (b = false → ∃ v d, vs[i]? = some v ∧ ds[i]? = some d ∧ Rp C.CT H v d (L i) ∧ (L i).Sublist F)
  | _, _, _, _, .nil => ⟨fun _ => [], fun i b e => by simp at e⟩
  | _, _, _, _, .dice q r => by
    obtain ⟨L, h⟩ := r.at
    refine ⟨fun i => L (i - 1), fun i b e => ?_⟩
    cases i with
    | zero =>
      simp at e; subst e
      exact ⟨(fun _ => ⟨_, q, rfl⟩), fun z => nomatch z⟩
    | succ i =>
      have := h i b (by simpa using e)
      simpa using this
  | _, _, _, _, .val (F := F) (G := G) rv r => by
    obtain ⟨L, h⟩ := r.at
    refine ⟨fun i => if i = 0 then F else L (i - 1), fun i b e => ?_⟩
    cases i with
    | zero =>
      simp at e; subst e
      exact ⟨(fun z => nomatch z), fun _ => ⟨_, _, rfl, rfl, by simpa using rv, by simpa using List.sublist_append_left _ _⟩⟩
    | succ i =>
      have h1 := h i b (by simpa using e)
      refine ⟨fun z => by simpa using h1.1 z, fun z => ?_⟩
      obtain ⟨v, d, h2, h3, h4, h5⟩ := h1.2 z
      exact ⟨v, d, by simpa using h2, by simpa using h3, by simpa using h4, by simpa using h5.trans (List.sublist_append_right _ _)⟩
theorem gam_at {N : Nat} {i : Nat} {mo : Mo} (h : (Gam N pm)[i]? = some mo) : (∃ b, pm[i]? = some b ∧ mo = pmo b) ∨ mo = .x := by
  unfold Gam at h
  by_cases hi : i < pm.length
  · rw [List.getElem?_append_left (by simpa using hi), List.getElem?_map] at h
    cases e : pm[i]? with
    | none => rw [e] at h; cases h
    | some b => rw [e] at h; cases h; exact .inl ⟨b, rfl, rfl⟩
  · rw [List.getElem?_append_right (by simpa using hi), List.getElem?_replicate] at h
    split at h <;> cases h
    exact .inr rfl
theorem pmo_o {b : Bool} : pmo b ≠ .o := by cases b <;> decide
theorem ok_start {N : List Str} (a : ArgsOk C H pm vs ds F) (nq : NoQ C F) (dk : DiceOk C H) (hN : pm.length ≤ N.length) (hpn : C.pin = []) : ∃ Fs, Ok C (Gam N.length pm) (L2.start N vs) H (env0 N.length ds) Fs := by
  obtain ⟨L, h⟩ := a.at
  obtain ⟨l1, l2⟩ := a.len
  have noo : ∀ i : Nat, (Gam N.length pm)[i]? ≠ some .o := fun i e => by
    rcases gam_at e with ⟨b, _, z⟩ | z
    · exact pmo_o z.symm
    · cases z
  refine ⟨L, ⟨?_, ?_, fun i m g l => ?_, fun i g => ?_, fun i g => absurd g (noo i), fun i j m g => absurd g (noo i), fun i m g l => ?_, dk, fun p hp => by rw [hpn] at hp; cases hp⟩⟩
  · unfold env0 Gam; simp [l2]
  · unfold L2.start Gam; simp [l1]
  · rcases gam_at g with ⟨b, hb, z⟩ | z
    · cases b with
      | true => rcases l with e | e <;> rw [z] at e <;> cases e
      | false =>
        obtain ⟨v, d, h1, h2, h3, h4⟩ := (h i false hb).2 rfl
        refine ⟨v, d, ?_, ?_, h3⟩
        · unfold L2.start
          have hi := (List.getElem?_eq_some_iff.mp h1).1
          rw [List.getElem?_append_left (by simpa using hi), List.getElem?_map, h1] <;> rfl
        · unfold env0
          have hi := (List.getElem?_eq_some_iff.mp h2).1
          rw [List.getElem?_append_left (by simpa using hi), List.getElem?_map, h2] <;> rfl
    · rcases l with e | e <;> rw [z] at e <;> cases e
  · rcases gam_at g with ⟨b, hb, z⟩ | z
    · cases b with
      | true =>
        obtain ⟨p, h1, h2⟩ := (h i true hb).1 rfl
        refine ⟨p, h1, ?_⟩
        unfold L2.start
        have hi := (List.getElem?_eq_some_iff.mp h2).1
        rw [List.getElem?_append_left (by simpa using hi), List.getElem?_map, h2] <;> rfl
      | false => cases z
    · cases z
  · rcases gam_at g with ⟨b, hb, z⟩ | z
    · cases b with
      | true => rcases l with e | e <;> rw [z] at e <;> cases e
      | false =>
        obtain ⟨v, d, h1, h2, h3, h4⟩ := (h i false hb).2 rfl
        exact nq.sub h4
    · rcases l with e | e <;> rw [z] at e <;> cases e
theorem fn_ok {P : Program} {w : World} {K : PySem.W.Frag} {mg : Str → Option Value} {base : Heap} {x qual : Str} {st : Stmt} {f : Addr} {fd : FuncData} {N ps : List Str} {k : Nat} {S0 : Stat} {body : XS} {pm : List Bool} {Γe : List Mo}
    (Fn : Fun K x qual st f fd) (S : FnScope N ps (defScope st)) (hp : pm.length = ps.length) (hN : pm.length ≤ N.length)
    (hbody : ∀ (cdv : Value) (A : Around) (outer : List Env) (s : Shared) (H : Hp) (E : XK), Room k (A.deeper (envOfC qual (defScope st) s.heap.objs.size f cdv)) →
      ∃ t, PSs (cxOf CX0 P w K mg base N qual (defScope st) f cdv A outer s H E).nox (defBody st) t ∧ ∀ q, SimS ⟨S0, q, []⟩ [] (Gam N.length pm) Γe t body) :
    FnOk P w K mg base CX0 (k + 1) f fd ps (SpM S0 pm (fnM N.length body)) := by
  refine Fn.ok S (fun vs H Q E ⟨C, ds, F, _, _, a, _⟩ => by rw [a.len.1, hp]) (fun cdv A outer s H vs Q E hr ⟨C, ds, F, hC, hpn, a, dk, nq, q⟩ => ?_)
  obtain ⟨t, ht, hs⟩ := hbody cdv A outer s H E hr
  obtain ⟨Fs, I⟩ := ok_start (N := N) a nq dk hN hpn
  refine ⟨t, ht, (show SimS C [] (Gam N.length pm) Γe t body by obtain ⟨st, q0, pin⟩ := C; cases hC; cases hpn; exact hs q0).run _ H _ Fs _ { nx := fun _ => _, rt := _ } I ⟨fun σ' H' env' Fs' I' g q => ?_, fun _ _ _ _ _ _ q => q, fun _ _ _ _ _ _ q => q, fun v H' d F f dk r nd nq mi q => ?_⟩ q⟩
  · have noo : ∀ i : Nat, (Gam N.length pm)[i]? ≠ some .o := fun i e => by
      rcases gam_at e with ⟨b, _, z⟩ | z
      · exact pmo_o z.symm
      · cases z
    refine q .non H' [] (g.fr.mono fun a w => ?_) I'.dk .non List.nodup_nil fun _ z => nomatch z
    rcases w with w | ⟨i, gi, _⟩
    · exact w
    · exact absurd gi (noo i)
  · have noo : ∀ i : Nat, (Gam N.length pm)[i]? ≠ some .o := fun i e => by
      rcases gam_at e with ⟨b, _, z⟩ | z
      · exact pmo_o z.symm
      · cases z
    refine q v H' F (f.mono fun a w => ?_) dk r nd fun a ha => ?_
    · rcases w with w | ⟨i, gi, _⟩
      · exact w
      · exact absurd gi (noo i)
    · rcases mi a ha with ⟨j, gj, _⟩ | z
      · exact absurd gj (noo j)
      · exact z
structure SimA (C : Cfg) (Γ : List Mo) (pm : List Bool) (t : TA) (m : XL) : Prop where
  run : ∀ (σ : L2.St) (H : Hp) (env : PEnv) (Fs : Nat → List Addr) (Q : List V → Hp → Prop), Ok C Γ σ H env Fs →
    m env (fun ds => ∀ vs H' F, Fr (Wq C) H H' → DiceOk C H' → ArgsOk C H' pm vs ds F → NoQ C F → Q vs H') → t σ H Q
  mono : Mono m
theorem mono_nil : Mono xNil := fun _ _ _ h q => h _ q
theorem mono_cons {m : X1} {r : XL} (h : Mono m) (h' : Mono r) : Mono (xCons m r) := fun env Q Q' k q => h env _ _ (fun d q => h' env _ _ (fun ds q => k _ q) q) q
theorem sima_nil : SimA C Γ [] tNil xNil := ⟨fun σ H env Fs Q I h => h [] H [] Fr.refl I.dk .nil NoQ.nil, mono_nil⟩
def xDice (r : XL) : XL := fun env Q => r env fun ds => Q (.non :: ds)
theorem sima_dice {i : Nat} {t : TA} {r : XL} (g : Γ[i]? = some .q) (s : SimA C Γ pm t r) : SimA C Γ (true :: pm) (tCons (tVar i) t) (xDice r) :=
  ⟨fun σ H env Fs Q I h => by
    obtain ⟨p, h1, h2⟩ := I.dice i g
    exact ⟨_, h2, s.run σ H env Fs _ I (s.mono env _ _ (fun ds q vs H1 F f dk a nq => q _ H1 F f dk (.dice h1 a) nq) h)⟩, fun env Q Q' k q => s.mono env _ _ (fun ds q => k _ q) q⟩
theorem ArgsOk.keep {W : Addr → Prop} : ∀ {pm : List Bool} {vs : List V} {ds : List D} {F : List Addr}, ArgsOk C H pm vs ds F → Fr W H H' → (∀ a ∈ F, ¬ W a) → ArgsOk C H' pm vs ds F
  | _, _, _, _, .nil, _, _ => .nil
  | _, _, _, _, .dice q r, f, n => .dice q (r.keep f n)
  | _, _, _, _, .val rv r, f, n => .val (rv.keep f fun a m => n a (List.mem_append_left _ m)) (r.keep f fun a m => n a (List.mem_append_right _ m))
theorem sima_val {te : TE} {t : TA} {r : XL} (s : Sim C Γ te A m) (s' : SimA C Γ pm t r) : SimA C Γ (false :: pm) (tCons te t) (xCons m r) :=
  ⟨fun σ H env Fs Q I h => s.run σ H env Fs _ I (s.mono env _ _ (fun d q v H1 F f1 dk1 r1 k1 => s'.run σ H1 env Fs _ (I.step f1 dk1) (s'.mono env _ _ (fun ds q vs H2 G f2 dk2 a2 nq2 =>
    q (v :: vs) H2 (F ++ G) (f1.trans f2) dk2 (.val (r1.keep f2 k1.1.wq) a2) (k1.1.app nq2)) q)) h), mono_cons s.mono s'.mono⟩
theorem ArgsOk.pinned {pn : List (Nat × V)} : ∀ {pm : List Bool} {vs : List V} {ds : List D} {F : List Addr}, ArgsOk C H pm vs ds F → ArgsOk { C with pin := pn } H pm vs ds F
  | _, _, _, _, .nil => .nil
  | _, _, _, _, .dice q r => .dice q r.pinned
  | _, _, _, _, .val rv r => .val rv r.pinned
def xCall (mf : XF) (r : XL) : X1 := fun env Q => r env fun ds => mf ds Q
def MonoF (mf : XF) : Prop := ∀ ds Q Q', (∀ d, Q d → Q' d) → mf ds Q → mf ds Q'
theorem free_nil {i : Nat} {st : Stat} {q : Option (Addr × Addr)} : Free ⟨st, q, []⟩ i := by unfold Free; simp
theorem sim_call {mf : XF} {t : TA} {r : XL} {S0 : Stat} (hC : C.toStat = S0) (hm : MonoF mf) (s : SimA C Γ pm t r) : Sim C Γ (tCall (SpM S0 pm mf) [] E0 t) .own (xCall mf r) :=
  ⟨fun σ H env Fs Q I h => s.run σ H env Fs _ I (s.mono env _ _ (fun ds q vs H1 F f dk a nq => by
    show SpM S0 pm mf (vs ++ []) H1 Q E0
    rw [List.append_nil]
    refine ⟨{ C with pin := [] }, ds, F, hC, rfl, a.pinned, dk, nq, hm ds _ _ (fun d q v H2 F2 f2 dk2 r2 nd fr => ?_) q⟩
    exact q v H2 F2 (f.trans f2) dk2 r2 ⟨NoQ.new dk fr, nd, fun a ha => f.there a (fr a ha)⟩) h), fun env Q Q' k q => s.mono env _ _ (fun ds q => hm ds _ _ k q) q⟩
theorem monoF_fn {N : Nat} {body : XS} (h : ∀ E E' env, PLe E E' → body E env → body E' env) : MonoF (fnM N body) := fun ds Q Q' k q => h { nx := fun _ => Q .non, rt := Q } _ _ ⟨fun _ z => k _ z, k, fun _ z => z, fun _ z => z⟩ q
def bTest (m : X1) : XB := fun env Q => m env fun d => match d with
  | .bl b => Q b
  | _ => False
theorem mono_bTest (h : Mono m) : Mono (bTest m) := fun env Q Q' k q => h env _ _ (fun d q => by cases d <;> first | exact k _ q | exact q) q
theorem simt_test {t : TE} (s : Sim C Γ t A m) : SimT C Γ (tTest t) (bTest m) := ⟨fun σ H env Fs Q I h => s.run σ H env Fs _ I (s.mono env _ _ (fun d q v H1 F f dk r k => by
    cases r <;> first | exact ⟨_, rfl, q H1 f dk⟩ | exact (show False from q).elim) h), mono_bTest s.mono⟩
theorem simt_B {t : TE} (s : Sim C Γ t A m) : SimT C Γ (tB t) (bTest m) := ⟨fun σ H env Fs Q I h => s.run σ H env Fs _ I (s.mono env _ _ (fun d q v H1 F f dk r k => by
    cases r <;> first | exact ⟨_, rfl, q H1 f dk⟩ | exact (show False from q).elim) h), mono_bTest s.mono⟩
def bAnd (a b : XB) : XB := fun env Q => a env fun c => if c = true then b env Q else Q false
def bOr (a b : XB) : XB := fun env Q => a env fun c => if c = true then Q true else b env Q
def bNot (a : XB) : XB := fun env Q => a env fun c => Q (!c)
theorem simt_or {t u : TT} {a b : XB} (s : SimT C Γ t a) (s' : SimT C Γ u b) : SimT C Γ (tOr t u) (bOr a b) := ⟨fun σ H env Fs Q I h => s.run σ H env Fs _ I (s.mono env _ _ (fun c q H1 f dk => by
    cases c with
    | false =>
      rw [if_neg Bool.false_ne_true] at q ⊢
      exact s'.run σ H1 env Fs _ (I.step f dk) (s'.mono env _ _ (fun c q H2 f2 dk2 => q H2 (f.trans f2) dk2) q)
    | true =>
      rw [if_pos rfl] at q ⊢
      exact q H1 f dk) h), fun env Q Q' k q => s.mono env _ _ (fun c q => by
    cases c with
    | false => exact s'.mono env _ _ k q
    | true => exact k _ q) q⟩
theorem simt_not {t : TT} {a : XB} (s : SimT C Γ t a) : SimT C Γ (tNot t) (bNot a) := ⟨fun σ H env Fs Q I h => s.run σ H env Fs _ I (s.mono env _ _ (fun c q H1 f dk => q H1 f dk) h), fun env Q Q' k q => s.mono env _ _ (fun c q => k _ q) q⟩
def xAnd (a b : X1) : X1 := fun env Q => a env fun d => match d with
  | .bl c => if c = true then b env Q else Q (.bl false)
  | _ => False
def xOr (a b : X1) : X1 := fun env Q => a env fun d => match d with
  | .bl c => if c = true then Q (.bl true) else b env Q
  | _ => False
def xNot (a : X1) : X1 := fun env Q => a env fun d => match d with
  | .bl c => Q (.bl (!c))
  | _ => False
theorem KdOk.back {H0 : Hp} {A : Kd} (f : Fr (Wq C) H0 H) (k : KdOk C Γ Fs H A F) : KdOk C Γ Fs H0 A F := by
  refine ⟨k.1, ?_⟩
  cases A with
  | own => exact ⟨k.2.1, fun a ha => f.there a (k.2.2 a ha)⟩
  | al S => exact k.2
theorem sim_and (s : Sim C Γ ta A m) (s' : Sim C Γ tb B n) : Sim C Γ (tAndV ta tb) B (xAnd m n) := ⟨fun σ H env Fs Q I h => s.run σ H env Fs _ I (s.mono env _ _ (fun d q v H1 F f dk r k => by
    cases r <;> first | skip | exact (show False from q).elim
    all_goals first
      | exact (show False from q).elim
      | (rename_i c
         refine ⟨c, rfl, ?_⟩
         cases c with
         | true => exact s'.run σ H1 env Fs _ (I.step f dk) (s'.mono env _ _ (fun d q v H2 G f2 dk2 r2 k2 => q v H2 G (f.trans f2) dk2 r2 (k2.back f)) q)
         | false => exact q _ H1 [] f dk (.bl _) KdOk.nil)) h), fun env Q Q' k q => s.mono env _ _ (fun d q => by
    cases d <;> first | exact q | skip
    rename_i c
    cases c with
    | true => exact s'.mono env _ _ k q
    | false => exact k _ q) q⟩
theorem sim_not (s : Sim C Γ ta A m) : Sim C Γ (tNotV ta) .own (xNot m) := ⟨fun σ H env Fs Q I h => s.run σ H env Fs _ I (s.mono env _ _ (fun d q v H1 F f dk r k => by
    cases r
    all_goals first
      | exact (show False from q).elim
      | exact ⟨_, rfl, q _ H1 [] f dk (.bl _) KdOk.own_nil⟩) h), fun env Q Q' k q => s.mono env _ _ (fun d q => by
    cases d <;> first | exact q | exact k _ q) q⟩
def xIf (c : XB) (a b : X1) : X1 := fun env Q => c env fun k => if k = true then a env Q else b env Q
theorem sim_if2 {t : TT} {c : XB} (s0 : SimT C Γ t c) (s : Sim C Γ ta A m) (s' : Sim C Γ tb A n) : Sim C Γ (tIf t ta tb) A (xIf c m n) := ⟨fun σ H env Fs Q I h => s0.run σ H env Fs _ I (s0.mono env _ _ (fun c q H1 f dk => by
    cases c with
    | true => exact s.run σ H1 env Fs _ (I.step f dk) (s.mono env _ _ (fun d q v H2 G f2 dk2 r2 k2 => q v H2 G (f.trans f2) dk2 r2 (k2.back f)) q)
    | false => exact s'.run σ H1 env Fs _ (I.step f dk) (s'.mono env _ _ (fun d q v H2 G f2 dk2 r2 k2 => q v H2 G (f.trans f2) dk2 r2 (k2.back f)) q)) h), fun env Q Q' k q => s0.mono env _ _ (fun c q => by
    cases c with
    | true => exact s.mono env _ _ k q
    | false => exact s'.mono env _ _ k q) q⟩
def xChain (o o' : O2) (a b c : X1) : X1 := fun env Q => a env fun x => b env fun y => o x y fun z => match z with
  | .bl k => if k = true then c env fun w => o' y w Q else Q (.bl false)
  | _ => False
theorem sim_chain {r r' : R2} {o o' : O2} {tc : TE} {A' : Kd} {mc : X1} (h : SimO2 C.CT r o) (h' : SimO2 C.CT r' o') (s1 : Sim C Γ ta A m) (s2 : Sim C Γ tb B n) (s3 : Sim C Γ tc A' mc) : Sim C Γ (tChain r r' ta tb tc) .own (xChain o o' m n mc) :=
  ⟨fun σ H env Fs Q I q => s1.run σ H env Fs _ I (s1.mono env _ _ (fun x q v H1 F f dk r1 k1 => s2.run σ H1 env Fs _ (I.step f dk) (s2.mono env _ _ (fun y q w H2 G f2 dk2 r2 k2 =>
    h.run H2 v w x y F G _ (r1.keep f2 k1.1.wq) r2 (h.mono x y _ _ (fun z q u H3 P f3 r3 nd3 fr3 => by
      have f13 := (f.trans f2).trans f3.wq
      have dk3 := dk2.keep f3
      cases r3
      all_goals first
        | exact (show False from q).elim
        | (rename_i k
           refine ⟨k, rfl, ?_⟩
           cases k with
           | true =>
             rw [if_pos rfl]
             dsimp only at q
             rw [if_pos rfl] at q
             refine s3.run σ H3 env Fs _ (I.step f13 dk3) (s3.mono env _ _ (fun w' q u' H4 P4 f4 dk4 r4 k4 => ?_) q)
             exact h'.run H4 w u' y w' G P4 Q ((r2.keep f3 fun _ _ z => z).keep f4 k2.1.wq) r4 (h'.mono y w' _ _ (fun x k => fin_new I (f13.trans f4) dk4 k) q)
           | false =>
             rw [if_neg Bool.false_ne_true]
             dsimp only at q
             rw [if_neg Bool.false_ne_true] at q
             exact q _ H3 [] f13 dk3 (.bl _) KdOk.own_nil)) q)) q)) q),
   fun env Q Q' k q => s1.mono env _ _ (fun x q => s2.mono env _ _ (fun y q => h.mono x y _ _ (fun z q => by
    cases z <;> first | exact q | skip
    rename_i c
    cases c with
    | true => exact s3.mono env _ _ (fun w q => h'.mono y w _ _ k q) q
    | false => exact k _ q) q) q) q⟩
end
end Pu
set_option Elab.async false
set_option linter.all false
set_option maxRecDepth 100000
namespace Pu
open PySem PySem.Spec PyProof.Rows L2
def iSeq (K : PySem.W.Frag) (tl : TE) : TI := fun σ H R => tl σ H fun x H1 => ∃ a, x = .ref a ∧ (((∃ xs, SqL K H1 a xs) ∧ R (Itl K a) H1) ∨ ((∃ xs, SqT K H1 a xs) ∧ R (Itt K a) H1))
theorem pi_seq {X : Cx} {tg l : Expr} {tl : TE} (hl : PE X l tl) : PI X tg l (iSeq X.K tl) := by
  refine ⟨fun pins s σ H R I h => ?_⟩
  refine thn (hl.run pins s σ H _ I h) fun v s1 ⟨x, H1, I1, r1, q1⟩ => ?_
  obtain ⟨a, e, q1⟩ := q1
  subst e
  cases r1
  have e0 : ∀ b ∈ [s1.heap.objs.size], FpOk X pins H1 b := fun b hb => by
    have e : b = s1.heap.objs.size := by simpa using hb
    subst e
    exact I1.fpOk (Nat.le_refl _) (I1.hok.fresh (Nat.le_refl _))
  rcases q1 with ⟨⟨xs, hq⟩, q⟩ | ⟨⟨xs, hq⟩, q⟩
  · obtain ⟨its, rv, p, hz⟩ := I1.list hq
    refine wpAny_pyIter_list p.isList ?_
    exact ⟨s1.heap.objs.size, [s1.heap.objs.size], _, _, H1, rfl, I1.kept (t' := s1.toks) fun b o e => Heap.get?_push_of_some _ e, turn_list a _, ⟨_, Heap.get?_push_size _ rfl, rfl, rfl⟩, e0, q⟩
  · obtain ⟨its, rv, p, hz⟩ := I1.tuple hq
    refine wpAny_pyIter_tuple (show s1.heap.IsTuple a its.toArray from p) ?_
    exact ⟨s1.heap.objs.size, [s1.heap.objs.size], _, _, H1, rfl, I1.kept (t' := s1.toks) fun b o e => Heap.get?_push_of_some _ e, turn_tuple a _, ⟨_, Heap.get?_push_size _ rfl, rfl, rfl⟩, e0, q⟩
section
variable {C : Cfg} {Γ Γ' Γn Γl Γo Γt Γe Γ1 Γ2 : List Mo} {σ σ' : L2.St} {H H' H1 H2 : Hp} {env env' : PEnv} {Fs Fs' Fs1 Fs2 : Nat → List Addr} {v : V} {vs : List V} {d : D} {ds : List D} {F G : List Addr} {ta tb te : TE} {A B : Kd} {m n : X1} {K : PySem.W.Frag} {CT : Nat → Addr}
theorem Rps.getV : ∀ {vs : List V} {ds : List D} {F : List Addr} {j : Nat} {v : V}, Rps CT H vs ds F → vs[j]? = some v → ∃ d G, ds[j]? = some d ∧ Rp CT H v d G ∧ G.Sublist F := fun {vs ds F j v} r e => by
  have hj := (List.getElem?_eq_some_iff.mp e).1
  rw [r.length] at hj
  obtain ⟨v', G, h1, h2, h3⟩ := r.get (List.getElem?_eq_getElem hj)
  rw [e] at h1; cases h1
  exact ⟨_, G, List.getElem?_eq_getElem hj, h2, h3⟩
theorem walk_lst {a : Addr} : Walk CT (Itl K a) (a :: F) (fun H => H a = some (.lst vs) ∧ Rps CT H vs ds F) ds where
  keep := fun W H H' ⟨h, r⟩ f n => ⟨f.keep _ _ h (n _ List.mem_cons_self), r.keep f fun b hb => n b (List.mem_cons_of_mem _ hb)⟩
  there := fun H ⟨h, r⟩ b hb => (Rp.lst h r).tracked b hb
  go := fun i H ⟨h, r⟩ hi => by
    rw [← r.length] at hi
    exact ⟨vs, vs[i], SqL.of h, List.getElem?_eq_getElem hi⟩
  stop := fun H ⟨h, r⟩ => ⟨vs, SqL.of h, by rw [r.length]; exact Nat.le_refl _⟩
  yld := fun i H x H' ⟨h, r⟩ hi ⟨e, y⟩ => by
    subst e
    obtain ⟨d, G, h1, h2, h3⟩ := r.getV (y vs (SqL.of h))
    exact ⟨d, G, h1, Fr.refl, h2, fun b hb => List.mem_cons_of_mem _ (h3.mem hb)⟩
theorem walk_tpl {a : Addr} : Walk CT (Itt K a) F (fun H => H a = some (.tup vs) ∧ Rps CT H vs ds F) ds where
  keep := fun W H H' ⟨h, r⟩ f n => ⟨f.im _ _ h rfl, r.keep f n⟩
  there := fun H ⟨h, r⟩ b hb => r.tracked b hb
  go := fun i H ⟨h, r⟩ hi => by
    rw [← r.length] at hi
    exact ⟨vs, vs[i], SqT.of h, List.getElem?_eq_getElem hi⟩
  stop := fun H ⟨h, r⟩ => ⟨vs, SqT.of h, by rw [r.length]; exact Nat.le_refl _⟩
  yld := fun i H x H' ⟨h, r⟩ hi ⟨e, y⟩ => by
    subst e
    obtain ⟨d, G, h1, h2, h3⟩ := r.getV (y vs (SqT.of h))
    exact ⟨d, G, h1, Fr.refl, h2, fun b hb => h3.mem hb⟩
def mSeq (m : X1) : XL := fun env Q => m env fun d => match d with
  | .lst ds => Q ds
  | .tup ds => Q ds
  | _ => False
theorem simi_seq (s : Sim C Γ te A m) : SimI C Γ (iSeq K te) A (mSeq m) := ⟨fun σ H env Fs R I h => s.run σ H env Fs _ I (s.mono env _ _ (fun d q v H1 F f dk r k => by
    have kd := k.set I
    cases r with
    | lst ha ra => exact ⟨_, rfl, .inl ⟨⟨_, SqL.of ha⟩, q H1 _ _ _ f dk walk_lst ⟨ha, ra⟩ ⟨k.1, kd⟩⟩⟩
    | tup ha ra => exact ⟨_, rfl, .inr ⟨⟨_, SqT.of ha⟩, q H1 _ _ _ f dk walk_tpl ⟨ha, ra⟩ ⟨k.1, kd⟩⟩⟩
    | _ => exact (show False from q).elim) h), fun env Q Q' k q => s.mono env _ _ (fun d q => by cases d <;> first | exact k _ q | exact q) q⟩
def rgD (lo : Int) (n : Nat) : List D := (List.range n).map fun k => .int (lo + (k : Nat))
theorem rgD_len {lo : Int} {n : Nat} : (rgD lo n).length = n := by simp [rgD]
theorem walk_rng {lo : Int} {n : Nat} : Walk CT (Itr lo n) [] (fun _ => True) (rgD lo n) where
  keep := fun _ _ _ _ _ _ => trivial
  there := fun _ _ _ hb => nomatch hb
  go := fun i H _ hi => by rw [rgD_len] at hi; exact hi
  stop := fun H _ => by show n ≤ (rgD lo n).length; rw [rgD_len]; exact Nat.le_refl _
  yld := fun i H x H' _ hi ⟨e, y⟩ => by
    subst e y
    rw [rgD_len] at hi
    refine ⟨.int (lo + (i : Nat)), [], ?_, Fr.refl, .int _, fun _ hb => nomatch hb⟩
    unfold rgD
    rw [List.getElem?_map, List.getElem?_range hi] <;> rfl
def RgOk (i : Int) : Prop := -(2 ^ 62) ≤ i ∧ i < 2 ^ 62
def mRng1 (m : X1) : XL := fun env Q => m env fun d => match d with
  | .int j => RgOk j ∧ Q (rgD 0 j.toNat)
  | _ => False
def mRng2 (m n : X1) : XL := fun env Q => m env fun d => n env fun e => match d, e with
  | .int i, .int j => RgOk i ∧ RgOk j ∧ Q (rgD i (j - i).toNat)
  | _, _ => False
theorem kds_nil {A : Kd} : KdS C Γ Fs A [] := ⟨NoQ.nil, fun _ h => nomatch h⟩
theorem simi_rng1 (s : Sim C Γ te A m) : SimI C Γ (iRng1 (tCons te tNil)) .own (mRng1 m) := ⟨fun σ H env Fs R I h => s.run σ H env Fs _ I (s.mono env _ _ (fun d q v H1 F f dk r k => by
    cases r with
    | int j => exact ⟨j, rfl, q.1.1, q.1.2, q.2 H1 _ _ _ f dk walk_rng trivial kds_nil⟩
    | _ => exact (show False from q).elim) h), fun env Q Q' k q => s.mono env _ _ (fun d q => by cases d <;> first | exact ⟨q.1, k _ q.2⟩ | exact q) q⟩
def enD : Nat → List D → List D
  | _, [] => []
  | i, d :: ds => .tup [.int (i : Nat), d] :: enD (i + 1) ds
end
end Pu
set_option Elab.async false
set_option linter.all false
set_option maxRecDepth 100000
namespace Pu
open PySem PySem.Spec PyProof.Rows L2
def wipeG (Γ : List Mo) : List Nat → List Mo
  | [] => Γ
  | v :: vs => (wipeG Γ vs).set v .x
def bYes : XB := fun _ Q => Q true
def lcLoop (b : XG) (mt : XB) (me : X1) (env : PEnv) : List D → List D → (List D → Prop) → Prop
  | [], acc, Q => Q acc
  | d :: ds, acc, Q => b d env fun env1 => mt env1 fun k => if k = true then me env1 fun y => acc.length < sizeLine ∧ lcLoop b mt me env ds (acc ++ [y]) Q else lcLoop b mt me env ds acc Q
def xLc (mi : XL) (b : XG) (mt : XB) (me : X1) : X1 := fun env Q => mi env fun ds => lcLoop b mt me env ds [] fun acc => Q (.lst acc)
section
variable {C : Cfg} {Γ Γ' Γn Γl Γo Γt Γe Γ1 Γ2 Γf : List Mo} {σ σ' : L2.St} {H H' H1 H2 : Hp} {env env' : PEnv} {Fs Fs' Fs1 Fs2 : Nat → List Addr} {v : V} {vs : List V} {d : D} {ds : List D} {F G : List Addr} {ta tb te : TE} {A B : Kd} {m n : X1} {K : PySem.W.Frag} {CT : Nat → Addr}
theorem simt_yes : SimT C Γ tYes bYes := ⟨fun σ H env Fs Q I h => h H Fr.refl I.dk, fun _ _ _ k q => k _ q⟩
theorem Ok.forget (I : Ok C Γ σ H env Fs) {i : Nat} (fr : Free C i) : Ok C (Γ.set i .x) (σ.set i none) H env Fs := by
  have ne : ∀ {j : Nat} {m : Mo}, (Γ.set i .x)[j]? = some m → m ≠ .x → j ≠ i ∧ Γ[j]? = some m := fun g h => by
    rcases get_set g with ⟨_, e, _⟩ | r
    · exact absurd e h
    · exact r
  have lv : ∀ {m : Mo}, live m → m ≠ .x := fun l e => by rcases l with z | z <;> rw [z] at e <;> cases e
  refine ⟨by simp [I.le], by simp [I.ls], fun j m g l => ?_, fun j g => ?_, fun j g => I.nd j (ne g (by decide)).2, fun j k m g g' l => I.dj j k m (ne g (by decide)).2 (ne g' (lv l)).2 l, fun j m g l => I.nq j m (ne g (lv l)).2 l, I.dk, fun p hp => by
    have ne : i ≠ p.1 := fun e => fr (by rw [e]; exact List.mem_map.mpr ⟨p, hp, rfl⟩)
    rw [List.getElem?_set_ne ne]; exact I.pn p hp⟩
  · obtain ⟨n, g⟩ := ne g (lv l)
    obtain ⟨v, d, h1, h2, h3⟩ := I.val j m g l
    exact ⟨v, d, by rw [List.getElem?_set_ne (Ne.symm n)]; exact h1, h2, h3⟩
  · obtain ⟨n, g⟩ := ne g (by decide)
    obtain ⟨p, h1, h2⟩ := I.dice j g
    exact ⟨p, h1, by rw [List.getElem?_set_ne (Ne.symm n)]; exact h2⟩
theorem Ok.wipe (I : Ok C Γ σ H env Fs) : ∀ ks : List Nat, (∀ k ∈ ks, Free C k) → Ok C (wipeG Γ ks) (L2.wipe σ ks) H env Fs
  | [], _ => I
  | k :: ks, h => (I.wipe ks fun j hj => h j (List.mem_cons_of_mem _ hj)).forget (h k List.mem_cons_self)
theorem wipe_eq {ks : List Nat} (hl : σ'.length = σ.length) (h : ∀ j : Nat, j ∉ ks → σ'[j]? = (L2.wipe σ ks)[j]?) (hl2 : σ'.length = (L2.wipe σ ks).length) : L2.wipe σ' ks = L2.wipe σ ks := by
  apply List.ext_getElem?
  intro j
  by_cases hj : j ∈ ks
  · have a : ∀ (τ : L2.St), τ.length = σ.length → (L2.wipe τ ks)[j]? = if j < σ.length then some none else none := fun τ e => by
      clear h hl hl2
      induction ks with
      | nil => exact absurd hj (by simp)
      | cons k ks ih =>
        unfold L2.wipe
        by_cases e2 : j = k
        · subst e2
          rw [List.getElem?_set, if_pos rfl, L2.wipe_length, e]
        · rw [List.getElem?_set_ne (Ne.symm e2)]
          exact ih (by simpa [e2] using hj)
    rw [a σ' hl, a σ rfl]
  · rw [L2.wipe_out hj, h j hj]
theorem Fr.hid {W : Addr → Prop} {p : Addr} {o : HO} (f : Fr W H H1) (h : H p = none) : Fr W H (upd H1 p o) := by
  refine ⟨fun a x e n => ?_, fun a x e n => ?_, fun a e => ?_⟩
  · rw [upd_ne (ne_of_none e h)]; exact f.keep a x e n
  · rw [upd_ne (ne_of_none e h)]; exact f.im a x e n
  · by_cases q : a = p
    · rw [q, upd_same] at e; cases e
    · rw [upd_ne q] at e; exact f.there a e
theorem DiceOk.upd {p : Addr} {o : HO} (x : DiceOk C H1) (f : Fr (Wq C) H H1) (h : H p = none) (x0 : DiceOk C H) : DiceOk C (L2.upd H1 p o) := fun q e => by
  obtain ⟨o1, u1, h1, h2, r⟩ := (x q e).ex
  exact ⟨o1, u1, by rw [upd_ne (fun z => (x0 q e).t1 (by rw [z]; exact h))]; exact h1, by rw [upd_ne (fun z => (x0 q e).t2 (by rw [z]; exact h))]; exact h2, r⟩
theorem Rps.upd {p : Addr} {o u : HO} (r : Rps CT H vs ds F) (h : H p = some u) (hi : Im u = false) (n : p ∉ F) : Rps CT (L2.upd H p o) vs ds F :=
  r.keep (W := fun a => a = p) (Fr.at rfl h hi) fun a ha e => n (e ▸ ha)
theorem Rp.upd {p : Addr} {o u : HO} (r : Rp CT H v d F) (h : H p = some u) (hi : Im u = false) (n : p ∉ F) : Rp CT (L2.upd H p o) v d F :=
  r.keep (W := fun a => a = p) (Fr.at rfl h hi) fun a ha e => n (e ▸ ha)
theorem mono_lcLoop {b : XG} {mt : XB} {me : X1} (hb : ∀ d env Q Q', (∀ e, Q e → Q' e) → b d env Q → b d env Q') (ht : Mono mt) (he : Mono me) : ∀ (ds acc : List D) (Q Q' : List D → Prop), (∀ x, Q x → Q' x) → lcLoop b mt me env ds acc Q → lcLoop b mt me env ds acc Q'
  | [], acc, Q, Q', k, q => k _ q
  | d :: ds, acc, Q, Q', k, q => hb _ _ _ _ (fun e q => ht _ _ _ (fun c q => by
    cases c with
    | true => exact he _ _ _ (fun y q => ⟨q.1, mono_lcLoop hb ht he ds _ Q Q' k q.2⟩) q
    | false => exact mono_lcLoop hb ht he ds acc Q Q' k q) q) q
theorem sim_lc {wi : TI} {g : TG} {tt : TT} {ws ks : List Nat} {mi : XL} {b : XG} {mt : XB} {me : X1} (frs : ∀ k ∈ ws, Free C k) (s : SimI C Γ wi A mi) (hw : wk Γ Γf = true) (hS : noO A.set Γf = true) (sg : SimG C (wipeG Γf ws) Γt ks g b) (hk : ks.all (fun k => decide (k ∈ ws)) = true)
    (st : SimT C Γt tt mt) (se : Sim C Γt te .own me) : Sim C Γ (tLc wi g tt te ws) .own (xLc mi b mt me) :=
  ⟨fun σ H env Fs Q I h => s.run σ H env Fs _ I (s.mono env _ _ (fun ds q H1 J S P f dk wlk p kd Dl hD => by
    have I1 : Ok C (wipeG Γf ws) (L2.wipe σ ws) H1 env Fs := ((I.step f dk).weak hw).wipe ws frs
    have lw : (L2.wipe σ ws).length = σ.length := L2.wipe_length σ ws
    have ho : ∀ j : Nat, (wipeG Γf ws)[j]? = some .o → Γf[j]? = some .o := by
      clear sg hk I1 lw frs
      induction ws with
      | nil => exact fun j g => g
      | cons k ws ih =>
        intro j g
        rcases get_set g with ⟨_, e, _⟩ | ⟨_, g⟩
        · cases e
        · exact ih j g
    refine ⟨fun i m H => m = ds.length - i ∧ i ≤ ds.length ∧ ∃ accV accD F, H Dl = some (.lst accV) ∧ Rps C.CT H accV accD F ∧ Fr (Wq C) H1 H ∧ DiceOk C H ∧ F.Nodup ∧ (∀ a ∈ F, H1 a = none ∧ a ≠ Dl) ∧
      lcLoop b mt me env (ds.drop i) accD (fun acc => ∀ v H' F, Fr (Wq C) _ H' → DiceOk C H' → Rp C.CT H' v (.lst acc) F → KdOk C Γ Fs _ .own F → Q v H'), ⟨ds.length, rfl, Nat.zero_le _, [], [], [], upd_same, .nil, Fr.refl.hid hD, dk.keep (Fr.new hD), List.nodup_nil, (fun _ z => nomatch z), q⟩, ?_⟩
    rintro i m H2 ⟨rfl, hi, accV, accD, F, e2, r2, f2, dk2, nd2, fr2, q2⟩
    have nqS : ∀ a ∈ S, ¬ Wq C a := kd.1.wq
    have p2 : P H2 := wlk.keep _ H1 H2 p f2 nqS
    by_cases hlt : i < ds.length
    · refine .inr ⟨wlk.go i H2 p2 hlt, fun H' => ∃ accV accD F, H' Dl = some (.lst accV) ∧ Rps C.CT H' accV accD F ∧ Fr (Wq C) H1 H' ∧ DiceOk C H' ∧ F.Nodup ∧ (∀ a ∈ F, H1 a = none ∧ a ≠ Dl) ∧
        lcLoop b mt me env (ds.drop (i + 1)) accD (fun acc => ∀ v H' F, Fr (Wq C) _ H' → DiceOk C H' → Rp C.CT H' v (.lst acc) F → KdOk C Γ Fs _ .own F → Q v H'), fun H' hN => ⟨ds.length - (i + 1), by omega, rfl, hlt, hN⟩, fun x H3 y => ?_⟩
      obtain ⟨d, G, e, f3, r3, sub⟩ := wlk.yld i H2 x H3 p2 hlt y
      have hd : ds.drop i = d :: ds.drop (i + 1) := by
        obtain ⟨h1, h2⟩ := List.getElem?_eq_some_iff.mp e
        rw [← h2, List.drop_eq_getElem_cons h1]
      rw [hd] at q2
      have dk3 : DiceOk C H3 := dk2.keep f3
      have f13 : Fr (Wq C) H1 H3 := f2.trans f3.wq
      refine sg.run _ H3 env Fs x d G _ (I1.step f13 dk3) r3 (fun p e => ⟨fun hm => (kd.1 p e).1 (sub _ hm), fun hm => (kd.1 p e).2 (sub _ hm)⟩) (fun a ha j gj hb => ?_) (sg.mono _ _ _ _ (fun env4 q4 σ4 Fs4 I4 o4 fs4 l4 k4 => ⟨?_, ?_⟩) q2)
      · have gj := ho j gj
        exact absurd gj (of_decide_eq_true (List.all_eq_true.mp hS j (kd.2 a (sub a ha) j (wk_o hw gj) hb)))
      · refine wipe_eq (l4.trans lw) (fun j hj => k4 j fun z => hj (of_decide_eq_true (List.all_eq_true.mp hk j z))) l4
      · have e3 : H3 Dl = some (.lst accV) := f3.keep _ _ e2 fun z => z
        have r3' : Rps C.CT H3 accV accD F := r2.keep f3 fun _ _ z => z
        refine st.run σ4 H3 env4 Fs4 _ I4 (st.mono _ _ _ (fun c q5 H5 f5 dk5 => ?_) q4)
        have nqF : ∀ a ∈ F, ¬ Wq C a := (NoQ.new dk fun a ha => (fr2 a ha).1).wq
        have nqD : ¬ Wq C Dl := fun w => wq_there dk w hD
        have e5 : H5 Dl = some (.lst accV) := f5.keep _ _ e3 nqD
        have r5 : Rps C.CT H5 accV accD F := r3'.keep f5 nqF
        have f15 : Fr (Wq C) H1 H5 := f13.trans f5
        cases c with
        | true =>
          rw [if_pos rfl] at q5 ⊢
          refine se.run σ4 H5 env4 Fs4 _ (I4.step f5 dk5) (se.mono _ _ _ (fun y q6 w H6 G6 f6 dk6 r6 k6 => ?_) q5)
          have e6 : H6 Dl = some (.lst accV) := f6.keep _ _ e5 nqD
          have nG : Dl ∉ G6 := fun z => by
            have := k6.2.2 Dl z
            rw [e5] at this; cases this
          have nF : Dl ∉ F := fun z => (fr2 Dl z).2 rfl
          refine ⟨accV, e6, by rw [r5.length]; exact q6.1, accV ++ [w], accD ++ [y], F ++ (G6 ++ []), upd_same, ((r5.keep f6 nqF).upd e6 rfl nF).append (.cons (r6.upd e6 rfl nG) .nil), (f15.trans f6).hid hD, dk6.upd (f15.trans f6) hD dk, ?_, fun a ha => ?_, q6.2⟩
          · rw [List.append_nil]
            refine List.nodup_append.mpr ⟨nd2, k6.2.1, fun a ha b hb e => ?_⟩
            subst e
            exact r5.tracked a ha (k6.2.2 a hb)
          · rw [List.append_nil] at ha
            rcases List.mem_append.mp ha with ha | ha
            · exact fr2 a ha
            · exact ⟨f15.there a (k6.2.2 a ha), fun z => nG (z ▸ ha)⟩
        | false =>
          rw [if_neg Bool.false_ne_true] at q5 ⊢
          exact ⟨accV, accD, F, e5, r5, f15, dk5, nd2, fr2, q5⟩
    · have e : i = ds.length := by omega
      subst e
      rw [List.drop_length] at q2
      refine .inl ⟨wlk.stop H2 p2, q2 (.ref Dl) H2 (Dl :: F) (f.trans f2) dk2 (.lst e2 r2) ⟨NoQ.new dk fun a ha => ?_, List.nodup_cons.mpr ⟨fun z => (fr2 Dl z).2 rfl, nd2⟩, fun a ha => ?_⟩⟩
      · rcases List.mem_cons.mp ha with z | ha
        · rw [z]; exact hD
        · exact (fr2 a ha).1
      · rcases List.mem_cons.mp ha with z | ha
        · rw [z]; exact f.there _ hD
        · exact f.there _ (fr2 a ha).1) h),
   fun env Q Q' k q => s.mono env _ _ (fun ds q => mono_lcLoop sg.mono st.mono se.mono ds [] _ _ (fun acc q => k _ q) q) q⟩
end
end Pu
set_option Elab.async false
set_option linter.all false
set_option maxRecDepth 100000
namespace Pu
open PySem PySem.Spec PyProof.Rows L2
section
variable {C : Cfg} {Γ Γ' Γn Γl Γo Γt Γe Γ1 Γ2 : List Mo} {σ σ' : L2.St} {H H' H1 H2 : Hp} {env env' : PEnv} {Fs Fs' Fs1 Fs2 : Nat → List Addr} {v : V} {vs : List V} {d : D} {ds : List D} {F G : List Addr} {ta tb tc te : TE} {A B : Kd} {m n mc : X1} {K : PySem.W.Frag} {CT : Nat → Addr}
structure SimO (C : Cfg) (Γ : List Mo) (t : TO) (m : PEnv → (Option Int → Prop) → Prop) : Prop where
  run : ∀ (σ : L2.St) (H : Hp) (env : PEnv) (Fs : Nat → List Addr) (Q : Option Int → Hp → Prop), Ok C Γ σ H env Fs →
    m env (fun b => ∀ H', Fr (Wq C) H H' → DiceOk C H' → Q b H') → t σ H Q
  mono : Mono m
def pNo : PEnv → (Option Int → Prop) → Prop := fun _ Q => Q none
def pYes (m : X1) : PEnv → (Option Int → Prop) → Prop := fun env Q => m env fun d => match d with
  | .int i => Q (some i)
  | _ => False
theorem simo_no : SimO C Γ tNoPart pNo := ⟨fun σ H env Fs Q I h => h H Fr.refl I.dk, fun _ _ _ k q => k _ q⟩
theorem simo_yes (s : Sim C Γ te A m) : SimO C Γ (tPart te) (pYes m) := ⟨fun σ H env Fs Q I h => s.run σ H env Fs _ I (s.mono env _ _ (fun d q v H1 F f dk r k => by
    cases r <;> first | exact ⟨_, rfl, q H1 f dk⟩ | exact (show False from q).elim) h), fun env Q Q' k q => s.mono env _ _ (fun d q => by cases d <;> first | exact k _ q | exact q) q⟩
def cutD {α : Type} (xs : List α) (lo hi : Option Int) : List α := (xs.drop (HT.sIx xs.length 0 lo)).take (HT.sIx xs.length xs.length hi - HT.sIx xs.length 0 lo)
def rSlU (K : PySem.W.Frag) : V → Option Int → Option Int → Hp → VK → Prop := fun x lo hi H Q => rSlA K x lo hi H Q ∨ rSlL K x lo hi H Q
theorem sl_U {X : Cx} : SlR X (rSlU X.K) := sl_tupA.or sl_list
def xSl (m : X1) (l u : PEnv → (Option Int → Prop) → Prop) : X1 := fun env Q => m env fun d => l env fun lo => u env fun hi => match d with
  | .tup xs => immL xs = true ∧ Q (.tup (cutD xs lo hi))
  | .lst xs => immL xs = true ∧ Q (.lst (cutD xs lo hi))
  | _ => False
theorem cut_whole {xs : List D} {lo hi : Option Int} (h : HT.sIx xs.length 0 lo = 0 ∧ HT.sIx xs.length xs.length hi = xs.length) : cutD xs lo hi = xs := by
  unfold cutD
  rw [h.1, h.2]
  simp
theorem Rps.cut (r : Rps CT H vs ds []) (lo hi : Option Int) : Rps CT H (cutV vs lo hi) (cutD ds lo hi) [] := by
  unfold cutV cutD
  rw [r.length]
  exact (r.drop _).take _
theorem sim_sl {tl th : TO} {l u : PEnv → (Option Int → Prop) → Prop} (s : Sim C Γ te A m) (s1 : SimO C Γ tl l) (s2 : SimO C Γ th u) : Sim C Γ (tSl (rSlU K) te tl th) .own (xSl m l u) :=
  ⟨fun σ H env Fs Q I h => s.run σ H env Fs _ I (s.mono env _ _ (fun d q v H1 F f dk r k => s1.run σ H1 env Fs _ (I.step f dk) (s1.mono env _ _ (fun lo q H2 f2 dk2 => s2.run σ H2 env Fs _ (I.step (f.trans f2) dk2) (s2.mono env _ _ (fun hi q H3 f3 dk3 => by
    have r3 := r.keep (f2.trans f3) k.1.wq
    have ff := f.trans (f2.trans f3)
    cases r3 with
    | tup ha ra =>
      have e := ra.imm q.1
      subst e
      refine .inl ⟨_, _, rfl, SqT.of ha, fun hh => ?_, fun hh p hp => ?_⟩
      · rw [ra.length] at hh
        have := q.2
        rw [cut_whole hh] at this
        exact this _ H3 [] ff dk3 (.tup ha ra) KdOk.own_nil
      · exact q.2 _ _ [] (ff.trans (Fr.new hp)) (dk3.keep (Fr.new hp)) (.tup upd_same ((ra.cut lo hi).keep (W := fun _ => False) (Fr.new hp) fun _ z => nomatch z)) KdOk.own_nil
    | lst ha ra =>
      have e := ra.imm q.1
      subst e
      exact .inr ⟨_, _, rfl, SqL.of ha, fun p hp => q.2 _ _ [p] (ff.trans (Fr.new hp)) (dk3.keep (Fr.new hp)) (.lst upd_same ((ra.cut lo hi).keep (W := fun _ => False) (Fr.new hp) fun _ z => nomatch z)) ⟨NoQ.new dk3 fun a ha => (by rw [List.mem_singleton.mp ha]; exact hp), (by simp), fun a ha => (by rw [List.mem_singleton.mp ha]; exact ff.there p hp)⟩⟩
    | _ => exact (show False from q).elim) q)) q)) h),
   fun env Q Q' k q => s.mono env _ _ (fun d q => s1.mono env _ _ (fun lo q => s2.mono env _ _ (fun hi q => by cases d <;> first | exact ⟨q.1, k _ q.2⟩ | exact q) q) q) q⟩
def oLen : O1 := fun d Q => match d with
  | .lst xs => Q (.int (xs.length : Nat))
  | .tup xs => Q (.int (xs.length : Nat))
  | _ => False
def rLen (K : PySem.W.Frag) : List V → Hp → VK → Prop := fun xs H Q => ∃ p ys, xs = [.ref p] ∧ (SqL K H p ys ∨ SqT K H p ys) ∧ Q (.int ys.length) H
theorem sc_len : SimC1 CT (rLen K) oLen := ⟨fun H v d F Q a q => by
  cases a with
  | lst ha ra => exact ⟨_, _, rfl, .inl (SqL.of ha), by rw [ra.length]; exact New.imm q (.int _)⟩
  | tup ha ra => exact ⟨_, _, rfl, .inr (SqT.of ha), by rw [ra.length]; exact New.imm q (.int _)⟩
  | _ => exact (show False from q).elim, fun d Q Q' k q => by cases d <;> first | exact k _ q | exact q⟩
def rListO (K : PySem.W.Frag) : List V → Hp → VK → Prop := fun xs H Q => ∃ p ys, xs = [.ref p] ∧ (SqL K H p ys ∨ SqT K H p ys) ∧ ∀ l, H l = none → Q (.ref l) (upd H l (.lst ys))
def oList : O1 := fun d Q => match d with
  | .lst xs => immL xs = true ∧ Q (.lst xs)
  | .tup xs => immL xs = true ∧ Q (.lst xs)
  | _ => False
theorem sc_list : SimC1 CT (rListO K) oList := ⟨fun H v d F Q a q => by
  cases a with
  | lst ha ra =>
    have e := ra.imm q.1; subst e
    exact ⟨_, _, rfl, .inl (SqL.of ha), fun l hl => New.at1 q.2 hl (.lst upd_same (ra.keep (W := fun _ => False) (Fr.new hl) fun _ z => nomatch z))⟩
  | tup ha ra =>
    have e := ra.imm q.1; subst e
    exact ⟨_, _, rfl, .inr (SqT.of ha), fun l hl => New.at1 q.2 hl (.lst upd_same (ra.keep (W := fun _ => False) (Fr.new hl) fun _ z => nomatch z))⟩
  | _ => exact (show False from q).elim, fun d Q Q' k q => by cases d <;> first | exact ⟨q.1, k _ q.2⟩ | exact q⟩
def rTupO (K : PySem.W.Frag) : List V → Hp → VK → Prop := fun xs H Q => ∃ p ys, xs = [.ref p] ∧ ((SqL K H p ys ∧ ∀ l, H l = none → Q (.ref l) (upd H l (.tup ys))) ∨ (SqT K H p ys ∧ Q (.ref p) H))
def oTup : O1 := fun d Q => match d with
  | .lst xs => immL xs = true ∧ Q (.tup xs)
  | .tup xs => immL xs = true ∧ Q (.tup xs)
  | _ => False
theorem sc_tup : SimC1 CT (rTupO K) oTup := ⟨fun H v d F Q a q => by
  cases a with
  | lst ha ra =>
    have e := ra.imm q.1; subst e
    exact ⟨_, _, rfl, .inl ⟨SqL.of ha, fun l hl => New.at q.2 hl (.tup upd_same (ra.keep (W := fun _ => False) (Fr.new hl) fun _ z => nomatch z))⟩⟩
  | tup ha ra =>
    have e := ra.imm q.1; subst e
    exact ⟨_, _, rfl, .inr ⟨SqT.of ha, New.imm q.2 (.tup ha ra)⟩⟩
  | _ => exact (show False from q).elim, fun d Q Q' k q => by cases d <;> first | exact ⟨q.1, k _ q.2⟩ | exact q⟩
def oAny (all : Bool) : O1 := fun d Q => match d with
  | .lst xs => ∃ bs : List Bool, xs = bs.map D.bl ∧ Q (.bl (if all then bs.all id else bs.any id))
  | _ => False
theorem mono_oAny {all : Bool} : Mono1 (oAny all) := fun d Q Q' k q => by
  cases d <;> first | exact q | skip
  obtain ⟨ns, e, q⟩ := q
  exact ⟨ns, e, k _ q⟩
theorem sc_all : SimC1 CT (rAll K) (oAny true) := ⟨fun H v d F Q a q => by
  cases a with
  | lst ha ra =>
    obtain ⟨ns, rfl, q⟩ := q
    obtain ⟨rfl, _⟩ := ra.bls
    exact ⟨_, _, rfl, SqL.of ha, New.imm q (.bl _)⟩
  | _ => exact (show False from q).elim, mono_oAny⟩
def rAbs : List V → Hp → VK → Prop := fun xs H Q => ∃ i, xs = [.int i] ∧ Q (.int (if i < 0 then -i else i)) H
def rInt1 : List V → Hp → VK → Prop := fun xs H Q => (∃ i, xs = [.int i] ∧ Q (.int i) H) ∨ ∃ k, xs = [.bl k] ∧ Q (.int (if k then 1 else 0)) H
def oInt : O1 := fun d Q => match d with
  | .int i => Q (.int i)
  | .bl b => Q (.int (if b then 1 else 0))
  | _ => False
theorem sc_int : SimC1 CT rInt1 oInt := ⟨fun H v d F Q a q => by
  cases a with
  | int i => exact .inl ⟨_, rfl, New.imm q (.int _)⟩
  | bl i => exact .inr ⟨_, rfl, New.imm q (.int _)⟩
  | _ => exact (show False from q).elim, fun d Q Q' k q => by cases d <;> first | exact k _ q | exact q⟩
def xLRg1 (m : X1) : X1 := fun env Q => m env fun d => match d with
  | .int j => L2.RgOk 0 j ∧ Q (.lst (rgD 0 (j - 0).toNat))
  | _ => False
def atF (c0 : Nat) (f : Str) : O1 := fun d Q => match d with
  | .obj c gs => c = c0 ∧ (match gs.lookup f with | some x => Q x | none => False)
  | .fz c gs => c = c0 ∧ (match gs.lookup f with | some x => Q x | none => False)
  | _ => False
theorem lookup_F {f : Str} {x : D} : ∀ {fs : List (Str × V)} {gs : List (Str × D)} {F : List Addr}, fs.map (·.1) = gs.map (·.1) → Rps CT H (fs.map (·.2)) (gs.map (·.2)) F → gs.lookup f = some x → ∃ v G, fs.lookup f = some v ∧ Rp CT H v x G ∧ G.Sublist F
  | [], [], _, _, _, h => by simp at h
  | [], _ :: _, _, e, _, _ => by simp at e
  | _ :: _, [], _, e, _, _ => by simp at e
  | (a, p) :: fs, (b, q) :: gs, _, e, .cons (F := F) r rs, h => by
    simp only [List.map_cons, List.cons.injEq] at e
    obtain ⟨e1, e2⟩ := e
    have e1 : a = b := e1
    subst e1
    rw [List.lookup_cons] at h ⊢
    by_cases hf : (f == a) = true
    · rw [hf] at h ⊢
      cases h
      exact ⟨p, F, rfl, r, List.sublist_append_left _ _⟩
    · rw [Bool.not_eq_true] at hf
      rw [hf] at h ⊢
      obtain ⟨v, G, h1, h2, h3⟩ := lookup_F e2 rs h
      exact ⟨v, G, h1, h2, h3.trans (List.sublist_append_right _ _)⟩
theorem sim_fld {c0 : Nat} {f : Str} (hc : Cls K (C.CT c0)) (hn : NoAttr K (C.CT c0) f) (s : Sim C Γ te A m) : Sim C Γ (tFld K te f) A (x1 (atF c0 f) m) :=
  ⟨fun σ H env Fs Q I h => s.run σ H env Fs _ I (s.mono env _ _ (fun d q v H1 F f1 dk r k => by
    cases r with
    | obj ha hk ra =>
      obtain ⟨rfl, q⟩ := q
      cases e : List.lookup f _ with
      | none => rw [e] at q; exact q.elim
      | some x =>
        rw [e] at q
        obtain ⟨v, G, h1, h2, h3⟩ := lookup_F hk ra e
        exact ⟨_, _, _, _, v, rfl, ha, hc, hn, h1, q v H1 G f1 dk h2 (k.sub (h3.trans (List.sublist_cons_self _ _)))⟩
    | fz ha hz hk ra =>
      obtain ⟨rfl, q⟩ := q
      cases e : List.lookup f _ with
      | none => rw [e] at q; exact q.elim
      | some x =>
        rw [e] at q
        obtain ⟨v, G, h1, h2, h3⟩ := lookup_F hk ra e
        exact ⟨_, _, _, _, v, rfl, ha, hc, hn, h1, q v H1 G f1 dk h2 (k.sub h3)⟩
    | _ => exact (show False from q).elim) h),
   mono_x1 (fun d Q Q' k q => by
    cases d with
    | obj c gs =>
      refine ⟨q.1, ?_⟩
      have q2 := q.2
      revert q2
      cases List.lookup f gs with
      | none => exact fun z => z
      | some x => exact k x
    | fz c gs =>
      refine ⟨q.1, ?_⟩
      have q2 := q.2
      revert q2
      cases List.lookup f gs with
      | none => exact fun z => z
      | some x => exact k x
    | _ => exact q) s.mono⟩
def sAug (i : Nat) (o : O2) (m : X1) : XS := fun E env => xVar i env fun d => m env fun e => o d e fun x => E.nx (env.set i (some x))
theorem Ok.root (I : Ok C Γ σ H env Fs) {i : Nat} (g : Γ[i]? = some .o) {a : Addr} {o u : HO} {d' : D} {F' : List Addr} (hv : σ[i]? = some (some (.ref a))) (ha : H a = some o) (hi : Im o = false) (hm : a ∈ Fs i)
    (r : Rp C.CT (upd H a u) (.ref a) d' F') (nd : F'.Nodup) (sub : ∀ b ∈ F', b ∈ Fs i ∨ ∀ (j : Nat) (m : Mo), Γ[j]? = some m → live m → b ∉ Fs j) (nq : NoQ C F') :
    Ok C Γ σ (upd H a u) (env.set i (some d')) (setF Fs i F') := by
  have fr : Fr (fun b => b = a) H (upd H a u) := Fr.at rfl ha hi
  have hΓ : i < Γ.length := (List.getElem?_eq_some_iff.mp g).1
  refine ⟨by simp [I.le], I.ls, fun j m gj l => ?_, I.dice, fun j gj => ?_, fun j k m gj gk l ne b hb hb' => ?_, fun j m gj l => ?_, fun p e => ?_, I.pn⟩
  · by_cases e : j = i
    · subst e
      exact ⟨_, d', hv, by rw [List.getElem?_set_self (by rw [I.le]; exact hΓ)], by rw [setF_same]; exact r⟩
    · obtain ⟨v, d, h1, h2, h3⟩ := I.val j m gj l
      refine ⟨v, d, h1, by rw [List.getElem?_set_ne (Ne.symm e)]; exact h2, ?_⟩
      rw [setF_ne e]
      exact h3.keep fr fun b hb z => I.dj i j m g gj l (Ne.symm e) a hm (z ▸ hb)
  · by_cases e : j = i
    · subst e; rw [setF_same]; exact nd
    · rw [setF_ne e]; exact I.nd j gj
  · by_cases e : j = i
    · subst e
      rw [setF_same] at hb
      rw [setF_ne (Ne.symm ne)] at hb'
      rcases sub b hb with z | z
      · exact I.dj j k m g gk l ne b z hb'
      · exact z k m gk l hb'
    · rw [setF_ne e] at hb
      by_cases e2 : k = i
      · subst e2
        rw [setF_same] at hb'
        rcases sub b hb' with z | z
        · exact I.dj j k .o gj g (.inl rfl) ne b hb z
        · exact z j .o gj (.inl rfl) hb
      · rw [setF_ne e2] at hb'
        exact I.dj j k m gj gk l ne b hb hb'
  · by_cases e : j = i
    · subst e; rw [setF_same]; exact nq
    · rw [setF_ne e]; exact I.nq j m gj l
  · obtain ⟨o1, u1, h1, h2, r1⟩ := (I.dk p e).ex
    have nq := I.nq i _ g (.inl rfl) p e
    exact ⟨o1, u1, by rw [upd_ne (fun z => nq.1 (by rw [z]; exact hm))]; exact h1, by rw [upd_ne (fun z => nq.2 (by rw [z]; exact hm))]; exact h2, r1⟩
theorem Lk.root {D : Ends} {E : PEnds} (lk : Lk C Γ Fs H Γ Γl D E) (I : Ok C Γ σ H env Fs) (f : Fr (Wq C) H H1) (dk : DiceOk C H1) {i : Nat} (g : Γ[i]? = some .o) {a : Addr} {o u : HO} {d' : Pu.D} {F F' G : List Addr}
    (hv : σ[i]? = some (some (.ref a))) (ha : H1 a = some o) (hi : Im o = false) (e : Fs i = a :: F) (r : Rp C.CT (L2.upd H1 a u) (.ref a) d' (a :: F')) (nd : F'.Nodup) (na : a ∉ F') (sub : ∀ b ∈ F', b ∈ F ∨ H b = none)
    (q : E.nx (env.set i (some d'))) : D.nx σ (L2.upd H1 a u) := by
  have hm : a ∈ Fs i := by rw [e]; exact List.mem_cons_self
  have hs : ∀ b ∈ a :: F', b ∈ Fs i ∨ H b = none := fun b hb => by
    rcases List.mem_cons.mp hb with z | hb
    · rw [z]; exact .inl hm
    · rcases sub b hb with z | z
      · rw [e]; exact .inl (List.mem_cons_of_mem _ z)
      · exact .inr z
  have nq : NoQ C (a :: F') := fun p ep => by
    have h1 := I.nq i _ g (.inl rfl) p ep
    refine ⟨fun z => ?_, fun z => ?_⟩
    · rcases hs _ z with z | z
      · exact h1.1 z
      · exact (I.dk p ep).t1 z
    · rcases hs _ z with z | z
      · exact h1.2 z
      · exact (I.dk p ep).t2 z
  have I1 := I.step f dk
  refine lk.nx σ _ _ _ (I1.root g hv ha hi hm r (List.nodup_cons.mpr ⟨na, nd⟩) (fun b hb => ?_) nq) ⟨?_, fun j gj b hb => ?_⟩ q
  · rcases hs b hb with z | z
    · exact .inl z
    · exact .inr fun j m gj l hb => I.tracked gj l b hb z
  · exact (f.mono fun _ w => .inl w).trans (Fr.at (.inr ⟨i, g, hm⟩) ha hi)
  · by_cases ej : j = i
    · subst ej
      rw [setF_same] at hb
      rcases hs b hb with z | z
      · exact .inl ⟨j, g, z⟩
      · exact .inr z
    · rw [setF_ne ej] at hb; exact .inl ⟨j, gj, hb⟩
def onL (xs : D) (k : List D → Prop) : Prop := match xs with
  | .lst ds => k ds
  | _ => False
theorem onL_mono {d : D} {k k' : List D → Prop} (h : ∀ ds, k ds → k' ds) (q : onL d k) : onL d k' := by cases d <;> first | exact h _ q | exact q
theorem Rp.onL {k : List D → Prop} (r : Rp CT H v d F) (q : onL d k) : ∃ a vs ds F', v = .ref a ∧ d = .lst ds ∧ F = a :: F' ∧ H a = some (.lst vs) ∧ Rps CT H vs ds F' ∧ k ds := by
  cases r with
  | lst ha ra => exact ⟨_, _, _, _, rfl, rfl, rfl, ha, ra, q⟩
  | _ => exact (show False from q).elim
def sApp (i : Nat) (m : X1) : XS := fun E env => xVar i env fun d => onL d fun xs => m env fun e => xs.length < sizeLine ∧ E.nx (env.set i (some (.lst (xs ++ [e]))))
theorem sim_app {i : Nat} (g : Γ[i]? = some .o) (s : Sim C Γ te .own m) : SimS C Γl Γ Γ (tDrop (tBM K "list" rAppend (tVar i) (tCons te tNil))) (sApp i m) :=
  ⟨fun σ H env Fs D E I lk hh => by
    obtain ⟨v, d, h1, h2, h3⟩ := I.val i _ g (.inl rfl)
    have hh : xVar i env _ := hh
    unfold xVar at hh
    rw [h2] at hh
    obtain ⟨a, vs, ds, F, rfl, rfl, eF, ha, ra, hh⟩ := h3.onL hh
    refine ⟨_, h1, .inl ⟨rfl, _, SqL.of ha⟩, s.run σ H env Fs _ I (s.mono env _ _ (fun e q w H1 G f dk r2 k2 => ?_) hh)⟩
    have nqa := I.nq i _ g (.inl rfl)
    rw [eF] at nqa
    have nda := I.nd i g
    rw [eF] at nda
    have ha1 := f.keep _ _ ha (nqa.wq a List.mem_cons_self)
    have ra1 := ra.keep f fun b hb => nqa.wq b (List.mem_cons_of_mem _ hb)
    have nG : a ∉ G := fun z => by
      have := k2.2.2 a z
      rw [ha] at this; cases this
    have nF : a ∉ F := (List.nodup_cons.mp nda).1
    refine ⟨a, vs, w, rfl, rfl, ha1, by rw [ra.length]; exact q.1, lk.root I f dk g h1 ha1 rfl eF (F' := F ++ (G ++ [])) (G := G) (.lst upd_same ((ra1.upd ha1 rfl nF).append (.cons (r2.upd ha1 rfl nG) .nil))) ?_ ?_ (fun b hb => ?_) q.2⟩
    · rw [List.append_nil]
      refine List.nodup_append.mpr ⟨(List.nodup_cons.mp nda).2, k2.2.1, fun b hb c hc z => ?_⟩
      subst z
      exact ra.tracked b hb (k2.2.2 b hc)
    · rw [List.append_nil]
      exact fun z => (List.mem_append.mp z).elim nF nG
    · rw [List.append_nil] at hb
      exact (List.mem_append.mp hb).imp id fun hb => k2.2.2 b hb,
   fun E E' env p q => mono_var env _ _ (fun d q => onL_mono (fun ds q => s.mono env _ _ (fun e q => ⟨q.1, p.1 _ q.2⟩) q) q) q⟩
theorem Rps.set : ∀ {vs : List V} {ds : List D} {F : List Addr} (j : Nat), Rps CT H vs ds F → Rp CT H v d G → ∃ F', Rps CT H (vs.set j v) (ds.set j d) F' ∧ (∀ b ∈ F', b ∈ F ∨ b ∈ G) ∧ ((F ++ G).Nodup → F'.Nodup)
  | _, _, _, _, .nil, _ => ⟨[], .nil, (fun b h => nomatch h), fun _ => List.nodup_nil⟩
  | _, _, _, 0, .cons (F := F1) (G := F2) r rs, q => ⟨G ++ F2, .cons q rs, (fun b h => (List.mem_append.mp h).elim .inr fun h => .inl (List.mem_append_right _ h)), fun n => by
    rw [List.append_assoc] at n
    have n2 := (List.nodup_append.mp n).2.1
    exact (List.perm_append_comm.nodup_iff).mp n2⟩
  | _, _, _, j + 1, .cons (F := F1) (G := F2) r rs, q => by
    obtain ⟨F', h1, h2, h3⟩ := Rps.set j rs q
    refine ⟨F1 ++ F', .cons r h1, fun b h => ?_, fun n => ?_⟩
    · rcases List.mem_append.mp h with h | h
      · exact .inl (List.mem_append_left _ h)
      · exact (h2 b h).imp (List.mem_append_right _) id
    · rw [List.append_assoc] at n
      obtain ⟨n1, n2, n3⟩ := List.nodup_append.mp n
      refine List.nodup_append.mpr ⟨n1, h3 n2, fun x hx y hy e => n3 x hx y ?_ e⟩
      exact List.mem_append.mpr (h2 y hy)
def rSetU : V → V → V → Hp → (Hp → Prop) → Prop := fun o i v H Q => rSetL o i v H Q ∨ ∃ a H4, o = .ref a ∧ DPut H a i v H4 ∧ Q H4
theorem set_U {X : Cx} (hu : X.A.units + 1 < cLine) : PSet X rSetU := by
  intro pins s σ H o i v ov iv u Q I ro ri rv h
  rcases h with h | ⟨a, H4, rfl, g, q⟩
  · exact set_list pins s σ H o i v ov iv u Q I ro ri rv h
  · obtain rfl : ov = Value.ref a := ro
    exact d_setItem hu I g ri rv fun s4 I4 => ⟨H4, I4, q⟩
def putD {κ : Type} [DecidableEq κ] (kvs : List (κ × D)) (k : κ) (v : D) : List (κ × D) := if kvs.any fun kv => decide (kv.1 = k) then kvs.map fun kv => if kv.1 = k then (kv.1, v) else kv else kvs ++ [(k, v)]
def setD (d e x : D) (Q : D → Prop) : Prop := match d with
  | .lst xs => (match e with | .int i => (match ixN xs.length i with | some j => Q (.lst (xs.set j x)) | none => False) | _ => False)
  | .dK kvs => (match e.key? with | some k => kvs.length < sizeLine ∧ (kvs.map (·.1)).Nodup ∧ Q (.dK (putD kvs k x)) | none => False)
  | .dT kvs => (match e.tkey? with | some k => kvs.length < sizeLine ∧ (kvs.map (·.1)).Nodup ∧ Q (.dT (putD kvs k x)) | none => False)
  | _ => False
theorem putD_any {κ : Type} [DecidableEq κ] {k : κ} : ∀ {kvs : List (κ × V)} {kds : List (κ × D)}, kvs.map (·.1) = kds.map (·.1) → (kvs.any fun kv => decide (kv.1 = k)) = kds.any fun kv => decide (kv.1 = k)
  | [], [], _ => rfl
  | [], _ :: _, e => by simp at e
  | _ :: _, [], e => by simp at e
  | p :: kvs, q :: kds, e => by
    simp only [List.map_cons, List.cons.injEq] at e
    rw [List.any_cons, List.any_cons, e.1, putD_any e.2]
theorem put_map {κ : Type} [DecidableEq κ] {k : κ} (q : Rp CT H v d G) : ∀ {kvs : List (κ × V)} {kds : List (κ × D)} {F : List Addr}, (kds.map (·.1)).Nodup → kvs.map (·.1) = kds.map (·.1) → Rps CT H (kvs.map (·.2)) (kds.map (·.2)) F →
    ∃ F', Rps CT H ((kvs.map fun kv => if kv.1 = k then (kv.1, v) else kv).map (·.2)) ((kds.map fun kv => if kv.1 = k then (kv.1, d) else kv).map (·.2)) F' ∧ (∀ b ∈ F', b ∈ F ∨ b ∈ G) ∧ ((F ++ G).Nodup → F'.Nodup)
  | [], [], _, _, _, .nil => ⟨[], .nil, (fun b h => nomatch h), fun _ => List.nodup_nil⟩
  | [], _ :: _, _, _, e, _ => by simp at e
  | _ :: _, [], _, _, e, _ => by simp at e
  | p :: kvs, w :: kds, _, nd, e, .cons (F := F1) (G := F2) r rs => by
    simp only [List.map_cons, List.cons.injEq, List.nodup_cons] at e nd
    obtain ⟨e1, e2⟩ := e
    by_cases h : w.1 = k
    · have hno : ∀ x ∈ kds, ¬ x.1 = k := fun x hx z => nd.1 (by rw [h, ← z]; exact List.mem_map.mpr ⟨x, hx, rfl⟩)
      have hno' : ∀ x ∈ kvs, ¬ x.1 = k := fun x hx z => nd.1 (by rw [h, ← z, ← e2]; exact List.mem_map.mpr ⟨x, hx, rfl⟩)
      have m1 : (kds.map fun kv => if kv.1 = k then (kv.1, d) else kv) = kds := by
        conv => rhs; rw [← List.map_id kds]
        exact List.map_congr_left fun x hx => by rw [if_neg (hno x hx)] <;> rfl
      have m2 : (kvs.map fun kv => if kv.1 = k then (kv.1, v) else kv) = kvs := by
        conv => rhs; rw [← List.map_id kvs]
        exact List.map_congr_left fun x hx => by rw [if_neg (hno' x hx)] <;> rfl
      simp only [List.map_cons]
      rw [m1, m2, if_pos h, if_pos (e1.trans h)]
      exact ⟨G ++ F2, .cons q rs, (fun b h => (List.mem_append.mp h).elim .inr fun h => .inl (List.mem_append_right _ h)), fun n => by
        rw [List.append_assoc] at n
        exact (List.perm_append_comm.nodup_iff).mp (List.nodup_append.mp n).2.1⟩
    · obtain ⟨F', h1, h2, h3⟩ := put_map (k := k) q nd.2 e2 rs
      simp only [List.map_cons]
      rw [if_neg h, if_neg (fun z => h (e1.symm.trans z))]
      refine ⟨F1 ++ F', .cons r h1, fun b h => ?_, fun n => ?_⟩
      · rcases List.mem_append.mp h with h | h
        · exact .inl (List.mem_append_left _ h)
        · exact (h2 b h).imp (List.mem_append_right _) id
      · rw [List.append_assoc] at n
        obtain ⟨n1, n2, n3⟩ := List.nodup_append.mp n
        exact List.nodup_append.mpr ⟨n1, h3 n2, fun x hx y hy e => n3 x hx y (List.mem_append.mpr (h2 y hy)) e⟩
theorem keys_map {κ β : Type} [DecidableEq κ] {k : κ} {x : β} (l : List (κ × β)) : (l.map fun kv => if kv.1 = k then (kv.1, x) else kv).map (·.1) = l.map (·.1) := by
  rw [List.map_map]
  exact List.map_congr_left fun p _ => by show (if p.1 = k then (p.1, x) else p).1 = p.1; split <;> rfl
theorem put_rps {κ : Type} [DecidableEq κ] {k : κ} {kvs : List (κ × V)} {kds : List (κ × D)} (q : Rp CT H v d G) (nd : (kds.map (·.1)).Nodup) (e : kvs.map (·.1) = kds.map (·.1)) (r : Rps CT H (kvs.map (·.2)) (kds.map (·.2)) F) :
    ∃ F', (putK kvs k v).map (·.1) = (putD kds k d).map (·.1) ∧ Rps CT H ((putK kvs k v).map (·.2)) ((putD kds k d).map (·.2)) F' ∧ (∀ b ∈ F', b ∈ F ∨ b ∈ G) ∧ ((F ++ G).Nodup → F'.Nodup) := by
  unfold putK putD
  rw [putD_any e]
  split
  · obtain ⟨F', h1, h2, h3⟩ := put_map (k := k) q nd e r
    exact ⟨F', by rw [keys_map, keys_map]; exact e, h1, h2, h3⟩
  · refine ⟨F ++ (G ++ []), by rw [List.map_append, List.map_append, e] <;> rfl, ?_, fun b h => ?_, fun n => ?_⟩
    · rw [List.map_append, List.map_append]
      exact r.append (.cons q .nil)
    · rw [List.append_nil] at h; exact List.mem_append.mp h
    · rw [List.append_nil]; exact n
theorem mono_setD {d e x : D} {Q Q' : D → Prop} (h : ∀ y, Q y → Q' y) (q : setD d e x Q) : setD d e x Q' := by
  cases d with
  | lst xs =>
    cases e with
    | int i =>
      revert q
      unfold setD
      dsimp only
      cases ixN xs.length i with
      | none => exact fun z => z
      | some j => exact h _
    | _ => exact q
  | dK kvs =>
    revert q
    unfold setD
    dsimp only
    cases e.key? with
    | none => exact fun z => z
    | some k => exact fun q => ⟨q.1, q.2.1, h _ q.2.2⟩
  | dT kvs =>
    revert q
    unfold setD
    dsimp only
    cases e.tkey? with
    | none => exact fun z => z
    | some k => exact fun q => ⟨q.1, q.2.1, h _ q.2.2⟩
  | _ => exact q
theorem set_run {e x : D} {w y : V} {P : List Addr} {k : D → Prop} {Qh : Hp → Prop} (r : Rp CT H v d F) (re : Rp CT H w e P) (rx : Rp CT H y x G) (ndF : F.Nodup) (dj : ∀ b ∈ G, b ∉ F) (ndG : G.Nodup) (q : setD d e x k)
    (fin : ∀ (a : Addr) (o u : HO) (d' : D) (F0 F' : List Addr), v = .ref a → H a = some o → Im o = false → F = a :: F0 → Rp CT (L2.upd H a u) (.ref a) d' (a :: F') → F'.Nodup → a ∉ F' → (∀ b ∈ F', b ∈ F0 ∨ b ∈ G) → k d' → Qh (L2.upd H a u)) : rSetU v w y H Qh := by
  have app : ∀ {F0 : List Addr} {a : Addr}, F = a :: F0 → (F0 ++ G).Nodup ∧ a ∉ F0 ∧ a ∉ G := fun {F0 a} eF => by
    rw [eF] at ndF dj
    have n1 := List.nodup_cons.mp ndF
    exact ⟨List.nodup_append.mpr ⟨n1.2, ndG, fun b hb c hc z => dj c hc (List.mem_cons_of_mem _ (z ▸ hb))⟩, n1.1, fun z => dj a z List.mem_cons_self⟩
  cases r with
  | lst ha ra =>
    cases re with
    | int i =>
      unfold setD at q
      dsimp only at q
      split at q
      · rename_i j hj
        obtain ⟨n1, n2, n3⟩ := app rfl
        obtain ⟨F', h1, h2, h3⟩ := ra.set j rx
        have nF : _ ∉ F' := fun z => (h2 _ z).elim n2 n3
        exact .inl ⟨_, _, i, j, rfl, rfl, ha, by rw [ra.length]; exact hj, fin _ _ _ _ _ F' rfl ha rfl rfl (.lst upd_same (h1.upd ha rfl nF)) (h3 n1) nF h2 q⟩
      · exact q.elim
    | _ => exact (show False from q).elim
  | dK ha hk ra =>
    unfold setD at q
    dsimp only at q
    cases ek : e.key? with
    | none => rw [ek] at q; exact q.elim
    | some kk =>
      rw [ek] at q
      obtain ⟨l, nd, q⟩ := q
      obtain ⟨n1, n2, n3⟩ := app rfl
      obtain ⟨F', h0, h1, h2, h3⟩ := put_rps (k := kk) rx nd hk ra
      have nF : _ ∉ F' := fun z => (h2 _ z).elim n2 n3
      have le := congrArg List.length hk
      rw [List.length_map, List.length_map] at le
      exact .inr ⟨_, _, rfl, .inl ⟨_, kk, ha, re.key ek, by rw [le]; exact l, rfl⟩, fin _ _ _ _ _ F' rfl ha rfl rfl (.dK upd_same h0 (h1.upd ha rfl nF)) (h3 n1) nF h2 q⟩
  | dT ha hk ra =>
    unfold setD at q
    dsimp only at q
    cases ek : e.tkey? with
    | none => rw [ek] at q; exact q.elim
    | some kk =>
      rw [ek] at q
      obtain ⟨l, nd, q⟩ := q
      obtain ⟨n1, n2, n3⟩ := app rfl
      obtain ⟨F', h0, h1, h2, h3⟩ := put_rps (k := kk) rx nd hk ra
      have nF : _ ∉ F' := fun z => (h2 _ z).elim n2 n3
      obtain ⟨b, eb, hb⟩ := re.tkey ek
      have le := congrArg List.length hk
      rw [List.length_map, List.length_map] at le
      exact .inr ⟨_, _, rfl, .inr ⟨_, kk, b, ha, eb, hb, by rw [le]; exact l, rfl⟩, fin _ _ _ _ _ F' rfl ha rfl rfl (.dT upd_same h0 (h1.upd ha rfl nF)) (h3 n1) nF h2 q⟩
  | _ => exact (show False from q).elim
def sPut (i : Nat) (me mv : X1) : XS := fun E env => mv env fun x => xVar i env fun d => me env fun e => setD d e x fun d' => E.nx (env.set i (some d'))
theorem sim_put {i : Nat} {B : Kd} {mv : X1} (g : Γ[i]? = some .o) (sv : Sim C Γ te .own mv) (s : Sim C Γ tb B n) : SimS C Γl Γ Γ (tAsg te (gSub (tVar i) tb rSetU)) (sPut i n mv) :=
  ⟨fun σ H env Fs D E I lk hh => sv.run σ H env Fs _ I (sv.mono env _ _ (fun x q y H1 G f dk rx kx => by
    have I1 := I.step f dk
    obtain ⟨v, d, h1, h2, h3⟩ := I1.val i _ g (.inl rfl)
    have q : xVar i env _ := q
    unfold xVar at q
    rw [h2] at q
    refine ⟨v, h1, s.run σ H1 env Fs _ I1 (s.mono env _ _ (fun e q w H2 P f2 dk2 re ke => ?_) q)⟩
    have f12 := f.trans f2
    have I2 := I1.step f2 dk2
    obtain ⟨v', d', h1', h2', h3'⟩ := I2.val i _ g (.inl rfl)
    rw [h1] at h1'; cases h1'
    rw [h2] at h2'; cases h2'
    refine set_run h3' re (rx.keep f2 kx.1.wq) (I.nd i g) (fun b hb z => I.tracked g (.inl rfl) b z (kx.2.2 b hb)) kx.2.1 q fun a o u d' F0 F' ev ha hi eF r nd na sub q => ?_
    subst ev
    exact lk.root I f12 dk2 g (G := G) h1 ha hi eF r nd na (fun b hb => (sub b hb).imp id fun z => kx.2.2 b z) q) hh),
   fun E E' env p q => sv.mono env _ _ (fun x q => mono_var env _ _ (fun d q => s.mono env _ _ (fun e q => mono_setD (fun y q => p.1 _ q) q) q) q) q⟩
end
end Pu
set_option Elab.async false
set_option linter.all false
set_option maxRecDepth 100000
namespace Pu
open PySem PySem.Spec PyProof.Rows L2
section
variable {C : Cfg} {Γ Γ' Γn Γl Γo Γt Γe Γ1 Γ2 : List Mo} {σ σ' : L2.St} {H H' H1 H2 : Hp} {env env' : PEnv} {Fs Fs' Fs1 Fs2 : Nat → List Addr} {v : V} {vs : List V} {d : D} {ds : List D} {F G : List Addr} {ta tb tc te : TE} {A B : Kd} {m n mc : X1} {K : PySem.W.Frag} {CT : Nat → Addr} {S : Stat}
abbrev XI := List D → (List (Str × D) → Prop) → Prop
def SpI (S : Stat) (c : Nat) (mf : XI) : Sp := fun vs H Q _ => ∃ (C : Cfg) (ds : List D) (F : List Addr) (x dx : Addr) (ws : List V), C.toStat = S ∧ C.pin = [(0, .ref x)] ∧ vs = .ref x :: ws ∧ H x = some (.ins (S.CT c) dx []) ∧ Rps S.CT H ws ds F ∧ DiceOk C H ∧ NoQ C (x :: F) ∧ x ∉ F ∧
  mf ds (fun gs => ∀ H' G, Fr (fun a => Wq C a ∨ a = x) H H' → DiceOk C H' → Rp S.CT H' (.ref x) (.obj c gs) (x :: G) → (x :: G).Nodup → (∀ a ∈ G, H a = none) → Q .non H')
def mkO (c : Nat) (gs : List (Str × D)) : D := if Fz (gs.map (·.1)) = true then .fz c gs else .obj c gs
theorem mkO_rp {c : Nat} {gs : List (Str × D)} {x : Addr} (r : Rp CT H (.ref x) (.obj c gs) (x :: G)) (nd : (x :: G).Nodup) : ∃ G', Rp CT H (.ref x) (mkO c gs) G' ∧ G'.Nodup ∧ ∀ a ∈ G', a ∈ x :: G := by
  unfold mkO
  split
  · rename_i h
    cases r with
    | obj ha hk ra => exact ⟨G, .fz ha (by rw [hk]; exact h) hk ra, (List.nodup_cons.mp nd).2, fun a m => List.mem_cons_of_mem _ m⟩
  · exact ⟨_, r, nd, fun a m => m⟩
def xMake (c : Nat) (mf : XI) (r : XL) : X1 := fun env Q => r env fun ds => mf ds fun gs => Q (mkO c gs)
def MonoI (mf : XI) : Prop := ∀ ds Q Q', (∀ d, Q d → Q' d) → mf ds Q → mf ds Q'
theorem sim_make {c : Nat} {mf : XI} {t : TA} {r : XL} {Ad : Addr} (hC : C.toStat = S) (hA : S.CT c = Ad) (hm : MonoI mf) (s : SimL C Γ t A r) : Sim C Γ (tMake Ad (SpI S c mf) [] E0 t) .own (xMake c mf r) :=
  ⟨fun σ H env Fs Q I h => s.run σ H env Fs _ I (s.mono env _ _ (fun ds q vs H1 F f dk rr k x dx hx hd ne => by
    subst hC hA
    rw [List.append_nil]
    have hd2 : (upd H1 dx (.own x)) x = none := by rw [upd_ne (Ne.symm ne)]; exact hx
    have fn : Fr (Wq C) H1 (upd (upd H1 dx (.own x)) x (.ins (C.CT c) dx [])) := (Fr.new hd).trans (Fr.new hd2)
    have fn0 : Fr (fun _ => False) H1 (upd (upd H1 dx (.own x)) x (.ins (C.CT c) dx [])) := (Fr.new hd).trans (Fr.new hd2)
    have nx : x ∉ F := fun z => rr.tracked x z hx
    refine ⟨{ C with pin := [(0, .ref x)] }, ds, F, x, dx, vs, rfl, rfl, rfl, upd_same, rr.keep fn k.1.wq, dk.keep fn0, fun p e => ⟨fun z => ?_, fun z => ?_⟩, nx, hm ds _ _ (fun gs q H2 G f2 dk2 r2 nd fr => ?_) q⟩
    · rcases List.mem_cons.mp z with z | z
      · exact (dk p e).t1 (by rw [z]; exact hx)
      · exact (k.1 p e).1 z
    · rcases List.mem_cons.mp z with z | z
      · exact (dk p e).t2 (by rw [z]; exact hx)
      · exact (k.1 p e).2 z
    · have f02 : Fr (Wq C) H1 H2 := ⟨fun a o e n => f2.keep a o (fn.keep a o e n) (fun w => w.elim n fun z => by rw [z, hx] at e; cases e), fun a o e i => f2.im a o (fn.im a o e i) i, fun a e => fn.there a (f2.there a e)⟩
      have fr' : ∀ a ∈ x :: G, H1 a = none := fun a ha => by
        rcases List.mem_cons.mp ha with z | ha
        · rw [z]; exact hx
        · exact fn.there a (fr a ha)
      obtain ⟨G', r3, nd3, sub⟩ := mkO_rp r2 nd
      exact ⟨rfl, q (.ref x) H2 G' (f.trans f02) dk2 r3 ⟨NoQ.new dk (fun a ha => fr' a (sub a ha)), nd3, fun a ha => f.there a (fr' a (sub a ha))⟩⟩) h),
   fun env Q Q' k q => s.mono env _ _ (fun ds q => hm ds _ _ (fun gs q => k _ q) q) q⟩
def putFD (f : Str) (x : D) : List (Str × D) → List (Str × D)
  | [] => [(f, x)]
  | (g, y) :: r => if g = f then (g, x) :: r else (g, y) :: putFD f x r
theorem putF_rps {f : Str} (q : Rp CT H v d G) : ∀ {fs : List (Str × V)} {gs : List (Str × D)} {F : List Addr}, fs.map (·.1) = gs.map (·.1) → Rps CT H (fs.map (·.2)) (gs.map (·.2)) F →
    ∃ F', (putF f v fs).map (·.1) = (putFD f d gs).map (·.1) ∧ Rps CT H ((putF f v fs).map (·.2)) ((putFD f d gs).map (·.2)) F' ∧ (∀ b ∈ F', b ∈ F ∨ b ∈ G) ∧ ((F ++ G).Nodup → F'.Nodup)
  | [], [], _, _, .nil => ⟨G ++ [], rfl, .cons q .nil, (fun b h => by rw [List.append_nil] at h; exact .inr h), fun n => by rw [List.append_nil]; exact n⟩
  | [], _ :: _, _, e, _ => by simp at e
  | _ :: _, [], _, e, _ => by simp at e
  | (a, p) :: fs, (b, w) :: gs, _, e, .cons (F := F1) (G := F2) r rs => by
    simp only [List.map_cons, List.cons.injEq] at e
    obtain ⟨e1, e2⟩ := e
    have e1 : a = b := e1
    subst e1
    by_cases h : a = f
    · unfold putF putFD
      rw [if_pos h, if_pos h]
      refine ⟨G ++ F2, by simp [e2], .cons q rs, (fun b h => (List.mem_append.mp h).elim .inr fun h => .inl (List.mem_append_right _ h)), fun n => ?_⟩
      rw [List.append_assoc] at n
      exact (List.perm_append_comm.nodup_iff).mp (List.nodup_append.mp n).2.1
    · obtain ⟨F', h0, h1, h2, h3⟩ := putF_rps q e2 rs
      unfold putF putFD
      rw [if_neg h, if_neg h]
      refine ⟨F1 ++ F', by simp [h0], .cons r h1, fun b h => ?_, fun n => ?_⟩
      · rcases List.mem_append.mp h with h | h
        · exact .inl (List.mem_append_left _ h)
        · exact (h2 b h).imp (List.mem_append_right _) id
      · rw [List.append_assoc] at n
        obtain ⟨n1, n2, n3⟩ := List.nodup_append.mp n
        exact List.nodup_append.mpr ⟨n1, h3 n2, fun x hx y hy e => n3 x hx y (List.mem_append.mpr (h2 y hy)) e⟩
def onO (c0 : Nat) (d : D) (k : List (Str × D) → Prop) : Prop := match d with
  | .obj c gs => c = c0 ∧ gs.length < 1000 ∧ k gs
  | _ => False
theorem onO_mono {c0 : Nat} {k k' : List (Str × D) → Prop} (h : ∀ ds, k ds → k' ds) (q : onO c0 d k) : onO c0 d k' := by cases d <;> first | exact ⟨q.1, q.2.1, h _ q.2.2⟩ | exact q
def onM (c0 : Nat) (d : D) (k : List (Str × D) → Prop) : Prop := match d with
  | .obj c gs => c = c0 ∧ gs.length < 1000 ∧ Fz (gs.map (·.1)) = false ∧ k gs
  | _ => False
theorem onM_mono {c0 : Nat} {k k' : List (Str × D) → Prop} (h : ∀ ds, k ds → k' ds) (q : onM c0 d k) : onM c0 d k' := by cases d <;> first | exact ⟨q.1, q.2.1, q.2.2.1, h _ q.2.2.2⟩ | exact q
def sSetF (i c0 : Nat) (f : Str) (m : X1) : XS := fun E env => m env fun x => xVar i env fun d => onM c0 d fun gs => E.nx (env.set i (some (.obj c0 (putFD f x gs))))
theorem sim_sfld {i c0 : Nat} {f : Str} (g : Γ[i]? = some .o) (hc : Cls K (C.CT c0)) (hn : NoAttr K (C.CT c0) f) (s : Sim C Γ te .own m) : SimS C Γl Γ Γ (sFld K (tVar i) te f) (sSetF i c0 f m) :=
  ⟨fun σ H env Fs D E I lk hh => s.run σ H env Fs _ I (s.mono env _ _ (fun x q y H1 G f1 dk rx kx => by
    have I1 := I.step f1 dk
    obtain ⟨v, d, h1, h2, h3⟩ := I1.val i _ g (.inl rfl)
    have q : xVar i env _ := q
    unfold xVar at q
    rw [h2] at q
    have ndF := I.nd i g
    have dj : ∀ b ∈ G, b ∉ Fs i := fun b hb z => I.tracked g (.inl rfl) b z (kx.2.2 b hb)
    refine ⟨v, h1, ?_⟩
    generalize eF : Fs i = F at *
    cases h3 with
    | @obj a dx c fs gs F0 ha hk ra =>
      obtain ⟨rfl, lg, nz, q⟩ := q
      obtain ⟨F', h0, h4, h5, h6⟩ := putF_rps (f := f) rx hk ra
      have n1 := List.nodup_cons.mp ndF
      have na : a ∉ F' := fun z => (h5 a z).elim n1.1 fun w => dj a w List.mem_cons_self
      have le := congrArg List.length hk
      rw [List.length_map, List.length_map] at le
      have hz : Im (HO.ins (C.CT c) dx fs) = false := show Fz (fs.map (·.1)) = false by rw [hk]; exact nz
      refine ⟨a, _, dx, fs, rfl, ha, hc, hn, by rw [le]; exact lg, lk.root I f1 dk g (G := G) h1 ha hz eF (.obj upd_same h0 (h4.upd ha hz na)) (h6 (List.nodup_append.mpr ⟨n1.2, kx.2.1, fun b hb c hc z => dj c hc (List.mem_cons_of_mem _ (z ▸ hb))⟩)) na (fun b hb => (h5 b hb).imp id fun z => kx.2.2 b z) q⟩
    | _ => exact (show False from q).elim) hh),
   fun E E' env p q => s.mono env _ _ (fun x q => mono_var env _ _ (fun d q => onM_mono (fun gs q => p.1 _ q) q) q) q⟩
def fnI (N c : Nat) (body : XS) : XI := fun ds Q => body { nx := fun env => xVar 0 env fun d => onO c d Q, rt := fun _ => False } (env0 N (.obj c [] :: ds))
theorem monoI_fn {N c : Nat} {body : XS} (h : ∀ E E' env, PLe E E' → body E env → body E' env) : MonoI (fnI N c body) := fun ds Q Q' k q =>
  h { nx := fun env => xVar 0 env fun d => onO c d Q, rt := fun _ => False } _ _ ⟨fun env z => mono_var env _ _ (fun d q => onO_mono k q) z, fun _ z => z, fun _ z => z, fun _ z => z⟩ q
def GamI (N k : Nat) : List Mo := .o :: (List.replicate k .f ++ List.replicate (N - (k + 1)) .x)
theorem gamI_at {N k i : Nat} {mo : Mo} (h : (GamI N k)[i]? = some mo) : (i = 0 ∧ mo = .o) ∨ (∃ j, i = j + 1 ∧ j < k ∧ mo = .f) ∨ (i ≠ 0 ∧ mo = .x) := by
  cases i with
  | zero => simp [GamI] at h; exact .inl ⟨rfl, h.symm⟩
  | succ j =>
    simp only [GamI, List.getElem?_cons_succ] at h
    by_cases hj : j < k
    · rw [List.getElem?_append_left (by simpa using hj), List.getElem?_replicate, if_pos hj] at h
      cases h
      exact .inr (.inl ⟨j, rfl, hj, rfl⟩)
    · rw [List.getElem?_append_right (by simpa using hj), List.getElem?_replicate] at h
      split at h <;> cases h
      exact .inr (.inr ⟨by simp, rfl⟩)
theorem rps_at : ∀ {vs : List V} {ds : List D} {F : List Addr}, Rps CT H vs ds F → ∃ L : Nat → List Addr, ∀ i : Nat, i < ds.length → ∃ v d, vs[i]? = some v ∧ ds[i]? = some d ∧ Rp CT H v d (L i) ∧ (L i).Sublist F
  | _, _, _, .nil => ⟨fun _ => [], fun i h => by simp at h⟩
  | _, _, _, .cons (F := F) (G := G) r rs => by
    obtain ⟨L, h⟩ := rps_at rs
    refine ⟨fun i => if i = 0 then F else L (i - 1), fun i hi => ?_⟩
    cases i with
    | zero => exact ⟨_, _, rfl, rfl, by simpa using r, by simpa using List.sublist_append_left _ _⟩
    | succ i =>
      obtain ⟨v, d, h1, h2, h3, h4⟩ := h i (by simpa using hi)
      exact ⟨v, d, by simpa using h1, by simpa using h2, by simpa using h3, by simpa using h4.trans (List.sublist_append_right _ _)⟩
def fnI0 (n N c : Nat) (body : XS) : XI := fun ds Q => ds.length = n ∧ fnI N c body ds Q
theorem monoI_fn0 {n N c : Nat} {body : XS} (h : ∀ E E' env, PLe E E' → body E env → body E' env) : MonoI (fnI0 n N c body) := fun ds Q Q' k q => ⟨q.1, monoI_fn h ds Q Q' k q.2⟩
theorem init_body {N : List Str} {c n : Nat} {body : XS} {Γe : List Mo} {t : TS} {Q : VK} {E : XK} (hN : n + 1 ≤ N.length) (he : Γe[0]? = some .o) (hs : ∀ q v, SimS ⟨S, q, [(0, v)]⟩ [] (GamI N.length n) Γe t body)
    (hsp : SpI S c (fnI0 n N.length c body) vs H Q E) : t { nx := fun _ H' => Q .non H', rt := Q } (L2.start N vs) H := by
  · obtain ⟨C, ds, F, x, dx, ws, hC, hpn, e, hx, r, dk, nq, nx, ld, q⟩ := hsp
    subst hC e
    obtain ⟨L, hL⟩ := rps_at r
    have lw := r.length
    have I : Ok C (GamI N.length n) (L2.start N (.ref x :: ws)) H (env0 N.length (.obj c [] :: ds)) (fun i => if i = 0 then [x] else L (i - 1)) := by
      refine ⟨?_, ?_, fun i m g l => ?_, fun i g => ?_, fun i g => ?_, fun i j m g g' l ne a ha hb => ?_, fun i m g l => ?_, dk, fun p hp' => ?_⟩
      · unfold env0 GamI; simp [ld]
      · unfold L2.start GamI; simp [lw, ld]
      · rcases gamI_at g with ⟨rfl, _⟩ | ⟨j, rfl, hj, _⟩ | ⟨_, z⟩
        · exact ⟨.ref x, .obj c [], rfl, rfl, by simpa using Rp.obj (gs := []) hx rfl .nil⟩
        · obtain ⟨v, d, h1, h2, h3, h4⟩ := hL j (by omega)
          refine ⟨v, d, ?_, ?_, by simpa using h3⟩
          · unfold L2.start
            have hi := (List.getElem?_eq_some_iff.mp h1).1
            simp only [List.map_cons, List.cons_append, List.getElem?_cons_succ]
            rw [List.getElem?_append_left (by simpa using hi), List.getElem?_map, h1] <;> rfl
          · unfold env0
            have hi := (List.getElem?_eq_some_iff.mp h2).1
            simp only [List.map_cons, List.cons_append, List.getElem?_cons_succ]
            rw [List.getElem?_append_left (by simpa using hi), List.getElem?_map, h2] <;> rfl
        · rcases l with e | e <;> rw [z] at e <;> cases e
      · rcases gamI_at g with ⟨_, z⟩ | ⟨_, _, _, z⟩ | ⟨_, z⟩ <;> cases z
      · rcases gamI_at g with ⟨rfl, _⟩ | ⟨_, _, _, z⟩ | ⟨_, z⟩
        · simp
        · cases z
        · cases z
      · rcases gamI_at g with ⟨rfl, _⟩ | ⟨_, _, _, z⟩ | ⟨_, z⟩
        · rcases gamI_at g' with ⟨rfl, _⟩ | ⟨k, rfl, hk, _⟩ | ⟨_, z⟩
          · exact ne rfl
          · obtain ⟨v, d, h1, h2, h3, h4⟩ := hL k (by omega)
            simp at ha hb
            subst ha
            exact nx (h4.mem hb)
          · rcases l with e | e <;> rw [z] at e <;> cases e
        · cases z
        · cases z
      · rcases gamI_at g with ⟨rfl, _⟩ | ⟨j, rfl, hj, _⟩ | ⟨_, z⟩
        · simpa using nq.sub (by simpa using (List.singleton_sublist.mpr List.mem_cons_self : [x].Sublist (x :: F)))
        · obtain ⟨v, d, h1, h2, h3, h4⟩ := hL j (by omega)
          simpa using nq.sub (h4.trans (List.sublist_cons_self _ _))
        · rcases l with e | e <;> rw [z] at e <;> cases e
      · rw [hpn] at hp'
        rw [List.mem_singleton.mp hp']
        rfl
    have own0 : ∀ (i : Nat) (a : Addr), (GamI N.length n)[i]? = some .o → a ∈ (if i = 0 then [x] else L (i - 1)) → a = x := fun i a g ha => by
      rcases gamI_at g with ⟨rfl, _⟩ | ⟨_, _, _, z⟩ | ⟨_, z⟩
      · simpa using ha
      · cases z
      · cases z
    refine (show SimS C [] (GamI N.length n) Γe t body by obtain ⟨st, q0, pin⟩ := C; cases hpn; exact hs q0 _).run _ H _ _ _ { nx := fun env => xVar 0 env fun d => onO c d _, rt := fun _ => False } I ⟨fun σ' H' env' Fs' I' g q => ?_, fun _ _ _ _ _ _ q => q, fun _ _ _ _ _ _ q => q, fun _ _ _ _ _ _ _ _ _ _ q => q.elim⟩ q
    obtain ⟨v, d, h1, h2, h3⟩ := I'.val 0 _ he (.inl rfl)
    have hv : v = .ref x := by
      have := I'.pn (0, .ref x) (by rw [hpn]; simp)
      rw [h1] at this
      exact Option.some.inj (Option.some.inj this)
    subst hv
    have q : xVar 0 env' _ := q
    unfold xVar at q
    rw [h2] at q
    have nd := I'.nd 0 he
    have gr := g.gr 0 he
    generalize Fs' 0 = F2 at *
    cases h3 with
    | obj ha hk ra =>
      obtain ⟨rfl, _, q⟩ := q
      refine q H' _ (g.fr.mono fun a w => ?_) I'.dk (.obj ha hk ra) nd fun a ham => ?_
      · rcases w with w | ⟨i, gi, hm⟩
        · exact .inl w
        · exact .inr (own0 i a gi hm)
      · rcases gr a (List.mem_cons_of_mem _ ham) with ⟨j, gj, hm⟩ | z
        · have := own0 j a gj hm
          subst this
          exact absurd ham (List.nodup_cons.mp nd).1
        · exact z
    | _ => exact (show False from q).elim
end
end Pu
set_option Elab.async false
set_option linter.all false
set_option maxRecDepth 100000
namespace Pu
open PySem PySem.Spec PyProof.Rows L2
theorem rm1 {k : Nat} {A : Around} (hr : Room k A) : A.units + 1 < cLine := by have := hr.un; omega
theorem rm64 {k : Nat} {A : Around} (hr : Room k A) : A.units + 64 < cLine := by have := hr.un; omega
theorem rm65 {k : Nat} {A : Around} (hr : Room k A) : A.units + 65 < cLine := by have := hr.un; omega
class MX {α : Type} (m : PEnv → (α → Prop) → Prop) : Prop where
  mono : Mono m
class MO1 (o : O1) : Prop where
  mono : Mono1 o
class MO2 (o : O2) : Prop where
  mono : Mono2 o
class MG {β : Type} (b : β → PEnv → (PEnv → Prop) → Prop) : Prop where
  mono : ∀ d env Q Q', (∀ e, Q e → Q' e) → b d env Q → b d env Q'
class MS (m : XS) : Prop where
  mono : ∀ {E E' : PEnds} {env : PEnv}, PLe E E' → m E env → m E' env
class MF (mf : XF) : Prop where
  mono : MonoF mf
class MI (mf : XI) : Prop where
  mono : MonoI mf
theorem MS.all {m : XS} [h : MS m] : ∀ E E' env, PLe E E' → m E env → m E' env := fun _ _ _ p q => h.mono p q
section
variable {m n : X1} {a b : XB} {r : XL} {o o' : O2} {p : O1} {s t : XS} {g : XG} {gs : XGs}
instance {i : Nat} : MX (xVar i) := ⟨mono_var⟩
instance {d : D} : MX (xC d) := ⟨mono_c⟩
instance [h : MX m] : MX (xImm m) := ⟨fun env _ _ k q => h.mono env _ _ (fun _ ⟨e, q⟩ => ⟨e, k _ q⟩) q⟩
instance : MX xNil := ⟨mono_nil⟩
instance [h : MX m] [h' : MX r] : MX (xCons m r) := ⟨mono_cons h.mono h'.mono⟩
instance [h : MX r] : MX (xDice r) := ⟨fun env _ _ k q => h.mono env _ _ (fun _ q => k _ q) q⟩
instance [h : MX r] : MX (xTup r) := ⟨fun env _ _ k q => h.mono env _ _ (fun _ q => ⟨q.1, k _ q.2⟩) q⟩
instance [h : MX r] : MX (xLst r) := ⟨fun env _ _ k q => h.mono env _ _ (fun _ q => ⟨q.1, k _ q.2⟩) q⟩
instance [h : MO1 p] [h' : MX m] : MX (x1 p m) := ⟨mono_x1 h.mono h'.mono⟩
instance [h : MO2 o] [h' : MX m] [h'' : MX n] : MX (x2 o m n) := ⟨mono_x2 h.mono h'.mono h''.mono⟩
instance {mf : XF} [h : MF mf] [h' : MX r] : MX (xCall mf r) := ⟨fun env _ _ k q => h'.mono env _ _ (fun ds q => h.mono ds _ _ k q) q⟩
instance {c : Nat} {mf : XI} [h : MI mf] [h' : MX r] : MX (xMake c mf r) := ⟨fun env _ _ k q => h'.mono env _ _ (fun ds q => h.mono ds _ _ (fun _ q => k _ q) q) q⟩
instance [h : MX m] : MX (bTest m) := ⟨mono_bTest h.mono⟩
instance [h : MX a] [h' : MX b] : MX (bAnd a b) := ⟨fun env _ _ k q => h.mono env _ _ (fun c q => by
    cases c with
    | true => exact h'.mono env _ _ k q
    | false => exact k _ q) q⟩
instance [h : MX a] [h' : MX b] : MX (bOr a b) := ⟨fun env _ _ k q => h.mono env _ _ (fun c q => by
    cases c with
    | false => exact h'.mono env _ _ k q
    | true => exact k _ q) q⟩
instance [h : MX a] : MX (bNot a) := ⟨fun env _ _ k q => h.mono env _ _ (fun c q => k _ q) q⟩
instance : MX bYes := ⟨fun _ _ _ k q => k _ q⟩
instance [h : MX m] [h' : MX n] : MX (xAnd m n) := ⟨fun env _ _ k q => h.mono env _ _ (fun d q => by
    cases d <;> first | exact q | skip
    rename_i c
    cases c with
    | true => exact h'.mono env _ _ k q
    | false => exact k _ q) q⟩
instance [h : MX m] [h' : MX n] : MX (xOr m n) := ⟨fun env _ _ k q => h.mono env _ _ (fun d q => by
    cases d <;> first | exact q | skip
    rename_i c
    cases c with
    | false => exact h'.mono env _ _ k q
    | true => exact k _ q) q⟩
instance [h : MX m] : MX (xNot m) := ⟨fun env _ _ k q => h.mono env _ _ (fun d q => by cases d <;> first | exact q | exact k _ q) q⟩
instance [h : MX a] [h' : MX m] [h'' : MX n] : MX (xIf a m n) := ⟨fun env _ _ k q => h.mono env _ _ (fun c q => by
    cases c with
    | true => exact h'.mono env _ _ k q
    | false => exact h''.mono env _ _ k q) q⟩
instance {c : X1} [h : MO2 o] [h0 : MO2 o'] [h1 : MX m] [h2 : MX n] [h3 : MX c] : MX (xChain o o' m n c) := ⟨fun env _ _ k q => h1.mono env _ _ (fun x q => h2.mono env _ _ (fun y q => h.mono x y _ _ (fun z q => by
    cases z <;> first | exact q | skip
    rename_i c
    cases c with
    | true => exact h3.mono env _ _ (fun w q => h0.mono y w _ _ k q) q
    | false => exact k _ q) q) q) q⟩
instance : MX pNo := ⟨fun _ _ _ k q => k _ q⟩
instance [h : MX m] : MX (pYes m) := ⟨fun env _ _ k q => h.mono env _ _ (fun d q => by cases d <;> first | exact k _ q | exact q) q⟩
instance {l u : PEnv → (Option Int → Prop) → Prop} [h : MX m] [h1 : MX l] [h2 : MX u] : MX (xSl m l u) := ⟨fun env _ _ k q => h.mono env _ _ (fun d q => h1.mono env _ _ (fun lo q => h2.mono env _ _ (fun hi q => by cases d <;> first | exact ⟨q.1, k _ q.2⟩ | exact q) q) q) q⟩
instance [h : MX m] : MX (xLRg1 m) := ⟨fun env _ _ k q => h.mono env _ _ (fun d q => by cases d <;> first | exact ⟨q.1, k _ q.2⟩ | exact q) q⟩
instance {mi : XL} {mt : XB} {me : X1} [h : MX mi] [h1 : MG g] [h2 : MX mt] [h3 : MX me] : MX (xLc mi g mt me) := ⟨fun env _ _ k q => h.mono env _ _ (fun ds q => mono_lcLoop h1.mono h2.mono h3.mono ds [] _ _ (fun _ q => k _ q) q) q⟩
instance [h : MX m] : MX (mSeq m) := ⟨fun env _ _ k q => h.mono env _ _ (fun d q => by cases d <;> first | exact k _ q | exact q) q⟩
instance [h : MX m] : MX (mRng1 m) := ⟨fun env _ _ k q => h.mono env _ _ (fun d q => by cases d <;> first | exact ⟨q.1, k _ q.2⟩ | exact q) q⟩
instance [h : MX m] [h' : MX n] : MX (mRng2 m n) := ⟨fun env _ _ k q => h.mono env _ _ (fun d q => h'.mono env _ _ (fun e q => by cases d <;> cases e <;> first | exact ⟨q.1, q.2.1, k _ q.2.2⟩ | exact q) q) q⟩
instance {i : Nat} : MG (bName i) := ⟨fun _ _ _ _ k q => k _ q⟩
instance : MG bNil := ⟨fun d _ _ _ k q => by cases d <;> first | exact k _ q | exact q⟩
instance [h : MG g] [h' : MG gs] : MG (bCons g gs) := ⟨fun d _ _ _ k q => by
  cases d with
  | nil => exact q
  | cons d ds => exact h.mono _ _ _ _ (fun e q => h'.mono _ _ _ _ k q) q⟩
instance {n : Nat} [h : MG gs] : MG (bTup n gs) := ⟨fun d _ _ _ k q => by cases d <;> first | exact ⟨q.1, h.mono _ _ _ _ k q.2⟩ | exact q⟩
instance : MO2 oAdd := ⟨mono_oAdd⟩
instance {f : Int → Int → D} : MO2 (oI f) := ⟨mono_oI⟩
instance {c : Int → Int → Prop} {f : Int → Int → D} : MO2 (oIc c f) := ⟨mono_oIc⟩
instance : MO2 oEq := ⟨fun _ _ _ _ k q => ⟨q.1, q.2.1, k _ q.2.2⟩⟩
instance : MO2 oNe := ⟨fun _ _ _ _ k q => ⟨q.1, q.2.1, k _ q.2.2⟩⟩
instance : MO2 oIsN := ⟨fun _ _ _ _ k q => ⟨q.1, k _ q.2⟩⟩
instance : MO2 oNotN := ⟨fun _ _ _ _ k q => ⟨q.1, k _ q.2⟩⟩
instance {b : Bool} : MO2 (oIsB b) := ⟨fun d e _ _ k q => by cases d <;> cases e <;> first | exact k _ q | exact q⟩
instance : MO2 oIx := ⟨mono_oIx⟩
instance {b : Bool} : MO2 (oIn b) := ⟨mono_oIn⟩
instance : MO1 oLen := ⟨(sc_len (CT := fun _ => 0) (K := default)).mono⟩
end
end Pu
set_option Elab.async false
set_option linter.all false
set_option maxRecDepth 100000
namespace Pu
open PySem PySem.Spec PyProof.Rows L2
section
variable {C : Cfg} {Γ Γ' Γn Γl Γo Γt Γe Γ1 Γ2 : List Mo} {σ σ' : L2.St} {H H' H1 H2 : Hp} {env env' : PEnv} {Fs Fs' Fs1 Fs2 : Nat → List Addr} {v : V} {vs : List V} {d : D} {ds : List D} {F G : List Addr} {ta tb tc te : TE} {A B : Kd} {m n mc : X1} {K : PySem.W.Frag} {CT : Nat → Addr} {S : Stat}
def sAsgG (b : XG) (m : X1) : XS := fun E env => m env fun d => b d env E.nx
theorem sim_asgG {g : TG} {b : XG} {ks : List Nat} (hw : wk Γ Γ1 = true) (s : Sim C Γ te .own m) (sg : SimG C Γ1 Γ2 ks g b) : SimS C Γl Γ Γ2 (tAsg te g) (sAsgG b m) :=
  ⟨fun σ H env Fs D E I l h => s.run σ H env Fs _ I (s.mono env _ _ (fun d q v H1 F f dk r k => sg.run σ H1 env Fs v d F _ ((I.step f dk).weak hw) r k.1 (fun a ha j g hb => I.tracked (wk_o hw g) (.inl rfl) a hb (k.2.2 a ha))
      (sg.mono _ _ _ _ (fun env' q σ' Fs' I' o' f' _ _ => l.nx σ' H1 env' Fs' I' ⟨f.mono fun _ w => .inl w, fun j gj a ha => .inl ⟨j, wk_o hw ((o' j).mp gj), by rw [f' j ((o' j).mp gj)] at ha; exact ha⟩⟩ q) q)) h),
   fun E E' env p h => s.mono env _ _ (fun d q => sg.mono _ _ _ _ p.1 q) h⟩
theorem init_ok0 {P : Program} {w : World} {mg : Str → Option Value} {base : Heap} {x qual : Str} {st : Stmt} {f : Addr} {fd : FuncData} {N ps : List Str} {k c n : Nat} {body : XS} {Γe : List Mo}
    (Fn : L2.Fun K x qual st f fd) (Sc : FnScope N ps (defScope st)) (hp : n + 1 = ps.length) (hN : n + 1 ≤ N.length) (he : Γe[0]? = some .o)
    (hbody : ∀ (cdv : Value) (A : Around) (outer : List Env) (s : Shared) (H : Hp) (E : XK), Room k (A.deeper (envOfC qual (defScope st) s.heap.objs.size f cdv)) →
      ∃ t, PSs (cxOf CX0 P w K mg base N qual (defScope st) f cdv A outer s H E).nox (defBody st) t ∧ ∀ q v, SimS ⟨S, q, [(0, v)]⟩ [] (GamI N.length n) Γe t body) :
    FnOk P w K mg base CX0 (k + 1) f fd ps (SpI S c (fnI0 n N.length c body)) := by
  refine Fn.ok Sc (fun vs H Q E ⟨C, ds, F, x, dx, ws, _, _, e, _, r, _, _, _, q⟩ => ?_) (fun cdv A outer s H vs Q E hr hsp => ?_)
  · rw [e, List.length_cons, r.length, q.1, hp]
  · obtain ⟨t, ht, hs⟩ := hbody cdv A outer s H E hr
    exact ⟨t, ht, init_body hN he hs hsp⟩
def ipAddU : TIp := fun x y H Q => (∃ i j, x = .int i ∧ y = .int j ∧ Q (.int (i + j)) H) ∨ ∃ i j, x = .str i ∧ y = .str j ∧ i.length + j.length ≤ sizeLine ∧ Q (.str (i ++ j)) H
def oAdd1 : O2 := fun d e Q => match d, e with
  | .int i, .int j => Q (.int (i + j))
  | .str x, .str y => x.length + y.length ≤ sizeLine ∧ Q (.str (x ++ y))
  | _, _ => False
theorem so_add1 : SimO2 CT ipAddU oAdd1 := ⟨fun H v w d e F G Q a b q => by
  cases a with
  | int i => cases b <;> first | exact .inl ⟨_, _, rfl, rfl, New.imm q (.int _)⟩ | exact (show False from q).elim
  | str x => cases b <;> first | exact .inr ⟨_, _, rfl, rfl, q.1, New.imm q.2 (.str _)⟩ | exact (show False from q).elim
  | _ => exact (show False from q).elim, fun d e Q Q' k q => by cases d <;> cases e <;> first | exact k _ q | exact ⟨q.1, k _ q.2⟩ | exact q⟩
def rGetU (K : PySem.W.Frag) : R2 := fun x y H Q => rIxL K x y H Q ∨ ∃ a v, x = .ref a ∧ DGet H a y (some v) ∧ Q v H
def oGet : O2 := fun d e Q => match d with
  | .lst _ => oIx d e Q
  | .dK _ => oIx d e Q
  | .dT _ => oIx d e Q
  | _ => False
theorem so_get : SimPart CT (rGetU K) oGet := ⟨fun H v w d e F G Q a b q => by
  cases a with
  | lst ha ra =>
    cases b with
    | int i =>
      obtain ⟨v', d', P, h1, h2, h3, h4⟩ := ra.atI q
      exact .inl ⟨_, _, _, _, rfl, rfl, SqL.of ha, h1, h2 v' P h3 (h4.trans (List.sublist_cons_self _ _))⟩
    | _ => exact (show False from q).elim
  | dK ha hk ra =>
    have q : oIx (.dK _) e _ := q
    unfold oIx at q
    dsimp only at q
    cases ek : e.key? with
    | none => rw [ek] at q; exact q.elim
    | some k =>
      rw [ek] at q
      rcases look_val k hk ra with ⟨g1, _⟩ | ⟨x, v, P, g1, g2, g3, g4⟩
      · simp only [g1] at q
      · simp only [g1] at q
        exact .inr ⟨_, v, rfl, .inl ⟨_, k, .inl ha, b.key ek, g2.symm⟩, q v P g3 (g4.trans (List.sublist_cons_self _ _))⟩
  | dT ha hk ra =>
    have q : oIx (.dT _) e _ := q
    unfold oIx at q
    dsimp only at q
    cases ek : e.tkey? with
    | none => rw [ek] at q; exact q.elim
    | some k =>
      rw [ek] at q
      obtain ⟨b', eb, hb⟩ := b.tkey ek
      rcases look_val k hk ra with ⟨g1, _⟩ | ⟨x, v, P, g1, g2, g3, g4⟩
      · simp only [g1] at q
      · simp only [g1] at q
        exact .inr ⟨_, v, rfl, .inr ⟨_, k, b', .inl ha, eb, hb, g2.symm⟩, q v P g3 (g4.trans (List.sublist_cons_self _ _))⟩
  | _ => exact (show False from q).elim, fun d e Q Q' k q => by
  cases d with
  | lst xs => exact mono_oIx (.lst xs) e Q Q' k q
  | dK xs => exact mono_oIx (.dK xs) e Q Q' k q
  | dT xs => exact mono_oIx (.dT xs) e Q Q' k q
  | _ => exact q⟩
def sAugS (i : Nat) (me mv : X1) : XS := fun E env => xVar i env fun d => me env fun e => oGet d e fun old => mv env fun w => oAdd1 old w fun z => setD d e z fun d' => E.nx (env.set i (some d'))
end
end Pu
set_option Elab.async false
set_option linter.all false
set_option maxRecDepth 100000
namespace Pu
open PySem PySem.Spec PyProof.Rows L2
section
variable {m n : X1} {a b : XB} {r : XL} {o o' : O2} {p : O1} {s t : XS} {g : XG} {gs : XGs}
instance : MO1 oList := ⟨(sc_list (CT := fun _ => 0) (K := default)).mono⟩
instance : MO1 oTup := ⟨(sc_tup (CT := fun _ => 0) (K := default)).mono⟩
instance {x : Bool} : MO1 (oAny x) := ⟨mono_oAny⟩
instance : MO1 oInt := ⟨(sc_int (CT := fun _ => 0)).mono⟩
instance {c : Nat} {f : Str} : MO1 (atF c f) := ⟨fun d Q Q' k q => by
    cases d with
    | obj c gs =>
      refine ⟨q.1, ?_⟩
      have q2 := q.2
      revert q2
      cases List.lookup f gs with
      | none => exact fun z => z
      | some x => exact k x
    | fz c gs =>
      refine ⟨q.1, ?_⟩
      have q2 := q.2
      revert q2
      cases List.lookup f gs with
      | none => exact fun z => z
      | some x => exact k x
    | _ => exact q⟩
instance : MO2 oAdd1 := ⟨(so_add1 (CT := fun _ => 0)).mono⟩
instance : MO2 oGet := ⟨(so_get (CT := fun _ => 0) (K := default)).mono⟩
instance : MS sNext := ⟨fun p q => p.1 _ q⟩
instance [h : MS s] [h' : MS t] : MS (sSeq s t) := ⟨fun {E E' env} p q => h.mono (E := { E with nx := t E }) (E' := { E' with nx := t E' }) ⟨fun _ q => h'.mono p q, p.2.1, p.2.2.1, p.2.2.2⟩ q⟩
instance {i : Nat} [h : MX m] : MS (sSet i m) := ⟨fun p q => h.mono _ _ _ (fun _ q => p.1 _ q) q⟩
instance [h : MX a] [h1 : MS s] [h2 : MS t] : MS (sIf a s t) := ⟨fun p q => h.mono _ _ _ (fun k q => by
    cases k with
    | true => exact h1.mono p q
    | false => exact h2.mono p q) q⟩
instance [h : MX m] : MS (sRet m) := ⟨fun p q => h.mono _ _ _ p.2.1 q⟩
instance [h : MX m] : MS (sDrop m) := ⟨fun p q => h.mono _ _ _ (fun _ q => p.1 _ q) q⟩
instance : MS sNever := ⟨fun _ q => q⟩
instance : MS sBreak := ⟨fun p q => p.2.2.1 _ q⟩
instance : MS sCont := ⟨fun p q => p.2.2.2 _ q⟩
instance {mi : XL} [h : MX mi] [h1 : MG g] [h2 : MS s] : MS (sFor mi g s) := ⟨fun {E E' env} p q => h.mono _ _ _ (fun ds q => mono_sLoop h1.mono (MS.all (m := s)) ds E E' env p q) q⟩
instance {i : Nat} [h : MO2 o] [h' : MX m] : MS (sAug i o m) := ⟨fun p q => mono_var _ _ _ (fun d q => h'.mono _ _ _ (fun e q => h.mono d e _ _ (fun x q => p.1 _ q) q) q) q⟩
instance {i : Nat} [h' : MX m] : MS (sApp i m) := ⟨fun p q => mono_var _ _ _ (fun d q => onL_mono (fun ds q => h'.mono _ _ _ (fun e q => ⟨q.1, p.1 _ q.2⟩) q) q) q⟩
instance {i : Nat} [h : MX m] [h' : MX n] : MS (sPut i m n) := ⟨fun p q => h'.mono _ _ _ (fun x q => mono_var _ _ _ (fun d q => h.mono _ _ _ (fun e q => mono_setD (fun y q => p.1 _ q) q) q) q) q⟩
instance {i c : Nat} {f : Str} [h : MX m] : MS (sSetF i c f m) := ⟨fun p q => h.mono _ _ _ (fun x q => mono_var _ _ _ (fun d q => onM_mono (fun gs q => p.1 _ q) q) q) q⟩
instance [h : MX m] [h' : MG g] : MS (sAsgG g m) := ⟨fun p q => h.mono _ _ _ (fun d q => h'.mono _ _ _ _ p.1 q) q⟩
instance {i : Nat} [h : MX m] [h' : MX n] : MS (sAugS i m n) := ⟨fun p q => mono_var _ _ _ (fun d q => h.mono _ _ _ (fun e q => MO2.mono (o := oGet) d e _ _ (fun old q => h'.mono _ _ _ (fun w q => MO2.mono (o := oAdd1) old w _ _ (fun z q => mono_setD (fun y q => p.1 _ q) q) q) q) q) q) q⟩
end
end Pu
set_option Elab.async false
set_option linter.all false
set_option maxRecDepth 100000
namespace Pu
open PySem PySem.Spec PyProof.Rows L2
section
variable {X : Cx} {K : PySem.W.Frag}
theorem k_add (h : X.K = K) : OpR X (binaryOp .Add) (rAddU K) := h ▸ op_addU
theorem k_eq (h : X.K = K) (hu : X.A.units + 64 < cLine) : OpR X (compareOp .Eq) (rEqD K) := h ▸ op_eqD hu
theorem k_ne (h : X.K = K) (hu : X.A.units + 64 < cLine) : OpR X (compareOp .NotEq) (rNeD K) := h ▸ op_neD hu
theorem k_ix (h : X.K = K) (hu : X.A.units + 1 < cLine) : IxR X (rIxU K) := h ▸ ix_U hu
theorem k_sl (h : X.K = K) : SlR X (rSlU K) := h ▸ sl_U
theorem k_seq {tg l : Expr} {tl : TE} (h : X.K = K) (hl : PE X l tl) : PI X tg l (iSeq K tl) := h ▸ pi_seq hl
theorem k_fld {e : Expr} {f : Str} {pos : Pos} {ta : TE} (h : X.K = K) (he : PE X e ta) (hb : attributeBase e f X.env (eval e X.env) = eval e X.env) : PE X (.Attribute e f pos) (tFld K ta f) := h ▸ pe_fld he hb
theorem k_len (h : X.K = K) : CallR X (.builtin "len") (rLen K) := h ▸ call_len_seq
theorem k_tuple (h : X.K = K) : CallR X (.type "tuple") (rTupO K) := h ▸ call_tuple_of
theorem k_all (h : X.K = K) (hc : X.calm = true) : CallR X (.builtin "all") (rAll K) := h ▸ cr_all hc
end
end Pu
set_option Elab.async false
set_option linter.all false
set_option maxRecDepth 100000
namespace Pu
open PySem PySem.Spec PyProof.Rows L2
section
variable {C : Cfg} {Γ Γ' Γn Γl Γo Γt Γe Γ1 Γ2 : List Mo} {σ σ' : L2.St} {H H' H1 H2 : Hp} {env env' : PEnv} {Fs Fs' Fs1 Fs2 : Nat → List Addr} {v : V} {vs : List V} {d : D} {ds : List D} {F G : List Addr} {ta tb tc te : TE} {A B : Kd} {m n mc : X1} {K : PySem.W.Frag} {CT : Nat → Addr} {S : Stat} {X : Cx}
def D.ty : D → Option String
  | .non => some "NoneType"
  | .bl _ => some "bool"
  | .int _ => some "int"
  | .str _ => some "str"
  | .tup _ => some "tuple"
  | .lst _ => some "list"
  | .dK _ => some "dict"
  | .dT _ => some "dict"
  | .obj _ _ => none
  | .fz _ _ => none
  | .dN _ => none
def subB (t c : String) : Bool := t == c || (t == "bool" && c == "int")
def oIsA (c : String) : O1 := fun d Q => match d.ty with
  | some t => Q (.bl (subB t c))
  | none => False
class KitB (c : String) : Prop where
  h : ∀ (K : PySem.W.Frag) (d : D) (t : String), d.ty = some t → PySem.W.kitOne K (.type t) (.type c) = some (subB t c)
instance : KitB "int" := ⟨fun K d t h => by cases d <;> simp [D.ty] at h <;> subst h <;> rfl⟩
instance : KitB "bool" := ⟨fun K d t h => by cases d <;> simp [D.ty] at h <;> subst h <;> rfl⟩
instance : KitB "str" := ⟨fun K d t h => by cases d <;> simp [D.ty] at h <;> subst h <;> rfl⟩
instance : KitB "tuple" := ⟨fun K d t h => by cases d <;> simp [D.ty] at h <;> subst h <;> rfl⟩
instance : KitB "list" := ⟨fun K d t h => by cases d <;> simp [D.ty] at h <;> subst h <;> rfl⟩
instance : KitB "dict" := ⟨fun K d t h => by cases d <;> simp [D.ty] at h <;> subst h <;> rfl⟩
theorem Rp.ty {t : String} (r : Rp CT H v d F) (h : d.ty = some t) : TyX K H v (.type t) := by
  cases r <;> simp [D.ty] at h <;> subst h
  · exact .base .non
  · exact .base (.bl _)
  · exact .base (.int _)
  · exact .base (.str _)
  · exact .base (.tup (by assumption))
  · exact .base (.lst (by assumption))
  · exact .base (.dK (by assumption))
  · exact .base (.dT (by assumption))
theorem k_isa (h : X.K = K) : CallR X (.builtin "isinstance") (rIsi K) := h ▸ call_isi
theorem mono_oIsA {c : String} : Mono1 (oIsA c) := fun d Q Q' k q => by cases d <;> first | exact k _ q | exact q
theorem sim_isa {c : String} [kc : KitB c] (s : Sim C Γ te A m) : Sim C Γ (tCB (rIsi K) (tCons te (tCons (tC (.ty c)) tNil))) .own (x1 (oIsA c) m) :=
  ⟨fun σ H env Fs Q I h => s.run σ H env Fs _ I (s.mono env _ _ (fun d q v H1 F f dk r k => by
    cases e : d.ty with
    | none => unfold oIsA at q; rw [e] at q; exact q.elim
    | some t =>
      unfold oIsA at q; rw [e] at q
      exact ⟨v, .ty c, .type t, .type c, subB t c, rfl, .ty c, r.ty e, kc.h K d t e, q _ H1 [] f dk (.bl _) KdOk.own_nil⟩) h), mono_x1 mono_oIsA s.mono⟩
instance {c : String} : MO1 (oIsA c) := ⟨mono_oIsA⟩
theorem sim_dnewK : Sim C Γ tDNewK .own (xC (.dK [])) := ⟨fun σ H env Fs Q I h p hp => h (.ref p) _ [p] (Fr.new hp) (I.dk.keep (Fr.new hp)) (.dK upd_same rfl .nil) ⟨NoQ.new I.dk fun a ha => by rw [List.mem_singleton.mp ha]; exact hp, by simp, fun a ha => by rw [List.mem_singleton.mp ha]; exact hp⟩, mono_c⟩
end
end Pu
set_option Elab.async false
set_option linter.all false
set_option maxRecDepth 100000
namespace Pu
open PySem PySem.Spec PyProof.Rows L2
section
variable {C : Cfg} {Γ Γ' Γn Γl Γo Γt Γe Γ1 Γ2 : List Mo} {σ σ' : L2.St} {H H' H1 H2 : Hp} {env env' : PEnv} {Fs Fs' Fs1 Fs2 : Nat → List Addr} {v y : V} {vs : List V} {d x : D} {ds : List D} {F G : List Addr} {t : TA} {ta tb tc te t1 t2 : TE} {A B : Kd} {m n mc n1 n2 : X1} {K : PySem.W.Frag} {CT : Nat → Addr} {S : Stat} {X : Cx}
theorem ps_never {st : Stmt} : PS X st tNever := ⟨fun _ _ _ _ _ _ h => h.elim⟩
abbrev UL := List D → List D → (List D → Prop) → Prop
structure LmOk (r : V → List V → Hp → VK → Prop) (u : UL) : Prop where
  run : ∀ {CT : Nat → Addr} {H : Hp} {a : Addr} {vs ws : List V} {ds es : List D} {F G : List Addr} {Q : V → Hp → Prop}, H a = some (.lst vs) → Rps CT H vs ds F → Rps CT H ws es G →
    u ds es (fun ds' => ∀ (vs' : List V) (F' : List Addr) (z : V), Rps CT H vs' ds' F' → (∀ b ∈ F', b ∈ F ∨ b ∈ G) → ((F ++ G).Nodup → F'.Nodup) → Q z (upd H a (.lst vs'))) → r (.ref a) ws H Q
  mono : ∀ ds es (Q Q' : List D → Prop), (∀ e, Q e → Q' e) → u ds es Q → u ds es Q'
def sLm (i : Nat) (u : UL) (ms : XL) : XS := fun E env => xVar i env fun d => onL d fun xs => ms env fun es => u xs es fun ds => E.nx (env.set i (some (.lst ds)))
class MU (u : UL) : Prop where
  mono : ∀ ds es (Q Q' : List D → Prop), (∀ e, Q e → Q' e) → u ds es Q → u ds es Q'
def uIns : UL := fun xs es Q => match es with
  | [.int i, d] => xs.length < sizeLine ∧ 0 ≤ i ∧ i < 2 ^ 63 ∧ Q (xs.take i.toNat ++ d :: xs.drop i.toNat)
  | _ => False
theorem Rps.two_of {a b : D} (r : Rps CT H vs [a, b] F) : ∃ v w G1 G2, vs = [v, w] ∧ Rp CT H v a G1 ∧ Rp CT H w b G2 ∧ F = G1 ++ G2 := by
  cases r with
  | cons r1 r2 => cases r2 with
    | cons r2 r3 => cases r3; exact ⟨_, _, _, _, rfl, r1, r2, by simp⟩
theorem Rps.one_of {a : D} (r : Rps CT H vs [a] F) : ∃ v, vs = [v] ∧ Rp CT H v a F := by
  cases r with
  | cons r1 r2 => cases r2; exact ⟨_, rfl, by simpa using r1⟩
theorem Rps.split : ∀ {vs : List V} {ds : List D} {F : List Addr} (j : Nat), Rps CT H vs ds F → ∃ F1 F2, Rps CT H (vs.take j) (ds.take j) F1 ∧ Rps CT H (vs.drop j) (ds.drop j) F2 ∧ F = F1 ++ F2
  | _, _, F, 0, r => ⟨[], F, .nil, r, rfl⟩
  | _, _, _, j + 1, .nil => ⟨[], [], .nil, .nil, rfl⟩
  | _, _, _, j + 1, .cons (F := F1) (G := F2) r rs => by
    obtain ⟨P, Q, h1, h2, h3⟩ := Rps.split j rs
    exact ⟨F1 ++ P, Q, .cons r h1, h2, by rw [h3, List.append_assoc]⟩
theorem lm_ins : ∃ r, (∀ X : Cx, MtR X "list.insert" r) ∧ LmOk r uIns := by
  refine ⟨_, fun X => mt_insert, ⟨?_, ?_⟩⟩
  · intro CT H a vs ws ds es F G Q ha r r2 q
    match es, r2, q with
    | [.int i, d], r2, q =>
      obtain ⟨v, w, G1, G2, rfl, q1, q2, rfl⟩ := r2.two_of
      cases q1
      obtain ⟨h1, h2, h3, q⟩ := q
      obtain ⟨F1, F2, s1, s2, rfl⟩ := r.split i.toNat
      refine ⟨a, vs, i, w, rfl, rfl, ha, by rw [r.length]; exact h1, h2, h3, ?_⟩
      rw [List.append_assoc]
      refine q _ (F1 ++ (G2 ++ F2)) _ (s1.append (.cons q2 s2)) (fun b hb => ?_) (fun nd => ?_)
      · simp only [List.mem_append, List.nil_append] at hb ⊢
        rcases hb with h | h | h
        · exact .inl (.inl h)
        · exact .inr h
        · exact .inl (.inr h)
      · rw [List.nil_append, List.append_assoc] at nd
        exact (List.Perm.append_left F1 (List.perm_append_comm (l₁ := F2) (l₂ := G2))).nodup_iff.mp nd
  · intro ds es Q Q' kk q
    match es, q with
    | [.int i, d], q => exact ⟨q.1, q.2.1, q.2.2.1, kk _ q.2.2.2⟩
noncomputable def rIns := lm_ins.choose
theorem lo_ins : LmOk rIns uIns := lm_ins.choose_spec.2
def uPopAt : UL := fun xs es Q => match es with
  | [.int i] => -(2 ^ 63) ≤ i ∧ i < 2 ^ 63 ∧ (match seqIndex? i xs.length with | some k => k < xs.length ∧ Q (xs.eraseIdx k) | none => False)
  | _ => False
theorem Rps.erase : ∀ {vs : List V} {ds : List D} {F : List Addr} (j : Nat), Rps CT H vs ds F → ∃ F', Rps CT H (vs.eraseIdx j) (ds.eraseIdx j) F' ∧ F'.Sublist F
  | _, _, _, _, .nil => ⟨[], .nil, List.Sublist.slnil⟩
  | _, _, _, 0, .cons (F := F1) (G := F2) r rs => ⟨F2, rs, List.sublist_append_right _ _⟩
  | _, _, _, j + 1, .cons (F := F1) (G := F2) r rs => by
    obtain ⟨F', h1, h2⟩ := Rps.erase j rs
    exact ⟨F1 ++ F', .cons r h1, h2.append_left _⟩
theorem lo_popAt : LmOk rPopAt uPopAt := by
  refine ⟨?_, ?_⟩
  · intro CT H a vs ws ds es F G Q ha r r2 q
    match es, r2, q with
    | [.int i], r2, q =>
      obtain ⟨v, rfl, q1⟩ := r2.one_of
      cases q1
      obtain ⟨h1, h2, q⟩ := q
      cases e : seqIndex? i ds.length with
      | none => rw [e] at q; exact q.elim
      | some k =>
        rw [e] at q
        obtain ⟨h3, q⟩ := q
        obtain ⟨F', s1, s2⟩ := r.erase k
        have hk : k < vs.length := by rw [r.length]; exact h3
        refine ⟨a, vs, i, k, vs[k], rfl, rfl, ha, h1, h2, by rw [r.length]; exact e, List.getElem?_eq_getElem hk, q _ F' _ s1 (fun b hb => .inl (s2.subset hb)) fun nd => ?_⟩
        rw [List.append_nil] at nd
        exact s2.nodup nd
  · intro ds es Q Q' kk q
    match es, q with
    | [.int i], q =>
      refine ⟨q.1, q.2.1, ?_⟩
      have q := q.2.2
      cases e : seqIndex? i ds.length with
      | none => rw [e] at q; exact q.elim
      | some j =>
        rw [e] at q
        exact ⟨q.1, kk _ q.2⟩
instance : MU uIns := ⟨lo_ins.mono⟩
instance : MU uPopAt := ⟨lo_popAt.mono⟩
instance {i : Nat} {u : UL} {ms : XL} [h : MU u] [h' : MX ms] : MS (sLm i u ms) := ⟨fun p q => mono_var _ _ _ (fun d q => onL_mono (fun ds q => h'.mono _ _ _ (fun e q => h.mono _ _ _ _ (fun ds q => p.1 _ q) q) q) q) q⟩
def sSwap (i : Nat) (m n1 n2 : X1) : XS := fun E env => m env fun d => match d with
  | .tup [x, y] => x.imm = true ∧ y.imm = true ∧ xVar i env fun d => n1 env fun e => setD d e x fun d' =>
      (fun env => xVar i env fun d => n2 env fun e => setD d e y fun d' => E.nx (env.set i (some d'))) (env.set i (some d'))
  | _ => False
instance {i : Nat} [h : MX m] [h1 : MX n1] [h2 : MX n2] : MS (sSwap i m n1 n2) := ⟨fun p q => h.mono _ _ _ (fun d q => by
    match d, q with
    | .tup [x, y], q => exact ⟨q.1, q.2.1, mono_var _ _ _ (fun d q => h1.mono _ _ _ (fun e q => mono_setD (fun d' q => mono_var _ _ _ (fun d q => h2.mono _ _ _ (fun e q => mono_setD (fun d' q => p.1 _ q) q) q) q) q) q) q.2.2⟩) q⟩
end
end Pu
set_option Elab.async false
set_option linter.all false
set_option maxRecDepth 100000
namespace Pu
open PySem PySem.Spec PyProof.Rows L2
open Sem (wp)
open AutoSeq1 (wpAny_loadPart')
theorem k_zip {X : Cx} {K : PySem.W.Frag} {e e2 : Expr} {ta : TA} {p pos tpos : Pos} {elts : List Expr} {kk : Nat} (h : X.K = K) (hg : Gl X "zip") (hm : X.mg "zip" = none) (ha : PA X [e, e2] ta)
    (hs : starEach [e, e2] X.env = (false, eval e X.env) :: starEach [e2] X.env := by rfl) (hpl : (backTo pos (starEach [e2] X.env)).any (·.1) = false := by rfl) :
    PI X (.Tuple elts kk tpos) (.Call (.Name "zip" p) [e, e2] [] pos) (RZ.iZipA K ta) := h ▸ RZ.pi_zipA hg hm ha hs hpl
section
variable {C : Cfg} {Γ Γ' Γn Γl Γo Γt Γe Γ1 Γ2 : List Mo} {σ σ' : L2.St} {H H' H1 H2 : Hp} {env env' : PEnv} {Fs Fs' Fs1 Fs2 : Nat → List Addr} {v : V} {vs ws : List V} {d : D} {ds es : List D} {F G : List Addr} {ta tb te : TE} {A B : Kd} {m n : X1} {K : PySem.W.Frag} {CT : Nat → Addr}
def mEnmU (m : X1) : XL := fun env Q => m env fun d => match d with
  | .lst ds => Q (enD 0 ds)
  | .tup ds => Q (enD 0 ds)
  | _ => False
instance [h : MX m] : MX (mEnmU m) := ⟨fun env Q Q' k q => h.mono env _ _ (fun d q => by cases d <;> first | exact k _ q | exact q) q⟩
def zpD : List D → List D → List D
  | d :: ds, e :: es => .tup [d, e] :: zpD ds es
  | _, _ => []
theorem zpD_len : ∀ (ds es : List D), (zpD ds es).length = min ds.length es.length
  | [], _ => by simp [zpD]
  | _ :: _, [] => by simp [zpD]
  | d :: ds, e :: es => by simp only [zpD, List.length_cons, zpD_len ds es]; omega
theorem zpD_get : ∀ (ds es : List D) (i : Nat) (d e : D), ds[i]? = some d → es[i]? = some e → (zpD ds es)[i]? = some (.tup [d, e])
  | [], _, _, _, _, h, _ => by simp at h
  | _ :: _, [], _, _, _, _, h => by simp at h
  | x :: ds, y :: es, 0, d, e, h, h' => by simp at h h'; subst h h'; rfl
  | x :: ds, y :: es, i + 1, d, e, h, h' => by
    have := zpD_get ds es i d e (by simpa using h) (by simpa using h')
    simpa [zpD] using this
theorem walk_zpT {a b : Addr} : Walk CT (RZ.ItzT K a b) (F ++ G) (fun H => (H a = some (.tup vs) ∧ Rps CT H vs ds F) ∧ H b = some (.tup ws) ∧ Rps CT H ws es G) (zpD ds es) where
  keep := fun W H H' ⟨⟨h, r⟩, h', r'⟩ f n => ⟨⟨f.im _ _ h rfl, r.keep f fun b hb => n b (List.mem_append_left _ hb)⟩, f.im _ _ h' rfl, r'.keep f fun b hb => n b (List.mem_append_right _ hb)⟩
  there := fun H ⟨⟨h, r⟩, h', r'⟩ b hb => (List.mem_append.mp hb).elim (r.tracked b) (r'.tracked b)
  go := fun i H ⟨⟨h, r⟩, h', r'⟩ hi => by
    rw [zpD_len, ← r.length, ← r'.length] at hi
    have h1 : i < vs.length := by omega
    have h2 : i < ws.length := by omega
    exact ⟨vs, ws, vs[i], ws[i], SqT.of h, SqT.of h', List.getElem?_eq_getElem h1, List.getElem?_eq_getElem h2⟩
  stop := fun H ⟨⟨h, r⟩, h', r'⟩ => ⟨vs, ws, SqT.of h, SqT.of h', by rw [zpD_len, ← r.length, ← r'.length]; omega⟩
  yld := fun i H x H' ⟨⟨h, r⟩, h', r'⟩ hi ⟨T, y, z, e, hT, e', hy, hz⟩ => by
    subst e e'
    obtain ⟨d1, G1, h1, h2, h3⟩ := r.getV (hy vs (SqT.of h))
    obtain ⟨d2, G2, k1, k2, k3⟩ := r'.getV (hz ws (SqT.of h'))
    refine ⟨_, G1 ++ (G2 ++ []), zpD_get ds es i d1 d2 h1 k1, Fr.new hT, .tup upd_same (.cons (h2.keep (W := fun _ => False) (Fr.new hT) fun _ _ z => z) (.cons (k2.keep (W := fun _ => False) (Fr.new hT) fun _ _ z => z) .nil)), fun b hb => ?_⟩
    rw [List.append_nil] at hb
    exact (List.mem_append.mp hb).elim (fun m => List.mem_append_left _ (h3.mem m)) fun m => List.mem_append_right _ (k3.mem m)
theorem walk_zpL {a b : Addr} : Walk CT (Itz K a b) ((a :: F) ++ (b :: G)) (fun H => (H a = some (.lst vs) ∧ Rps CT H vs ds F) ∧ H b = some (.lst ws) ∧ Rps CT H ws es G) (zpD ds es) where
  keep := fun W H H' ⟨⟨h, r⟩, h', r'⟩ f n => ⟨⟨f.keep _ _ h (n _ (List.mem_append_left _ List.mem_cons_self)), r.keep f fun b hb => n b (List.mem_append_left _ (List.mem_cons_of_mem _ hb))⟩,
    f.keep _ _ h' (n _ (List.mem_append_right _ List.mem_cons_self)), r'.keep f fun b hb => n b (List.mem_append_right _ (List.mem_cons_of_mem _ hb))⟩
  there := fun H ⟨⟨h, r⟩, h', r'⟩ b hb => (List.mem_append.mp hb).elim ((Rp.lst h r).tracked b) ((Rp.lst h' r').tracked b)
  go := fun i H ⟨⟨h, r⟩, h', r'⟩ hi => by
    rw [zpD_len, ← r.length, ← r'.length] at hi
    have h1 : i < vs.length := by omega
    have h2 : i < ws.length := by omega
    exact ⟨vs, ws, vs[i], ws[i], SqL.of h, SqL.of h', List.getElem?_eq_getElem h1, List.getElem?_eq_getElem h2⟩
  stop := fun H ⟨⟨h, r⟩, h', r'⟩ => ⟨vs, ws, SqL.of h, SqL.of h', by rw [zpD_len, ← r.length, ← r'.length]; omega⟩
  yld := fun i H x H' ⟨⟨h, r⟩, h', r'⟩ hi ⟨T, y, z, e, hT, e', hy, hz⟩ => by
    subst e e'
    obtain ⟨d1, G1, h1, h2, h3⟩ := r.getV (hy vs (SqL.of h))
    obtain ⟨d2, G2, k1, k2, k3⟩ := r'.getV (hz ws (SqL.of h'))
    refine ⟨_, G1 ++ (G2 ++ []), zpD_get ds es i d1 d2 h1 k1, Fr.new hT, .tup upd_same (.cons (h2.keep (W := fun _ => False) (Fr.new hT) fun _ _ z => z) (.cons (k2.keep (W := fun _ => False) (Fr.new hT) fun _ _ z => z) .nil)), fun b hb => ?_⟩
    rw [List.append_nil] at hb
    exact (List.mem_append.mp hb).elim (fun m => List.mem_append_left _ (List.mem_cons_of_mem _ (h3.mem m))) fun m => List.mem_append_right _ (List.mem_cons_of_mem _ (k3.mem m))
def mzQ (ds : List D) (Q : List D → Prop) : Prop := match ds with
  | [.lst xs, .lst ys] => Q (zpD xs ys)
  | [.tup xs, .tup ys] => Q (zpD xs ys)
  | _ => False
theorem mzQ_of {Q : List D → Prop} (q : mzQ ds Q) : (∃ xs ys, ds = [.lst xs, .lst ys] ∧ Q (zpD xs ys)) ∨ ∃ xs ys, ds = [.tup xs, .tup ys] ∧ Q (zpD xs ys) := by
  unfold mzQ at q
  split at q
  · exact .inl ⟨_, _, rfl, q⟩
  · exact .inr ⟨_, _, rfl, q⟩
  · exact q.elim
def mZip (r : XL) : XL := fun env Q => r env fun ds => mzQ ds Q
theorem mono_zip {r : XL} (h : Mono r) : Mono (mZip r) := fun env Q Q' k q => h env _ _ (fun ds q => by
  rcases mzQ_of q with ⟨xs, ys, rfl, q⟩ | ⟨xs, ys, rfl, q⟩
  · exact k _ q
  · exact k _ q) q
theorem simi_zip {t : TA} {r : XL} (s : SimL C Γ t A r) : SimI C Γ (RZ.iZipA K t) A (mZip r) := ⟨fun σ H env Fs R I h => s.run σ H env Fs _ I (s.mono env _ _ (fun ds q vs H1 F f dk rr k => by
    have kd := k.set I
    rcases mzQ_of q with ⟨xs, ys, rfl, q⟩ | ⟨xs, ys, rfl, q⟩
    · obtain ⟨v, w, G1, G2, rfl, r1, r2, rfl⟩ := rr.two_of
      cases r1 with
      | lst h1 p1 => cases r2 with
        | lst h2 p2 => exact ⟨_, _, _, _, rfl, .inl ⟨SqL.of h1, SqL.of h2, q H1 _ _ _ f dk walk_zpL ⟨⟨h1, p1⟩, h2, p2⟩ ⟨k.1, kd⟩⟩⟩
    · obtain ⟨v, w, G1, G2, rfl, r1, r2, rfl⟩ := rr.two_of
      cases r1 with
      | tup h1 p1 => cases r2 with
        | tup h2 p2 => exact ⟨_, _, _, _, rfl, .inr ⟨SqT.of h1, SqT.of h2, q H1 _ _ _ f dk walk_zpT ⟨⟨h1, p1⟩, h2, p2⟩ ⟨k.1, kd⟩⟩⟩) h), mono_zip s.mono⟩
instance {r : XL} [h : MX r] : MX (mZip r) := ⟨mono_zip h.mono⟩
end
theorem k_ty {X : Cx} {x : Str} {c : String} {pos : Pos} (hg : Gl X x) (hm : X.mg x = none) (hv : bootBuiltins x = some (.type c)) (hn : x ≠ "__name__" := by decide) (hd : (x == ("__debug__" : Str)) = false := by decide) : PE X (.Name x pos) (tC (.ty c)) :=
  pe_bltn hg hm hv rfl hn hd
theorem k_gtup {X : Cx} {K : PySem.W.Frag} {es : List Expr} {k : Nat} {t : TGs} {n : Nat} {pos : Pos} (hK : X.K = K) (hc : X.calm = true) (h : PGs X es t) (hn : (assignEach es X.env).length = n := by rfl) (hst : (assignEach es X.env).findIdx? (·.1) = none := by rfl) :
    PG X (.Tuple es k pos) (gTup K n t) := hK ▸ pg_tup hc h hn hst
end Pu
set_option Elab.async false
set_option linter.all false
set_option maxRecDepth 100000
namespace Pu
open PySem PySem.Spec PyProof.Rows L2
def dInts (zs : List Int) : List D := zs.map D.int
def vInts (zs : List Int) : List V := zs.map V.int
def dD (cs zs : List Int) : D := .lst (.lst (dInts cs) :: dInts zs)
structure DS (p : Addr × Addr) (H : Hp) (cs zs : List Int) : Prop where
  ne : p.1 ≠ p.2
  a1 : H p.1 = some (.lst (.ref p.2 :: vInts zs))
  a2 : H p.2 = some (.lst (vInts cs))
section
variable {C : Cfg} {Γ Γ' Γ1 Γ2 : List Mo} {σ σ' : L2.St} {H H' H1 H2 : Hp} {env env' tl : PEnv} {v : V} {d : D} {F G : List Addr} {ta tb te : TE} {A B : Kd} {m n : X1} {CT : Nat → Addr} {S : Stat} {p : Addr × Addr} {cs zs : List Int}
theorem rps_dInts : ∀ zs : List Int, Rps CT H (vInts zs) (dInts zs) []
  | [] => .nil
  | z :: zs => .cons (.int z) (rps_dInts zs)
theorem DS.rp (s : DS p H cs zs) : Rp CT H (.ref p.1) (dD cs zs) (p.1 :: (p.2 :: []) ++ []) := .lst s.a1 (.cons (.lst s.a2 (rps_dInts cs)) (rps_dInts zs))
structure OkD (p : Addr × Addr) (Γ : List Mo) (σ : L2.St) (H : Hp) (cs zs : List Int) (tl : PEnv) : Prop where
  ds : DS p H cs zs
  l1 : tl.length = Γ.length
  l2 : σ.length = Γ.length + 1
  s0 : σ[0]? = some (some (.ref p.1))
  val : ∀ i : Nat, Γ[i]? = some .f → ∃ z, σ[i + 1]? = some (some (.int z)) ∧ tl[i]? = some (some (.int z))
  fx : ∀ (i : Nat) (mo : Mo), Γ[i]? = some mo → mo = .f ∨ mo = .x
abbrev C0 (S : Stat) : Cfg := ⟨S, none, []⟩
def eD (cs zs : List Int) (tl : PEnv) : PEnv := some (dD cs zs) :: tl
theorem OkD.ok (I : OkD p Γ σ H cs zs tl) : Ok (C0 S) (.f :: Γ) σ H (eD cs zs tl) (fun j => if j = 0 then p.1 :: (p.2 :: []) ++ [] else []) := by
  refine ⟨by simp [eD, I.l1], by simp [I.l2], fun i mo h l => ?_, fun i h => ?_, fun i h => ?_, fun i j mo h _ _ _ => ?_, fun _ _ _ _ => (fun _ e => nomatch e), (fun _ e => nomatch e), (fun _ e => nomatch e)⟩
  · cases i with
    | zero => exact ⟨_, _, I.s0, rfl, I.ds.rp⟩
    | succ i =>
      have h : Γ[i]? = some mo := by simpa using h
      rcases I.fx i mo h with e | e
      · subst e
        obtain ⟨z, h1, h2⟩ := I.val i h
        exact ⟨_, _, h1, by simpa [eD] using h2, .int z⟩
      · subst e; rcases l with l | l <;> cases l
  · cases i with
    | zero => cases h
    | succ i =>
      have h : Γ[i]? = some .q := by simpa using h
      rcases I.fx i _ h with e | e <;> cases e
  · cases i with
    | zero => cases h
    | succ i =>
      have h : Γ[i]? = some .o := by simpa using h
      rcases I.fx i _ h with e | e <;> cases e
  · cases i with
    | zero => cases h
    | succ i =>
      have h : Γ[i]? = some .o := by simpa using h
      rcases I.fx i _ h with e | e <;> cases e
abbrev WD (p : Addr × Addr) : Addr → Prop := fun a => a = p.1 ∨ a = p.2
theorem wq0 {a : Addr} : ¬ Wq (C0 S) a := fun ⟨_, e, _⟩ => nomatch e
theorem DS.keep {W : Addr → Prop} (s : DS p H cs zs) (f : Fr W H H') (n1 : ¬ W p.1) (n2 : ¬ W p.2) : DS p H' cs zs := ⟨s.ne, f.keep _ _ s.a1 n1, f.keep _ _ s.a2 n2⟩
theorem OkD.keep (I : OkD p Γ σ H cs zs tl) (f : Fr (Wq (C0 S)) H H') : OkD p Γ σ H' cs zs tl := ⟨I.ds.keep f wq0 wq0, I.l1, I.l2, I.s0, I.val, I.fx⟩
def wkD : List Mo → List Mo → Bool
  | [], [] => true
  | a :: r, b :: s => (decide (b = .x) || decide (a = b)) && wkD r s
  | _, _ => false
theorem wkD_at : ∀ {Γ Γ' : List Mo}, wkD Γ Γ' = true → Γ.length = Γ'.length ∧ ∀ (i : Nat) (mo : Mo), Γ'[i]? = some mo → mo = .x ∨ Γ[i]? = some mo
  | [], [], _ => ⟨rfl, fun i mo h => by simp at h⟩
  | a :: r, b :: s, h => by
    simp only [wkD, Bool.and_eq_true, Bool.or_eq_true, decide_eq_true_eq] at h
    obtain ⟨h1, h2⟩ := wkD_at h.2
    refine ⟨by simp [h1], fun i mo e => ?_⟩
    cases i with
    | zero =>
      simp at e; subst e
      rcases h.1 with z | z
      · exact .inl z
      · exact .inr (by simp [z])
    | succ i => simpa using h2 i mo (by simpa using e)
  | [], _ :: _, h => by simp [wkD] at h
  | _ :: _, [], h => by simp [wkD] at h
theorem OkD.weak (I : OkD p Γ σ H cs zs tl) (h : wkD Γ Γ' = true) : OkD p Γ' σ H cs zs tl := by
  obtain ⟨h1, h2⟩ := wkD_at h
  refine ⟨I.ds, I.l1.trans h1, by rw [I.l2, h1], I.s0, fun i e => ?_, fun i mo e => ?_⟩
  · rcases h2 i _ e with z | z
    · cases z
    · exact I.val i z
  · rcases h2 i _ e with z | z
    · exact .inr z
    · exact I.fx i mo z
structure DEnds where
  nx : List Int → List Int → PEnv → Prop
  rt : List Int → List Int → Int → Prop
abbrev XD := DEnds → List Int → List Int → PEnv → Prop
structure SimD (S : Stat) (p : Addr × Addr) (Γ Γ' : List Mo) (t : TS) (b : XD) : Prop where
  run : ∀ (σ : L2.St) (H : Hp) (cs zs : List Int) (tl : PEnv) (D : Ends) (E : DEnds), OkD p Γ σ H cs zs tl →
    (∀ σ' H' cs' zs' tl', OkD p Γ' σ' H' cs' zs' tl' → Fr (WD p) H H' → E.nx cs' zs' tl' → D.nx σ' H') →
    (∀ H' cs' zs' z, DS p H' cs' zs' → Fr (WD p) H H' → E.rt cs' zs' z → D.rt (.int z) H') → b E cs zs tl → t D σ H
def mDraw : XF := fun ds Q => match ds with
  | [_, .int n] => 0 < n ∧ n < 2 ^ 30 ∧ ∀ r, 0 ≤ r → r < n → Q (.int r)
  | _ => False
theorem mDraw_of {ds : List D} {Q : D → Prop} (h : mDraw ds Q) : ∃ d n, ds = [d, .int n] ∧ 0 < n ∧ n < 2 ^ 30 ∧ ∀ r, 0 ≤ r → r < n → Q (.int r) := by
  unfold mDraw at h
  split at h
  · exact ⟨_, _, rfl, h⟩
  · exact h.elim
theorem mo_mDraw : MonoF mDraw := fun ds Q Q' k h => by
  obtain ⟨d, n, rfl, h1, h2, h3⟩ := mDraw_of h
  exact ⟨h1, h2, fun r a b => k _ (h3 r a b)⟩
instance : MF mDraw := ⟨mo_mDraw⟩
instance {r : XL} [h : MX r] : MX (xDice r) := ⟨fun env Q Q' k q => h.mono env _ _ (fun ds q => k _ q) q⟩
end
end Pu
set_option Elab.async false
set_option linter.all false
set_option maxRecDepth 100000
namespace Pu
open PySem PySem.Spec PyProof.Rows L2
section
variable {cs : List Int} {i b m c n z : Int} {tl : PEnv} {Q : D → Prop} {E : DEnds} {e2 e3 e4 : Option D}
end
end Pu
set_option Elab.async false
set_option linter.all false
set_option maxRecDepth 100000
namespace Pu
open PySem PySem.Spec PyProof.Rows L2
section
variable {C : Cfg} {Γ Γ' Γn Γl Γo Γt Γe Γ1 Γ2 : List Mo} {σ σ' : L2.St} {H H' H1 H2 : Hp} {env env' : PEnv} {v : V} {d : D} {ds : List D} {S : Stat} {K : PySem.W.Frag} {ns : List Int}
theorem cut_ints (ns : List Int) (lo hi : Option Int) : ∃ ms : List Int, cutV (ns.map V.int) lo hi = vInts ms ∧ ms.length ≤ ns.length := by
  refine ⟨(ns.drop (HT.sIx (ns.map V.int).length 0 lo)).take (HT.sIx (ns.map V.int).length (ns.map V.int).length hi - HT.sIx (ns.map V.int).length 0 lo), ?_, ?_⟩
  · unfold cutV vInts
    rw [List.map_take, List.map_drop]
  · rw [List.length_take, List.length_drop]
    omega
end
def spLaw (K : PySem.W.Frag) : Sp := fun vs H Q _ => ∃ (a : Addr) (ns : List Int), vs = [.ref a] ∧ SqL K H a (ns.map V.int) ∧ ns.length ≤ 63 ∧ ∀ H', Q (.bl true) H'
def gamL (n : Nat) : List Mo := .x :: .q :: List.replicate n .x
def lawEnds : PEnds := { nx := fun _ => False, rt := fun d => d = .bl true, bk := fun _ => False, ct := fun _ => False }
end Pu
set_option Elab.async false
set_option linter.all false
set_option maxRecDepth 100000
namespace PuS
open PySem PySem.Spec PyProof.Rows SrtO
open HT (lexLt)
section
variable {prog : Program} {w : World} {A : Around} {E : Value → Shared → Prop} {s : Shared}
end
end PuS
namespace Pu
open PySem PySem.Spec PyProof.Rows L2
def rowsD (rows : List (List Int)) : List D := rows.map fun ns => .tup (dInts ns)
section
variable {CT : Nat → Addr} {H : Hp} {vs : List V} {F : List Addr} {K : PySem.W.Frag}
end
end Pu
set_option Elab.async false
set_option linter.all false
set_option maxRecDepth 100000
namespace Pu
open PySem PySem.Spec PyProof.Rows L2
def keyD : Key → D
  | .inl i => .int i
  | .inr x => .str x
theorem rp_key {CT : Nat → Addr} {H : Hp} : ∀ k : Key, Rp CT H (kV k) (keyD k) []
  | .inl i => .int i
  | .inr x => .str x
theorem rps_keys {CT : Nat → Addr} {H : Hp} : ∀ ks : List Key, Rps CT H (ks.map kV) (ks.map keyD) []
  | [] => .nil
  | k :: ks => .cons (F := []) (rp_key k) (rps_keys ks)
def tkD (k : List Key) : D := .tup (k.map keyD)
def oListT : O1 := fun d Q => match d with
  | .dT kvs => Q (.lst (kvs.map fun kv => tkD kv.1))
  | _ => False
def oListK : O1 := fun d Q => match d with
  | .dK kvs => Q (.lst (kvs.map fun kv => keyD kv.1))
  | _ => False
theorem keys_rps {CT : Nat → Addr} {H : Hp} : ∀ {kvs : List (List Key × V)} {kds : List (List Key × D)} {bs : List Addr}, kvs.map (·.1) = kds.map (·.1) → IsKeys H kvs bs → Rps CT H (bs.map V.ref) (kds.map fun kv => tkD kv.1) []
  | [], [], _, _, h => by cases h; exact .nil
  | [], _ :: _, _, e, _ => by simp at e
  | _ :: _, [], _, e, _ => by simp at e
  | p :: kvs, q :: kds, _, e, h => by
    simp only [List.map_cons, List.cons.injEq] at e
    cases h with
    | cons h1 h2 =>
      refine .cons (F := []) (.tup (H := H) h1 ?_) (keys_rps e.2 h2)
      rw [e.1]
      exact rps_keys _
theorem l_dT : ∃ r, (∀ X : Cx, X.calm = true → CallR X (.type "list") r) ∧ ∀ CT, SimC1 CT r oListT := by
  refine ⟨_, fun X hc => call_list_dT hc, fun CT => ⟨fun H v d F Q a q => ?_, fun d Q Q' k q => by cases d <;> first | exact k _ q | exact q⟩⟩
  cases a with
  | dT ha he ra => exact ⟨_, _, rfl, Rd.of ha, fun p bs hp hb => New.at1 q hp (.lst upd_same ((keys_rps he hb).keep (W := fun _ => False) (Fr.new hp) fun _ z => nomatch z))⟩
  | _ => exact (show False from q).elim
noncomputable def rListT := l_dT.choose
theorem sc_listK {CT : Nat → Addr} : SimC1 CT rListD oListK := ⟨fun H v d F Q a q => by
  cases a with
  | @dK a kvs kds F ha he ra =>
    refine ⟨_, _, rfl, ha, fun p hp => ?_⟩
    have e : (kvs.map fun kv => kV kv.1) = (kds.map (·.1)).map kV := by rw [← he, List.map_map] <;> rfl
    have e2 : (kds.map fun kv => keyD kv.1) = (kds.map (·.1)).map keyD := by rw [List.map_map] <;> rfl
    have q : New CT H Q (.lst (kds.map fun kv => keyD kv.1)) := q
    rw [e2] at q
    rw [e]
    exact New.at1 q hp (.lst upd_same (rps_keys _))
  | _ => exact (show False from q).elim, fun d Q Q' k q => by cases d <;> first | exact k _ q | exact q⟩
def rListA (K : PySem.W.Frag) : List V → Hp → VK → Prop := fun vs H Q => rListO K vs H Q ∨ rListT vs H Q ∨ rListD vs H Q
theorem k_listA {X : Cx} {K : PySem.W.Frag} (h : X.K = K) (hc : X.calm = true) : CallR X (.type "list") (rListA K) := by
  subst h
  intro pins s σ H vs us Q I r h
  rcases h with h | h | h
  · exact call_list_of pins s σ H vs us Q I r h
  · exact l_dT.choose_spec.1 X hc pins s σ H vs us Q I r h
  · exact call_list_dK hc pins s σ H vs us Q I r h
def oListA : O1 := fun d Q => oList d Q ∨ oListT d Q ∨ oListK d Q
theorem sc_listA {CT : Nat → Addr} {K : PySem.W.Frag} : SimC1 CT (rListA K) oListA := ⟨fun H v d F Q a q => by
  rcases q with q | q | q
  · exact .inl (sc_list.run H v d F Q a q)
  · exact .inr (.inl ((l_dT.choose_spec.2 CT).run H v d F Q a q))
  · exact .inr (.inr (sc_listK.run H v d F Q a q)), fun d Q Q' k q => by
  rcases q with q | q | q
  · exact .inl ((sc_list (CT := fun _ => 0) (K := default)).mono d Q Q' k q)
  · exact .inr (.inl ((l_dT.choose_spec.2 CT).mono d Q Q' k q))
  · exact .inr (.inr ((sc_listK (CT := fun _ => 0)).mono d Q Q' k q))⟩
instance : MO1 oListA := ⟨(sc_listA (CT := fun _ => 0) (K := default)).mono⟩
def oLenT : O1 := fun d Q => match d with
  | .dT kvs => Q (.int ((kvs.length : Nat) : Int))
  | _ => False
def oLenK : O1 := fun d Q => match d with
  | .dK kvs => Q (.int ((kvs.length : Nat) : Int))
  | _ => False
theorem sc_lenT {CT : Nat → Addr} : SimC1 CT rLenT oLenT := ⟨fun H v d F Q a q => by
  cases a with
  | @dT a kvs kds F ha he ra =>
    have e : kvs.length = kds.length := by simpa using congrArg List.length he
    refine ⟨_, _, rfl, ha, ?_⟩
    rw [e]
    exact New.imm q (.int _)
  | _ => exact (show False from q).elim, fun d Q Q' k q => by cases d <;> first | exact k _ q | exact q⟩
theorem l_lenK : ∃ r, (∀ X : Cx, CallR X (.builtin "len") r) ∧ ∀ CT, SimC1 CT r oLenK := by
  refine ⟨_, fun X => call_lenD, fun CT => ⟨fun H v d F Q a q => ?_, fun d Q Q' k q => by cases d <;> first | exact k _ q | exact q⟩⟩
  cases a with
  | @dK a kvs kds F ha he ra =>
    have e : kvs.length = kds.length := by simpa using congrArg List.length he
    refine ⟨_, _, rfl, ha, ?_⟩
    rw [e]
    exact New.imm q (.int _)
  | _ => exact (show False from q).elim
noncomputable def rLenK := l_lenK.choose
def rLenA (K : PySem.W.Frag) : List V → Hp → VK → Prop := fun vs H Q => rLen K vs H Q ∨ rLenT vs H Q ∨ rLenK vs H Q
theorem k_lenA {X : Cx} {K : PySem.W.Frag} (h : X.K = K) : CallR X (.builtin "len") (rLenA K) := by
  subst h
  intro pins s σ H vs us Q I r h
  rcases h with h | h | h
  · exact (k_len rfl) pins s σ H vs us Q I r h
  · exact call_len_dT pins s σ H vs us Q I r h
  · exact l_lenK.choose_spec.1 X pins s σ H vs us Q I r h
def oLenA : O1 := fun d Q => oLen d Q ∨ oLenT d Q ∨ oLenK d Q
theorem sc_lenA {CT : Nat → Addr} {K : PySem.W.Frag} : SimC1 CT (rLenA K) oLenA := ⟨fun H v d F Q a q => by
  rcases q with q | q | q
  · exact .inl (sc_len.run H v d F Q a q)
  · exact .inr (.inl (sc_lenT.run H v d F Q a q))
  · exact .inr (.inr ((l_lenK.choose_spec.2 CT).run H v d F Q a q)), fun d Q Q' k q => by
  rcases q with q | q | q
  · exact .inl ((sc_len (CT := fun _ => 0) (K := default)).mono d Q Q' k q)
  · exact .inr (.inl ((sc_lenT (CT := fun _ => 0)).mono d Q Q' k q))
  · exact .inr (.inr ((l_lenK.choose_spec.2 (fun _ => 0)).mono d Q Q' k q))⟩
instance : MO1 oLenA := ⟨(sc_lenA (CT := fun _ => 0) (K := default)).mono⟩
end Pu
set_option Elab.async false
set_option linter.all false
set_option maxRecDepth 100000
namespace Pu
open PySem PySem.Spec PyProof.Rows L2
section
variable {C : Cfg} {Γ Γ' Γn Γl Γo Γt Γe Γ1 Γ2 : List Mo} {σ σ' : L2.St} {H H' H1 H2 : Hp} {env env' : PEnv} {Fs Fs' Fs1 Fs2 : Nat → List Addr} {v : V} {vs : List V} {d : D} {ds : List D} {F G : List Addr} {ta tb tc te ti : TE} {A B : Kd} {m n mc : X1} {K : PySem.W.Frag} {CT : Nat → Addr} {S : Stat} {X : Cx}
def oIsAny (cs : List String) : O1 := fun d Q => match d.ty with
  | some t => Q (.bl (cs.any fun c => subB t c))
  | none => False
theorem mono_oIsAny {cs : List String} : Mono1 (oIsAny cs) := fun d Q Q' k q => by cases d <;> first | exact k _ q | exact q
instance {cs : List String} : MO1 (oIsAny cs) := ⟨mono_oIsAny⟩
class KitBs (cs : List String) : Prop where
  h : ∀ (K : PySem.W.Frag) (d : D) (t : String), d.ty = some t → PySem.W.kitAny K (.type t) (cs.map Value.type) = some (cs.any fun c => subB t c)
instance : KitBs ["tuple", "list"] := ⟨fun K d t h => by cases d <;> simp [D.ty] at h <;> subst h <;> rfl⟩
instance : KitBs ["bool", "str"] := ⟨fun K d t h => by cases d <;> simp [D.ty] at h <;> subst h <;> rfl⟩
abbrev XE := PEnv → (D → PEnv → Prop) → Prop
def Apart (Γ : List Mo) (Fs : Nat → List Addr) (F : List Addr) : Prop := ∀ (j : Nat) (m : Mo), Γ[j]? = some m → live m → ∀ a ∈ F, a ∉ Fs j
structure SimE (C : Cfg) (Γ : List Mo) (t : TE) (m : XE) : Prop where
  run : ∀ (σ : L2.St) (H : Hp) (env : PEnv) (Fs : Nat → List Addr) (Q : VK), Ok C Γ σ H env Fs →
    m env (fun d env' => ∀ v H' F Fs', Ok C Γ σ H' env' Fs' → Go C Γ Fs H Γ Fs' H' → Rp C.CT H' v d F → F.Nodup → NoQ C F → Apart Γ Fs' F → Mine Γ Fs H F → Q v H') → t σ H Q
  mono : ∀ env (Q Q' : D → PEnv → Prop), (∀ d e, Q d e → Q' d e) → m env Q → m env Q'
class MXE (m : XE) : Prop where
  mono : ∀ env (Q Q' : D → PEnv → Prop), (∀ d e, Q d e → Q' d e) → m env Q → m env Q'
def sSetE (i : Nat) (m : XE) : XS := fun E env => m env fun d env' => E.nx (env'.set i (some d))
instance {i : Nat} {m : XE} [h : MXE m] : MS (sSetE i m) := ⟨fun p q => h.mono _ _ _ (fun d e q => p.1 _ q) q⟩
def sRetE (m : XE) : XS := fun E env => m env fun d _ => E.rt d
instance {m : XE} [h : MXE m] : MS (sRetE m) := ⟨fun p q => h.mono _ _ _ (fun d e q => p.2.1 _ q) q⟩
def sAppE (j : Nat) (m : XE) : XS := fun E env => m env fun e env' => xVar j env' fun d => onL d fun xs => xs.length < sizeLine ∧ E.nx (env'.set j (some (.lst (xs ++ [e]))))
def isL (d : Option (Option D)) : Prop := match d with
  | some (some (.lst _)) => True
  | _ => False
def sAppE' (j : Nat) (m : XE) : XS := fun E env => isL env[j]? ∧ sAppE j m E env
instance {j : Nat} {m : XE} [h : MXE m] : MS (sAppE' j m) := ⟨fun p q => ⟨q.1, h.mono _ _ _ (fun d e q => mono_var _ _ _ (fun d q => onL_mono (fun ds q => ⟨q.1, p.1 _ q.2⟩) q) q) q.2⟩⟩
def popQ (xs : List D) (e : D) (Q : D → List D → Prop) : Prop := match e with
  | .int k => -(2 ^ 63) ≤ k ∧ k < 2 ^ 63 ∧ (match seqIndex? k xs.length with
    | some j => (match xs[j]? with | some x => Q x (xs.eraseIdx j) | none => False)
    | none => False)
  | _ => False
theorem popQ_mono {xs : List D} {e : D} {Q Q' : D → List D → Prop} (h : ∀ x ys, Q x ys → Q' x ys) (q : popQ xs e Q) : popQ xs e Q' := by
  unfold popQ at q ⊢
  split at q
  · refine ⟨q.1, q.2.1, ?_⟩
    have q := q.2.2
    split at q
    · split at q
      · exact h _ _ q
      · exact q
    · exact q
  · exact q
def xPop (i : Nat) (n : X1) : XE := fun env Q => xVar i env fun d => onL d fun xs => n env fun e => popQ xs e fun x ys => Q x (env.set i (some (.lst ys)))
instance {i : Nat} [h : MX n] : MXE (xPop i n) := ⟨fun env Q Q' k q => mono_var _ _ _ (fun d q => onL_mono (fun ds q => h.mono _ _ _ (fun e q => popQ_mono (fun x ys q => k _ _ q) q) q) q) q⟩
end
end Pu
set_option Elab.async false
set_option linter.all false
set_option maxRecDepth 100000
set_option maxHeartbeats 4000000
namespace Pu
open PySem PySem.Spec PyProof.Rows L2
def eSet (w : World) : Obj := { cls := .type "set", dict := none, data := .set #[] 0 (.fresh 0 0 (!w.params.followText "set-order")) }
section
variable {P : Program} {w : World} {A : Around} {E : Value → Shared → Prop} {s : Shared}
theorem set_of_list {l : Addr} {its : Array Value} (ns : List Int) {Q : Value → Shared → Prop} (hd : A.handled = none) (il : s.heap.IsList l its) (ia : IntsAre its.toList ns) (few : ns.length + 1 < scanBound)
    (fin : ∀ (g : Heap) (tk c : Nat), SetR w g s.heap.objs.size (fun j => decide (j ∈ ns)) c → c ≤ ns.length → (∀ b o, s.heap.get? b = some o → g.get? b = some o) → Q (.ref s.heap.objs.size) { s with heap := g, toks := tk }) : wpAny (model P w) A (call (.type "set") [.ref l]) Q E s := by
  have sz : its.size = ns.length := by have := IntsAre.length ia; rwa [Array.length_toList] at this
  obtain ⟨c, tl, m1⟩ := F.called_set.mro
  have m2 := F.called_set.made
  have m3 := F.called_set.sub
  refine wpAny_call (codeAny_of_tree (show wpAny _ _ (callAny (.type "set") _) _ _ _ from wpAny_pure ⟨Code.quiet_builtin _ (by decide +kernel), codeAny_builtin F.entry_type_call ?_⟩))
  rw [Around.under_plain (weight_type_call_type "set" [Value.ref l] []) rfl]
  have m4 := F.called_set.notType
  have m5 := F.called_set.canCreate
  have m6 := F.typeCall_set_1 (Value.ref l)
  repeat (any_goals (first | assumption | wp_step))
  refine codeAny_mono (code_set_led1 (Value.ref l) (E := E) (Q₁ := fun x s1 => x = .ref s.heap.objs.size ∧ s1 = { s with heap := s.heap.push (eSet w) }) ⟨rfl, rfl⟩) fun r s1 hr => ?_
  cases r with
  | error e => exact hr
  | ok f =>
   cases f with
   | ret x =>
    obtain ⟨rfl, rfl⟩ := hr
    have at1 : (s.heap.push (eSet w)).get? s.heap.objs.size = some (eSet w) := Heap.get?_push_size _ rfl
    have ty1 : Shared.TypeIs { s with heap := s.heap.push (eSet w) } (.ref s.heap.objs.size) "set" := ⟨_, at1, rfl⟩
    have m7 := F.called_set.init.lookup
    have m8 := F.called_set.init.bind (Value.ref s.heap.objs.size)
    repeat (any_goals (first | assumption | wp_step))
    refine codeAny_mono (codeAny_call_builtin (R := wants (fun r s2 => r = .none ∧ ∃ g tk c, s2 = { s with heap := g, toks := tk } ∧ SetR w g s.heap.objs.size (fun j => decide (j ∈ ns)) c ∧ c ≤ ns.length ∧ (∀ b o, s.heap.get? b = some o → g.get? b = some o)) E) F.called_set.init.plain F.entry_set_init (check_set_init_1 ty1 ?_)) fun r2 s2 hr2 => ?_
    · obtain ⟨⟨oc, od, oda, osl⟩, hol, ec, nl, ed⟩ := il
      simp only at ec ed
      subst ec ed
      have ol2 : (s.heap.push (eSet w)).get? l = some { cls := .type "list", dict := od, data := .seq its nl, slots := osl } := Heap.get?_push_of_some _ hol
      have n1 := F.sub_list_set
      have n2 := F.sub_list_frozenset
      have n3 : (Value.type "list" == Value.type "dict") = false := by decide
      have il1 : (s.heap.push (eSet w)).IsList l its := ⟨_, ol2, rfl, nl, rfl⟩
      unfold Builtin.«set.__init__» noKeywords Builtin.Frozenset.updateFrom
      generalize hPI : pyIter = PI
      wp_walk
      subst hPI
      refine wpAny_pyIter_list il1 (wpAny_bind (wpAny_runValue ?_))
      have lS : l < s.heap.objs.size := Heap.lt_size hol
      have hd3 : A.in1.in1.in1.handled = none := by simp [hd]
      have z1 : (s.heap.push (eSet w)).objs.size = s.heap.objs.size + 1 := Heap.size_push ..
      have ne1 : l ≠ (s.heap.push (eSet w)).objs.size := by rw [z1]; exact Nat.ne_of_lt (Nat.lt_succ_of_lt lS)
      have ne2 : s.heap.objs.size ∉ [(s.heap.push (eSet w)).objs.size, l] := by
        rw [z1]
        simp only [List.mem_cons, List.not_mem_nil, or_false, not_or]
        exact ⟨Nat.ne_of_lt (Nat.lt_succ_self _), Nat.ne_of_gt lS⟩
      have hv : ∀ (i : Nat) (v : Value), its[i]? = some v → ∃ k t, ns[i]? = some k ∧ v = .int k t := fun i v h => by
        have hi : i < ns.length := by rw [← sz]; exact (Array.getElem?_eq_some_iff.mp h).1
        obtain ⟨t, e⟩ := IntsAre.int_at ia i v (by rw [Array.getElem?_toList]; exact h)
        refine ⟨ns[i], t, List.getElem?_eq_getElem hi, ?_⟩
        rw [e, List.getD_eq_getElem?_getD, List.getElem?_eq_getElem hi] <;> rfl
      refine set_update_ints ((Walks.list hd3 _ l ne1 its).toS) s.heap.objs.size ne2 ns sz few hv (its.size - 0) 0 _ (by omega) (Nat.zero_le _) ⟨⟨_, Heap.get?_push_size _ rfl, rfl, rfl⟩, (il1.push _)⟩ ⟨0, Nat.le_refl 0, setR_new_at (Heap.get?_push_of_some _ at1)⟩ ?_
      intro s3 c3 hm hc hS
      obtain ⟨g, g2, d2, tk2, os2⟩ := s3
      obtain rfl : g2 = s.gens := hm.gens
      obtain rfl : d2 = s.drawn := hm.drawn
      obtain rfl : os2 = s.os := hm.os
      show wpAny _ _ _ _ _ _
      refine wpAny_pure (show wpAny _ _ (ret Value.none) _ _ _ from ?_)
      rw [sz] at hc
      refine wpAny_pure ⟨rfl, g, tk2, c3, rfl, hS, hc, fun b o e => ?_⟩
      have b0 : b < s.heap.objs.size := Heap.lt_size e
      refine hm.heap b o ?_ (Heap.get?_push_of_some _ (Heap.get?_push_of_some _ e))
      simp only [List.mem_cons, List.not_mem_nil, or_false, not_or]
      exact ⟨Nat.ne_of_lt b0, by rw [z1]; exact Nat.ne_of_lt (Nat.lt_succ_of_lt b0)⟩
    · cases r2 with
      | error e => exact hr2
      | ok f =>
       cases f with
       | ret x =>
        obtain ⟨rfl, g, tk, c, rfl, q1, q2, q3⟩ := hr2
        repeat (any_goals (first | assumption | wp_step))
        exact fin _ _ _ q1 q2 q3
       | _ => exact hr2.elim
   | _ => exact hr.elim
end
end Pu
set_option Elab.async false
set_option linter.all false
set_option maxRecDepth 100000
namespace Pu
open PySem PySem.Spec PyProof.Rows L2
section
variable {X : Cx}
def rSetOfI (K : PySem.W.Frag) (w : World) : List V → Hp → VK → Prop := fun xs H Q => ∃ (l : Addr) (ns : List Int), xs = [V.ref l] ∧ SqL K H l (ns.map V.int) ∧ ns.length + 1 < scanBound ∧ ∀ p c, H p = none → c ≤ ns.length → Q (.ref p) (upd H p (SetO w p (fun j => decide (j ∈ ns)) c))
theorem cr_setOfI (hc : X.calm = true) : CallR X (.type "set") (rSetOfI X.K X.w) := by
  intro pins s σ H xs us Q I r h
  obtain ⟨l, ns, rfl, hl, hb, q⟩ := h
  rw [Vals.ref1 r]
  obtain ⟨its, rv, pl, hz⟩ := I.list hl
  have hn : H s.heap.objs.size = none := I.hok.fresh (Nat.le_refl _)
  refine set_of_list ns (I.ok.hd hc) pl.isList (by simpa using RZ.intsAre_vals rv) hb fun g tk c R hc k => ?_
  exact ⟨.ref s.heap.objs.size, upd H s.heap.objs.size (SetO X.w s.heap.objs.size _ c), I.laid (t' := tk) k (Nat.le_refl _) (setO_new R), rfl, q _ c hn hc⟩
def oSortSet : O1 := fun d Q => match d with
  | .lst xs => ∃ ns : List Int, xs = ns.map D.int ∧ ns.length < 64 ∧ ∀ ms : List Int, ms.Pairwise (· < ·) → (∀ k, k ∈ ms ↔ k ∈ ns) → Q (.lst (ms.map D.int))
  | _ => False
theorem mono_oSortSet : Mono1 oSortSet := fun d Q Q' h q => by
  cases d with
  | lst xs =>
    obtain ⟨ns, e, l, k⟩ := q
    exact ⟨ns, e, l, fun ms p m => h _ (k ms p m)⟩
  | _ => exact q
instance : MO1 oSortSet := ⟨mono_oSortSet⟩
theorem ints_of {CT : Nat → Addr} {H : Hp} : ∀ {vs : List V} {ns : List Int} {F : List Addr}, Rps CT H vs (ns.map D.int) F → vs = ns.map V.int ∧ F = []
  | _, [], _, .nil => ⟨rfl, rfl⟩
  | _, n :: ns, _, .cons r rs => by
    obtain ⟨h1, h2⟩ := ints_of rs
    cases r
    exact ⟨by rw [h1] <;> rfl, by rw [h2] <;> rfl⟩
theorem rps_ints {CT : Nat → Addr} {H : Hp} : ∀ ms : List Int, Rps CT H (ms.map V.int) (ms.map D.int) []
  | [] => .nil
  | m :: ms => Rps.cons (F := []) (.int m) (rps_ints ms)
theorem sim_sortSet {C : Cfg} {Γ : List Mo} {te : TE} {A : Kd} {m : X1} {K : PySem.W.Frag} {w : World} (s : Sim C Γ te A m) : Sim C Γ (tCB (rSortedSet w) (tCons (tCB (rSetOfI K w) (tCons te tNil)) tNil)) .own (x1 oSortSet m) :=
  ⟨fun σ H env Fs Q I h => s.run σ H env Fs _ I (s.mono env _ _ (fun d q v H1 F f dk r k => by
    cases r with
    | lst ha ra =>
      obtain ⟨ns, rfl, hl, q⟩ := q
      obtain ⟨rfl, rfl⟩ := ints_of ra
      refine ⟨_, ns, rfl, SqL.of ha, Nat.lt_of_lt_of_le (Nat.succ_lt_succ hl) (by decide), fun p c hp hc => ⟨p, _, c, rfl, upd_same, Nat.lt_of_le_of_lt hc hl, fun ms p2 pw hm _ hp2 => ?_⟩⟩
      have f2 : Fr (fun _ => False) H1 _ := Fr.new (o := SetO w p (fun j => decide (j ∈ ns)) c) hp
      have f3 : Fr (fun _ => False) _ _ := Fr.new (o := .lst (ms.map V.int)) hp2
      have f23 := f2.trans f3
      have h0 : H p2 = none := f.there _ (f2.there _ hp2)
      refine q ms pw (fun k => by rw [hm k, decide_eq_true_iff]) (.ref p2) _ [p2] (f.trans f23.wq) (dk.keep f23) (.lst upd_same (rps_ints ms)) ⟨NoQ.new I.dk fun a ha => by rw [List.mem_singleton.mp ha]; exact h0, by simp, fun a ha => by rw [List.mem_singleton.mp ha]; exact h0⟩
    | _ => exact (show False from q).elim) h), mono_x1 mono_oSortSet s.mono⟩
theorem k_setOfI {K : PySem.W.Frag} {w : World} (h : X.K = K) (h2 : X.w = w) (hc : X.calm = true) : CallR X (.type "set") (rSetOfI K w) := h ▸ h2 ▸ cr_setOfI hc
theorem k_sortedSet {w : World} (h2 : X.w = w) (hc : X.calm = true) : CallR X (.builtin "sorted") (rSortedSet w) := h2 ▸ cr_sortedSet hc
end
end Pu
set_option Elab.async false
set_option linter.all false
set_option maxRecDepth 100000
namespace Pu
open PySem PySem.Spec PyProof.Rows L2
end Pu
set_option Elab.async false
set_option linter.all false
set_option maxRecDepth 100000
namespace Pu
open PySem PySem.Spec PyProof.Rows L2
section
variable {C : Cfg} {Γ Γ' Γn Γl Γo Γt Γe Γ1 Γ2 : List Mo} {σ σ' : L2.St} {H H' H1 H2 : Hp} {env env' : PEnv} {Fs Fs' Fs1 Fs2 : Nat → List Addr} {v : V} {vs : List V} {d : D} {ds : List D} {F G : List Addr} {ta tb tc te ti tn : TE} {t : TA} {A B : Kd} {m n mc : X1} {K : PySem.W.Frag} {CT : Nat → Addr} {S : Stat} {X : Cx}
theorem Ok.inner (I : Ok C Γ σ H env Fs) {i : Nat} (g : Γ[i]? = some .o) {a : Addr} {o u : HO} {v : V} {d' : D} {F' : List Addr} (hv : σ[i]? = some (some v)) (ha : H a = some o) (hi : Im o = false) (hm : a ∈ Fs i)
    (r : Rp C.CT (upd H a u) v d' F') (nd : F'.Nodup) (sub : ∀ b ∈ F', b ∈ Fs i ∨ ∀ (j : Nat) (m : Mo), Γ[j]? = some m → live m → b ∉ Fs j) (nq : NoQ C F') :
    Ok C Γ σ (upd H a u) (env.set i (some d')) (setF Fs i F') := by
  have fr : Fr (fun b => b = a) H (upd H a u) := Fr.at rfl ha hi
  have hΓ : i < Γ.length := (List.getElem?_eq_some_iff.mp g).1
  refine ⟨by simp [I.le], I.ls, fun j m gj l => ?_, I.dice, fun j gj => ?_, fun j k m gj gk l ne b hb hb' => ?_, fun j m gj l => ?_, fun p e => ?_, I.pn⟩
  · by_cases e : j = i
    · subst e
      exact ⟨_, d', hv, by rw [List.getElem?_set_self (by rw [I.le]; exact hΓ)], by rw [setF_same]; exact r⟩
    · obtain ⟨v, d, h1, h2, h3⟩ := I.val j m gj l
      refine ⟨v, d, h1, by rw [List.getElem?_set_ne (Ne.symm e)]; exact h2, ?_⟩
      rw [setF_ne e]
      exact h3.keep fr fun b hb z => I.dj i j m g gj l (Ne.symm e) a hm (z ▸ hb)
  · by_cases e : j = i
    · subst e; rw [setF_same]; exact nd
    · rw [setF_ne e]; exact I.nd j gj
  · by_cases e : j = i
    · subst e
      rw [setF_same] at hb
      rw [setF_ne (Ne.symm ne)] at hb'
      rcases sub b hb with z | z
      · exact I.dj j k m g gk l ne b z hb'
      · exact z k m gk l hb'
    · rw [setF_ne e] at hb
      by_cases e2 : k = i
      · subst e2
        rw [setF_same] at hb'
        rcases sub b hb' with z | z
        · exact I.dj j k .o gj g (.inl rfl) ne b hb z
        · exact z j .o gj (.inl rfl) hb
      · rw [setF_ne e2] at hb'
        exact I.dj j k m gj gk l ne b hb hb'
  · by_cases e : j = i
    · subst e; rw [setF_same]; exact nq
    · rw [setF_ne e]; exact I.nq j m gj l
  · obtain ⟨o1, u1, h1, h2, r1⟩ := (I.dk p e).ex
    have nq := I.nq i _ g (.inl rfl) p e
    exact ⟨o1, u1, by rw [upd_ne (fun z => nq.1 (by rw [z]; exact hm))]; exact h1, by rw [upd_ne (fun z => nq.2 (by rw [z]; exact hm))]; exact h2, r1⟩
theorem Lk.inner {D : Ends} {E : PEnds} (lk : Lk C Γ Fs H Γ Γl D E) (I : Ok C Γ σ H env Fs) (f : Fr (Wq C) H H1) (dk : DiceOk C H1) {i : Nat} (g : Γ[i]? = some .o) {a : Addr} {o u : HO} {v : V} {d' : Pu.D} {F' : List Addr}
    (hv : σ[i]? = some (some v)) (ha : H1 a = some o) (hi : Im o = false) (hm : a ∈ Fs i) (r : Rp C.CT (L2.upd H1 a u) v d' F') (nd : F'.Nodup) (hs : ∀ b ∈ F', b ∈ Fs i ∨ H b = none)
    (q : E.nx (env.set i (some d'))) : D.nx σ (L2.upd H1 a u) := by
  have nq : NoQ C F' := fun p ep => by
    have h1 := I.nq i _ g (.inl rfl) p ep
    refine ⟨fun z => ?_, fun z => ?_⟩
    · rcases hs _ z with z | z
      · exact h1.1 z
      · exact (I.dk p ep).t1 z
    · rcases hs _ z with z | z
      · exact h1.2 z
      · exact (I.dk p ep).t2 z
  have I1 := I.step f dk
  refine lk.nx σ _ _ _ (I1.inner g hv ha hi hm r nd (fun b hb => ?_) nq) ⟨(f.mono fun _ w => .inl w).trans (Fr.at (.inr ⟨i, g, hm⟩) ha hi), fun j gj b hb => ?_⟩ q
  · rcases hs b hb with z | z
    · exact .inl z
    · exact .inr fun j m gj l hb => I.tracked gj l b hb z
  · by_cases ej : j = i
    · subst ej
      rw [setF_same] at hb
      exact (hs b hb).imp (fun z => ⟨j, g, z⟩) id
    · rw [setF_ne ej] at hb; exact .inl ⟨j, gj, hb⟩
end
end Pu
set_option Elab.async false
set_option linter.all false
set_option maxRecDepth 100000
namespace Pu
open PySem PySem.Spec PyProof.Rows L2
section
variable {C : Cfg} {Γ Γ' Γn Γl Γo Γt Γe Γ1 Γ2 : List Mo} {σ σ' : L2.St} {H H' H1 H2 : Hp} {env env' : PEnv} {Fs Fs' Fs1 Fs2 : Nat → List Addr} {v : V} {vs : List V} {d : D} {ds : List D} {F G : List Addr} {ta tb tc te ti tn tm tv : TE} {t : TA} {A B A' : Kd} {m n mc mv : X1} {K : PySem.W.Frag} {CT : Nat → Addr} {S : Stat} {X : Cx}
end
end Pu
set_option Elab.async false
set_option linter.all false
set_option maxRecDepth 100000
namespace Pu
open PySem PySem.Spec PyProof.Rows L2
section
variable {C : Cfg} {Γ Γ' Γn Γl Γo Γt Γe Γ1 Γ2 : List Mo} {σ σ' : L2.St} {H H' H1 H2 : Hp} {env env' : PEnv} {Fs Fs' Fs1 Fs2 : Nat → List Addr} {v : V} {vs : List V} {d : D} {ds : List D} {F G : List Addr} {ta tb tc te ti tn tm tv : TE} {t : TA} {A B A' B' : Kd} {m n mc mv : X1} {K : PySem.W.Frag} {CT : Nat → Addr} {S : Stat} {X : Cx}
structure Part (C : Cfg) (Fs : Nat → List Addr) (H : Hp) (i : Nat) (v : V) (z : Int) (xs : List D) (j : Nat) (b : Addr) (ws : List V) (bs : List D) : Prop where
  at' : ∃ a us, v = .ref a ∧ H a = some (.lst us) ∧ L2.atI us z = some (.ref b)
  hb : H b = some (.lst ws)
  rb : Rps C.CT H ws bs []
  mem : b ∈ Fs i
  put : ∀ (ws' : List V) (bs' : List D), Rps C.CT H ws' bs' [] → ∃ F', Rp C.CT (upd H b (.lst ws')) v (.lst (xs.set j (.lst bs'))) F' ∧ F'.Nodup ∧ ∀ c ∈ F', c ∈ Fs i
theorem Part.fin {D : Ends} {E : PEnds} {i : Nat} {v : V} {z : Int} {xs bs bs' : List Pu.D} {j : Nat} {b : Addr} {ws ws' : List V} (lk : Lk C Γ Fs H Γ Γl D E) (I : Ok C Γ σ H env Fs) (f : Fr (Wq C) H H1) (dk : DiceOk C H1) (g : Γ[i]? = some .o) (hv : σ[i]? = some (some v))
    (p : Part C Fs H1 i v z xs j b ws bs) (r : Rps C.CT H1 ws' bs' []) (q : E.nx (env.set i (some (.lst (xs.set j (.lst bs')))))) : D.nx σ (L2.upd H1 b (.lst ws')) := by
  obtain ⟨F', h1, h2, h3⟩ := p.put ws' bs' r
  exact lk.inner I f dk g hv p.hb rfl p.mem h1 h2 (fun c hc => .inl (h3 c hc)) q
end
end Pu
set_option Elab.async false
set_option linter.all false
set_option maxRecDepth 100000
namespace Pu
open PySem PySem.Spec PyProof.Rows L2
section
variable {C : Cfg} {Γ Γ' Γn Γl Γo Γt Γe Γ1 Γ2 Γf Γu : List Mo} {σ σ' : L2.St} {H H' H1 H2 : Hp} {env env' : PEnv} {Fs Fs' Fs1 Fs2 : Nat → List Addr} {v : V} {vs : List V} {d : D} {ds : List D} {F G : List Addr} {ta tb te : TE} {A B : Kd} {m n : X1} {K : PySem.W.Frag} {CT : Nat → Addr}
mutual
theorem Rp.thaw {p : Addr} {od : Obj} {u o : HO} (hp : H p = some (.frz od u)) : ∀ {v : V} {d : D} {F : List Addr}, Rp CT H v d F → Rp CT (upd H p o) v d F
  | _, _, _, .non => .non
  | _, _, _, .bl b => .bl b
  | _, _, _, .int b => .int b
  | _, _, _, .str b => .str b
  | _, _, _, .tup h r => .tup (by rw [upd_ne (fun z => by rw [z, hp] at h; cases h)]; exact h) (Rps.thaw hp r)
  | _, _, _, .lst h r => .lst (by rw [upd_ne (fun z => by rw [z, hp] at h; cases h)]; exact h) (Rps.thaw hp r)
  | _, _, _, .dK h k r => .dK (by rw [upd_ne (fun z => by rw [z, hp] at h; cases h)]; exact h) k (Rps.thaw hp r)
  | _, _, _, .dT h k r => .dT (by rw [upd_ne (fun z => by rw [z, hp] at h; cases h)]; exact h) k (Rps.thaw hp r)
  | _, _, _, .obj h k r => .obj (by rw [upd_ne (fun z => by rw [z, hp] at h; cases h)]; exact h) k (Rps.thaw hp r)
  | _, _, _, .fz h e k r => .fz (by rw [upd_ne (fun z => by rw [z, hp] at h; cases h)]; exact h) e k (Rps.thaw hp r)
  | _, _, _, .dN h k z r1 r => .dN (by rw [upd_ne (fun z => by rw [z, hp] at h; cases h)]; exact h) k z (Rps.thaw hp r1) (Rps.thaw hp r)
theorem Rps.thaw {p : Addr} {od : Obj} {u o : HO} (hp : H p = some (.frz od u)) : ∀ {vs : List V} {ds : List D} {F : List Addr}, Rps CT H vs ds F → Rps CT (upd H p o) vs ds F
  | _, _, _, .nil => .nil
  | _, _, _, .cons h r => .cons (Rp.thaw hp h) (Rps.thaw hp r)
end
end
end Pu
set_option Elab.async false
set_option linter.all false
set_option maxRecDepth 100000
set_option maxHeartbeats 1000000
namespace Pu
open PySem PySem.Spec PyProof.Rows L2
section
variable {prog : Program} {w : World} {A : Around} {E : Value → Shared → Prop} {s : Shared} {z TI TO T i1 i2 l1 l2 : Addr} {f : Bool} {oT : Obj} {k : Nat} {xs ys : Array Value} {x y : Value}
end
end Pu
set_option Elab.async false
set_option linter.all false
set_option maxRecDepth 100000
set_option maxHeartbeats 1000000
namespace Pu
open PySem PySem.Spec PyProof.Rows L2
section
variable {prog : Program} {w : World} {A : Around} {E : Value → Shared → Prop} {s s0 : Shared} {z TI TO T i1 i2 l1 l2 S : Addr} {f : Bool} {oT : Obj} {k i : Nat} {xs ys : Array Value} {x y : Value} {Ts : List Addr} {c : Nat} {R : Result → Shared → Prop}
abbrev lsO (acc : Array Value) (c : Nat) : Obj := { cls := .type "list", dict := none, data := .seq acc c, slots := #[] }
structure Out (S bs : Addr) (xs ys : Array Value) (s : Shared) (Ts : List Addr) (c : Nat) : Prop where
  ls : s.heap.get? S = some (lsO (Ts.map Value.ref).toArray c)
  pw : Ts.Pairwise (· < ·)
  lt : ∀ T ∈ Ts, bs ≤ T ∧ T < s.heap.objs.size
  at' : ∀ (j : Nat) (T : Addr), Ts[j]? = some T → ∃ x y, xs[j]? = some x ∧ ys[j]? = some y ∧ IsPair s.heap T x y
structure Zs (z TI TO i1 i2 l1 l2 S bs : Addr) (xs ys : Array Value) (s0 s : Shared) (Ts : List Addr) (c : Nat) : Prop where
  zs : (IsZip s.heap z TI TO .none ∧ Ts = []) ∨ ∃ T f oT, IsZipHeld s.heap z TI TO T f ∧ s.heap.get? T = some oT
  ti : IsPair s.heap TI (.ref i1) (.ref i2)
  to : ∃ a b, IsPair s.heap TO a b
  a1 : s.heap.IsTupleIter i1 l1 Ts.length
  a2 : s.heap.IsTupleIter i2 l2 Ts.length
  b1 : s.heap.IsTuple l1 xs
  b2 : s.heap.IsTuple l2 ys
  out : Out S bs xs ys s Ts c
  kp : ∀ b o, s0.heap.get? b = some o → s.heap.get? b = some o
  sz : bs ≤ s.heap.objs.size
  eq : s = { s0 with heap := s.heap }
structure ZApart (z TI TO i1 i2 l1 l2 S bs : Addr) (s0 : Shared) : Prop where
  D : ZipApart z TI TO i1 i2 l1 l2
  ge : ∀ b ∈ [z, TI, TO, i1, i2, S], s0.heap.objs.size ≤ b ∧ b < bs
  lt : ∀ b ∈ [l1, l2], b < s0.heap.objs.size
  ne : S ≠ z ∧ S ≠ TI ∧ S ≠ TO ∧ S ≠ i1 ∧ S ≠ i2
theorem Zs.push {bs : Addr} (ap : ZApart z TI TO i1 i2 l1 l2 S bs s0) (q : Zs z TI TO i1 i2 l1 l2 S bs xs ys s0 s Ts c) {h' : Heap} {T0 : Addr} {f0 : Bool} (hx : xs[Ts.length]? = some x) (hy : ys[Ts.length]? = some y)
    (az : IsZipHeld h' z TI TO T0 f0) (aT : ∃ oT, h'.get? T0 = some oT) (to : ∃ a b, IsPair h' TO a b) (a1 : h'.IsTupleIter i1 l1 (Ts.length + 1)) (a2 : h'.IsTupleIter i2 l2 (Ts.length + 1)) (pr : IsPair h' s.heap.objs.size x y) (hsz : h'.objs.size = s.heap.objs.size + 1)
    (kp : ∀ c o, c ≠ z → c ≠ TO → c ≠ i1 → c ≠ i2 → s.heap.get? c = some o → h'.get? c = some o) :
    ∃ c', Zs z TI TO i1 i2 l1 l2 S bs xs ys s0 { s with heap := h'.update S (Obj.mapSeq (·.push (.ref s.heap.objs.size))) } (Ts ++ [s.heap.objs.size]) c' := by
  obtain ⟨n1, n2, n3, n4, n5⟩ := ap.ne
  have gS : h'.get? S = some (lsO (Ts.map Value.ref).toArray c) := kp _ _ n1 n3 n4 n5 q.out.ls
  have hS := Heap.get?_update_self (Obj.mapSeq (·.push (Value.ref s.heap.objs.size))) gS rfl
  have up : ∀ b o, b ≠ S → h'.get? b = some o → (h'.update S (Obj.mapSeq (·.push (Value.ref s.heap.objs.size)))).get? b = some o := fun b o hb e => (Heap.get?_update_other _ _ (Ne.symm hb)).trans e
  have ltS : S < s.heap.objs.size := Heap.lt_size q.out.ls
  have usz : (h'.update S (Obj.mapSeq (·.push (Value.ref s.heap.objs.size)))).objs.size = s.heap.objs.size + 1 := by rw [← hsz]; exact Heap.size_update ..
  have old : ∀ b o, b ∉ [z, TI, TO, i1, i2, S] → s.heap.get? b = some o → (h'.update S (Obj.mapSeq (·.push (Value.ref s.heap.objs.size)))).get? b = some o := fun b o hb e => by
    simp only [List.mem_cons, List.not_mem_nil, or_false, not_or] at hb
    exact up b o hb.2.2.2.2.2 (kp b o hb.1 hb.2.2.1 hb.2.2.2.1 hb.2.2.2.2.1 e)
  have low : ∀ b, b < s0.heap.objs.size → b ∉ [z, TI, TO, i1, i2, S] := fun b hb m => absurd (ap.ge b m).1 (Nat.not_le_of_lt hb)
  have high : ∀ b, bs ≤ b → b ∉ [z, TI, TO, i1, i2, S] := fun b hb m => absurd (ap.ge b m).2 (Nat.not_lt_of_le hb)
  have l1 := low _ (ap.lt l1 (by simp))
  have l2 := low _ (ap.lt l2 (by simp))
  have em : ∃ c', Obj.mapSeq (·.push (Value.ref s.heap.objs.size)) (lsO (Ts.map Value.ref).toArray c) = lsO ((Ts ++ [s.heap.objs.size]).map Value.ref).toArray c' := ⟨_, by rw [List.map_append, List.map_singleton, ← List.push_toArray]; rfl⟩
  obtain ⟨c', em⟩ := em
  refine ⟨c', .inr ?_, up _ _ n2.symm (kp _ _ ap.D.TIz ap.D.TITO ap.D.TIi1 ap.D.TIi2 q.ti), ?_, ?_, ?_, ?_, ?_, ⟨hS.trans ?_, ?_, ?_, ?_⟩, fun b o e => old b o (low b (Heap.lt_size e)) (q.kp b o e), ?_, ?_⟩
  · obtain ⟨oT, eT⟩ := aT
    by_cases e : T0 = S
    · exact ⟨T0, f0, _, up _ _ n1.symm az, by rw [e]; exact hS⟩
    · exact ⟨T0, f0, oT, up _ _ n1.symm az, up _ _ e eT⟩
  · obtain ⟨a, b, e⟩ := to
    exact ⟨a, b, up _ _ n3.symm e⟩
  · rw [List.length_append]; exact a1.at fun o e => up _ o n4.symm e
  · rw [List.length_append]; exact a2.at fun o e => up _ o n5.symm e
  · obtain ⟨o, e, r⟩ := q.b1
    exact ⟨o, old _ o l1 e, r⟩
  · obtain ⟨o, e, r⟩ := q.b2
    exact ⟨o, old _ o l2 e, r⟩
  · rw [em]
  · exact List.pairwise_append.mpr ⟨q.out.pw, List.pairwise_singleton _ _, fun a ha b hb => by rw [List.mem_singleton.mp hb]; exact (q.out.lt a ha).2⟩
  · intro T hT
    show bs ≤ T ∧ T < (h'.update S _).objs.size
    rw [usz]
    rcases List.mem_append.mp hT with m | m
    · have := q.out.lt T m
      exact ⟨this.1, Nat.lt_succ_of_lt this.2⟩
    · rw [List.mem_singleton.mp m]
      exact ⟨q.sz, Nat.lt_succ_self _⟩
  · intro j T hT
    by_cases hj : j < Ts.length
    · rw [List.getElem?_append_left hj] at hT
      obtain ⟨x, y, e1, e2, e3⟩ := q.out.at' j T hT
      exact ⟨x, y, e1, e2, old _ _ (high T (q.out.lt T (List.mem_of_getElem? hT)).1) e3⟩
    · rw [List.getElem?_append_right (by omega)] at hT
      have ej : j = Ts.length := by
        have := (List.getElem?_eq_some_iff.mp hT).1
        simp at this
        omega
      subst ej
      rw [Nat.sub_self] at hT
      cases hT
      exact ⟨x, y, hx, hy, up _ _ (Nat.ne_of_gt ltS) pr⟩
  · show bs ≤ (h'.update S _).objs.size
    rw [usz]
    exact Nat.le_succ_of_le q.sz
  · show _ = _
    rw [q.eq]
end
end Pu
set_option Elab.async false
set_option linter.all false
set_option maxRecDepth 100000
set_option maxHeartbeats 1000000
namespace Pu
open PySem PySem.Spec PyProof.Rows L2
section
variable {prog : Program} {w : World} {A : Around} {E : Value → Shared → Prop} {s s0 : Shared} {z TI TO T i1 i2 l1 l2 S bs : Addr} {f : Bool} {oT : Obj} {k i : Nat} {xs ys : Array Value} {x y : Value} {Ts : List Addr} {c : Nat} {R : Result → Shared → Prop} {res : Value}
end
end Pu
set_option Elab.async false
set_option linter.all false
set_option maxRecDepth 100000
set_option maxHeartbeats 1000000
namespace Pu
open PySem PySem.Spec PyProof.Rows L2
end Pu
set_option Elab.async false
set_option linter.all false
set_option maxRecDepth 100000
namespace Pu
open PySem PySem.Spec PyProof.Rows L2
section
variable {C : Cfg} {Γ Γ' Γn Γl Γo Γt Γe Γ1 Γ2 Γf Γu : List Mo} {σ σ' : L2.St} {H H' H1 H2 : Hp} {env env' : PEnv} {Fs Fs' Fs1 Fs2 : Nat → List Addr} {v : V} {vs : List V} {d : D} {ds : List D} {F G : List Addr} {ta tb te : TE} {A B : Kd} {m n : X1} {K : PySem.W.Frag} {CT : Nat → Addr}
end
end Pu
set_option Elab.async false
set_option linter.all false
set_option maxRecDepth 100000
set_option maxHeartbeats 1000000
namespace PuS
open PySem PySem.Spec PySem.W PyProof.Rows SrtO
section
variable {prog : Program} {w : World} {s : Shared} {A : Around} {E : Value → Shared → Prop}
end
end PuS
namespace Pu
open PySem PySem.Spec PyProof.Rows L2
end Pu
set_option Elab.async false
set_option linter.all false
set_option maxRecDepth 100000
set_option maxHeartbeats 1000000
namespace Pu
open PySem PySem.Spec PySem.W PyProof.Rows L2
section
variable {prog : Program} {w : World} {A : Around} {E : Value → Shared → Prop} {s : Shared}
end
section
variable {C : Cfg} {Γ Γ' Γn Γl Γo Γt Γe Γ1 Γ2 Γf Γu : List Mo} {σ σ' : L2.St} {H H' H1 H2 : Hp} {env env' : PEnv} {Fs Fs' Fs1 Fs2 : Nat → List Addr} {v : V} {vs : List V} {d : D} {ds : List D} {F G : List Addr} {ta tb te : TE} {A B : Kd} {m n : X1} {K : PySem.W.Frag} {CT : Nat → Addr}
end
end Pu
set_option Elab.async false
set_option linter.all false
set_option maxRecDepth 100000
namespace Pu
open PySem PySem.Spec PyProof.Rows L2
section
variable {X : Cx}
end
end Pu
set_option Elab.async false
set_option linter.all false
set_option maxRecDepth 100000
set_option maxHeartbeats 4000000
namespace Pu
open PySem PySem.Spec PyProof.Rows L2
section
variable {P : Program} {w : World} {A : Around} {E : Value → Shared → Prop} {s : Shared}
end
end Pu
set_option Elab.async false
set_option linter.all false
set_option maxRecDepth 100000
namespace Pu
open PySem PySem.Spec PyProof.Rows L2
section
variable {X : Cx}
end
end Pu
set_option Elab.async false
set_option linter.all false
set_option maxRecDepth 100000
namespace Pu
open PySem PySem.Spec PyProof.Rows L2
section
variable {C : Cfg} {Γ Γ' Γn Γl Γo Γt Γe Γ1 Γ2 Γf : List Mo} {σ σ' : L2.St} {H H' H1 H2 : Hp} {env env' : PEnv} {Fs Fs' Fs1 Fs2 : Nat → List Addr} {v : V} {vs : List V} {d : D} {ds : List D} {F G : List Addr} {ta tb te tk tv : TE} {A B : Kd} {m n : X1} {K : PySem.W.Frag} {CT : Nat → Addr}
end
end Pu
set_option Elab.async false
set_option linter.all false
set_option maxRecDepth 100000
namespace Pu
open PySem PySem.Spec PyProof.Rows L2 HT
section
variable {prog : Program} {w : World} {A : Around} {E : Value → Shared → Prop} {s : Shared}
end
section
variable {C : Cfg} {Γ : List Mo} {σ : L2.St} {H : Hp} {env : PEnv} {Fs : Nat → List Addr} {d : D} {te : TE} {A : Kd} {m : X1} {K : PySem.W.Frag} {CT : Nat → Addr}
def xRevT (m : X1) : X1 := fun env Q => m env fun d => match d with
  | .tup xs => immL xs = true ∧ Q (.tup xs.reverse)
  | _ => False
instance [h : MX m] : MX (xRevT m) := ⟨fun env Q Q' k q => h.mono env _ _ (fun d q => by cases d <;> first | exact ⟨q.1, k _ q.2⟩ | exact q) q⟩
end
section
variable {C : Cfg} {Γ Γ' Γl Γ1 Γ2 : List Mo} {σ : L2.St} {H : Hp} {env : PEnv} {Fs : Nat → List Addr} {d : D} {te : TE} {A : Kd} {m : X1} {K : PySem.W.Frag} {CT : Nat → Addr}
theorem sim_asgGF {g : TG} {b : XG} {ks : List Nat} (hw : wk Γ Γ1 = true) (hS : noO A.set Γ1 = true) (s : Sim C Γ te A m) (sg : SimG C Γ1 Γ2 ks g b) : SimS C Γl Γ Γ2 (tAsg te g) (sAsgG b m) :=
  ⟨fun σ H env Fs D E I l h => s.run σ H env Fs _ I (s.mono env _ _ (fun d q v H1 F f dk r k => by
      have kd := k.set I
      exact sg.run σ H1 env Fs v d F _ ((I.step f dk).weak hw) r k.1 (fun a ha j gj hb => absurd gj (of_decide_eq_true (List.all_eq_true.mp hS j (kd a ha j (wk_o hw gj) hb))))
        (sg.mono _ _ _ _ (fun env' q σ' Fs' I' o' f' _ _ => l.nx σ' H1 env' Fs' I' ⟨f.mono fun _ w => .inl w, fun j gj a ha => .inl ⟨j, wk_o hw ((o' j).mp gj), by rw [f' j ((o' j).mp gj)] at ha; exact ha⟩⟩ q) q)) h),
   fun E E' env p h => s.mono env _ _ (fun d q => sg.mono _ _ _ _ p.1 q) h⟩
theorem wk_refl : ∀ Γ : List Mo, wk Γ Γ = true
  | [] => rfl
  | a :: Γ => by show (wk1 a a && wk Γ Γ) = true; rw [wk_refl Γ]; cases a <;> rfl
theorem wk_kill : ∀ (Γ : List Mo) (j : Nat), wk Γ (Γ.set j .x) = true
  | [], _ => rfl
  | a :: Γ, 0 => by show (wk1 a .x && wk Γ Γ) = true; rw [wk_refl Γ]; cases a <;> rfl
  | a :: Γ, j + 1 => by show (wk1 a a && wk Γ (Γ.set j .x)) = true; rw [wk_kill Γ j]; cases a <;> rfl
end
end Pu
set_option Elab.async false
set_option linter.all false
set_option maxRecDepth 100000
set_option synthInstance.maxHeartbeats 0
set_option synthInstance.maxSize 100000
namespace Pu
open PySem PySem.Spec PyProof.Rows L2
def b_is_integer : XS := sRet (xAnd (x1 (oIsA "int") (xVar 0)) (xNot (x1 (oIsA "bool") (xVar 0))))
def m_is_integer : XF := fnM 1 b_is_integer
theorem mo_is_integer : MonoF m_is_integer := monoF_fn (by unfold b_is_integer; exact MS.all)
instance : MF m_is_integer := ⟨mo_is_integer⟩
def b_is_number : XS := sRet (xAnd (xCall m_is_integer (xCons (xVar 0) xNil)) (x2 (oI fun i j => .bl (decide (j ≤ i))) (xVar 0) (xC (.int 0))))
def m_is_number : XF := fnM 1 b_is_number
theorem mo_is_number : MonoF m_is_number := monoF_fn (by unfold b_is_number; exact MS.all)
instance : MF m_is_number := ⟨mo_is_number⟩
def b_is_below : XS := sRet (xAnd (xCall m_is_number (xCons (xVar 0) xNil)) (x2 (oI fun i j => .bl (decide (i < j))) (xVar 0) (xVar 1)))
def m_is_below : XF := fnM 2 b_is_below
theorem mo_is_below : MonoF m_is_below := monoF_fn (by unfold b_is_below; exact MS.all)
instance : MF m_is_below := ⟨mo_is_below⟩
def b_is_lot : XS := sSeq (sIf (bOr (bNot (bTest (x1 (oIsA "tuple") (xVar 0)))) (bNot (bTest (x1 (oAny true) (xLc (mSeq (xVar 0)) (bName 4) bYes (xCall m_is_below (xCons (xVar 4) (xCons (xVar 1) xNil)))))))) (sRet (xC (.bl false))) sNext) (sRet (x1 (oAny true) (xLc (mZip (xCons (xVar 0) (xCons (xSl (xVar 0) (pYes (xC (.int 1))) pNo) xNil))) (bTup 2 (bCons (bName 2) (bCons (bName 3) bNil))) bYes (x2 (oI fun i j => .bl (decide (i < j))) (xVar 2) (xVar 3)))))
def m_is_lot : XF := fnM 5 b_is_lot
theorem mo_is_lot : MonoF m_is_lot := monoF_fn (by unfold b_is_lot; exact MS.all)
instance : MF m_is_lot := ⟨mo_is_lot⟩
def b_are_works : XS := sSeq (sSet 2 (x1 oLenA (x1 (atF 3 "works") (xVar 0)))) (sRet (xAnd (x1 (oIsA "tuple") (xVar 1)) (x1 (oAny true) (xLc (mSeq (xVar 1)) (bName 3) bYes (xCall m_is_below (xCons (xVar 3) (xCons (xVar 2) xNil)))))))
def m_are_works : XF := fnM 4 b_are_works
theorem mo_are_works : MonoF m_are_works := monoF_fn (by unfold b_are_works; exact MS.all)
instance : MF m_are_works := ⟨mo_are_works⟩
def b_check_row : XS := sIf (bNot (bTest (xCall m_are_works (xCons (xVar 0) (xCons (xVar 1) xNil))))) sNever sNext
def m_check_row : XF := fnM 2 b_check_row
theorem mo_check_row : MonoF m_check_row := monoF_fn (by unfold b_check_row; exact MS.all)
instance : MF m_check_row := ⟨mo_check_row⟩
def b_are_office_works : XS := sSeq (sIf (bOr (bNot (bTest (x1 (oIsA "tuple") (xVar 1)))) (bNot (bTest (xChain (oI fun i j => .bl (decide (i ≤ j))) (oI fun i j => .bl (decide (i ≤ j))) (xC (.int 1)) (x1 oLenA (xVar 1)) (xC (.int 10)))))) (sRet (xC (.bl false))) sNext) (sRet (x1 (oAny true) (xLc (mSeq (xVar 1)) (bName 2) bYes (xAnd (xCall m_is_lot (xCons (xVar 2) (xCons (xVar 0) xNil))) (x2 (oI fun i j => .bl (decide (j < i))) (x1 oLenA (xVar 2)) (xC (.int 0)))))))
def m_are_office_works : XF := fnM 3 b_are_office_works
theorem mo_are_office_works : MonoF m_are_office_works := monoF_fn (by unfold b_are_office_works; exact MS.all)
instance : MF m_are_office_works := ⟨mo_are_office_works⟩
def b_Office_init : XS := sSeq (sIf (bOr (bNot (bTest (xCall m_is_integer (xCons (xVar 1) xNil)))) (bNot (bTest (xChain (oI fun i j => .bl (decide (i ≤ j))) (oI fun i j => .bl (decide (i ≤ j))) (xC (.int 1)) (xVar 1) (xC (.int 6)))))) sNever sNext) (sSeq (sIf (bNot (bTest (xCall m_are_office_works (xCons (xVar 1) (xCons (xVar 2) xNil))))) sNever sNext) (sSeq (sSetF 0 3 "desks" (xImm (xVar 1))) (sSetF 0 3 "works" (xImm (xVar 2)))))
def i_Office : XI := fnI0 2 3 3 b_Office_init
theorem mo_Office_init : MonoI i_Office := monoI_fn0 (by unfold b_Office_init; exact MS.all)
instance : MI i_Office := ⟨mo_Office_init⟩
def b_all_logs : XS := sRet (x1 oTup (xLc (mRng1 (x1 (atF 3 "desks") (xVar 0))) (bName 2) bYes (x1 oTup (xLc (mSeq (xVar 1)) (bName 3) (bTest (x2 (oIn false) (xVar 2) (x2 oIx (x1 (atF 3 "works") (xVar 0)) (xVar 3)))) (xImm (xVar 3))))))
def m_all_logs : XF := fnM 4 b_all_logs
theorem mo_all_logs : MonoF m_all_logs := monoF_fn (by unfold b_all_logs; exact MS.all)
instance : MF m_all_logs := ⟨mo_all_logs⟩
def b_alike : XS := sSeq (sDrop (xCall m_check_row (xCons (xVar 0) (xCons (xVar 1) xNil)))) (sSeq (sDrop (xCall m_check_row (xCons (xVar 0) (xCons (xVar 2) xNil)))) (sRet (x2 oEq (xCall m_all_logs (xCons (xVar 0) (xCons (xVar 1) xNil))) (xCall m_all_logs (xCons (xVar 0) (xCons (xVar 2) xNil))))))
def m_alike : XF := fnM 3 b_alike
theorem mo_alike : MonoF m_alike := monoF_fn (by unfold b_alike; exact MS.all)
instance : MF m_alike := ⟨mo_alike⟩
abbrev m__law_draw : XF := mDraw
theorem mo__law_draw : MonoF m__law_draw := mo_mDraw
def b__law_made : XS := sRet (xMake 3 i_Office (xCons (xImm (x2 oIx (xVar 0) (xC (.int 0)))) (xCons (xImm (x2 oIx (xVar 0) (xC (.int 1)))) xNil)))
def m__law_made : XF := fnM 1 b__law_made
theorem mo__law_made : MonoF m__law_made := monoF_fn (by unfold b__law_made; exact MS.all)
instance : MF m__law_made := ⟨mo__law_made⟩
def b__law_row : XS := sRet (x1 oTup (xLc (mRng1 (xCall m__law_draw (xDice (xCons (x2 oAdd (xVar 2) (xC (.int 1))) xNil)))) (bName 3) bYes (xCall m__law_draw (xDice (xCons (x1 oLenA (x2 oIx (xVar 1) (xC (.int 1)))) xNil)))))
def m__law_row : XF := fnM 4 b__law_row
theorem mo__law_row : MonoF m__law_row := monoF_fn (by unfold b__law_row; exact MS.all)
instance : MF m__law_row := ⟨mo__law_row⟩
def b__law_flag : XS := sRet (xAnd (x1 (oIsA "bool") (xVar 0)) (x2 oEq (xVar 0) (xVar 1)))
def m__law_flag : XF := fnM 2 b__law_flag
theorem mo__law_flag : MonoF m__law_flag := monoF_fn (by unfold b__law_flag; exact MS.all)
instance : MF m__law_flag := ⟨mo__law_flag⟩
def b__law_mixed : XS := sSeq (sSet 4 (x1 oListA (xVar 2))) (sSeq (sFor (mRng1 (xIf (bTest (x2 (oI fun i j => .bl (decide (j < i))) (x1 oLenA (xVar 2)) (xC (.int 1)))) (xImm (xVar 3)) (xC (.int 0)))) (bName 5) (sSeq (sSet 6 (xCall m__law_draw (xDice (xCons (x2 (oI fun i j => .int (i - j)) (x1 oLenA (xVar 4)) (xC (.int 1))) xNil)))) (sIf (bNot (bTest (x2 oIx (x2 oIx (xVar 1) (x2 oIx (xVar 4) (xVar 6))) (x2 oIx (xVar 4) (x2 oAdd (xVar 6) (xC (.int 1))))))) (sSwap 4 (xTup (xCons (xImm (x2 oIx (xVar 4) (x2 oAdd (xVar 6) (xC (.int 1))))) (xCons (xImm (x2 oIx (xVar 4) (xVar 6))) xNil))) (xVar 6) (x2 oAdd (xVar 6) (xC (.int 1)))) sNext))) (sRet (x1 oTup (xVar 4))))
def m__law_mixed : XF := fnM 7 b__law_mixed
theorem mo__law_mixed : MonoF m__law_mixed := monoF_fn (by unfold b__law_mixed; exact MS.all)
instance : MF m__law_mixed := ⟨mo__law_mixed⟩
def b__law_changed : XS := sSeq (sSet 3 (x1 oListA (xCall m__law_mixed (xDice (xCons (xVar 1) (xCons (xVar 2) (xCons (xC (.int 6)) xNil))))))) (sSeq (sSet 4 (xCall m__law_draw (xDice (xCons (xC (.int 6)) xNil)))) (sSeq (sSet 5 (xCall m__law_draw (xDice (xCons (x2 oAdd (x1 oLenA (xVar 3)) (xC (.int 1))) xNil)))) (sSeq (sIf (bTest (x2 oEq (xVar 4) (xC (.int 0)))) (sLm 3 uIns (xCons (xImm (xVar 5)) (xCons (xCall m__law_draw (xDice (xCons (x1 oLenA (xVar 1)) xNil))) xNil))) sNext) (sSeq (sIf (bAnd (bTest (x2 oEq (xVar 4) (xC (.int 1)))) (bTest (x2 (oI fun i j => .bl (decide (i < j))) (xVar 5) (x1 oLenA (xVar 3))))) (sLm 3 uPopAt (xCons (xImm (xVar 5)) xNil)) sNext) (sSeq (sIf (bAnd (bTest (x2 oEq (xVar 4) (xC (.int 2)))) (bTest (x2 (oI fun i j => .bl (decide (i < j))) (xVar 5) (x1 oLenA (xVar 3))))) (sPut 3 (xVar 5) (xCall m__law_draw (xDice (xCons (x1 oLenA (xVar 1)) xNil)))) sNext) (sSeq (sIf (bAnd (bTest (x2 oEq (xVar 4) (xC (.int 3)))) (bTest (x2 (oI fun i j => .bl (decide (i < j))) (x2 oAdd (xVar 5) (xC (.int 1))) (x1 oLenA (xVar 3))))) (sSwap 3 (xTup (xCons (xImm (x2 oIx (xVar 3) (x2 oAdd (xVar 5) (xC (.int 1))))) (xCons (xImm (x2 oIx (xVar 3) (xVar 5))) xNil))) (xVar 5) (x2 oAdd (xVar 5) (xC (.int 1)))) sNext) (sRet (x1 oTup (xVar 3)))))))))
def m__law_changed : XF := fnM 6 b__law_changed
theorem mo__law_changed : MonoF m__law_changed := monoF_fn (by unfold b__law_changed; exact MS.all)
instance : MF m__law_changed := ⟨mo__law_changed⟩
end Pu
set_option Elab.async false
set_option linter.all false
set_option maxRecDepth 100000
set_option synthInstance.maxHeartbeats 0
set_option synthInstance.maxSize 100000
namespace Pu
open PySem PySem.Spec PyProof.Rows L2
end Pu
set_option Elab.async false
set_option linter.all false
set_option maxRecDepth 100000
set_option synthInstance.maxHeartbeats 0
set_option synthInstance.maxSize 100000
namespace Pu
open PySem PySem.Spec PyProof.Rows L2
end Pu
set_option Elab.async false
set_option linter.all false
set_option maxRecDepth 100000
set_option synthInstance.maxHeartbeats 0
set_option synthInstance.maxSize 100000
namespace Pu
open PySem PySem.Spec PyProof.Rows L2
end Pu
set_option Elab.async false
set_option linter.all false
set_option maxRecDepth 100000
set_option synthInstance.maxHeartbeats 0
set_option synthInstance.maxSize 100000
namespace Pu
open PySem PySem.Spec PyProof.Rows L2
end Pu
set_option Elab.async false
set_option linter.all false
set_option maxRecDepth 100000
set_option synthInstance.maxHeartbeats 0
set_option synthInstance.maxSize 100000
namespace Pu
open PySem PySem.Spec PyProof.Rows L2
end Pu
set_option Elab.async false
set_option linter.all false
set_option maxRecDepth 100000
set_option synthInstance.maxHeartbeats 0
set_option synthInstance.maxSize 100000
namespace Pu
open PySem PySem.Spec PyProof.Rows L2
end Pu
set_option Elab.async false
set_option linter.all false
set_option maxRecDepth 100000
set_option synthInstance.maxHeartbeats 0
set_option synthInstance.maxSize 100000
namespace Pu
open PySem PySem.Spec PyProof.Rows L2
end Pu
set_option Elab.async false
set_option linter.all false
set_option maxRecDepth 100000
set_option synthInstance.maxHeartbeats 0
set_option synthInstance.maxSize 100000
namespace Pu
open PySem PySem.Spec PyProof.Rows L2
end Pu
set_option Elab.async false
set_option linter.all false
set_option maxRecDepth 100000
set_option synthInstance.maxHeartbeats 0
set_option synthInstance.maxSize 100000
namespace Pu
open PySem PySem.Spec PyProof.Rows L2
def b__law_lot : XS := sRet (x1 oTup (xLc (mRng1 (xVar 1)) (bName 2) (bTest (x2 oEq (xCall m__law_draw (xDice (xCons (xC (.int 2)) xNil))) (xC (.int 0)))) (xImm (xVar 2))))
def m__law_lot : XF := fnM 3 b__law_lot
theorem mo__law_lot : MonoF m__law_lot := monoF_fn (by unfold b__law_lot; exact MS.all)
instance : MF m__law_lot := ⟨mo__law_lot⟩
def b__law_bent : XS := sSeq (sSet 4 (xCall m__law_draw (xDice (xCons (x1 oLenA (xVar 2)) xNil)))) (sSeq (sSet 5 (xLc (mEnmU (x2 oIx (xVar 1) (xC (.int 1)))) (bTup 2 (bCons (bName 9) (bCons (bName 10) bNil))) (bTest (x2 (oIn false) (x2 oIx (xVar 2) (xVar 4)) (xVar 10))) (xImm (xVar 9)))) (sSeq (sSet 6 (xImm (x2 oIx (xVar 3) (xVar 4)))) (sSeq (sSet 7 (xCall m__law_draw (xDice (xCons (x2 oAdd (x1 oLenA (xVar 6)) (xC (.int 1))) xNil)))) (sSeq (sSet 8 (xCall m__law_draw (xDice (xCons (xC (.int 3)) xNil)))) (sSeq (sIf (bAnd (bTest (x2 oEq (xVar 8) (xC (.int 0)))) (bTest (x2 (oI fun i j => .bl (decide (j < i))) (x1 oLenA (xVar 5)) (xC (.int 0))))) (sSet 6 (x2 oAdd (x2 oAdd (xSl (xVar 6) pNo (pYes (xVar 7))) (xTup (xCons (xImm (x2 oIx (xVar 5) (xCall m__law_draw (xDice (xCons (x1 oLenA (xVar 5)) xNil))))) xNil))) (xSl (xVar 6) (pYes (xVar 7)) pNo))) sNext) (sSeq (sIf (bTest (x2 oEq (xVar 8) (xC (.int 1)))) (sSet 6 (x2 oAdd (xSl (xVar 6) pNo (pYes (xVar 7))) (xSl (xVar 6) (pYes (x2 oAdd (xVar 7) (xC (.int 1)))) pNo))) sNext) (sSeq (sIf (bTest (x2 oEq (xVar 8) (xC (.int 2)))) (sSet 6 (xRevT (xVar 6))) sNext) (sRet (x2 oAdd (x2 oAdd (xSl (xVar 3) pNo (pYes (xVar 4))) (xTup (xCons (xImm (xVar 6)) xNil))) (xSl (xVar 3) (pYes (x2 oAdd (xVar 4) (xC (.int 1)))) pNo))))))))))
def m__law_bent : XF := fnM 11 b__law_bent
theorem mo__law_bent : MonoF m__law_bent := monoF_fn (by unfold b__law_bent; exact MS.all)
instance : MF m__law_bent := ⟨mo__law_bent⟩
end Pu
set_option Elab.async false
set_option linter.all false
set_option maxRecDepth 100000
namespace Pu
open PySem PySem.Spec PyProof.Rows L2
section
variable {C : Cfg} {Γ Γ' Γn Γl Γo Γt Γe Γ1 Γ2 : List Mo} {σ σ' : L2.St} {H H' H1 H2 : Hp} {env env' : PEnv} {Fs Fs' Fs1 Fs2 : Nat → List Addr} {v : V} {vs : List V} {d d' : D} {ds : List D} {F G G' : List Addr} {ta tb tc te : TE} {A B : Kd} {m n mc ms : X1} {K : PySem.W.Frag} {CT : Nat → Addr} {S : Stat} {pm : List Bool}
abbrev XE2 := List D → (D → D → Prop) → Prop
def MonoE (mf : XE2) : Prop := ∀ ds Q Q', (∀ r d, Q r d → Q' r d) → mf ds Q → mf ds Q'
class ME (mf : XE2) : Prop where
  mono : MonoE mf
variable {P : Program} {w : World} {mg : Str → Option Value} {base : Heap} {x qual : Str} {st : Stmt} {f : Addr} {fd : FuncData} {N ps : List Str}
end
end Pu
set_option Elab.async false
set_option linter.all false
set_option maxRecDepth 100000
namespace Pu
open PySem PySem.Spec PyProof.Rows L2
section
variable {C : Cfg} {Γ Γ' Γn Γl Γo Γt Γe Γ1 Γ2 : List Mo} {σ σ' : L2.St} {H H' H1 H2 : Hp} {env env' : PEnv} {Fs Fs' Fs1 Fs2 : Nat → List Addr} {v : V} {vs : List V} {d d' : D} {ds : List D} {F G G' : List Addr} {ta tb tc te tv tm : TE} {A B : Kd} {m n mc ms mv : X1} {K : PySem.W.Frag} {CT : Nat → Addr} {S : Stat} {pm : List Bool}
end
end Pu
set_option Elab.async false
set_option linter.all false
set_option maxRecDepth 100000
namespace Pu
open PySem PySem.Spec PyProof.Rows L2
section
variable {C : Cfg} {Γ Γl : List Mo} {σ : L2.St} {H : Hp} {env : PEnv} {Fs : Nat → List Addr} {v : V} {vs : List V} {d : D} {ds : List D} {F G : List Addr} {te : TE} {A : Kd} {m : X1} {K : PySem.W.Frag} {CT : Nat → Addr}
end
end Pu
set_option Elab.async false
set_option linter.all false
set_option maxRecDepth 100000
set_option synthInstance.maxHeartbeats 0
set_option synthInstance.maxSize 100000
namespace Pu
open PySem PySem.Spec PyProof.Rows L2
end Pu
set_option Elab.async false
set_option linter.all false
set_option maxRecDepth 100000
namespace Pu
open PySem PySem.Spec PyProof.Rows L2
section
variable {C : Cfg} {Γ : List Mo} {σ : L2.St} {H : Hp} {env : PEnv} {Fs : Nat → List Addr} {CT : Nat → Addr}
end
end Pu
set_option Elab.async false
set_option linter.all false
set_option maxRecDepth 100000
set_option synthInstance.maxHeartbeats 0
set_option synthInstance.maxSize 100000
namespace Pu
open PySem PySem.Spec PyProof.Rows L2
end Pu
set_option Elab.async false
set_option linter.all false
set_option maxRecDepth 100000
set_option maxHeartbeats 1000000
namespace Pu
open PySem PySem.Spec PySem.W PyProof.Rows L2
section
variable {prog : Program} {w : World} {A : Around} {E : Value → Shared → Prop} {s : Shared}
end
section
variable {C : Cfg} {Γ : List Mo} {σ : L2.St} {H : Hp} {env : PEnv} {Fs : Nat → List Addr} {v : V} {vs : List V} {d : D} {ds : List D} {F G : List Addr} {ta td : TE} {A B : Kd} {m n : X1} {K : PySem.W.Frag} {CT : Nat → Addr}
end
end Pu
set_option Elab.async false
set_option linter.all false
set_option maxRecDepth 100000
set_option synthInstance.maxHeartbeats 0
set_option synthInstance.maxSize 100000
namespace Pu
open PySem PySem.Spec PyProof.Rows L2
end Pu
set_option Elab.async false
set_option linter.all false
set_option maxRecDepth 100000
namespace Pu
open PySem PySem.Spec PyProof.Rows L2
section
variable {C : Cfg} {Γ : List Mo} {te tb : TE} {A B : Kd} {m n : X1}
end
end Pu
set_option Elab.async false
set_option linter.all false
set_option maxRecDepth 100000
namespace Pu
open PySem PySem.Spec PyProof.Rows L2
section
variable {X : Cx}
end
end Pu
set_option Elab.async false
set_option linter.all false
set_option maxRecDepth 100000
set_option synthInstance.maxHeartbeats 0
set_option synthInstance.maxSize 100000
namespace Pu
open PySem PySem.Spec PyProof.Rows L2
end Pu
set_option Elab.async false
set_option linter.all false
set_option maxRecDepth 100000
namespace Pu
open PySem PySem.Spec PySem.W PyProof.Rows L2
section
variable {prog : Program} {w : World} {A : Around} {R : Result → Shared → Prop} {E : Value → Shared → Prop}
end
section
variable {X : Cx}
end
section
variable {C : Cfg} {Γ Γl : List Mo} {σ : L2.St} {H : Hp} {env : PEnv} {Fs : Nat → List Addr} {v : V} {vs : List V} {d : D} {ds : List D} {F G : List Addr} {te : TE} {A : Kd} {m : X1} {K : PySem.W.Frag} {CT : Nat → Addr}
end
section
variable {X : Cx}
end
end Pu
set_option Elab.async false
set_option linter.all false
set_option maxRecDepth 100000
set_option synthInstance.maxHeartbeats 0
set_option synthInstance.maxSize 100000
namespace Pu
open PySem PySem.Spec PyProof.Rows L2
end Pu
set_option Elab.async false
set_option linter.all false
set_option maxRecDepth 100000
namespace PuN
open PySem
open Sem (wp)
abbrev En := NestedKey × Value × Value
def KeyAt (h : Heap) (k : NestedKey) (v : Value) : Prop := NestedIs h k v ∧ k.depth ≤ 8 ∧ ∀ x t, v ≠ .str x t
def Lies (w : World) (xs : List En) (es : Array DictEntry) : Prop := es.toList = xs.map fun x => ⟨x.1.hash w, x.2.1, x.2.2⟩
def idx (xs : List En) (k : NestedKey) : Option Nat := xs.findIdx? fun x => decide (x.1 = k)
def look (xs : List En) (k : NestedKey) : Option Value := (xs.find? fun x => decide (x.1 = k)).map (·.2.2)
section
variable {prog : Program} {w : World} {A : Around} {E : Value → Shared → Prop} {s : Shared} {xs : List En} {es : Array DictEntry} {k : NestedKey} {key : Value} {d : Addr}
theorem Lies.at {w : World} {xs : List En} {es : Array DictEntry} (l : Lies w xs es) (i : Nat) : es[i]? = (xs[i]?).map fun x => ⟨x.1.hash w, x.2.1, x.2.2⟩ := by
  have e : es.toList[i]? = _ := congrArg (fun l => l[i]?) l
  rw [Array.getElem?_toList, List.getElem?_map] at e
  exact e
theorem Lies.size {w : World} {xs : List En} {es : Array DictEntry} (l : Lies w xs es) : es.size = xs.length := by
  have e := congrArg List.length l
  rw [List.length_map] at e
  rw [← e]; simp
def hasK (xs : List En) (k : NestedKey) (i : Nat) : Bool := match xs[i]? with
  | some x => decide (x.1 = k)
  | none => false
theorem hasK_uniq (hn : (xs.map (·.1)).Nodup) {i j : Nat} (hi : hasK xs k i = true) (hj : hasK xs k j = true) : i = j := by
  unfold hasK at hi hj
  cases ei : xs[i]? with
  | none => rw [ei] at hi; cases hi
  | some x =>
    cases ej : xs[j]? with
    | none => rw [ej] at hj; cases hj
    | some y =>
      rw [ei] at hi; rw [ej] at hj
      have e1 : (xs.map (·.1))[i]? = some k := by rw [List.getElem?_map, ei]; simpa using hi
      have e2 : (xs.map (·.1))[j]? = some k := by rw [List.getElem?_map, ej]; simpa using hj
      have li := (List.getElem?_eq_some_iff.mp e1).1
      exact (List.getElem?_inj li hn).mp (e1.trans e2.symm)
theorem places_idx (l : Lies w xs es) (hn : (xs.map (·.1)).Nodup) : (placesWithHash es.size (fun i => es[i]?.map (·.hash)) (k.hash w)).find? (hasK xs k) = idx xs k := by
  unfold idx
  cases e : xs.findIdx? fun x => decide (x.1 = k) with
  | none =>
    rw [List.findIdx?_eq_none_iff] at e
    refine List.find?_eq_none.mpr fun i _ => ?_
    unfold hasK
    cases q : xs[i]? with
    | none => simp
    | some x =>
      have := e x (List.mem_of_getElem? q)
      simpa using this
  | some i =>
    obtain ⟨hl, hp, _⟩ := List.findIdx?_eq_some_iff_getElem.mp e
    have hk : hasK xs k i = true := by
      unfold hasK
      rw [List.getElem?_eq_getElem hl]
      exact hp
    have hm : i ∈ placesWithHash es.size (fun i => es[i]?.map (·.hash)) (k.hash w) := by
      refine List.mem_filter.mpr ⟨List.mem_range.mpr (by rw [l.size]; exact hl), ?_⟩
      show (es[i]?.map (·.hash) == some (k.hash w)) = true
      rw [l.at i, List.getElem?_eq_getElem hl]
      have : xs[i].1 = k := of_decide_eq_true hp
      simp [this]
    cases q : (placesWithHash es.size (fun i => es[i]?.map (·.hash)) (k.hash w)).find? (hasK xs k) with
    | none => exact absurd hk (List.find?_eq_none.mp q i hm)
    | some j => rw [hasK_uniq hn (List.find?_some q) hk]
theorem in_places {i : Nat} (h : i ∈ placesWithHash es.size (fun i => es[i]?.map (·.hash)) (k.hash w)) : ∃ e, es[i]? = some e ∧ (e.hash == k.hash w) = true := by
  have h2 : (es[i]?.map (·.hash) == some (k.hash w)) = true := (List.mem_filter.mp h).2
  cases q : es[i]? with
  | none => rw [q] at h2; simp at h2
  | some e => rw [q] at h2; exact ⟨e, rfl, by simpa using h2⟩
theorem nodup_places {n : Nat} {f : Nat → Option Int} {g : Int} : (placesWithHash n f g).Nodup := List.Pairwise.filter _ List.nodup_range
theorem not_done {done rest : List Nat} {i : Nat} (hn : (xs.map (·.1)).Nodup) (nd : (done ++ i :: rest).Nodup) (hk : hasK xs k i = true) : done.find? (hasK xs k) = none := by
  refine List.find?_eq_none.mpr fun j hj q => ?_
  have e := hasK_uniq hn q hk
  subst e
  exact (List.nodup_append.mp nd).2.2 j hj j List.mem_cons_self rfl
theorem quietAt (x : KeyAt s.heap k key) : QuietAt prog w 8 s key := quiet_key k key 8 s x.1 x.2.1
theorem mayTell {st : List Value} {Q : Bool → Shared → Prop} (x : KeyAt s.heap k key) (hs : ∀ v ∈ st, ∃ k', KeyAt s.heap k' v) (h : Q false s) : wpAny (model prog w) A (tableMayTell key st) Q E s := by
  unfold tableMayTell
  by_cases e : st.isEmpty = true
  · rw [if_pos e]; exact wpAny_pure h
  · rw [if_neg e]
    refine wpAny_bind (quietAt x A E _ ?_)
    rw [if_neg (by decide)]
    refine wpAny_bind ?_
    refine wpAny_forIn_list _ (fun rest b u => u = s ∧ b = (none, ()) ∧ ∀ v ∈ rest, v ∈ st) _ (fun v rest b u hu => ?_) (fun b u hu => ?_) _ _ ⟨rfl, rfl, fun _ m => m⟩
    · obtain ⟨rfl, rfl, sub⟩ := hu
      obtain ⟨k', y⟩ := hs v (sub v List.mem_cons_self)
      refine wpAny_bind (quietAt y A E _ ?_)
      rw [if_neg (by decide)]
      exact wpAny_pure ⟨rfl, rfl, fun v m => sub v (List.mem_cons_of_mem _ m)⟩
    · obtain ⟨rfl, rfl, _⟩ := hu
      exact wpAny_pure h
theorem asked {o : Obj} {ep : Nat} {i : Nat} {e : DictEntry} {F : Bool → Sem α} {Q : α → Shared → Prop} (hu : A.units + 8 < cLine) (l : Lies w xs es) (hx : ∀ x ∈ xs, KeyAt s.heap x.1 x.2.1) (x : KeyAt s.heap k key) (he : es[i]? = some e)
    (h : wpAny (model prog w) A (F (hasK xs k i)) Q E s) : wpAny (model prog w) A (eqBool e.key key >>= F) Q E s := by
  rw [l.at i] at he
  cases q : xs[i]? with
  | none => rw [q] at he; cases he
  | some y =>
    rw [q] at he
    cases he
    obtain ⟨n1, n2, _⟩ := hx y (List.mem_of_getElem? q)
    refine wpAny_bind (eqAt_key y.1 k A s y.2.1 key n1 x.1 (by have := x.2.1; omega) prog w E _ ?_)
    have e2 : NestedKey.beq y.1 k = hasK xs k i := by
      unfold hasK
      rw [q]
      exact (NestedKey.decide_eq y.1 k).symm
    rw [e2]
    exact h
theorem walkPlain {o : Obj} {ep : Nat} {P : List Nat} {Q : Option Nat → Shared → Prop} (hu : A.units + 8 < cLine) (ho : s.heap.get? d = some o) (hd : o.data = .dict es ep) (l : Lies w xs es) (hx : ∀ x ∈ xs, KeyAt s.heap x.1 x.2.1) (x : KeyAt s.heap k key)
    (hp : ∀ i ∈ P, ∃ e, es[i]? = some e ∧ (e.hash == k.hash w) = true) (h : Q (P.find? (hasK xs k)) s) : wpAny (model prog w) A (dictWalkPlain d key (k.hash w) es P) Q E s := by
  unfold dictWalkPlain
  refine wpAny_bind ?_
  refine wpAny_forIn_list _ (fun rest b u => u = s ∧ b = (none, ()) ∧ ∃ done, P = done ++ rest ∧ done.find? (hasK xs k) = none) _ (fun i rest b u hI => ?_) (fun b u hI => ?_) _ _ ⟨rfl, rfl, [], rfl, rfl⟩
  · obtain ⟨rfl, rfl, done, eP, hnone⟩ := hI
    obtain ⟨e, he, hh⟩ := hp i (by rw [eP]; exact List.mem_append_right _ List.mem_cons_self)
    rw [he]
    dsimp only
    rw [if_pos hh]
    refine wpAny_bind (wpAny_dictEpoch ho hd (asked (o := o) (ep := ep) hu l hx x he (wpAny_bind (wpAny_dictEpoch ho hd ?_))))
    rw [if_neg (show ¬ (ep != ep) = true by simp)]
    cases q : hasK xs k i with
    | true =>
      rw [if_pos rfl]
      rw [eP, List.find?_append, hnone, List.find?_cons_of_pos q] at h
      exact wpAny_bind (wpAny_rule (wpAny_pure (wpAny_pure h)))
    | false =>
      rw [if_neg Bool.false_ne_true]
      exact wpAny_bind (wpAny_rule (wpAny_pure ⟨rfl, rfl, done ++ [i], by rw [eP]; simp, by rw [List.find?_append, hnone]; simp [q]⟩))
  · obtain ⟨rfl, rfl, done, eP, hnone⟩ := hI
    rw [List.append_nil] at eP
    rw [eP, hnone] at h
    exact wpAny_pure h
theorem find {o : Obj} {ep : Nat} {Q : Option Nat → Shared → Prop} (hu : A.units + 8 < cLine) (ho : s.heap.get? d = some o) (hd : o.data = .dict es ep) (l : Lies w xs es) (hn : (xs.map (·.1)).Nodup) (hx : ∀ x ∈ xs, KeyAt s.heap x.1 x.2.1) (x : KeyAt s.heap k key)
    (h : Q (idx xs k) s) : wpAny (model prog w) A (dictFind d key (k.hash w)) Q E s := by
  rw [← places_idx l hn] at h
  have pl : ∀ i ∈ placesWithHash es.size (fun i => es[i]?.map (·.hash)) (k.hash w), ∃ e, es[i]? = some e ∧ (e.hash == k.hash w) = true := fun i m => in_places m
  have nd := nodup_places (n := es.size) (f := fun i => es[i]?.map (·.hash)) (g := k.hash w)
  have st : ∀ v ∈ (placesWithHash es.size (fun i => es[i]?.map (·.hash)) (k.hash w)).filterMap (fun i => es[i]?.map (·.key)), ∃ k', KeyAt s.heap k' v := fun v m => by
    obtain ⟨i, _, q⟩ := List.mem_filterMap.mp m
    rw [l.at i] at q
    cases q2 : xs[i]? with
    | none => rw [q2] at q; cases q
    | some y => rw [q2] at q; cases q; exact ⟨y.1, hx y (List.mem_of_getElem? q2)⟩
  have same : (es.any fun e => e.key == key && e.hash != k.hash w) = false := by
    rw [← Array.any_toList, l, List.any_map, List.any_eq_false]
    intro y hy q
    simp only [Function.comp_apply, Bool.and_eq_true, beq_iff_eq, bne_iff_ne, ne_eq] at q
    have e := NestedIs.inj _ _ _ (q.1 ▸ (hx y hy).1) x.1
    exact q.2 (by rw [e])
  generalize hP : placesWithHash es.size (fun i => es[i]?.map (·.hash)) (k.hash w) = P at h pl nd st
  unfold dictFind
  refine wpAny_holding (wpAny_bind (wpAny_dictEntries ho hd ?_))
  have fin : wpAny (model prog w) A (dictWalkPlain d key (k.hash w) es P) Q E s := walkPlain hu ho hd l hx x pl h
  generalize hst : P.filterMap (fun i => es[i]?.map (·.key)) = st0 at st
  have xc := x.2.2
  obtain ⟨kk, ek, xa⟩ : ∃ kk, kk = k ∧ NestedIs s.heap kk key := ⟨k, rfl, x.1⟩
  have two : ∀ {F : Bool → Sem (Option Nat)}, wpAny (model prog w) A (F false) Q E s → wpAny (model prog w) A (if (st0 == [key]) = true then (pure false >>= F) else (tableMayTell key st0 >>= F)) Q E s := fun {F} q => by
    by_cases h1 : (st0 == [key]) = true
    · rw [if_pos h1]; exact wpAny_bind (wpAny_pure q)
    · rw [if_neg h1]; exact wpAny_bind (mayTell x st q)
  have one : ∀ {G : Sem (Option Nat)} {c : Bool}, (c = true → wpAny (model prog w) A (dictWalkPlain d key (k.hash w) es P) Q E s) → (c = false → wpAny (model prog w) A G Q E s) →
      wpAny (model prog w) A (if c = true then dictWalkPlain d key (k.hash w) es P else G) Q E s := fun {G c} q1 q2 => by
    cases c with
    | true => rw [if_pos rfl]; exact q1 rfl
    | false => rw [if_neg Bool.false_ne_true]; exact q2 rfl
  cases xa with
  | text x1 t => exact absurd rfl (xc x1 t)
  | _ =>
    dsimp only
    rw [hP, hst]
    refine one (fun _ => fin) (fun _ => ?_)
    try rw [if_neg (by rw [same]; decide)]
    refine two ?_
    rw [if_neg (by simp)]
    refine wpAny_bind ?_
    refine wpAny_forIn_list _ (fun rest b u => u = s ∧ ∃ done, P = done ++ rest ∧ b = (none, done.find? (hasK xs k))) _ (fun i rest b u hI => ?_) (fun b u hI => ?_) _ _ ⟨rfl, [], rfl, rfl⟩
    · obtain ⟨rfl, done, eP, eb⟩ := hI
      obtain ⟨e, he, hh⟩ := pl i (by rw [eP]; exact List.mem_append_right _ List.mem_cons_self)
      have nd' : (done ++ i :: rest).Nodup := by rw [← eP]; exact nd
      subst eb
      rw [he]
      dsimp only
      rw [if_pos hh]
      refine wpAny_bind (wpAny_dictEpoch ho hd (asked (o := o) (ep := ep) hu l hx x he (wpAny_bind (wpAny_dictEpoch ho hd ?_))))
      rw [if_neg (show ¬ (ep != ep) = true by simp)]
      cases q : hasK xs k i with
      | true =>
        have hno := not_done hn nd' q
        rw [if_pos rfl, hno]
        rw [if_neg (by simp)]
        refine wpAny_bind (wpAny_rule ?_)
        by_cases h2 : st0.length < 2
        · rw [if_pos h2]
          rw [eP, List.find?_append, hno, List.find?_cons_of_pos q] at h
          exact wpAny_pure (wpAny_pure h)
        · rw [if_neg h2]
          exact wpAny_pure ⟨rfl, done ++ [i], by rw [eP]; simp, by rw [List.find?_append, hno]; simp [q]⟩
      | false =>
        rw [if_neg Bool.false_ne_true]
        refine wpAny_bind (wpAny_rule ?_)
        rw [if_neg (by simp)]
        exact wpAny_pure ⟨rfl, done ++ [i], by rw [eP]; simp, by rw [List.find?_append]; simp [q]⟩
    · obtain ⟨rfl, done, eP, eb⟩ := hI
      rw [List.append_nil] at eP
      subst eb
      rw [eP] at h
      exact wpAny_pure h
end
end PuN
namespace PuN
open PySem
open Sem (wp)
section
variable {prog : Program} {w : World} {A : Around} {E : Value → Shared → Prop} {s : Shared} {xs : List En} {k : NestedKey} {key v : Value} {d : Addr}
def DictN (w : World) (h : Heap) (d : Addr) (xs : List En) : Prop := ∃ o es ep, h.get? d = some o ∧ o.ExactDict ∧ o.data = .dict es ep ∧ Lies w xs es
theorem DictN.typeIs (x : DictN w s.heap d xs) : s.TypeIs (.ref d) "dict" := let ⟨o, _, _, ho, hc, _⟩ := x; ⟨o, ho, hc.1⟩
theorem look_idx : look xs k = (idx xs k).bind fun i => (xs[i]?).map (·.2.2) := by
  unfold look idx
  induction xs with
  | nil => rfl
  | cons x xs ih =>
    by_cases h : x.1 = k
    · simp [h, List.findIdx?_cons]
    · rw [List.find?_cons_of_neg (by simpa using h), List.findIdx?_cons]
      rw [ih]
      simp only [h, decide_false]
      cases xs.findIdx? (fun x => decide (x.1 = k)) <;> rfl
def Keyed (h : Heap) (xs : List En) : Prop := (xs.map (·.1)).Nodup ∧ ∀ x ∈ xs, KeyAt h x.1 x.2.1
theorem got {Q : Option Value → Shared → Prop} (hu : A.units + 8 < cLine) (m : DictN w s.heap d xs) (hx : Keyed s.heap xs) (x : KeyAt s.heap k key) (h : Q (look xs k) { s with toks := s.toks + k.draws }) :
    wpAny (model prog w) A (dictGet d key) Q E s := by
  obtain ⟨o, es, ep, ho, hc, hd, l⟩ := m
  unfold dictGet
  refine wpAny_holding (wpAny_bind (pyHash_key k key A s _ x.1 (by have := x.2.1; omega) ?_))
  refine wpAny_bind (find (s := { s with toks := s.toks + k.draws }) hu ho hd l hx.1 hx.2 x ?_)
  rw [look_idx] at h
  cases e : idx xs k with
  | none => rw [e] at h; exact wpAny_pure h
  | some i =>
    rw [e] at h
    refine wpAny_bind (wpAny_dictEntries (s := { s with toks := s.toks + k.draws }) ho hd (wpAny_pure ?_))
    rw [l.at i, Option.map_map]
    exact h
def putE (xs : List En) (k : NestedKey) (key v : Value) : List En := if (look xs k).isSome then xs.map (fun x => if x.1 = k then (x.1, x.2.1, v) else x) else xs ++ [(k, key, v)]
theorem look_none (h : idx xs k = none) : look xs k = none := by rw [look_idx, h]; rfl
theorem look_some {i : Nat} (h : idx xs k = some i) : (look xs k).isSome = true := by
  obtain ⟨hl, _⟩ := List.findIdx?_eq_some_iff_getElem.mp h
  rw [look_idx, h]
  simp [hl]
theorem modify_at : ∀ {xs : List En} {i : Nat}, (xs.map (·.1)).Nodup → hasK xs k i = true →
    (xs.map fun x => (⟨x.1.hash w, x.2.1, x.2.2⟩ : DictEntry)).modify i (fun e => { e with val := v }) = (xs.map (fun x => if x.1 = k then (x.1, x.2.1, v) else x)).map fun x => (⟨x.1.hash w, x.2.1, x.2.2⟩ : DictEntry)
  | [], i, _, h => by simp [hasK] at h
  | x :: xs, 0, nd, h => by
    have hk : x.1 = k := by simpa [hasK] using h
    rw [List.map_cons, List.nodup_cons] at nd
    have no : ∀ y ∈ xs, ¬ y.1 = k := fun y hy e => nd.1 (by rw [hk, ← e]; exact List.mem_map.mpr ⟨y, hy, rfl⟩)
    have e : xs.map (fun x => if x.1 = k then (x.1, x.2.1, v) else x) = xs := by
      conv => rhs; rw [← List.map_id xs]
      exact List.map_congr_left fun y hy => by rw [if_neg (no y hy)]; rfl
    rw [List.map_cons, List.map_cons, e, if_pos hk]
    rfl
  | x :: xs, i + 1, nd, h => by
    rw [List.map_cons, List.nodup_cons] at nd
    have h' : hasK xs k i = true := by simpa [hasK] using h
    have hne : ¬ x.1 = k := fun e => by
      unfold hasK at h'
      cases q : xs[i]? with
      | none => rw [q] at h'; cases h'
      | some y => rw [q] at h'; exact nd.1 (List.mem_map.mpr ⟨y, List.mem_of_getElem? q, (of_decide_eq_true h').trans e.symm⟩)
    rw [List.map_cons, List.map_cons, if_neg hne]
    show _ :: (xs.map _).modify i _ = _ :: _
    rw [modify_at nd.2 h']
theorem stored {Q : Unit → Shared → Prop} (hu : A.units + 8 < cLine) (m : DictN w s.heap d xs) (hx : Keyed s.heap xs) (x : KeyAt s.heap k key) (hz : xs.length ≤ sizeLine)
    (h : ∀ h', DictN w h' d (putE xs k key v) → Heap.SameBut d s.heap h' → Q () { s with heap := h', toks := s.toks + k.draws }) : wpAny (model prog w) A (dictSet d key v) Q E s := by
  obtain ⟨o, es, ep, ho, hc, hd, l⟩ := m
  unfold dictSet
  refine wpAny_holding (wpAny_bind (pyHash_key k key A s _ x.1 (by have := x.2.1; omega) ?_))
  unfold dictSetHashed
  refine wpAny_holding (wpAny_bind (find (s := { s with toks := s.toks + k.draws }) hu ho hd l hx.1 hx.2 x ?_))
  cases e : idx xs k with
  | none =>
    have en : putE xs k key v = xs ++ [(k, key, v)] := by unfold putE; rw [look_none e]; rfl
    refine wpAny_bind (wpAny_rule (wpAny_updateDictKeys (hz := by rw [l.size]; exact hz) (s := { s with toks := s.toks + k.draws }) ho hd (h _ ⟨_, _, ep + 1, Heap.get?_update_self _ ho (Obj.isFreed_of_dict (Obj.data_mapDictKeys hd _)), hc.mapDictKeys _, Obj.data_mapDictKeys hd _, ?_⟩ (Heap.SameBut.update ..))))
    rw [en]
    show (es.push _).toList = _
    rw [Array.toList_push, l, List.map_append]
    rfl
  | some i =>
    have hk : hasK xs k i = true := by
      obtain ⟨hl, hp, _⟩ := List.findIdx?_eq_some_iff_getElem.mp e
      unfold hasK
      rw [List.getElem?_eq_getElem hl]
      exact hp
    have en : putE xs k key v = xs.map (fun x => if x.1 = k then (x.1, x.2.1, v) else x) := by unfold putE; rw [if_pos (look_some e)]
    refine wpAny_bind (wpAny_rule (wpAny_bind (wpAny_updateDict (s := { s with toks := s.toks + k.draws }) ho hd (wpAny_point (h _ ⟨_, _, ep, Heap.get?_update_self _ ho (Obj.isFreed_of_dict (Obj.data_mapDict hd _)), hc.mapDict _, Obj.data_mapDict hd _, ?_⟩ (Heap.SameBut.update ..))))))
    rw [en]
    show (es.modify i _).toList = _
    rw [Array.toList_modify, l]
    exact modify_at hx.1 hk
theorem Keyed.put {h : Heap} (hx : Keyed h xs) (x : KeyAt h k key) : Keyed h (putE xs k key v) := by
  unfold putE
  cases e : idx xs k with
  | none =>
    rw [look_none e, if_neg (by decide)]
    refine ⟨?_, fun y hy => ?_⟩
    · rw [List.map_append, List.nodup_append]
      refine ⟨hx.1, by simp, fun a ha b hb q => ?_⟩
      have hb : b = k := by simpa using hb
      subst q hb
      obtain ⟨y, hy, q⟩ := List.mem_map.mp ha
      have := List.findIdx?_eq_none_iff.mp e y hy
      simp [q] at this
    · rcases List.mem_append.mp hy with hy | hy
      · exact hx.2 y hy
      · rw [List.mem_singleton.mp hy]; exact x
  | some i =>
    rw [if_pos (look_some e)]
    refine ⟨?_, fun y hy => ?_⟩
    · rw [List.map_map]
      have : ((fun x : En => x.1) ∘ fun x : En => if x.1 = k then (x.1, x.2.1, v) else x) = fun x => x.1 := funext fun y => by
        show (if y.1 = k then (y.1, y.2.1, v) else y).1 = y.1
        split <;> rfl
      rw [this]; exact hx.1
    · obtain ⟨z, hz, q⟩ := List.mem_map.mp hy
      have := hx.2 z hz
      have q : (if z.1 = k then (z.1, z.2.1, v) else z) = y := q
      subst q
      split <;> exact this
theorem at_notIn {Q : Value → Shared → Prop} (hu : A.units + 64 < cLine) (hd : (d == sysModules) = false) (m : DictN w s.heap d xs) (hx : Keyed s.heap xs) (x : KeyAt s.heap k key) (h : Q (.bool (!(look xs k).isSome)) { s with toks := s.toks + k.draws }) :
    wpAny (model prog w) A (compareOp .NotIn key (.ref d)) Q E s := by
  show wpAny _ _ (do return .bool (!(← contains (.ref d) key))) Q E s
  refine wpAny_bind (wpAny_contains_slot m.typeIs F.slot_dict_contains ?_)
  refine call_meetsIn F.slot_dict_contains m.typeIs F.entry_dict_contains (F.args_dict_contains_2 _ _) (S := fun A' R s' => A' = A ∧ s' = s ∧ R (.ok (.ret (.bool (look xs k).isSome))) { s with toks := s.toks + k.draws }) (fun A' R s' hS => ?_) ⟨rfl, rfl, wpAny_truthy_bool (wpAny_pure h)⟩
  obtain ⟨rfl, rfl, hq⟩ := hS
  show wpAny _ _ (dictGet d key >>= _) _ _ _
  refine wpAny_bind (got (by rw [Around.in1_units]; omega) m hx x ?_)
  cases e : look xs k with
  | some p => rw [e] at hq; exact wpAny_pure hq
  | none => rw [e] at hq; exact wpAny_bind (wpAny_pendingKey_other hd (wpAny_pure hq))
theorem at_item {Q : Value → Shared → Prop} (hu : A.units + 64 < cLine) (m : DictN w s.heap d xs) (hx : Keyed s.heap xs) (x : KeyAt s.heap k key) (hv : look xs k = some v) (h : Q v { s with toks := s.toks + k.draws }) :
    wpAny (model prog w) A (getItem (.ref d) key) Q E s := by
  unfold getItem
  refine wpAny_holding (wpAny_bind (wpAny_sequenceKey m.typeIs (by decide) ?_))
  refine wpAny_bind (wpAny_callSpecial?_slot (name := Str.ofString "__getitem__") m.typeIs F.slot_dict_getitem (wpAny_call_entry F.slot_dict_getitem m.typeIs F.entry_dict_getitem ?_ (F.args_dict_getitem_2 _ _)))
  show wpAny _ _ (dictGet d key >>= _) _ _ s
  refine wpAny_bind (got (by rw [Around.in1_units]; omega) m hx x ?_)
  rw [hv]
  exact wpAny_pure ⟨v, rfl, wpAny_pure h⟩
theorem at_store {Q : Unit → Shared → Prop} (hu : A.units + 64 < cLine) (m : DictN w s.heap d xs) (hx : Keyed s.heap xs) (x : KeyAt s.heap k key) (hz : xs.length ≤ sizeLine)
    (h : ∀ h', DictN w h' d (putE xs k key v) → Heap.SameBut d s.heap h' → Q () { s with heap := h', toks := s.toks + k.draws }) : wpAny (model prog w) A (setItem (.ref d) key v) Q E s := by
  unfold setItem
  refine wpAny_holding (wpAny_bind (wpAny_sequenceKey m.typeIs (by decide) ?_))
  refine wpAny_bind (wpAny_callSpecial?_slot (name := Str.ofString "__setitem__") m.typeIs F.slot_dict_setitem (wpAny_call_entry F.slot_dict_setitem m.typeIs F.entry_dict_setitem ?_ (F.args_dict_setitem_3 _ _ _)))
  show wpAny _ _ (Builtin.Dict.notOrdered "__setitem__" ⟨[.ref d, key, v], []⟩ >>= _) _ _ s
  refine wpAny_bind (wpAny_notOrdered_dict m.typeIs ?_)
  show wpAny _ _ (dictSet d key v >>= _) _ _ s
  exact wpAny_bind (stored (by rw [Around.in1_units]; omega) m hx x hz fun h' m' hs => wpAny_pure ⟨.none, rfl, wpAny_pure (h h' m' hs)⟩)
end
end PuN
set_option Elab.async false
set_option linter.all false
set_option maxRecDepth 100000
namespace Pu
open PySem PySem.Spec PyProof.Rows L2
section
variable {C : Cfg} {Γ Γ' Γn Γl Γo Γt Γe Γ1 Γ2 Γf Γu Γw : List Mo} {σ σ' : L2.St} {H H' H1 H2 : Hp} {env env' : PEnv} {Fs Fs' Fs1 Fs2 : Nat → List Addr} {v : V} {vs : List V} {d : D} {ds : List D} {F G : List Addr} {ta tb te : TE} {A B : Kd} {m n : X1} {K : PySem.W.Frag} {CT : Nat → Addr}
structure SimI1 (C : Cfg) (Γ : List Mo) (wi : TI) (m : XL) : Prop where
  run : ∀ (σ : L2.St) (H : Hp) (env : PEnv) (Fs : Nat → List Addr) (R : It → Hp → Prop), Ok C Γ σ H env Fs →
    m env (fun ds => ∀ H' J S P, Fr (Wq C) H H' → DiceOk C H' → Walk C.CT J S P ds → P H' → NoQ C S → (∀ a ∈ S, H a = none) → R J H') → wi σ H R
  mono : Mono m
end
end Pu
set_option Elab.async false
set_option linter.all false
set_option maxRecDepth 100000
namespace Pu
open PySem PySem.Spec PyProof.Rows L2
section
variable {kx vx t i t1 i1 : Expr} {fs fs1 : List Expr} {gens : List Comprehension} {scope : Scope} {pos : Pos} {d : Nat} {it acc : Value} {env : Env} {D : Addr}
end
section
variable {prog : Program} {w : World} {A : Around} {R : Result → Shared → Prop} {s : Shared} {kx vx t i : Expr} {gens : List Comprehension} {scope : Scope} {pos : Pos} {fs : List Expr} {rest : Sem Fin → Sem Fin} {d : Nat} {it acc : Value} {env : Env}
end
abbrev Rest := L2.St → Hp → (Hp → Prop) → Prop
section
variable {X : Cx}
structure RestOk (X : Cx) (sem : Sem Fin → Sem Fin) (vs : List Nat) (rest : Rest) : Prop where
  run : ∀ (pins : List (Addr × Obj)) (s : Shared) (σ : L2.St) (H : Hp) (Nx : Hp → Prop) (k : Sem Fin) (Q : Fin → Shared → Prop) (E : Value → Shared → Prop), Inv X pins σ H s → rest σ H Nx →
    (∀ s' H', Inv X pins (L2.wipe σ vs) H' s' → Nx H' → wpAny (model X.prog X.w) X.A k Q E s') → wpAny (model X.prog X.w) X.A (sem k) Q E s
end
end Pu
set_option Elab.async false
set_option linter.all false
set_option maxRecDepth 100000
namespace Pu
open PySem PySem.Spec PyProof.Rows L2
section
variable {X : Cx}
end
end Pu
set_option Elab.async false
set_option linter.all false
set_option maxRecDepth 100000
namespace Pu
open PySem PySem.Spec PyProof.Rows L2
section
variable {C : Cfg} {Γ Γ' Γn Γl Γo Γt Γe Γ1 Γ2 Γf Γu Γt1 : List Mo} {σ σ' : L2.St} {H H' H1 H2 : Hp} {env env' : PEnv} {Fs Fs' Fs1 Fs2 : Nat → List Addr} {v : V} {vs : List V} {d : D} {ds : List D} {F G : List Addr} {ta tb te tk tv : TE} {A B : Kd} {m n : X1} {K : PySem.W.Frag} {CT : Nat → Addr}
abbrev DRest := PEnv → List (Key × D) → (List (Key × D) → Prop) → Prop
def MonoR (r : DRest) : Prop := ∀ env acc Q Q', (∀ x, Q x → Q' x) → r env acc Q → r env acc Q'
class MR (r : DRest) : Prop where
  mono : MonoR r
def DAt (C : Cfg) (H1 : Hp) (Dl : Addr) (H : Hp) (acc : List (Key × D)) : Prop := ∃ accV F, H Dl = some (.dK accV) ∧ accV.map (·.1) = acc.map (·.1) ∧ Rps C.CT H (accV.map (·.2)) (acc.map (·.2)) F ∧ Fr (Wq C) H1 H ∧ DiceOk C H ∧ F.Nodup ∧ ∀ a ∈ F, H1 a = none ∧ a ≠ Dl
theorem DAt.keep {Dl : Addr} {acc : List (Key × D)} (da : DAt C H1 Dl H acc) (dk : DiceOk C H1) (hD : H1 Dl = none) (f : Fr (Wq C) H H') (dk' : DiceOk C H') : DAt C H1 Dl H' acc := by
  obtain ⟨accV, F, e, ke, r, fr, _, nd, new⟩ := da
  have nqF : ∀ a ∈ F, ¬ Wq C a := (NoQ.new dk fun a ha => (new a ha).1).wq
  exact ⟨accV, F, f.keep _ _ e fun w => wq_there dk w hD, ke, r.keep f nqF, fr.trans f, dk', nd, new⟩
structure SimRest (C : Cfg) (Γ : List Mo) (t : Addr → Rest) (r : DRest) : Prop where
  run : ∀ (σ : L2.St) (H : Hp) (env : PEnv) (Fs : Nat → List Addr) (H1 : Hp) (Dl : Addr) (acc : List (Key × D)) (Nx : Hp → Prop), DiceOk C H1 → H1 Dl = none → Ok C Γ σ H env Fs → DAt C H1 Dl H acc →
    r env acc (fun acc1 => ∀ H', DAt C H1 Dl H' acc1 → Fr (fun x => Wq C x ∨ x = Dl) H H' → Nx H') → t Dl σ H Nx
  mono : MonoR r
end
end Pu
set_option Elab.async false
set_option linter.all false
set_option maxRecDepth 100000
namespace Pu
open PySem PySem.Spec PyProof.Rows L2
open PuN (En DictN Keyed KeyAt look Lies putE)
mutual
inductive KV1 (H : Hp) : NestedKey → V → Prop
  | non : KV1 H .none .non
  | bl (b : Bool) : KV1 H (.num (if b = true then 1 else 0)) (.bl b)
  | int (i : Int) : KV1 H (.num i) (.int i)
  | tup {a : Addr} {vs : List V} {ks : List NestedKey} : H a = some (.tup vs) → KVL H ks vs → KV1 H (.tup ks) (.ref a)
inductive KVL (H : Hp) : List NestedKey → List V → Prop
  | nil : KVL H [] []
  | cons {k : NestedKey} {v : V} {ks : List NestedKey} {vs : List V} : KV1 H k v → KVL H ks vs → KVL H (k :: ks) (v :: vs)
end
section
variable {CT : Nat → Addr} {H : Hp} {P : Program} {w : World} {h : Heap}
mutual
theorem Rp.kv : ∀ {v : V} {d : D} {F : List Addr} {k : NestedKey}, Rp CT H v d F → d.nk = some k → KV1 H k v
  | _, _, _, _, .non, e => by simp only [D.nk, Option.some.injEq] at e; subst e; exact .non
  | _, _, _, _, .bl b, e => by simp only [D.nk, Option.some.injEq] at e; subst e; exact .bl b
  | _, _, _, _, .int i, e => by simp only [D.nk, Option.some.injEq] at e; subst e; exact .int i
  | _, _, _, _, .str b, e => by simp [D.nk] at e
  | _, _, _, _, .tup (ds := ds) h r, e => by
    simp only [D.nk] at e
    cases q : nkL ds with
    | none => rw [q] at e; cases e
    | some ks => rw [q] at e; cases e; exact .tup h (Rps.kv r q)
  | _, _, _, _, .lst h r, e => by simp [D.nk] at e
  | _, _, _, _, .dK h _ r, e => by simp [D.nk] at e
  | _, _, _, _, .dT h _ r, e => by simp [D.nk] at e
  | _, _, _, _, .obj h _ r, e => by simp [D.nk] at e
  | _, _, _, _, .fz h _ _ r, e => by simp [D.nk] at e
  | _, _, _, _, .dN _ _ _ _ _, e => by simp [D.nk] at e
theorem Rps.kv : ∀ {vs : List V} {ds : List D} {F : List Addr} {ks : List NestedKey}, Rps CT H vs ds F → nkL ds = some ks → KVL H ks vs
  | _, _, _, _, .nil, e => by simp only [nkL, Option.some.injEq] at e; subst e; exact .nil
  | _, _, _, _, .cons (d := d) (ds := ds) r rs, e => by
    simp only [nkL] at e
    cases q : d.nk with
    | none => rw [q] at e; cases e
    | some k =>
      cases q2 : nkL ds with
      | none => rw [q, q2] at e; cases e
      | some ks => rw [q, q2] at e; cases e; exact .cons (Rp.kv r q) (Rps.kv rs q2)
end
mutual
theorem nk_imm : ∀ {d : D} {k : NestedKey}, d.nk = some k → d.imm = true
  | .non, _, _ => rfl
  | .bl _, _, _ => rfl
  | .int _, _, _ => rfl
  | .str _, _, e => by simp [D.nk] at e
  | .tup ds, _, e => by
    simp only [D.nk] at e
    cases q : nkL ds with
    | none => rw [q] at e; cases e
    | some ks => exact nkL_imm q
  | .lst _, _, e => by simp [D.nk] at e
  | .dK _, _, e => by simp [D.nk] at e
  | .dT _, _, e => by simp [D.nk] at e
  | .obj _ _, _, e => by simp [D.nk] at e
  | .fz _ _, _, e => by simp [D.nk] at e
  | .dN _, _, e => by simp [D.nk] at e
theorem nkL_imm : ∀ {ds : List D} {ks : List NestedKey}, nkL ds = some ks → immL ds = true
  | [], _, _ => rfl
  | d :: ds, _, e => by
    simp only [nkL] at e
    cases q : d.nk with
    | none => rw [q] at e; cases e
    | some k =>
      cases q2 : nkL ds with
      | none => rw [q, q2] at e; cases e
      | some ks => simp only [immL, nk_imm q, nkL_imm q2, Bool.and_self]
end
theorem ref_tup {a : Addr} {vs : List V} (ok : HOk P w H h) (e : H a = some (.tup vs)) : ∃ its o n, Vals vs its ∧ h.get? a = some o ∧ o.cls = .type "tuple" ∧ o.data = .seq its.toArray n := by
  obtain ⟨_, its, r, o, h1, h2, n, h3⟩ := (show ObjOk P w H h a (.tup vs) from ok a _ e)
  exact ⟨its, o, n, r, h1, h2, h3⟩
mutual
theorem KV1.is : ∀ {k : NestedKey} {v : V} {u : Value}, KV1 H k v → HOk P w H h → RelV v u → NestedIs h k u
  | _, _, _, .non, _, r => by cases (show _ = Value.none from r); exact .none
  | _, _, _, .bl b, _, r => by cases (show _ = Value.bool b from r); exact .bool rfl
  | _, _, _, .int i, _, r => by obtain ⟨t, rfl⟩ := r; exact .int i t
  | _, _, _, .tup (a := a) e ks, ok, r => by
    obtain ⟨its, o, n, rv, h1, h2, h3⟩ := ref_tup ok e
    cases (show _ = Value.ref a from r)
    exact .tup h1 h2 h3 (KVL.is ks ok rv)
theorem KVL.is : ∀ {ks : List NestedKey} {vs : List V} {us : List Value}, KVL H ks vs → HOk P w H h → Vals vs us → NestedAll h ks us
  | _, _, _, .nil, _, r => by cases r; exact .nil
  | _, _, _, .cons k ks, ok, r => by cases r with | cons r rs => exact .cons (KV1.is k ok r) (KVL.is ks ok rs)
end
mutual
theorem KV1.hash : ∀ {k : NestedKey} {v : V}, KV1 H k v → ∀ w w' : World, k.hash w = k.hash w'
  | _, _, .non, w, w' => rfl
  | _, _, .bl b, w, w' => rfl
  | _, _, .int i, w, w' => rfl
  | _, _, .tup _ ks, w, w' => by rw [NestedKey.hash, NestedKey.hash, KVL.hash ks w w']
theorem KVL.hash : ∀ {ks : List NestedKey} {vs : List V}, KVL H ks vs → ∀ w w' : World, NestedKey.hashes w ks = NestedKey.hashes w' ks
  | _, _, .nil, w, w' => rfl
  | _, _, .cons k ks, w, w' => by rw [NestedKey.hashes, NestedKey.hashes, KV1.hash k w w', KVL.hash ks w w']
end
theorem KV1.no_str {k : NestedKey} {v : V} {u : Value} (x : KV1 H k v) (r : RelV v u) : ∀ (z : Str) (t : Tok), u ≠ .str z t := fun z t e => by
  subst e
  cases x with
  | non => cases r
  | bl b => cases r
  | int i => obtain ⟨_, q⟩ := r; cases q
  | tup _ _ => cases r
theorem KV1.at {k : NestedKey} {v : V} {u : Value} (x : KV1 H k v) (hk : k.depth ≤ 8) (ok : HOk P w H h) (r : RelV v u) : KeyAt h k u := ⟨x.is ok r, hk, x.no_str r⟩
end
def NAt (H : Hp) (a : Addr) (xs : List NE) : Prop := H a = some (hN a xs) ∨ (xs = [] ∧ H a = some (.dK []))
def NKeys (H : Hp) (xs : List NE) : Prop := ∀ x ∈ xs, KV1 H x.k x.key ∧ x.k.depth ≤ 8
abbrev ReN (x : NE) (y : En) : Prop := y.1 = x.k ∧ RelV x.key y.2.1 ∧ RelV x.val y.2.2
def NLook (xs : List NE) (k : NestedKey) : Option V := (xs.find? fun x => decide (x.k = k)).map NE.val
def NPut (xs : List NE) (k : NestedKey) (key v : V) : List NE := if (NLook xs k).isSome then xs.map (fun x => if x.k = k then { x with val := v } else x) else xs ++ [⟨k, key, v⟩]
section
variable {H : Hp} {P : Program} {w : World} {h : Heap} {a : Addr} {xs : List NE} {ys : List En}
theorem ens : ∀ {xs : List NE} {es : List DictEntry}, Paired (fun (x : NE) (e : DictEntry) => (∀ w : World, e.hash = x.k.hash w) ∧ RelV x.key e.key ∧ RelV x.val e.val) xs es →
    ∃ ys : List En, Paired ReN xs ys ∧ ∀ w : World, es = ys.map fun y => ⟨y.1.hash w, y.2.1, y.2.2⟩
  | _, _, .nil => ⟨[], .nil, fun _ => rfl⟩
  | _, _, .cons (a := x) (b := e) r t => by
    obtain ⟨ys, h1, h2⟩ := ens t
    exact ⟨(x.k, e.key, e.val) :: ys, .cons ⟨rfl, r.2.1, r.2.2⟩ h1, fun w => by rw [List.map_cons, ← h2 w, ← r.1 w]⟩
theorem ReN.look : ∀ {xs : List NE} {ys : List En} (k : NestedKey), Paired ReN xs ys → RelO (NLook xs k) (PuN.look ys k)
  | _, _, k, .nil => True.intro
  | _, _, k, .cons (a := x) (b := y) r t => by
    have ih := ReN.look k t
    unfold NLook PuN.look at ih ⊢
    by_cases e : x.k = k
    · rw [List.find?_cons_of_pos (by simpa using e), List.find?_cons_of_pos (by simpa [r.1] using e)]
      exact r.2.2
    · rw [List.find?_cons_of_neg (by simpa using e), List.find?_cons_of_neg (by simpa [r.1] using e)]
      exact ih
theorem ReN.keys (r : Paired ReN xs ys) : ys.map (·.1) = xs.map NE.k := by
  induction r with
  | nil => rfl
  | cons r _ ih => rw [List.map_cons, List.map_cons, ih, r.1]
theorem ReN.length (r : Paired ReN xs ys) : ys.length = xs.length := by
  have := congrArg List.length (ReN.keys r)
  simpa using this
theorem ReN.keyed (r : Paired ReN xs ys) (ok : HOk P w H h) (nk : NKeys H xs) (nd : (xs.map NE.k).Nodup) : Keyed h ys := by
  refine ⟨by rw [ReN.keys r]; exact nd, fun y hy => ?_⟩
  have : ∀ {xs : List NE} {ys : List En}, Paired ReN xs ys → ∀ y ∈ ys, ∃ x ∈ xs, ReN x y := by
    intro xs ys r
    induction r with
    | nil => intro y hy; cases hy
    | @cons x y xs ys r t ih =>
      intro z hz
      rcases List.mem_cons.mp hz with e | hz
      · exact ⟨x, List.mem_cons_self, by rw [e]; exact r⟩
      · obtain ⟨x', m, q⟩ := ih z hz
        exact ⟨x', List.mem_cons_of_mem _ m, q⟩
  obtain ⟨x, hx, e1, e2, e3⟩ := this r y hy
  obtain ⟨h1, h2⟩ := nk x hx
  rw [e1]
  exact h1.at h2 ok e2
theorem nat_rd (ok : HOk P w H h) (e : NAt H a xs) : xs.length ≤ sizeLine ∧ (a == sysModules) = false ∧ (xs.map NE.k).Nodup ∧ ∃ ys, Paired ReN xs ys ∧ DictN w h a ys := by
  rcases e with e | ⟨rfl, e⟩
  · obtain ⟨⟨h1, h2, h3, o, es, ep, h4, h5, h6, h7⟩, _, _⟩ := (show ObjOk P w H h a (hN a xs) from ok a _ e)
    obtain ⟨ys, p, l⟩ := ens h7
    exact ⟨h3, h1, h2, ys, p, o, es, ep, h4, h5, h6, l w⟩
  · obtain ⟨h1, h2, vs, rel, o, es, ep, h4, h5, h6, _, h7, _⟩ := dk_of ok e
    cases rel
    refine ⟨Nat.zero_le _, h2, List.nodup_nil, [], .nil, o, es, ep, h4, h5, h6, ?_⟩
    have e0 : es.toList = [] := by generalize es.toList = l at h7; cases h7; rfl
    rw [Lies, e0]
    rfl
theorem NDict.stay {h1 h2 : Heap} (x : NDict a xs h1) (k : ∀ o, h1.get? a = some o → h2.get? a = some o) : NDict a xs h2 := by
  obtain ⟨y1, y2, y3, o, es, ep, y4, y5⟩ := x
  exact ⟨y1, y2, y3, o, es, ep, k o y4, y5⟩
theorem lies_ne : ∀ {xs : List NE} {ys : List En} {es : List DictEntry}, Paired ReN xs ys → (∀ x ∈ xs, ∀ w w' : World, x.k.hash w = x.k.hash w') → es = ys.map (fun y => (⟨y.1.hash w, y.2.1, y.2.2⟩ : DictEntry)) →
    Paired (fun (x : NE) (e : DictEntry) => (∀ w : World, e.hash = x.k.hash w) ∧ RelV x.key e.key ∧ RelV x.val e.val) xs es
  | _, _, _, .nil, _, e => by subst e; exact .nil
  | _, _, _, .cons (a := x) (b := y) r t, hh, e => by
    subst e
    exact .cons ⟨fun w' => by show y.1.hash w = _; rw [r.1]; exact hh x List.mem_cons_self _ _, r.2.1, r.2.2⟩ (lies_ne t (fun z hz => hh z (List.mem_cons_of_mem _ hz)) rfl)
theorem nat_new {H' : Hp} (hd : (a == sysModules) = false) (nd : (xs.map NE.k).Nodup) (hz : xs.length ≤ sizeLine) (r : Paired ReN xs ys) (hh : ∀ x ∈ xs, ∀ w w' : World, x.k.hash w = x.k.hash w') (m : DictN w h a ys) : ObjOk P w H' h a (hN a xs) := by
  obtain ⟨o, es, ep, h4, h5, h6, l⟩ := m
  exact ⟨⟨hd, nd, hz, o, es, ep, h4, h5, h6, lies_ne r hh l⟩, ⟨o, h4⟩, fun h1 h2 x k => x.stay k⟩
theorem ReN.put {k : NestedKey} {key v : V} {ku vu : Value} (r : Paired ReN xs ys) (rk : RelV key ku) (rv : RelV v vu) : Paired ReN (NPut xs k key v) (putE ys k ku vu) := by
  have e : (NLook xs k).isSome = (PuN.look ys k).isSome := by
    have q := ReN.look k r
    revert q
    cases NLook xs k <;> cases PuN.look ys k <;> intro q <;> first | rfl | exact q.elim
  unfold NPut putE
  rw [e]
  split
  · have : ∀ {xs : List NE} {ys : List En}, Paired ReN xs ys → Paired ReN (xs.map (fun x => if x.k = k then { x with val := v } else x)) (ys.map fun x => if x.1 = k then (x.1, x.2.1, vu) else x) := by
      intro xs ys r
      induction r with
      | nil => exact .nil
      | @cons x y xs ys r t ih =>
        rw [List.map_cons, List.map_cons]
        refine .cons ?_ ih
        rw [r.1]
        by_cases z : x.k = k
        · rw [if_pos z, if_pos z]; exact ⟨rfl, r.2.1, rv⟩
        · rw [if_neg z, if_neg z]; exact r
    exact this r
  · have : ∀ {xs : List NE} {ys : List En} {x : NE} {y : En}, Paired ReN xs ys → ReN x y → Paired ReN (xs ++ [x]) (ys ++ [y]) := by
      intro xs ys x y r q
      induction r with
      | nil => exact .cons q .nil
      | cons r _ ih => exact .cons r ih
    exact this r ⟨rfl, rk, rv⟩
theorem nput_len {k : NestedKey} {key v : V} : (NPut xs k key v).length ≤ xs.length + 1 := by unfold NPut; split <;> simp
end
section
variable {X : Cx} {K : PySem.W.Frag} {CT : Nat → Addr} {H : Hp}
def rInN (neg : Bool) : R2 := fun y x H Q => ∃ a xs k, x = .ref a ∧ NAt H a xs ∧ NKeys H xs ∧ KV1 H k y ∧ k.depth ≤ 8 ∧ Q (.bl (xor neg (NLook xs k).isSome)) H
theorem relO_some {o : Option V} {p : Option Value} (r : RelO o p) : o.isSome = p.isSome := by cases o <;> cases p <;> first | rfl | exact r.elim
theorem k_notInN (hu : X.A.units + 64 < cLine) : OpR X (compareOp .NotIn) (rInN true) := by
  intro pins s σ H y x v u Q I ry rx h
  obtain ⟨a, xs, k, rfl, ha, nk, hk, hd, q⟩ := h
  cases (show u = Value.ref a from rx)
  obtain ⟨z, hs, nd, ys, rel, dd⟩ := nat_rd I.hok ha
  refine PuN.at_notIn hu hs dd (ReN.keyed rel I.hok nk nd) (hk.at hd I.hok ry) ⟨.bl _, H, I.tok _, rfl, ?_⟩
  have e := relO_some (ReN.look k rel)
  rw [Bool.true_xor, e] at q
  exact q
def rGetN : R2 := fun x y H Q => ∃ a xs k v, x = .ref a ∧ NAt H a xs ∧ NKeys H xs ∧ KV1 H k y ∧ k.depth ≤ 8 ∧ NLook xs k = some v ∧ Q v H
theorem get_N (hu : X.A.units + 64 < cLine) : PGet X rGetN := by
  intro pins s σ H o i ov iv Q I ro ri h
  obtain ⟨a, xs, k, v, rfl, ha, nk, hk, hd, hv, q⟩ := h
  cases (show ov = Value.ref a from ro)
  obtain ⟨z, hs, nd, ys, rel, dd⟩ := nat_rd I.hok ha
  obtain ⟨w', hw, rw'⟩ := RelO.some_of (by rw [← hv]; exact ReN.look k rel)
  exact PuN.at_item hu dd (ReN.keyed rel I.hok nk nd) (hk.at hd I.hok ri) hw ⟨v, H, I.tok _, rw', q⟩
theorem k_ixN (hu : X.A.units + 64 < cLine) : IxR X rGetN := by
  intro value slice pins s σ H x y v u Q I rx ry h hs
  have g := get_N hu pins s σ H x y v u Q I rx ry h
  obtain ⟨a, xs, k, z, rfl, ha, nk, hk, hd, hv, q⟩ := h
  obtain rfl : v = Value.ref a := rx
  obtain ⟨_, _, _, ys, _, dd⟩ := nat_rd I.hok ha
  exact tail_any dd.typeIs PySem.F.slot_dict_getitem.lookup g hs
def NPutAt (H : Hp) (a : Addr) (i v : V) (Q : Hp → Prop) : Prop := ∃ xs k, NAt H a xs ∧ NKeys H xs ∧ KV1 H k i ∧ k.depth ≤ 8 ∧ xs.length < sizeLine ∧ Q (upd H a (hN a (NPut xs k i v)))
def rSetN : V → V → V → Hp → (Hp → Prop) → Prop := fun o i v H Q => ∃ a, o = .ref a ∧ NPutAt H a i v Q
theorem nat_mut {a : Addr} {xs : List NE} (h : NAt H a xs) : Mut (H a) := by
  rcases h with h | ⟨_, h⟩ <;> rw [h] <;> exact True.intro
theorem nput_keys {xs : List NE} {k : NestedKey} {key v : V} (nk : NKeys H xs) (hk : KV1 H k key) (hd : k.depth ≤ 8) : NKeys H (NPut xs k key v) := by
  unfold NPut
  split
  · intro x hx
    obtain ⟨y, hy, e⟩ := List.mem_map.mp hx
    have e : (if y.k = k then { y with val := v } else y) = x := e
    have := nk y hy
    subst e
    split <;> exact this
  · intro x hx
    rcases List.mem_append.mp hx with hx | hx
    · exact nk x hx
    · rw [List.mem_singleton.mp hx]; exact ⟨hk, hd⟩
theorem laidN {pins : List (Addr × Obj)} {σ : L2.St} {s : Shared} {a : Addr} {xs : List NE} {ys : List En} {k : NestedKey} {key v : V} {ku vu : Value} {h' : Heap} {tk : Nat} (I : Inv X pins σ H s) (ha : NAt H a xs) (nk : NKeys H xs) (hk : KV1 H k key) (hd : k.depth ≤ 8) (hl : xs.length < sizeLine) (hs : (a == sysModules) = false) (nd : (xs.map NE.k).Nodup) (rel : Paired ReN xs ys)
    (rk : RelV key ku) (rv : RelV v vu) (m : DictN X.w h' a (putE ys k ku vu)) (sb : Heap.SameBut a s.heap h') : Inv X pins σ (upd H a (hN a (NPut xs k key v))) { s with heap := h', toks := tk } := by
  have rel2 := ReN.put (k := k) rel rk rv
  have kd := (ReN.keyed rel I.hok nk nd).put (v := vu) (hk.at hd I.hok rk)
  have he : ∃ q, h'.get? a = some q := let ⟨q, _, _, hq, _⟩ := m; ⟨q, hq⟩
  have nk2 := nput_keys (v := v) nk hk hd
  exact d_write I (nat_mut ha) sb he (nat_new hs (by rw [← ReN.keys rel2]; exact kd.1) (by have := nput_len (xs := xs) (k := k) (key := key) (v := v); omega) rel2 (fun x hx => (nk2 x hx).1.hash) m)
theorem set_N (hu : X.A.units + 64 < cLine) : PSet X rSetN := by
  intro pins s σ H o i v ov iv u Q I ro ri rv h
  obtain ⟨a, rfl, xs, k, ha, nk, hk, hd, hl, q⟩ := h
  cases (show ov = Value.ref a from ro)
  obtain ⟨z, hs, nd, ys, rel, dd⟩ := nat_rd I.hok ha
  exact PuN.at_store hu dd (ReN.keyed rel I.hok nk nd) (hk.at hd I.hok ri) (by rw [ReN.length rel]; exact z) fun h' m sb => ⟨_, laidN I ha nk hk hd hl hs nd rel ri rv m sb, q⟩
end
end Pu
set_option Elab.async false
set_option linter.all false
set_option maxRecDepth 100000
namespace Pu
open PySem PySem.Spec PyProof.Rows L2
def D.nv : D → Option (List (D × D))
  | .dN kvs => some kvs
  | .dK [] => some []
  | _ => none
def lookN (kds : List (D × D)) (k : NestedKey) : Option D := (kds.find? fun kd => decide (kd.1.nk = some k)).map (·.2)
def putN (kds : List (D × D)) (k : NestedKey) (key x : D) : List (D × D) := if (lookN kds k).isSome then kds.map (fun p => if p.1.nk = some k then (p.1, x) else p) else kds ++ [(key, x)]
section
variable {C : Cfg} {Γ Γ' Γn Γl Γo Γt Γe Γ1 Γ2 Γf Γu Γt1 : List Mo} {σ σ' : L2.St} {H H' H1 H2 : Hp} {env env' : PEnv} {Fs Fs' Fs1 Fs2 : Nat → List Addr} {v : V} {vs : List V} {d : D} {ds : List D} {F G : List Addr} {ta tb te tk tv : TE} {A B : Kd} {m n : X1} {K : PySem.W.Frag} {CT : Nat → Addr} {xs : List NE} {kds : List (D × D)}
structure NRp (CT : Nat → Addr) (H : Hp) (xs : List NE) (kds : List (D × D)) (F : List Addr) : Prop where
  ks : xs.map (fun x => some x.k) = kds.map (fun kd => D.nk kd.1)
  dp : ∀ x ∈ xs, x.k.depth ≤ 8
  kr : Rps CT H (xs.map NE.key) (kds.map (·.1)) []
  vr : Rps CT H (xs.map NE.val) (kds.map (·.2)) F
theorem NRp.nil : NRp CT H [] [] [] := ⟨rfl, (fun _ h => nomatch h), .nil, .nil⟩
theorem NRp.length (r : NRp CT H xs kds F) : xs.length = kds.length := by have := congrArg List.length r.ks; simpa using this
theorem nv_at (r : Rp CT H v d F) (h : d.nv = some kds) : ∃ a xs F0, v = .ref a ∧ F = a :: F0 ∧ NAt H a xs ∧ NRp CT H xs kds F0 := by
  cases r with
  | dN e k z r1 r2 => cases h; exact ⟨_, _, _, rfl, rfl, .inl e, k, z, r1, r2⟩
  | @dK a kvs kx F0 e k r1 =>
    cases kx with
    | nil =>
      cases h
      have e0 : kvs = [] := List.map_eq_nil_iff.mp k
      subst e0
      cases r1
      exact ⟨a, [], [], rfl, rfl, .inr ⟨rfl, e⟩, NRp.nil⟩
    | cons p t => cases h
  | _ => cases h
theorem NRp.keys : ∀ {xs : List NE} {kds : List (D × D)} {F : List Addr}, NRp CT H xs kds F → NKeys H xs
  | [], [], _, _, x, hx => nomatch hx
  | [], _ :: _, _, r, _, _ => by have := r.length; simp at this
  | _ :: _, [], _, r, _, _ => by have := r.length; simp at this
  | y :: xs, kd :: kds, F, ⟨ks, dp, kr, vr⟩, x, hx => by
    simp only [List.map_cons, List.cons.injEq] at ks
    rw [List.map_cons, List.map_cons] at kr vr
    generalize eF : ([] : List Addr) = F0 at kr
    cases kr with
    | @cons _ _ F1 F2 _ _ k1 kr =>
      obtain ⟨rfl, rfl⟩ := List.append_eq_nil_iff.mp eF.symm
      cases vr with
      | cons v1 vr =>
        rcases List.mem_cons.mp hx with e | hx
        · subst e; exact ⟨k1.kv ks.1.symm, dp _ List.mem_cons_self⟩
        · exact NRp.keys ⟨ks.2, fun z hz => dp z (List.mem_cons_of_mem _ hz), kr, vr⟩ x hx
theorem NRp.look (k : NestedKey) : ∀ {xs : List NE} {kds : List (D × D)} {F : List Addr}, NRp CT H xs kds F →
    (NLook xs k = none ∧ lookN kds k = none) ∨ ∃ z x P, NLook xs k = some z ∧ lookN kds k = some x ∧ Rp CT H z x P ∧ P.Sublist F
  | [], [], _, _ => .inl ⟨rfl, rfl⟩
  | [], _ :: _, _, r => by have := r.length; simp at this
  | _ :: _, [], _, r => by have := r.length; simp at this
  | y :: xs, kd :: kds, F, ⟨ks, dp, kr, vr⟩ => by
    simp only [List.map_cons, List.cons.injEq] at ks
    rw [List.map_cons, List.map_cons] at kr vr
    generalize eF : ([] : List Addr) = F0 at kr
    cases kr with
    | @cons _ _ F1 F2 _ _ k1 kr =>
      obtain ⟨rfl, rfl⟩ := List.append_eq_nil_iff.mp eF.symm
      cases vr with
      | @cons _ _ G1 G2 _ _ v1 vr =>
        unfold NLook lookN
        by_cases e : y.k = k
        · rw [List.find?_cons_of_pos (by simpa using e), List.find?_cons_of_pos (by rw [← ks.1]; simpa using e)]
          exact .inr ⟨_, _, G1, rfl, rfl, v1, List.sublist_append_left _ _⟩
        · rw [List.find?_cons_of_neg (by simpa using e), List.find?_cons_of_neg (by rw [← ks.1]; simpa using e)]
          rcases NRp.look k ⟨ks.2, fun z hz => dp z (List.mem_cons_of_mem _ hz), kr, vr⟩ with h | ⟨z, x, P, h1, h2, h3, h4⟩
          · exact .inl h
          · exact .inr ⟨z, x, P, h1, h2, h3, h4.trans (List.sublist_append_right _ _)⟩
theorem NRp.isSome (k : NestedKey) (r : NRp CT H xs kds F) : (NLook xs k).isSome = (lookN kds k).isSome := by
  rcases r.look k with ⟨h1, h2⟩ | ⟨z, x, P, h1, h2, _⟩ <;> rw [h1, h2] <;> rfl
theorem NRp.keep {W : Addr → Prop} (r : NRp CT H xs kds F) (f : Fr W H H') (n : ∀ a ∈ F, ¬ W a) : NRp CT H' xs kds F := ⟨r.ks, r.dp, r.kr.keep f (fun _ m => nomatch m), r.vr.keep f n⟩
def oInN (neg : Bool) : O2 := fun d e Q => match e.nv, d.nk with
  | some kds, some k => k.depth ≤ 8 ∧ Q (.bl (xor neg (lookN kds k).isSome))
  | _, _ => False
theorem mono_oInN {neg : Bool} : Mono2 (oInN neg) := fun d e Q Q' h q => by
  revert q
  unfold oInN
  cases e.nv <;> cases d.nk <;> first | exact fun z => z | exact fun q => ⟨q.1, h _ q.2⟩
instance {neg : Bool} : MO2 (oInN neg) := ⟨mono_oInN⟩
theorem so_inN {neg : Bool} : SimO2 CT (rInN neg) (oInN neg) := ⟨fun H v w d e F G Q a b q => by
  unfold oInN at q
  cases e1 : e.nv with
  | none => rw [e1] at q; exact q.elim
  | some kds =>
    cases e2 : d.nk with
    | none => rw [e1, e2] at q; exact q.elim
    | some k =>
      rw [e1, e2] at q
      obtain ⟨p, xs, F0, rfl, rfl, ha, r⟩ := nv_at b e1
      refine ⟨p, xs, k, rfl, ha, r.keys, a.kv e2, q.1, ?_⟩
      rw [r.isSome k]
      exact New.imm (CT := CT) q.2 (.bl _), mono_oInN⟩
def oIxN : O2 := fun d e Q => match d.nv, e.nk with
  | some kds, some k => k.depth ≤ 8 ∧ (match lookN kds k with | some x => Q x | none => False)
  | _, _ => False
theorem mono_oIxN : Mono2 oIxN := fun d e Q Q' h q => by
  revert q
  unfold oIxN
  cases d.nv with
  | none => exact fun z => z
  | some kds =>
    cases e.nk with
    | none => exact fun z => z
    | some k =>
      intro q
      refine ⟨q.1, ?_⟩
      have q := q.2
      cases z : lookN kds k with
      | none => rw [z] at q; exact q
      | some x => rw [z] at q; exact h _ q
instance : MO2 oIxN := ⟨mono_oIxN⟩
theorem so_ixN : SimPart CT rGetN oIxN := ⟨fun H v w d e F G Q a b q => by
  unfold oIxN at q
  cases e1 : d.nv with
  | none => rw [e1] at q; exact q.elim
  | some kds =>
    cases e2 : e.nk with
    | none => rw [e1, e2] at q; exact q.elim
    | some k =>
      rw [e1, e2] at q
      obtain ⟨p, xs, F0, rfl, rfl, ha, r⟩ := nv_at a e1
      rcases r.look k with ⟨h1, h2⟩ | ⟨z, x, P, h1, h2, h3, h4⟩
      · have := q.2; rw [h2] at this; exact this.elim
      · have q2 := q.2
        rw [h2] at q2
        exact ⟨p, xs, k, z, rfl, ha, r.keys, b.kv e2, q.1, h1, q2 z P h3 (h4.trans (List.sublist_cons_self _ _))⟩, mono_oIxN⟩
def setDN (d e x : D) (Q : D → Prop) : Prop := match d.nv, e.nk with
  | some kds, some k => (k.depth ≤ 8 ∧ kds.length < sizeLine ∧ (kds.map fun p => p.1.nk).Nodup) ∧ Q (.dN (putN kds k e x))
  | _, _ => False
theorem mono_setDN {d e x : D} {Q Q' : D → Prop} (h : ∀ y, Q y → Q' y) (q : setDN d e x Q) : setDN d e x Q' := by
  revert q
  unfold setDN
  cases d.nv <;> cases e.nk <;> first | exact fun z => z | exact fun q => ⟨q.1, h _ q.2⟩
theorem nput_map {k : NestedKey} {y : V} {x : D} (rx : Rp CT H y x G) : ∀ {xs : List NE} {kds : List (D × D)} {F : List Addr}, NRp CT H xs kds F → (xs.map NE.k).Nodup →
    ∃ F', NRp CT H (xs.map (fun z => if z.k = k then { z with val := y } else z)) (kds.map (fun p => if p.1.nk = some k then (p.1, x) else p)) F' ∧ (∀ b ∈ F', b ∈ F ∨ b ∈ G) ∧ ((F ++ G).Nodup → F'.Nodup)
  | [], [], _, r, _ => by cases r.vr; exact ⟨[], NRp.nil, (fun b h => nomatch h), fun _ => List.nodup_nil⟩
  | [], _ :: _, _, r, _ => by have := r.length; simp at this
  | _ :: _, [], _, r, _ => by have := r.length; simp at this
  | z :: xs, kd :: kds, F, ⟨ks, dp, kr, vr⟩, nd => by
    simp only [List.map_cons, List.cons.injEq, List.nodup_cons] at ks nd
    rw [List.map_cons, List.map_cons] at kr vr
    generalize eF : ([] : List Addr) = F0 at kr
    cases kr with
    | @cons _ _ F1 F2 _ _ k1 kr =>
      obtain ⟨rfl, rfl⟩ := List.append_eq_nil_iff.mp eF.symm
      cases vr with
      | @cons _ _ G1 G2 _ _ v1 vr =>
        have r0 : NRp CT H xs kds G2 := ⟨ks.2, fun z hz => dp z (List.mem_cons_of_mem _ hz), kr, vr⟩
        obtain ⟨F', h1, h2, h3⟩ := nput_map rx r0 nd.2
        rw [List.map_cons, List.map_cons]
        by_cases e : z.k = k
        · have hno : ∀ q ∈ xs, ¬ q.k = k := fun q hq z2 => nd.1 (by rw [e, ← z2]; exact List.mem_map.mpr ⟨q, hq, rfl⟩)
          have m1 : xs.map (fun z => if z.k = k then { z with val := y } else z) = xs := by
            conv => rhs; rw [← List.map_id xs]
            exact List.map_congr_left fun q hq => by rw [if_neg (hno q hq)] <;> rfl
          have hno2 : ∀ q ∈ kds, ¬ q.1.nk = some k := fun q hq z2 => by
            have : some k ∈ kds.map (fun kd => D.nk kd.1) := List.mem_map.mpr ⟨q, hq, z2⟩
            rw [← ks.2] at this
            obtain ⟨q2, hq2, e2⟩ := List.mem_map.mp this
            exact hno q2 hq2 (Option.some.inj e2)
          have m2 : kds.map (fun p => if p.1.nk = some k then (p.1, x) else p) = kds := by
            conv => rhs; rw [← List.map_id kds]
            exact List.map_congr_left fun q hq => by rw [if_neg (hno2 q hq)] <;> rfl
          rw [m1, m2, if_pos e, if_pos (by rw [← ks.1, e])]
          refine ⟨G ++ G2, ⟨by simp only [List.map_cons]; rw [ks.1, ks.2], fun q hq => ?_, .cons (F := []) k1 kr, .cons rx vr⟩, fun b h => (List.mem_append.mp h).elim .inr fun h => .inl (List.mem_append_right _ h), fun n => ?_⟩
          · rcases List.mem_cons.mp hq with e3 | hq
            · subst e3; exact dp z List.mem_cons_self
            · exact dp q (List.mem_cons_of_mem _ hq)
          · rw [List.append_assoc] at n
            exact (List.perm_append_comm.nodup_iff).mp (List.nodup_append.mp n).2.1
        · rw [if_neg e, if_neg (by rw [← ks.1]; exact fun z2 => e (Option.some.inj z2))]
          refine ⟨G1 ++ F', ⟨by simp only [List.map_cons]; rw [ks.1]; exact congrArg _ h1.ks, fun q hq => ?_, .cons (F := []) k1 h1.kr, .cons v1 h1.vr⟩, fun b h => ?_, fun n => ?_⟩
          · rcases List.mem_cons.mp hq with e3 | hq
            · subst e3; exact dp _ List.mem_cons_self
            · exact h1.dp q hq
          · rcases List.mem_append.mp h with h | h
            · exact .inl (List.mem_append_left _ h)
            · exact (h2 b h).imp (List.mem_append_right _) id
          · rw [List.append_assoc] at n
            obtain ⟨n1, n2, n3⟩ := List.nodup_append.mp n
            exact List.nodup_append.mpr ⟨n1, h3 n2, fun x hx y hy e => n3 x hx y (List.mem_append.mpr (h2 y hy)) e⟩
theorem nput_rps {k : NestedKey} {w y : V} {e x : D} {P : List Addr} (r : NRp CT H xs kds F) (nd : (xs.map NE.k).Nodup) (re : Rp CT H w e P) (ek : e.nk = some k) (hk : k.depth ≤ 8) (rx : Rp CT H y x G) :
    ∃ F', NRp CT H (NPut xs k w y) (putN kds k e x) F' ∧ (∀ b ∈ F', b ∈ F ∨ b ∈ G) ∧ ((F ++ G).Nodup → F'.Nodup) := by
  unfold NPut putN
  rw [r.isSome k]
  split
  · exact nput_map rx r nd
  · obtain rfl := re.imm (nk_imm ek)
    refine ⟨F ++ (G ++ []), ⟨by rw [List.map_append, List.map_append, r.ks]; simp [ek], fun z hz => ?_, ?_, ?_⟩, fun b h => ?_, fun n => ?_⟩
    · rcases List.mem_append.mp hz with hz | hz
      · exact r.dp z hz
      · rw [List.mem_singleton.mp hz]; exact hk
    · rw [List.map_append, List.map_append]
      exact r.kr.append (.cons (F := []) (G := []) re .nil)
    · rw [List.map_append, List.map_append]
      exact r.vr.append (.cons rx .nil)
    · rw [List.append_nil] at h; exact List.mem_append.mp h
    · rw [List.append_nil]; exact n
end
end Pu
set_option Elab.async false
set_option linter.all false
set_option maxRecDepth 100000
namespace Pu
open PySem PySem.Spec PyProof.Rows L2
section
variable {C : Cfg} {Γ Γ' Γn Γl Γo Γt Γe Γ1 Γ2 Γf Γu Γt1 : List Mo} {σ σ' : L2.St} {H H' H1 H2 : Hp} {env env' : PEnv} {Fs Fs' Fs1 Fs2 : Nat → List Addr} {v : V} {vs : List V} {d : D} {ds : List D} {F G : List Addr} {ta tb te tk tv : TE} {A B : Kd} {m n : X1} {K : PySem.W.Frag} {CT : Nat → Addr} {kds : List (D × D)}
theorem nodup_some {xs : List NE} (e : xs.map (fun x => some x.k) = kds.map (fun kd => D.nk kd.1)) (nd : (kds.map fun p => p.1.nk).Nodup) : (xs.map NE.k).Nodup := by
  rw [← e] at nd
  have : xs.map (fun x => some x.k) = (xs.map NE.k).map some := by rw [List.map_map]; rfl
  rw [this] at nd
  exact (List.pairwise_map.mp nd).imp fun h e => h (by rw [e])
theorem nat_some {a : Addr} {xs : List NE} (h : NAt H a xs) : ∃ o, H a = some o ∧ Im o = false := by
  rcases h with h | ⟨_, h⟩
  · exact ⟨_, h, rfl⟩
  · exact ⟨_, h, rfl⟩
theorem set_runN {e x : D} {w y : V} {P : List Addr} {k : D → Prop} {Qh : Hp → Prop} (r : Rp CT H v d F) (re : Rp CT H w e P) (rx : Rp CT H y x G) (ndF : F.Nodup) (dj : ∀ b ∈ G, b ∉ F) (ndG : G.Nodup) (q : setDN d e x k)
    (fin : ∀ (a : Addr) (o u : HO) (d' : D) (F0 F' : List Addr), v = .ref a → H a = some o → Im o = false → F = a :: F0 → Rp CT (L2.upd H a u) (.ref a) d' (a :: F') → F'.Nodup → a ∉ F' → (∀ b ∈ F', b ∈ F0 ∨ b ∈ G) → k d' → Qh (L2.upd H a u)) : rSetN v w y H Qh := by
  unfold setDN at q
  cases e1 : d.nv with
  | none => rw [e1] at q; exact q.elim
  | some kds =>
    cases e2 : e.nk with
    | none => rw [e1, e2] at q; exact q.elim
    | some kk =>
      rw [e1, e2] at q
      obtain ⟨⟨hd, hl, nd⟩, q⟩ := q
      obtain ⟨p, xs, F0, rfl, rfl, ha, rr⟩ := nv_at r e1
      have n1 := List.nodup_cons.mp ndF
      have n2 : (F0 ++ G).Nodup := List.nodup_append.mpr ⟨n1.2, ndG, fun b hb c hc z => dj c hc (List.mem_cons_of_mem _ (z ▸ hb))⟩
      obtain ⟨F', h1, h2, h3⟩ := nput_rps (k := kk) (w := w) rr (nodup_some rr.ks nd) re e2 hd rx
      have nF : p ∉ F' := fun z => (h2 _ z).elim n1.1 fun z => dj p z List.mem_cons_self
      obtain ⟨o, ho, hi⟩ := nat_some ha
      have h1' := h1.keep (W := fun a => a = p) (Fr.at (o := hN p (NPut xs kk w y)) rfl ho hi) fun a ha e => nF (e ▸ ha)
      exact ⟨p, rfl, xs, kk, ha, rr.keys, re.kv e2, hd, by rw [rr.length]; exact hl, fin p o _ _ F0 F' rfl ho hi rfl (.dN upd_same h1'.ks h1'.dp h1'.kr h1'.vr) (h3 n2) nF h2 q⟩
def sPutN (i : Nat) (me mv : X1) : XS := fun E env => mv env fun x => xVar i env fun d => me env fun e => setDN d e x fun d' => E.nx (env.set i (some d'))
theorem sim_putN {i : Nat} {B : Kd} {mv : X1} (g : Γ[i]? = some .o) (sv : Sim C Γ te .own mv) (s : Sim C Γ tb B n) : SimS C Γl Γ Γ (tAsg te (gSub (tVar i) tb rSetN)) (sPutN i n mv) :=
  ⟨fun σ H env Fs D E I lk hh => sv.run σ H env Fs _ I (sv.mono env _ _ (fun x q y H1 G f dk rx kx => by
    have I1 := I.step f dk
    obtain ⟨v, d, h1, h2, h3⟩ := I1.val i _ g (.inl rfl)
    have q : xVar i env _ := q
    unfold xVar at q
    rw [h2] at q
    refine ⟨v, h1, s.run σ H1 env Fs _ I1 (s.mono env _ _ (fun e q w H2 P f2 dk2 re ke => ?_) q)⟩
    have f12 := f.trans f2
    have I2 := I1.step f2 dk2
    obtain ⟨v', d', h1', h2', h3'⟩ := I2.val i _ g (.inl rfl)
    rw [h1] at h1'; cases h1'
    rw [h2] at h2'; cases h2'
    refine set_runN h3' re (rx.keep f2 kx.1.wq) (I.nd i g) (fun b hb z => I.tracked g (.inl rfl) b z (kx.2.2 b hb)) kx.2.1 q fun a o u d' F0 F' ev ha hi eF r nd na sub q => ?_
    subst ev
    exact lk.root I f12 dk2 g (G := G) h1 ha hi eF r nd na (fun b hb => (sub b hb).imp id fun z => kx.2.2 b z) q) hh),
   fun E E' env p q => sv.mono env _ _ (fun x q => mono_var env _ _ (fun d q => s.mono env _ _ (fun e q => mono_setDN (fun y q => p.1 _ q) q) q) q) q⟩
instance {i : Nat} {m n : X1} [h : MX m] [h' : MX n] : MS (sPutN i m n) := ⟨fun p q => h'.mono _ _ _ (fun x q => mono_var _ _ _ (fun d q => h.mono _ _ _ (fun e q => mono_setDN (fun y q => p.1 _ q) q) q) q) q⟩
abbrev DRestN := PEnv → List (D × D) → (List (D × D) → Prop) → Prop
def MonoRN (r : DRestN) : Prop := ∀ env acc Q Q', (∀ x, Q x → Q' x) → r env acc Q → r env acc Q'
class MRN (r : DRestN) : Prop where
  mono : MonoRN r
def DAtN (C : Cfg) (H1 : Hp) (Dl : Addr) (H : Hp) (acc : List (D × D)) : Prop := ∃ xs F, NAt H Dl xs ∧ (acc = [] → H Dl = some (.dK [])) ∧ NRp C.CT H xs acc F ∧ Fr (Wq C) H1 H ∧ DiceOk C H ∧ F.Nodup ∧ ∀ a ∈ F, H1 a = none ∧ a ≠ Dl
theorem NAt.keep {W : Addr → Prop} {a : Addr} {xs : List NE} (h : NAt H a xs) (f : Fr W H H') (n : ¬ W a) : NAt H' a xs := h.imp (fun h => f.keep _ _ h n) fun ⟨e, h⟩ => ⟨e, f.keep _ _ h n⟩
theorem DAtN.keep {Dl : Addr} {acc : List (D × D)} (da : DAtN C H1 Dl H acc) (dk : DiceOk C H1) (hD : H1 Dl = none) (f : Fr (Wq C) H H') (dk' : DiceOk C H') : DAtN C H1 Dl H' acc := by
  obtain ⟨xs, F, e, e0, r, fr, _, nd, new⟩ := da
  have nqF : ∀ a ∈ F, ¬ Wq C a := (NoQ.new dk fun a ha => (new a ha).1).wq
  exact ⟨xs, F, e.keep f fun w => wq_there dk w hD, fun z => f.keep _ _ (e0 z) fun w => wq_there dk w hD, r.keep f nqF, fr.trans f, dk', nd, new⟩
structure SimRestN (C : Cfg) (Γ : List Mo) (t : Addr → Rest) (r : DRestN) : Prop where
  run : ∀ (σ : L2.St) (H : Hp) (env : PEnv) (Fs : Nat → List Addr) (H1 : Hp) (Dl : Addr) (acc : List (D × D)) (Nx : Hp → Prop), DiceOk C H1 → H1 Dl = none → Ok C Γ σ H env Fs → DAtN C H1 Dl H acc →
    r env acc (fun acc1 => ∀ H', DAtN C H1 Dl H' acc1 → Fr (fun x => Wq C x ∨ x = Dl) H H' → Nx H') → t Dl σ H Nx
  mono : MonoRN r
end
end Pu
set_option Elab.async false
set_option linter.all false
set_option maxRecDepth 100000
namespace Pu
open PySem PySem.Spec PyProof.Rows L2
section
variable {C : Cfg} {Γ Γ' Γl : List Mo} {σ : L2.St} {H : Hp} {env : PEnv} {Fs : Nat → List Addr}
end
end Pu
set_option Elab.async false
set_option linter.all false
set_option maxRecDepth 100000
set_option synthInstance.maxHeartbeats 0
set_option synthInstance.maxSize 100000
namespace Pu
open PySem PySem.Spec PyProof.Rows L2
end Pu
set_option Elab.async false
set_option linter.all false
set_option maxRecDepth 100000
set_option synthInstance.maxHeartbeats 0
set_option synthInstance.maxSize 100000
namespace Pu
open PySem PySem.Spec PyProof.Rows L2
end Pu
set_option Elab.async false
set_option linter.all false
set_option maxRecDepth 100000
set_option synthInstance.maxHeartbeats 0
set_option synthInstance.maxSize 100000
namespace Pu
open PySem PySem.Spec PyProof.Rows L2
end Pu
set_option Elab.async false
set_option linter.all false
set_option maxRecDepth 100000
namespace Pu
open PySem PySem.Spec PyProof.Rows L2
section
variable {C : Cfg} {Γ Γ1 : List Mo} {K : PySem.W.Frag}
end
end Pu
set_option Elab.async false
set_option linter.all false
set_option maxRecDepth 100000
set_option synthInstance.maxHeartbeats 0
set_option synthInstance.maxSize 100000
namespace Pu
open PySem PySem.Spec PyProof.Rows L2
end Pu
set_option Elab.async false
set_option linter.all false
set_option maxRecDepth 100000
set_option synthInstance.maxHeartbeats 0
set_option synthInstance.maxSize 100000
namespace Pu
open PySem PySem.Spec PyProof.Rows L2
end Pu
set_option Elab.async false
set_option linter.all false
set_option maxRecDepth 100000
namespace Pu
open PySem PySem.Spec PyProof.Rows L2
section
variable {X : Cx}
end
section
variable {C : Cfg} {Γ : List Mo} {K : PySem.W.Frag} {te : TE} {A : Kd} {m : X1}
end
end Pu
set_option Elab.async false
set_option linter.all false
set_option maxRecDepth 100000
set_option synthInstance.maxHeartbeats 0
set_option synthInstance.maxSize 100000
namespace Pu
open PySem PySem.Spec PyProof.Rows L2
end Pu
set_option Elab.async false
set_option linter.all false
set_option maxRecDepth 100000
set_option synthInstance.maxHeartbeats 0
set_option synthInstance.maxSize 100000
namespace Pu
open PySem PySem.Spec PyProof.Rows L2
end Pu
set_option Elab.async false
set_option linter.all false
set_option maxRecDepth 100000
namespace Pu
open PySem PySem.Spec PyProof.Rows L2
section
end
end Pu
set_option Elab.async false
set_option linter.all false
set_option maxRecDepth 100000
namespace Pu
open PySem PySem.Spec PyProof.Rows L2
section
variable {X : Cx} {pins : List (Addr × Obj)} {σ : L2.St} {H : Hp} {s : Shared}
end
section
variable {C : Cfg} {Γ Γl : List Mo} {σ : L2.St} {H : Hp} {env : PEnv} {Fs : Nat → List Addr} {v : V} {vs : List V} {d : D} {ds : List D} {F G : List Addr} {te : TE} {A : Kd} {m : X1} {K : PySem.W.Frag} {CT : Nat → Addr}
end
end Pu
set_option Elab.async false
set_option linter.all false
set_option maxRecDepth 100000
set_option synthInstance.maxHeartbeats 0
set_option synthInstance.maxSize 100000
namespace Pu
open PySem PySem.Spec PyProof.Rows L2
end Pu
set_option Elab.async false
set_option linter.all false
set_option maxRecDepth 100000
namespace Pu
open PySem PySem.Spec PyProof.Rows L2
section
variable {C : Cfg} {Γ : List Mo} {te : TE} {m : X1} {K : PySem.W.Frag}
def xIdx (i : Nat) (m : X1) : X1 := fun env Q => xVar i env fun d => onL d fun xs => m env fun e => Sh (.lst xs) ∧ Sh e ∧ ∃ (j : Nat) (z : D), xs[j]? = some z ∧ D.eqb z e = true ∧ (∀ (k : Nat) (z' : D), k < j → xs[k]? = some z' → D.eqb z' e = false) ∧ Q (.int (j : Nat))
theorem pyL_get : ∀ {xs : List D} {j : Nat}, (pyL xs)[j]? = (xs[j]?).map D.py
  | [], j => by simp [pyL]
  | x :: xs, 0 => by simp [pyL]
  | x :: xs, j + 1 => by
    rw [pyL, List.getElem?_cons_succ, List.getElem?_cons_succ]
    exact pyL_get
theorem mono_idx {i : Nat} (h : Mono m) : Mono (xIdx i m) := fun env Q Q' k q => mono_var _ _ _ (fun d q => onL_mono (fun xs q => h _ _ _ (fun e ⟨h1, h2, j, z, h3, h4, h5, q⟩ => ⟨h1, h2, j, z, h3, h4, h5, k _ q⟩) q) q) q
instance {i : Nat} [h : MX m] : MX (xIdx i m) := ⟨mono_idx h.mono⟩
end
end Pu
set_option Elab.async false
set_option linter.all false
set_option maxRecDepth 100000
namespace Pu
open PySem PySem.Spec PyProof.Rows L2
section
variable {C : Cfg} {Γ Γf Γt : List Mo} {A B : Kd} {te : TE} {K : PySem.W.Frag} {CT : Nat → Addr}
end
end Pu
set_option Elab.async false
set_option linter.all false
set_option maxRecDepth 100000
set_option synthInstance.maxHeartbeats 0
set_option synthInstance.maxSize 100000
namespace Pu
open PySem PySem.Spec PyProof.Rows L2
def b_is_telling : XS := sSeq (sIf (bOr (bNot (bTest (x1 (oIsA "tuple") (xVar 0)))) (bNot (bTest (xChain (oI fun i j => .bl (decide (i ≤ j))) (oI fun i j => .bl (decide (i ≤ j))) (xC (.int 1)) (x1 oLenA (xVar 0)) (xC (.int 12)))))) (sRet (xC (.bl false))) sNext) (sRet (x1 (oAny true) (xLc (mSeq (xVar 0)) (bName 1) bYes (xCall m_is_below (xCons (xVar 1) (xCons (x2 oAdd (xC (.int 9)) (xC (.int 1))) xNil))))))
def m_is_telling : XF := fnM 2 b_is_telling
theorem mo_is_telling : MonoF m_is_telling := monoF_fn (by unfold b_is_telling; exact MS.all)
instance : MF m_is_telling := ⟨mo_is_telling⟩
def b_are_standings : XS := sSeq (sIf (bOr (bNot (bTest (x1 (oIsA "tuple") (xVar 0)))) (bTest (x2 oNe (x1 oLenA (xVar 0)) (xVar 1)))) (sRet (xC (.bl false))) sNext) (sRet (x1 (oAny true) (xLc (mSeq (xVar 0)) (bName 3) bYes (xCall m_is_below (xCons (xVar 3) (xCons (xVar 2) xNil))))))
def m_are_standings : XF := fnM 4 b_are_standings
theorem mo_are_standings : MonoF m_are_standings := monoF_fn (by unfold b_are_standings; exact MS.all)
instance : MF m_are_standings := ⟨mo_are_standings⟩
def b_are_steps : XS := sSeq (sIf (bOr (bNot (bTest (x1 (oIsA "tuple") (xVar 2)))) (bTest (x2 oNe (x1 oLenA (xVar 2)) (xVar 1)))) (sRet (xC (.bl false))) sNext) (sRet (x1 (oAny true) (xLc (mSeq (xVar 2)) (bName 3) bYes (xCall m_are_standings (xCons (xVar 3) (xCons (x1 oLenA (x1 (atF 3 "works") (xVar 0))) (xCons (xVar 1) xNil)))))))
def m_are_steps : XF := fnM 4 b_are_steps
theorem mo_are_steps : MonoF m_are_steps := monoF_fn (by unfold b_are_steps; exact MS.all)
instance : MF m_are_steps := ⟨mo_are_steps⟩
def b_Book_init : XS := sSeq (sIf (bNot (bTest (xCall m_is_telling (xCons (xVar 2) xNil)))) sNever sNext) (sSeq (sIf (bNot (bTest (xCall m_are_steps (xCons (xVar 1) (xCons (x1 oLenA (xVar 2)) (xCons (xVar 3) xNil)))))) sNever sNext) (sSeq (sSetF 0 4 "office" (xImm (xVar 1))) (sSeq (sSetF 0 4 "telling" (xImm (xVar 2))) (sSetF 0 4 "steps" (xImm (xVar 3))))))
def i_Book : XI := fnI0 3 4 4 b_Book_init
theorem mo_Book_init : MonoI i_Book := monoI_fn0 (by unfold b_Book_init; exact MS.all)
instance : MI i_Book := ⟨mo_Book_init⟩
def b_led_from : XS := sSeq (sFor (mSeq (xVar 2)) (bName 3) (sSet 1 (xImm (x2 oIx (x2 oIx (x1 (atF 4 "steps") (xVar 0)) (xVar 1)) (xVar 3))))) (sRet (xImm (xVar 1)))
def m_led_from : XF := fnM 4 b_led_from
theorem mo_led_from : MonoF m_led_from := monoF_fn (by unfold b_led_from; exact MS.all)
instance : MF m_led_from := ⟨mo_led_from⟩
end Pu
set_option Elab.async false
set_option linter.all false
namespace Pu
open PySem PySem.Spec PyProof.Rows L2
end Pu
set_option Elab.async false
set_option linter.all false
set_option maxRecDepth 100000
set_option synthInstance.maxHeartbeats 0
set_option synthInstance.maxSize 100000
namespace Pu
open PySem PySem.Spec PyProof.Rows L2
end Pu
set_option Elab.async false
set_option linter.all false
set_option maxRecDepth 100000
namespace Pu
open PySem PySem.Spec PyProof.Rows L2
end Pu
set_option Elab.async false
set_option linter.all false
set_option maxRecDepth 100000
set_option synthInstance.maxHeartbeats 0
set_option synthInstance.maxSize 100000
namespace Pu
open PySem PySem.Spec PyProof.Rows L2
def b_stood : XS := sSeq (sDrop (xCall m_check_row (xCons (x1 (atF 4 "office") (xVar 0)) (xCons (xVar 1) xNil)))) (sRet (xCall m_led_from (xCons (xVar 0) (xCons (xC (.int 0)) (xCons (xVar 1) xNil)))))
def m_stood : XF := fnM 2 b_stood
theorem mo_stood : MonoF m_stood := monoF_fn (by unfold b_stood; exact MS.all)
instance : MF m_stood := ⟨mo_stood⟩
def b_told : XS := sRet (xImm (x2 oIx (x1 (atF 4 "telling") (xVar 0)) (xCall m_stood (xCons (xVar 0) (xCons (xVar 1) xNil)))))
def m_told : XF := fnM 2 b_told
theorem mo_told : MonoF m_told := monoF_fn (by unfold b_told; exact MS.all)
instance : MF m_told := ⟨mo_told⟩
end Pu
set_option Elab.async false
set_option linter.all false
set_option maxRecDepth 100000
set_option synthInstance.maxHeartbeats 0
set_option synthInstance.maxSize 100000
namespace Pu
open PySem PySem.Spec PyProof.Rows L2
end Pu
set_option Elab.async false
set_option linter.all false
set_option maxRecDepth 100000
set_option synthInstance.maxHeartbeats 0
set_option synthInstance.maxSize 100000
namespace Pu
open PySem PySem.Spec PyProof.Rows L2
end Pu
set_option Elab.async false
set_option linter.all false
set_option maxRecDepth 100000
namespace Pu
open PySem PySem.Spec PyProof.Rows L2 Evl
def DQp : Addr × Addr → HO → HO → Prop := fun p o u => ∃ (s c : Int) (cs : List Int), cs.length ≤ 63 ∧ p.1 ≠ p.2 ∧ o = .lst [.int s, .int c, .ref p.2] ∧ u = .lst (vInts cs)
section
variable {σ : L2.St} {H H' H1 H2 : Hp} {te : TE} {K : PySem.W.Frag} {p : Addr × Addr} {s c n : Int} {cs ns : List Int} {W : Addr → Prop}
theorem fr_ex (e : Ex H H') : Fr W H H' := ⟨fun x o h _ => e x o h, fun x o h _ => e x o h, fun x h => fresh_back e h⟩
theorem ev_sum (h : EvL te σ H (ns.map V.int)) : Ev (tCB (rSum K) (tCons te tNil)) σ H (.int ns.sum) := fun H1 e Q q => h H1 e _ fun p H2 hp e2 h2 => ⟨p, ns, rfl, sq_of h2, q H2 e2⟩
theorem rc_int {i : Int} : RC rInt1 [.int i] H (.int i) := fun H1 _ Q q => .inl ⟨i, rfl, q H1 (Ex.refl _)⟩
theorem rc_abs {i : Int} : RC rAbs [.int i] H (.int (if i < 0 then -i else i)) := fun H1 _ Q q => ⟨i, rfl, q H1 (Ex.refl _)⟩
abbrev qAdd : R2 := rI0 fun i j => .int (i + j)
abbrev qMul : R2 := rI CMul fun i j => .int (i * j)
abbrev qMod : R2 := rI (fun _ j => j ≠ 0) fun i j => .int (i.fmod j)
abbrev qDiv : R2 := rI CDivN fun i j => .int (i.fdiv j)
abbrev qPow : R2 := rI CPow fun i j => .int (i ^ j.toNat)
abbrev qGt : R2 := rI0 fun i j => .bl (decide (j < i))
abbrev qGe : R2 := rI0 fun i j => .bl (decide (j ≤ i))
abbrev qc (i : Int) : TE := tC (.int i)
abbrev qInt (t : TE) : TE := tCB rInt1 (tCons t tNil)
abbrev qIx (K : PySem.W.Frag) (i : Nat) (j : Int) : TE := tOp (rIxL K) (tVar i) (qc j)
def tDrawA (K : PySem.W.Frag) : TS := tSeq (tAsg (tOp qMod (qInt (qIx K 2 0)) (tVar 1)) (gName 3)) (tSeq (tAsg (tOp qDiv (qInt (qIx K 2 0)) (tVar 1)) (gSub (tVar 2) (qc 0) rSetL)) (tSeq (tIfS (tB (tOp rEq (qIx K 2 0) (qc 0))) (tDrop (tBM K "list" rPopAt (tVar 2) (tCons (qc 0) tNil))) tNext) (tRet (tVar 3))))
def tDrawB (K : PySem.W.Frag) : TS := tSeq (tAsg (tOp qMod (qInt (tOp qMul (tOp qAdd (qIx K 0 0) (tOp qMul (qc 7919) (qIx K 0 1))) (qc 48271))) (qc 2147483647)) (gName 4)) (tSeq (tAsg (tOp qMod (qInt (tOp qMul (tVar 4) (tOp qAdd (tOp qDiv (tVar 4) (qc 1009)) (qc 69621)))) (qc 2147483647)) (gName 4)) (tSeq (tAsg (tOp qMod (qInt (tOp qMul (tVar 4) (tOp qAdd (tOp qDiv (tVar 4) (qc 2003)) (qc 40692)))) (qc 2147483399)) (gName 4)) (tRet (tOp qMod (qInt (tOp qDiv (tVar 4) (qc 16))) (tVar 1)))))
def tDrawP (K : PySem.W.Frag) : TS := tSeq (tAsg (tOp qAdd (qIx K 0 1) (qc 1)) (gSub (tVar 0) (qc 1) rSetL)) (tSeq (tAsg (qIx K 0 2) (gName 2)) (tSeq (tIfS (tB (tOp qGt (tCB (rLenS K) (tCons (tVar 2) tNil)) (qc 0))) (tDrawA K) tNext) (tDrawB K)))
def Pend (p : Addr × Addr) (H : Hp) (n : Int) (rt : V → Hp → Prop) : Prop := ∀ (z : Int) (H' : Hp) (s c : Int) (cs : List Int), 0 ≤ z → z < n → cs.length ≤ 63 → H' p.1 = some (.lst [.int s, .int c, .ref p.2]) → H' p.2 = some (.lst (vInts cs)) → Fr (WD p) H H' → rt (.int z) H'
theorem Pend.go {rt : V → Hp → Prop} (k : Pend p H n rt) (f : Fr (WD p) H H1) : Pend p H1 n rt := fun z H' s c cs a1 a2 a3 a4 a5 a6 => k z H' s c cs a1 a2 a3 a4 a5 (f.trans a6)
theorem at0_z {z : Int} : atI (vInts (z :: cs)) 0 = some (.int z) := by
  unfold atI ixN
  simp [vInts]
theorem fml {i j : Int} (h : 0 < j) : 0 ≤ i.fmod j ∧ i.fmod j < j := ⟨Int.fmod_nonneg_of_pos i h, Int.fmod_lt_of_pos i h⟩
theorem cm1 {i j : Int} (h : -(2 ^ 64) < j ∧ j < 2 ^ 64) : CMul i j := .inr h
theorem cm2 {i j : Int} (h : -(2 ^ 64) < i ∧ i < 2 ^ 64) : CMul i j := .inl h
theorem drawB_run {D : L2.Ends} {e2 : Option V} (hn : 0 < n) (iv : cs.length ≤ 63) (a1 : H p.1 = some (.lst [.int s, .int c, .ref p.2])) (a2 : H p.2 = some (.lst (vInts cs))) (k : Pend p H n D.rt) : tDrawB K D [some (.ref p.1), some (.int n), e2, none, none] H := by
  unfold tDrawB
  refine q_asg (ev_op (ev_cb (ea_cons (ev_op (ev_op (ev_op (ev_var rfl) ev_c (rv_ixL (v := .int s) (sq_of a1) rfl)) (ev_op ev_c (ev_op (ev_var rfl) ev_c (rv_ixL (v := .int c) (sq_of a1) rfl)) (rv_I (cm2 (by decide)))) rv_I0) ev_c (rv_I (cm1 (by decide)))) ea_nil) rc_int) ev_c (rv_I (by decide))) fun H3 e3 => ?_
  have m1 := fml (i := (s + 7919 * c) * 48271) (j := 2147483647) (by decide)
  generalize ((s + 7919 * c) * 48271).fmod 2147483647 = m at m1 ⊢
  refine q_asg (ev_op (ev_cb (ea_cons (ev_op (ev_var rfl) (ev_op (ev_op (ev_var rfl) ev_c (rv_I ⟨by decide, by decide⟩)) ev_c rv_I0) (rv_I (cm2 ⟨by omega, by omega⟩))) ea_nil) rc_int) ev_c (rv_I (by decide))) fun H4 e4 => ?_
  have m2 := fml (i := m * (m.fdiv 1009 + 69621)) (j := 2147483647) (by decide)
  generalize (m * (m.fdiv 1009 + 69621)).fmod 2147483647 = m' at m2 ⊢
  refine q_asg (ev_op (ev_cb (ea_cons (ev_op (ev_var rfl) (ev_op (ev_op (ev_var rfl) ev_c (rv_I ⟨by decide, by decide⟩)) ev_c rv_I0) (rv_I (cm2 ⟨by omega, by omega⟩))) ea_nil) rc_int) ev_c (rv_I (by decide))) fun H5 e5 => ?_
  generalize (m' * (m'.fdiv 2003 + 40692)).fmod 2147483399 = m''
  refine s_ret (ev_op (ev_cb (ea_cons (ev_op (ev_var rfl) ev_c (rv_I ⟨by decide, by decide⟩)) ea_nil) rc_int) (ev_var rfl) (rv_I (show n ≠ 0 by omega))) fun H6 e6 => ?_
  have z := fml (i := m''.fdiv 16) hn
  have e := ((e3.trans e4).trans e5).trans e6
  exact k _ H6 s c cs z.1 z.2 iv (e _ _ a1) (e _ _ a2) (fr_ex e)
theorem drawA_run {D : L2.Ends} {z : Int} (ne : p.1 ≠ p.2) (hn : 0 < n) (hn2 : n < 2 ^ 30) (iv : (z :: cs).length ≤ 63) (a1 : H p.1 = some (.lst [.int s, .int c, .ref p.2])) (a2 : H p.2 = some (.lst (vInts (z :: cs)))) (k : Pend p H n D.rt) : tDrawA K D [some (.ref p.1), some (.int n), some (.ref p.2), none, none] H := by
  unfold tDrawA
  refine q_asg (ev_op (ev_cb (ea_cons (ev_op (ev_var rfl) ev_c (rv_ixL (v := .int z) (sq_of a2) at0_z)) ea_nil) rc_int) (ev_var rfl) (rv_I (show n ≠ 0 by omega))) fun H3 e3 => ?_
  have zz := fml (i := z) hn
  generalize z.fmod n = dg at zz ⊢
  refine q_setL (l := p.2) (xs := vInts (z :: cs)) (j := 0) (e3 _ _ a2) (ev_op (ev_cb (ea_cons (ev_op (ev_var rfl) ev_c (rv_ixL (v := .int z) (sq_of (e3 _ _ a2)) at0_z)) ea_nil) rc_int) (ev_var rfl) (rv_I ⟨by omega, by omega⟩)) (ev_var rfl) ev_c (by simp [vInts]) fun H4 e4 => ?_
  generalize z.fdiv n = z'
  have b1 : (upd H4 p.2 (.lst (vInts (z' :: cs)))) p.1 = some (.lst [.int s, .int c, .ref p.2]) := by rw [upd_ne ne]; exact e4 _ _ (e3 _ _ a1)
  have b2 : (upd H4 p.2 (.lst (vInts (z' :: cs)))) p.2 = some (.lst (vInts (z' :: cs))) := upd_same
  have f1 : Fr (WD p) H (upd H4 p.2 (.lst (vInts (z' :: cs)))) := ((fr_ex e3).trans (fr_ex e4)).trans (Fr.at (.inr rfl) (e4 _ _ (e3 _ _ a2)) rfl)
  rw [show ((vInts (z :: cs)).set 0 (V.int z')) = vInts (z' :: cs) from rfl]
  generalize upd H4 p.2 (.lst (vInts (z' :: cs))) = H5 at b1 b2 f1 ⊢
  refine q_when (et_B (ev_op (ev_op (ev_var rfl) ev_c (rv_ixL (v := .int z') (sq_of b2) at0_z)) ev_c (rv_eq rfl))) (fun _ H6 e6 => ?_) fun _ H6 e6 => ?_
  · refine ⟨_, rfl, .inl ⟨rfl, _, SqL.of (e6 _ _ b2)⟩, p.2, _, 0, 0, .int z', rfl, rfl, e6 _ _ b2, by decide, by decide, ?_, rfl, ?_⟩
    · unfold seqIndex?
      simp [vInts]
    · rw [show (vInts (z' :: cs)).eraseIdx 0 = vInts cs from rfl]
      have c1 : (upd H6 p.2 (.lst (vInts cs))) p.1 = some (.lst [.int s, .int c, .ref p.2]) := by rw [upd_ne ne]; exact e6 _ _ b1
      have f2 : Fr (WD p) H (upd H6 p.2 (.lst (vInts cs))) := (f1.trans (fr_ex e6)).trans (Fr.at (.inr rfl) (e6 _ _ b2) rfl)
      show tRet (tVar 3) D _ (upd H6 p.2 (.lst (vInts cs)))
      refine s_ret (ev_var rfl) fun H7 e7 => ?_
      exact k _ H7 s c cs zz.1 zz.2 (by simp at iv; omega) (e7 _ _ c1) (e7 _ _ upd_same) (f2.trans (fr_ex e7))
  · refine s_ret (ev_var rfl) fun H7 e7 => ?_
    exact k _ H7 s c (z' :: cs) zz.1 zz.2 iv (e7 _ _ (e6 _ _ b1)) (e7 _ _ (e6 _ _ b2)) (f1.trans (fr_ex (e6.trans e7)))
theorem drawP_run {D : L2.Ends} (ne : p.1 ≠ p.2) (hn : 0 < n) (hn2 : n < 2 ^ 30) (iv : cs.length ≤ 63) (a1 : H p.1 = some (.lst [.int s, .int c, .ref p.2])) (a2 : H p.2 = some (.lst (vInts cs))) (k : Pend p H n D.rt) : tDrawP K D [some (.ref p.1), some (.int n), none, none, none] H := by
  unfold tDrawP
  refine q_setL (l := p.1) (xs := [.int s, .int c, .ref p.2]) (j := 1) a1 (ev_op (ev_op (ev_var rfl) ev_c (rv_ixL (v := .int c) (sq_of a1) rfl)) ev_c rv_I0) (ev_var rfl) ev_c (by simp) fun H1 e1 => ?_
  have b1 : (upd H1 p.1 (.lst [.int s, .int (c + 1), .ref p.2])) p.1 = some (.lst [.int s, .int (c + 1), .ref p.2]) := upd_same
  have b2 : (upd H1 p.1 (.lst [.int s, .int (c + 1), .ref p.2])) p.2 = some (.lst (vInts cs)) := by rw [upd_ne (Ne.symm ne)]; exact e1 _ _ a2
  have f1 : Fr (WD p) H (upd H1 p.1 (.lst [.int s, .int (c + 1), .ref p.2])) := (fr_ex e1).trans (Fr.at (.inl rfl) (e1 _ _ a1) rfl)
  rw [show ([V.int s, V.int c, V.ref p.2].set 1 (V.int (c + 1))) = [V.int s, V.int (c + 1), V.ref p.2] from rfl]
  generalize upd H1 p.1 (.lst [.int s, .int (c + 1), .ref p.2]) = H2 at b1 b2 f1 ⊢
  refine q_asg (ev_op (ev_var rfl) ev_c (rv_ixL (v := .ref p.2) (sq_of b1) rfl)) fun H3 e3 => ?_
  have b1 := e3 _ _ b1
  have b2 := e3 _ _ b2
  have f1 : Fr (WD p) H H3 := f1.trans (fr_ex e3)
  refine q_when (et_B (ev_op (ev_len (ev_var rfl) (sq_of b2)) ev_c rv_I0)) (fun h H4 e4 => ?_) fun _ H4 e4 => ?_
  · cases cs with
    | nil => simp [vInts] at h
    | cons z cs => exact drawA_run ne hn hn2 iv (e4 _ _ b1) (e4 _ _ b2) (k.go (f1.trans (fr_ex e4)))
  · exact drawB_run hn iv (e4 _ _ b1) (e4 _ _ b2) (k.go (f1.trans (fr_ex e4)))
end
theorem drawP_ok {P : Program} {w : World} {K : PySem.W.Frag} {mg : Str → Option Value} {base : Heap} {x qual : Str} {st : Stmt} {f : Addr} {fd : FuncData} {N ps : List Str} {k : Nat} {S : Stat}
    (Fn : Fun K x qual st f fd) (Sc : FnScope N ps (defScope st)) (hp : ps.length = 2) (hN : N.length = 5) (hS : S.DQ = DQp)
    (hbody : ∀ (cdv : Value) (A : Around) (outer : List Env) (s : Shared) (H : Hp) (E : XK), Room k (A.deeper (envOfC qual (defScope st) s.heap.objs.size f cdv)) →
      PSs (cxOf CX0 P w K mg base N qual (defScope st) f cdv A outer s H E).nox (defBody st) (tDrawP K)) :
    FnOk P w K mg base CX0 (k + 1) f fd ps (SpM S [true, false] mDraw) := by
  refine Fn.ok Sc (fun vs H Q E ⟨C, ds, F, _, _, a, _⟩ => by rw [a.len.1, hp]; rfl) (fun cdv A outer s H vs Q E hr ⟨C, ds, F, hC, hpn, a, dk, nq, q⟩ => ?_)
  obtain ⟨d, n, rfl, h1, h2, h3⟩ := mDraw_of q
  cases a with
  | @dice p pm' vs' ds' F' e a =>
    cases a with
    | val r a =>
      cases a
      cases r
      obtain ⟨o, u, e1, e2, e3⟩ := (dk p e).ex
      have hD : C.DQ = DQp := by rw [← hS, ← hC]
      rw [hD] at e3
      obtain ⟨sd, c, cs, iv, ne, rfl, rfl⟩ := e3
      refine ⟨tDrawP K, hbody cdv A outer s H E hr, ?_⟩
      have es : L2.start N [.ref p.1, .int n] = [some (.ref p.1), some (.int n), none, none, none] := by simp [L2.start, hN, List.replicate]
      rw [es]
      refine drawP_run ne h1 h2 iv e1 e2 fun z H' s c cs z0 z1 iv2 b1 b2 ff => ?_
      refine h3 z z0 z1 (.int z) H' [] (ff.mono fun a ha => ⟨p, e, ha⟩) (fun p' e' => ?_) (.int z) List.nodup_nil fun _ m => nomatch m
      rw [e] at e'; cases e'
      exact ⟨_, _, b1, b2, by rw [hD]; exact ⟨s, c, cs, iv2, ne, rfl, rfl⟩⟩
end Pu
set_option Elab.async false
set_option linter.all false
set_option maxRecDepth 100000
namespace Pu
open PySem PySem.Spec PyProof.Rows L2 Evl
section
variable {σ : L2.St} {H H' H1 H2 : Hp} {te : TE} {K : PySem.W.Frag} {s c n : Int} {cs ns ms : List Int} {W : Addr → Prop} {a : Addr}
abbrev qSc (K : PySem.W.Frag) (k : Int) : TE := tSl (rSlL K) (tVar 0) tNoPart (tPart (qc k))
abbrev qAbs (t : TE) : TE := tCB rAbs (tCons t tNil)
def tPoolS (K : PySem.W.Frag) : TE := tOp qAdd (tOp qAdd (tOp qMod (qInt (tCB (rSum K) (tCons (qSc K 1) tNil))) (qc 1000003)) (tCB (rLenS K) (tCons (tVar 0) tNil))) (qc 1)
def tPoolT : TE := tOp qMod (qInt (tOp qAdd (tOp qAdd (tOp qMul (tVar 1) (qc 48271)) (tOp qMod (qInt (tVar 2)) (qc 2147483629))) (qc 11))) (qc 2147483647)
def tPoolU (K : PySem.W.Frag) : TE := tLc (iList K (qSc K 63)) (gName 2) (tB (tOp qGe (qAbs (tVar 2)) (tOp qPow (qc 10) (qc 18)))) (qAbs (tVar 2)) [2]
def tPoolP (K : PySem.W.Frag) : TS := tSeq (tAsg (tPoolS K) (gName 1)) (tSeq (tFor (iList K (qSc K 63)) (gName 2) (tAsg tPoolT (gName 1))) (tRet (tLst (tCons (tVar 1) (tCons (qc 0) (tCons (tPoolU K) tNil))))))
theorem vInts_at {i : Nat} {x : V} (h : (vInts ms)[i]? = some x) : ∃ z, ms[i]? = some z ∧ x = .int z := by
  unfold vInts at h
  rw [List.getElem?_map] at h
  cases e : ms[i]? with
  | none => rw [e] at h; cases h
  | some z => rw [e] at h; exact ⟨z, rfl, (Option.some.inj h).symm⟩
theorem poolU_ev {x y : Option V} (hσ : σ = [some (.ref a), x, y]) (hS : SqL K H a (ns.map V.int)) : ∃ cs : List Int, cs.length ≤ 63 ∧ EvL (tPoolU K) σ H (vInts cs) := by
  obtain ⟨ms, e1, e2⟩ := cut_ints ns none (some 63)
  have ml : ms.length ≤ 63 := by
    have : (cutV (ns.map V.int) none (some 63)).length ≤ 63 := by
      unfold cutV
      rw [List.length_take, List.length_drop]
      have : HT.sIx (ns.map V.int).length (ns.map V.int).length (some 63) ≤ 63 := by
        rw [show (some (63 : Int)) = some ((63 : Nat) : Int) from rfl, HT.sIx_nat]
        omega
      omega
    rw [e1] at this
    simpa [vInts] using this
  have key := el_lcNL (K := K) (σ := σ) (H := H) (tl := qSc K 63) (j := 2) (vs := [2]) (t := tB (tOp qGe (qAbs (tVar 2)) (tOp qPow (qc 10) (qc 18)))) (te := qAbs (tVar 2)) (xs := vInts ms)
    (fun i => decide ((10 : Int) ^ (18 : Int).toNat ≤ (if ms.getD i 0 < 0 then - ms.getD i 0 else ms.getD i 0))) (fun i => .int (if ms.getD i 0 < 0 then - ms.getD i 0 else ms.getD i 0))
    (by rw [← e1]; subst hσ; exact el_sl (ev_var rfl) eo_none (eo_some ev_c) hS) (by simp [vInts]; omega) (fun x => by subst hσ; rfl)
    (fun i x H1 e hx => by
      obtain ⟨z, hz, rfl⟩ := vInts_at hx
      rw [List.getD_eq_getElem?_getD, hz]
      subst hσ
      exact et_B (ev_op (ev_cb (ea_cons (ev_var rfl) ea_nil) rc_abs) (ev_op ev_c ev_c (rv_I ⟨by decide, by decide, by decide⟩)) rv_I0))
    (fun i x H1 e hx _ => by
      obtain ⟨z, hz, rfl⟩ := vInts_at hx
      rw [List.getD_eq_getElem?_getD, hz]
      subst hσ
      exact ev_cb (ea_cons (ev_var rfl) ea_nil) rc_abs)
  refine ⟨((List.range (vInts ms).length).filter fun i => decide ((10 : Int) ^ (18 : Int).toNat ≤ (if ms.getD i 0 < 0 then - ms.getD i 0 else ms.getD i 0))).map fun i => (if ms.getD i 0 < 0 then - ms.getD i 0 else ms.getD i 0), ?_, ?_⟩
  · rw [List.length_map]
    refine Nat.le_trans (List.length_filter_le _ _) ?_
    simp [vInts]
    exact ml
  · have eg : given (vInts ms).length (fun i => decide ((10 : Int) ^ (18 : Int).toNat ≤ (if ms.getD i 0 < 0 then - ms.getD i 0 else ms.getD i 0))) (fun i => .int (if ms.getD i 0 < 0 then - ms.getD i 0 else ms.getD i 0)) = vInts (((List.range (vInts ms).length).filter fun i => decide ((10 : Int) ^ (18 : Int).toNat ≤ (if ms.getD i 0 < 0 then - ms.getD i 0 else ms.getD i 0))).map fun i => (if ms.getD i 0 < 0 then - ms.getD i 0 else ms.getD i 0)) := by
      unfold given vInts
      rw [List.map_map]
      rfl
    rw [← eg]
    exact key
theorem poolP_run {D : L2.Ends} (hS : SqL K H a (ns.map V.int)) (k : ∀ (p : Addr × Addr) (H' : Hp) (s c : Int) (cs : List Int), cs.length ≤ 63 → p.1 ≠ p.2 → H' p.1 = some (.lst [.int s, .int c, .ref p.2]) → H' p.2 = some (.lst (vInts cs)) → Ex H H' → D.rt (.ref p.1) H') : tPoolP K D [some (.ref a), none, none] H := by
  unfold tPoolP
  obtain ⟨m1, e1, _⟩ := cut_ints ns none (some 1)
  have h1 : ∀ {σ : L2.St} {H1 : Hp}, σ[0]? = some (some (.ref a)) → Ex H H1 → EvL (qSc K 1) σ H1 (m1.map V.int) := fun h e => by
    rw [show m1.map V.int = vInts m1 from rfl, ← e1]
    exact el_sl (ev_var h) eo_none (eo_some ev_c) (ex_l e hS)
  refine q_asg (v := .int _) (ev_op (ev_op (ev_op (ev_cb (ea_cons (ev_sum (h1 rfl (Ex.refl _))) ea_nil) rc_int) ev_c (rv_I (by decide))) (ev_len (ev_var rfl) hS) rv_I0) ev_c rv_I0) fun H1 ee1 => ?_
  generalize (m1.sum.fmod 1000003 + ((ns.map V.int).length : Int) + 1) = sd
  obtain ⟨m2, e2, _⟩ := cut_ints ns none (some 63)
  refine q_forNLn (K := K) (xs := vInts m2) (by rw [← e2]; exact el_sl (ev_var rfl) eo_none (eo_some ev_c) (ex_l ee1 hS)) (fun p i σ' H' => ∃ z y, σ' = [some (.ref a), some (.int z), y] ∧ Ex H1 H' ∧ H' p = some (.lst (vInts m2))) (fun p H2 hp ee2 hh => ⟨sd, none, rfl, ee2, hh⟩) (fun p i σ' H' _ h => sq_of h.choose_spec.choose_spec.2.2) (fun p i x σ' H' hx h => ?_) (fun p σ' H' h => ?_)
  · obtain ⟨z, y, rfl, ee2, hh⟩ := h
    obtain ⟨w, _, rfl⟩ := vInts_at hx
    refine s_asg (ev_op (ev_cb (ea_cons (ev_op (ev_op (ev_op (ev_var rfl) ev_c (rv_I (cm1 (by decide)))) (ev_op (ev_cb (ea_cons (ev_var rfl) ea_nil) rc_int) ev_c (rv_I (by decide))) rv_I0) ev_c rv_I0) ea_nil) rc_int) ev_c (rv_I (by decide))) fun H3 ee3 => ?_
    exact ⟨_, _, rfl, ee2.trans ee3, ee3 _ _ hh⟩
  · obtain ⟨z, y, rfl, ee2, hh⟩ := h
    obtain ⟨cs, cl, hU⟩ := poolU_ev (K := K) (H := H') (a := a) (x := some (.int z)) (y := y) rfl (ex_l (ee1.trans ee2) hS)
    refine ⟨_, rfl, ?_⟩
    have go : ∀ Q : VK, (∀ b H3, H3 b = some (.lst (vInts cs)) → Ex H' H3 → Q (.ref b) H3) → tPoolU K [some (.ref a), some (.int z), y] H' Q := fun Q q => hU H' (Ex.refl _) Q fun b H3 _ ee h3 => q b H3 h3 ee
    refine go (fun x H2 => [V.int z, V.int 0, x].length ≤ sizeLine ∧ ∀ l, H2 l = none → D.rt (V.ref l) (upd H2 l (HO.lst [.int z, .int 0, x]))) fun b H3 h3 ee3 => ⟨by show 3 ≤ sizeLine; decide, fun l hl => ?_⟩
    have ne : l ≠ b := fun e => by rw [e, h3] at hl; cases hl
    exact k (l, b) _ z 0 cs cl ne upd_same (by rw [upd_ne (Ne.symm ne)]; exact h3) (((ee1.trans ee2).trans ee3).trans (Ex.new hl))
end
def spPool (K : PySem.W.Frag) : Sp := fun vs H Q _ => ∃ (a : Addr) (ns : List Int), vs = [.ref a] ∧ SqL K H a (ns.map V.int) ∧
  ∀ (p : Addr × Addr) (H' : Hp) (s c : Int) (cs : List Int), cs.length ≤ 63 → p.1 ≠ p.2 → H' p.1 = some (.lst [.int s, .int c, .ref p.2]) → H' p.2 = some (.lst (vInts cs)) → Ex H H' → Q (.ref p.1) H'
theorem pool_ok {P : Program} {w : World} {K : PySem.W.Frag} {mg : Str → Option Value} {base : Heap} {x qual : Str} {st : Stmt} {f : Addr} {fd : FuncData} {k : Nat}
    (Fn : Fun K x qual st f fd) (Sc : FnScope ["script", "seed", "cell"] ["script"] (defScope st))
    (hbody : ∀ (cdv : Value) (A : Around) (outer : List Env) (s : Shared) (H : Hp) (E : XK), Room k (A.deeper (envOfC qual (defScope st) s.heap.objs.size f cdv)) →
      PSs (cxOf CX0 P w K mg base ["script", "seed", "cell"] qual (defScope st) f cdv A outer s H E).nox (defBody st) (tPoolP K)) :
    FnOk P w K mg base CX0 (k + 1) f fd ["script"] (spPool K) := by
  refine Fn.ok Sc (fun vs H Q E ⟨a, ns, e, _⟩ => by rw [e]; rfl) (fun cdv A outer s H vs Q E hr ⟨a, ns, e, hS, q⟩ => ?_)
  subst e
  exact ⟨_, hbody cdv A outer s H E hr, poolP_run hS q⟩
theorem law_okP {P : Program} {w : World} {K : PySem.W.Frag} {mg : Str → Option Value} {base : Heap} {x qual : Str} {st : Stmt} {f : Addr} {fd : FuncData} {N : List Str} {k n : Nat} {S : Stat} {b : XS} {Γe : List Mo}
    (Fn : Fun K x qual st f fd) (Sc : FnScope N ["script"] (defScope st)) (hN : N.length = n + 2) (hS : S.DQ = DQp)
    (hbody : ∀ (cdv : Value) (A : Around) (outer : List Env) (s : Shared) (H : Hp) (E : XK), Room k (A.deeper (envOfC qual (defScope st) s.heap.objs.size f cdv)) →
      ∃ t, PSs (cxOf CX0 P w K mg base N qual (defScope st) f cdv A outer s H E).nox (defBody st) (tSeq (tAsg (tCall (spPool K) [] E0 (tCons (tVar 0) tNil)) (gName 1)) t) ∧ ∀ q, SimS ⟨S, q, []⟩ [] (gamL n) Γe t b)
    (hpure : b lawEnds (List.replicate (n + 2) none)) : FnOk P w K mg base CX0 (k + 1) f fd ["script"] (spLaw K) := by
  refine Fn.ok Sc (fun vs H Q E ⟨a, ns, e, _⟩ => by rw [e]; rfl) (fun cdv A outer s H vs Q E hr ⟨a, ns, e, hS1, hl, q⟩ => ?_)
  subst e
  obtain ⟨t, ht, hs⟩ := hbody cdv A outer s H E hr
  refine ⟨_, ht, ?_⟩
  refine ⟨.ref a, ?_, a, ns, rfl, hS1, fun p H' sd c cs iv ne a1 a2 ff => ?_⟩
  · unfold L2.start; rfl
  have hl2 : (L2.start N [.ref a]).length = n + 2 := by unfold L2.start; simp [hN]
  have I : Ok ⟨S, some p, []⟩ (gamL n) ((L2.start N [.ref a]).set 1 (some (.ref p.1))) H' (List.replicate (n + 2) none) (fun _ => []) := by
    refine ⟨by simp [gamL], by rw [List.length_set, hl2]; simp [gamL], fun i m h l => ?_, fun i h => ?_, fun i h => ?_, fun i j m h => ?_, fun _ _ _ _ => NoQ.nil, fun p' e => ?_, fun _ e => nomatch e⟩
    · match i, h with
      | 0, h => cases h; rcases l with l | l <;> cases l
      | 1, h => cases h; rcases l with l | l <;> cases l
      | i + 2, h =>
        have h : (List.replicate n Mo.x)[i]? = some m := h
        rw [List.getElem?_replicate] at h
        split at h <;> cases h
        rcases l with l | l <;> cases l
    · match i, h with
      | 0, h => cases h
      | 1, h => exact ⟨p, rfl, by rw [List.getElem?_set_self (by rw [hl2]; omega)]⟩
      | i + 2, h =>
        have h : (List.replicate n Mo.x)[i]? = some .q := h
        rw [List.getElem?_replicate] at h
        split at h <;> cases h
    · match i, h with
      | 0, h => cases h
      | 1, h => cases h
      | i + 2, h =>
        have h : (List.replicate n Mo.x)[i]? = some .o := h
        rw [List.getElem?_replicate] at h
        split at h <;> cases h
    · match i, h with
      | 0, h => cases h
      | 1, h => cases h
      | i + 2, h =>
        have h : (List.replicate n Mo.x)[i]? = some .o := h
        rw [List.getElem?_replicate] at h
        split at h <;> cases h
    · cases e
      exact ⟨_, _, a1, a2, by show S.DQ _ _ _; rw [hS]; exact ⟨sd, c, cs, iv, ne, rfl, rfl⟩⟩
  refine (hs (some p)).run _ H' _ _ _ lawEnds I ⟨fun _ _ _ _ _ _ z => z.elim, fun _ _ _ _ _ _ z => z.elim, fun _ _ _ _ _ _ z => z.elim, fun v H2 d F _ _ r _ _ _ e => ?_⟩ hpure
  have e : d = .bl true := e
  subst e
  cases r
  exact q _
end Pu
set_option Elab.async false
set_option linter.all false
set_option maxRecDepth 100000
namespace Pu
open PySem PySem.Spec PyProof.Rows L2
section
variable {C : Cfg} {Γ : List Mo} {te : TE} {m : X1} {K : PySem.W.Frag}
theorem sim_idxF {i : Nat} (g : Γ[i]? = some .f) (s : Sim C Γ te .own m) : Sim C Γ (tBM K "list" (rIndexD K) (tVar i) (tCons te tNil)) .own (xIdx i m) :=
  ⟨fun σ H env Fs Q I h => by
    obtain ⟨v, d, h1, h2, h3⟩ := I.val i _ g (.inr rfl)
    have h : xVar i env _ := h
    unfold xVar at h
    rw [h2] at h
    obtain ⟨a, vs, ds, F, rfl, rfl, eF, ha, ra, h⟩ := h3.onL h
    have nqa := I.nq i _ g (.inr rfl)
    refine ⟨_, h1, .inl ⟨rfl, _, SqL.of ha⟩, s.run σ H env Fs _ I (s.mono env _ _ (fun e q w H1 G f dk r2 k2 => ?_) h)⟩
    obtain ⟨sl, se, j, z, hz, he, hno, q⟩ := q
    have r1 := h3.keep f fun b hb => nqa.wq b hb
    refine ⟨a, w, e.py, pyL ds, j, z.py, rfl, rfl, r1.dp (SeqAt.canLay_of_shaped sl), r2.dp (SeqAt.canLay_of_shaped se), sl, se, by rw [pyL_get, hz]; rfl, he, fun k z' hk hz' => ?_, q _ _ _ f dk (.int _) KdOk.own_nil⟩
    rw [pyL_get] at hz'
    cases e1 : ds[k]? with
    | none => rw [e1] at hz'; cases hz'
    | some y =>
      rw [e1] at hz'
      cases hz'
      exact hno k y hk e1, mono_idx s.mono⟩
end
end Pu
set_option Elab.async false
set_option linter.all false
set_option maxRecDepth 100000
namespace Pu
open PySem PySem.Spec PyProof.Rows L2
section
variable {C : Cfg} {Γ Γ' Γl Γ1 Γ2 : List Mo} {σ : L2.St} {H : Hp} {env : PEnv} {Fs : Nat → List Addr} {d : D} {te : TE} {A : Kd} {m : X1} {K : PySem.W.Frag} {CT : Nat → Addr}
def sAppM1 (i j : Nat) : XS := fun E env => xVar i env fun d => onL d fun xs => xVar j env fun y => xs.length < sizeLine ∧ E.nx (env.set i (some (.lst (xs ++ [y]))))
instance {i j : Nat} : MS (sAppM1 i j) := ⟨fun p q => mono_var _ _ _ (fun d q => onL_mono (fun xs q => mono_var _ _ _ (fun y q => ⟨q.1, p.1 _ q.2⟩) q) q) q⟩
theorem sim_appM1 {i j : Nat} (g : Γ[i]? = some .o) (gj : Γ[j]? = some .o) (ne : i ≠ j) : SimS C Γl Γ (Γ.set j .x) (tDrop (tBM K "list" rAppend (tVar i) (tCons (tVar j) tNil))) (sAppM1 i j) :=
  ⟨fun σ H env Fs D E I lk hh => by
    obtain ⟨v, d, h1, h2, h3⟩ := I.val i _ g (.inl rfl)
    obtain ⟨vj, dj, j1, j2, j3⟩ := I.val j _ gj (.inl rfl)
    have hh : xVar i env _ := hh
    unfold xVar at hh
    rw [h2] at hh
    obtain ⟨a, vs, ds, F, rfl, rfl, eF, ha, ra, q⟩ := h3.onL hh
    rw [j2] at q
    refine ⟨_, h1, .inl ⟨rfl, _, SqL.of ha⟩, _, j1, ?_⟩
    have nqj := I.nq j _ gj (.inl rfl)
    have nda := I.nd i g
    rw [eF] at nda
    have dij := I.dj i j _ g gj (.inl rfl) ne
    rw [eF] at dij
    have naJ : a ∉ Fs j := dij a List.mem_cons_self
    have nF : a ∉ F := (List.nodup_cons.mp nda).1
    have gi' : (Γ.set j .x)[i]? = some .o := by rw [List.getElem?_set_ne (Ne.symm ne)]; exact g
    have I2 : Ok C (Γ.set j .x) σ H env Fs := I.weak (wk_kill Γ j)
    have dead : ∀ b ∈ Fs j, ∀ (k : Nat) (m : Mo), (Γ.set j .x)[k]? = some m → live m → b ∉ Fs k := fun b hb k m gk l hb' => by
      by_cases e : j = k
      · subst e
        rw [List.getElem?_set_self (List.getElem?_eq_some_iff.mp gj).1] at gk
        cases gk
        rcases l with l | l <;> cases l
      · rw [List.getElem?_set_ne e] at gk
        exact I.dj j k m gj gk l e b hb hb'
    have hm : a ∈ Fs i := by rw [eF]; exact List.mem_cons_self
    have rt : Rp C.CT (upd H a (.lst (vs ++ [vj]))) vj dj (Fs j) := j3.upd ha rfl naJ
    have hs : ∀ b ∈ a :: (F ++ (Fs j ++ [])), b ∈ Fs i ∨ b ∈ Fs j := fun b hb => by
      rw [eF]
      simp only [List.append_nil, List.mem_cons, List.mem_append] at hb ⊢
      rcases hb with z | z | z
      · exact .inl (.inl z)
      · exact .inl (.inr z)
      · exact .inr z
    refine ⟨a, vs, vj, rfl, rfl, ha, by rw [ra.length]; exact q.1, lk.nx σ _ _ _ (I2.root gi' h1 ha rfl hm (.lst upd_same ((ra.upd ha rfl nF).append (.cons rt .nil))) ?_ (fun b hb => ?_) ?_) ⟨?_, fun k gk b hb => ?_⟩ q.2⟩
    · simp only [List.append_nil]
      refine List.nodup_cons.mpr ⟨fun z => ?_, List.nodup_append.mpr ⟨(List.nodup_cons.mp nda).2, I.nd j gj, fun b hb c hc z => ?_⟩⟩
      · rcases List.mem_append.mp z with z | z
        · exact nF z
        · exact naJ z
      · subst z
        exact dij b (List.mem_cons_of_mem _ hb) hc
    · rcases hs b hb with z | z
      · exact .inl z
      · exact .inr (dead b z)
    · intro pq ep
      have h1 := I.nq i _ g (.inl rfl) pq ep
      have h2 := nqj pq ep
      refine ⟨fun z => ?_, fun z => ?_⟩
      · rcases hs _ z with z | z
        · exact h1.1 z
        · exact h2.1 z
      · rcases hs _ z with z | z
        · exact h1.2 z
        · exact h2.2 z
    · exact Fr.at (.inr ⟨i, g, hm⟩) ha rfl
    · by_cases ek : k = i
      · subst ek
        rw [setF_same] at hb
        rcases hs b hb with z | z
        · exact .inl ⟨k, g, z⟩
        · exact .inl ⟨j, gj, z⟩
      · rw [setF_ne ek] at hb
        by_cases ej : j = k
        · subst ej
          rw [List.getElem?_set_self (List.getElem?_eq_some_iff.mp gj).1] at gk
          cases gk
        · rw [List.getElem?_set_ne ej] at gk
          exact .inl ⟨k, gk, hb⟩,
   fun E E' env p q => mono_var _ _ _ (fun d q => onL_mono (fun xs q => mono_var _ _ _ (fun y q => ⟨q.1, p.1 _ q.2⟩) q) q) q⟩
end
end Pu
set_option Elab.async false
set_option linter.all false
set_option maxRecDepth 100000
set_option synthInstance.maxHeartbeats 0
set_option synthInstance.maxSize 100000
namespace Pu
open PySem PySem.Spec PyProof.Rows L2
def b__law_lot_2 : XS := sSeq (sSet 2 (x1 oTup (xLc (mRng1 (xVar 1)) (bName 3) (bTest (x2 oEq (xCall m__law_draw (xDice (xCons (xC (.int 2)) xNil))) (xC (.int 0)))) (xImm (xVar 3))))) (sRet (xIf (bTest (x2 (oI fun i j => .bl (decide (j < i))) (x1 oLenA (xVar 2)) (xC (.int 0)))) (xImm (xVar 2)) (xTup (xCons (xCall m__law_draw (xDice (xCons (xVar 1) xNil))) xNil))))
def m__law_lot_2 : XF := fnM 4 b__law_lot_2
theorem mo__law_lot_2 : MonoF m__law_lot_2 := monoF_fn (by unfold b__law_lot_2; exact MS.all)
instance : MF m__law_lot_2 := ⟨mo__law_lot_2⟩
def b__law_office : XS := sSeq (sSet 2 (x2 oIx (xLst (xCons (xC (.int 1)) (xCons (xC (.int 2)) (xCons (xC (.int 2)) (xCons (xC (.int 3)) (xCons (xC (.int 3)) (xCons (xC (.int 4)) (xCons (xC (.int 6)) xNil)))))))) (xCall m__law_draw (xDice (xCons (xC (.int 7)) xNil))))) (sSeq (sSet 3 (x2 oAdd (xC (.int 1)) (xCall m__law_draw (xDice (xCons (xVar 1) xNil))))) (sSeq (sSet 4 (xCall m__law_draw (xDice (xCons (xC (.int 4)) xNil)))) (sSeq (sIf (bTest (x2 oEq (xVar 4) (xC (.int 1)))) (sRet (xTup (xCons (xImm (xVar 2)) (xCons (x1 oTup (xLc (mRng1 (xVar 3)) (bName 5) bYes (xTup (xCons (x2 (oIc (fun _ j => j ≠ 0) fun i j => .int (i.fmod j)) (x1 oInt (xVar 5)) (xVar 2)) xNil)))) xNil)))) sNext) (sSeq (sIf (bTest (x2 oEq (xVar 4) (xC (.int 2)))) (sRet (xTup (xCons (xImm (xVar 2)) (xCons (x1 oTup (xLc (mRng1 (xVar 3)) (bName 5) bYes (x1 oTup (x1 oSortSet (xLst (xCons (x2 (oIc (fun _ j => j ≠ 0) fun i j => .int (i.fmod j)) (x1 oInt (xVar 5)) (xVar 2)) (xCons (x2 (oIc (fun _ j => j ≠ 0) fun i j => .int (i.fmod j)) (x1 oInt (x2 oAdd (xVar 5) (xC (.int 1)))) (xVar 2)) xNil))))))) xNil)))) sNext) (sSeq (sIf (bTest (x2 oEq (xVar 4) (xC (.int 3)))) (sRet (xTup (xCons (xImm (xVar 2)) (xCons (x1 oTup (xLc (mRng1 (xVar 3)) (bName 5) bYes (x1 oTup (x1 oSortSet (xLst (xCons (xCall m__law_draw (xDice (xCons (xVar 2) xNil))) (xCons (xCall m__law_draw (xDice (xCons (xVar 2) xNil))) xNil))))))) xNil)))) sNext) (sRet (xTup (xCons (xImm (xVar 2)) (xCons (x1 oTup (xLc (mRng1 (xVar 3)) (bName 5) bYes (xCall m__law_lot_2 (xDice (xCons (xVar 2) xNil))))) xNil)))))))))
def m__law_office : XF := fnM 6 b__law_office
theorem mo__law_office : MonoF m__law_office := monoF_fn (by unfold b__law_office; exact MS.all)
instance : MF m__law_office := ⟨mo__law_office⟩
def b__law_any_book : XS := sSeq (sSet 3 (x2 oAdd (xC (.int 1)) (xCall m__law_draw (xDice (xCons (xVar 2) xNil))))) (sSeq (sSet 4 (x1 oTup (xLc (mRng1 (xVar 3)) (bName 5) bYes (xCall m__law_draw (xDice (xCons (xC (.int 2)) xNil)))))) (sRet (xTup (xCons (xImm (xVar 4)) (xCons (x1 oTup (xLc (mRng1 (xVar 3)) (bName 5) bYes (x1 oTup (xLc (mRng1 (xVar 1)) (bName 6) bYes (xCall m__law_draw (xDice (xCons (xVar 3) xNil))))))) xNil)))))
def m__law_any_book : XF := fnM 7 b__law_any_book
theorem mo__law_any_book : MonoF m__law_any_book := monoF_fn (by unfold b__law_any_book; exact MS.all)
instance : MF m__law_any_book := ⟨mo__law_any_book⟩
def b__law_turning : XS := sSeq (sSet 3 (x2 oAdd (xC (.int 1)) (xCall m__law_draw (xDice (xCons (xVar 2) xNil))))) (sSeq (sSet 4 (xLc (mRng1 (xVar 1)) (bName 6) bYes (xCall m__law_draw (xDice (xCons (xVar 3) xNil))))) (sSeq (sSet 5 (x1 oTup (xLc (mRng1 (xVar 3)) (bName 7) bYes (xCall m__law_draw (xDice (xCons (xC (.int 3)) xNil)))))) (sRet (xTup (xCons (xImm (xVar 5)) (xCons (x1 oTup (xLc (mRng1 (xVar 3)) (bName 7) bYes (x1 oTup (xLc (mSeq (xVar 4)) (bName 8) bYes (x2 (oIc (fun _ j => j ≠ 0) fun i j => .int (i.fmod j)) (x1 oInt (x2 oAdd (xVar 7) (xVar 8))) (xVar 3)))))) xNil))))))
def m__law_turning : XF := fnM 9 b__law_turning
theorem mo__law_turning : MonoF m__law_turning := monoF_fn (by unfold b__law_turning; exact MS.all)
instance : MF m__law_turning := ⟨mo__law_turning⟩
def b__law_of_desks : XS := sSeq (sSet 2 (xLc (mRng1 (x2 oIx (xVar 1) (xC (.int 0)))) (bName 16) bYes (xIf (bTest (x2 (oI fun i j => .bl (decide (i < j))) (xVar 16) (xC (.int 2)))) (x2 oIx (xLst (xCons (xC (.int 2)) (xCons (xC (.int 3)) xNil))) (x1 oInt (x2 oEq (xVar 16) (xC (.int 0))))) (x2 oIx (xLst (xCons (xC (.int 1)) (xCons (xC (.int 2)) xNil))) (x1 oInt (x2 oEq (xVar 16) (xC (.int 2)))))))) (sSeq (sSet 3 (xLst (xCons (xTup xNil) xNil))) (sSeq (sFor (mSeq (xVar 2)) (bName 4) (sSeq (sSet 5 (xLst xNil)) (sSeq (sFor (mSeq (xVar 3)) (bName 6) (sSet 5 (x2 oAdd (xVar 5) (xLc (mRng1 (xVar 4)) (bName 17) bYes (x2 oAdd (xVar 6) (xTup (xCons (xImm (xVar 17)) xNil))))))) (sSet 3 (xVar 5))))) (sSeq (sSet 7 (xLst xNil)) (sSeq (sFor (mSeq (x2 oIx (xVar 1) (xC (.int 1)))) (bName 8) (sSeq (sSet 9 (xC (.dK []))) (sSeq (sFor (mSeq (xVar 3)) (bName 6) (sSeq (sSet 10 (x1 oTup (xLc (mSeq (xVar 8)) (bName 18) bYes (xImm (x2 oIx (xVar 6) (xVar 18)))))) (sIf (bTest (x2 (oInN true) (xVar 10) (xVar 9))) (sPutN 9 (xVar 10) (x1 oTup (xLc (mSeq (xVar 8)) (bName 18) bYes (xCall m__law_draw (xDice (xCons (x2 oIx (xVar 2) (xVar 18)) xNil)))))) sNext))) (sAppM1 7 9)))) (sSeq (sSet 11 (xLst xNil)) (sSeq (sFor (mSeq (xVar 3)) (bName 6) (sSeq (sSet 12 (xLst xNil)) (sSeq (sFor (mRng1 (x1 oLenA (x2 oIx (xVar 1) (xC (.int 1))))) (bName 13) (sSeq (sSet 8 (xImm (x2 oIx (x2 oIx (xVar 1) (xC (.int 1))) (xVar 13)))) (sSeq (sSet 14 (x1 oListA (xVar 6))) (sSeq (sSet 15 (xImm (x2 oIxN (x2 oIx (xVar 7) (xVar 13)) (x1 oTup (xLc (mSeq (xVar 8)) (bName 18) bYes (xImm (x2 oIx (xVar 6) (xVar 18)))))))) (sSeq (sFor (mRng1 (x1 oLenA (xVar 8))) (bName 16) (sPut 14 (x2 oIx (xVar 8) (xVar 16)) (xImm (x2 oIx (xVar 15) (xVar 16))))) (sApp 12 (xIdx 3 (x1 oTup (xVar 14))))))))) (sApp 11 (x1 oTup (xVar 12)))))) (sRet (xTup (xCons (x1 oTup (xLc (mSeq (xVar 3)) (bName 6) bYes (xCall m__law_draw (xDice (xCons (xC (.int 3)) xNil))))) (xCons (x1 oTup (xVar 11)) xNil))))))))))
def m__law_of_desks : XF := fnM 19 b__law_of_desks
theorem mo__law_of_desks : MonoF m__law_of_desks := monoF_fn (by unfold b__law_of_desks; exact MS.all)
instance : MF m__law_of_desks := ⟨mo__law_of_desks⟩
def b__law_doubled : XS := sSeq (sAsgG (bTup 2 (bCons (bName 2) (bCons (bName 3) bNil))) (xVar 1)) (sSeq (sSet 4 (x1 oLenA (xVar 2))) (sSeq (sIf (bTest (x2 (oI fun i j => .bl (decide (j < i))) (xVar 4) (xC (.int 6)))) (sRet (xImm (xVar 1))) sNext) (sSeq (sSet 5 (xLst xNil)) (sSeq (sFor (mRng1 (x2 (oIc CMul fun i j => .int (i * j)) (xC (.int 2)) (xVar 4))) (bName 6) (sApp 5 (x1 oTup (xLc (mSeq (x2 oIx (xVar 3) (x2 (oIc (fun _ j => j ≠ 0) fun i j => .int (i.fmod j)) (x1 oInt (xVar 6)) (xVar 4)))) (bName 7) bYes (x2 oAdd (xVar 7) (x2 (oIc CMul fun i j => .int (i * j)) (xVar 4) (xCall m__law_draw (xDice (xCons (xC (.int 2)) xNil))))))))) (sRet (xTup (xCons (x2 oAdd (xVar 2) (xVar 2)) (xCons (x1 oTup (xVar 5)) xNil))))))))
def m__law_doubled : XF := fnM 8 b__law_doubled
theorem mo__law_doubled : MonoF m__law_doubled := monoF_fn (by unfold b__law_doubled; exact MS.all)
instance : MF m__law_doubled := ⟨mo__law_doubled⟩
def b__law_bent_2 : XS := sSeq (sAsgG (bTup 2 (bCons (bName 2) (bCons (bName 3) bNil))) (xVar 1)) (sSeq (sSet 4 (xCall m__law_draw (xDice (xCons (x1 oLenA (xVar 2)) xNil)))) (sSeq (sIf (bTest (x2 oEq (xCall m__law_draw (xDice (xCons (xC (.int 3)) xNil))) (xC (.int 0)))) (sRet (xTup (xCons (x2 oAdd (x2 oAdd (xSl (xVar 2) pNo (pYes (xVar 4))) (xTup (xCons (xCall m__law_draw (xDice (xCons (xC (.int 10)) xNil))) xNil))) (xSl (xVar 2) (pYes (x2 oAdd (xVar 4) (xC (.int 1)))) pNo)) (xCons (xImm (xVar 3)) xNil)))) sNext) (sSeq (sSet 5 (xCall m__law_draw (xDice (xCons (x1 oLenA (x2 oIx (xVar 3) (xVar 4))) xNil)))) (sSeq (sSet 6 (x2 oAdd (x2 oAdd (xSl (x2 oIx (xVar 3) (xVar 4)) pNo (pYes (xVar 5))) (xTup (xCons (xCall m__law_draw (xDice (xCons (x1 oLenA (xVar 2)) xNil))) xNil))) (xSl (x2 oIx (xVar 3) (xVar 4)) (pYes (x2 oAdd (xVar 5) (xC (.int 1)))) pNo))) (sRet (xTup (xCons (xImm (xVar 2)) (xCons (x2 oAdd (x2 oAdd (xSl (xVar 3) pNo (pYes (xVar 4))) (xTup (xCons (xImm (xVar 6)) xNil))) (xSl (xVar 3) (pYes (x2 oAdd (xVar 4) (xC (.int 1)))) pNo)) xNil))))))))
def m__law_bent_2 : XF := fnM 7 b__law_bent_2
theorem mo__law_bent_2 : MonoF m__law_bent_2 := monoF_fn (by unfold b__law_bent_2; exact MS.all)
instance : MF m__law_bent_2 := ⟨mo__law_bent_2⟩
def b__law_book : XS := sSeq (sSet 3 (xCall m__law_draw (xDice (xCons (xC (.int 4)) xNil)))) (sSeq (sSet 4 (xCall m__law_any_book (xDice (xCons (x1 oLenA (x2 oIx (xVar 1) (xC (.int 1)))) (xCons (xVar 2) xNil))))) (sSeq (sIf (bTest (x2 oEq (xVar 3) (xC (.int 1)))) (sSet 4 (xCall m__law_turning (xDice (xCons (x1 oLenA (x2 oIx (xVar 1) (xC (.int 1)))) (xCons (xVar 2) xNil))))) sNext) (sSeq (sIf (bTest (x2 (oI fun i j => .bl (decide (j < i))) (xVar 3) (xC (.int 1)))) (sSet 4 (xCall m__law_of_desks (xDice (xCons (xVar 1) xNil)))) sNext) (sSeq (sSet 5 (xCall m__law_draw (xDice (xCons (xC (.int 4)) xNil)))) (sSeq (sIf (bTest (x2 oEq (xVar 5) (xC (.int 0)))) (sRet (xCall m__law_doubled (xDice (xCons (xVar 4) xNil)))) sNext) (sRet (xIf (bTest (x2 oEq (xVar 5) (xC (.int 1)))) (xCall m__law_bent_2 (xDice (xCons (xVar 4) xNil))) (xImm (xVar 4)))))))))
def m__law_book : XF := fnM 6 b__law_book
theorem mo__law_book : MonoF m__law_book := monoF_fn (by unfold b__law_book; exact MS.all)
instance : MF m__law_book := ⟨mo__law_book⟩
def b__law_stood : XS := sSeq (sFor (mSeq (xVar 2)) (bName 3) (sSet 1 (xImm (x2 oIx (x2 oIx (xVar 0) (xVar 1)) (xVar 3))))) (sRet (xImm (xVar 1)))
def m__law_stood : XF := fnM 4 b__law_stood
theorem mo__law_stood : MonoF m__law_stood := monoF_fn (by unfold b__law_stood; exact MS.all)
instance : MF m__law_stood := ⟨mo__law_stood⟩
end Pu
set_option Elab.async false
set_option linter.all false
set_option maxRecDepth 100000
namespace Pu
open PySem PySem.Spec PyProof.Rows L2
section
variable {A : Around} {E : Value → Shared → Prop} {s : Shared} {K : PySem.W.Frag} {prog : Program} {w : World}
theorem ifBound_b {M : Model} {x C : Addr} {ox : Obj} {od : Option Obj} {name : Str} {id : String} {args : List Value} {Q : Option Value → Shared → Prop} (X : K.In s.heap) (I : PySem.W.InstAt s.heap x ox C od) (hs : PySem.W.findIn K (.ref C) name = some (some (.builtin id))) (S : ∀ self, bindSpecial (.builtin id) self = pure (.builtin id, [self]))
    (h : wpAny M A (call (.builtin id) (.ref x :: args)) (fun v => Q (some v)) E s) : wpAny M A (callSpecialIfBound? (.ref x) name args) Q E s := by
  simp only [callSpecialIfBound?, bindSpecialIfBound?]
  refine wpAny_holding (wpAny_bind (wpAny_bind (wpAny_bind (I.type.here ((PySem.W.looks_findIn X hs).here ?_)))))
  simp only [S]
  refine wpAny_bind (wpAny_askSetting (wpAny_ite ?_))
  have fin : wpAny M A (call (.builtin id) ([.ref x] ++ args) >>= fun v => pure (some v)) Q E s := wpAny_bind (wpAny_mono h (fun v s' h' => wpAny_pure h') fun _ _ h' => h')
  split
  · exact wpAny_bind (wpAny_pure (wpAny_pure fin))
  · exact wpAny_tryCatch (wpAny_bind (wpAny_pure (wpAny_pure fin)))
theorem cmp_one {op : CmpOp} {Q : Value → Shared → Prop} {h₀ : Heap} {L : List (Addr × Obj)} {m : Nat} {x C : Addr} {ox od : Obj} {b tb : Value} (hu : A.units < cLine) (X : K.In s.heap) (I : PySem.W.InstAt s.heap x ox C od) (hb : PySem.W.Looks (model prog w) s.heap (typeOf b) tb) (hn : PySem.W.notFirst K C tb = true)
    (one : wpAny (model prog w) A (tryCompare (.ref x) (cmpInfo op).2.1 b) (fun r s' => ∃ v, r = some v ∧ Q v s') E s) : wpAny (model prog w) A (richCompare op (.ref x) b) Q E s := by
  unfold richCompare
  simp only [oneThing_ref]
  refine wpAny_holding (wpAny_bind (wpAny_cRoomFor hu ?_))
  refine wpAny_bind (I.type.here (wpAny_bind (hb.here ?_)))
  split
  · rename_i q
    have e : PySem.W.subIn K tb (.ref C) = some false := by
      rcases Bool.or_eq_true_iff.mp hn with e | e
      · rw [beq_iff_eq.mp e] at q; simp at q
      · exact beq_iff_eq.mp e
    refine wpAny_bind ((PySem.W.looks_subIn X e).here ?_)
    simp only [Bool.false_eq_true, if_false]
    refine wpAny_bind (wpAny_mono one (fun r s' z => ?_) fun _ _ e => e)
    obtain ⟨v, rfl, hq⟩ := z
    exact wpAny_pure hq
  · refine wpAny_bind (wpAny_pure ?_)
    simp only [Bool.false_eq_true, if_false]
    refine wpAny_bind (wpAny_mono one (fun r s' z => ?_) fun _ _ e => e)
    obtain ⟨v, rfl, hq⟩ := z
    exact wpAny_pure hq
theorem ne_entry {Q : Fin → Shared → Prop} {x C f : Addr} {ox od : Obj} {b : Value} (hu : A.units < cLine) (X : K.In s.heap) (I : PySem.W.InstAt s.heap x ox C od) (hs : PySem.W.findIn K (.ref C) "__eq__" = some (some (.ref f))) (hf : PySem.W.isFn K (.ref f) = true)
    (h : wpAny (model prog w) A (call (.ref f) [.ref x, b]) (fun v s' => ∃ c, v = .bool c ∧ Q (.done (.ret (.bool (!c)))) s') E s) : wpAny (model prog w) A (Builtin.«object.__ne__» ⟨[.ref x, b], []⟩) Q E s := by
  unfold Builtin.«object.__ne__»
  have go : wpAny (model prog w) A (callSpecialIfBound? (.ref x) "__eq__" [b]) (fun r s' => ∃ c, r = some (.bool c) ∧ Q (.done (.ret (.bool (!c)))) s') E s := PySem.W.ifBound_K X I hs hf (wpAny_mono h (fun v s' hv => by
    obtain ⟨c, rfl, hq⟩ := hv
    exact ⟨c, rfl, hq⟩) fun _ _ e => e)
  repeat (first | with_reducible refine wpAny_cRoomFor hu ?_ | (with_reducible refine wpAny_bind (wpAny_mono go (fun r s' hr => ?_) fun _ _ e => e)) | wp_step)
  obtain ⟨c, rfl, hq⟩ := hr
  repeat (first | with_reducible refine wpAny_truthy_bool ?_ | wp_step)
  exact hq
end
def rOwn (C : Addr) (sp : Sp) (neg : Bool) : R2 := fun x y H Q => ∃ a b dx dy fs gs, x = .ref a ∧ y = .ref b ∧ H a = some (.ins C dx fs) ∧ H b = some (.ins C dy gs) ∧ sp [.ref a, .ref b] H (fun v H' => ∃ c, v = .bl c ∧ Q (.bl (xor neg c)) H') E0
section
variable {X : Cx} {n : Nat}
theorem own_call {CX : CXT} {f : Addr} {fd : FuncData} {ps : List Str} {sp : Sp} (F : FnOk X.prog X.w X.K X.mg X.base CX n f fd ps sp) (hb : Binds X.K fd ps []) (hx : Passes CX X E0) {A : Around} (sb : Sub X n A)
    {pins : List (Addr × Obj)} {σ : L2.St} {H : Hp} {s : Shared} {a b : Addr} {Q : VK} (I : Inv X pins σ H s) (hsp : sp [.ref a, .ref b] H Q E0) : wpAny (model X.prog X.w) A (call (.ref f) [.ref a, .ref b]) (EP X pins σ Q) X.xe s := by
  have e0 : Env0 X.prog X.w X.K X.mg X.base A X.stack s H := by
    have e := I.env0
    exact ⟨by rw [sb.fr]; exact e.frames, e.mod, e.bs, e.bsz, e.funs, e.frf, e.hok, e.bare⟩
  have hl := F.len _ _ _ _ hsp
  have r2 : Vals [V.ref a, V.ref b] [Value.ref a, Value.ref b] := .cons rfl (.cons rfl .nil)
  refine wpAny_call (codeAny_mono (F.run A X.stack s H ⟨[.ref a, .ref b], []⟩ [.ref a, .ref b] [.ref a, .ref b] _ E0 sb.room e0 (by
    have := hb s [.ref a, .ref b] I.kIn (by simpa using hl)
    simpa using this) r2 hsp) fun r s' hq => ?_)
  cases r with
  | error e => exact hx pins σ H s e s' I hq
  | ok fl =>
    cases fl with
    | ret w =>
      obtain ⟨z, H', I', rz, ez⟩ := I.after hq
      exact ⟨z, H', I', rz, ez⟩
    | next => exact False.elim hq
    | brk => exact False.elim hq
    | cont => exact False.elim hq
theorem own_check {M : Model} {A : Around} {E : Value → Shared → Prop} {s : Shared} {K : PySem.W.Frag} {a C : Addr} {ox od : Obj} {rest : List Value} {Q : Unit → Shared → Prop} {id owner nm : String} (hk : builtinKind id = some .slot) (hs : splitId id = some (owner, nm)) (ha : argsOk id ⟨.ref a :: rest, []⟩) (XK : K.In s.heap) (J : PySem.W.InstAt s.heap a ox C od) (ho : PySem.W.subIn K (.ref C) (.type owner) = some true) (hq : Q () s) : wpAny M A (checkBuiltinCall id ⟨.ref a :: rest, []⟩) Q E s := by
  simp only [checkBuiltinCall, hk, hs]
  refine wpAny_bind ?_
  · unfold isInstance
    refine wpAny_bind (J.type.here ((PySem.W.looks_subIn XK ho).here ?_))
    repeat wp_step
    cases hsig : Manifest.signature? id with
    | none => exact wpAny_pure hq
    | some sig =>
      simp only [argsOk, hsig] at ha
      have h2 : Bind.checkArgs id sig ⟨.ref a :: rest, []⟩ = pure () := ha
      show wpAny M A (Bind.checkArgs id sig ⟨.ref a :: rest, []⟩) Q E _
      rw [h2]; exact wpAny_pure hq
theorem ne_check {M : Model} {A : Around} {E : Value → Shared → Prop} {s : Shared} {K : PySem.W.Frag} {a C : Addr} {ox od : Obj} {b : Value} {Q : Unit → Shared → Prop} (XK : K.In s.heap) (J : PySem.W.InstAt s.heap a ox C od) (ho : PySem.W.subIn K (.ref C) (.type "object") = some true) (hq : Q () s) : wpAny M A (checkBuiltinCall "object.__ne__" ⟨[.ref a, b], []⟩) Q E s :=
  own_check PySem.F.cmpKind_ne PySem.F.cmpSplit_ne (PySem.F.cmpArgs_ne _ _) XK J ho hq
theorem op_eqOwn {CX : CXT} {C f : Addr} {fd : FuncData} {ps : List Str} {sp : Sp} (Fn : FnOk X.prog X.w X.K X.mg X.base CX n f fd ps sp)
    (hs : PySem.W.findIn X.K (.ref C) "__eq__" = some (some (.ref f))) (hf : PySem.W.isFn X.K (.ref f) = true) (hb : Binds X.K fd ps []) (hx : Passes CX X E0) (hr : Room n X.A) : OpR X (compareOp .Eq) (rOwn C sp false) := by
  intro pins s σ H x y v u Q I rx ry hq
  obtain ⟨a, b, dx, dy, fs, gs, rfl, rfl, ha, hb', hsp⟩ := hq
  cases rx
  cases ry
  obtain ⟨mA, J, _⟩ := ins_get I.hok ha
  obtain ⟨mB, J', _⟩ := ins_get I.hok hb'
  obtain ⟨od, J, _⟩ := J.look
  obtain ⟨od', J', _⟩ := J'.look
  obtain ⟨m, hF⟩ := I.fr
  have sb : Sub X n X.A := ⟨hr, rfl⟩
  show wpAny (model X.prog X.w) X.A (richCompare .Eq (.ref a) (.ref b)) (EP X pins σ Q) X.xe s
  refine PySem.W.cmp_K (op := .Eq) (tb := .ref C) sb.room.units0 hF I.ok.mod.kin J J'.type (by simp [PySem.W.notFirst]) hs hf ?_
  refine wpAny_mono (own_call Fn hb hx sb I hsp) (fun r s' z => ?_) fun _ _ e => e
  obtain ⟨w, H', I', rz, c, rfl, q⟩ := z
  cases rz
  rw [Bool.false_xor] at q
  exact ⟨.bl c, H', I', rfl, q⟩
theorem op_neOwn {CX : CXT} {C f : Addr} {fd : FuncData} {ps : List Str} {sp : Sp} (Fn : FnOk X.prog X.w X.K X.mg X.base CX n f fd ps sp)
    (hs : PySem.W.findIn X.K (.ref C) "__eq__" = some (some (.ref f))) (hn : PySem.W.findIn X.K (.ref C) "__ne__" = some (some (.builtin "object.__ne__"))) (ho : PySem.W.subIn X.K (.ref C) (.type "object") = some true) (hf : PySem.W.isFn X.K (.ref f) = true) (hb : Binds X.K fd ps []) (hx : Passes CX X E0) (hr : Room (n + 1) X.A) : OpR X (compareOp .NotEq) (rOwn C sp true) := by
  intro pins s σ H x y v u Q I rx ry hq
  obtain ⟨a, b, dx, dy, fs, gs, rfl, rfl, ha, hb', hsp⟩ := hq
  cases rx
  cases ry
  obtain ⟨mA, J, _⟩ := ins_get I.hok ha
  obtain ⟨mB, J', _⟩ := ins_get I.hok hb'
  obtain ⟨od, J, _⟩ := J.look
  obtain ⟨od', J', _⟩ := J'.look
  obtain ⟨m, hF⟩ := I.fr
  have sb : Sub X (n + 1) X.A := ⟨hr, rfl⟩
  have XK := I.ok.mod.kin.keeps hF.keep
  show wpAny (model X.prog X.w) X.A (richCompare .NotEq (.ref a) (.ref b)) (EP X pins σ Q) X.xe s
  refine cmp_one (tb := .ref C) (h₀ := s.heap) (L := []) (m := 0) sb.room.units0 XK J J'.type (by simp [PySem.W.notFirst]) ?_
  unfold tryCompare
  refine wpAny_bind (ifBound_b XK J hn PySem.F.cmp_object.ne.bind ?_)
  refine wpAny_call (codeAny_call_builtin PySem.F.cmp_object.ne.plain PySem.F.cmpEntry_ne (ne_check XK J ho ?_))
  refine ne_entry sb.in1.room.units0 XK J hs hf ?_
  refine wpAny_mono (own_call Fn hb hx sb.in1 I hsp) (fun r s' z => ?_) fun _ _ e => e
  obtain ⟨w, H', I', rz, c, rfl, q⟩ := z
  cases rz
  refine ⟨c, rfl, ?_⟩
  rw [Bool.true_xor] at q
  exact wpAny_pure ⟨_, rfl, .bl (!c), H', I', rfl, q⟩
end
end Pu
set_option Elab.async false
set_option linter.all false
set_option maxRecDepth 100000
namespace Pu
open PySem PySem.Spec PyProof.Rows L2
structure OwnC (K : PySem.W.Frag) (C : Addr) : Prop where
  cl : Cls K C
  ha : PySem.W.findIn K (.ref C) "__class__" = some (some (.builtin "object.__class__"))
  hn : PySem.W.specialIn K (.builtin "object.__class__") "__get__" = some (some (.builtin "getset_descriptor.__get__"))
  htk : PySem.W.takesIn K (.builtin "object.__class__") = some true
  hm : PySem.W.mroIn K C (.type "object") = some true
  hne : PySem.W.findIn K (.ref C) "__ne__" = some (some (.builtin "object.__ne__"))
  ho : PySem.W.subIn K (.ref C) (.type "object") = some true
section
variable {C : Cfg} {Γ : List Mo} {te tb : TE} {A B : Kd} {m n : X1} {K : PySem.W.Frag} {S : Stat}
def oIsO (c : Nat) : O1 := fun d Q => match d with
  | .obj c' _ => c' = c ∧ Q (.bl true)
  | .fz c' _ => c' = c ∧ Q (.bl true)
  | _ => False
theorem mono_oIsO {c : Nat} : Mono1 (oIsO c) := fun d Q Q' k q => by cases d <;> first | exact ⟨q.1, k _ q.2⟩ | exact q
instance {c : Nat} : MO1 (oIsO c) := ⟨mono_oIsO⟩
theorem sim_isO {c : Nat} {Ad : Addr} (hA : C.CT c = Ad) (O : OwnC K Ad) (s : Sim C Γ te A m) : Sim C Γ (tCB (rIsi K) (tCons te (tCons (tC (.ref Ad)) tNil))) .own (x1 (oIsO c) m) :=
  ⟨fun σ H env Fs Q I h => s.run σ H env Fs _ I (s.mono env _ _ (fun d q v H1 F f dk r k => by
    subst hA
    cases r with
    | obj ea _ _ =>
      obtain ⟨hc, q⟩ := q
      subst hc
      exact ⟨_, .ref (C.CT _), .ref (C.CT _), .ref (C.CT _), true, rfl, .own _, .base (.ins ea O.cl O.ha O.hn O.htk O.hm), by unfold PySem.W.kitOne; simp, q _ H1 [] f dk (.bl _) KdOk.own_nil⟩
    | fz ea _ _ _ =>
      obtain ⟨hc, q⟩ := q
      subst hc
      exact ⟨_, .ref (C.CT _), .ref (C.CT _), .ref (C.CT _), true, rfl, .own _, .base (.ins ea O.cl O.ha O.hn O.htk O.hm), by unfold PySem.W.kitOne; simp, q _ H1 [] f dk (.bl _) KdOk.own_nil⟩
    | _ => exact (show False from q).elim) h), mono_x1 mono_oIsO s.mono⟩
def isFzI (c : Nat) (d : D) : Prop := match d with
  | .fz c' fs => c' = c ∧ immF fs = true
  | _ => False
theorem isFzI_at {CT : Nat → Addr} {H : Hp} {v : V} {d : D} {F : List Addr} {c : Nat} (r : Rp CT H v d F) (h : isFzI c d) : F = [] ∧ ∃ a dx fs, v = .ref a ∧ H a = some (.ins (CT c) dx fs) := by
  cases d with
  | fz c' gs =>
    obtain ⟨rfl, hi⟩ := h
    have e : F = [] := r.imm hi
    subst e
    cases r with
    | fz ea _ _ _ => exact ⟨rfl, _, _, _, rfl, ea⟩
  | _ => exact (show False from h).elim
def onB (neg : Bool) (z : D) (Q : D → Prop) : Prop := match z with
  | .bl b => Q (.bl (xor neg b))
  | _ => False
def xOwn (c : Nat) (mf : XF) (neg : Bool) (m n : X1) : X1 := fun env Q => m env fun d => n env fun e => isFzI c d ∧ isFzI c e ∧ mf [d, e] fun z => onB neg z Q
theorem mono_onB {Q Q' : D → Prop} {neg : Bool} (k : ∀ e, Q e → Q' e) (z : D) (q : onB neg z Q) : onB neg z Q' := by
  cases z <;> first | exact k _ q | exact q
theorem sim_own {c : Nat} {mf : XF} {neg : Bool} {Ad : Addr} (hC : C.toStat = S) (hA : S.CT c = Ad) (hm : MonoF mf) (s : Sim C Γ te A m) (s2 : Sim C Γ tb B n) : Sim C Γ (tOp (rOwn Ad (SpM S [false, false] mf) neg) te tb) .own (xOwn c mf neg m n) :=
  ⟨fun σ H env Fs Q I h => s.run σ H env Fs _ I (s.mono env _ _ (fun d q v H1 F f1 dk1 r1 k1 => by
    subst hC hA
    refine s2.run σ H1 env Fs _ (I.step f1 dk1) (s2.mono env _ _ (fun e q w H2 G f2 dk2 r2 k2 => ?_) q)
    obtain ⟨o1, o2, q⟩ := q
    obtain ⟨rfl, a, dx, fs, rfl, ea⟩ := isFzI_at r1 o1
    obtain ⟨rfl, b, dy, gs, rfl, eb⟩ := isFzI_at r2 o2
    have r1' := r1.keep f2 (fun _ m => nomatch m)
    obtain ⟨_, a', dx', fs', ev, ea'⟩ := isFzI_at r1' o1
    cases ev
    refine ⟨a, b, _, _, _, _, rfl, rfl, ea', eb, { C with pin := [] }, [d, e], [] ++ ([] ++ []), rfl, rfl, .val r1' (.val r2 .nil), dk2, NoQ.nil, hm _ _ _ (fun z q v H3 F3 f3 dk3 r3 nd3 fr3 => ?_) q⟩
    cases z with
    | bl bb =>
      cases r3
      exact ⟨bb, rfl, q _ H3 [] (f1.trans (f2.trans f3)) dk3 (.bl _) KdOk.own_nil⟩
    | _ => exact (show False from q).elim) h),
   fun env Q Q' k q => s.mono env _ _ (fun d q => s2.mono env _ _ (fun e ⟨a1, a2, q⟩ => ⟨a1, a2, hm _ _ _ (fun z q => mono_onB k z q) q⟩) q) q⟩
instance {c : Nat} {mf : XF} {neg : Bool} {m n : X1} [h : MF mf] [h1 : MX m] [h2 : MX n] : MX (xOwn c mf neg m n) := ⟨fun env Q Q' k q => h1.mono env _ _ (fun d q => h2.mono env _ _ (fun e ⟨a1, a2, q⟩ => ⟨a1, a2, h.mono _ _ _ (fun z q => mono_onB k z q) q⟩) q) q⟩
def rRepr : List V → Hp → VK → Prop := fun xs H Q => ∃ i, xs = [.int i] ∧ i.natAbs.log2 < 1920 ∧ Q (.str (toString i)) H
def oRepr : O1 := fun d Q => match d with
  | .int i => i.natAbs.log2 < 1920 ∧ Q (.str (toString i))
  | _ => False
theorem k_repr {X : Cx} : CallR X (.builtin "repr") rRepr := SkE.call_repr_int
theorem sc_repr {CT : Nat → Addr} : SimC1 CT rRepr oRepr := ⟨fun H v d F Q a q => by
  cases a with
  | int i => exact ⟨i, rfl, q.1, New.imm q.2 (.str _)⟩
  | _ => exact (show False from q).elim, fun d Q Q' k q => by cases d <;> first | exact ⟨q.1, k _ q.2⟩ | exact q⟩
instance : MO1 oRepr := ⟨(sc_repr (CT := fun _ => 0)).mono⟩
end
end Pu
set_option Elab.async false
set_option linter.all false
set_option maxRecDepth 100000
set_option synthInstance.maxHeartbeats 0
set_option synthInstance.maxSize 100000
namespace Pu
open PySem PySem.Spec PyProof.Rows L2
def b__law_row_3 : XS := sRet (x1 oTup (xLc (mRng1 (xVar 2)) (bName 3) bYes (xCall m__law_draw (xDice (xCons (xVar 1) xNil)))))
def m__law_row_3 : XF := fnM 4 b__law_row_3
theorem mo__law_row_3 : MonoF m__law_row_3 := monoF_fn (by unfold b__law_row_3; exact MS.all)
instance : MF m__law_row_3 := ⟨mo__law_row_3⟩
def b_Office___eq__ : XS := sRet (xAnd (x1 (oIsO 3) (xVar 1)) (xAnd (x2 oEq (x1 (atF 3 "desks") (xVar 0)) (x1 (atF 3 "desks") (xVar 1))) (x2 oEq (x1 (atF 3 "works") (xVar 0)) (x1 (atF 3 "works") (xVar 1)))))
def m_Office___eq__ : XF := fnM 2 b_Office___eq__
theorem mo_Office___eq__ : MonoF m_Office___eq__ := monoF_fn (by unfold b_Office___eq__; exact MS.all)
instance : MF m_Office___eq__ := ⟨mo_Office___eq__⟩
def b_Book___eq__ : XS := sRet (xAnd (x1 (oIsO 4) (xVar 1)) (xAnd (xOwn 3 m_Office___eq__ false (x1 (atF 4 "office") (xVar 0)) (x1 (atF 4 "office") (xVar 1))) (xAnd (x2 oEq (x1 (atF 4 "telling") (xVar 0)) (x1 (atF 4 "telling") (xVar 1))) (x2 oEq (x1 (atF 4 "steps") (xVar 0)) (x1 (atF 4 "steps") (xVar 1))))))
def m_Book___eq__ : XF := fnM 2 b_Book___eq__
theorem mo_Book___eq__ : MonoF m_Book___eq__ := monoF_fn (by unfold b_Book___eq__; exact MS.all)
instance : MF m_Book___eq__ := ⟨mo_Book___eq__⟩
def b_law_k42 : XS := sSeq (sFor (mRng1 (xC (.int 3))) (bName 2) (sSeq (sSet 3 (xCall m__law_office (xDice (xCons (xC (.int 5)) xNil)))) (sSeq (sAsgG (bTup 2 (bCons (bName 4) (bCons (bName 5) bNil))) (xCall m__law_book (xDice (xCons (xVar 3) (xCons (xC (.int 12)) xNil))))) (sSeq (sSet 6 (xMake 4 i_Book (xCons (xCall m__law_made (xCons (xVar 3) xNil)) (xCons (xImm (xVar 4)) (xCons (xImm (xVar 5)) xNil))))) (sSeq (sSet 7 (xC (.int 0))) (sSeq (sSet 8 (xTup xNil)) (sSeq (sFor (mRng1 (xC (.int 5))) (bName 9) (sSeq (sSet 10 (xCall m__law_row_3 (xDice (xCons (x1 oLenA (x2 oIx (xVar 3) (xC (.int 1)))) (xCons (xCall m__law_draw (xDice (xCons (xC (.int 13)) xNil))) xNil))))) (sSeq (sSet 8 (x2 oAdd (xVar 8) (xVar 10))) (sSeq (sSet 7 (xCall m__law_stood (xCons (xVar 5) (xCons (xVar 7) (xCons (xVar 10) xNil))))) (sIf (bOr (bTest (x2 oNe (x1 oRepr (xCall m_stood (xCons (xVar 6) (xCons (xVar 8) xNil)))) (x1 oRepr (xVar 7)))) (bTest (x2 oNe (x1 oRepr (xCall m_told (xCons (xVar 6) (xCons (xVar 8) xNil)))) (x1 oRepr (x2 oIx (xVar 4) (xVar 7)))))) (sRet (xC (.bl false))) sNext))))) (sSeq (sIf (bOr (bTest (x2 oNe (xCall m_stood (xCons (xVar 6) (xCons (xTup xNil) xNil))) (xC (.int 0)))) (bTest (x2 oNe (xCall m_told (xCons (xVar 6) (xCons (xTup xNil) xNil))) (x2 oIx (xVar 4) (xC (.int 0)))))) (sRet (xC (.bl false))) sNext) (sIf (bOr (bTest (xOwn 4 m_Book___eq__ true (xVar 6) (xMake 4 i_Book (xCons (xCall m__law_made (xCons (xVar 3) xNil)) (xCons (xImm (xVar 4)) (xCons (xImm (xVar 5)) xNil)))))) (bTest (x2 oNe (xCall m_stood (xCons (xVar 6) (xCons (xVar 8) xNil))) (xVar 7)))) (sRet (xC (.bl false))) sNext))))))))) (sRet (xC (.bl true)))
end Pu
set_option Elab.async false
set_option linter.all false
set_option maxRecDepth 100000
set_option synthInstance.maxHeartbeats 0
set_option synthInstance.maxSize 100000
namespace Pu
open PySem PySem.Spec PyProof.Rows L2
def topS (i : Nat) : Stmt := PySem.Challenge.pw_latestword_k42_whole_standings_and_numbe.main.body.getD i (.Pass ⟨0, 0, 0, 0⟩)
abbrev DQ0 : Addr × Addr → HO → HO → Prop := DQp
section
abbrev s_is_integer : Stmt := topS 6
abbrev s_is_number : Stmt := topS 7
abbrev s_is_below : Stmt := topS 8
abbrev s_is_lot : Stmt := topS 9
abbrev s_are_works : Stmt := topS 10
abbrev s_check_row : Stmt := topS 11
abbrev s_are_office_works : Stmt := topS 15
abbrev s_is_telling : Stmt := topS 20
abbrev s_are_standings : Stmt := topS 21
abbrev s_are_steps : Stmt := topS 22
abbrev s_led_from : Stmt := topS 24
abbrev s_stood : Stmt := topS 25
abbrev s_told : Stmt := topS 26
abbrev s__law_pool : Stmt := topS 28
abbrev s__law_draw : Stmt := topS 29
abbrev s__law_lot : Stmt := topS 30
abbrev s__law_office : Stmt := topS 31
abbrev s__law_made : Stmt := topS 32
abbrev s__law_any_book : Stmt := topS 33
abbrev s__law_turning : Stmt := topS 34
abbrev s__law_of_desks : Stmt := topS 35
abbrev s__law_doubled : Stmt := topS 36
abbrev s__law_bent : Stmt := topS 37
abbrev s__law_book : Stmt := topS 38
abbrev s__law_stood : Stmt := topS 39
abbrev s__law_row : Stmt := topS 40
abbrev s_law : Stmt := topS 41
abbrev s_Office_init : Stmt := inClass (topS 16) 0
abbrev s_Book_init : Stmt := inClass (topS 23) 0
abbrev s_Office___eq__ : Stmt := inClass (topS 16) 1
abbrev s_Book___eq__ : Stmt := inClass (topS 23) 1
structure Facts (K : PySem.W.Frag) (mg : Str → Option Value) where
  f_is_integer : Addr
  fd_is_integer : FuncData
  F_is_integer : L2.Fun K "is_integer" "is_integer" s_is_integer f_is_integer fd_is_integer
  m_is_integer : mg "is_integer" = some (.ref f_is_integer)
  f_is_number : Addr
  fd_is_number : FuncData
  F_is_number : L2.Fun K "is_number" "is_number" s_is_number f_is_number fd_is_number
  m_is_number : mg "is_number" = some (.ref f_is_number)
  f_is_below : Addr
  fd_is_below : FuncData
  F_is_below : L2.Fun K "is_below" "is_below" s_is_below f_is_below fd_is_below
  m_is_below : mg "is_below" = some (.ref f_is_below)
  f_is_lot : Addr
  fd_is_lot : FuncData
  F_is_lot : L2.Fun K "is_lot" "is_lot" s_is_lot f_is_lot fd_is_lot
  m_is_lot : mg "is_lot" = some (.ref f_is_lot)
  f_are_works : Addr
  fd_are_works : FuncData
  F_are_works : L2.Fun K "are_works" "are_works" s_are_works f_are_works fd_are_works
  m_are_works : mg "are_works" = some (.ref f_are_works)
  f_check_row : Addr
  fd_check_row : FuncData
  F_check_row : L2.Fun K "check_row" "check_row" s_check_row f_check_row fd_check_row
  m_check_row : mg "check_row" = some (.ref f_check_row)
  f_are_office_works : Addr
  fd_are_office_works : FuncData
  F_are_office_works : L2.Fun K "are_office_works" "are_office_works" s_are_office_works f_are_office_works fd_are_office_works
  m_are_office_works : mg "are_office_works" = some (.ref f_are_office_works)
  f_is_telling : Addr
  fd_is_telling : FuncData
  F_is_telling : L2.Fun K "is_telling" "is_telling" s_is_telling f_is_telling fd_is_telling
  m_is_telling : mg "is_telling" = some (.ref f_is_telling)
  f_are_standings : Addr
  fd_are_standings : FuncData
  F_are_standings : L2.Fun K "are_standings" "are_standings" s_are_standings f_are_standings fd_are_standings
  m_are_standings : mg "are_standings" = some (.ref f_are_standings)
  f_are_steps : Addr
  fd_are_steps : FuncData
  F_are_steps : L2.Fun K "are_steps" "are_steps" s_are_steps f_are_steps fd_are_steps
  m_are_steps : mg "are_steps" = some (.ref f_are_steps)
  f_led_from : Addr
  fd_led_from : FuncData
  F_led_from : L2.Fun K "led_from" "led_from" s_led_from f_led_from fd_led_from
  m_led_from : mg "led_from" = some (.ref f_led_from)
  f_stood : Addr
  fd_stood : FuncData
  F_stood : L2.Fun K "stood" "stood" s_stood f_stood fd_stood
  m_stood : mg "stood" = some (.ref f_stood)
  f_told : Addr
  fd_told : FuncData
  F_told : L2.Fun K "told" "told" s_told f_told fd_told
  m_told : mg "told" = some (.ref f_told)
  f__law_pool : Addr
  fd__law_pool : FuncData
  F__law_pool : L2.Fun K "_law_pool" "_law_pool" s__law_pool f__law_pool fd__law_pool
  m__law_pool : mg "_law_pool" = some (.ref f__law_pool)
  f__law_draw : Addr
  fd__law_draw : FuncData
  F__law_draw : L2.Fun K "_law_draw" "_law_draw" s__law_draw f__law_draw fd__law_draw
  m__law_draw : mg "_law_draw" = some (.ref f__law_draw)
  f__law_lot : Addr
  fd__law_lot : FuncData
  F__law_lot : L2.Fun K "_law_lot" "_law_lot" s__law_lot f__law_lot fd__law_lot
  m__law_lot : mg "_law_lot" = some (.ref f__law_lot)
  f__law_office : Addr
  fd__law_office : FuncData
  F__law_office : L2.Fun K "_law_office" "_law_office" s__law_office f__law_office fd__law_office
  m__law_office : mg "_law_office" = some (.ref f__law_office)
  f__law_made : Addr
  fd__law_made : FuncData
  F__law_made : L2.Fun K "_law_made" "_law_made" s__law_made f__law_made fd__law_made
  m__law_made : mg "_law_made" = some (.ref f__law_made)
  f__law_any_book : Addr
  fd__law_any_book : FuncData
  F__law_any_book : L2.Fun K "_law_any_book" "_law_any_book" s__law_any_book f__law_any_book fd__law_any_book
  m__law_any_book : mg "_law_any_book" = some (.ref f__law_any_book)
  f__law_turning : Addr
  fd__law_turning : FuncData
  F__law_turning : L2.Fun K "_law_turning" "_law_turning" s__law_turning f__law_turning fd__law_turning
  m__law_turning : mg "_law_turning" = some (.ref f__law_turning)
  f__law_of_desks : Addr
  fd__law_of_desks : FuncData
  F__law_of_desks : L2.Fun K "_law_of_desks" "_law_of_desks" s__law_of_desks f__law_of_desks fd__law_of_desks
  m__law_of_desks : mg "_law_of_desks" = some (.ref f__law_of_desks)
  f__law_doubled : Addr
  fd__law_doubled : FuncData
  F__law_doubled : L2.Fun K "_law_doubled" "_law_doubled" s__law_doubled f__law_doubled fd__law_doubled
  m__law_doubled : mg "_law_doubled" = some (.ref f__law_doubled)
  f__law_bent : Addr
  fd__law_bent : FuncData
  F__law_bent : L2.Fun K "_law_bent" "_law_bent" s__law_bent f__law_bent fd__law_bent
  m__law_bent : mg "_law_bent" = some (.ref f__law_bent)
  f__law_book : Addr
  fd__law_book : FuncData
  F__law_book : L2.Fun K "_law_book" "_law_book" s__law_book f__law_book fd__law_book
  m__law_book : mg "_law_book" = some (.ref f__law_book)
  f__law_stood : Addr
  fd__law_stood : FuncData
  F__law_stood : L2.Fun K "_law_stood" "_law_stood" s__law_stood f__law_stood fd__law_stood
  m__law_stood : mg "_law_stood" = some (.ref f__law_stood)
  f__law_row : Addr
  fd__law_row : FuncData
  F__law_row : L2.Fun K "_law_row" "_law_row" s__law_row f__law_row fd__law_row
  m__law_row : mg "_law_row" = some (.ref f__law_row)
  f_law : Addr
  fd_law : FuncData
  F_law : L2.Fun K "law" "law" s_law f_law fd_law
  m_law : mg "law" = some (.ref f_law)
  C_Office : Addr
  f_Office_init : Addr
  fd_Office_init : FuncData
  F_Office_init : L2.Fun K "__init__" "Office.__init__" s_Office_init f_Office_init fd_Office_init
  m_Office : mg "Office" = some (.ref C_Office)
  mk_Office : Mk K C_Office f_Office_init
  cl_Office : Cls K C_Office
  C_Book : Addr
  f_Book_init : Addr
  fd_Book_init : FuncData
  F_Book_init : L2.Fun K "__init__" "Book.__init__" s_Book_init f_Book_init fd_Book_init
  m_Book : mg "Book" = some (.ref C_Book)
  mk_Book : Mk K C_Book f_Book_init
  cl_Book : Cls K C_Book
  ow_Book : OwnC K C_Book
  ow_Office : OwnC K C_Office
  f_Office___eq__ : Addr
  fd_Office___eq__ : FuncData
  F_Office___eq__ : L2.Fun K "__eq__" "Office.__eq__" s_Office___eq__ f_Office___eq__ fd_Office___eq__
  h_Office___eq__ : Meth K C_Office "__eq__" f_Office___eq__
  f_Book___eq__ : Addr
  fd_Book___eq__ : FuncData
  F_Book___eq__ : L2.Fun K "__eq__" "Book.__eq__" s_Book___eq__ f_Book___eq__ fd_Book___eq__
  h_Book___eq__ : Meth K C_Book "__eq__" f_Book___eq__
  na_Book_office : NoAttr K C_Book "office"
  na_Book_steps : NoAttr K C_Book "steps"
  na_Book_telling : NoAttr K C_Book "telling"
  na_Office_desks : NoAttr K C_Office "desks"
  na_Office_works : NoAttr K C_Office "works"
  n_abs : mg "abs" = none
  n_all : mg "all" = none
  n_bool : mg "bool" = none
  n_int : mg "int" = none
  n_isinstance : mg "isinstance" = none
  n_len : mg "len" = none
  n_list : mg "list" = none
  n_range : mg "range" = none
  n_repr : mg "repr" = none
  n_set : mg "set" = none
  n_sorted : mg "sorted" = none
  n_sum : mg "sum" = none
  n_tuple : mg "tuple" = none
  n_zip : mg "zip" = none
  t_MOST_DESKS : Tok
  m_MOST_DESKS : mg "MOST_DESKS" = some (.int (6) t_MOST_DESKS)
  t_MOST_STANDINGS : Tok
  m_MOST_STANDINGS : mg "MOST_STANDINGS" = some (.int (12) t_MOST_STANDINGS)
  t_MOST_TOLD : Tok
  m_MOST_TOLD : mg "MOST_TOLD" = some (.int (9) t_MOST_TOLD)
  t_MOST_WORKS : Tok
  m_MOST_WORKS : mg "MOST_WORKS" = some (.int (10) t_MOST_WORKS)
variable {P : Program} {w : World} {K : PySem.W.Frag} {mg : Str → Option Value} {base : Heap}
def S0 (T : Facts K mg) : Stat := { CT := fun c => match c with | 3 => T.C_Office | 4 => T.C_Book | _ => 0, DQ := DQ0 }
theorem sc_is_integer : FnScope ["thing"] ["thing"] (defScope s_is_integer) := ⟨rfl, rfl, rfl, by decide +kernel, rfl, by decide +kernel, by decide +kernel⟩
theorem bn_is_integer (T : Facts K mg) : Binds K T.fd_is_integer ["thing"] [] := T.F_is_integer.binds fun _ _ _ _ _ _ us hl => match us, hl with | [_], _ => rfl
theorem ok_is_integer (T : Facts K mg) : FnOk P w K mg base CX0 1 T.f_is_integer T.fd_is_integer ["thing"] (SpM (S0 T) [false] m_is_integer) := by
  refine fn_ok (N := ["thing"]) (body := b_is_integer) (Γe := []) T.F_is_integer sc_is_integer rfl (by decide) (fun cdv A outer s H E hr => ⟨_, pss_one (ps_ret (pe_and (pe_callB (id := "isinstance") (k_isa (K := K) rfl) (by rfl) T.n_isinstance (by decide +kernel) (pa_cons (pv 0) (pa_cons (k_ty (c := "int") (by rfl) T.n_int (by decide +kernel)) pa_nil))) (pe_one (pe_not (pe_callB (id := "isinstance") (k_isa (K := K) rfl) (by rfl) T.n_isinstance (by decide +kernel) (pa_cons (pv 0) (pa_cons (k_ty (c := "bool") (by rfl) T.n_bool (by decide +kernel)) pa_nil))))))), fun q => ?_⟩)
  exact sim_ret (sim_and (sim_isa (c := "int") (sim_varF (i := 0) rfl)) (sim_not (sim_isa (c := "bool") (sim_varF (i := 0) rfl))))
theorem sc_is_number : FnScope ["thing"] ["thing"] (defScope s_is_number) := ⟨rfl, rfl, rfl, by decide +kernel, rfl, by decide +kernel, by decide +kernel⟩
theorem bn_is_number (T : Facts K mg) : Binds K T.fd_is_number ["thing"] [] := T.F_is_number.binds fun _ _ _ _ _ _ us hl => match us, hl with | [_], _ => rfl
theorem ok_is_number (T : Facts K mg) : FnOk P w K mg base CX0 2 T.f_is_number T.fd_is_number ["thing"] (SpM (S0 T) [false] m_is_number) := by
  refine fn_ok (N := ["thing"]) (body := b_is_number) (Γe := []) T.F_is_number sc_is_number rfl (by decide) (fun cdv A outer s H E hr => ⟨_, pss_one (ps_ret (pe_and (pe_call (ok_is_integer T) (hr.mono (by first | decide | omega)) (by rfl) T.m_is_integer T.F_is_integer.kp (bn_is_integer T) .nil pass0 (pa_cons (pv 0) pa_nil)) (pe_one (pe_cmpR op_ge (pv 0) pe_int (nomark _))))), fun q => ?_⟩)
  exact sim_ret (sim_and (sim_call rfl mo_is_integer (sima_val (sim_varF (i := 0) rfl) sima_nil)) (sim_op so_ge (sim_varF (i := 0) rfl) sim_int))
theorem sc_is_below : FnScope ["thing", "many"] ["thing", "many"] (defScope s_is_below) := ⟨rfl, rfl, rfl, by decide +kernel, rfl, by decide +kernel, by decide +kernel⟩
theorem bn_is_below (T : Facts K mg) : Binds K T.fd_is_below ["thing", "many"] [] := T.F_is_below.binds fun _ _ _ _ _ _ us hl => match us, hl with | [_, _], _ => rfl
theorem ok_is_below (T : Facts K mg) : FnOk P w K mg base CX0 3 T.f_is_below T.fd_is_below ["thing", "many"] (SpM (S0 T) [false, false] m_is_below) := by
  refine fn_ok (N := ["thing", "many"]) (body := b_is_below) (Γe := []) T.F_is_below sc_is_below rfl (by decide) (fun cdv A outer s H E hr => ⟨_, pss_one (ps_ret (pe_and (pe_call (ok_is_number T) (hr.mono (by first | decide | omega)) (by rfl) T.m_is_number T.F_is_number.kp (bn_is_number T) .nil pass0 (pa_cons (pv 0) pa_nil)) (pe_one (pe_cmpR op_lt (pv 0) (pv 1) (nomark _))))), fun q => ?_⟩)
  exact sim_ret (sim_and (sim_call rfl mo_is_number (sima_val (sim_varF (i := 0) rfl) sima_nil)) (sim_op so_lt (sim_varF (i := 0) rfl) (sim_varF (i := 1) rfl)))
theorem sc_is_lot : FnScope ["thing", "many", "low", "high", "part"] ["thing", "many"] (defScope s_is_lot) := ⟨rfl, rfl, rfl, by decide +kernel, rfl, by decide +kernel, by decide +kernel⟩
theorem bn_is_lot (T : Facts K mg) : Binds K T.fd_is_lot ["thing", "many"] [] := T.F_is_lot.binds fun _ _ _ _ _ _ us hl => match us, hl with | [_, _], _ => rfl
theorem ok_is_lot (T : Facts K mg) : FnOk P w K mg base CX0 4 T.f_is_lot T.fd_is_lot ["thing", "many"] (SpM (S0 T) [false, false] m_is_lot) := by
  refine fn_ok (N := ["thing", "many", "low", "high", "part"]) (body := b_is_lot) (Γe := []) T.F_is_lot sc_is_lot rfl (by decide) (fun cdv A outer s H E hr => ⟨_, pss_cons (ps_if (PW.pt (pw_or (pt_not (pt_val (pe_callB (id := "isinstance") (k_isa (K := K) rfl) (by rfl) T.n_isinstance (by decide +kernel) (pa_cons (pv 0) (pa_cons (k_ty (c := "tuple") (by rfl) T.n_tuple (by decide +kernel)) pa_nil))))) (pw_or1 (pt_not (pt_val (pe_callB (id := "all") (k_all (K := K) rfl rfl) (by rfl) T.n_all (by decide +kernel) (pa_cons (pe_lc (own := [("part", 4)]) rfl sc_is_lot.nd (k_seq (K := K) rfl (pv 0)) (blkOk_by (by rfl)) (fun _ _ _ _ _ => (pg_name (i := 4) sc_is_lot.nd rfl (by first | exact Or.inl rfl | exact Or.inr rfl))) (fun _ _ _ _ _ => pts_nil) (fun _ _ _ _ _ => (pe_call (ok_is_below T) (hr.mono (by first | decide | omega)) (by rfl) T.m_is_below T.F_is_below.kp (bn_is_below T) .nil pass0 (pa_cons (pv 4) (pa_cons (pv 1) pa_nil))))) pa_nil))))))) (pss_one (ps_ret pe_bl)) pss_nil) (pss_one (ps_ret (pe_callB (id := "all") (k_all (K := K) rfl rfl) (by rfl) T.n_all (by decide +kernel) (pa_cons (pe_lc (own := [("low", 2), ("high", 3)]) rfl sc_is_lot.nd (k_zip (K := K) rfl (by rfl) T.n_zip (pa_cons (pv 0) (pa_cons (pe_slice (k_sl (K := K) rfl) (pv 0) (po_some pe_int) po_none) pa_nil))) (blkOk_by (by rfl)) (fun _ _ _ _ _ => (k_gtup (K := K) (n := 2) rfl rfl (pgs_cons (pg_name (i := 2) sc_is_lot.nd rfl (by first | exact Or.inl rfl | exact Or.inr rfl)) (pgs_cons (pg_name (i := 3) sc_is_lot.nd rfl (by first | exact Or.inl rfl | exact Or.inr rfl)) pgs_nil)))) (fun _ _ _ _ _ => pts_nil) (fun _ _ _ _ _ => pe_cmpR op_lt (pv 2) (pv 3) (nomark _))) pa_nil)))), fun q => ?_⟩)
  exact sim_seq (sim_if (simt_or (simt_not (simt_B (sim_isa (c := "tuple") (sim_varF (i := 0) rfl)))) (simt_not (simt_B (sim_call1 sc_all (sim_lc (Γf := [.f, .f, .x, .x, .x]) (ws := [4]) (ks := [4]) (by intro k hk; exact free_nil) (simi_seq (sim_varF (i := 0) rfl)) rfl rfl (simg_name (i := 4) free_nil (by decide) (by decide)) (by decide) simt_yes (sim_call rfl mo_is_below (sima_val (sim_varF (i := 4) rfl) (sima_val (sim_varF (i := 1) rfl) sima_nil)))))))) (sim_ret sim_bl) sim_next) (sim_ret (sim_call1 sc_all (sim_lc (Γf := [.f, .f, .x, .x, .x]) (ws := [2, 3]) (ks := [2, 3]) (by intro k hk; exact free_nil) (simi_zip (siml_cons (sim_varF (i := 0) rfl) (siml_cons (sim_sl (sim_varF (i := 0) rfl) (simo_yes sim_int) simo_no) siml_nil))) rfl rfl (simg_tup (simgs_cons (simg_name (i := 2) free_nil (by decide) (by decide)) (simgs_cons (simg_name (i := 3) free_nil (by decide) (by decide)) simgs_nil))) (by decide) simt_yes (sim_op so_lt (sim_varF (i := 2) rfl) (sim_varF (i := 3) rfl)))))
theorem sc_are_works : FnScope ["office", "thing", "many", "part"] ["office", "thing"] (defScope s_are_works) := ⟨rfl, rfl, rfl, by decide +kernel, rfl, by decide +kernel, by decide +kernel⟩
theorem bn_are_works (T : Facts K mg) : Binds K T.fd_are_works ["office", "thing"] [] := T.F_are_works.binds fun _ _ _ _ _ _ us hl => match us, hl with | [_, _], _ => rfl
theorem ok_are_works (T : Facts K mg) : FnOk P w K mg base CX0 4 T.f_are_works T.fd_are_works ["office", "thing"] (SpM (S0 T) [false, false] m_are_works) := by
  refine fn_ok (N := ["office", "thing", "many", "part"]) (body := b_are_works) (Γe := []) T.F_are_works sc_are_works rfl (by decide) (fun cdv A outer s H E hr => ⟨_, pss_cons (ps_set (i := 2) sc_are_works.nd rfl (by first | exact Or.inl rfl | exact Or.inr rfl) (pe_callB (id := "len") (k_lenA (K := K) rfl) (by rfl) T.n_len (by decide +kernel) (pa_cons (k_fld (K := K) rfl (pv 0) rfl) pa_nil))) (pss_one (ps_ret (pe_and (pe_callB (id := "isinstance") (k_isa (K := K) rfl) (by rfl) T.n_isinstance (by decide +kernel) (pa_cons (pv 1) (pa_cons (k_ty (c := "tuple") (by rfl) T.n_tuple (by decide +kernel)) pa_nil))) (pe_one (pe_callB (id := "all") (k_all (K := K) rfl rfl) (by rfl) T.n_all (by decide +kernel) (pa_cons (pe_lc (own := [("part", 3)]) rfl sc_are_works.nd (k_seq (K := K) rfl (pv 1)) (blkOk_by (by rfl)) (fun _ _ _ _ _ => (pg_name (i := 3) sc_are_works.nd rfl (by first | exact Or.inl rfl | exact Or.inr rfl))) (fun _ _ _ _ _ => pts_nil) (fun _ _ _ _ _ => (pe_call (ok_is_below T) (hr.mono (by first | decide | omega)) (by rfl) T.m_is_below T.F_is_below.kp (bn_is_below T) .nil pass0 (pa_cons (pv 3) (pa_cons (pv 2) pa_nil))))) pa_nil)))))), fun q => ?_⟩)
  exact sim_seq (sim_setO (i := 2) free_nil (by decide) (sim_call1 sc_lenA (sim_fld (c0 := 3) T.cl_Office T.na_Office_works (sim_varF (i := 0) rfl)))) (sim_ret (sim_and (sim_isa (c := "tuple") (sim_varF (i := 1) rfl)) (sim_call1 sc_all (sim_lc (Γf := [.f, .f, .o, .x]) (ws := [3]) (ks := [3]) (by intro k hk; exact free_nil) (simi_seq (sim_varF (i := 1) rfl)) rfl rfl (simg_name (i := 3) free_nil (by decide) (by decide)) (by decide) simt_yes (sim_call rfl mo_is_below (sima_val (sim_varF (i := 3) rfl) (sima_val (sim_varO (i := 2) rfl) sima_nil)))))))
theorem sc_check_row : FnScope ["office", "row"] ["office", "row"] (defScope s_check_row) := ⟨rfl, rfl, rfl, by decide +kernel, rfl, by decide +kernel, by decide +kernel⟩
theorem bn_check_row (T : Facts K mg) : Binds K T.fd_check_row ["office", "row"] [] := T.F_check_row.binds fun _ _ _ _ _ _ us hl => match us, hl with | [_, _], _ => rfl
theorem ok_check_row (T : Facts K mg) : FnOk P w K mg base CX0 5 T.f_check_row T.fd_check_row ["office", "row"] (SpM (S0 T) [false, false] m_check_row) := by
  refine fn_ok (N := ["office", "row"]) (body := b_check_row) (Γe := [.f, .f]) T.F_check_row sc_check_row rfl (by decide) (fun cdv A outer s H E hr => ⟨_, pss_one (ps_if (pt_not (pt_val (pe_call (ok_are_works T) (hr.mono (by first | decide | omega)) (by rfl) T.m_are_works T.F_are_works.kp (bn_are_works T) .nil pass0 (pa_cons (pv 0) (pa_cons (pv 1) pa_nil))))) (pss_one ps_never) pss_nil), fun q => ?_⟩)
  exact sim_if (simt_not (simt_B (sim_call rfl mo_are_works (sima_val (sim_varF (i := 0) rfl) (sima_val (sim_varF (i := 1) rfl) sima_nil))))) sim_never sim_next
theorem sc_are_office_works : FnScope ["desks", "works", "lot"] ["desks", "works"] (defScope s_are_office_works) := ⟨rfl, rfl, rfl, by decide +kernel, rfl, by decide +kernel, by decide +kernel⟩
theorem bn_are_office_works (T : Facts K mg) : Binds K T.fd_are_office_works ["desks", "works"] [] := T.F_are_office_works.binds fun _ _ _ _ _ _ us hl => match us, hl with | [_, _], _ => rfl
theorem ok_are_office_works (T : Facts K mg) : FnOk P w K mg base CX0 5 T.f_are_office_works T.fd_are_office_works ["desks", "works"] (SpM (S0 T) [false, false] m_are_office_works) := by
  refine fn_ok (N := ["desks", "works", "lot"]) (body := b_are_office_works) (Γe := []) T.F_are_office_works sc_are_office_works rfl (by decide) (fun cdv A outer s H E hr => ⟨_, pss_cons (ps_if (PW.pt (pw_or (pt_not (pt_val (pe_callB (id := "isinstance") (k_isa (K := K) rfl) (by rfl) T.n_isinstance (by decide +kernel) (pa_cons (pv 1) (pa_cons (k_ty (c := "tuple") (by rfl) T.n_tuple (by decide +kernel)) pa_nil))))) (pw_or1 (pt_not (pt_chain op_le op_le pe_int (pe_callB (id := "len") (k_lenA (K := K) rfl) (by rfl) T.n_len (by decide +kernel) (pa_cons (pv 1) pa_nil)) (pe_glob (v := .int (10)) (by rfl) T.m_MOST_WORKS ⟨_, rfl⟩)))))) (pss_one (ps_ret pe_bl)) pss_nil) (pss_one (ps_ret (pe_callB (id := "all") (k_all (K := K) rfl rfl) (by rfl) T.n_all (by decide +kernel) (pa_cons (pe_lc (own := [("lot", 2)]) rfl sc_are_office_works.nd (k_seq (K := K) rfl (pv 1)) (blkOk_by (by rfl)) (fun _ _ _ _ _ => (pg_name (i := 2) sc_are_office_works.nd rfl (by first | exact Or.inl rfl | exact Or.inr rfl))) (fun _ _ _ _ _ => pts_nil) (fun _ _ _ _ _ => pe_and (pe_call (ok_is_lot T) (hr.mono (by first | decide | omega)) (by rfl) T.m_is_lot T.F_is_lot.kp (bn_is_lot T) .nil pass0 (pa_cons (pv 2) (pa_cons (pv 0) pa_nil))) (pe_one (pe_cmpR op_gt (pe_callB (id := "len") (k_lenA (K := K) rfl) (by rfl) T.n_len (by decide +kernel) (pa_cons (pv 2) pa_nil)) pe_int (nomark _))))) pa_nil)))), fun q => ?_⟩)
  exact sim_seq (sim_if (simt_or (simt_not (simt_B (sim_isa (c := "tuple") (sim_varF (i := 1) rfl)))) (simt_not (simt_test (sim_chain so_le so_le sim_int (sim_call1 sc_lenA (sim_varF (i := 1) rfl)) sim_int)))) (sim_ret sim_bl) sim_next) (sim_ret (sim_call1 sc_all (sim_lc (Γf := [.f, .f, .x]) (ws := [2]) (ks := [2]) (by intro k hk; exact free_nil) (simi_seq (sim_varF (i := 1) rfl)) rfl rfl (simg_name (i := 2) free_nil (by decide) (by decide)) (by decide) simt_yes (sim_and (sim_call rfl mo_is_lot (sima_val (sim_varF (i := 2) rfl) (sima_val (sim_varF (i := 0) rfl) sima_nil))) (sim_op so_gt (sim_call1 sc_lenA (sim_varF (i := 2) rfl)) sim_int)))))
theorem sc_Office_init : FnScope ["self", "desks", "works"] ["self", "desks", "works"] (defScope s_Office_init) := ⟨rfl, rfl, rfl, by decide +kernel, rfl, by decide +kernel, by decide +kernel⟩
theorem bn_Office_init (T : Facts K mg) : Binds K T.fd_Office_init ["self", "desks", "works"] [] := T.F_Office_init.binds fun _ _ _ _ _ _ us hl => match us, hl with | [_, _, _], _ => rfl
theorem ok_Office_init (T : Facts K mg) : FnOk P w K mg base CX0 6 T.f_Office_init T.fd_Office_init ["self", "desks", "works"] (SpI (S0 T) 3 i_Office) := by
  refine init_ok0 (N := ["self", "desks", "works"]) (n := 2) (c := 3) (body := b_Office_init) (Γe := [.o, .f, .f]) T.F_Office_init sc_Office_init rfl (by decide) rfl (fun cdv A outer s H E hr => ⟨_, pss_cons (ps_if (PW.pt (pw_or (pt_not (pt_val (pe_call (ok_is_integer T) (hr.mono (by first | decide | omega)) (by rfl) T.m_is_integer T.F_is_integer.kp (bn_is_integer T) .nil pass0 (pa_cons (pv 1) pa_nil)))) (pw_or1 (pt_not (pt_chain op_le op_le pe_int (pv 1) (pe_glob (v := .int (6)) (by rfl) T.m_MOST_DESKS ⟨_, rfl⟩)))))) (pss_one ps_never) pss_nil) (pss_cons (ps_if (pt_not (pt_val (pe_call (ok_are_office_works T) (hr.mono (by first | decide | omega)) (by rfl) T.m_are_office_works T.F_are_office_works.kp (bn_are_office_works T) .nil pass0 (pa_cons (pv 1) (pa_cons (pv 2) pa_nil))))) (pss_one ps_never) pss_nil) (pss_cons (ps_fld (pv 0) (pv 1) rfl) (pss_one (ps_fld (pv 0) (pv 2) rfl)))), fun q v => ?_⟩)
  exact sim_seq (sim_if (simt_or (simt_not (simt_B (sim_call rfl mo_is_integer (sima_val (sim_varF (i := 1) rfl) sima_nil)))) (simt_not (simt_test (sim_chain so_le so_le sim_int (sim_varF (i := 1) rfl) sim_int)))) sim_never sim_next) (sim_seq (sim_if (simt_not (simt_B (sim_call rfl mo_are_office_works (sima_val (sim_varF (i := 1) rfl) (sima_val (sim_varF (i := 2) rfl) sima_nil))))) sim_never sim_next) (sim_seq (sim_sfld (i := 0) (c0 := 3) rfl T.cl_Office T.na_Office_desks (sim_imm (sim_varF (i := 1) rfl))) (sim_sfld (i := 0) (c0 := 3) rfl T.cl_Office T.na_Office_works (sim_imm (sim_varF (i := 2) rfl)))))
theorem sc_is_telling : FnScope ["thing", "number"] ["thing"] (defScope s_is_telling) := ⟨rfl, rfl, rfl, by decide +kernel, rfl, by decide +kernel, by decide +kernel⟩
theorem bn_is_telling (T : Facts K mg) : Binds K T.fd_is_telling ["thing"] [] := T.F_is_telling.binds fun _ _ _ _ _ _ us hl => match us, hl with | [_], _ => rfl
theorem ok_is_telling (T : Facts K mg) : FnOk P w K mg base CX0 4 T.f_is_telling T.fd_is_telling ["thing"] (SpM (S0 T) [false] m_is_telling) := by
  refine fn_ok (N := ["thing", "number"]) (body := b_is_telling) (Γe := []) T.F_is_telling sc_is_telling rfl (by decide) (fun cdv A outer s H E hr => ⟨_, pss_cons (ps_if (PW.pt (pw_or (pt_not (pt_val (pe_callB (id := "isinstance") (k_isa (K := K) rfl) (by rfl) T.n_isinstance (by decide +kernel) (pa_cons (pv 0) (pa_cons (k_ty (c := "tuple") (by rfl) T.n_tuple (by decide +kernel)) pa_nil))))) (pw_or1 (pt_not (pt_chain op_le op_le pe_int (pe_callB (id := "len") (k_lenA (K := K) rfl) (by rfl) T.n_len (by decide +kernel) (pa_cons (pv 0) pa_nil)) (pe_glob (v := .int (12)) (by rfl) T.m_MOST_STANDINGS ⟨_, rfl⟩)))))) (pss_one (ps_ret pe_bl)) pss_nil) (pss_one (ps_ret (pe_callB (id := "all") (k_all (K := K) rfl rfl) (by rfl) T.n_all (by decide +kernel) (pa_cons (pe_lc (own := [("number", 1)]) rfl sc_is_telling.nd (k_seq (K := K) rfl (pv 0)) (blkOk_by (by rfl)) (fun _ _ _ _ _ => (pg_name (i := 1) sc_is_telling.nd rfl (by first | exact Or.inl rfl | exact Or.inr rfl))) (fun _ _ _ _ _ => pts_nil) (fun _ _ _ _ _ => (pe_call (ok_is_below T) (hr.mono (by first | decide | omega)) (by rfl) T.m_is_below T.F_is_below.kp (bn_is_below T) .nil pass0 (pa_cons (pv 1) (pa_cons (pe_op (k_add (K := K) rfl) (pe_glob (v := .int (9)) (by rfl) T.m_MOST_TOLD ⟨_, rfl⟩) pe_int) pa_nil))))) pa_nil)))), fun q => ?_⟩)
  exact sim_seq (sim_if (simt_or (simt_not (simt_B (sim_isa (c := "tuple") (sim_varF (i := 0) rfl)))) (simt_not (simt_test (sim_chain so_le so_le sim_int (sim_call1 sc_lenA (sim_varF (i := 0) rfl)) sim_int)))) (sim_ret sim_bl) sim_next) (sim_ret (sim_call1 sc_all (sim_lc (Γf := [.f, .x]) (ws := [1]) (ks := [1]) (by intro k hk; exact free_nil) (simi_seq (sim_varF (i := 0) rfl)) rfl rfl (simg_name (i := 1) free_nil (by decide) (by decide)) (by decide) simt_yes (sim_call rfl mo_is_below (sima_val (sim_varF (i := 1) rfl) (sima_val (sim_op so_add sim_int sim_int) sima_nil))))))
theorem sc_are_standings : FnScope ["thing", "length", "many", "part"] ["thing", "length", "many"] (defScope s_are_standings) := ⟨rfl, rfl, rfl, by decide +kernel, rfl, by decide +kernel, by decide +kernel⟩
theorem bn_are_standings (T : Facts K mg) : Binds K T.fd_are_standings ["thing", "length", "many"] [] := T.F_are_standings.binds fun _ _ _ _ _ _ us hl => match us, hl with | [_, _, _], _ => rfl
theorem ok_are_standings (T : Facts K mg) : FnOk P w K mg base CX0 4 T.f_are_standings T.fd_are_standings ["thing", "length", "many"] (SpM (S0 T) [false, false, false] m_are_standings) := by
  refine fn_ok (N := ["thing", "length", "many", "part"]) (body := b_are_standings) (Γe := []) T.F_are_standings sc_are_standings rfl (by decide) (fun cdv A outer s H E hr => ⟨_, pss_cons (ps_if (PW.pt (pw_or (pt_not (pt_val (pe_callB (id := "isinstance") (k_isa (K := K) rfl) (by rfl) T.n_isinstance (by decide +kernel) (pa_cons (pv 0) (pa_cons (k_ty (c := "tuple") (by rfl) T.n_tuple (by decide +kernel)) pa_nil))))) (pw_or1 (pt_cmpR (k_ne (K := K) rfl (rm64 hr)) (pe_callB (id := "len") (k_lenA (K := K) rfl) (by rfl) T.n_len (by decide +kernel) (pa_cons (pv 0) pa_nil)) (pv 1) (nomark _))))) (pss_one (ps_ret pe_bl)) pss_nil) (pss_one (ps_ret (pe_callB (id := "all") (k_all (K := K) rfl rfl) (by rfl) T.n_all (by decide +kernel) (pa_cons (pe_lc (own := [("part", 3)]) rfl sc_are_standings.nd (k_seq (K := K) rfl (pv 0)) (blkOk_by (by rfl)) (fun _ _ _ _ _ => (pg_name (i := 3) sc_are_standings.nd rfl (by first | exact Or.inl rfl | exact Or.inr rfl))) (fun _ _ _ _ _ => pts_nil) (fun _ _ _ _ _ => (pe_call (ok_is_below T) (hr.mono (by first | decide | omega)) (by rfl) T.m_is_below T.F_is_below.kp (bn_is_below T) .nil pass0 (pa_cons (pv 3) (pa_cons (pv 2) pa_nil))))) pa_nil)))), fun q => ?_⟩)
  exact sim_seq (sim_if (simt_or (simt_not (simt_B (sim_isa (c := "tuple") (sim_varF (i := 0) rfl)))) (simt_test (sim_op so_ne (sim_call1 sc_lenA (sim_varF (i := 0) rfl)) (sim_varF (i := 1) rfl)))) (sim_ret sim_bl) sim_next) (sim_ret (sim_call1 sc_all (sim_lc (Γf := [.f, .f, .f, .x]) (ws := [3]) (ks := [3]) (by intro k hk; exact free_nil) (simi_seq (sim_varF (i := 0) rfl)) rfl rfl (simg_name (i := 3) free_nil (by decide) (by decide)) (by decide) simt_yes (sim_call rfl mo_is_below (sima_val (sim_varF (i := 3) rfl) (sima_val (sim_varF (i := 2) rfl) sima_nil))))))
theorem sc_are_steps : FnScope ["office", "many", "thing", "part"] ["office", "many", "thing"] (defScope s_are_steps) := ⟨rfl, rfl, rfl, by decide +kernel, rfl, by decide +kernel, by decide +kernel⟩
theorem bn_are_steps (T : Facts K mg) : Binds K T.fd_are_steps ["office", "many", "thing"] [] := T.F_are_steps.binds fun _ _ _ _ _ _ us hl => match us, hl with | [_, _, _], _ => rfl
theorem ok_are_steps (T : Facts K mg) : FnOk P w K mg base CX0 5 T.f_are_steps T.fd_are_steps ["office", "many", "thing"] (SpM (S0 T) [false, false, false] m_are_steps) := by
  refine fn_ok (N := ["office", "many", "thing", "part"]) (body := b_are_steps) (Γe := []) T.F_are_steps sc_are_steps rfl (by decide) (fun cdv A outer s H E hr => ⟨_, pss_cons (ps_if (PW.pt (pw_or (pt_not (pt_val (pe_callB (id := "isinstance") (k_isa (K := K) rfl) (by rfl) T.n_isinstance (by decide +kernel) (pa_cons (pv 2) (pa_cons (k_ty (c := "tuple") (by rfl) T.n_tuple (by decide +kernel)) pa_nil))))) (pw_or1 (pt_cmpR (k_ne (K := K) rfl (rm64 hr)) (pe_callB (id := "len") (k_lenA (K := K) rfl) (by rfl) T.n_len (by decide +kernel) (pa_cons (pv 2) pa_nil)) (pv 1) (nomark _))))) (pss_one (ps_ret pe_bl)) pss_nil) (pss_one (ps_ret (pe_callB (id := "all") (k_all (K := K) rfl rfl) (by rfl) T.n_all (by decide +kernel) (pa_cons (pe_lc (own := [("part", 3)]) rfl sc_are_steps.nd (k_seq (K := K) rfl (pv 2)) (blkOk_by (by rfl)) (fun _ _ _ _ _ => (pg_name (i := 3) sc_are_steps.nd rfl (by first | exact Or.inl rfl | exact Or.inr rfl))) (fun _ _ _ _ _ => pts_nil) (fun _ _ _ _ _ => (pe_call (ok_are_standings T) (hr.mono (by first | decide | omega)) (by rfl) T.m_are_standings T.F_are_standings.kp (bn_are_standings T) .nil pass0 (pa_cons (pv 3) (pa_cons (pe_callB (id := "len") (k_lenA (K := K) rfl) (by rfl) T.n_len (by decide +kernel) (pa_cons (k_fld (K := K) rfl (pv 0) rfl) pa_nil)) (pa_cons (pv 1) pa_nil)))))) pa_nil)))), fun q => ?_⟩)
  exact sim_seq (sim_if (simt_or (simt_not (simt_B (sim_isa (c := "tuple") (sim_varF (i := 2) rfl)))) (simt_test (sim_op so_ne (sim_call1 sc_lenA (sim_varF (i := 2) rfl)) (sim_varF (i := 1) rfl)))) (sim_ret sim_bl) sim_next) (sim_ret (sim_call1 sc_all (sim_lc (Γf := [.f, .f, .f, .x]) (ws := [3]) (ks := [3]) (by intro k hk; exact free_nil) (simi_seq (sim_varF (i := 2) rfl)) rfl rfl (simg_name (i := 3) free_nil (by decide) (by decide)) (by decide) simt_yes (sim_call rfl mo_are_standings (sima_val (sim_varF (i := 3) rfl) (sima_val (sim_call1 sc_lenA (sim_fld (c0 := 3) T.cl_Office T.na_Office_works (sim_varF (i := 0) rfl))) (sima_val (sim_varF (i := 1) rfl) sima_nil)))))))
theorem sc_Book_init : FnScope ["self", "office", "telling", "steps"] ["self", "office", "telling", "steps"] (defScope s_Book_init) := ⟨rfl, rfl, rfl, by decide +kernel, rfl, by decide +kernel, by decide +kernel⟩
theorem bn_Book_init (T : Facts K mg) : Binds K T.fd_Book_init ["self", "office", "telling", "steps"] [] := T.F_Book_init.binds fun _ _ _ _ _ _ us hl => match us, hl with | [_, _, _, _], _ => rfl
theorem ok_Book_init (T : Facts K mg) : FnOk P w K mg base CX0 6 T.f_Book_init T.fd_Book_init ["self", "office", "telling", "steps"] (SpI (S0 T) 4 i_Book) := by
  refine init_ok0 (N := ["self", "office", "telling", "steps"]) (n := 3) (c := 4) (body := b_Book_init) (Γe := [.o, .f, .f, .f]) T.F_Book_init sc_Book_init rfl (by decide) rfl (fun cdv A outer s H E hr => ⟨_, pss_cons (ps_if (pt_not (pt_val (pe_call (ok_is_telling T) (hr.mono (by first | decide | omega)) (by rfl) T.m_is_telling T.F_is_telling.kp (bn_is_telling T) .nil pass0 (pa_cons (pv 2) pa_nil)))) (pss_one ps_never) pss_nil) (pss_cons (ps_if (pt_not (pt_val (pe_call (ok_are_steps T) (hr.mono (by first | decide | omega)) (by rfl) T.m_are_steps T.F_are_steps.kp (bn_are_steps T) .nil pass0 (pa_cons (pv 1) (pa_cons (pe_callB (id := "len") (k_lenA (K := K) rfl) (by rfl) T.n_len (by decide +kernel) (pa_cons (pv 2) pa_nil)) (pa_cons (pv 3) pa_nil)))))) (pss_one ps_never) pss_nil) (pss_cons (ps_fld (pv 0) (pv 1) rfl) (pss_cons (ps_fld (pv 0) (pv 2) rfl) (pss_one (ps_fld (pv 0) (pv 3) rfl))))), fun q v => ?_⟩)
  exact sim_seq (sim_if (simt_not (simt_B (sim_call rfl mo_is_telling (sima_val (sim_varF (i := 2) rfl) sima_nil)))) sim_never sim_next) (sim_seq (sim_if (simt_not (simt_B (sim_call rfl mo_are_steps (sima_val (sim_varF (i := 1) rfl) (sima_val (sim_call1 sc_lenA (sim_varF (i := 2) rfl)) (sima_val (sim_varF (i := 3) rfl) sima_nil)))))) sim_never sim_next) (sim_seq (sim_sfld (i := 0) (c0 := 4) rfl T.cl_Book T.na_Book_office (sim_imm (sim_varF (i := 1) rfl))) (sim_seq (sim_sfld (i := 0) (c0 := 4) rfl T.cl_Book T.na_Book_telling (sim_imm (sim_varF (i := 2) rfl))) (sim_sfld (i := 0) (c0 := 4) rfl T.cl_Book T.na_Book_steps (sim_imm (sim_varF (i := 3) rfl))))))
theorem sc_led_from : FnScope ["book", "standing", "row", "work"] ["book", "standing", "row"] (defScope s_led_from) := ⟨rfl, rfl, rfl, by decide +kernel, rfl, by decide +kernel, by decide +kernel⟩
theorem bn_led_from (T : Facts K mg) : Binds K T.fd_led_from ["book", "standing", "row"] [] := T.F_led_from.binds fun _ _ _ _ _ _ us hl => match us, hl with | [_, _, _], _ => rfl
theorem ok_led_from (T : Facts K mg) : FnOk P w K mg base CX0 1 T.f_led_from T.fd_led_from ["book", "standing", "row"] (SpM (S0 T) [false, false, false] m_led_from) := by
  refine fn_ok (N := ["book", "standing", "row", "work"]) (body := b_led_from) (Γe := []) T.F_led_from sc_led_from rfl (by decide) (fun cdv A outer s H E hr => ⟨_, pss_cons (ps_for PassesOwn.never rfl (k_seq (K := K) rfl (pv 2)) (pg_name (i := 3) sc_led_from.nd rfl (by first | exact Or.inl rfl | exact Or.inr rfl)) (pss_one (ps_set (i := 1) sc_led_from.nd rfl (by first | exact Or.inl rfl | exact Or.inr rfl) (pe_ix (k_ix (K := K) rfl (rm1 hr)) (pe_ix (k_ix (K := K) rfl (rm1 hr)) (k_fld (K := K) rfl (pv 0) rfl) (pv 1) (fun _ _ => rfl)) (pv 3) (fun _ _ => rfl))))) (pss_one (ps_ret (pv 1))), fun q => ?_⟩)
  exact sim_seq (sim_for (Γl := [.f, .f, .f, .x]) (simi_seq (sim_varF (i := 2) rfl)) rfl rfl (simg_name (i := 3) free_nil (by decide) (by decide)) (sim_setO (i := 1) free_nil (by decide) (sim_imm (sim_part so_ix (sim_part so_ix (sim_fld (c0 := 4) T.cl_Book T.na_Book_steps (sim_varF (i := 0) rfl)) (sim_varF (i := 1) rfl)) (sim_varF (i := 3) rfl)))) rfl) (sim_ret (sim_imm (sim_varF (i := 1) rfl)))
theorem sc_stood : FnScope ["book", "row"] ["book", "row"] (defScope s_stood) := ⟨rfl, rfl, rfl, by decide +kernel, rfl, by decide +kernel, by decide +kernel⟩
theorem bn_stood (T : Facts K mg) : Binds K T.fd_stood ["book", "row"] [] := T.F_stood.binds fun _ _ _ _ _ _ us hl => match us, hl with | [_, _], _ => rfl
theorem ok_stood (T : Facts K mg) : FnOk P w K mg base CX0 6 T.f_stood T.fd_stood ["book", "row"] (SpM (S0 T) [false, false] m_stood) := by
  refine fn_ok (N := ["book", "row"]) (body := b_stood) (Γe := []) T.F_stood sc_stood rfl (by decide) (fun cdv A outer s H E hr => ⟨_, pss_cons (ps_expr (pe_call (ok_check_row T) (hr.mono (by first | decide | omega)) (by rfl) T.m_check_row T.F_check_row.kp (bn_check_row T) .nil pass0 (pa_cons (k_fld (K := K) rfl (pv 0) rfl) (pa_cons (pv 1) pa_nil)))) (pss_one (ps_ret (pe_call (ok_led_from T) (hr.mono (by first | decide | omega)) (by rfl) T.m_led_from T.F_led_from.kp (bn_led_from T) .nil pass0 (pa_cons (pv 0) (pa_cons pe_int (pa_cons (pv 1) pa_nil)))))), fun q => ?_⟩)
  exact sim_seq (sim_drop (sim_call rfl mo_check_row (sima_val (sim_fld (c0 := 4) T.cl_Book T.na_Book_office (sim_varF (i := 0) rfl)) (sima_val (sim_varF (i := 1) rfl) sima_nil)))) (sim_ret (sim_call rfl mo_led_from (sima_val (sim_varF (i := 0) rfl) (sima_val sim_int (sima_val (sim_varF (i := 1) rfl) sima_nil)))))
theorem sc_told : FnScope ["book", "row"] ["book", "row"] (defScope s_told) := ⟨rfl, rfl, rfl, by decide +kernel, rfl, by decide +kernel, by decide +kernel⟩
theorem bn_told (T : Facts K mg) : Binds K T.fd_told ["book", "row"] [] := T.F_told.binds fun _ _ _ _ _ _ us hl => match us, hl with | [_, _], _ => rfl
theorem ok_told (T : Facts K mg) : FnOk P w K mg base CX0 7 T.f_told T.fd_told ["book", "row"] (SpM (S0 T) [false, false] m_told) := by
  refine fn_ok (N := ["book", "row"]) (body := b_told) (Γe := []) T.F_told sc_told rfl (by decide) (fun cdv A outer s H E hr => ⟨_, pss_one (ps_ret (pe_ix (k_ix (K := K) rfl (rm1 hr)) (k_fld (K := K) rfl (pv 0) rfl) (pe_call (ok_stood T) (hr.mono (by first | decide | omega)) (by rfl) T.m_stood T.F_stood.kp (bn_stood T) .nil pass0 (pa_cons (pv 0) (pa_cons (pv 1) pa_nil))) (fun _ _ => rfl))), fun q => ?_⟩)
  exact sim_ret (sim_imm (sim_part so_ix (sim_fld (c0 := 4) T.cl_Book T.na_Book_telling (sim_varF (i := 0) rfl)) (sim_call rfl mo_stood (sima_val (sim_varF (i := 0) rfl) (sima_val (sim_varF (i := 1) rfl) sima_nil)))))
theorem sc__law_pool : FnScope ["script", "seed", "cell"] ["script"] (defScope s__law_pool) := ⟨rfl, rfl, rfl, by decide +kernel, rfl, by decide +kernel, by decide +kernel⟩
theorem bn__law_pool (T : Facts K mg) : Binds K T.fd__law_pool ["script"] [] := T.F__law_pool.binds fun _ _ _ _ _ _ us hl => match us, hl with | [_], _ => rfl
theorem ok__law_pool (T : Facts K mg) : FnOk P w K mg base CX0 1 T.f__law_pool T.fd__law_pool ["script"] (spPool K) := pool_ok T.F__law_pool sc__law_pool (fun cdv A outer s H E hr => (pss_cons (ps_set (i := 1) sc__law_pool.nd rfl (by first | exact Or.inl rfl | exact Or.inr rfl) (pe_op op_add (pe_op op_add (pe_op op_modN (pe_callTy (T := "int") call_int1 (by rfl) T.n_int (by decide +kernel) (pa_cons (pe_callB (id := "sum") (cr_sum rfl) (by rfl) T.n_sum (by decide +kernel) (pa_cons (pe_slice sl_list (pv 0) po_none (po_some pe_int)) pa_nil)) pa_nil)) pe_int) (pe_callB (id := "len") call_len_seq (by rfl) T.n_len (by decide +kernel) (pa_cons (pv 0) pa_nil))) pe_int)) (pss_cons (ps_for PassesOwn.never rfl (pi_list (pe_slice sl_list (pv 0) po_none (po_some pe_int))) (pg_name (i := 2) sc__law_pool.nd rfl (by first | exact Or.inl rfl | exact Or.inr rfl)) (pss_one (ps_set (i := 1) sc__law_pool.nd rfl (by first | exact Or.inl rfl | exact Or.inr rfl) (pe_op op_modN (pe_callTy (T := "int") call_int1 (by rfl) T.n_int (by decide +kernel) (pa_cons (pe_op op_add (pe_op op_add (pe_op op_mul (pv 1) pe_int) (pe_op op_modN (pe_callTy (T := "int") call_int1 (by rfl) T.n_int (by decide +kernel) (pa_cons (pv 2) pa_nil)) pe_int)) pe_int) pa_nil)) pe_int)))) (pss_one (ps_ret (pe_lst (pa_cons (pv 1) (pa_cons pe_int (pa_cons (pe_lc (own := [("cell", 2)]) rfl sc__law_pool.nd (pi_list (pe_slice sl_list (pv 0) po_none (po_some pe_int))) (blkOk_by (by rfl)) (fun _ _ _ _ _ => (pg_name (i := 2) sc__law_pool.nd rfl (by first | exact Or.inl rfl | exact Or.inr rfl))) (fun _ _ _ _ _ => pts_one (pt_cmpR op_ge (pe_callB (id := "abs") call_abs (by rfl) T.n_abs (by decide +kernel) (pa_cons (pv 2) pa_nil)) (pe_op op_pow pe_int pe_int) (nomark _))) (fun _ _ _ _ _ => (pe_callB (id := "abs") call_abs (by rfl) T.n_abs (by decide +kernel) (pa_cons (pv 2) pa_nil)))) pa_nil)))))))))
theorem sc__law_draw : FnScope ["pool", "many", "cells", "digit", "mixed"] ["pool", "many"] (defScope s__law_draw) := ⟨rfl, rfl, rfl, by decide +kernel, rfl, by decide +kernel, by decide +kernel⟩
theorem bn__law_draw (T : Facts K mg) : Binds K T.fd__law_draw ["pool", "many"] [] := T.F__law_draw.binds fun _ _ _ _ _ _ us hl => match us, hl with | [_, _], _ => rfl
theorem ok__law_draw (T : Facts K mg) : FnOk P w K mg base CX0 1 T.f__law_draw T.fd__law_draw ["pool", "many"] (SpM (S0 T) [true, false] m__law_draw) :=
  drawP_ok (N := ["pool", "many", "cells", "digit", "mixed"]) T.F__law_draw sc__law_draw rfl rfl rfl (fun cdv A outer s H E hr => (pss_cons (ps_asg (pe_op op_add (pe_ix ix_list (pv 0) pe_int (fun _ _ => rfl)) pe_int) (pg_sub (pv 0) pe_int set_list)) (pss_cons (ps_set (i := 2) sc__law_draw.nd rfl (by first | exact Or.inl rfl | exact Or.inr rfl) (pe_ix ix_list (pv 0) pe_int (fun _ _ => rfl))) (pss_cons (ps_if (pt_cmpR op_gt (pe_callB (id := "len") call_len_seq (by rfl) T.n_len (by decide +kernel) (pa_cons (pv 2) pa_nil)) pe_int (nomark _)) (pss_cons (ps_set (i := 3) sc__law_draw.nd rfl (by first | exact Or.inl rfl | exact Or.inr rfl) (pe_op op_modN (pe_callTy (T := "int") call_int1 (by rfl) T.n_int (by decide +kernel) (pa_cons (pe_ix ix_list (pv 2) pe_int (fun _ _ => rfl)) pa_nil)) (pv 1))) (pss_cons (ps_asg (pe_op op_fdivN (pe_callTy (T := "int") call_int1 (by rfl) T.n_int (by decide +kernel) (pa_cons (pe_ix ix_list (pv 2) pe_int (fun _ _ => rfl)) pa_nil)) (pv 1)) (pg_sub (pv 2) pe_int set_list)) (pss_cons (ps_if (pt_cmpR op_eq (pe_ix ix_list (pv 2) pe_int (fun _ _ => rfl)) pe_int (nomark _)) (pss_one (ps_expr (pe_bm PySem.F.plainAttrs_list PySem.F.slot_list_pop PySem.F.type_list_pop mt_popAt (pv 2) (pa_cons pe_int pa_nil)))) pss_nil) (pss_one (ps_ret (pv 3)))))) pss_nil) (pss_cons (ps_set (i := 4) sc__law_draw.nd rfl (by first | exact Or.inl rfl | exact Or.inr rfl) (pe_op op_modN (pe_callTy (T := "int") call_int1 (by rfl) T.n_int (by decide +kernel) (pa_cons (pe_op op_mul (pe_op op_add (pe_ix ix_list (pv 0) pe_int (fun _ _ => rfl)) (pe_op op_mul pe_int (pe_ix ix_list (pv 0) pe_int (fun _ _ => rfl)))) pe_int) pa_nil)) pe_int)) (pss_cons (ps_set (i := 4) sc__law_draw.nd rfl (by first | exact Or.inl rfl | exact Or.inr rfl) (pe_op op_modN (pe_callTy (T := "int") call_int1 (by rfl) T.n_int (by decide +kernel) (pa_cons (pe_op op_mul (pv 4) (pe_op op_add (pe_op op_fdivN (pv 4) pe_int) pe_int)) pa_nil)) pe_int)) (pss_cons (ps_set (i := 4) sc__law_draw.nd rfl (by first | exact Or.inl rfl | exact Or.inr rfl) (pe_op op_modN (pe_callTy (T := "int") call_int1 (by rfl) T.n_int (by decide +kernel) (pa_cons (pe_op op_mul (pv 4) (pe_op op_add (pe_op op_fdivN (pv 4) pe_int) pe_int)) pa_nil)) pe_int)) (pss_one (ps_ret (pe_op op_modN (pe_callTy (T := "int") call_int1 (by rfl) T.n_int (by decide +kernel) (pa_cons (pe_op op_fdivN (pv 4) pe_int) pa_nil)) (pv 1)))))))))))
theorem sc__law_lot : FnScope ["pool", "below", "lot", "one"] ["pool", "below"] (defScope s__law_lot) := ⟨rfl, rfl, rfl, by decide +kernel, rfl, by decide +kernel, by decide +kernel⟩
theorem bn__law_lot (T : Facts K mg) : Binds K T.fd__law_lot ["pool", "below"] [] := T.F__law_lot.binds fun _ _ _ _ _ _ us hl => match us, hl with | [_, _], _ => rfl
theorem ok__law_lot (T : Facts K mg) : FnOk P w K mg base CX0 2 T.f__law_lot T.fd__law_lot ["pool", "below"] (SpM (S0 T) [true, false] m__law_lot_2) := by
  refine fn_ok (N := ["pool", "below", "lot", "one"]) (body := b__law_lot_2) (Γe := []) T.F__law_lot sc__law_lot rfl (by decide) (fun cdv A outer s H E hr => ⟨_, pss_cons (ps_set (i := 2) sc__law_lot.nd rfl (by first | exact Or.inl rfl | exact Or.inr rfl) (pe_callTy (T := "tuple") (k_tuple (K := K) rfl) (by rfl) T.n_tuple (by decide +kernel) (pa_cons (pe_lc (own := [("one", 3)]) rfl sc__law_lot.nd (pi_range1 (by rfl) T.n_range (pa_cons (pv 1) pa_nil)) (blkOk_by (by rfl)) (fun _ _ _ _ _ => (pg_name (i := 3) sc__law_lot.nd rfl (by first | exact Or.inl rfl | exact Or.inr rfl))) (fun _ _ _ _ _ => pts_one (pt_cmpR (k_eq (K := K) rfl (rm64 hr)) (pe_call (ok__law_draw T) (hr.mono (by first | decide | omega)) (by rfl) T.m__law_draw T.F__law_draw.kp (bn__law_draw T) .nil pass0 (pa_cons (pv 0) (pa_cons pe_int pa_nil))) pe_int (nomark _))) (fun _ _ _ _ _ => (pv 3))) pa_nil))) (pss_one (ps_ret (pe_ifExp (pt_cmpR op_gt (pe_callB (id := "len") (k_lenA (K := K) rfl) (by rfl) T.n_len (by decide +kernel) (pa_cons (pv 2) pa_nil)) pe_int (nomark _)) (pv 2) (pe_tup (pa_cons (pe_call (ok__law_draw T) (hr.mono (by first | decide | omega)) (by rfl) T.m__law_draw T.F__law_draw.kp (bn__law_draw T) .nil pass0 (pa_cons (pv 0) (pa_cons (pv 1) pa_nil))) pa_nil))))), fun q => ?_⟩)
  exact sim_seq (sim_setO (i := 2) free_nil (by decide) (sim_call1 sc_tup (sim_lc (Γf := [.q, .f, .x, .x]) (ws := [3]) (ks := [3]) (by intro k hk; exact free_nil) (simi_rng1 (sim_varF (i := 1) rfl)) rfl rfl (simg_name (i := 3) free_nil (by decide) (by decide)) (by decide) (simt_test (sim_op so_eq (sim_call rfl mo__law_draw (sima_dice (i := 0) rfl (sima_val sim_int sima_nil))) sim_int)) (sim_imm (sim_varF (i := 3) rfl))))) (sim_ret (sim_if2 (simt_test (sim_op so_gt (sim_call1 sc_lenA (sim_varO (i := 2) rfl)) sim_int)) (sim_imm (sim_varO (i := 2) rfl)) (sim_tup (siml_cons (A := .own) (B := .own) (sim_call rfl mo__law_draw (sima_dice (i := 0) rfl (sima_val (sim_varF (i := 1) rfl) sima_nil))) siml_nil))))
theorem sc__law_office : FnScope ["pool", "most", "desks", "many", "kind", "k"] ["pool", "most"] (defScope s__law_office) := ⟨rfl, rfl, rfl, by decide +kernel, rfl, by decide +kernel, by decide +kernel⟩
theorem bn__law_office (T : Facts K mg) : Binds K T.fd__law_office ["pool", "most"] [] := T.F__law_office.binds fun _ _ _ _ _ _ us hl => match us, hl with | [_, _], _ => rfl
theorem ok__law_office (T : Facts K mg) : FnOk P w K mg base CX0 3 T.f__law_office T.fd__law_office ["pool", "most"] (SpM (S0 T) [true, false] m__law_office) := by
  refine fn_ok (N := ["pool", "most", "desks", "many", "kind", "k"]) (body := b__law_office) (Γe := []) T.F__law_office sc__law_office rfl (by decide) (fun cdv A outer s H E hr => ⟨_, pss_cons (ps_set (i := 2) sc__law_office.nd rfl (by first | exact Or.inl rfl | exact Or.inr rfl) (pe_ix (k_ix (K := K) rfl (rm1 hr)) (pe_lst (pa_cons pe_int (pa_cons pe_int (pa_cons pe_int (pa_cons pe_int (pa_cons pe_int (pa_cons pe_int (pa_cons pe_int pa_nil)))))))) (pe_call (ok__law_draw T) (hr.mono (by first | decide | omega)) (by rfl) T.m__law_draw T.F__law_draw.kp (bn__law_draw T) .nil pass0 (pa_cons (pv 0) (pa_cons pe_int pa_nil))) (fun _ _ => rfl))) (pss_cons (ps_set (i := 3) sc__law_office.nd rfl (by first | exact Or.inl rfl | exact Or.inr rfl) (pe_op (k_add (K := K) rfl) pe_int (pe_call (ok__law_draw T) (hr.mono (by first | decide | omega)) (by rfl) T.m__law_draw T.F__law_draw.kp (bn__law_draw T) .nil pass0 (pa_cons (pv 0) (pa_cons (pv 1) pa_nil))))) (pss_cons (ps_set (i := 4) sc__law_office.nd rfl (by first | exact Or.inl rfl | exact Or.inr rfl) (pe_call (ok__law_draw T) (hr.mono (by first | decide | omega)) (by rfl) T.m__law_draw T.F__law_draw.kp (bn__law_draw T) .nil pass0 (pa_cons (pv 0) (pa_cons pe_int pa_nil)))) (pss_cons (ps_if (pt_cmpR (k_eq (K := K) rfl (rm64 hr)) (pv 4) pe_int (nomark _)) (pss_one (ps_ret (pe_tup (pa_cons (pv 2) (pa_cons (pe_callTy (T := "tuple") (k_tuple (K := K) rfl) (by rfl) T.n_tuple (by decide +kernel) (pa_cons (pe_lc (own := [("k", 5)]) rfl sc__law_office.nd (pi_range1 (by rfl) T.n_range (pa_cons (pv 3) pa_nil)) (blkOk_by (by rfl)) (fun _ _ _ _ _ => (pg_name (i := 5) sc__law_office.nd rfl (by first | exact Or.inl rfl | exact Or.inr rfl))) (fun _ _ _ _ _ => pts_nil) (fun _ _ _ _ _ => pe_tup (pa_cons (pe_op op_modN (pe_callTy (T := "int") call_int1 (by rfl) T.n_int (by decide +kernel) (pa_cons (pv 5) pa_nil)) (pv 2)) pa_nil))) pa_nil)) pa_nil))))) pss_nil) (pss_cons (ps_if (pt_cmpR (k_eq (K := K) rfl (rm64 hr)) (pv 4) pe_int (nomark _)) (pss_one (ps_ret (pe_tup (pa_cons (pv 2) (pa_cons (pe_callTy (T := "tuple") (k_tuple (K := K) rfl) (by rfl) T.n_tuple (by decide +kernel) (pa_cons (pe_lc (own := [("k", 5)]) rfl sc__law_office.nd (pi_range1 (by rfl) T.n_range (pa_cons (pv 3) pa_nil)) (blkOk_by (by rfl)) (fun _ _ _ _ _ => (pg_name (i := 5) sc__law_office.nd rfl (by first | exact Or.inl rfl | exact Or.inr rfl))) (fun _ _ _ _ _ => pts_nil) (fun _ _ _ _ _ => (pe_callTy (T := "tuple") (k_tuple (K := K) rfl) (by rfl) T.n_tuple (by decide +kernel) (pa_cons (pe_callB (id := "sorted") (k_sortedSet (w := w) rfl rfl) (by rfl) T.n_sorted (by decide +kernel) (pa_cons (pe_callTy (T := "set") (k_setOfI (K := K) (w := w) rfl rfl rfl) (by rfl) T.n_set (by decide +kernel) (pa_cons (pe_lst (pa_cons (pe_op op_modN (pe_callTy (T := "int") call_int1 (by rfl) T.n_int (by decide +kernel) (pa_cons (pv 5) pa_nil)) (pv 2)) (pa_cons (pe_op op_modN (pe_callTy (T := "int") call_int1 (by rfl) T.n_int (by decide +kernel) (pa_cons (pe_op (k_add (K := K) rfl) (pv 5) pe_int) pa_nil)) (pv 2)) pa_nil))) pa_nil)) pa_nil)) pa_nil)))) pa_nil)) pa_nil))))) pss_nil) (pss_cons (ps_if (pt_cmpR (k_eq (K := K) rfl (rm64 hr)) (pv 4) pe_int (nomark _)) (pss_one (ps_ret (pe_tup (pa_cons (pv 2) (pa_cons (pe_callTy (T := "tuple") (k_tuple (K := K) rfl) (by rfl) T.n_tuple (by decide +kernel) (pa_cons (pe_lc (own := [("k", 5)]) rfl sc__law_office.nd (pi_range1 (by rfl) T.n_range (pa_cons (pv 3) pa_nil)) (blkOk_by (by rfl)) (fun _ _ _ _ _ => (pg_name (i := 5) sc__law_office.nd rfl (by first | exact Or.inl rfl | exact Or.inr rfl))) (fun _ _ _ _ _ => pts_nil) (fun _ _ _ _ _ => (pe_callTy (T := "tuple") (k_tuple (K := K) rfl) (by rfl) T.n_tuple (by decide +kernel) (pa_cons (pe_callB (id := "sorted") (k_sortedSet (w := w) rfl rfl) (by rfl) T.n_sorted (by decide +kernel) (pa_cons (pe_callTy (T := "set") (k_setOfI (K := K) (w := w) rfl rfl rfl) (by rfl) T.n_set (by decide +kernel) (pa_cons (pe_lst (pa_cons (pe_call (ok__law_draw T) (hr.mono (by first | decide | omega)) (by rfl) T.m__law_draw T.F__law_draw.kp (bn__law_draw T) .nil pass0 (pa_cons (pv 0) (pa_cons (pv 2) pa_nil))) (pa_cons (pe_call (ok__law_draw T) (hr.mono (by first | decide | omega)) (by rfl) T.m__law_draw T.F__law_draw.kp (bn__law_draw T) .nil pass0 (pa_cons (pv 0) (pa_cons (pv 2) pa_nil))) pa_nil))) pa_nil)) pa_nil)) pa_nil)))) pa_nil)) pa_nil))))) pss_nil) (pss_one (ps_ret (pe_tup (pa_cons (pv 2) (pa_cons (pe_callTy (T := "tuple") (k_tuple (K := K) rfl) (by rfl) T.n_tuple (by decide +kernel) (pa_cons (pe_lc (own := [("k", 5)]) rfl sc__law_office.nd (pi_range1 (by rfl) T.n_range (pa_cons (pv 3) pa_nil)) (blkOk_by (by rfl)) (fun _ _ _ _ _ => (pg_name (i := 5) sc__law_office.nd rfl (by first | exact Or.inl rfl | exact Or.inr rfl))) (fun _ _ _ _ _ => pts_nil) (fun _ _ _ _ _ => (pe_call (ok__law_lot T) (hr.mono (by first | decide | omega)) (by rfl) T.m__law_lot T.F__law_lot.kp (bn__law_lot T) .nil pass0 (pa_cons (pv 0) (pa_cons (pv 2) pa_nil))))) pa_nil)) pa_nil)))))))))), fun q => ?_⟩)
  exact sim_seq (sim_setO (i := 2) free_nil (by decide) (sim_part so_ix (sim_lst (siml_cons (A := .own) (B := .own) sim_int (siml_cons (A := .own) (B := .own) sim_int (siml_cons (A := .own) (B := .own) sim_int (siml_cons (A := .own) (B := .own) sim_int (siml_cons (A := .own) (B := .own) sim_int (siml_cons (A := .own) (B := .own) sim_int (siml_cons (A := .own) (B := .own) sim_int siml_nil)))))))) (sim_call rfl mo__law_draw (sima_dice (i := 0) rfl (sima_val sim_int sima_nil))))) (sim_seq (sim_setO (i := 3) free_nil (by decide) (sim_op so_add sim_int (sim_call rfl mo__law_draw (sima_dice (i := 0) rfl (sima_val (sim_varF (i := 1) rfl) sima_nil))))) (sim_seq (sim_setO (i := 4) free_nil (by decide) (sim_call rfl mo__law_draw (sima_dice (i := 0) rfl (sima_val sim_int sima_nil)))) (sim_seq (sim_if (simt_test (sim_op so_eq (sim_varO (i := 4) rfl) sim_int)) (sim_ret (sim_tup (siml_cons (A := .own) (B := .own) (sim_imm (sim_varO (i := 2) rfl)) (siml_cons (A := .own) (B := .own) (sim_call1 sc_tup (sim_lc (Γf := [.q, .f, .o, .o, .o, .x]) (ws := [5]) (ks := [5]) (by intro k hk; exact free_nil) (simi_rng1 (sim_varO (i := 3) rfl)) rfl rfl (simg_name (i := 5) free_nil (by decide) (by decide)) (by decide) simt_yes (sim_tup (siml_cons (A := .own) (B := .own) (sim_op so_mod (sim_call1 sc_int (sim_varF (i := 5) rfl)) (sim_varO (i := 2) rfl)) siml_nil)))) siml_nil)))) sim_next) (sim_seq (sim_if (simt_test (sim_op so_eq (sim_varO (i := 4) rfl) sim_int)) (sim_ret (sim_tup (siml_cons (A := .own) (B := .own) (sim_imm (sim_varO (i := 2) rfl)) (siml_cons (A := .own) (B := .own) (sim_call1 sc_tup (sim_lc (Γf := [.q, .f, .o, .o, .o, .x]) (ws := [5]) (ks := [5]) (by intro k hk; exact free_nil) (simi_rng1 (sim_varO (i := 3) rfl)) rfl rfl (simg_name (i := 5) free_nil (by decide) (by decide)) (by decide) simt_yes (sim_call1 sc_tup (sim_sortSet (sim_lst (siml_cons (A := .own) (B := .own) (sim_op so_mod (sim_call1 sc_int (sim_varF (i := 5) rfl)) (sim_varO (i := 2) rfl)) (siml_cons (A := .own) (B := .own) (sim_op so_mod (sim_call1 sc_int (sim_op so_add (sim_varF (i := 5) rfl) sim_int)) (sim_varO (i := 2) rfl)) siml_nil))))))) siml_nil)))) sim_next) (sim_seq (sim_if (simt_test (sim_op so_eq (sim_varO (i := 4) rfl) sim_int)) (sim_ret (sim_tup (siml_cons (A := .own) (B := .own) (sim_imm (sim_varO (i := 2) rfl)) (siml_cons (A := .own) (B := .own) (sim_call1 sc_tup (sim_lc (Γf := [.q, .f, .o, .o, .o, .x]) (ws := [5]) (ks := [5]) (by intro k hk; exact free_nil) (simi_rng1 (sim_varO (i := 3) rfl)) rfl rfl (simg_name (i := 5) free_nil (by decide) (by decide)) (by decide) simt_yes (sim_call1 sc_tup (sim_sortSet (sim_lst (siml_cons (A := .own) (B := .own) (sim_call rfl mo__law_draw (sima_dice (i := 0) rfl (sima_val (sim_varO (i := 2) rfl) sima_nil))) (siml_cons (A := .own) (B := .own) (sim_call rfl mo__law_draw (sima_dice (i := 0) rfl (sima_val (sim_varO (i := 2) rfl) sima_nil))) siml_nil))))))) siml_nil)))) sim_next) (sim_ret (sim_tup (siml_cons (A := .own) (B := .own) (sim_imm (sim_varO (i := 2) rfl)) (siml_cons (A := .own) (B := .own) (sim_call1 sc_tup (sim_lc (Γf := [.q, .f, .o, .o, .o, .x]) (ws := [5]) (ks := [5]) (by intro k hk; exact free_nil) (simi_rng1 (sim_varO (i := 3) rfl)) rfl rfl (simg_name (i := 5) free_nil (by decide) (by decide)) (by decide) simt_yes (sim_call rfl mo__law_lot_2 (sima_dice (i := 0) rfl (sima_val (sim_varO (i := 2) rfl) sima_nil))))) siml_nil)))))))))
theorem sc__law_made : FnScope ["site"] ["site"] (defScope s__law_made) := ⟨rfl, rfl, rfl, by decide +kernel, rfl, by decide +kernel, by decide +kernel⟩
theorem bn__law_made (T : Facts K mg) : Binds K T.fd__law_made ["site"] [] := T.F__law_made.binds fun _ _ _ _ _ _ us hl => match us, hl with | [_], _ => rfl
theorem ok__law_made (T : Facts K mg) : FnOk P w K mg base CX0 8 T.f__law_made T.fd__law_made ["site"] (SpM (S0 T) [false] m__law_made) := by
  refine fn_ok (N := ["site"]) (body := b__law_made) (Γe := []) T.F__law_made sc__law_made rfl (by decide) (fun cdv A outer s H E hr => ⟨_, pss_one (ps_ret (pe_make T.mk_Office (ok_Office_init T) (hr.mono (by decide)) (by rfl) T.m_Office (bn_Office_init T) .nil pass0 (pa_cons (pe_ix (k_ix (K := K) rfl (rm1 hr)) (pv 0) pe_int (fun _ _ => rfl)) (pa_cons (pe_ix (k_ix (K := K) rfl (rm1 hr)) (pv 0) pe_int (fun _ _ => rfl)) pa_nil)))), fun q => ?_⟩)
  exact sim_ret (sim_make rfl rfl mo_Office_init (siml_cons (sim_imm (sim_part so_ix (sim_varF (i := 0) rfl) sim_int)) (siml_cons (sim_imm (sim_part so_ix (sim_varF (i := 0) rfl) sim_int)) siml_nil)))
theorem sc__law_any_book : FnScope ["pool", "works", "most", "many", "telling", "k", "work"] ["pool", "works", "most"] (defScope s__law_any_book) := ⟨rfl, rfl, rfl, by decide +kernel, rfl, by decide +kernel, by decide +kernel⟩
theorem bn__law_any_book (T : Facts K mg) : Binds K T.fd__law_any_book ["pool", "works", "most"] [] := T.F__law_any_book.binds fun _ _ _ _ _ _ us hl => match us, hl with | [_, _, _], _ => rfl
theorem ok__law_any_book (T : Facts K mg) : FnOk P w K mg base CX0 2 T.f__law_any_book T.fd__law_any_book ["pool", "works", "most"] (SpM (S0 T) [true, false, false] m__law_any_book) := by
  refine fn_ok (N := ["pool", "works", "most", "many", "telling", "k", "work"]) (body := b__law_any_book) (Γe := []) T.F__law_any_book sc__law_any_book rfl (by decide) (fun cdv A outer s H E hr => ⟨_, pss_cons (ps_set (i := 3) sc__law_any_book.nd rfl (by first | exact Or.inl rfl | exact Or.inr rfl) (pe_op (k_add (K := K) rfl) pe_int (pe_call (ok__law_draw T) (hr.mono (by first | decide | omega)) (by rfl) T.m__law_draw T.F__law_draw.kp (bn__law_draw T) .nil pass0 (pa_cons (pv 0) (pa_cons (pv 2) pa_nil))))) (pss_cons (ps_set (i := 4) sc__law_any_book.nd rfl (by first | exact Or.inl rfl | exact Or.inr rfl) (pe_callTy (T := "tuple") (k_tuple (K := K) rfl) (by rfl) T.n_tuple (by decide +kernel) (pa_cons (pe_lc (own := [("k", 5)]) rfl sc__law_any_book.nd (pi_range1 (by rfl) T.n_range (pa_cons (pv 3) pa_nil)) (blkOk_by (by rfl)) (fun _ _ _ _ _ => (pg_name (i := 5) sc__law_any_book.nd rfl (by first | exact Or.inl rfl | exact Or.inr rfl))) (fun _ _ _ _ _ => pts_nil) (fun _ _ _ _ _ => (pe_call (ok__law_draw T) (hr.mono (by first | decide | omega)) (by rfl) T.m__law_draw T.F__law_draw.kp (bn__law_draw T) .nil pass0 (pa_cons (pv 0) (pa_cons pe_int pa_nil))))) pa_nil))) (pss_one (ps_ret (pe_tup (pa_cons (pv 4) (pa_cons (pe_callTy (T := "tuple") (k_tuple (K := K) rfl) (by rfl) T.n_tuple (by decide +kernel) (pa_cons (pe_lc (own := [("k", 5)]) rfl sc__law_any_book.nd (pi_range1 (by rfl) T.n_range (pa_cons (pv 3) pa_nil)) (blkOk_by (by rfl)) (fun _ _ _ _ _ => (pg_name (i := 5) sc__law_any_book.nd rfl (by first | exact Or.inl rfl | exact Or.inr rfl))) (fun _ _ _ _ _ => pts_nil) (fun _ _ _ _ _ => (pe_callTy (T := "tuple") (k_tuple (K := K) rfl) (by rfl) T.n_tuple (by decide +kernel) (pa_cons (pe_lc (own := [("work", 6)]) rfl sc__law_any_book.nd (pi_range1 (by rfl) T.n_range (pa_cons (pv 1) pa_nil)) (blkOk_by (by rfl)) (fun _ _ _ _ _ => (pg_name (i := 6) sc__law_any_book.nd rfl (by first | exact Or.inl rfl | exact Or.inr rfl))) (fun _ _ _ _ _ => pts_nil) (fun _ _ _ _ _ => (pe_call (ok__law_draw T) (hr.mono (by first | decide | omega)) (by rfl) T.m__law_draw T.F__law_draw.kp (bn__law_draw T) .nil pass0 (pa_cons (pv 0) (pa_cons (pv 3) pa_nil))))) pa_nil)))) pa_nil)) pa_nil)))))), fun q => ?_⟩)
  exact sim_seq (sim_setO (i := 3) free_nil (by decide) (sim_op so_add sim_int (sim_call rfl mo__law_draw (sima_dice (i := 0) rfl (sima_val (sim_varF (i := 2) rfl) sima_nil))))) (sim_seq (sim_setO (i := 4) free_nil (by decide) (sim_call1 sc_tup (sim_lc (Γf := [.q, .f, .f, .o, .x, .x, .x]) (ws := [5]) (ks := [5]) (by intro k hk; exact free_nil) (simi_rng1 (sim_varO (i := 3) rfl)) rfl rfl (simg_name (i := 5) free_nil (by decide) (by decide)) (by decide) simt_yes (sim_call rfl mo__law_draw (sima_dice (i := 0) rfl (sima_val sim_int sima_nil)))))) (sim_ret (sim_tup (siml_cons (A := .own) (B := .own) (sim_imm (sim_varO (i := 4) rfl)) (siml_cons (A := .own) (B := .own) (sim_call1 sc_tup (sim_lc (Γf := [.q, .f, .f, .o, .o, .x, .x]) (ws := [5]) (ks := [5]) (by intro k hk; exact free_nil) (simi_rng1 (sim_varO (i := 3) rfl)) rfl rfl (simg_name (i := 5) free_nil (by decide) (by decide)) (by decide) simt_yes (sim_call1 sc_tup (sim_lc (Γf := [.q, .f, .f, .o, .o, .f, .x]) (ws := [6]) (ks := [6]) (by intro k hk; exact free_nil) (simi_rng1 (sim_varF (i := 1) rfl)) rfl rfl (simg_name (i := 6) free_nil (by decide) (by decide)) (by decide) simt_yes (sim_call rfl mo__law_draw (sima_dice (i := 0) rfl (sima_val (sim_varO (i := 3) rfl) sima_nil))))))) siml_nil)))))
theorem sc__law_turning : FnScope ["pool", "works", "most", "many", "more", "telling", "work", "k", "number"] ["pool", "works", "most"] (defScope s__law_turning) := ⟨rfl, rfl, rfl, by decide +kernel, rfl, by decide +kernel, by decide +kernel⟩
theorem bn__law_turning (T : Facts K mg) : Binds K T.fd__law_turning ["pool", "works", "most"] [] := T.F__law_turning.binds fun _ _ _ _ _ _ us hl => match us, hl with | [_, _, _], _ => rfl
theorem ok__law_turning (T : Facts K mg) : FnOk P w K mg base CX0 2 T.f__law_turning T.fd__law_turning ["pool", "works", "most"] (SpM (S0 T) [true, false, false] m__law_turning) := by
  refine fn_ok (N := ["pool", "works", "most", "many", "more", "telling", "work", "k", "number"]) (body := b__law_turning) (Γe := []) T.F__law_turning sc__law_turning rfl (by decide) (fun cdv A outer s H E hr => ⟨_, pss_cons (ps_set (i := 3) sc__law_turning.nd rfl (by first | exact Or.inl rfl | exact Or.inr rfl) (pe_op (k_add (K := K) rfl) pe_int (pe_call (ok__law_draw T) (hr.mono (by first | decide | omega)) (by rfl) T.m__law_draw T.F__law_draw.kp (bn__law_draw T) .nil pass0 (pa_cons (pv 0) (pa_cons (pv 2) pa_nil))))) (pss_cons (ps_set (i := 4) sc__law_turning.nd rfl (by first | exact Or.inl rfl | exact Or.inr rfl) (pe_lc (own := [("work", 6)]) rfl sc__law_turning.nd (pi_range1 (by rfl) T.n_range (pa_cons (pv 1) pa_nil)) (blkOk_by (by rfl)) (fun _ _ _ _ _ => (pg_name (i := 6) sc__law_turning.nd rfl (by first | exact Or.inl rfl | exact Or.inr rfl))) (fun _ _ _ _ _ => pts_nil) (fun _ _ _ _ _ => (pe_call (ok__law_draw T) (hr.mono (by first | decide | omega)) (by rfl) T.m__law_draw T.F__law_draw.kp (bn__law_draw T) .nil pass0 (pa_cons (pv 0) (pa_cons (pv 3) pa_nil)))))) (pss_cons (ps_set (i := 5) sc__law_turning.nd rfl (by first | exact Or.inl rfl | exact Or.inr rfl) (pe_callTy (T := "tuple") (k_tuple (K := K) rfl) (by rfl) T.n_tuple (by decide +kernel) (pa_cons (pe_lc (own := [("k", 7)]) rfl sc__law_turning.nd (pi_range1 (by rfl) T.n_range (pa_cons (pv 3) pa_nil)) (blkOk_by (by rfl)) (fun _ _ _ _ _ => (pg_name (i := 7) sc__law_turning.nd rfl (by first | exact Or.inl rfl | exact Or.inr rfl))) (fun _ _ _ _ _ => pts_nil) (fun _ _ _ _ _ => (pe_call (ok__law_draw T) (hr.mono (by first | decide | omega)) (by rfl) T.m__law_draw T.F__law_draw.kp (bn__law_draw T) .nil pass0 (pa_cons (pv 0) (pa_cons pe_int pa_nil))))) pa_nil))) (pss_one (ps_ret (pe_tup (pa_cons (pv 5) (pa_cons (pe_callTy (T := "tuple") (k_tuple (K := K) rfl) (by rfl) T.n_tuple (by decide +kernel) (pa_cons (pe_lc (own := [("k", 7)]) rfl sc__law_turning.nd (pi_range1 (by rfl) T.n_range (pa_cons (pv 3) pa_nil)) (blkOk_by (by rfl)) (fun _ _ _ _ _ => (pg_name (i := 7) sc__law_turning.nd rfl (by first | exact Or.inl rfl | exact Or.inr rfl))) (fun _ _ _ _ _ => pts_nil) (fun _ _ _ _ _ => (pe_callTy (T := "tuple") (k_tuple (K := K) rfl) (by rfl) T.n_tuple (by decide +kernel) (pa_cons (pe_lc (own := [("number", 8)]) rfl sc__law_turning.nd (k_seq (K := K) rfl (pv 4)) (blkOk_by (by rfl)) (fun _ _ _ _ _ => (pg_name (i := 8) sc__law_turning.nd rfl (by first | exact Or.inl rfl | exact Or.inr rfl))) (fun _ _ _ _ _ => pts_nil) (fun _ _ _ _ _ => pe_op op_modN (pe_callTy (T := "int") call_int1 (by rfl) T.n_int (by decide +kernel) (pa_cons (pe_op (k_add (K := K) rfl) (pv 7) (pv 8)) pa_nil)) (pv 3))) pa_nil)))) pa_nil)) pa_nil))))))), fun q => ?_⟩)
  exact sim_seq (sim_setO (i := 3) free_nil (by decide) (sim_op so_add sim_int (sim_call rfl mo__law_draw (sima_dice (i := 0) rfl (sima_val (sim_varF (i := 2) rfl) sima_nil))))) (sim_seq (sim_setO (i := 4) free_nil (by decide) (sim_lc (Γf := [.q, .f, .f, .o, .x, .x, .x, .x, .x]) (ws := [6]) (ks := [6]) (by intro k hk; exact free_nil) (simi_rng1 (sim_varF (i := 1) rfl)) rfl rfl (simg_name (i := 6) free_nil (by decide) (by decide)) (by decide) simt_yes (sim_call rfl mo__law_draw (sima_dice (i := 0) rfl (sima_val (sim_varO (i := 3) rfl) sima_nil))))) (sim_seq (sim_setO (i := 5) free_nil (by decide) (sim_call1 sc_tup (sim_lc (Γf := [.q, .f, .f, .o, .o, .x, .x, .x, .x]) (ws := [7]) (ks := [7]) (by intro k hk; exact free_nil) (simi_rng1 (sim_varO (i := 3) rfl)) rfl rfl (simg_name (i := 7) free_nil (by decide) (by decide)) (by decide) simt_yes (sim_call rfl mo__law_draw (sima_dice (i := 0) rfl (sima_val sim_int sima_nil)))))) (sim_ret (sim_tup (siml_cons (A := .own) (B := .own) (sim_imm (sim_varO (i := 5) rfl)) (siml_cons (A := .own) (B := .own) (sim_call1 sc_tup (sim_lc (Γf := [.q, .f, .f, .o, .o, .o, .x, .x, .x]) (ws := [7]) (ks := [7]) (by intro k hk; exact free_nil) (simi_rng1 (sim_varO (i := 3) rfl)) rfl rfl (simg_name (i := 7) free_nil (by decide) (by decide)) (by decide) simt_yes (sim_call1 sc_tup (sim_lc (Γf := [.q, .f, .f, .o, .f, .o, .x, .f, .x]) (ws := [8]) (ks := [8]) (by intro k hk; exact free_nil) (simi_seq (sim_varO (i := 4) rfl)) rfl rfl (simg_name (i := 8) free_nil (by decide) (by decide)) (by decide) simt_yes (sim_op so_mod (sim_call1 sc_int (sim_op so_add (sim_varF (i := 7) rfl) (sim_varF (i := 8) rfl))) (sim_varO (i := 3) rfl)))))) siml_nil))))))
theorem sc__law_of_desks : FnScope ["pool", "site", "sizes", "every", "size", "longer", "notes", "moves", "lot", "book", "key", "steps", "goals", "work", "here", "new", "k", "one", "desk"] ["pool", "site"] (defScope s__law_of_desks) := ⟨rfl, rfl, rfl, by decide +kernel, rfl, by decide +kernel, by decide +kernel⟩
theorem bn__law_of_desks (T : Facts K mg) : Binds K T.fd__law_of_desks ["pool", "site"] [] := T.F__law_of_desks.binds fun _ _ _ _ _ _ us hl => match us, hl with | [_, _], _ => rfl
theorem ok__law_of_desks (T : Facts K mg) : FnOk P w K mg base CX0 2 T.f__law_of_desks T.fd__law_of_desks ["pool", "site"] (SpM (S0 T) [true, false] m__law_of_desks) := by
  refine fn_ok (N := ["pool", "site", "sizes", "every", "size", "longer", "notes", "moves", "lot", "book", "key", "steps", "goals", "work", "here", "new", "k", "one", "desk"]) (body := b__law_of_desks) (Γe := []) T.F__law_of_desks sc__law_of_desks rfl (by decide) (fun cdv A outer s H E hr => ⟨_, pss_cons (ps_set (i := 2) sc__law_of_desks.nd rfl (by first | exact Or.inl rfl | exact Or.inr rfl) (pe_lc (own := [("k", 16)]) rfl sc__law_of_desks.nd (pi_range1 (by rfl) T.n_range (pa_cons (pe_ix (k_ix (K := K) rfl (rm1 hr)) (pv 1) pe_int (fun _ _ => rfl)) pa_nil)) (blkOk_by (by rfl)) (fun _ _ _ _ _ => (pg_name (i := 16) sc__law_of_desks.nd rfl (by first | exact Or.inl rfl | exact Or.inr rfl))) (fun _ _ _ _ _ => pts_nil) (fun _ _ _ _ _ => pe_ifExp (pt_cmpR op_lt (pv 16) pe_int (nomark _)) (pe_ix (k_ix (K := K) rfl (rm1 hr)) (pe_lst (pa_cons pe_int (pa_cons pe_int pa_nil))) (pe_callTy (T := "int") call_int1 (by rfl) T.n_int (by decide +kernel) (pa_cons (pe_cmpR (k_eq (K := K) rfl (rm64 hr)) (pv 16) pe_int (nomark _)) pa_nil)) (fun _ _ => rfl)) (pe_ix (k_ix (K := K) rfl (rm1 hr)) (pe_lst (pa_cons pe_int (pa_cons pe_int pa_nil))) (pe_callTy (T := "int") call_int1 (by rfl) T.n_int (by decide +kernel) (pa_cons (pe_cmpR (k_eq (K := K) rfl (rm64 hr)) (pv 16) pe_int (nomark _)) pa_nil)) (fun _ _ => rfl))))) (pss_cons (ps_set (i := 3) sc__law_of_desks.nd rfl (by first | exact Or.inl rfl | exact Or.inr rfl) (pe_lst (pa_cons (pe_tup pa_nil) pa_nil))) (pss_cons (ps_for PassesOwn.never rfl (k_seq (K := K) rfl (pv 2)) (pg_name (i := 4) sc__law_of_desks.nd rfl (by first | exact Or.inl rfl | exact Or.inr rfl)) (pss_cons (ps_set (i := 5) sc__law_of_desks.nd rfl (by first | exact Or.inl rfl | exact Or.inr rfl) (pe_lst pa_nil)) (pss_cons (ps_for PassesOwn.never rfl (k_seq (K := K) rfl (pv 3)) (pg_name (i := 6) sc__law_of_desks.nd rfl (by first | exact Or.inl rfl | exact Or.inr rfl)) (pss_one (ps_set (i := 5) sc__law_of_desks.nd rfl (by first | exact Or.inl rfl | exact Or.inr rfl) (pe_op (k_add (K := K) rfl) (pv 5) (pe_lc (own := [("one", 17)]) rfl sc__law_of_desks.nd (pi_range1 (by rfl) T.n_range (pa_cons (pv 4) pa_nil)) (blkOk_by (by rfl)) (fun _ _ _ _ _ => (pg_name (i := 17) sc__law_of_desks.nd rfl (by first | exact Or.inl rfl | exact Or.inr rfl))) (fun _ _ _ _ _ => pts_nil) (fun _ _ _ _ _ => pe_op (k_add (K := K) rfl) (pv 6) (pe_tup (pa_cons (pv 17) pa_nil)))))))) (pss_one (ps_set (i := 3) sc__law_of_desks.nd rfl (by first | exact Or.inl rfl | exact Or.inr rfl) (pv 5)))))) (pss_cons (ps_set (i := 7) sc__law_of_desks.nd rfl (by first | exact Or.inl rfl | exact Or.inr rfl) (pe_lst pa_nil)) (pss_cons (ps_for PassesOwn.never rfl (k_seq (K := K) rfl (pe_ix (k_ix (K := K) rfl (rm1 hr)) (pv 1) pe_int (fun _ _ => rfl))) (pg_name (i := 8) sc__law_of_desks.nd rfl (by first | exact Or.inl rfl | exact Or.inr rfl)) (pss_cons (ps_set (i := 9) sc__law_of_desks.nd rfl (by first | exact Or.inl rfl | exact Or.inr rfl) pe_dnewK) (pss_cons (ps_for PassesOwn.never rfl (k_seq (K := K) rfl (pv 3)) (pg_name (i := 6) sc__law_of_desks.nd rfl (by first | exact Or.inl rfl | exact Or.inr rfl)) (pss_cons (ps_set (i := 10) sc__law_of_desks.nd rfl (by first | exact Or.inl rfl | exact Or.inr rfl) (pe_callTy (T := "tuple") (k_tuple (K := K) rfl) (by rfl) T.n_tuple (by decide +kernel) (pa_cons (pe_lc (own := [("desk", 18)]) rfl sc__law_of_desks.nd (k_seq (K := K) rfl (pv 8)) (blkOk_by (by rfl)) (fun _ _ _ _ _ => (pg_name (i := 18) sc__law_of_desks.nd rfl (by first | exact Or.inl rfl | exact Or.inr rfl))) (fun _ _ _ _ _ => pts_nil) (fun _ _ _ _ _ => pe_ix (k_ix (K := K) rfl (rm1 hr)) (pv 6) (pv 18) (fun _ _ => rfl))) pa_nil))) (pss_one (ps_if (pt_cmpR (k_notInN (rm64 hr)) (pv 10) (pv 9) (by rfl)) (pss_one (ps_asg (pe_callTy (T := "tuple") (k_tuple (K := K) rfl) (by rfl) T.n_tuple (by decide +kernel) (pa_cons (pe_lc (own := [("desk", 18)]) rfl sc__law_of_desks.nd (k_seq (K := K) rfl (pv 8)) (blkOk_by (by rfl)) (fun _ _ _ _ _ => (pg_name (i := 18) sc__law_of_desks.nd rfl (by first | exact Or.inl rfl | exact Or.inr rfl))) (fun _ _ _ _ _ => pts_nil) (fun _ _ _ _ _ => (pe_call (ok__law_draw T) (hr.mono (by first | decide | omega)) (by rfl) T.m__law_draw T.F__law_draw.kp (bn__law_draw T) .nil pass0 (pa_cons (pv 0) (pa_cons (pe_ix (k_ix (K := K) rfl (rm1 hr)) (pv 2) (pv 18) (fun _ _ => rfl)) pa_nil))))) pa_nil)) (pg_sub (pv 9) (pv 10) (set_N (rm64 hr))))) pss_nil)))) (pss_one (ps_expr (pe_bm PySem.F.plainAttrs_list PySem.F.slot_list_append PySem.F.type_list_append mt_append (pv 7) (pa_cons (pv 9) pa_nil))))))) (pss_cons (ps_set (i := 11) sc__law_of_desks.nd rfl (by first | exact Or.inl rfl | exact Or.inr rfl) (pe_lst pa_nil)) (pss_cons (ps_for PassesOwn.never rfl (k_seq (K := K) rfl (pv 3)) (pg_name (i := 6) sc__law_of_desks.nd rfl (by first | exact Or.inl rfl | exact Or.inr rfl)) (pss_cons (ps_set (i := 12) sc__law_of_desks.nd rfl (by first | exact Or.inl rfl | exact Or.inr rfl) (pe_lst pa_nil)) (pss_cons (ps_for PassesOwn.never rfl (pi_range1 (by rfl) T.n_range (pa_cons (pe_callB (id := "len") (k_lenA (K := K) rfl) (by rfl) T.n_len (by decide +kernel) (pa_cons (pe_ix (k_ix (K := K) rfl (rm1 hr)) (pv 1) pe_int (fun _ _ => rfl)) pa_nil)) pa_nil)) (pg_name (i := 13) sc__law_of_desks.nd rfl (by first | exact Or.inl rfl | exact Or.inr rfl)) (pss_cons (ps_set (i := 8) sc__law_of_desks.nd rfl (by first | exact Or.inl rfl | exact Or.inr rfl) (pe_ix (k_ix (K := K) rfl (rm1 hr)) (pe_ix (k_ix (K := K) rfl (rm1 hr)) (pv 1) pe_int (fun _ _ => rfl)) (pv 13) (fun _ _ => rfl))) (pss_cons (ps_set (i := 14) sc__law_of_desks.nd rfl (by first | exact Or.inl rfl | exact Or.inr rfl) (pe_callTy (T := "list") (k_listA (K := K) rfl rfl) (by rfl) T.n_list (by decide +kernel) (pa_cons (pv 6) pa_nil))) (pss_cons (ps_set (i := 15) sc__law_of_desks.nd rfl (by first | exact Or.inl rfl | exact Or.inr rfl) (pe_ix (k_ixN (rm64 hr)) (pe_ix (k_ix (K := K) rfl (rm1 hr)) (pv 7) (pv 13) (fun _ _ => rfl)) (pe_callTy (T := "tuple") (k_tuple (K := K) rfl) (by rfl) T.n_tuple (by decide +kernel) (pa_cons (pe_lc (own := [("desk", 18)]) rfl sc__law_of_desks.nd (k_seq (K := K) rfl (pv 8)) (blkOk_by (by rfl)) (fun _ _ _ _ _ => (pg_name (i := 18) sc__law_of_desks.nd rfl (by first | exact Or.inl rfl | exact Or.inr rfl))) (fun _ _ _ _ _ => pts_nil) (fun _ _ _ _ _ => pe_ix (k_ix (K := K) rfl (rm1 hr)) (pv 6) (pv 18) (fun _ _ => rfl))) pa_nil)) (fun _ _ => rfl))) (pss_cons (ps_for PassesOwn.never rfl (pi_range1 (by rfl) T.n_range (pa_cons (pe_callB (id := "len") (k_lenA (K := K) rfl) (by rfl) T.n_len (by decide +kernel) (pa_cons (pv 8) pa_nil)) pa_nil)) (pg_name (i := 16) sc__law_of_desks.nd rfl (by first | exact Or.inl rfl | exact Or.inr rfl)) (pss_one (ps_asg (pe_ix (k_ix (K := K) rfl (rm1 hr)) (pv 15) (pv 16) (fun _ _ => rfl)) (pg_sub (pv 14) (pe_ix (k_ix (K := K) rfl (rm1 hr)) (pv 8) (pv 16) (fun _ _ => rfl)) (set_U (rm1 hr)))))) (pss_one (ps_expr (pe_bm PySem.F.plainAttrs_list PySem.F.slot_list_append PySem.F.type_list_append mt_append (pv 12) (pa_cons (pe_bm PySem.F.plainAttrs_list PySem.F.slot_list_index PySem.F.type_list_index (mt_indexD (rm65 hr)) (pv 3) (pa_cons (pe_callTy (T := "tuple") (k_tuple (K := K) rfl) (by rfl) T.n_tuple (by decide +kernel) (pa_cons (pv 14) pa_nil)) pa_nil)) pa_nil))))))))) (pss_one (ps_expr (pe_bm PySem.F.plainAttrs_list PySem.F.slot_list_append PySem.F.type_list_append mt_append (pv 11) (pa_cons (pe_callTy (T := "tuple") (k_tuple (K := K) rfl) (by rfl) T.n_tuple (by decide +kernel) (pa_cons (pv 12) pa_nil)) pa_nil))))))) (pss_one (ps_ret (pe_tup (pa_cons (pe_callTy (T := "tuple") (k_tuple (K := K) rfl) (by rfl) T.n_tuple (by decide +kernel) (pa_cons (pe_lc (own := [("notes", 6)]) rfl sc__law_of_desks.nd (k_seq (K := K) rfl (pv 3)) (blkOk_by (by rfl)) (fun _ _ _ _ _ => (pg_name (i := 6) sc__law_of_desks.nd rfl (by first | exact Or.inl rfl | exact Or.inr rfl))) (fun _ _ _ _ _ => pts_nil) (fun _ _ _ _ _ => (pe_call (ok__law_draw T) (hr.mono (by first | decide | omega)) (by rfl) T.m__law_draw T.F__law_draw.kp (bn__law_draw T) .nil pass0 (pa_cons (pv 0) (pa_cons pe_int pa_nil))))) pa_nil)) (pa_cons (pe_callTy (T := "tuple") (k_tuple (K := K) rfl) (by rfl) T.n_tuple (by decide +kernel) (pa_cons (pv 11) pa_nil)) pa_nil))))))))))), fun q => ?_⟩)
  exact sim_seq (sim_setO (i := 2) free_nil (by decide) (sim_lc (Γf := [.q, .f, .x, .x, .x, .x, .x, .x, .x, .x, .x, .x, .x, .x, .x, .x, .x, .x, .x]) (ws := [16]) (ks := [16]) (by intro k hk; exact free_nil) (simi_rng1 (sim_part so_ix (sim_varF (i := 1) rfl) sim_int)) rfl rfl (simg_name (i := 16) free_nil (by decide) (by decide)) (by decide) simt_yes (sim_if2 (simt_test (sim_op so_lt (sim_varF (i := 16) rfl) sim_int)) (sim_part so_ix (sim_lst (siml_cons (A := .own) (B := .own) sim_int (siml_cons (A := .own) (B := .own) sim_int siml_nil))) (sim_call1 sc_int (sim_op so_eq (sim_varF (i := 16) rfl) sim_int))) (sim_part so_ix (sim_lst (siml_cons (A := .own) (B := .own) sim_int (siml_cons (A := .own) (B := .own) sim_int siml_nil))) (sim_call1 sc_int (sim_op so_eq (sim_varF (i := 16) rfl) sim_int)))))) (sim_seq (sim_setO (i := 3) free_nil (by decide) (sim_lst (siml_cons (A := .own) (B := .own) (sim_tup siml_nil) siml_nil))) (sim_seq (sim_for (Γl := [.q, .f, .f, .f, .x, .x, .x, .x, .x, .x, .x, .x, .x, .x, .x, .x, .x, .x, .x]) (simi_seq (sim_varO (i := 2) rfl)) rfl rfl (simg_name (i := 4) free_nil (by decide) (by decide)) (sim_seq (sim_setO (i := 5) free_nil (by decide) (sim_lst siml_nil)) (sim_seq (sim_for (Γl := [.q, .f, .f, .f, .f, .o, .x, .x, .x, .x, .x, .x, .x, .x, .x, .x, .x, .x, .x]) (simi_seq (sim_varF (i := 3) rfl)) rfl rfl (simg_name (i := 6) free_nil (by decide) (by decide)) (sim_setO (i := 5) free_nil (by decide) (sim_op so_add (sim_varO (i := 5) rfl) (sim_lc (Γf := [.q, .f, .f, .f, .f, .o, .f, .x, .x, .x, .x, .x, .x, .x, .x, .x, .x, .x, .x]) (ws := [17]) (ks := [17]) (by intro k hk; exact free_nil) (simi_rng1 (sim_varF (i := 4) rfl)) rfl rfl (simg_name (i := 17) free_nil (by decide) (by decide)) (by decide) simt_yes (sim_op so_add (sim_varF (i := 6) rfl) (sim_tup (siml_cons (A := .own) (B := .own) (sim_imm (sim_varF (i := 17) rfl)) siml_nil)))))) rfl) (sim_setF (i := 3) (Γ1 := [.q, .f, .f, .f, .f, .f, .x, .x, .x, .x, .x, .x, .x, .x, .x, .x, .x, .x, .x]) free_nil rfl rfl (by decide) (sim_varO (i := 5) rfl)))) rfl) (sim_seq (sim_setO (i := 7) free_nil (by decide) (sim_lst siml_nil)) (sim_seq (sim_for (Γl := [.q, .f, .f, .f, .x, .x, .x, .o, .x, .x, .x, .x, .x, .x, .x, .x, .x, .x, .x]) (simi_seq (sim_part so_ix (sim_varF (i := 1) rfl) sim_int)) rfl rfl (simg_name (i := 8) free_nil (by decide) (by decide)) (sim_seq (sim_setO (i := 9) free_nil (by decide) sim_dnewK) (sim_seq (sim_for (Γl := [.q, .f, .f, .f, .x, .x, .x, .o, .f, .o, .x, .x, .x, .x, .x, .x, .x, .x, .x]) (simi_seq (sim_varF (i := 3) rfl)) rfl rfl (simg_name (i := 6) free_nil (by decide) (by decide)) (sim_seq (sim_setO (i := 10) free_nil (by decide) (sim_call1 sc_tup (sim_lc (Γf := [.q, .f, .f, .f, .x, .x, .f, .o, .f, .o, .x, .x, .x, .x, .x, .x, .x, .x, .x]) (ws := [18]) (ks := [18]) (by intro k hk; exact free_nil) (simi_seq (sim_varF (i := 8) rfl)) rfl rfl (simg_name (i := 18) free_nil (by decide) (by decide)) (by decide) simt_yes (sim_imm (sim_part so_ix (sim_varF (i := 6) rfl) (sim_varF (i := 18) rfl)))))) (sim_if (simt_test (sim_op so_inN (sim_varO (i := 10) rfl) (sim_varO (i := 9) rfl))) (sim_putN (i := 9) rfl (sim_call1 sc_tup (sim_lc (Γf := [.q, .f, .f, .f, .x, .x, .f, .o, .f, .o, .o, .x, .x, .x, .x, .x, .x, .x, .x]) (ws := [18]) (ks := [18]) (by intro k hk; exact free_nil) (simi_seq (sim_varF (i := 8) rfl)) rfl rfl (simg_name (i := 18) free_nil (by decide) (by decide)) (by decide) simt_yes (sim_call rfl mo__law_draw (sima_dice (i := 0) rfl (sima_val (sim_part so_ix (sim_varF (i := 2) rfl) (sim_varF (i := 18) rfl)) sima_nil))))) (sim_varO (i := 10) rfl)) sim_next)) rfl) (sim_appM1 (i := 7) (j := 9) rfl rfl (by decide)))) rfl) (sim_seq (sim_setO (i := 11) free_nil (by decide) (sim_lst siml_nil)) (sim_seq (sim_for (Γl := [.q, .f, .f, .f, .x, .x, .x, .o, .x, .x, .x, .o, .x, .x, .x, .x, .x, .x, .x]) (simi_seq (sim_varF (i := 3) rfl)) rfl rfl (simg_name (i := 6) free_nil (by decide) (by decide)) (sim_seq (sim_setO (i := 12) free_nil (by decide) (sim_lst siml_nil)) (sim_seq (sim_for (Γl := [.q, .f, .f, .f, .x, .x, .f, .o, .x, .x, .x, .o, .o, .x, .x, .x, .x, .x, .x]) (simi_rng1 (sim_call1 sc_lenA (sim_part so_ix (sim_varF (i := 1) rfl) sim_int))) rfl rfl (simg_name (i := 13) free_nil (by decide) (by decide)) (sim_seq (sim_setO (i := 8) free_nil (by decide) (sim_imm (sim_part so_ix (sim_part so_ix (sim_varF (i := 1) rfl) sim_int) (sim_varF (i := 13) rfl)))) (sim_seq (sim_setO (i := 14) free_nil (by decide) (sim_call1 sc_listA (sim_varF (i := 6) rfl))) (sim_seq (sim_setO (i := 15) free_nil (by decide) (sim_imm (sim_part so_ixN (sim_part so_ix (sim_varO (i := 7) rfl) (sim_varF (i := 13) rfl)) (sim_call1 sc_tup (sim_lc (Γf := [.q, .f, .f, .f, .x, .x, .f, .o, .f, .x, .x, .o, .o, .f, .o, .x, .x, .x, .x]) (ws := [18]) (ks := [18]) (by intro k hk; exact free_nil) (simi_seq (sim_varO (i := 8) rfl)) rfl rfl (simg_name (i := 18) free_nil (by decide) (by decide)) (by decide) simt_yes (sim_imm (sim_part so_ix (sim_varF (i := 6) rfl) (sim_varF (i := 18) rfl)))))))) (sim_seq (sim_for (Γl := [.q, .f, .f, .f, .x, .x, .f, .o, .o, .x, .x, .o, .o, .f, .o, .o, .x, .x, .x]) (simi_rng1 (sim_call1 sc_lenA (sim_varO (i := 8) rfl))) rfl rfl (simg_name (i := 16) free_nil (by decide) (by decide)) (sim_put (i := 14) rfl (sim_imm (sim_part so_ix (sim_varO (i := 15) rfl) (sim_varF (i := 16) rfl))) (sim_part so_ix (sim_varO (i := 8) rfl) (sim_varF (i := 16) rfl))) rfl) (sim_app (i := 12) rfl (sim_idxF (i := 3) rfl (sim_call1 sc_tup (sim_varO (i := 14) rfl)))))))) rfl) (sim_app (i := 11) rfl (sim_call1 sc_tup (sim_varO (i := 12) rfl))))) rfl) (sim_ret (sim_tup (siml_cons (A := .own) (B := .own) (sim_call1 sc_tup (sim_lc (Γf := [.q, .f, .f, .f, .x, .x, .x, .o, .x, .x, .x, .o, .x, .x, .x, .x, .x, .x, .x]) (ws := [6]) (ks := [6]) (by intro k hk; exact free_nil) (simi_seq (sim_varF (i := 3) rfl)) rfl rfl (simg_name (i := 6) free_nil (by decide) (by decide)) (by decide) simt_yes (sim_call rfl mo__law_draw (sima_dice (i := 0) rfl (sima_val sim_int sima_nil))))) (siml_cons (A := .own) (B := .own) (sim_call1 sc_tup (sim_varO (i := 11) rfl)) siml_nil))))))))))
theorem sc__law_doubled : FnScope ["pool", "book", "telling", "steps", "many", "found", "k", "goal"] ["pool", "book"] (defScope s__law_doubled) := ⟨rfl, rfl, rfl, by decide +kernel, rfl, by decide +kernel, by decide +kernel⟩
theorem bn__law_doubled (T : Facts K mg) : Binds K T.fd__law_doubled ["pool", "book"] [] := T.F__law_doubled.binds fun _ _ _ _ _ _ us hl => match us, hl with | [_, _], _ => rfl
theorem ok__law_doubled (T : Facts K mg) : FnOk P w K mg base CX0 2 T.f__law_doubled T.fd__law_doubled ["pool", "book"] (SpM (S0 T) [true, false] m__law_doubled) := by
  refine fn_ok (N := ["pool", "book", "telling", "steps", "many", "found", "k", "goal"]) (body := b__law_doubled) (Γe := []) T.F__law_doubled sc__law_doubled rfl (by decide) (fun cdv A outer s H E hr => ⟨_, pss_cons (ps_asg (pv 1) (k_gtup (K := K) (n := 2) rfl rfl (pgs_cons (pg_name (i := 2) sc__law_doubled.nd rfl (by first | exact Or.inl rfl | exact Or.inr rfl)) (pgs_cons (pg_name (i := 3) sc__law_doubled.nd rfl (by first | exact Or.inl rfl | exact Or.inr rfl)) pgs_nil)))) (pss_cons (ps_set (i := 4) sc__law_doubled.nd rfl (by first | exact Or.inl rfl | exact Or.inr rfl) (pe_callB (id := "len") (k_lenA (K := K) rfl) (by rfl) T.n_len (by decide +kernel) (pa_cons (pv 2) pa_nil))) (pss_cons (ps_if (pt_cmpR op_gt (pv 4) pe_int (nomark _)) (pss_one (ps_ret (pv 1))) pss_nil) (pss_cons (ps_set (i := 5) sc__law_doubled.nd rfl (by first | exact Or.inl rfl | exact Or.inr rfl) (pe_lst pa_nil)) (pss_cons (ps_for PassesOwn.never rfl (pi_range1 (by rfl) T.n_range (pa_cons (pe_op op_mul pe_int (pv 4)) pa_nil)) (pg_name (i := 6) sc__law_doubled.nd rfl (by first | exact Or.inl rfl | exact Or.inr rfl)) (pss_one (ps_expr (pe_bm PySem.F.plainAttrs_list PySem.F.slot_list_append PySem.F.type_list_append mt_append (pv 5) (pa_cons (pe_callTy (T := "tuple") (k_tuple (K := K) rfl) (by rfl) T.n_tuple (by decide +kernel) (pa_cons (pe_lc (own := [("goal", 7)]) rfl sc__law_doubled.nd (k_seq (K := K) rfl (pe_ix (k_ix (K := K) rfl (rm1 hr)) (pv 3) (pe_op op_modN (pe_callTy (T := "int") call_int1 (by rfl) T.n_int (by decide +kernel) (pa_cons (pv 6) pa_nil)) (pv 4)) (fun _ _ => rfl))) (blkOk_by (by rfl)) (fun _ _ _ _ _ => (pg_name (i := 7) sc__law_doubled.nd rfl (by first | exact Or.inl rfl | exact Or.inr rfl))) (fun _ _ _ _ _ => pts_nil) (fun _ _ _ _ _ => pe_op (k_add (K := K) rfl) (pv 7) (pe_op op_mul (pv 4) (pe_call (ok__law_draw T) (hr.mono (by first | decide | omega)) (by rfl) T.m__law_draw T.F__law_draw.kp (bn__law_draw T) .nil pass0 (pa_cons (pv 0) (pa_cons pe_int pa_nil)))))) pa_nil)) pa_nil))))) (pss_one (ps_ret (pe_tup (pa_cons (pe_op (k_add (K := K) rfl) (pv 2) (pv 2)) (pa_cons (pe_callTy (T := "tuple") (k_tuple (K := K) rfl) (by rfl) T.n_tuple (by decide +kernel) (pa_cons (pv 5) pa_nil)) pa_nil))))))))), fun q => ?_⟩)
  exact sim_seq (sim_asgGF (Γ1 := [.q, .f, .x, .x, .x, .x, .x, .x]) rfl rfl (sim_varF (i := 1) rfl) (simg_tup (simgs_cons (simg_name (i := 2) free_nil (by decide) (by decide)) (simgs_cons (simg_name (i := 3) free_nil (by decide) (by decide)) simgs_nil)))) (sim_seq (sim_setO (i := 4) free_nil (by decide) (sim_call1 sc_lenA (sim_varF (i := 2) rfl))) (sim_seq (sim_if (simt_test (sim_op so_gt (sim_varO (i := 4) rfl) sim_int)) (sim_ret (sim_imm (sim_varF (i := 1) rfl))) sim_next) (sim_seq (sim_setO (i := 5) free_nil (by decide) (sim_lst siml_nil)) (sim_seq (sim_for (Γl := [.q, .f, .f, .f, .o, .o, .x, .x]) (simi_rng1 (sim_op so_mul sim_int (sim_varO (i := 4) rfl))) rfl rfl (simg_name (i := 6) free_nil (by decide) (by decide)) (sim_app (i := 5) rfl (sim_call1 sc_tup (sim_lc (Γf := [.q, .f, .f, .f, .o, .o, .f, .x]) (ws := [7]) (ks := [7]) (by intro k hk; exact free_nil) (simi_seq (sim_part so_ix (sim_varF (i := 3) rfl) (sim_op so_mod (sim_call1 sc_int (sim_varF (i := 6) rfl)) (sim_varO (i := 4) rfl)))) rfl rfl (simg_name (i := 7) free_nil (by decide) (by decide)) (by decide) simt_yes (sim_op so_add (sim_varF (i := 7) rfl) (sim_op so_mul (sim_varO (i := 4) rfl) (sim_call rfl mo__law_draw (sima_dice (i := 0) rfl (sima_val sim_int sima_nil)))))))) rfl) (sim_ret (sim_tup (siml_cons (A := .own) (B := .own) (sim_op so_add (sim_varF (i := 2) rfl) (sim_varF (i := 2) rfl)) (siml_cons (A := .own) (B := .own) (sim_call1 sc_tup (sim_varO (i := 5) rfl)) siml_nil))))))))
theorem sc__law_bent : FnScope ["pool", "book", "telling", "steps", "at", "work", "goals"] ["pool", "book"] (defScope s__law_bent) := ⟨rfl, rfl, rfl, by decide +kernel, rfl, by decide +kernel, by decide +kernel⟩
theorem bn__law_bent (T : Facts K mg) : Binds K T.fd__law_bent ["pool", "book"] [] := T.F__law_bent.binds fun _ _ _ _ _ _ us hl => match us, hl with | [_, _], _ => rfl
theorem ok__law_bent (T : Facts K mg) : FnOk P w K mg base CX0 2 T.f__law_bent T.fd__law_bent ["pool", "book"] (SpM (S0 T) [true, false] m__law_bent_2) := by
  refine fn_ok (N := ["pool", "book", "telling", "steps", "at", "work", "goals"]) (body := b__law_bent_2) (Γe := []) T.F__law_bent sc__law_bent rfl (by decide) (fun cdv A outer s H E hr => ⟨_, pss_cons (ps_asg (pv 1) (k_gtup (K := K) (n := 2) rfl rfl (pgs_cons (pg_name (i := 2) sc__law_bent.nd rfl (by first | exact Or.inl rfl | exact Or.inr rfl)) (pgs_cons (pg_name (i := 3) sc__law_bent.nd rfl (by first | exact Or.inl rfl | exact Or.inr rfl)) pgs_nil)))) (pss_cons (ps_set (i := 4) sc__law_bent.nd rfl (by first | exact Or.inl rfl | exact Or.inr rfl) (pe_call (ok__law_draw T) (hr.mono (by first | decide | omega)) (by rfl) T.m__law_draw T.F__law_draw.kp (bn__law_draw T) .nil pass0 (pa_cons (pv 0) (pa_cons (pe_callB (id := "len") (k_lenA (K := K) rfl) (by rfl) T.n_len (by decide +kernel) (pa_cons (pv 2) pa_nil)) pa_nil)))) (pss_cons (ps_if (pt_cmpR (k_eq (K := K) rfl (rm64 hr)) (pe_call (ok__law_draw T) (hr.mono (by first | decide | omega)) (by rfl) T.m__law_draw T.F__law_draw.kp (bn__law_draw T) .nil pass0 (pa_cons (pv 0) (pa_cons pe_int pa_nil))) pe_int (nomark _)) (pss_one (ps_ret (pe_tup (pa_cons (pe_op (k_add (K := K) rfl) (pe_op (k_add (K := K) rfl) (pe_slice (k_sl (K := K) rfl) (pv 2) po_none (po_some (pv 4))) (pe_tup (pa_cons (pe_call (ok__law_draw T) (hr.mono (by first | decide | omega)) (by rfl) T.m__law_draw T.F__law_draw.kp (bn__law_draw T) .nil pass0 (pa_cons (pv 0) (pa_cons pe_int pa_nil))) pa_nil))) (pe_slice (k_sl (K := K) rfl) (pv 2) (po_some (pe_op (k_add (K := K) rfl) (pv 4) pe_int)) po_none)) (pa_cons (pv 3) pa_nil))))) pss_nil) (pss_cons (ps_set (i := 5) sc__law_bent.nd rfl (by first | exact Or.inl rfl | exact Or.inr rfl) (pe_call (ok__law_draw T) (hr.mono (by first | decide | omega)) (by rfl) T.m__law_draw T.F__law_draw.kp (bn__law_draw T) .nil pass0 (pa_cons (pv 0) (pa_cons (pe_callB (id := "len") (k_lenA (K := K) rfl) (by rfl) T.n_len (by decide +kernel) (pa_cons (pe_ix (k_ix (K := K) rfl (rm1 hr)) (pv 3) (pv 4) (fun _ _ => rfl)) pa_nil)) pa_nil)))) (pss_cons (ps_set (i := 6) sc__law_bent.nd rfl (by first | exact Or.inl rfl | exact Or.inr rfl) (pe_op (k_add (K := K) rfl) (pe_op (k_add (K := K) rfl) (pe_slice (k_sl (K := K) rfl) (pe_ix (k_ix (K := K) rfl (rm1 hr)) (pv 3) (pv 4) (fun _ _ => rfl)) po_none (po_some (pv 5))) (pe_tup (pa_cons (pe_call (ok__law_draw T) (hr.mono (by first | decide | omega)) (by rfl) T.m__law_draw T.F__law_draw.kp (bn__law_draw T) .nil pass0 (pa_cons (pv 0) (pa_cons (pe_callB (id := "len") (k_lenA (K := K) rfl) (by rfl) T.n_len (by decide +kernel) (pa_cons (pv 2) pa_nil)) pa_nil))) pa_nil))) (pe_slice (k_sl (K := K) rfl) (pe_ix (k_ix (K := K) rfl (rm1 hr)) (pv 3) (pv 4) (fun _ _ => rfl)) (po_some (pe_op (k_add (K := K) rfl) (pv 5) pe_int)) po_none))) (pss_one (ps_ret (pe_tup (pa_cons (pv 2) (pa_cons (pe_op (k_add (K := K) rfl) (pe_op (k_add (K := K) rfl) (pe_slice (k_sl (K := K) rfl) (pv 3) po_none (po_some (pv 4))) (pe_tup (pa_cons (pv 6) pa_nil))) (pe_slice (k_sl (K := K) rfl) (pv 3) (po_some (pe_op (k_add (K := K) rfl) (pv 4) pe_int)) po_none)) pa_nil))))))))), fun q => ?_⟩)
  exact sim_seq (sim_asgGF (Γ1 := [.q, .f, .x, .x, .x, .x, .x]) rfl rfl (sim_varF (i := 1) rfl) (simg_tup (simgs_cons (simg_name (i := 2) free_nil (by decide) (by decide)) (simgs_cons (simg_name (i := 3) free_nil (by decide) (by decide)) simgs_nil)))) (sim_seq (sim_setO (i := 4) free_nil (by decide) (sim_call rfl mo__law_draw (sima_dice (i := 0) rfl (sima_val (sim_call1 sc_lenA (sim_varF (i := 2) rfl)) sima_nil)))) (sim_seq (sim_if (simt_test (sim_op so_eq (sim_call rfl mo__law_draw (sima_dice (i := 0) rfl (sima_val sim_int sima_nil))) sim_int)) (sim_ret (sim_tup (siml_cons (A := .own) (B := .own) (sim_op so_add (sim_op so_add (sim_sl (sim_varF (i := 2) rfl) simo_no (simo_yes (sim_varO (i := 4) rfl))) (sim_tup (siml_cons (A := .own) (B := .own) (sim_call rfl mo__law_draw (sima_dice (i := 0) rfl (sima_val sim_int sima_nil))) siml_nil))) (sim_sl (sim_varF (i := 2) rfl) (simo_yes (sim_op so_add (sim_varO (i := 4) rfl) sim_int)) simo_no)) (siml_cons (A := .own) (B := .own) (sim_imm (sim_varF (i := 3) rfl)) siml_nil)))) sim_next) (sim_seq (sim_setO (i := 5) free_nil (by decide) (sim_call rfl mo__law_draw (sima_dice (i := 0) rfl (sima_val (sim_call1 sc_lenA (sim_part so_ix (sim_varF (i := 3) rfl) (sim_varO (i := 4) rfl))) sima_nil)))) (sim_seq (sim_setO (i := 6) free_nil (by decide) (sim_op so_add (sim_op so_add (sim_sl (sim_part so_ix (sim_varF (i := 3) rfl) (sim_varO (i := 4) rfl)) simo_no (simo_yes (sim_varO (i := 5) rfl))) (sim_tup (siml_cons (A := .own) (B := .own) (sim_call rfl mo__law_draw (sima_dice (i := 0) rfl (sima_val (sim_call1 sc_lenA (sim_varF (i := 2) rfl)) sima_nil))) siml_nil))) (sim_sl (sim_part so_ix (sim_varF (i := 3) rfl) (sim_varO (i := 4) rfl)) (simo_yes (sim_op so_add (sim_varO (i := 5) rfl) sim_int)) simo_no))) (sim_ret (sim_tup (siml_cons (A := .own) (B := .own) (sim_imm (sim_varF (i := 2) rfl)) (siml_cons (A := .own) (B := .own) (sim_op so_add (sim_op so_add (sim_sl (sim_varF (i := 3) rfl) simo_no (simo_yes (sim_varO (i := 4) rfl))) (sim_tup (siml_cons (A := .own) (B := .own) (sim_imm (sim_varO (i := 6) rfl)) siml_nil))) (sim_sl (sim_varF (i := 3) rfl) (simo_yes (sim_op so_add (sim_varO (i := 4) rfl) sim_int)) simo_no)) siml_nil))))))))
theorem sc__law_book : FnScope ["pool", "site", "most", "kind", "book", "way"] ["pool", "site", "most"] (defScope s__law_book) := ⟨rfl, rfl, rfl, by decide +kernel, rfl, by decide +kernel, by decide +kernel⟩
theorem bn__law_book (T : Facts K mg) : Binds K T.fd__law_book ["pool", "site", "most"] [] := T.F__law_book.binds fun _ _ _ _ _ _ us hl => match us, hl with | [_, _, _], _ => rfl
theorem ok__law_book (T : Facts K mg) : FnOk P w K mg base CX0 3 T.f__law_book T.fd__law_book ["pool", "site", "most"] (SpM (S0 T) [true, false, false] m__law_book) := by
  refine fn_ok (N := ["pool", "site", "most", "kind", "book", "way"]) (body := b__law_book) (Γe := []) T.F__law_book sc__law_book rfl (by decide) (fun cdv A outer s H E hr => ⟨_, pss_cons (ps_set (i := 3) sc__law_book.nd rfl (by first | exact Or.inl rfl | exact Or.inr rfl) (pe_call (ok__law_draw T) (hr.mono (by first | decide | omega)) (by rfl) T.m__law_draw T.F__law_draw.kp (bn__law_draw T) .nil pass0 (pa_cons (pv 0) (pa_cons pe_int pa_nil)))) (pss_cons (ps_set (i := 4) sc__law_book.nd rfl (by first | exact Or.inl rfl | exact Or.inr rfl) (pe_call (ok__law_any_book T) (hr.mono (by first | decide | omega)) (by rfl) T.m__law_any_book T.F__law_any_book.kp (bn__law_any_book T) .nil pass0 (pa_cons (pv 0) (pa_cons (pe_callB (id := "len") (k_lenA (K := K) rfl) (by rfl) T.n_len (by decide +kernel) (pa_cons (pe_ix (k_ix (K := K) rfl (rm1 hr)) (pv 1) pe_int (fun _ _ => rfl)) pa_nil)) (pa_cons (pv 2) pa_nil))))) (pss_cons (ps_if (pt_cmpR (k_eq (K := K) rfl (rm64 hr)) (pv 3) pe_int (nomark _)) (pss_one (ps_set (i := 4) sc__law_book.nd rfl (by first | exact Or.inl rfl | exact Or.inr rfl) (pe_call (ok__law_turning T) (hr.mono (by first | decide | omega)) (by rfl) T.m__law_turning T.F__law_turning.kp (bn__law_turning T) .nil pass0 (pa_cons (pv 0) (pa_cons (pe_callB (id := "len") (k_lenA (K := K) rfl) (by rfl) T.n_len (by decide +kernel) (pa_cons (pe_ix (k_ix (K := K) rfl (rm1 hr)) (pv 1) pe_int (fun _ _ => rfl)) pa_nil)) (pa_cons (pv 2) pa_nil)))))) pss_nil) (pss_cons (ps_if (pt_cmpR op_gt (pv 3) pe_int (nomark _)) (pss_one (ps_set (i := 4) sc__law_book.nd rfl (by first | exact Or.inl rfl | exact Or.inr rfl) (pe_call (ok__law_of_desks T) (hr.mono (by first | decide | omega)) (by rfl) T.m__law_of_desks T.F__law_of_desks.kp (bn__law_of_desks T) .nil pass0 (pa_cons (pv 0) (pa_cons (pv 1) pa_nil))))) pss_nil) (pss_cons (ps_set (i := 5) sc__law_book.nd rfl (by first | exact Or.inl rfl | exact Or.inr rfl) (pe_call (ok__law_draw T) (hr.mono (by first | decide | omega)) (by rfl) T.m__law_draw T.F__law_draw.kp (bn__law_draw T) .nil pass0 (pa_cons (pv 0) (pa_cons pe_int pa_nil)))) (pss_cons (ps_if (pt_cmpR (k_eq (K := K) rfl (rm64 hr)) (pv 5) pe_int (nomark _)) (pss_one (ps_ret (pe_call (ok__law_doubled T) (hr.mono (by first | decide | omega)) (by rfl) T.m__law_doubled T.F__law_doubled.kp (bn__law_doubled T) .nil pass0 (pa_cons (pv 0) (pa_cons (pv 4) pa_nil))))) pss_nil) (pss_one (ps_ret (pe_ifExp (pt_cmpR (k_eq (K := K) rfl (rm64 hr)) (pv 5) pe_int (nomark _)) (pe_call (ok__law_bent T) (hr.mono (by first | decide | omega)) (by rfl) T.m__law_bent T.F__law_bent.kp (bn__law_bent T) .nil pass0 (pa_cons (pv 0) (pa_cons (pv 4) pa_nil))) (pv 4))))))))), fun q => ?_⟩)
  exact sim_seq (sim_setO (i := 3) free_nil (by decide) (sim_call rfl mo__law_draw (sima_dice (i := 0) rfl (sima_val sim_int sima_nil)))) (sim_seq (sim_setO (i := 4) free_nil (by decide) (sim_call rfl mo__law_any_book (sima_dice (i := 0) rfl (sima_val (sim_call1 sc_lenA (sim_part so_ix (sim_varF (i := 1) rfl) sim_int)) (sima_val (sim_varF (i := 2) rfl) sima_nil))))) (sim_seq (sim_if (simt_test (sim_op so_eq (sim_varO (i := 3) rfl) sim_int)) (sim_setO (i := 4) free_nil (by decide) (sim_call rfl mo__law_turning (sima_dice (i := 0) rfl (sima_val (sim_call1 sc_lenA (sim_part so_ix (sim_varF (i := 1) rfl) sim_int)) (sima_val (sim_varF (i := 2) rfl) sima_nil))))) sim_next) (sim_seq (sim_if (simt_test (sim_op so_gt (sim_varO (i := 3) rfl) sim_int)) (sim_setO (i := 4) free_nil (by decide) (sim_call rfl mo__law_of_desks (sima_dice (i := 0) rfl (sima_val (sim_varF (i := 1) rfl) sima_nil)))) sim_next) (sim_seq (sim_setO (i := 5) free_nil (by decide) (sim_call rfl mo__law_draw (sima_dice (i := 0) rfl (sima_val sim_int sima_nil)))) (sim_seq (sim_if (simt_test (sim_op so_eq (sim_varO (i := 5) rfl) sim_int)) (sim_ret (sim_call rfl mo__law_doubled (sima_dice (i := 0) rfl (sima_val (sim_varO (i := 4) rfl) sima_nil)))) sim_next) (sim_ret (sim_if2 (simt_test (sim_op so_eq (sim_varO (i := 5) rfl) sim_int)) (sim_call rfl mo__law_bent_2 (sima_dice (i := 0) rfl (sima_val (sim_varO (i := 4) rfl) sima_nil))) (sim_imm (sim_varO (i := 4) rfl)))))))))
theorem sc__law_stood : FnScope ["steps", "standing", "row", "work"] ["steps", "standing", "row"] (defScope s__law_stood) := ⟨rfl, rfl, rfl, by decide +kernel, rfl, by decide +kernel, by decide +kernel⟩
theorem bn__law_stood (T : Facts K mg) : Binds K T.fd__law_stood ["steps", "standing", "row"] [] := T.F__law_stood.binds fun _ _ _ _ _ _ us hl => match us, hl with | [_, _, _], _ => rfl
theorem ok__law_stood (T : Facts K mg) : FnOk P w K mg base CX0 1 T.f__law_stood T.fd__law_stood ["steps", "standing", "row"] (SpM (S0 T) [false, false, false] m__law_stood) := by
  refine fn_ok (N := ["steps", "standing", "row", "work"]) (body := b__law_stood) (Γe := []) T.F__law_stood sc__law_stood rfl (by decide) (fun cdv A outer s H E hr => ⟨_, pss_cons (ps_for PassesOwn.never rfl (k_seq (K := K) rfl (pv 2)) (pg_name (i := 3) sc__law_stood.nd rfl (by first | exact Or.inl rfl | exact Or.inr rfl)) (pss_one (ps_set (i := 1) sc__law_stood.nd rfl (by first | exact Or.inl rfl | exact Or.inr rfl) (pe_ix (k_ix (K := K) rfl (rm1 hr)) (pe_ix (k_ix (K := K) rfl (rm1 hr)) (pv 0) (pv 1) (fun _ _ => rfl)) (pv 3) (fun _ _ => rfl))))) (pss_one (ps_ret (pv 1))), fun q => ?_⟩)
  exact sim_seq (sim_for (Γl := [.f, .f, .f, .x]) (simi_seq (sim_varF (i := 2) rfl)) rfl rfl (simg_name (i := 3) free_nil (by decide) (by decide)) (sim_setO (i := 1) free_nil (by decide) (sim_imm (sim_part so_ix (sim_part so_ix (sim_varF (i := 0) rfl) (sim_varF (i := 1) rfl)) (sim_varF (i := 3) rfl)))) rfl) (sim_ret (sim_imm (sim_varF (i := 1) rfl)))
theorem sc__law_row : FnScope ["pool", "works", "length", "k"] ["pool", "works", "length"] (defScope s__law_row) := ⟨rfl, rfl, rfl, by decide +kernel, rfl, by decide +kernel, by decide +kernel⟩
theorem bn__law_row (T : Facts K mg) : Binds K T.fd__law_row ["pool", "works", "length"] [] := T.F__law_row.binds fun _ _ _ _ _ _ us hl => match us, hl with | [_, _, _], _ => rfl
theorem ok__law_row (T : Facts K mg) : FnOk P w K mg base CX0 2 T.f__law_row T.fd__law_row ["pool", "works", "length"] (SpM (S0 T) [true, false, false] m__law_row_3) := by
  refine fn_ok (N := ["pool", "works", "length", "k"]) (body := b__law_row_3) (Γe := []) T.F__law_row sc__law_row rfl (by decide) (fun cdv A outer s H E hr => ⟨_, pss_one (ps_ret (pe_callTy (T := "tuple") (k_tuple (K := K) rfl) (by rfl) T.n_tuple (by decide +kernel) (pa_cons (pe_lc (own := [("k", 3)]) rfl sc__law_row.nd (pi_range1 (by rfl) T.n_range (pa_cons (pv 2) pa_nil)) (blkOk_by (by rfl)) (fun _ _ _ _ _ => (pg_name (i := 3) sc__law_row.nd rfl (by first | exact Or.inl rfl | exact Or.inr rfl))) (fun _ _ _ _ _ => pts_nil) (fun _ _ _ _ _ => (pe_call (ok__law_draw T) (hr.mono (by first | decide | omega)) (by rfl) T.m__law_draw T.F__law_draw.kp (bn__law_draw T) .nil pass0 (pa_cons (pv 0) (pa_cons (pv 1) pa_nil))))) pa_nil))), fun q => ?_⟩)
  exact sim_ret (sim_call1 sc_tup (sim_lc (Γf := [.q, .f, .f, .x]) (ws := [3]) (ks := [3]) (by intro k hk; exact free_nil) (simi_rng1 (sim_varF (i := 2) rfl)) rfl rfl (simg_name (i := 3) free_nil (by decide) (by decide)) (by decide) simt_yes (sim_call rfl mo__law_draw (sima_dice (i := 0) rfl (sima_val (sim_varF (i := 1) rfl) sima_nil)))))
theorem sc_Office___eq__ : FnScope ["self", "other"] ["self", "other"] (defScope s_Office___eq__) := ⟨rfl, rfl, rfl, by decide +kernel, rfl, by decide +kernel, by decide +kernel⟩
theorem bn_Office___eq__ (T : Facts K mg) : Binds K T.fd_Office___eq__ ["self", "other"] [] := T.F_Office___eq__.binds fun _ _ _ _ _ _ us hl => match us, hl with | [_, _], _ => rfl
theorem ok_Office___eq__ (T : Facts K mg) : FnOk P w K mg base CX0 1 T.f_Office___eq__ T.fd_Office___eq__ ["self", "other"] (SpM (S0 T) [false, false] m_Office___eq__) := by
  refine fn_ok (N := ["self", "other"]) (body := b_Office___eq__) (Γe := []) T.F_Office___eq__ sc_Office___eq__ rfl (by decide) (fun cdv A outer s H E hr => ⟨_, pss_one (ps_ret (pe_and (pe_callB (id := "isinstance") (k_isa (K := K) rfl) (by rfl) T.n_isinstance (by decide +kernel) (pa_cons (pv 1) (pa_cons (pe_glob (v := .ref T.C_Office) (by rfl) T.m_Office rfl) pa_nil))) (pe_and (pe_cmpR (k_eq (K := K) rfl (rm64 hr)) (k_fld (K := K) rfl (pv 0) rfl) (k_fld (K := K) rfl (pv 1) rfl) (nomark _)) (pe_one (pe_cmpR (k_eq (K := K) rfl (rm64 hr)) (k_fld (K := K) rfl (pv 0) rfl) (k_fld (K := K) rfl (pv 1) rfl) (nomark _)))))), fun q => ?_⟩)
  exact sim_ret (sim_and (sim_isO (c := 3) (Ad := T.C_Office) rfl T.ow_Office (sim_varF (i := 1) rfl)) (sim_and (sim_op so_eq (sim_fld (c0 := 3) T.cl_Office T.na_Office_desks (sim_varF (i := 0) rfl)) (sim_fld (c0 := 3) T.cl_Office T.na_Office_desks (sim_varF (i := 1) rfl))) (sim_op so_eq (sim_fld (c0 := 3) T.cl_Office T.na_Office_works (sim_varF (i := 0) rfl)) (sim_fld (c0 := 3) T.cl_Office T.na_Office_works (sim_varF (i := 1) rfl)))))
theorem sc_Book___eq__ : FnScope ["self", "other"] ["self", "other"] (defScope s_Book___eq__) := ⟨rfl, rfl, rfl, by decide +kernel, rfl, by decide +kernel, by decide +kernel⟩
theorem bn_Book___eq__ (T : Facts K mg) : Binds K T.fd_Book___eq__ ["self", "other"] [] := T.F_Book___eq__.binds fun _ _ _ _ _ _ us hl => match us, hl with | [_, _], _ => rfl
theorem ok_Book___eq__ (T : Facts K mg) : FnOk P w K mg base CX0 3 T.f_Book___eq__ T.fd_Book___eq__ ["self", "other"] (SpM (S0 T) [false, false] m_Book___eq__) := by
  refine fn_ok (N := ["self", "other"]) (body := b_Book___eq__) (Γe := []) T.F_Book___eq__ sc_Book___eq__ rfl (by decide) (fun cdv A outer s H E hr => ⟨_, pss_one (ps_ret (pe_and (pe_callB (id := "isinstance") (k_isa (K := K) rfl) (by rfl) T.n_isinstance (by decide +kernel) (pa_cons (pv 1) (pa_cons (pe_glob (v := .ref T.C_Book) (by rfl) T.m_Book rfl) pa_nil))) (pe_and (pe_cmpR (op_eqOwn (ok_Office___eq__ T) T.h_Office___eq__.at_ T.h_Office___eq__.fn (bn_Office___eq__ T) pass0 (hr.mono (by decide))) (k_fld (K := K) rfl (pv 0) rfl) (k_fld (K := K) rfl (pv 1) rfl) (nomark _)) (pe_and (pe_cmpR (k_eq (K := K) rfl (rm64 hr)) (k_fld (K := K) rfl (pv 0) rfl) (k_fld (K := K) rfl (pv 1) rfl) (nomark _)) (pe_one (pe_cmpR (k_eq (K := K) rfl (rm64 hr)) (k_fld (K := K) rfl (pv 0) rfl) (k_fld (K := K) rfl (pv 1) rfl) (nomark _))))))), fun q => ?_⟩)
  exact sim_ret (sim_and (sim_isO (c := 4) (Ad := T.C_Book) rfl T.ow_Book (sim_varF (i := 1) rfl)) (sim_and (sim_own (c := 3) rfl rfl mo_Office___eq__ (sim_fld (c0 := 4) T.cl_Book T.na_Book_office (sim_varF (i := 0) rfl)) (sim_fld (c0 := 4) T.cl_Book T.na_Book_office (sim_varF (i := 1) rfl))) (sim_and (sim_op so_eq (sim_fld (c0 := 4) T.cl_Book T.na_Book_telling (sim_varF (i := 0) rfl)) (sim_fld (c0 := 4) T.cl_Book T.na_Book_telling (sim_varF (i := 1) rfl))) (sim_op so_eq (sim_fld (c0 := 4) T.cl_Book T.na_Book_steps (sim_varF (i := 0) rfl)) (sim_fld (c0 := 4) T.cl_Book T.na_Book_steps (sim_varF (i := 1) rfl))))))
theorem sc_law : FnScope ["script", "pool", "turn", "site", "telling", "steps", "book", "here", "row", "again", "more"] ["script"] (defScope s_law) := ⟨rfl, rfl, rfl, by decide +kernel, rfl, by decide +kernel, by decide +kernel⟩
theorem ok_law (T : Facts K mg) (hp : b_law_k42 lawEnds (List.replicate 11 none)) : FnOk P w K mg base CX0 9 T.f_law T.fd_law ["script"] (spLaw K) := by
  refine law_okP (N := ["script", "pool", "turn", "site", "telling", "steps", "book", "here", "row", "again", "more"]) (n := 9) (b := b_law_k42) (S := S0 T) (Γe := []) T.F_law sc_law rfl rfl (fun cdv A outer s H E hr => ⟨_, pss_cons (ps_set (i := 1) sc_law.nd rfl (by first | exact Or.inl rfl | exact Or.inr rfl) (pe_call (ok__law_pool T) (hr.mono (by decide)) (by rfl) T.m__law_pool T.F__law_pool.kp (bn__law_pool T) .nil pass0 (pa_cons (pv 0) pa_nil))) (pss_cons (ps_for PassesOwn.never rfl (pi_range1 (by rfl) T.n_range (pa_cons pe_int pa_nil)) (pg_name (i := 2) sc_law.nd rfl (by first | exact Or.inl rfl | exact Or.inr rfl)) (pss_cons (ps_set (i := 3) sc_law.nd rfl (by first | exact Or.inl rfl | exact Or.inr rfl) (pe_call (ok__law_office T) (hr.mono (by first | decide | omega)) (by rfl) T.m__law_office T.F__law_office.kp (bn__law_office T) .nil pass0 (pa_cons (pv 1) (pa_cons pe_int pa_nil)))) (pss_cons (ps_asg (pe_call (ok__law_book T) (hr.mono (by first | decide | omega)) (by rfl) T.m__law_book T.F__law_book.kp (bn__law_book T) .nil pass0 (pa_cons (pv 1) (pa_cons (pv 3) (pa_cons pe_int pa_nil)))) (k_gtup (K := K) (n := 2) rfl rfl (pgs_cons (pg_name (i := 4) sc_law.nd rfl (by first | exact Or.inl rfl | exact Or.inr rfl)) (pgs_cons (pg_name (i := 5) sc_law.nd rfl (by first | exact Or.inl rfl | exact Or.inr rfl)) pgs_nil)))) (pss_cons (ps_set (i := 6) sc_law.nd rfl (by first | exact Or.inl rfl | exact Or.inr rfl) (pe_make T.mk_Book (ok_Book_init T) (hr.mono (by decide)) (by rfl) T.m_Book (bn_Book_init T) .nil pass0 (pa_cons (pe_call (ok__law_made T) (hr.mono (by first | decide | omega)) (by rfl) T.m__law_made T.F__law_made.kp (bn__law_made T) .nil pass0 (pa_cons (pv 3) pa_nil)) (pa_cons (pv 4) (pa_cons (pv 5) pa_nil))))) (pss_cons (ps_set (i := 7) sc_law.nd rfl (by first | exact Or.inl rfl | exact Or.inr rfl) pe_int) (pss_cons (ps_set (i := 8) sc_law.nd rfl (by first | exact Or.inl rfl | exact Or.inr rfl) (pe_tup pa_nil)) (pss_cons (ps_for PassesOwn.never rfl (pi_range1 (by rfl) T.n_range (pa_cons pe_int pa_nil)) (pg_name (i := 9) sc_law.nd rfl (by first | exact Or.inl rfl | exact Or.inr rfl)) (pss_cons (ps_set (i := 10) sc_law.nd rfl (by first | exact Or.inl rfl | exact Or.inr rfl) (pe_call (ok__law_row T) (hr.mono (by first | decide | omega)) (by rfl) T.m__law_row T.F__law_row.kp (bn__law_row T) .nil pass0 (pa_cons (pv 1) (pa_cons (pe_callB (id := "len") (k_lenA (K := K) rfl) (by rfl) T.n_len (by decide +kernel) (pa_cons (pe_ix (k_ix (K := K) rfl (rm1 hr)) (pv 3) pe_int (fun _ _ => rfl)) pa_nil)) (pa_cons (pe_call (ok__law_draw T) (hr.mono (by first | decide | omega)) (by rfl) T.m__law_draw T.F__law_draw.kp (bn__law_draw T) .nil pass0 (pa_cons (pv 1) (pa_cons pe_int pa_nil))) pa_nil))))) (pss_cons (ps_set (i := 8) sc_law.nd rfl (by first | exact Or.inl rfl | exact Or.inr rfl) (pe_op (k_add (K := K) rfl) (pv 8) (pv 10))) (pss_cons (ps_set (i := 7) sc_law.nd rfl (by first | exact Or.inl rfl | exact Or.inr rfl) (pe_call (ok__law_stood T) (hr.mono (by first | decide | omega)) (by rfl) T.m__law_stood T.F__law_stood.kp (bn__law_stood T) .nil pass0 (pa_cons (pv 5) (pa_cons (pv 7) (pa_cons (pv 10) pa_nil))))) (pss_one (ps_if (PW.pt (pw_or (pt_cmpR (k_ne (K := K) rfl (rm64 hr)) (pe_callB (id := "repr") k_repr (by rfl) T.n_repr (by decide +kernel) (pa_cons (pe_call (ok_stood T) (hr.mono (by first | decide | omega)) (by rfl) T.m_stood T.F_stood.kp (bn_stood T) .nil pass0 (pa_cons (pv 6) (pa_cons (pv 8) pa_nil))) pa_nil)) (pe_callB (id := "repr") k_repr (by rfl) T.n_repr (by decide +kernel) (pa_cons (pv 7) pa_nil)) (nomark _)) (pw_or1 (pt_cmpR (k_ne (K := K) rfl (rm64 hr)) (pe_callB (id := "repr") k_repr (by rfl) T.n_repr (by decide +kernel) (pa_cons (pe_call (ok_told T) (hr.mono (by first | decide | omega)) (by rfl) T.m_told T.F_told.kp (bn_told T) .nil pass0 (pa_cons (pv 6) (pa_cons (pv 8) pa_nil))) pa_nil)) (pe_callB (id := "repr") k_repr (by rfl) T.n_repr (by decide +kernel) (pa_cons (pe_ix (k_ix (K := K) rfl (rm1 hr)) (pv 4) (pv 7) (fun _ _ => rfl)) pa_nil)) (nomark _))))) (pss_one (ps_ret pe_bl)) pss_nil)))))) (pss_cons (ps_if (PW.pt (pw_or (pt_cmpR (k_ne (K := K) rfl (rm64 hr)) (pe_call (ok_stood T) (hr.mono (by first | decide | omega)) (by rfl) T.m_stood T.F_stood.kp (bn_stood T) .nil pass0 (pa_cons (pv 6) (pa_cons (pe_tup pa_nil) pa_nil))) pe_int (nomark _)) (pw_or1 (pt_cmpR (k_ne (K := K) rfl (rm64 hr)) (pe_call (ok_told T) (hr.mono (by first | decide | omega)) (by rfl) T.m_told T.F_told.kp (bn_told T) .nil pass0 (pa_cons (pv 6) (pa_cons (pe_tup pa_nil) pa_nil))) (pe_ix (k_ix (K := K) rfl (rm1 hr)) (pv 4) pe_int (fun _ _ => rfl)) (nomark _))))) (pss_one (ps_ret pe_bl)) pss_nil) (pss_one (ps_if (PW.pt (pw_or (pt_cmpR (op_neOwn (ok_Book___eq__ T) T.h_Book___eq__.at_ T.ow_Book.hne T.ow_Book.ho T.h_Book___eq__.fn (bn_Book___eq__ T) pass0 (hr.mono (by decide))) (pv 6) (pe_make T.mk_Book (ok_Book_init T) (hr.mono (by decide)) (by rfl) T.m_Book (bn_Book_init T) .nil pass0 (pa_cons (pe_call (ok__law_made T) (hr.mono (by first | decide | omega)) (by rfl) T.m__law_made T.F__law_made.kp (bn__law_made T) .nil pass0 (pa_cons (pv 3) pa_nil)) (pa_cons (pv 4) (pa_cons (pv 5) pa_nil)))) (nomark _)) (pw_or1 (pt_cmpR (k_ne (K := K) rfl (rm64 hr)) (pe_call (ok_stood T) (hr.mono (by first | decide | omega)) (by rfl) T.m_stood T.F_stood.kp (bn_stood T) .nil pass0 (pa_cons (pv 6) (pa_cons (pv 8) pa_nil))) (pv 7) (nomark _))))) (pss_one (ps_ret pe_bl)) pss_nil)))))))))) (pss_one (ps_ret pe_bl))), fun q => ?_⟩) hp
  exact sim_seq (sim_for (Γl := [.x, .q, .x, .x, .x, .x, .x, .x, .x, .x, .x]) (simi_rng1 sim_int) rfl rfl (simg_name (i := 2) free_nil (by decide) (by decide)) (sim_seq (sim_setO (i := 3) free_nil (by decide) (sim_call rfl mo__law_office (sima_dice (i := 1) rfl (sima_val sim_int sima_nil)))) (sim_seq (sim_asgG (Γ1 := [.x, .q, .f, .o, .x, .x, .x, .x, .x, .x, .x]) rfl (sim_call rfl mo__law_book (sima_dice (i := 1) rfl (sima_val (sim_varO (i := 3) rfl) (sima_val sim_int sima_nil)))) (simg_tup (simgs_cons (simg_name (i := 4) free_nil (by decide) (by decide)) (simgs_cons (simg_name (i := 5) free_nil (by decide) (by decide)) simgs_nil)))) (sim_seq (sim_setO (i := 6) free_nil (by decide) (sim_make rfl rfl mo_Book_init (siml_cons (sim_call rfl mo__law_made (sima_val (sim_varO (i := 3) rfl) sima_nil)) (siml_cons (sim_imm (sim_varF (i := 4) rfl)) (siml_cons (sim_imm (sim_varF (i := 5) rfl)) siml_nil))))) (sim_seq (sim_setO (i := 7) free_nil (by decide) sim_int) (sim_seq (sim_setO (i := 8) free_nil (by decide) (sim_tup siml_nil)) (sim_seq (sim_for (Γl := [.x, .q, .f, .o, .f, .f, .o, .o, .o, .x, .x]) (simi_rng1 sim_int) rfl rfl (simg_name (i := 9) free_nil (by decide) (by decide)) (sim_seq (sim_setO (i := 10) free_nil (by decide) (sim_call rfl mo__law_row_3 (sima_dice (i := 1) rfl (sima_val (sim_call1 sc_lenA (sim_part so_ix (sim_varO (i := 3) rfl) sim_int)) (sima_val (sim_call rfl mo__law_draw (sima_dice (i := 1) rfl (sima_val sim_int sima_nil))) sima_nil))))) (sim_seq (sim_setO (i := 8) free_nil (by decide) (sim_op so_add (sim_varO (i := 8) rfl) (sim_varO (i := 10) rfl))) (sim_seq (sim_setO (i := 7) free_nil (by decide) (sim_call rfl mo__law_stood (sima_val (sim_varF (i := 5) rfl) (sima_val (sim_varO (i := 7) rfl) (sima_val (sim_varO (i := 10) rfl) sima_nil))))) (sim_if (simt_or (simt_test (sim_op so_ne (sim_call1 sc_repr (sim_call rfl mo_stood (sima_val (sim_varO (i := 6) rfl) (sima_val (sim_varO (i := 8) rfl) sima_nil)))) (sim_call1 sc_repr (sim_varO (i := 7) rfl)))) (simt_test (sim_op so_ne (sim_call1 sc_repr (sim_call rfl mo_told (sima_val (sim_varO (i := 6) rfl) (sima_val (sim_varO (i := 8) rfl) sima_nil)))) (sim_call1 sc_repr (sim_part so_ix (sim_varF (i := 4) rfl) (sim_varO (i := 7) rfl)))))) (sim_ret sim_bl) sim_next)))) rfl) (sim_seq (sim_if (simt_or (simt_test (sim_op so_ne (sim_call rfl mo_stood (sima_val (sim_varO (i := 6) rfl) (sima_val (sim_tup siml_nil) sima_nil))) sim_int)) (simt_test (sim_op so_ne (sim_call rfl mo_told (sima_val (sim_varO (i := 6) rfl) (sima_val (sim_tup siml_nil) sima_nil))) (sim_part so_ix (sim_varF (i := 4) rfl) sim_int)))) (sim_ret sim_bl) sim_next) (sim_if (simt_or (simt_test (sim_own (c := 4) rfl rfl mo_Book___eq__ (sim_varO (i := 6) rfl) (sim_make rfl rfl mo_Book_init (siml_cons (sim_call rfl mo__law_made (sima_val (sim_varO (i := 3) rfl) sima_nil)) (siml_cons (sim_imm (sim_varF (i := 4) rfl)) (siml_cons (sim_imm (sim_varF (i := 5) rfl)) siml_nil)))))) (simt_test (sim_op so_ne (sim_call rfl mo_stood (sima_val (sim_varO (i := 6) rfl) (sima_val (sim_varO (i := 8) rfl) sima_nil))) (sim_varO (i := 7) rfl)))) (sim_ret sim_bl) sim_next)))))))) rfl) (sim_ret sim_bl)
end
theorem all_mk {l : PySem.W.OpenLaw} {w : World} {K : PySem.W.Frag} {h : Heap} {mg : Str → Option Value} {fa f_is_integer f_is_number f_is_below f_is_lot f_are_works f_check_row f_are_office_works f_is_telling f_are_standings f_are_steps f_led_from f_stood f_told f__law_pool f__law_draw f__law_lot f__law_office f__law_made f__law_any_book f__law_turning f__law_of_desks f__law_doubled f__law_bent f__law_book f__law_stood f__law_row f_law C_Office f_Office_init C_Book f_Book_init f_Office___eq__ f_Book___eq__ : Addr}
    {od_is_integer an_is_integer : Option Addr} {sl_is_integer : Array (Option Value)} {oc_is_integer kV_is_integer dc_is_integer pm_is_integer cd_is_integer ct_is_integer : Value}
    {od_is_number an_is_number : Option Addr} {sl_is_number : Array (Option Value)} {oc_is_number kV_is_number dc_is_number pm_is_number cd_is_number ct_is_number : Value}
    {od_is_below an_is_below : Option Addr} {sl_is_below : Array (Option Value)} {oc_is_below kV_is_below dc_is_below pm_is_below cd_is_below ct_is_below : Value}
    {od_is_lot an_is_lot : Option Addr} {sl_is_lot : Array (Option Value)} {oc_is_lot kV_is_lot dc_is_lot pm_is_lot cd_is_lot ct_is_lot : Value}
    {od_are_works an_are_works : Option Addr} {sl_are_works : Array (Option Value)} {oc_are_works kV_are_works dc_are_works pm_are_works cd_are_works ct_are_works : Value}
    {od_check_row an_check_row : Option Addr} {sl_check_row : Array (Option Value)} {oc_check_row kV_check_row dc_check_row pm_check_row cd_check_row ct_check_row : Value}
    {od_are_office_works an_are_office_works : Option Addr} {sl_are_office_works : Array (Option Value)} {oc_are_office_works kV_are_office_works dc_are_office_works pm_are_office_works cd_are_office_works ct_are_office_works : Value}
    {od_is_telling an_is_telling : Option Addr} {sl_is_telling : Array (Option Value)} {oc_is_telling kV_is_telling dc_is_telling pm_is_telling cd_is_telling ct_is_telling : Value}
    {od_are_standings an_are_standings : Option Addr} {sl_are_standings : Array (Option Value)} {oc_are_standings kV_are_standings dc_are_standings pm_are_standings cd_are_standings ct_are_standings : Value}
    {od_are_steps an_are_steps : Option Addr} {sl_are_steps : Array (Option Value)} {oc_are_steps kV_are_steps dc_are_steps pm_are_steps cd_are_steps ct_are_steps : Value}
    {od_led_from an_led_from : Option Addr} {sl_led_from : Array (Option Value)} {oc_led_from kV_led_from dc_led_from pm_led_from cd_led_from ct_led_from : Value}
    {od_stood an_stood : Option Addr} {sl_stood : Array (Option Value)} {oc_stood kV_stood dc_stood pm_stood cd_stood ct_stood : Value}
    {od_told an_told : Option Addr} {sl_told : Array (Option Value)} {oc_told kV_told dc_told pm_told cd_told ct_told : Value}
    {od__law_pool an__law_pool : Option Addr} {sl__law_pool : Array (Option Value)} {oc__law_pool kV__law_pool dc__law_pool pm__law_pool cd__law_pool ct__law_pool : Value}
    {od__law_draw an__law_draw : Option Addr} {sl__law_draw : Array (Option Value)} {oc__law_draw kV__law_draw dc__law_draw pm__law_draw cd__law_draw ct__law_draw : Value}
    {od__law_lot an__law_lot : Option Addr} {sl__law_lot : Array (Option Value)} {oc__law_lot kV__law_lot dc__law_lot pm__law_lot cd__law_lot ct__law_lot : Value}
    {od__law_office an__law_office : Option Addr} {sl__law_office : Array (Option Value)} {oc__law_office kV__law_office dc__law_office pm__law_office cd__law_office ct__law_office : Value}
    {od__law_made an__law_made : Option Addr} {sl__law_made : Array (Option Value)} {oc__law_made kV__law_made dc__law_made pm__law_made cd__law_made ct__law_made : Value}
    {od__law_any_book an__law_any_book : Option Addr} {sl__law_any_book : Array (Option Value)} {oc__law_any_book kV__law_any_book dc__law_any_book pm__law_any_book cd__law_any_book ct__law_any_book : Value}
    {od__law_turning an__law_turning : Option Addr} {sl__law_turning : Array (Option Value)} {oc__law_turning kV__law_turning dc__law_turning pm__law_turning cd__law_turning ct__law_turning : Value}
    {od__law_of_desks an__law_of_desks : Option Addr} {sl__law_of_desks : Array (Option Value)} {oc__law_of_desks kV__law_of_desks dc__law_of_desks pm__law_of_desks cd__law_of_desks ct__law_of_desks : Value}
    {od__law_doubled an__law_doubled : Option Addr} {sl__law_doubled : Array (Option Value)} {oc__law_doubled kV__law_doubled dc__law_doubled pm__law_doubled cd__law_doubled ct__law_doubled : Value}
    {od__law_bent an__law_bent : Option Addr} {sl__law_bent : Array (Option Value)} {oc__law_bent kV__law_bent dc__law_bent pm__law_bent cd__law_bent ct__law_bent : Value}
    {od__law_book an__law_book : Option Addr} {sl__law_book : Array (Option Value)} {oc__law_book kV__law_book dc__law_book pm__law_book cd__law_book ct__law_book : Value}
    {od__law_stood an__law_stood : Option Addr} {sl__law_stood : Array (Option Value)} {oc__law_stood kV__law_stood dc__law_stood pm__law_stood cd__law_stood ct__law_stood : Value}
    {od__law_row an__law_row : Option Addr} {sl__law_row : Array (Option Value)} {oc__law_row kV__law_row dc__law_row pm__law_row cd__law_row ct__law_row : Value}
    {od_law an_law : Option Addr} {sl_law : Array (Option Value)} {oc_law kV_law dc_law pm_law cd_law ct_law : Value}
    {od_Office_init an_Office_init : Option Addr} {sl_Office_init : Array (Option Value)} {oc_Office_init kV_Office_init dc_Office_init pm_Office_init cd_Office_init ct_Office_init : Value}
    {od_Book_init an_Book_init : Option Addr} {sl_Book_init : Array (Option Value)} {oc_Book_init kV_Book_init dc_Book_init pm_Book_init cd_Book_init ct_Book_init : Value}
    {od_Office___eq__ an_Office___eq__ : Option Addr} {sl_Office___eq__ : Array (Option Value)} {oc_Office___eq__ kV_Office___eq__ dc_Office___eq__ pm_Office___eq__ cd_Office___eq__ ct_Office___eq__ : Value}
    {od_Book___eq__ an_Book___eq__ : Option Addr} {sl_Book___eq__ : Array (Option Value)} {oc_Book___eq__ kV_Book___eq__ dc_Book___eq__ pm_Book___eq__ cd_Book___eq__ ct_Book___eq__ : Value}
    {t_MOST_DESKS : Tok}
    {t_MOST_STANDINGS : Tok}
    {t_MOST_TOLD : Tok}
    {t_MOST_WORKS : Tok}
    (X : K.In h) (G : h.Ns mainGlobals mg) (hfa : mg "law" = some (.ref fa))
    (a_is_integer : PySem.W.nsIn K mainGlobals "is_integer" = some (some (.ref f_is_integer)))
    (l_is_integer : K.lookup f_is_integer = some ⟨oc_is_integer, od_is_integer, .func (PySem.W.fnOf "is_integer" "is_integer" (defArgs s_is_integer) (defBody s_is_integer) (defScope s_is_integer) .none kV_is_integer dc_is_integer pm_is_integer an_is_integer cd_is_integer ct_is_integer), sl_is_integer⟩)
    (c_is_integer : PySem.W.codeIn K cd_is_integer "is_integer" = true)
    (k_is_integer : PySem.W.keepIn K (.ref f_is_integer) = true)
    (a_is_number : PySem.W.nsIn K mainGlobals "is_number" = some (some (.ref f_is_number)))
    (l_is_number : K.lookup f_is_number = some ⟨oc_is_number, od_is_number, .func (PySem.W.fnOf "is_number" "is_number" (defArgs s_is_number) (defBody s_is_number) (defScope s_is_number) .none kV_is_number dc_is_number pm_is_number an_is_number cd_is_number ct_is_number), sl_is_number⟩)
    (c_is_number : PySem.W.codeIn K cd_is_number "is_number" = true)
    (k_is_number : PySem.W.keepIn K (.ref f_is_number) = true)
    (a_is_below : PySem.W.nsIn K mainGlobals "is_below" = some (some (.ref f_is_below)))
    (l_is_below : K.lookup f_is_below = some ⟨oc_is_below, od_is_below, .func (PySem.W.fnOf "is_below" "is_below" (defArgs s_is_below) (defBody s_is_below) (defScope s_is_below) .none kV_is_below dc_is_below pm_is_below an_is_below cd_is_below ct_is_below), sl_is_below⟩)
    (c_is_below : PySem.W.codeIn K cd_is_below "is_below" = true)
    (k_is_below : PySem.W.keepIn K (.ref f_is_below) = true)
    (a_is_lot : PySem.W.nsIn K mainGlobals "is_lot" = some (some (.ref f_is_lot)))
    (l_is_lot : K.lookup f_is_lot = some ⟨oc_is_lot, od_is_lot, .func (PySem.W.fnOf "is_lot" "is_lot" (defArgs s_is_lot) (defBody s_is_lot) (defScope s_is_lot) .none kV_is_lot dc_is_lot pm_is_lot an_is_lot cd_is_lot ct_is_lot), sl_is_lot⟩)
    (c_is_lot : PySem.W.codeIn K cd_is_lot "is_lot" = true)
    (k_is_lot : PySem.W.keepIn K (.ref f_is_lot) = true)
    (a_are_works : PySem.W.nsIn K mainGlobals "are_works" = some (some (.ref f_are_works)))
    (l_are_works : K.lookup f_are_works = some ⟨oc_are_works, od_are_works, .func (PySem.W.fnOf "are_works" "are_works" (defArgs s_are_works) (defBody s_are_works) (defScope s_are_works) .none kV_are_works dc_are_works pm_are_works an_are_works cd_are_works ct_are_works), sl_are_works⟩)
    (c_are_works : PySem.W.codeIn K cd_are_works "are_works" = true)
    (k_are_works : PySem.W.keepIn K (.ref f_are_works) = true)
    (a_check_row : PySem.W.nsIn K mainGlobals "check_row" = some (some (.ref f_check_row)))
    (l_check_row : K.lookup f_check_row = some ⟨oc_check_row, od_check_row, .func (PySem.W.fnOf "check_row" "check_row" (defArgs s_check_row) (defBody s_check_row) (defScope s_check_row) .none kV_check_row dc_check_row pm_check_row an_check_row cd_check_row ct_check_row), sl_check_row⟩)
    (c_check_row : PySem.W.codeIn K cd_check_row "check_row" = true)
    (k_check_row : PySem.W.keepIn K (.ref f_check_row) = true)
    (a_are_office_works : PySem.W.nsIn K mainGlobals "are_office_works" = some (some (.ref f_are_office_works)))
    (l_are_office_works : K.lookup f_are_office_works = some ⟨oc_are_office_works, od_are_office_works, .func (PySem.W.fnOf "are_office_works" "are_office_works" (defArgs s_are_office_works) (defBody s_are_office_works) (defScope s_are_office_works) .none kV_are_office_works dc_are_office_works pm_are_office_works an_are_office_works cd_are_office_works ct_are_office_works), sl_are_office_works⟩)
    (c_are_office_works : PySem.W.codeIn K cd_are_office_works "are_office_works" = true)
    (k_are_office_works : PySem.W.keepIn K (.ref f_are_office_works) = true)
    (a_is_telling : PySem.W.nsIn K mainGlobals "is_telling" = some (some (.ref f_is_telling)))
    (l_is_telling : K.lookup f_is_telling = some ⟨oc_is_telling, od_is_telling, .func (PySem.W.fnOf "is_telling" "is_telling" (defArgs s_is_telling) (defBody s_is_telling) (defScope s_is_telling) .none kV_is_telling dc_is_telling pm_is_telling an_is_telling cd_is_telling ct_is_telling), sl_is_telling⟩)
    (c_is_telling : PySem.W.codeIn K cd_is_telling "is_telling" = true)
    (k_is_telling : PySem.W.keepIn K (.ref f_is_telling) = true)
    (a_are_standings : PySem.W.nsIn K mainGlobals "are_standings" = some (some (.ref f_are_standings)))
    (l_are_standings : K.lookup f_are_standings = some ⟨oc_are_standings, od_are_standings, .func (PySem.W.fnOf "are_standings" "are_standings" (defArgs s_are_standings) (defBody s_are_standings) (defScope s_are_standings) .none kV_are_standings dc_are_standings pm_are_standings an_are_standings cd_are_standings ct_are_standings), sl_are_standings⟩)
    (c_are_standings : PySem.W.codeIn K cd_are_standings "are_standings" = true)
    (k_are_standings : PySem.W.keepIn K (.ref f_are_standings) = true)
    (a_are_steps : PySem.W.nsIn K mainGlobals "are_steps" = some (some (.ref f_are_steps)))
    (l_are_steps : K.lookup f_are_steps = some ⟨oc_are_steps, od_are_steps, .func (PySem.W.fnOf "are_steps" "are_steps" (defArgs s_are_steps) (defBody s_are_steps) (defScope s_are_steps) .none kV_are_steps dc_are_steps pm_are_steps an_are_steps cd_are_steps ct_are_steps), sl_are_steps⟩)
    (c_are_steps : PySem.W.codeIn K cd_are_steps "are_steps" = true)
    (k_are_steps : PySem.W.keepIn K (.ref f_are_steps) = true)
    (a_led_from : PySem.W.nsIn K mainGlobals "led_from" = some (some (.ref f_led_from)))
    (l_led_from : K.lookup f_led_from = some ⟨oc_led_from, od_led_from, .func (PySem.W.fnOf "led_from" "led_from" (defArgs s_led_from) (defBody s_led_from) (defScope s_led_from) .none kV_led_from dc_led_from pm_led_from an_led_from cd_led_from ct_led_from), sl_led_from⟩)
    (c_led_from : PySem.W.codeIn K cd_led_from "led_from" = true)
    (k_led_from : PySem.W.keepIn K (.ref f_led_from) = true)
    (a_stood : PySem.W.nsIn K mainGlobals "stood" = some (some (.ref f_stood)))
    (l_stood : K.lookup f_stood = some ⟨oc_stood, od_stood, .func (PySem.W.fnOf "stood" "stood" (defArgs s_stood) (defBody s_stood) (defScope s_stood) .none kV_stood dc_stood pm_stood an_stood cd_stood ct_stood), sl_stood⟩)
    (c_stood : PySem.W.codeIn K cd_stood "stood" = true)
    (k_stood : PySem.W.keepIn K (.ref f_stood) = true)
    (a_told : PySem.W.nsIn K mainGlobals "told" = some (some (.ref f_told)))
    (l_told : K.lookup f_told = some ⟨oc_told, od_told, .func (PySem.W.fnOf "told" "told" (defArgs s_told) (defBody s_told) (defScope s_told) .none kV_told dc_told pm_told an_told cd_told ct_told), sl_told⟩)
    (c_told : PySem.W.codeIn K cd_told "told" = true)
    (k_told : PySem.W.keepIn K (.ref f_told) = true)
    (a__law_pool : PySem.W.nsIn K mainGlobals "_law_pool" = some (some (.ref f__law_pool)))
    (l__law_pool : K.lookup f__law_pool = some ⟨oc__law_pool, od__law_pool, .func (PySem.W.fnOf "_law_pool" "_law_pool" (defArgs s__law_pool) (defBody s__law_pool) (defScope s__law_pool) .none kV__law_pool dc__law_pool pm__law_pool an__law_pool cd__law_pool ct__law_pool), sl__law_pool⟩)
    (c__law_pool : PySem.W.codeIn K cd__law_pool "_law_pool" = true)
    (k__law_pool : PySem.W.keepIn K (.ref f__law_pool) = true)
    (a__law_draw : PySem.W.nsIn K mainGlobals "_law_draw" = some (some (.ref f__law_draw)))
    (l__law_draw : K.lookup f__law_draw = some ⟨oc__law_draw, od__law_draw, .func (PySem.W.fnOf "_law_draw" "_law_draw" (defArgs s__law_draw) (defBody s__law_draw) (defScope s__law_draw) .none kV__law_draw dc__law_draw pm__law_draw an__law_draw cd__law_draw ct__law_draw), sl__law_draw⟩)
    (c__law_draw : PySem.W.codeIn K cd__law_draw "_law_draw" = true)
    (k__law_draw : PySem.W.keepIn K (.ref f__law_draw) = true)
    (a__law_lot : PySem.W.nsIn K mainGlobals "_law_lot" = some (some (.ref f__law_lot)))
    (l__law_lot : K.lookup f__law_lot = some ⟨oc__law_lot, od__law_lot, .func (PySem.W.fnOf "_law_lot" "_law_lot" (defArgs s__law_lot) (defBody s__law_lot) (defScope s__law_lot) .none kV__law_lot dc__law_lot pm__law_lot an__law_lot cd__law_lot ct__law_lot), sl__law_lot⟩)
    (c__law_lot : PySem.W.codeIn K cd__law_lot "_law_lot" = true)
    (k__law_lot : PySem.W.keepIn K (.ref f__law_lot) = true)
    (a__law_office : PySem.W.nsIn K mainGlobals "_law_office" = some (some (.ref f__law_office)))
    (l__law_office : K.lookup f__law_office = some ⟨oc__law_office, od__law_office, .func (PySem.W.fnOf "_law_office" "_law_office" (defArgs s__law_office) (defBody s__law_office) (defScope s__law_office) .none kV__law_office dc__law_office pm__law_office an__law_office cd__law_office ct__law_office), sl__law_office⟩)
    (c__law_office : PySem.W.codeIn K cd__law_office "_law_office" = true)
    (k__law_office : PySem.W.keepIn K (.ref f__law_office) = true)
    (a__law_made : PySem.W.nsIn K mainGlobals "_law_made" = some (some (.ref f__law_made)))
    (l__law_made : K.lookup f__law_made = some ⟨oc__law_made, od__law_made, .func (PySem.W.fnOf "_law_made" "_law_made" (defArgs s__law_made) (defBody s__law_made) (defScope s__law_made) .none kV__law_made dc__law_made pm__law_made an__law_made cd__law_made ct__law_made), sl__law_made⟩)
    (c__law_made : PySem.W.codeIn K cd__law_made "_law_made" = true)
    (k__law_made : PySem.W.keepIn K (.ref f__law_made) = true)
    (a__law_any_book : PySem.W.nsIn K mainGlobals "_law_any_book" = some (some (.ref f__law_any_book)))
    (l__law_any_book : K.lookup f__law_any_book = some ⟨oc__law_any_book, od__law_any_book, .func (PySem.W.fnOf "_law_any_book" "_law_any_book" (defArgs s__law_any_book) (defBody s__law_any_book) (defScope s__law_any_book) .none kV__law_any_book dc__law_any_book pm__law_any_book an__law_any_book cd__law_any_book ct__law_any_book), sl__law_any_book⟩)
    (c__law_any_book : PySem.W.codeIn K cd__law_any_book "_law_any_book" = true)
    (k__law_any_book : PySem.W.keepIn K (.ref f__law_any_book) = true)
    (a__law_turning : PySem.W.nsIn K mainGlobals "_law_turning" = some (some (.ref f__law_turning)))
    (l__law_turning : K.lookup f__law_turning = some ⟨oc__law_turning, od__law_turning, .func (PySem.W.fnOf "_law_turning" "_law_turning" (defArgs s__law_turning) (defBody s__law_turning) (defScope s__law_turning) .none kV__law_turning dc__law_turning pm__law_turning an__law_turning cd__law_turning ct__law_turning), sl__law_turning⟩)
    (c__law_turning : PySem.W.codeIn K cd__law_turning "_law_turning" = true)
    (k__law_turning : PySem.W.keepIn K (.ref f__law_turning) = true)
    (a__law_of_desks : PySem.W.nsIn K mainGlobals "_law_of_desks" = some (some (.ref f__law_of_desks)))
    (l__law_of_desks : K.lookup f__law_of_desks = some ⟨oc__law_of_desks, od__law_of_desks, .func (PySem.W.fnOf "_law_of_desks" "_law_of_desks" (defArgs s__law_of_desks) (defBody s__law_of_desks) (defScope s__law_of_desks) .none kV__law_of_desks dc__law_of_desks pm__law_of_desks an__law_of_desks cd__law_of_desks ct__law_of_desks), sl__law_of_desks⟩)
    (c__law_of_desks : PySem.W.codeIn K cd__law_of_desks "_law_of_desks" = true)
    (k__law_of_desks : PySem.W.keepIn K (.ref f__law_of_desks) = true)
    (a__law_doubled : PySem.W.nsIn K mainGlobals "_law_doubled" = some (some (.ref f__law_doubled)))
    (l__law_doubled : K.lookup f__law_doubled = some ⟨oc__law_doubled, od__law_doubled, .func (PySem.W.fnOf "_law_doubled" "_law_doubled" (defArgs s__law_doubled) (defBody s__law_doubled) (defScope s__law_doubled) .none kV__law_doubled dc__law_doubled pm__law_doubled an__law_doubled cd__law_doubled ct__law_doubled), sl__law_doubled⟩)
    (c__law_doubled : PySem.W.codeIn K cd__law_doubled "_law_doubled" = true)
    (k__law_doubled : PySem.W.keepIn K (.ref f__law_doubled) = true)
    (a__law_bent : PySem.W.nsIn K mainGlobals "_law_bent" = some (some (.ref f__law_bent)))
    (l__law_bent : K.lookup f__law_bent = some ⟨oc__law_bent, od__law_bent, .func (PySem.W.fnOf "_law_bent" "_law_bent" (defArgs s__law_bent) (defBody s__law_bent) (defScope s__law_bent) .none kV__law_bent dc__law_bent pm__law_bent an__law_bent cd__law_bent ct__law_bent), sl__law_bent⟩)
    (c__law_bent : PySem.W.codeIn K cd__law_bent "_law_bent" = true)
    (k__law_bent : PySem.W.keepIn K (.ref f__law_bent) = true)
    (a__law_book : PySem.W.nsIn K mainGlobals "_law_book" = some (some (.ref f__law_book)))
    (l__law_book : K.lookup f__law_book = some ⟨oc__law_book, od__law_book, .func (PySem.W.fnOf "_law_book" "_law_book" (defArgs s__law_book) (defBody s__law_book) (defScope s__law_book) .none kV__law_book dc__law_book pm__law_book an__law_book cd__law_book ct__law_book), sl__law_book⟩)
    (c__law_book : PySem.W.codeIn K cd__law_book "_law_book" = true)
    (k__law_book : PySem.W.keepIn K (.ref f__law_book) = true)
    (a__law_stood : PySem.W.nsIn K mainGlobals "_law_stood" = some (some (.ref f__law_stood)))
    (l__law_stood : K.lookup f__law_stood = some ⟨oc__law_stood, od__law_stood, .func (PySem.W.fnOf "_law_stood" "_law_stood" (defArgs s__law_stood) (defBody s__law_stood) (defScope s__law_stood) .none kV__law_stood dc__law_stood pm__law_stood an__law_stood cd__law_stood ct__law_stood), sl__law_stood⟩)
    (c__law_stood : PySem.W.codeIn K cd__law_stood "_law_stood" = true)
    (k__law_stood : PySem.W.keepIn K (.ref f__law_stood) = true)
    (a__law_row : PySem.W.nsIn K mainGlobals "_law_row" = some (some (.ref f__law_row)))
    (l__law_row : K.lookup f__law_row = some ⟨oc__law_row, od__law_row, .func (PySem.W.fnOf "_law_row" "_law_row" (defArgs s__law_row) (defBody s__law_row) (defScope s__law_row) .none kV__law_row dc__law_row pm__law_row an__law_row cd__law_row ct__law_row), sl__law_row⟩)
    (c__law_row : PySem.W.codeIn K cd__law_row "_law_row" = true)
    (k__law_row : PySem.W.keepIn K (.ref f__law_row) = true)
    (a_law : PySem.W.nsIn K mainGlobals "law" = some (some (.ref f_law)))
    (l_law : K.lookup f_law = some ⟨oc_law, od_law, .func (PySem.W.fnOf "law" "law" (defArgs s_law) (defBody s_law) (defScope s_law) .none kV_law dc_law pm_law an_law cd_law ct_law), sl_law⟩)
    (c_law : PySem.W.codeIn K cd_law "law" = true)
    (k_law : PySem.W.keepIn K (.ref f_law) = true)
    (a_Office : PySem.W.nsIn K mainGlobals "Office" = some (some (.ref C_Office)))
    (i_Office : PySem.W.findIn K (.ref C_Office) "__init__" = some (some (.ref f_Office_init)))
    (j_Office : PySem.W.isFn K (.ref f_Office_init) = true)
    (l_Office_init : K.lookup f_Office_init = some ⟨oc_Office_init, od_Office_init, .func (PySem.W.fnOf "__init__" "Office.__init__" (defArgs s_Office_init) (defBody s_Office_init) (defScope s_Office_init) .none kV_Office_init dc_Office_init pm_Office_init an_Office_init cd_Office_init ct_Office_init), sl_Office_init⟩)
    (c_Office_init : PySem.W.codeIn K cd_Office_init "Office.__init__" = true)
    (k_Office_init : PySem.W.keepIn K (.ref f_Office_init) = true)
    (pg_Office : PySem.W.plainGet K C_Office Str.empty = true)
    (hd_Office : PySem.W.hasDictIn K C_Office = true)
    (po_Office : PySem.W.plainOver K C_Office = true)
    (sa_Office : PySem.W.findIn K (.ref C_Office) "__setattr__" = some (some (.builtin "object.__setattr__")))
    (mk_Office : PySem.W.makesIn K C_Office = true)
    (kc_Office : PySem.W.keepIn K (.ref C_Office) = true)
    (a_Book : PySem.W.nsIn K mainGlobals "Book" = some (some (.ref C_Book)))
    (i_Book : PySem.W.findIn K (.ref C_Book) "__init__" = some (some (.ref f_Book_init)))
    (j_Book : PySem.W.isFn K (.ref f_Book_init) = true)
    (l_Book_init : K.lookup f_Book_init = some ⟨oc_Book_init, od_Book_init, .func (PySem.W.fnOf "__init__" "Book.__init__" (defArgs s_Book_init) (defBody s_Book_init) (defScope s_Book_init) .none kV_Book_init dc_Book_init pm_Book_init an_Book_init cd_Book_init ct_Book_init), sl_Book_init⟩)
    (c_Book_init : PySem.W.codeIn K cd_Book_init "Book.__init__" = true)
    (k_Book_init : PySem.W.keepIn K (.ref f_Book_init) = true)
    (pg_Book : PySem.W.plainGet K C_Book Str.empty = true)
    (hd_Book : PySem.W.hasDictIn K C_Book = true)
    (po_Book : PySem.W.plainOver K C_Book = true)
    (sa_Book : PySem.W.findIn K (.ref C_Book) "__setattr__" = some (some (.builtin "object.__setattr__")))
    (mk_Book : PySem.W.makesIn K C_Book = true)
    (kc_Book : PySem.W.keepIn K (.ref C_Book) = true)
    (hm_Office___eq__ : PySem.W.findIn K (.ref C_Office) "__eq__" = some (some (.ref f_Office___eq__)))
    (hf_Office___eq__ : PySem.W.isFn K (.ref f_Office___eq__) = true)
    (l_Office___eq__ : K.lookup f_Office___eq__ = some ⟨oc_Office___eq__, od_Office___eq__, .func (PySem.W.fnOf "__eq__" "Office.__eq__" (defArgs s_Office___eq__) (defBody s_Office___eq__) (defScope s_Office___eq__) .none kV_Office___eq__ dc_Office___eq__ pm_Office___eq__ an_Office___eq__ cd_Office___eq__ ct_Office___eq__), sl_Office___eq__⟩)
    (c_Office___eq__ : PySem.W.codeIn K cd_Office___eq__ "Office.__eq__" = true)
    (k_Office___eq__ : PySem.W.keepIn K (.ref f_Office___eq__) = true)
    (hm_Book___eq__ : PySem.W.findIn K (.ref C_Book) "__eq__" = some (some (.ref f_Book___eq__)))
    (hf_Book___eq__ : PySem.W.isFn K (.ref f_Book___eq__) = true)
    (l_Book___eq__ : K.lookup f_Book___eq__ = some ⟨oc_Book___eq__, od_Book___eq__, .func (PySem.W.fnOf "__eq__" "Book.__eq__" (defArgs s_Book___eq__) (defBody s_Book___eq__) (defScope s_Book___eq__) .none kV_Book___eq__ dc_Book___eq__ pm_Book___eq__ an_Book___eq__ cd_Book___eq__ ct_Book___eq__), sl_Book___eq__⟩)
    (c_Book___eq__ : PySem.W.codeIn K cd_Book___eq__ "Book.__eq__" = true)
    (k_Book___eq__ : PySem.W.keepIn K (.ref f_Book___eq__) = true)
    (oa_Book : PySem.W.findIn K (.ref C_Book) "__class__" = some (some (.builtin "object.__class__")))
    (og_Book : PySem.W.specialIn K (.builtin "object.__class__") "__get__" = some (some (.builtin "getset_descriptor.__get__")))
    (ot_Book : PySem.W.takesIn K (.builtin "object.__class__") = some true)
    (om_Book : PySem.W.mroIn K C_Book (.type "object") = some true)
    (on_Book : PySem.W.findIn K (.ref C_Book) "__ne__" = some (some (.builtin "object.__ne__")))
    (oo_Book : PySem.W.subIn K (.ref C_Book) (.type "object") = some true)
    (oa_Office : PySem.W.findIn K (.ref C_Office) "__class__" = some (some (.builtin "object.__class__")))
    (og_Office : PySem.W.specialIn K (.builtin "object.__class__") "__get__" = some (some (.builtin "getset_descriptor.__get__")))
    (ot_Office : PySem.W.takesIn K (.builtin "object.__class__") = some true)
    (om_Office : PySem.W.mroIn K C_Office (.type "object") = some true)
    (on_Office : PySem.W.findIn K (.ref C_Office) "__ne__" = some (some (.builtin "object.__ne__")))
    (oo_Office : PySem.W.subIn K (.ref C_Office) (.type "object") = some true)
    (na_Book_office : PySem.W.findIn K (.ref C_Book) "office" = some none)
    (na_Book_steps : PySem.W.findIn K (.ref C_Book) "steps" = some none)
    (na_Book_telling : PySem.W.findIn K (.ref C_Book) "telling" = some none)
    (na_Office_desks : PySem.W.findIn K (.ref C_Office) "desks" = some none)
    (na_Office_works : PySem.W.findIn K (.ref C_Office) "works" = some none)
    (n_abs : PySem.W.nsIn K mainGlobals "abs" = some none)
    (n_all : PySem.W.nsIn K mainGlobals "all" = some none)
    (n_bool : PySem.W.nsIn K mainGlobals "bool" = some none)
    (n_int : PySem.W.nsIn K mainGlobals "int" = some none)
    (n_isinstance : PySem.W.nsIn K mainGlobals "isinstance" = some none)
    (n_len : PySem.W.nsIn K mainGlobals "len" = some none)
    (n_list : PySem.W.nsIn K mainGlobals "list" = some none)
    (n_range : PySem.W.nsIn K mainGlobals "range" = some none)
    (n_repr : PySem.W.nsIn K mainGlobals "repr" = some none)
    (n_set : PySem.W.nsIn K mainGlobals "set" = some none)
    (n_sorted : PySem.W.nsIn K mainGlobals "sorted" = some none)
    (n_sum : PySem.W.nsIn K mainGlobals "sum" = some none)
    (n_tuple : PySem.W.nsIn K mainGlobals "tuple" = some none)
    (n_zip : PySem.W.nsIn K mainGlobals "zip" = some none)
    (a_MOST_DESKS : PySem.W.nsIn K mainGlobals "MOST_DESKS" = some (some (.int (6) t_MOST_DESKS)))
    (a_MOST_STANDINGS : PySem.W.nsIn K mainGlobals "MOST_STANDINGS" = some (some (.int (12) t_MOST_STANDINGS)))
    (a_MOST_TOLD : PySem.W.nsIn K mainGlobals "MOST_TOLD" = some (some (.int (9) t_MOST_TOLD)))
    (a_MOST_WORKS : PySem.W.nsIn K mainGlobals "MOST_WORKS" = some (some (.int (10) t_MOST_WORKS)))
    (hp : b_law_k42 lawEnds (List.replicate 11 none)) :
    ∃ fd : FuncData, (∀ (s : Shared) (v : Value), BindsTo s fd ⟨[v], []⟩ [("script", v)]) ∧ ∀ base : Heap, K.In base → base.Ns mainGlobals mg → FnOk l.prog w K mg base CX0 9 fa fd ["script"] (spLaw K) := by
  have e := hfa.symm.trans (PySem.W.mg_of X G a_law)
  cases e
  let T : Facts K mg := {
    f_is_integer := f_is_integer,
    fd_is_integer := PySem.W.fnOf "is_integer" "is_integer" (defArgs s_is_integer) (defBody s_is_integer) (defScope s_is_integer) .none kV_is_integer dc_is_integer pm_is_integer an_is_integer cd_is_integer ct_is_integer,
    F_is_integer := fun_mk (st := s_is_integer) l_is_integer c_is_integer k_is_integer,
    m_is_integer := PySem.W.mg_of X G a_is_integer,
    f_is_number := f_is_number,
    fd_is_number := PySem.W.fnOf "is_number" "is_number" (defArgs s_is_number) (defBody s_is_number) (defScope s_is_number) .none kV_is_number dc_is_number pm_is_number an_is_number cd_is_number ct_is_number,
    F_is_number := fun_mk (st := s_is_number) l_is_number c_is_number k_is_number,
    m_is_number := PySem.W.mg_of X G a_is_number,
    f_is_below := f_is_below,
    fd_is_below := PySem.W.fnOf "is_below" "is_below" (defArgs s_is_below) (defBody s_is_below) (defScope s_is_below) .none kV_is_below dc_is_below pm_is_below an_is_below cd_is_below ct_is_below,
    F_is_below := fun_mk (st := s_is_below) l_is_below c_is_below k_is_below,
    m_is_below := PySem.W.mg_of X G a_is_below,
    f_is_lot := f_is_lot,
    fd_is_lot := PySem.W.fnOf "is_lot" "is_lot" (defArgs s_is_lot) (defBody s_is_lot) (defScope s_is_lot) .none kV_is_lot dc_is_lot pm_is_lot an_is_lot cd_is_lot ct_is_lot,
    F_is_lot := fun_mk (st := s_is_lot) l_is_lot c_is_lot k_is_lot,
    m_is_lot := PySem.W.mg_of X G a_is_lot,
    f_are_works := f_are_works,
    fd_are_works := PySem.W.fnOf "are_works" "are_works" (defArgs s_are_works) (defBody s_are_works) (defScope s_are_works) .none kV_are_works dc_are_works pm_are_works an_are_works cd_are_works ct_are_works,
    F_are_works := fun_mk (st := s_are_works) l_are_works c_are_works k_are_works,
    m_are_works := PySem.W.mg_of X G a_are_works,
    f_check_row := f_check_row,
    fd_check_row := PySem.W.fnOf "check_row" "check_row" (defArgs s_check_row) (defBody s_check_row) (defScope s_check_row) .none kV_check_row dc_check_row pm_check_row an_check_row cd_check_row ct_check_row,
    F_check_row := fun_mk (st := s_check_row) l_check_row c_check_row k_check_row,
    m_check_row := PySem.W.mg_of X G a_check_row,
    f_are_office_works := f_are_office_works,
    fd_are_office_works := PySem.W.fnOf "are_office_works" "are_office_works" (defArgs s_are_office_works) (defBody s_are_office_works) (defScope s_are_office_works) .none kV_are_office_works dc_are_office_works pm_are_office_works an_are_office_works cd_are_office_works ct_are_office_works,
    F_are_office_works := fun_mk (st := s_are_office_works) l_are_office_works c_are_office_works k_are_office_works,
    m_are_office_works := PySem.W.mg_of X G a_are_office_works,
    f_is_telling := f_is_telling,
    fd_is_telling := PySem.W.fnOf "is_telling" "is_telling" (defArgs s_is_telling) (defBody s_is_telling) (defScope s_is_telling) .none kV_is_telling dc_is_telling pm_is_telling an_is_telling cd_is_telling ct_is_telling,
    F_is_telling := fun_mk (st := s_is_telling) l_is_telling c_is_telling k_is_telling,
    m_is_telling := PySem.W.mg_of X G a_is_telling,
    f_are_standings := f_are_standings,
    fd_are_standings := PySem.W.fnOf "are_standings" "are_standings" (defArgs s_are_standings) (defBody s_are_standings) (defScope s_are_standings) .none kV_are_standings dc_are_standings pm_are_standings an_are_standings cd_are_standings ct_are_standings,
    F_are_standings := fun_mk (st := s_are_standings) l_are_standings c_are_standings k_are_standings,
    m_are_standings := PySem.W.mg_of X G a_are_standings,
    f_are_steps := f_are_steps,
    fd_are_steps := PySem.W.fnOf "are_steps" "are_steps" (defArgs s_are_steps) (defBody s_are_steps) (defScope s_are_steps) .none kV_are_steps dc_are_steps pm_are_steps an_are_steps cd_are_steps ct_are_steps,
    F_are_steps := fun_mk (st := s_are_steps) l_are_steps c_are_steps k_are_steps,
    m_are_steps := PySem.W.mg_of X G a_are_steps,
    f_led_from := f_led_from,
    fd_led_from := PySem.W.fnOf "led_from" "led_from" (defArgs s_led_from) (defBody s_led_from) (defScope s_led_from) .none kV_led_from dc_led_from pm_led_from an_led_from cd_led_from ct_led_from,
    F_led_from := fun_mk (st := s_led_from) l_led_from c_led_from k_led_from,
    m_led_from := PySem.W.mg_of X G a_led_from,
    f_stood := f_stood,
    fd_stood := PySem.W.fnOf "stood" "stood" (defArgs s_stood) (defBody s_stood) (defScope s_stood) .none kV_stood dc_stood pm_stood an_stood cd_stood ct_stood,
    F_stood := fun_mk (st := s_stood) l_stood c_stood k_stood,
    m_stood := PySem.W.mg_of X G a_stood,
    f_told := f_told,
    fd_told := PySem.W.fnOf "told" "told" (defArgs s_told) (defBody s_told) (defScope s_told) .none kV_told dc_told pm_told an_told cd_told ct_told,
    F_told := fun_mk (st := s_told) l_told c_told k_told,
    m_told := PySem.W.mg_of X G a_told,
    f__law_pool := f__law_pool,
    fd__law_pool := PySem.W.fnOf "_law_pool" "_law_pool" (defArgs s__law_pool) (defBody s__law_pool) (defScope s__law_pool) .none kV__law_pool dc__law_pool pm__law_pool an__law_pool cd__law_pool ct__law_pool,
    F__law_pool := fun_mk (st := s__law_pool) l__law_pool c__law_pool k__law_pool,
    m__law_pool := PySem.W.mg_of X G a__law_pool,
    f__law_draw := f__law_draw,
    fd__law_draw := PySem.W.fnOf "_law_draw" "_law_draw" (defArgs s__law_draw) (defBody s__law_draw) (defScope s__law_draw) .none kV__law_draw dc__law_draw pm__law_draw an__law_draw cd__law_draw ct__law_draw,
    F__law_draw := fun_mk (st := s__law_draw) l__law_draw c__law_draw k__law_draw,
    m__law_draw := PySem.W.mg_of X G a__law_draw,
    f__law_lot := f__law_lot,
    fd__law_lot := PySem.W.fnOf "_law_lot" "_law_lot" (defArgs s__law_lot) (defBody s__law_lot) (defScope s__law_lot) .none kV__law_lot dc__law_lot pm__law_lot an__law_lot cd__law_lot ct__law_lot,
    F__law_lot := fun_mk (st := s__law_lot) l__law_lot c__law_lot k__law_lot,
    m__law_lot := PySem.W.mg_of X G a__law_lot,
    f__law_office := f__law_office,
    fd__law_office := PySem.W.fnOf "_law_office" "_law_office" (defArgs s__law_office) (defBody s__law_office) (defScope s__law_office) .none kV__law_office dc__law_office pm__law_office an__law_office cd__law_office ct__law_office,
    F__law_office := fun_mk (st := s__law_office) l__law_office c__law_office k__law_office,
    m__law_office := PySem.W.mg_of X G a__law_office,
    f__law_made := f__law_made,
    fd__law_made := PySem.W.fnOf "_law_made" "_law_made" (defArgs s__law_made) (defBody s__law_made) (defScope s__law_made) .none kV__law_made dc__law_made pm__law_made an__law_made cd__law_made ct__law_made,
    F__law_made := fun_mk (st := s__law_made) l__law_made c__law_made k__law_made,
    m__law_made := PySem.W.mg_of X G a__law_made,
    f__law_any_book := f__law_any_book,
    fd__law_any_book := PySem.W.fnOf "_law_any_book" "_law_any_book" (defArgs s__law_any_book) (defBody s__law_any_book) (defScope s__law_any_book) .none kV__law_any_book dc__law_any_book pm__law_any_book an__law_any_book cd__law_any_book ct__law_any_book,
    F__law_any_book := fun_mk (st := s__law_any_book) l__law_any_book c__law_any_book k__law_any_book,
    m__law_any_book := PySem.W.mg_of X G a__law_any_book,
    f__law_turning := f__law_turning,
    fd__law_turning := PySem.W.fnOf "_law_turning" "_law_turning" (defArgs s__law_turning) (defBody s__law_turning) (defScope s__law_turning) .none kV__law_turning dc__law_turning pm__law_turning an__law_turning cd__law_turning ct__law_turning,
    F__law_turning := fun_mk (st := s__law_turning) l__law_turning c__law_turning k__law_turning,
    m__law_turning := PySem.W.mg_of X G a__law_turning,
    f__law_of_desks := f__law_of_desks,
    fd__law_of_desks := PySem.W.fnOf "_law_of_desks" "_law_of_desks" (defArgs s__law_of_desks) (defBody s__law_of_desks) (defScope s__law_of_desks) .none kV__law_of_desks dc__law_of_desks pm__law_of_desks an__law_of_desks cd__law_of_desks ct__law_of_desks,
    F__law_of_desks := fun_mk (st := s__law_of_desks) l__law_of_desks c__law_of_desks k__law_of_desks,
    m__law_of_desks := PySem.W.mg_of X G a__law_of_desks,
    f__law_doubled := f__law_doubled,
    fd__law_doubled := PySem.W.fnOf "_law_doubled" "_law_doubled" (defArgs s__law_doubled) (defBody s__law_doubled) (defScope s__law_doubled) .none kV__law_doubled dc__law_doubled pm__law_doubled an__law_doubled cd__law_doubled ct__law_doubled,
    F__law_doubled := fun_mk (st := s__law_doubled) l__law_doubled c__law_doubled k__law_doubled,
    m__law_doubled := PySem.W.mg_of X G a__law_doubled,
    f__law_bent := f__law_bent,
    fd__law_bent := PySem.W.fnOf "_law_bent" "_law_bent" (defArgs s__law_bent) (defBody s__law_bent) (defScope s__law_bent) .none kV__law_bent dc__law_bent pm__law_bent an__law_bent cd__law_bent ct__law_bent,
    F__law_bent := fun_mk (st := s__law_bent) l__law_bent c__law_bent k__law_bent,
    m__law_bent := PySem.W.mg_of X G a__law_bent,
    f__law_book := f__law_book,
    fd__law_book := PySem.W.fnOf "_law_book" "_law_book" (defArgs s__law_book) (defBody s__law_book) (defScope s__law_book) .none kV__law_book dc__law_book pm__law_book an__law_book cd__law_book ct__law_book,
    F__law_book := fun_mk (st := s__law_book) l__law_book c__law_book k__law_book,
    m__law_book := PySem.W.mg_of X G a__law_book,
    f__law_stood := f__law_stood,
    fd__law_stood := PySem.W.fnOf "_law_stood" "_law_stood" (defArgs s__law_stood) (defBody s__law_stood) (defScope s__law_stood) .none kV__law_stood dc__law_stood pm__law_stood an__law_stood cd__law_stood ct__law_stood,
    F__law_stood := fun_mk (st := s__law_stood) l__law_stood c__law_stood k__law_stood,
    m__law_stood := PySem.W.mg_of X G a__law_stood,
    f__law_row := f__law_row,
    fd__law_row := PySem.W.fnOf "_law_row" "_law_row" (defArgs s__law_row) (defBody s__law_row) (defScope s__law_row) .none kV__law_row dc__law_row pm__law_row an__law_row cd__law_row ct__law_row,
    F__law_row := fun_mk (st := s__law_row) l__law_row c__law_row k__law_row,
    m__law_row := PySem.W.mg_of X G a__law_row,
    f_law := fa,
    fd_law := PySem.W.fnOf "law" "law" (defArgs s_law) (defBody s_law) (defScope s_law) .none kV_law dc_law pm_law an_law cd_law ct_law,
    F_law := fun_mk (st := s_law) l_law c_law k_law,
    m_law := PySem.W.mg_of X G a_law,
    f_Office_init := f_Office_init,
    fd_Office_init := PySem.W.fnOf "__init__" "Office.__init__" (defArgs s_Office_init) (defBody s_Office_init) (defScope s_Office_init) .none kV_Office_init dc_Office_init pm_Office_init an_Office_init cd_Office_init ct_Office_init,
    F_Office_init := fun_mk (st := s_Office_init) l_Office_init c_Office_init k_Office_init,
    C_Office := C_Office,
    m_Office := PySem.W.mg_of X G a_Office,
    mk_Office := ⟨mk_Office, i_Office, j_Office, kc_Office⟩,
    cl_Office := ⟨pg_Office, hd_Office, po_Office, sa_Office⟩,
    f_Book_init := f_Book_init,
    fd_Book_init := PySem.W.fnOf "__init__" "Book.__init__" (defArgs s_Book_init) (defBody s_Book_init) (defScope s_Book_init) .none kV_Book_init dc_Book_init pm_Book_init an_Book_init cd_Book_init ct_Book_init,
    F_Book_init := fun_mk (st := s_Book_init) l_Book_init c_Book_init k_Book_init,
    C_Book := C_Book,
    m_Book := PySem.W.mg_of X G a_Book,
    mk_Book := ⟨mk_Book, i_Book, j_Book, kc_Book⟩,
    cl_Book := ⟨pg_Book, hd_Book, po_Book, sa_Book⟩,
    f_Office___eq__ := f_Office___eq__,
    fd_Office___eq__ := PySem.W.fnOf "__eq__" "Office.__eq__" (defArgs s_Office___eq__) (defBody s_Office___eq__) (defScope s_Office___eq__) .none kV_Office___eq__ dc_Office___eq__ pm_Office___eq__ an_Office___eq__ cd_Office___eq__ ct_Office___eq__,
    F_Office___eq__ := fun_mk (st := s_Office___eq__) l_Office___eq__ c_Office___eq__ k_Office___eq__,
    h_Office___eq__ := ⟨hm_Office___eq__, hf_Office___eq__, k_Office___eq__⟩,
    f_Book___eq__ := f_Book___eq__,
    fd_Book___eq__ := PySem.W.fnOf "__eq__" "Book.__eq__" (defArgs s_Book___eq__) (defBody s_Book___eq__) (defScope s_Book___eq__) .none kV_Book___eq__ dc_Book___eq__ pm_Book___eq__ an_Book___eq__ cd_Book___eq__ ct_Book___eq__,
    F_Book___eq__ := fun_mk (st := s_Book___eq__) l_Book___eq__ c_Book___eq__ k_Book___eq__,
    h_Book___eq__ := ⟨hm_Book___eq__, hf_Book___eq__, k_Book___eq__⟩,
    ow_Book := ⟨⟨pg_Book, hd_Book, po_Book, sa_Book⟩, oa_Book, og_Book, ot_Book, om_Book, on_Book, oo_Book⟩,
    ow_Office := ⟨⟨pg_Office, hd_Office, po_Office, sa_Office⟩, oa_Office, og_Office, ot_Office, om_Office, on_Office, oo_Office⟩,
    na_Book_office := na_Book_office,
    na_Book_steps := na_Book_steps,
    na_Book_telling := na_Book_telling,
    na_Office_desks := na_Office_desks,
    na_Office_works := na_Office_works,
    n_abs := PySem.W.mg_none_of X G n_abs,
    n_all := PySem.W.mg_none_of X G n_all,
    n_bool := PySem.W.mg_none_of X G n_bool,
    n_int := PySem.W.mg_none_of X G n_int,
    n_isinstance := PySem.W.mg_none_of X G n_isinstance,
    n_len := PySem.W.mg_none_of X G n_len,
    n_list := PySem.W.mg_none_of X G n_list,
    n_range := PySem.W.mg_none_of X G n_range,
    n_repr := PySem.W.mg_none_of X G n_repr,
    n_set := PySem.W.mg_none_of X G n_set,
    n_sorted := PySem.W.mg_none_of X G n_sorted,
    n_sum := PySem.W.mg_none_of X G n_sum,
    n_tuple := PySem.W.mg_none_of X G n_tuple,
    n_zip := PySem.W.mg_none_of X G n_zip,
    t_MOST_DESKS := t_MOST_DESKS,
    m_MOST_DESKS := PySem.W.mg_of X G a_MOST_DESKS,
    t_MOST_STANDINGS := t_MOST_STANDINGS,
    m_MOST_STANDINGS := PySem.W.mg_of X G a_MOST_STANDINGS,
    t_MOST_TOLD := t_MOST_TOLD,
    m_MOST_TOLD := PySem.W.mg_of X G a_MOST_TOLD,
    t_MOST_WORKS := t_MOST_WORKS,
    m_MOST_WORKS := PySem.W.mg_of X G a_MOST_WORKS }
  exact ⟨T.fd_law, fun s v => .of_eq rfl, fun base _ _ => ok_law T hp⟩
end Pu
set_option Elab.async false
set_option linter.all false
set_option maxRecDepth 100000
namespace Pu
open PySem PySem.Spec PyProof.Rows L2
abbrev FEv (mf : XF) (ds : List D) (d : D) : Prop := ∀ Q : D → Prop, Q d → mf ds Q
abbrev FP (mf : XF) (ds : List D) (P : D → Prop) : Prop := ∀ Q : D → Prop, (∀ d, P d → Q d) → mf ds Q
theorem lc_ev {i : Nat} {mt : XB} {me : X1} {env : PEnv} (t : D → Bool) (e : D → D) : ∀ (ds acc : List D) (Q : List D → Prop), acc.length + ds.length ≤ sizeLine → (∀ d ∈ ds, ∀ Q, Q (t d) → mt (env.set i (some d)) Q) → (∀ d ∈ ds, t d = true → ∀ Q : D → Prop, Q (e d) → me (env.set i (some d)) Q) →
    Q (acc ++ (ds.filter t).map e) → lcLoop (bName i) mt me env ds acc Q
  | [], acc, Q, _, _, _, q => by simpa [lcLoop] using q
  | d :: ds, acc, Q, hl, ht, he, q => by
    simp at hl
    refine ht d List.mem_cons_self _ ?_
    cases h : t d with
    | true =>
      rw [if_pos rfl]
      refine he d List.mem_cons_self h _ ⟨by omega, lc_ev t e ds _ Q (by simp; omega) (fun x hx => ht x (List.mem_cons_of_mem _ hx)) (fun x hx => he x (List.mem_cons_of_mem _ hx)) ?_⟩
      rw [List.filter_cons_of_pos h, List.map_cons] at q
      simpa using q
    | false =>
      rw [if_neg Bool.false_ne_true]
      refine lc_ev t e ds _ Q (by omega) (fun x hx => ht x (List.mem_cons_of_mem _ hx)) (fun x hx => he x (List.mem_cons_of_mem _ hx)) ?_
      rwa [List.filter_cons_of_neg (by rw [h]; decide)] at q
theorem lc_map {i : Nat} {me : X1} {env : PEnv} (e : D → D) (ds : List D) (Q : List D → Prop) (hl : ds.length ≤ sizeLine) (he : ∀ d ∈ ds, ∀ Q : D → Prop, Q (e d) → me (env.set i (some d)) Q) (q : Q (ds.map e)) : lcLoop (bName i) bYes me env ds [] Q :=
  lc_ev (fun _ => true) e ds [] Q (by simpa using hl) (fun _ _ _ q => q) (fun d hd _ => he d hd) (by rw [List.filter_eq_self.mpr fun _ _ => rfl]; simpa using q)
theorem lc_F {i : Nat} {mt : XB} {me : X1} {env : PEnv} (e : D → D) : ∀ (ds acc : List D) (Q : List D → Prop), acc.length + ds.length ≤ sizeLine → (∀ d ∈ ds, ∀ Q : Bool → Prop, (∀ k, Q k) → mt (env.set i (some d)) Q) → (∀ d ∈ ds, ∀ Q : D → Prop, Q (e d) → me (env.set i (some d)) Q) →
    (∀ ys : List D, ys.Sublist ds → Q (acc ++ ys.map e)) → lcLoop (bName i) mt me env ds acc Q
  | [], acc, Q, _, _, _, q => by simpa [lcLoop] using q [] (List.Sublist.refl _)
  | d :: ds, acc, Q, hl, ht, he, q => by
    simp at hl
    refine ht d List.mem_cons_self _ fun k => ?_
    cases k with
    | true =>
      rw [if_pos rfl]
      refine he d List.mem_cons_self _ ⟨by omega, lc_F e ds _ Q (by simp; omega) (fun x hx => ht x (List.mem_cons_of_mem _ hx)) (fun x hx => he x (List.mem_cons_of_mem _ hx)) fun ys s => ?_⟩
      have := q (d :: ys) (s.cons_cons d)
      simpa using this
    | false =>
      rw [if_neg Bool.false_ne_true]
      exact lc_F e ds _ Q (by omega) (fun x hx => ht x (List.mem_cons_of_mem _ hx)) (fun x hx => he x (List.mem_cons_of_mem _ hx)) fun ys s => q ys (s.cons d)
theorem loop_ev {b : XG} {body : XS} {E : PEnds} (W : List D → PEnv → Prop) (hb : ∀ d ds env, W (d :: ds) env → b d env fun env1 => body { nx := W ds, rt := E.rt, bk := E.nx, ct := W ds } env1) (hm : ∀ d env Q Q', (∀ e, Q e → Q' e) → b d env Q → b d env Q') (hs : ∀ {E E' env}, PLe E E' → body E env → body E' env) :
    ∀ (ds : List D) (env : PEnv), W ds env → (∀ env, W [] env → E.nx env) → sLoop b body ds E env
  | [], env, w, q => q env w
  | d :: ds, env, w, q => hm _ _ _ _ (fun env1 h => hs (E := { nx := W ds, rt := E.rt, bk := E.nx, ct := W ds }) ⟨fun e we => loop_ev W hb hm hs ds e we q, fun _ z => z, fun _ z => z, fun e we => loop_ev W hb hm hs ds e we q⟩ h) (hb d ds env w)
section
variable {Q : D → Prop} {i n : Int} {ns ms : List Int}
theorem is_below_ev (h0 : 0 ≤ i) (h1 : i < n) : FEv m_is_below [.int i, .int n] (.bl true) := fun Q q => by
  have e0 : decide (0 ≤ i) = true := decide_eq_true h0
  show (if decide (0 ≤ i) = true then Q (.bl (decide (i < n))) else _)
  rw [if_pos e0, decide_eq_true h1]
  exact q
def lotOk (n : Int) : List Int → Prop
  | [] => True
  | [x] => 0 ≤ x ∧ x < n
  | x :: y :: r => 0 ≤ x ∧ x < n ∧ x < y ∧ lotOk n (y :: r)
theorem lotOk_all : ∀ {l : List Int}, lotOk n l → ∀ x ∈ l, 0 ≤ x ∧ x < n
  | [], _, x, h => nomatch h
  | [y], h, x, hx => by rw [List.mem_singleton.mp hx]; exact h
  | y :: z :: r, h, x, hx => by
    rcases List.mem_cons.mp hx with e | hx
    · rw [e]; exact ⟨h.1, h.2.1⟩
    · exact lotOk_all h.2.2.2 x hx
end
end Pu
set_option Elab.async false
set_option linter.all false
set_option maxRecDepth 100000
namespace Pu
open PySem PySem.Spec PyProof.Rows L2
section
variable {Q : D → Prop} {i n : Int} {ns ms r : List Int} {ws : List (List Int)}
def rD (r : List Int) : D := .tup (dInts r)
def wD (ws : List (List Int)) : D := .tup (rowsD ws)
def oD (n : Int) (ws : List (List Int)) : D := .fz 3 [("desks", .int n), ("works", wD ws)]
theorem dInts_len : (dInts r).length = r.length := by simp [dInts]
theorem rowsD_len : (rowsD ws).length = ws.length := by simp [rowsD]
theorem mem_dInts {d : D} (h : d ∈ dInts r) : ∃ x, x ∈ r ∧ d = .int x := by
  obtain ⟨x, hx, e⟩ := List.mem_map.mp h
  exact ⟨x, hx, e.symm⟩
theorem all_bls {ds : List D} {f : D → D} (h : ∀ d ∈ ds, f d = .bl true) (q : Q (.bl true)) : oAny true (.lst (ds.map f)) Q := by
  refine ⟨List.replicate ds.length true, ?_, ?_⟩
  · rw [List.map_replicate]
    exact List.eq_replicate_iff.mpr ⟨by simp, fun b hb => by obtain ⟨d, hd, e⟩ := List.mem_map.mp hb; rw [← e]; exact h d hd⟩
  · rw [if_pos rfl]
    rw [show (List.replicate ds.length true).all id = true by rw [List.all_eq_true]; intro x hx; exact (List.mem_replicate.mp hx).2]
    exact q
theorem are_works_ev (hl : r.length ≤ sizeLine) (h : ∀ x ∈ r, 0 ≤ x ∧ x < (ws.length : Int)) : FEv m_are_works [oD n ws, rD r] (.bl true) := fun Q q => by
  refine ⟨rfl, .inl ?_⟩
  refine lc_map (fun _ => .bl true) _ _ (by rw [dInts_len]; exact hl) (fun d hd Q q => ?_) (all_bls (fun _ _ => rfl) q)
  obtain ⟨x, hx, e⟩ := mem_dInts hd
  subst e
  have h2 := h x hx
  exact is_below_ev h2.1 (by rw [rowsD_len]; exact h2.2) Q q
theorem check_row_ev (hl : r.length ≤ sizeLine) (h : ∀ x ∈ r, 0 ≤ x ∧ x < (ws.length : Int)) : FEv m_check_row [oD n ws, rD r] .non := fun Q q => are_works_ev hl h _ q
theorem pairs_lt : ∀ l : List Int, lotOk n l → ∀ d ∈ zpD (dInts l) (dInts (l.drop 1)), ∃ x y : Int, d = .tup [.int x, .int y] ∧ x < y
  | [], _, d, hd => by cases hd
  | [x], _, d, hd => by cases hd
  | x :: y :: l, h, d, hd => by
    rcases List.mem_cons.mp hd with e | hd
    · exact ⟨x, y, e, h.2.2.1⟩
    · exact pairs_lt (y :: l) h.2.2.2 d hd
theorem lc_mapB {b : XG} {me : X1} {env : PEnv} (e : D → D) : ∀ (ds acc : List D) (Q : List D → Prop), acc.length + ds.length ≤ sizeLine → (∀ d ∈ ds, ∀ R : D → Prop, R (e d) → b d env fun env1 => me env1 R) → Q (acc ++ ds.map e) → lcLoop b bYes me env ds acc Q
  | [], acc, Q, _, _, q => by simpa [lcLoop] using q
  | d :: ds, acc, Q, hl, he, q => by
    simp at hl
    refine he d List.mem_cons_self (fun y => acc.length < sizeLine ∧ lcLoop b bYes me env ds (acc ++ [y]) Q) ⟨by omega, lc_mapB e ds _ Q (by simp; omega) (fun x hx => he x (List.mem_cons_of_mem _ hx)) (by simpa using q)⟩
theorem immL_dInts : ∀ r : List Int, immL (dInts r) = true
  | [] => rfl
  | x :: r => immL_dInts r
theorem cut_drop {ds : List D} {k : Nat} : cutD ds (some (k : Int)) none = ds.drop k := by
  unfold cutD
  rw [HT.sIx_nat, HT.sIx_none]
  by_cases h : k ≤ ds.length
  · rw [Nat.min_eq_left h, List.take_of_length_le (by simp)]
  · rw [Nat.min_eq_right (by omega), List.drop_length, List.drop_eq_nil_of_le (by omega), List.take_nil]
theorem cut_take {ds : List D} {k : Nat} : cutD ds none (some (k : Int)) = ds.take k := by
  unfold cutD
  rw [HT.sIx_nat, HT.sIx_none, List.drop_zero, Nat.sub_zero]
  by_cases h : k ≤ ds.length
  · rw [Nat.min_eq_left h]
  · rw [Nat.min_eq_right (by omega), List.take_length, List.take_of_length_le (by omega)]
theorem dInts_drop (k : Nat) : (dInts r).drop k = dInts (r.drop k) := by simp [dInts, List.map_drop]
theorem dInts_take (k : Nat) : (dInts r).take k = dInts (r.take k) := by simp [dInts, List.map_take]
theorem is_lot_ev {l : List Int} (hl : l.length ≤ 100) (h : lotOk n l) : FEv m_is_lot [rD l, .int n] (.bl true) := fun Q q => by
  have h100 : 100 ≤ sizeLine := by decide
  refine lc_map (fun _ => .bl true) _ _ (by rw [dInts_len]; omega) (fun d hd Q q => ?_) (all_bls (fun _ _ => rfl) ?_)
  · obtain ⟨x, hx, e⟩ := mem_dInts hd
    subst e
    have h2 := lotOk_all h x hx
    exact is_below_ev h2.1 h2.2 Q q
  · refine ⟨immL_dInts l, ?_⟩
    dsimp only [xNil]
    rw [show cutD (dInts l) (some 1) none = (dInts l).drop 1 from cut_drop (k := 1), dInts_drop]
    refine lc_mapB (fun _ => .bl true) _ [] _ (by rw [zpD_len, dInts_len]; simp; omega) (fun d hd R hR => ?_) (by rw [List.nil_append]; exact all_bls (fun _ _ => rfl) q)
    obtain ⟨x, y, e, hxy⟩ := pairs_lt l h d hd
    subst e
    have e1 : decide (x < y) = true := decide_eq_true hxy
    refine ⟨rfl, ?_⟩
    show R (.bl (decide (x < y)))
    rw [e1]; exact hR
def rangeI (n : Int) : List Int := (List.range n.toNat).map fun k => Int.ofNat k
def WsOk (n : Int) (ws : List (List Int)) : Prop := 1 ≤ n ∧ n ≤ 6 ∧ 1 ≤ ws.length ∧ ws.length ≤ 10 ∧ ∀ l ∈ ws, lotOk n l ∧ l ≠ [] ∧ l.length ≤ 6
theorem mem_rowsD {d : D} (h : d ∈ rowsD ws) : ∃ l, l ∈ ws ∧ d = rD l := by
  obtain ⟨x, hx, e⟩ := List.mem_map.mp h
  exact ⟨x, hx, e.symm⟩
theorem are_office_works_ev (h : WsOk n ws) : FEv m_are_office_works [.int n, wD ws] (.bl true) := fun Q q => by
  obtain ⟨h1, h2, h3, h4, h5⟩ := h
  have h100 : 100 ≤ sizeLine := by decide
  refine .inl ?_
  have e1 : decide ((1 : Int) ≤ ((rowsD ws).length : Nat)) = true := decide_eq_true (by rw [rowsD_len]; omega)
  have e2 : decide ((((rowsD ws).length : Nat) : Int) ≤ 10) = true := decide_eq_true (by rw [rowsD_len]; omega)
  show (if decide ((1 : Int) ≤ ((rowsD ws).length : Nat)) = true then _ else _)
  rw [if_pos e1]
  show (if (!decide ((((rowsD ws).length : Nat) : Int) ≤ 10)) = true then _ else _)
  rw [e2, if_neg (by decide)]
  refine lc_map (fun _ => .bl true) _ _ (by rw [rowsD_len]; omega) (fun d hd Q q => ?_) (all_bls (fun _ _ => rfl) q)
  obtain ⟨l, hm, e⟩ := mem_rowsD hd
  subst e
  obtain ⟨g1, g2, g3⟩ := h5 l hm
  refine is_lot_ev (by omega) g1 _ ?_
  show (if true = true then _ else _)
  rw [if_pos rfl]
  refine .inl ?_
  have e3 : decide ((0 : Int) < ((dInts l).length : Nat)) = true := decide_eq_true (by
    rw [dInts_len]
    have := List.length_pos_iff.mpr g2
    omega)
  show Q (.bl (decide ((0 : Int) < ((dInts l).length : Nat))))
  rw [e3]; exact q
theorem imm_wD : ∀ ws : List (List Int), immL (rowsD ws) = true
  | [] => rfl
  | l :: ws => by
    show (D.imm (.tup (dInts l)) && immL (rowsD ws)) = true
    rw [imm_wD ws, show D.imm (.tup (dInts l)) = true from immL_dInts l]
    rfl
theorem made_ev (h : WsOk n ws) : FEv m__law_made [.tup [.int n, wD ws]] (oD n ws) := fun Q q => by
  obtain ⟨h1, h2, h3, h4, h5⟩ := id h
  refine ⟨rfl, imm_wD ws, rfl, ?_⟩
  have e1 : decide ((1 : Int) ≤ n) = true := decide_eq_true h1
  have e2 : decide (n ≤ 6) = true := decide_eq_true h2
  show (if decide ((1 : Int) ≤ n) = true then _ else _)
  rw [if_pos e1]
  show (if (!decide (n ≤ 6)) = true then _ else _)
  rw [e2, if_neg (by decide)]
  refine are_office_works_ev h _ ?_
  refine ⟨rfl, rfl, by simp, by decide, imm_wD ws, rfl, by simp [putFD], (show Fz ["desks"] = false by decide), ?_⟩
  refine ⟨rfl, by simp [putFD]; split <;> simp, ?_⟩
  show Q (mkO 3 [("desks", .int n), ("works", wD ws)])
  rw [show mkO 3 [("desks", .int n), ("works", wD ws)] = oD n ws from if_pos (show Fz ["desks", "works"] = true by decide)]
  exact q
def logF (ws : List (List Int)) (r : List Int) (d : Int) : List Int := r.filter fun x => (ws.getD x.toNat []).contains d
theorem atD_some {xs : List D} {x : Int} {d : D} (h0 : 0 ≤ x) (h : xs[x.toNat]? = some d) (q : Q d) : atD xs x Q := by
  have hl := (List.getElem?_eq_some_iff.mp h).1
  unfold atD atI ixN
  rw [if_pos h0, if_pos (by omega)]
  show (match xs[x.toNat]? with | some x => Q x | none => False)
  rw [h]
  exact q
theorem rows_at {x : Int} (h0 : 0 ≤ x) (h1 : x < (ws.length : Int)) : (rowsD ws)[x.toNat]? = some (rD (ws.getD x.toNat [])) := by
  have hj : x.toNat < ws.length := by omega
  unfold rowsD
  rw [List.getElem?_map, List.getElem?_eq_getElem hj, List.getD_eq_getElem?_getD, List.getElem?_eq_getElem hj]
  rfl
theorem eqb_int {a b : Int} : D.eqb (.int a) (.int b) = decide (a = b) := by
  show PyData.eqv (.int a) (.int b) = _
  simp [PyData.eqv]
  by_cases h : a = b <;> simp [h]
theorem any_ints (l : List Int) (b : Int) : ((dInts l).any fun z => D.eqb z (.int b)) = l.contains b := by
  induction l with
  | nil => rfl
  | cons x l ih =>
    show (D.eqb (.int x) (.int b) || (dInts l).any fun z => D.eqb z (.int b)) = _
    rw [ih, eqb_int, List.contains_cons]
    congr 1
    rw [Bool.eq_iff_iff, decide_eq_true_iff, beq_iff_eq]
    exact eq_comm
theorem flat_ints : ∀ l : List Int, (dInts l).all D.flat = true
  | [] => rfl
  | x :: l => flat_ints l
theorem in_ints {b : Int} {l : List Int} (q : Q (.bl (l.contains b))) : oIn false (.int b) (rD l) Q := by
  refine ⟨rfl, flat_ints l, ?_⟩
  rw [any_ints, Bool.false_xor]
  exact q
theorem immL_rows : ∀ ws : List (List Int), immL (rowsD ws) = true := imm_wD
theorem eqv_ints : ∀ a b : List Int, PyData.eqvAll (pyL (dInts a)) (pyL (dInts b)) = decide (a = b)
  | [], [] => rfl
  | [], _ :: _ => rfl
  | _ :: _, [] => rfl
  | x :: a, y :: b => by
    show (PyData.eqv (.int x) (.int y) && PyData.eqvAll (pyL (dInts a)) (pyL (dInts b))) = _
    rw [eqv_ints a b, show PyData.eqv (.int x) (.int y) = decide (x = y) from eqb_int, Bool.eq_iff_iff]
    simp
theorem eqv_rows : ∀ a b : List (List Int), PyData.eqvAll (pyL (rowsD a)) (pyL (rowsD b)) = decide (a = b)
  | [], [] => rfl
  | [], _ :: _ => rfl
  | _ :: _, [] => rfl
  | x :: a, y :: b => by
    show (PyData.eqv (.tuple (pyL (dInts x))) (.tuple (pyL (dInts y))) && PyData.eqvAll (pyL (rowsD a)) (pyL (rowsD b))) = _
    rw [eqv_rows a b, show PyData.eqv (.tuple (pyL (dInts x))) (.tuple (pyL (dInts y))) = decide (x = y) from eqv_ints x y, Bool.eq_iff_iff]
    simp
theorem lay_ints : ∀ a : List Int, PyData.canLayAll0 (pyL (dInts a)) = true
  | [] => rfl
  | x :: a => by
    show (true && PyData.canLayAll0 (pyL (dInts a))) = true
    rw [lay_ints a] <;> rfl
theorem lay_rows : ∀ a : List (List Int), PyData.canLayAll0 (pyL (rowsD a)) = true
  | [] => rfl
  | x :: a => by
    show (PyData.canLayAll0 (pyL (dInts x)) && PyData.canLayAll0 (pyL (rowsD a))) = true
    rw [lay_ints x, lay_rows a] <;> rfl
theorem dep_ints : ∀ a : List Int, PyData.depthAll (pyL (dInts a)) = 0
  | [] => rfl
  | x :: a => by
    show max 0 (PyData.depthAll (pyL (dInts a))) = 0
    rw [dep_ints a] <;> rfl
theorem dep_rows : ∀ a : List (List Int), PyData.depthAll (pyL (rowsD a)) ≤ 1
  | [] => by decide
  | x :: a => by
    show max (PyData.depthAll (pyL (dInts x)) + 1) (PyData.depthAll (pyL (rowsD a))) ≤ 1
    rw [dep_ints x]
    exact Nat.max_le.mpr ⟨Nat.le_refl _, dep_rows a⟩
theorem sh_rows (a : List (List Int)) : Sh (.tup (rowsD a)) := by
  show (PyData.canLayAll0 (pyL (rowsD a)) && decide (PyData.depthAll (pyL (rowsD a)) + 1 ≤ 64)) = true
  rw [lay_rows a, decide_eq_true (by have := dep_rows a; omega)]
  rfl
theorem sh_ints (a : List Int) : Sh (rD a) := by
  show (PyData.canLayAll0 (pyL (dInts a)) && decide (PyData.depthAll (pyL (dInts a)) + 1 ≤ 64)) = true
  rw [lay_ints a, dep_ints a] <;> rfl
def logsF (n : Int) (ws : List (List Int)) (r : List Int) : List (List Int) := (rangeI n).map (logF ws r)
def RowOk (ws : List (List Int)) (r : List Int) : Prop := r.length ≤ 100 ∧ ∀ x ∈ r, 0 ≤ x ∧ x < (ws.length : Int)
section
end
end
end Pu
set_option Elab.async false
set_option linter.all false
set_option maxRecDepth 100000
namespace Pu
open PySem PySem.Spec PyProof.Rows L2
section
variable {Q : D → Prop} {i n : Int} {ns ms r : List Int} {ws : List (List Int)}
def pD (n : Int) (ws : List (List Int)) : D := .tup [.int n, wD ws]
def W (ws : List (List Int)) (x : Int) : List Int := ws.getD x.toNat []
def meetsF (ws : List (List Int)) (x y : Int) : Bool := (W ws x).any fun d => (W ws y).contains d
def WsLen (ws : List (List Int)) : Prop := ∀ l ∈ ws, l.length ≤ 6
def nearF (ws : List (List Int)) : List (List Bool) := (rangeI ws.length).map fun x => (rangeI ws.length).map fun y => meetsF ws x y
def blD (l : List Bool) : D := .lst (l.map .bl)
def nD (near : List (List Bool)) : D := .lst (near.map blD)
section
end
end
end Pu
set_option Elab.async false
set_option linter.all false
set_option maxRecDepth 100000
set_option synthInstance.maxHeartbeats 0
set_option synthInstance.maxSize 100000
namespace Pu
open PySem PySem.Spec PyProof.Rows L2
section
variable {Q : D → Prop} {i n : Int} {ns ms r : List Int} {ws : List (List Int)} {dd : D} {e5 e6 e7 : Option D}
theorem mem_rg {lo : Int} {k : Nat} {d : D} (h : d ∈ rgD lo k) : ∃ j : Nat, j < k ∧ d = .int (lo + (j : Int)) := by
  obtain ⟨j, hj, e⟩ := List.mem_map.mp h
  exact ⟨j, List.mem_range.mp hj, e.symm⟩
theorem lot_of : ∀ {l : List Int}, l.Pairwise (· < ·) → (∀ x ∈ l, 0 ≤ x ∧ x < n) → lotOk n l
  | [], _, _ => trivial
  | [x], _, h => h x List.mem_cons_self
  | x :: y :: r, p, h => ⟨(h x List.mem_cons_self).1, (h x List.mem_cons_self).2, (List.pairwise_cons.mp p).1 y List.mem_cons_self, lot_of (List.pairwise_cons.mp p).2 fun z hz => h z (List.mem_cons_of_mem _ hz)⟩
theorem rangeI_pw (n : Int) : (rangeI n).Pairwise (· < ·) := by
  unfold rangeI
  rw [List.pairwise_map]
  exact List.pairwise_lt_range.imp fun h => Int.ofNat_lt.mpr h
theorem rangeI_mem {x : Int} (h : x ∈ rangeI n) : 0 ≤ x ∧ x < n := by
  obtain ⟨k, hk, e⟩ := List.mem_map.mp h
  have := List.mem_range.mp hk
  have e : x = (k : Int) := e.symm
  omega
theorem sub_range {ys : List D} (s : ys.Sublist (rgD 0 n.toNat)) : ∃ l : List Int, ys = dInts l ∧ lotOk n l ∧ l.length ≤ n.toNat := by
  have e : rgD 0 n.toNat = (rangeI n).map D.int := by
    unfold rgD rangeI
    rw [List.map_map]
    refine List.map_congr_left fun k _ => ?_
    show D.int (0 + (k : Int)) = D.int (Int.ofNat k)
    rw [Int.zero_add]
    rfl
  have hl := s.length_le
  rw [rgD_len] at hl
  rw [e] at s
  obtain ⟨l, hs, e2⟩ := List.sublist_map_iff.mp s
  refine ⟨l, e2, lot_of ((rangeI_pw n).sublist hs) fun x hx => rangeI_mem (hs.mem hx), ?_⟩
  rw [e2, List.length_map] at hl
  exact hl
end
end Pu
set_option Elab.async false
set_option linter.all false
set_option maxRecDepth 100000
set_option synthInstance.maxHeartbeats 0
set_option synthInstance.maxSize 100000
namespace Pu
open PySem PySem.Spec PyProof.Rows L2
section
variable {Q : D → Prop} {i n : Int} {ns ms r : List Int} {ws : List (List Int)} {dd : D} {e5 e6 e7 : Option D}
section
end
def InW (ws : List (List Int)) (r : List Int) : Prop := ∀ x ∈ r, 0 ≤ x ∧ x < (ws.length : Int)
theorem atD_int {l : List Int} {x : Int} (h0 : 0 ≤ x) (h1 : x < (l.length : Int)) (q : Q (.int (l.getD x.toNat 0))) : atD (dInts l) x Q := by
  have hj : x.toNat < l.length := by omega
  refine atD_some h0 ?_ q
  unfold dInts
  rw [List.getElem?_map, List.getElem?_eq_getElem hj, List.getD_eq_getElem?_getD, List.getElem?_eq_getElem hj]
  rfl
end
end Pu
set_option Elab.async false
set_option linter.all false
set_option maxRecDepth 100000
set_option synthInstance.maxHeartbeats 0
set_option synthInstance.maxSize 100000
namespace Pu
open PySem PySem.Spec PyProof.Rows L2
section
variable {Q : D → Prop} {i n : Int} {ns ms r s : List Int} {ws : List (List Int)} {dd : D} {e5 e6 e7 : Option D}
section
end
end
end Pu
set_option Elab.async false
set_option linter.all false
set_option maxRecDepth 100000
namespace Pu
section
variable {ap : Int → Int → Prop}
inductive Rch (ap : Int → Int → Prop) : List Int → List Int → Prop
  | refl (r : List Int) : Rch ap r r
  | step {r A B : List Int} {x y : Int} : Rch ap r (A ++ x :: y :: B) → ap x y → Rch ap r (A ++ y :: x :: B)
theorem Rch.trans {r s t : List Int} (a : Rch ap r s) (b : Rch ap s t) : Rch ap r t := by
  induction b with
  | refl => exact a
  | step h e ih => exact .step ih e
theorem Rch.cons {r s : List Int} (z : Int) (a : Rch ap r s) : Rch ap (z :: r) (z :: s) := by
  induction a with
  | refl => exact .refl _
  | @step A B x y h e ih => exact .step (A := z :: A) ih e
theorem Rch.len {r s : List Int} (a : Rch ap r s) : s.length = r.length := by
  induction a with
  | refl => rfl
  | step h e ih => rw [← ih]; simp
theorem Rch.mem {r s : List Int} (a : Rch ap r s) : ∀ x, x ∈ s ↔ x ∈ r := by
  induction a with
  | refl => exact fun x => Iff.rfl
  | step h e ih =>
    intro x
    rw [← ih x]
    simp only [List.mem_append, List.mem_cons]
    constructor
    · rintro (h | h | h | h)
      · exact .inl h
      · exact .inr (.inr (.inl h))
      · exact .inr (.inl h)
      · exact .inr (.inr (.inr h))
    · rintro (h | h | h | h)
      · exact .inl h
      · exact .inr (.inr (.inl h))
      · exact .inr (.inl h)
      · exact .inr (.inr (.inr h))
end
section
variable {ws : List (List Int)} {n : Int}
def apF (ws : List (List Int)) (x y : Int) : Prop := meetsF ws x y = false
theorem apF_no {x y d : Int} (h : apF ws x y) (hx : (W ws x).contains d = true) (hy : (W ws y).contains d = true) : False := by
  have : meetsF ws x y = true := List.any_eq_true.mpr ⟨d, by simpa using hx, hy⟩
  rw [show meetsF ws x y = false from h] at this
  cases this
theorem logF_cons {x d : Int} {r : List Int} : logF ws (x :: r) d = if (W ws x).contains d = true then x :: logF ws r d else logF ws r d := by
  unfold logF
  rw [List.filter_cons]
  rfl
theorem logF_app {d : Int} {r s : List Int} : logF ws (r ++ s) d = logF ws r d ++ logF ws s d := by
  unfold logF
  rw [List.filter_append]
theorem Rch.logs {r s : List Int} (a : Rch (apF ws) r s) (d : Int) : logF ws s d = logF ws r d := by
  induction a with
  | refl => rfl
  | @step A B x y h e ih =>
    rw [← ih, logF_app, logF_app, logF_cons, logF_cons, logF_cons, logF_cons]
    by_cases hx : (W ws x).contains d = true
    · by_cases hy : (W ws y).contains d = true
      · exact (apF_no e hx hy).elim
      · rw [if_pos hx, if_neg hy, if_pos hx, if_neg hy]
    · by_cases hy : (W ws y).contains d = true
      · rw [if_neg hx, if_pos hy, if_neg hx]
      · rw [if_neg hx, if_neg hy, if_neg hx]
end
end Pu
set_option Elab.async false
set_option linter.all false
set_option maxRecDepth 100000
set_option synthInstance.maxHeartbeats 0
set_option synthInstance.maxSize 100000
namespace Pu
open PySem PySem.Spec PyProof.Rows L2
section
variable {Q : D → Prop} {n : Int} {r s : List Int} {ws : List (List Int)} {e4 e5 e6 e7 : Option D} {K T : List (List Int)} {kvs : List (List Key × D)}
def kk (s : List Int) : List Key := s.map Sum.inl
def Fd (K : List (List Int)) (kvs : List (List Key × D)) : Prop := kvs.map (·.1) = K.map kk ∧ ∀ kv ∈ kvs, ∃ z, kv.2 = .int z
end
end Pu
set_option Elab.async false
set_option linter.all false
set_option maxRecDepth 100000
set_option synthInstance.maxHeartbeats 0
set_option synthInstance.maxSize 100000
namespace Pu
open PySem PySem.Spec PyProof.Rows L2
section
variable {Q : D → Prop} {n : Int} {r s here row : List Int} {ws : List (List Int)} {e3 e4 e5 e6 e7 : Option D} {K T : List (List Int)} {kvs : List (List Key × D)}
def swapL (s : List Int) (k : Nat) : List Int := s.take k ++ [s.getD (k + 1) 0, s.getD k 0] ++ s.drop (k + 2)
theorem dInts_app (a b : List Int) : dInts a ++ dInts b = dInts (a ++ b) := by unfold dInts; rw [List.map_append]
end
end Pu
set_option Elab.async false
set_option linter.all false
set_option maxRecDepth 100000
set_option synthInstance.maxHeartbeats 0
set_option synthInstance.maxSize 100000
namespace Pu
open PySem PySem.Spec PyProof.Rows L2
section
variable {Q : D → Prop} {n : Int} {r s here row : List Int} {ws : List (List Int)} {e3 e4 e5 e6 e7 : Option D} {K T K' T' L : List (List Int)} {kvs kvs' : List (List Key × D)}
structure IV (ws : List (List Int)) (row : List Int) (K T : List (List Int)) : Prop where
  nd : K.Nodup
  row_in : row ∈ K
  rch : ∀ s ∈ K, Rch (apF ws) row s
  sub : ∀ s ∈ T, s ∈ K
  tl : T.length ≤ K.length
def Dn (ws : List (List Int)) (K : List (List Int)) (s : List Int) : Prop := ∀ j, j + 1 < s.length → apF ws (s.getD j 0) (s.getD (j + 1) 0) → swapL s j ∈ K
theorem Dn.mono (h : Dn ws K s) (k : ∀ s ∈ K, s ∈ K') : Dn ws K' s := fun j hj a => k _ (h j hj a)
structure Mo2 (K T K' T' : List (List Int)) : Prop where
  k : ∀ s ∈ K, s ∈ K'
  n : ∀ s ∈ K', s ∈ K ∨ s ∈ T'
  t : ∀ s ∈ T, s ∈ T'
  c : K'.length + T.length = K.length + T'.length
theorem Mo2.refl : Mo2 K T K T := ⟨fun _ h => h, fun _ h => .inl h, fun _ h => h, rfl⟩
theorem Mo2.trans {K2 T2 : List (List Int)} (a : Mo2 K T K' T') (b : Mo2 K' T' K2 T2) : Mo2 K T K2 T2 := ⟨fun s h => b.k s (a.k s h), fun s h => (b.n s h).elim (fun h => (a.n s h).imp id (b.t s)) .inr, fun s h => b.t s (a.t s h), by have := a.c; have := b.c; omega⟩
end
end Pu
set_option Elab.async false
set_option linter.all false
set_option maxRecDepth 100000
set_option synthInstance.maxHeartbeats 0
set_option synthInstance.maxSize 100000
namespace Pu
open PySem PySem.Spec PyProof.Rows L2
section
variable {Q : D → Prop} {n : Int} {r s here row : List Int} {ws : List (List Int)} {e2 e3 e4 e5 e6 e7 : Option D} {K T K' T' L : List (List Int)} {kvs kvs' : List (List Key × D)}
def lay (L : List (List Int)) : Nat := if L = [] then 0 else 1
end
end Pu
set_option Elab.async false
set_option linter.all false
set_option maxRecDepth 100000
set_option synthInstance.maxHeartbeats 0
set_option synthInstance.maxSize 100000
namespace Pu
open PySem PySem.Spec PyProof.Rows L2
def bM_0 : XS := sSet 9 (xIf (bTest (x2 (oI fun i j => .bl (decide (j < i))) (xCall m__law_draw (xDice (xCons (xC (.int 4)) xNil))) (xC (.int 0)))) (xCall m__law_changed (xDice (xCons (xVar 5) (xCons (xVar 6) xNil)))) (xCall m__law_row (xDice (xCons (xVar 3) (xCons (xC (.int 5)) xNil)))))
def bM_1 : XS := sSet 10 (x2 (oIn false) (xVar 9) (xVar 7))
def bM_2 : XS := sIf (bOr (bNot (bTest (xCall m__law_flag (xCons (xCall m_alike (xCons (xVar 4) (xCons (xVar 6) (xCons (xVar 9) xNil)))) (xCons (xVar 10) xNil))))) (bNot (bTest (xCall m__law_flag (xCons (xCall m_alike (xCons (xVar 4) (xCons (xVar 9) (xCons (xVar 6) xNil)))) (xCons (xVar 10) xNil)))))) (sRet (xC (.bl false))) sNext
def bM_3 : XS := sSet 11 (xCall m__law_changed (xDice (xCons (xVar 5) (xCons (xVar 9) xNil))))
def bM_4 : XS := sIf (bAnd (bTest (xVar 10)) (bTest (x2 (oIsB false) (xCall m__law_flag (xCons (xCall m_alike (xCons (xVar 4) (xCons (xVar 9) (xCons (xVar 11) xNil)))) (xCons (x2 (oIn false) (xVar 11) (xVar 7)) xNil))) (xC (.bl false))))) (sRet (xC (.bl false))) sNext
def bM_5 : XS := sSet 12 (xCall m__law_row (xDice (xCons (xVar 3) (xCons (xC (.int 3)) xNil))))
def bM_6 : XS := sIf (bOr (bTest (x2 oNe (xCall m_alike (xCons (xVar 4) (xCons (x2 oAdd (xVar 6) (xVar 12)) (xCons (x2 oAdd (xVar 9) (xVar 12)) xNil)))) (xVar 10))) (bTest (x2 oNe (xCall m_alike (xCons (xVar 4) (xCons (x2 oAdd (xVar 12) (xVar 6)) (xCons (x2 oAdd (xVar 12) (xVar 9)) xNil)))) (xVar 10)))) (sRet (xC (.bl false))) sNext
def bM : XS := sSeq bM_0 (sSeq bM_1 (sSeq bM_2 (sSeq bM_3 (sSeq bM_4 (sSeq bM_5 (bM_6))))))
section
variable {Q : D → Prop} {n : Int} {r s o m row : List Int} {ws : List (List Int)} {e2 e3 e4 e5 e6 e7 e8 e9 e10 e11 e12 e13 e14 : Option D} {K T : List (List Int)} {kvs : List (List Key × D)}
structure Tn (n : Int) (ws : List (List Int)) (row : List Int) (K : List (List Int)) (kvs : List (List Key × D)) : Prop where
  w : WsOk n ws
  r : InW ws row
  l : row.length ≤ 7
  f : Fd K kvs
  i : IV ws row K []
  d : ∀ s ∈ K, Dn ws K s
end
end Pu
set_option Elab.async false
set_option linter.all false
namespace Pu
open PySem PySem.Spec PyProof.Rows L2
section
variable {Q : D → Prop} {R : List D → Prop} {B : Bool → Prop} {N : PEnv → Prop} {env : PEnv} {d e : D} {o : Option D} {i : Nat} {E : PEnds} {m n : X1} {r : XL} {a b : XB} {s t : XS} {f : XF}
def boo (d : D) (B : Bool → Prop) : Prop := match d with
  | .bl b => B b
  | _ => False
theorem u_len_lst {xs : List D} : oLenA (.lst xs) Q = Q (.int (xs.length : Nat)) := by simp [oLenA, oLen, oLenT, oLenK]
theorem u_len_tup {xs : List D} : oLenA (.tup xs) Q = Q (.int (xs.length : Nat)) := by simp [oLenA, oLen, oLenT, oLenK]
theorem u_len_dT {xs : List (List Key × D)} : oLenA (.dT xs) Q = Q (.int (xs.length : Nat)) := by simp [oLenA, oLen, oLenT, oLenK]
theorem u_len_dK {xs : List (Key × D)} : oLenA (.dK xs) Q = Q (.int (xs.length : Nat)) := by simp [oLenA, oLen, oLenT, oLenK]
end
end Pu
set_option Elab.async false
set_option linter.all false
set_option maxRecDepth 100000
set_option synthInstance.maxHeartbeats 0
set_option synthInstance.maxSize 100000
namespace Pu
open PySem PySem.Spec PyProof.Rows L2
section
variable {Q : D → Prop} {n : Int} {r s o m row : List Int} {ws : List (List Int)} {e0 e1 e2 e3 e4 e5 e6 e7 e8 e9 e10 e11 e12 e13 e14 : Option D} {K T : List (List Int)} {kvs : List (List Key × D)}
structure LS (fch fdr fex ffl fma fne fro fsp fal : XF) : Prop where
  ch : ∀ {ws : List (List Int)} {r : List Int}, 1 ≤ ws.length → ws.length ≤ 10 → InW ws r → r.length ≤ 200 → FP fch [.non, nD (nearF ws), rD r] (fun d => ∃ s, d = rD s ∧ s.length ≤ r.length + 1 ∧ InW ws s)
  dr : ∀ {k : Int}, 0 < k → k < 2 ^ 30 → FP fdr [.non, .int k] (fun d => ∃ z, d = .int z ∧ 0 ≤ z ∧ z < k)
  ex : ∀ {ws : List (List Int)} {row : List Int}, InW ws row → ws.length ≤ 10 → row.length ≤ 7 → FP fex [nD (nearF ws), rD row] (fun d => ∃ K kvs, d = .dT kvs ∧ Fd K kvs ∧ IV ws row K [] ∧ ∀ s ∈ K, Dn ws K s)
  fl : ∀ x y : Bool, FEv ffl [.bl x, .bl y] (.bl (x == y))
  ma : ∀ {n : Int} {ws : List (List Int)}, WsOk n ws → FEv fma [pD n ws] (oD n ws)
  ne : ∀ {n : Int} {ws : List (List Int)}, WsLen ws → ws.length ≤ 10 → FEv fne [pD n ws] (nD (nearF ws))
  ro : ∀ {n most : Int} {ws : List (List Int)}, 0 ≤ most → most ≤ 100 → 1 ≤ ws.length → ws.length ≤ 10 → FP fro [.non, pD n ws, .int most] (fun d => ∃ r : List Int, d = rD r ∧ (r.length : Int) ≤ most ∧ InW ws r)
  sp : FP fsp [.non] (fun d => ∃ n ws, d = pD n ws ∧ WsOk n ws)
  al : ∀ {n : Int} {ws : List (List Int)} {r s : List Int}, WsOk n ws → RowOk ws r → RowOk ws s → FEv fal [oD n ws, rD r, rD s] (.bl (decide (logsF n ws r = logsF n ws s)))
section
variable {fch fdr fex ffl fma fne fro fsp fal : XF} [MF fch] [MF fdr] [MF fex] [MF ffl] [MF fma] [MF fne] [MF fro] [MF fsp] [MF fal]
end
end
end Pu
set_option Elab.async false
set_option linter.all false
set_option maxRecDepth 100000
set_option synthInstance.maxHeartbeats 0
set_option synthInstance.maxSize 100000
namespace Pu
open PySem PySem.Spec PyProof.Rows L2
section
variable {Q : D → Prop} {n : Int} {r s o m row : List Int} {ws : List (List Int)} {e0 e1 e2 e3 e4 e5 e6 e7 e8 e9 e10 e11 e12 e13 e14 : Option D} {K T : List (List Int)} {kvs : List (List Key × D)}
variable {fch fdr fex ffl fma fne fro fsp fal : XF} [MF fch] [MF fdr] [MF fex] [MF ffl] [MF fma] [MF fne] [MF fro] [MF fsp] [MF fal]
end
end Pu
set_option Elab.async false
set_option linter.all false
set_option maxRecDepth 100000
namespace Pu
open PySem PySem.Spec PyProof.Rows L2
section
variable {Q : D → Prop} {R : List D → Prop} {B : Bool → Prop} {env : PEnv} {d e x y : D} {o : Option D} {i j : Nat} {E : PEnds} {m n m1 m2 m3 : X1} {r : XL} {a b : XB} {s t : XS} {f : XF} {g : XG} {xs ds : List D} {k l : Bool} {O : O2} {P : O1}
theorem Zaa : xVar 0 (some d :: env) Q = Q d := (rfl)
theorem Zab : xVar (i + 1) (o :: env) Q = xVar i env Q := (rfl)
theorem w_c : xC d env Q = Q d := (rfl)
theorem Zac : xImm m env Q = m env fun d => d.imm = true ∧ Q d := (rfl)
theorem Zad : xNil env R = R [] := (rfl)
theorem Zae : xCons m r env R = m env fun d => r env fun ds => R (d :: ds) := (rfl)
theorem Zaf : xDice r env R = r env fun ds => R (.non :: ds) := (rfl)
theorem Zag : xCall f r env Q = r env fun ds => f ds Q := (rfl)
theorem Zah : x1 P m env Q = m env fun d => P d Q := (rfl)
theorem Zai : x2 O m n env Q = m env fun d => n env fun e => O d e Q := (rfl)
theorem Zaj : xTup r env Q = r env fun ds => ds.length ≤ sizeLine ∧ Q (.tup ds) := (rfl)
theorem Zak : xLst r env Q = r env fun ds => ds.length ≤ sizeLine ∧ Q (.lst ds) := (rfl)
theorem Zal : xIf a m n env Q = a env fun k => if k = true then m env Q else n env Q := (rfl)
theorem Zam : bAnd a b env B = a env fun c => if c = true then b env B else B false := (rfl)
theorem Zan : bOr a b env B = a env fun c => if c = true then B true else b env B := (rfl)
theorem Zao : bNot a env B = a env fun c => B (!c) := (rfl)
theorem Zap : bYes env B = B true := (rfl)
theorem Zaq : bTest m env B = m env fun d => boo d B := by unfold bTest boo; rfl
theorem Zar : boo (.bl k) B = B k := (rfl)
theorem Zas : xAnd m n env Q = m env fun d => boo d fun c => if c = true then n env Q else Q (.bl false) := by unfold xAnd boo; rfl
theorem Zat : xOr m n env Q = m env fun d => boo d fun c => if c = true then Q (.bl true) else n env Q := by unfold xOr boo; rfl
theorem Zau : xNot m env Q = m env fun d => boo d fun c => Q (.bl (!c)) := by unfold xNot boo; rfl
theorem Zav {O' : O2} : xChain O O' m1 m2 m3 env Q = m1 env fun x => m2 env fun y => O x y fun z => boo z fun k => if k = true then m3 env fun w => O' y w Q else Q (.bl false) := by unfold xChain boo; rfl
theorem Zaw : sSeq s t E env = s { nx := t E, rt := E.rt, bk := E.bk, ct := E.ct } env := (rfl)
theorem Zax : sSet i m E env = m env fun d => E.nx (env.set i (some d)) := (rfl)
theorem w_sif : sIf a s t E env = a env fun k => if k = true then s E env else t E env := (rfl)
theorem Zay : sIf a (sRet m) t E env = a env fun k => if k = true then m env E.rt else t E env := (rfl)
theorem Zaz : sIf a (sSeq s (sRet m)) t E env = a env fun k => if k = true then s { nx := sRet m E, rt := E.rt, bk := E.bk, ct := E.ct } env else t E env := (rfl)
theorem ZaA : sIf a sNever t E env = a env fun k => if k = true then False else t E env := (rfl)
theorem ZaB : sIf a sBreak t E env = a env fun k => if k = true then E.bk env else t E env := (rfl)
theorem ZaC : sIf a sCont t E env = a env fun k => if k = true then E.ct env else t E env := (rfl)
theorem ZaD : sRet m E env = m env E.rt := (rfl)
theorem ZaE : sNext E env = E.nx env := (rfl)
theorem ZaF : sBreak E env = E.bk env := (rfl)
theorem ZaG : sCont E env = E.ct env := (rfl)
theorem ZaH : sNever E env = False := (rfl)
theorem ZaI : sDrop m E env = m env fun _ => E.nx env := (rfl)
theorem ZaJ : List.set (o :: env) 0 (some d) = some d :: env := (rfl)
theorem ZaK : List.set (o :: env) (i + 1) (some d) = o :: List.set env i (some d) := (rfl)
theorem ZaL : List.set (o :: env) 0 none = none :: env := (rfl)
theorem ZaM : List.set (o :: env) (i + 1) none = o :: List.set env i none := (rfl)
theorem ZaN : bName i d env = fun Q => Q (env.set i (some d)) := (rfl)
def seqQ (d : D) (R : List D → Prop) : Prop := match d with
  | .lst ds => R ds
  | .tup ds => R ds
  | _ => False
theorem ZaO : mSeq m env R = m env fun d => seqQ d R := by unfold mSeq seqQ; rfl
theorem ZaP : seqQ (.lst ds) R = R ds := (rfl)
theorem ZaQ : seqQ (.tup ds) R = R ds := (rfl)
def rngQ (d : D) (R : List D → Prop) : Prop := match d with
  | .int j => RgOk j ∧ R (rgD 0 j.toNat)
  | _ => False
theorem ZaR : mRng1 m env R = m env fun d => rngQ d R := by unfold mRng1 rngQ; rfl
def rng2Q (d e : D) (R : List D → Prop) : Prop := match d, e with
  | .int i, .int j => RgOk i ∧ RgOk j ∧ R (rgD i (j - i).toNat)
  | _, _ => False
theorem ZaS : mRng2 m n env R = m env fun d => n env fun e => rng2Q d e R := by unfold mRng2 rng2Q; rfl
def enmQ (d : D) (R : List D → Prop) : Prop := match d with
  | .lst ds => R (enD 0 ds)
  | .tup ds => R (enD 0 ds)
  | _ => False
theorem ZaT : mEnmU m env R = m env fun d => enmQ d R := by unfold mEnmU enmQ; rfl
theorem ZaU : enmQ (.lst ds) R = R (enD 0 ds) := (rfl)
theorem ZaV : enmQ (.tup ds) R = R (enD 0 ds) := (rfl)
theorem ZaW : oGet (.lst xs) e Q = oIx (.lst xs) e Q := (rfl)
theorem ZaX {kvs : List (Key × D)} : oGet (.dK kvs) e Q = oIx (.dK kvs) e Q := (rfl)
theorem ZaY {kvs : List (List Key × D)} : oGet (.dT kvs) e Q = oIx (.dT kvs) e Q := (rfl)
theorem ZaZ {mi : XL} : sFor mi g s E env = mi env fun ds => sLoop g s ds E env := (rfl)
theorem Za0 {mi : XL} : xLc mi g a m env Q = mi env fun ds => lcLoop g a m env ds [] fun acc => Q (.lst acc) := (rfl)
theorem Za1 : sApp i m E env = xVar i env fun d => onL d fun xs => m env fun e => xs.length < sizeLine ∧ E.nx (env.set i (some (.lst (xs ++ [e])))) := (rfl)
theorem Za2 {k : List D → Prop} : onL (.lst xs) k = k xs := (rfl)
theorem Za3 : sPut i m n E env = n env fun x => xVar i env fun d => m env fun e => setD d e x fun d' => E.nx (env.set i (some d')) := (rfl)
theorem Za4 : sAug i O m E env = xVar i env fun d => m env fun e => O d e fun x => E.nx (env.set i (some x)) := (rfl)
theorem Za5 : sAugS i m n E env = xVar i env fun d => m env fun e => oGet d e fun old => n env fun w => oAdd1 old w fun z => setD d e z fun d' => E.nx (env.set i (some d')) := (rfl)
theorem Za6 {u : UL} : sLm i u r E env = xVar i env fun d => onL d fun xs => r env fun es => u xs es fun ds => E.nx (env.set i (some (.lst ds))) := (rfl)
theorem Za7 {z : XE} : sSetE i z E env = z env fun d env' => E.nx (env'.set i (some d)) := (rfl)
theorem Za8 {z : XE} : sRetE z E env = z env fun d _ => E.rt d := (rfl)
theorem Za9 {z : XE} : sAppE' i z E env = (isL env[i]? ∧ z env fun e env' => xVar i env' fun d => onL d fun xs => xs.length < sizeLine ∧ E.nx (env'.set i (some (.lst (xs ++ [e]))))) := (rfl)
theorem Zba {z : D → PEnv → Prop} : xPop i n env z = xVar i env fun d => onL d fun xs => n env fun e => popQ xs e fun x ys => z x (env.set i (some (.lst ys))) := (rfl)
theorem Zbb : sAsgG g m E env = m env fun d => g d env E.nx := (rfl)
def slcQ (d : D) (lo hi : Option Int) (Q : D → Prop) : Prop := match d with
  | .tup xs => immL xs = true ∧ Q (.tup (cutD xs lo hi))
  | .lst xs => immL xs = true ∧ Q (.lst (cutD xs lo hi))
  | _ => False
theorem Zbc {lo hi : PEnv → (Option Int → Prop) → Prop} : xSl m lo hi env Q = m env fun d => lo env fun l => hi env fun h => slcQ d l h Q := by unfold xSl slcQ; rfl
def lrgQ (d : D) (Q : D → Prop) : Prop := match d with
  | .int j => L2.RgOk 0 j ∧ Q (.lst (rgD 0 (j - 0).toNat))
  | _ => False
theorem Zbd : xLRg1 m env Q = m env fun d => lrgQ d Q := by unfold xLRg1 lrgQ; rfl
theorem Zbe {R : Option Int → Prop} : pNo env R = R none := (rfl)
def intQ (d : D) (R : Int → Prop) : Prop := match d with
  | .int i => R i
  | _ => False
theorem Zbg {z : Int} {R : Int → Prop} : intQ (.int z) R = R z := (rfl)
theorem Zbf {R : Option Int → Prop} : pYes m env R = m env fun d => intQ d fun i => R (some i) := by unfold pYes intQ; rfl
theorem Zbh {gs : XGs} {N : PEnv → Prop} {k : Nat} : bTup k gs (.tup ds) env N = (ds.length = k ∧ gs ds env N) := (rfl)
theorem Zbi {gs : XGs} {N : PEnv → Prop} : bCons g gs (d :: ds) env N = g d env fun env1 => gs ds env1 N := (rfl)
theorem Zbj {N : PEnv → Prop} : bNil [] env N = N env := (rfl)
theorem Zbk {G : Int → Int → D} {a b : Int} : oI G (.int a) (.int b) Q = Q (G a b) := (rfl)
theorem Zbl {c : Int → Int → Prop} {G : Int → Int → D} {a b : Int} : oIc c G (.int a) (.int b) Q = (c a b ∧ Q (G a b)) := (rfl)
theorem Zbm {a b : Int} : oAdd (.int a) (.int b) Q = Q (.int (a + b)) := (rfl)
theorem Zbn {a b : Int} : oAdd1 (.int a) (.int b) Q = Q (.int (a + b)) := (rfl)
theorem Zbo {a : Int} : oInt (.int a) Q = Q (.int a) := (rfl)
theorem Zbp {k : Bool} : oInt (.bl k) Q = Q (.int (if k then 1 else 0)) := (rfl)
theorem Zbq : oLenA (.lst xs) Q = Q (.int (xs.length : Nat)) := u_len_lst
theorem Zbr : oLenA (.tup xs) Q = Q (.int (xs.length : Nat)) := u_len_tup
theorem Zbs {kvs : List (List Key × D)} : oLenA (.dT kvs) Q = Q (.int (kvs.length : Nat)) := u_len_dT
theorem Zbt {kvs : List (Key × D)} : oLenA (.dK kvs) Q = Q (.int (kvs.length : Nat)) := u_len_dK
theorem Zbu : oIsN d .non Q = Q (.bl d.isN) := by unfold oIsN; simp [D.isN]
theorem Zbv : oNotN d .non Q = Q (.bl (!d.isN)) := by unfold oNotN; simp [D.isN]
theorem Zbw {a b : Bool} {neg : Bool} : oIsB neg (.bl a) (.bl b) Q = Q (.bl (xor neg (decide (a = b)))) := by cases a <;> cases b <;> cases neg <;> rfl
theorem Zbx : oTup (.lst xs) Q = (immL xs = true ∧ Q (.tup xs)) := (rfl)
theorem Zby : oTup (.tup xs) Q = (immL xs = true ∧ Q (.tup xs)) := (rfl)
end
end Pu
set_option Elab.async false
set_option linter.all false
set_option maxRecDepth 100000
namespace Pu
open PySem PySem.Spec PyProof.Rows L2
section
variable {Q : D → Prop} {R : List D → Prop} {a b i n : Int} {r s l ns : List Int} {ws us : List (List Int)} {near : List (List Bool)} {bs : List Bool} {p q : Bool} {α β : Type} {e : α → D} {xs ys : List α}
theorem Zb8 : D.imm (.int a) = true := (rfl)
theorem Zb9 : D.imm (.bl p) = true := (rfl)
theorem Zca : D.imm .non = true := (rfl)
theorem Zcb : D.imm (rD r) = true := immL_dInts r
theorem Zcc : D.imm (wD ws) = true := imm_wD ws
theorem Zcd : immL [] = true := (rfl)
theorem Zce {d : D} {ds : List D} : immL (d :: ds) = (D.imm d && immL ds) := (rfl)
theorem Zcf {ds : List D} : D.imm (.tup ds) = immL ds := by simp [D.imm]
theorem Zbz : List.map D.int r = dInts r := (rfl)
theorem ZbA : List.map rD ws = rowsD ws := (rfl)
theorem ZbC : immL (dInts r) = true := immL_dInts r
theorem ZbE : immL (rowsD ws) = true := immL_rows ws
theorem y_W : ws.getD a.toNat [] = W ws a := (rfl)
theorem Zcg : D.tup (dInts r) = rD r := (rfl)
theorem Zch : D.tup (rowsD ws) = wD ws := (rfl)
theorem Zci : ((dInts r).length : Nat) = r.length := dInts_len
theorem Zcj : ((rowsD ws).length : Nat) = ws.length := rowsD_len
theorem Zck : oLenA (rD r) Q = Q (.int (r.length : Nat)) := by unfold rD; rw [Zbr, dInts_len]
theorem Zcl : oLenA (wD ws) Q = Q (.int (ws.length : Nat)) := by unfold wD; rw [Zbr, rowsD_len]
theorem Zcm : oLenA (nD near) Q = Q (.int (near.length : Nat)) := by unfold nD; rw [Zbq, List.length_map]
theorem sh_int : Sh (.int a) := (rfl)
theorem sh_bl : Sh (.bl p) := by cases p <;> rfl
theorem eqb_rD : D.eqb (rD r) (rD s) = decide (r = s) := eqv_ints r s
theorem eqb_wD : D.eqb (wD ws) (wD us) = decide (ws = us) := eqv_rows ws us
theorem eqb_bl : D.eqb (.bl p) (.bl q) = (p == q) := (rfl)
theorem Zcn : oEq (.int a) (.int b) Q = Q (.bl (decide (a = b))) := by unfold oEq; rw [eqb_int]; simp [sh_int]
theorem Zco : oNe (.int a) (.int b) Q = Q (.bl (!decide (a = b))) := by unfold oNe; rw [eqb_int]; simp [sh_int]
theorem Zcp : oEq (rD r) (rD s) Q = Q (.bl (decide (r = s))) := by unfold oEq; rw [eqb_rD]; simp [sh_ints]
theorem Zcq : oNe (rD r) (rD s) Q = Q (.bl (!decide (r = s))) := by unfold oNe; rw [eqb_rD]; simp [sh_ints]
theorem sh_wD : Sh (wD ws) := sh_rows ws
theorem Zcr : oEq (wD ws) (wD us) Q = Q (.bl (decide (ws = us))) := by unfold oEq; rw [eqb_wD]; simp [sh_wD]
theorem Zcs : oNe (wD ws) (wD us) Q = Q (.bl (!decide (ws = us))) := by unfold oNe; rw [eqb_wD]; simp [sh_wD]
theorem Zct : oEq (.bl p) (.bl q) Q = Q (.bl (p == q)) := by unfold oEq; rw [eqb_bl]; simp [sh_bl]
theorem Zcu : oNe (.bl p) (.bl q) Q = Q (.bl (!(p == q))) := by unfold oNe; rw [eqb_bl]; simp [sh_bl]
theorem Zcv : oIn false (.int b) (rD l) Q = Q (.bl (l.contains b)) := propext ⟨fun h => by
  obtain ⟨_, _, h⟩ := h
  rw [any_ints, Bool.false_xor] at h; exact h, in_ints⟩
theorem Zcw : oIn true (.int b) (rD l) Q = Q (.bl (!l.contains b)) := propext ⟨fun h => by
  obtain ⟨_, _, h⟩ := h
  rw [any_ints, Bool.true_xor] at h; exact h, fun q => ⟨rfl, flat_ints l, by rw [any_ints, Bool.true_xor]; exact q⟩⟩
theorem Zcx {c : Int} : atF 3 "works" (oD c ws) Q = Q (wD ws) := propext ⟨fun h => h.2, fun h => ⟨rfl, h⟩⟩
theorem Zcy {c : Int} : atF 3 "desks" (oD c ws) Q = Q (.int c) := propext ⟨fun h => h.2, fun h => ⟨rfl, h⟩⟩
theorem Zcz : oIx (pD n ws) (.int 0) Q = Q (.int n) := (rfl)
theorem ZcA : oIx (pD n ws) (.int 1) Q = Q (wD ws) := (rfl)
theorem y_ixR (h0 : 0 ≤ i) (h1 : i < (r.length : Int)) (q : Q (.int (r.getD i.toNat 0))) : oIx (rD r) (.int i) Q := atD_int h0 h1 q
theorem y_ixL (h0 : 0 ≤ i) (h1 : i < (r.length : Int)) (q : Q (.int (r.getD i.toNat 0))) : oIx (.lst (dInts r)) (.int i) Q := atD_int h0 h1 q
theorem y_ixW (h0 : 0 ≤ i) (h1 : i < (ws.length : Int)) (q : Q (rD (ws.getD i.toNat []))) : oIx (wD ws) (.int i) Q := atD_some h0 (rows_at h0 h1) q
theorem rgD_ints : rgD 0 n.toNat = dInts (rangeI n) := by
  unfold rgD rangeI dInts
  rw [List.map_map]
  refine List.map_congr_left fun k _ => ?_
  show D.int (0 + (k : Int)) = D.int (Int.ofNat k)
  rw [Int.zero_add]
  rfl
theorem y_rng (h0 : -(2 ^ 62) ≤ n) (h1 : n < 2 ^ 62) (q : R (dInts (rangeI n))) : rngQ (.int n) R := ⟨⟨h0, h1⟩, by rw [rgD_ints]; exact q⟩
theorem ZbB : enmQ (wD ws) R = R (enD 0 (rowsD ws)) := (rfl)
theorem ZbD : List.map (logF ws r) (rangeI n) = logsF n ws r := (rfl)
theorem draw_ev {k : Int} {o : D} (h0 : 0 < k) (h1 : k < 2 ^ 30) (q : ∀ z, 0 ≤ z → z < k → Q (.int z)) : mDraw [o, .int k] Q := ⟨h0, h1, fun r r0 r1 => q r r0 r1⟩
theorem rangeI_len : (rangeI n).length = n.toNat := by simp [rangeI]
theorem mem_rangeI {x : Int} : x ∈ rangeI n ↔ 0 ≤ x ∧ x < n := ⟨rangeI_mem, fun h => List.mem_map.mpr ⟨x.toNat, List.mem_range.mpr (by omega), Int.toNat_of_nonneg h.1⟩⟩
theorem y_addR (h : r.length + s.length ≤ sizeLine) (q : Q (rD (r ++ s))) : oAdd (rD r) (rD s) Q := ⟨immL_dInts r, immL_dInts s, by rw [dInts_len, dInts_len]; exact h, by rw [dInts_app]; exact q⟩
theorem y_slR_hi {k : Nat} (q : Q (rD (r.take k))) : slcQ (rD r) none (some (k : Int)) Q := ⟨immL_dInts r, by rw [cut_take, dInts_take]; exact q⟩
theorem y_slR_lo {k : Nat} (q : Q (rD (r.drop k))) : slcQ (rD r) (some (k : Int)) none Q := ⟨immL_dInts r, by rw [cut_drop, dInts_drop]; exact q⟩
theorem ZcB : oListA (rD r) Q = Q (.lst (dInts r)) := propext ⟨fun h => by
  rcases h with h | h | h
  · exact h.2
  · exact h.elim
  · exact h.elim, fun h => .inl ⟨immL_dInts r, h⟩⟩
theorem lc_G {g : XG} {mt : XB} {me : X1} {env : PEnv} (t : α → Bool) (f : α → β) (e' : β → D) : ∀ (xs : List α) (acc : List D) (Z : List D → Prop), acc.length + xs.length ≤ sizeLine →
    (∀ x ∈ xs, ∀ (R : D → Prop) (N : Prop), (t x = true → R (e' (f x))) → (t x = false → N) → g (e x) env fun env1 => mt env1 fun k => if k = true then me env1 R else N) →
    Z (acc ++ ((xs.filter t).map f).map e') → lcLoop g mt me env (xs.map e) acc Z
  | [], acc, Z, _, _, q => by simpa [lcLoop] using q
  | x :: xs, acc, Z, hl, h, q => by
    simp at hl
    refine h x List.mem_cons_self _ _ (fun ht => ⟨by omega, ?_⟩) fun ht => ?_
    · refine lc_G t f e' xs _ Z (by simp; omega) (fun y hy => h y (List.mem_cons_of_mem _ hy)) ?_
      rw [List.filter_cons_of_pos ht, List.map_cons, List.map_cons] at q
      simpa using q
    · refine lc_G t f e' xs _ Z (by omega) (fun y hy => h y (List.mem_cons_of_mem _ hy)) ?_
      rwa [List.filter_cons_of_neg (by rw [ht]; decide)] at q
theorem lc_FT {g : XG} {mt : XB} {me : X1} {env : PEnv} {Z : List D → Prop} (t : α → Bool) (f : α → β) (e' : β → D) (hl : xs.length ≤ sizeLine)
    (h : ∀ x ∈ xs, ∀ (R : D → Prop) (N : Prop), (t x = true → R (e' (f x))) → (t x = false → N) → g (e x) env fun env1 => mt env1 fun k => if k = true then me env1 R else N)
    (q : Z (((xs.filter t).map f).map e')) : lcLoop g mt me env (xs.map e) [] Z := lc_G t f e' xs [] Z (by simpa using hl) h q
theorem lc_M {g : XG} {me : X1} {env : PEnv} {Z : List D → Prop} (f : α → β) (e' : β → D) (hl : xs.length ≤ sizeLine) (h : ∀ x ∈ xs, ∀ R : D → Prop, R (e' (f x)) → g (e x) env fun env1 => me env1 R)
    (q : Z ((xs.map f).map e')) : lcLoop g bYes me env (xs.map e) [] Z :=
  lc_FT (fun _ => true) f e' hl (fun x hx R N h1 _ => by have := h x hx R (h1 rfl); exact this) (by rw [List.filter_eq_self.mpr fun _ _ => rfl]; exact q)
theorem lc_R {g : XG} {me : X1} {env : PEnv} (P : α → β → Prop) (e' : β → D) : ∀ (xs : List α) (acc : List D) (Z : List D → Prop), acc.length + xs.length ≤ sizeLine → (∀ x ∈ xs, ∀ R : D → Prop, (∀ y, P x y → R (e' y)) → g (e x) env fun env1 => me env1 R) →
    (∀ ys : List β, ys.length = xs.length → (∀ (j : Nat) (x : α) (y : β), xs[j]? = some x → ys[j]? = some y → P x y) → Z (acc ++ ys.map e')) → lcLoop g bYes me env (xs.map e) acc Z
  | [], acc, Z, _, _, q => by simpa [lcLoop] using q [] rfl (fun _ _ _ h => nomatch h)
  | x :: xs, acc, Z, hl, h, q => by
    simp at hl
    refine h x List.mem_cons_self _ fun y hy => ⟨by omega, lc_R P e' xs _ Z (by simp; omega) (fun z hz => h z (List.mem_cons_of_mem _ hz)) fun ys hl hp => ?_⟩
    have := q (y :: ys) (by simp [hl]) fun j a b h1 h2 => by
      cases j with
      | zero => simp at h1 h2; subst h1 h2; exact hy
      | succ j => exact hp j a b (by simpa using h1) (by simpa using h2)
    simpa using this
theorem loop_T {g : XG} {body : XS} [hs : MS body] [hg : MG g] {E : PEnds} {env : PEnv} (I : List α → List α → PEnv → Prop) (xs : List α) (h0 : I [] xs env)
    (hb : ∀ (p : List α) (x : α) (s : List α) (env : PEnv), p ++ x :: s = xs → I p (x :: s) env → g (e x) env fun env1 => body { nx := I (p ++ [x]) s, rt := E.rt, bk := E.nx, ct := I (p ++ [x]) s } env1)
    (hd : ∀ env, I xs [] env → E.nx env) : sLoop g body (xs.map e) E env := by
  refine loop_ev (b := g) (body := body) (fun ds env => ∃ p s, p ++ s = xs ∧ ds = s.map e ∧ I p s env) ?_ (fun d env Q Q' k q => hg.mono _ _ _ _ k q) (fun p q => hs.mono p q) _ _ ⟨[], xs, rfl, rfl, h0⟩ ?_
  · rintro d ds env ⟨p, s, e1, e2, h⟩
    cases s with
    | nil => cases e2
    | cons x s =>
      obtain ⟨rfl, rfl⟩ := List.cons.inj e2
      have up : ∀ z, I (p ++ [x]) s z → ∃ p' s', p' ++ s' = xs ∧ List.map e s = List.map e s' ∧ I p' s' z := fun z hz => ⟨p ++ [x], s, by simpa using e1, rfl, hz⟩
      exact hg.mono _ _ _ _ (fun env1 q => hs.mono (E := { nx := I (p ++ [x]) s, rt := E.rt, bk := E.nx, ct := I (p ++ [x]) s }) ⟨up, fun _ z => z, fun _ z => z, up⟩ q) (hb p x s env e1 h)
  · rintro env ⟨p, s, e1, e2, h⟩
    cases s with
    | nil => simp at e1; subst e1; exact hd env h
    | cons x s => cases e2
theorem loop_I {g : XG} {body : XS} [hs : MS body] [hg : MG g] {E : PEnds} {env : PEnv} (I : List Int → List Int → PEnv → Prop) (xs : List Int) (h0 : I [] xs env)
    (hb : ∀ (p : List Int) (x : Int) (s : List Int) (env : PEnv), p ++ x :: s = xs → I p (x :: s) env → g (.int x) env fun env1 => body { nx := I (p ++ [x]) s, rt := E.rt, bk := E.nx, ct := I (p ++ [x]) s } env1)
    (hd : ∀ env, I xs [] env → E.nx env) : sLoop g body (dInts xs) E env := loop_T I xs h0 hb hd
theorem map_bl_inj : ∀ {bs cs : List Bool}, bs.map D.bl = cs.map D.bl → bs = cs
  | [], [], _ => rfl
  | [], _ :: _, h => nomatch h
  | _ :: _, [], h => nomatch h
  | a :: bs, b :: cs, h => by
    obtain ⟨h1, h2⟩ := List.cons.inj (show D.bl a :: bs.map D.bl = D.bl b :: cs.map D.bl from h)
    cases h1
    rw [map_bl_inj h2]
theorem ZcC : oAny true (.lst (bs.map D.bl)) Q = Q (.bl (bs.all id)) := propext ⟨fun ⟨cs, e, h⟩ => by
  have : bs = cs := map_bl_inj e
  rw [this]; simpa using h, fun h => ⟨bs, rfl, by simpa using h⟩⟩
theorem ZcD : oAny false (.lst (bs.map D.bl)) Q = Q (.bl (bs.any id)) := propext ⟨fun ⟨cs, e, h⟩ => by
  have : bs = cs := map_bl_inj e
  rw [this]; simpa using h, fun h => ⟨bs, rfl, by simpa using h⟩⟩
theorem ZbF {c : String} : oIsA c (.int a) Q = Q (.bl (subB "int" c)) := (rfl)
theorem ZbG {c : String} : oIsA c (.bl p) Q = Q (.bl (subB "bool" c)) := (rfl)
theorem ZbH {c : String} {z : Str} : oIsA c (.str z) Q = Q (.bl (subB "str" c)) := (rfl)
theorem ZbI {c : String} : oIsA c .non Q = Q (.bl (subB "NoneType" c)) := (rfl)
theorem ZbJ {c : String} {ds : List D} : oIsA c (.tup ds) Q = Q (.bl (subB "tuple" c)) := (rfl)
theorem ZbK {c : String} {ds : List D} : oIsA c (.lst ds) Q = Q (.bl (subB "list" c)) := (rfl)
theorem ZbL {c : String} : oIsA c (rD r) Q = Q (.bl (subB "tuple" c)) := (rfl)
theorem ZbM {c : String} : oIsA c (wD ws) Q = Q (.bl (subB "tuple" c)) := (rfl)
theorem ZbN {cs : List String} : oIsAny cs (.int a) Q = Q (.bl (cs.any fun c => subB "int" c)) := (rfl)
theorem ZbO {cs : List String} : oIsAny cs (.bl p) Q = Q (.bl (cs.any fun c => subB "bool" c)) := (rfl)
theorem ZbP {cs : List String} {z : Str} : oIsAny cs (.str z) Q = Q (.bl (cs.any fun c => subB "str" c)) := (rfl)
theorem ZbQ {cs : List String} : oIsAny cs .non Q = Q (.bl (cs.any fun c => subB "NoneType" c)) := (rfl)
theorem ZbR {cs : List String} {ds : List D} : oIsAny cs (.tup ds) Q = Q (.bl (cs.any fun c => subB "tuple" c)) := (rfl)
theorem ZbS {cs : List String} {ds : List D} : oIsAny cs (.lst ds) Q = Q (.bl (cs.any fun c => subB "list" c)) := (rfl)
theorem sb1 : (["tuple", "list"].any fun c => subB "int" c) = false := by decide
theorem sb2 : (["tuple", "list"].any fun c => subB "bool" c) = false := by decide
theorem sb3 : (["tuple", "list"].any fun c => subB "str" c) = false := by decide
theorem sb4 : (["tuple", "list"].any fun c => subB "NoneType" c) = false := by decide
theorem sb5 : (["tuple", "list"].any fun c => subB "tuple" c) = true := by decide
theorem sb6 : (["tuple", "list"].any fun c => subB "list" c) = true := by decide
theorem sb7 : (["bool", "str"].any fun c => subB "bool" c) = true := by decide
theorem sb8 : (["bool", "str"].any fun c => subB "str" c) = true := by decide
theorem sb9 : subB "int" "bool" = false := by decide
theorem ZbT : subB "int" "str" = false := by decide
theorem ZbU : subB "int" "int" = true := by decide
theorem ZbV : subB "NoneType" "bool" = false := by decide
theorem ZbW : subB "NoneType" "str" = false := by decide
theorem ZbX : subB "bool" "bool" = true := by decide
theorem ZbY : subB "str" "bool" = false := by decide
theorem ZbZ : subB "str" "str" = true := by decide
theorem Zb0 : subB "tuple" "tuple" = true := by decide
theorem Zb1 : subB "tuple" "list" = false := by decide
theorem Zb2 : subB "list" "tuple" = false := by decide
theorem Zb3 : subB "list" "list" = true := by decide
theorem Zb4 : subB "bool" "int" = true := by decide
theorem Zb5 : (D.int a).isN = false := (rfl)
theorem Zb6 : D.non.isN = true := (rfl)
theorem Zb7 : (rD r).isN = false := (rfl)
end
end Pu
set_option Elab.async false
set_option linter.all false
set_option maxRecDepth 100000
set_option synthInstance.maxHeartbeats 0
set_option synthInstance.maxSize 100000
namespace Pu
open PySem PySem.Spec PyProof.Rows L2
section
variable {Q : D → Prop} {R : List D → Prop} {n i : Int} {r s a b A B P : List Int} {ws : List (List Int)} {x y z : Int} {env : PEnv} {α κ : Type} [DecidableEq κ] [DecidableEq α] {inl : α → κ} {kvs : List (κ × D)} {K : List α} {f g : α → D} {c c' : α} {d d0 : D} {kds : List (Key × D)} {J : List Int} {F : Int → D}
structure KG (inl : α → κ) (kvs : List (κ × D)) (K : List α) (f : α → D) : Prop where
  keys : kvs.map (·.1) = K.map inl
  nd : K.Nodup
  inj : ∀ a b, inl a = inl b → a = b
  val : ∀ a ∈ K, lookD kvs (inl a) = some (f a)
theorem KG.len (h : KG inl kvs K f) : kvs.length = K.length := by have := congrArg List.length h.keys; simpa using this
theorem KG.any (h : KG inl kvs K f) : (kvs.any fun kv => decide (kv.1 = inl c)) = decide (c ∈ K) := by
  by_cases hc : c ∈ K
  · rw [decide_eq_true hc, List.any_eq_true]
    have : inl c ∈ kvs.map (·.1) := by rw [h.keys]; exact List.mem_map.mpr ⟨c, hc, rfl⟩
    obtain ⟨z, hz, e⟩ := List.mem_map.mp this
    exact ⟨z, hz, decide_eq_true e⟩
  · rw [decide_eq_false hc, List.any_eq_false]
    intro z hz q
    have : z.1 ∈ kvs.map (·.1) := List.mem_map.mpr ⟨z, hz, rfl⟩
    rw [h.keys] at this
    obtain ⟨t, ht, e⟩ := List.mem_map.mp this
    exact hc (h.inj _ _ (e.trans (of_decide_eq_true q)) ▸ ht)
theorem KG.none (h : KG inl kvs K f) (hc : c ∉ K) : lookD kvs (inl c) = none := by
  unfold lookD
  rw [List.find?_eq_none.mpr]
  · rfl
  · intro z hz
    have := h.any (c := c)
    rw [decide_eq_false hc, List.any_eq_false] at this
    simpa using this z hz
theorem KG.congr (h : KG inl kvs K f) (e : ∀ a ∈ K, f a = g a) : KG inl kvs K g := ⟨h.keys, h.nd, h.inj, fun a ha => by rw [h.val a ha, e a ha]⟩
def inlK (x : Int) : Key := Sum.inl x
abbrev KX (kds : List (Key × D)) (J : List Int) (F : Int → D) : Prop := KG inlK kds J F
end
end Pu
set_option Elab.async false
set_option linter.all false
set_option maxRecDepth 100000
set_option synthInstance.maxHeartbeats 0
set_option synthInstance.maxSize 100000
namespace Pu
open PySem PySem.Spec PyProof.Rows L2
section
variable {n i j k e d c m p q : Int} {r s l : List Int} {ws : List (List Int)} {x y : Int} {P P' : Int → Prop}
def Ev (r : List Int) (k : Int) : Int := r.getD k.toNat 0
inductive Pst (ws : List (List Int)) (r : List Int) : Int → Int → Prop
  | self {i : Int} : 0 ≤ i → i < (r.length : Int) → Pst ws r i i
  | step {j k i : Int} : Pst ws r j k → k < i → i < (r.length : Int) → meetsF ws (Ev r k) (Ev r i) = true → Pst ws r j i
theorem Pst.le (h : Pst ws r j i) : 0 ≤ j ∧ j ≤ i ∧ i < (r.length : Int) := by
  induction h with
  | self h1 h2 => exact ⟨h1, Int.le_refl _, h2⟩
  | step h1 h2 h3 h4 ih => exact ⟨ih.1, by omega, h3⟩
theorem Pst.trans (h1 : Pst ws r j k) (h2 : Pst ws r k i) : Pst ws r j i := by
  induction h2 with
  | self _ _ => exact h1
  | step a b c d ih => exact .step ih b c d
theorem ev_app (h0 : 0 ≤ k) (h1 : k < (r.length : Int)) : Ev (r ++ s) k = Ev r k := by
  unfold Ev
  rw [List.getD_eq_getElem?_getD, List.getD_eq_getElem?_getD, List.getElem?_append_left (by omega)]
theorem Pst.app (h : Pst ws r j i) : Pst ws (r ++ s) j i := by
  have ll : (r.length : Int) ≤ ((r ++ s).length : Int) := by simp <;> omega
  induction h with
  | self h1 h2 => exact .self h1 (by omega)
  | step h1 h2 h3 h4 ih =>
    have := h1.le
    exact .step ih h2 (by omega) (by rw [ev_app (by omega) (by omega), ev_app (by omega) h3]; exact h4)
theorem meets_of' (hx : d ∈ W ws x) (hy : d ∈ W ws y) : meetsF ws x y = true := List.any_eq_true.mpr ⟨d, hx, by simpa using hy⟩
noncomputable def pastL (ws : List (List Int)) (r : List Int) (i : Int) : List Int := (rangeI (i + 1)).filter fun j => @decide (Pst ws r j i) (Classical.propDecidable _)
def IsLast (P : Int → Prop) (m : Int) : Prop := (∀ j, P j → j ≤ m) ∧ (m = -1 ∨ P m)
theorem IsLast.congr {m : Int} (h : IsLast P m) (e : ∀ j, P j ↔ P' j) : IsLast P' m := ⟨fun j hj => h.1 j ((e j).mpr hj), h.2.imp id (e m).mp⟩
def lastL (l : List Int) : Int := l.getLast?.getD (-1)
def onD (ws : List (List Int)) (r : List Int) (d : Int) (l : List Int) : List Int := l.filter fun j => (W ws (Ev r j)).contains d
noncomputable def lastIn (ws : List (List Int)) (r : List Int) (e d : Int) : Int := lastL (onD ws r d (pastL ws r e))
def lastOf (ws : List (List Int)) (r : List Int) (d : Int) : Int := lastL (onD ws r d (rangeI (r.length : Int)))
end
end Pu
set_option Elab.async false
set_option linter.all false
set_option maxRecDepth 100000
set_option synthInstance.maxHeartbeats 0
set_option synthInstance.maxSize 100000
namespace Pu
open PySem PySem.Spec PyProof.Rows L2
section
variable {Q : D → Prop} {n i j k e d c m p q : Int} {r s l : List Int} {ws : List (List Int)} {x y : Int} {o a b g h : D} {ls : List D} {lab : D} {K : D → Prop} {R : List (Str × D) → Prop} {env : PEnv} {E : PEnds}
def trO (o a b g h : D) : D := .obj 6 [("office", o), ("row", a), ("lasts_in", b), ("names", g), ("lasts", h)]
theorem w_setF {i c0 : Nat} {f : Str} {m : X1} : sSetF i c0 f m E env = m env fun x => xVar i env fun d => onM c0 d fun gs => E.nx (env.set i (some (.obj c0 (putFD f x gs)))) := (rfl)
theorem y_imm_oD : D.imm (oD n ws) = true := by
  show immF [("desks", .int n), ("works", wD ws)] = true
  rw [immF_eq]
  show immL [.int n, wD ws] = true
  rw [Zce, Zce, Zcc]
  rfl
noncomputable def liV (n : Int) (ws : List (List Int)) (r : List Int) (e : Int) : List Int := (rangeI n).map (lastIn ws r e)
def lastsV (n : Int) (ws : List (List Int)) (r : List Int) : List Int := (rangeI n).map (lastOf ws r)
def nmF (r : List Int) (ls : List D) (e : Int) : D := if e < 0 then .non else .tup [.int (Ev r e), ls.getD e.toNat .non]
def trK (r : List Int) : List Int := (-1) :: rangeI (r.length : Int)
structure Tr (n : Int) (ws : List (List Int)) (r : List Int) (ls : List D) (d : D) : Prop where
  ex : ∃ lk nk, d = trO (oD n ws) (rD r) (.dK lk) (.dK nk) (rD (lastsV n ws r)) ∧ KX lk (trK r) (fun e => rD (liV n ws r e)) ∧ KX nk (trK r) (nmF r ls)
  len : ls.length = r.length
theorem w_mem' (hx : 0 ≤ x ∧ x < (ws.length : Int)) : W ws x ∈ ws := by
  unfold W
  rw [List.getD_eq_getElem?_getD, List.getElem?_eq_getElem (show x.toNat < ws.length by omega)]
  exact List.getElem_mem _
theorem s_seqR {S : List D → Prop} : seqQ (rD r) S = S (dInts r) := (rfl)
theorem s_seqL {S : List D → Prop} {ds : List D} : seqQ (.lst ds) S = S ds := (rfl)
def eT (l : List Int) (p : Int) : D := .tup [.int p, .int (l.getD p.toNat 0)]
theorem onM_i {c : Nat} {gs : List (Str × D)} (h : gs.length < 1000) (z : Fz (gs.map (·.1)) = false) (q : R gs) : onM c (.obj c gs) R := ⟨rfl, h, z, q⟩
end
end Pu
set_option Elab.async false
set_option linter.all false
set_option maxRecDepth 100000
set_option synthInstance.maxHeartbeats 0
set_option synthInstance.maxSize 100000
namespace Pu
open PySem PySem.Spec PyProof.Rows L2
section
variable {Q : D → Prop} {n i j k e d c m p q : Int} {r s l J : List Int} {ws : List (List Int)} {x y : Int} {K : D → Prop} {R : List (Str × D) → Prop} {env : PEnv} {E : PEnds} {ls : List D} {t d0 : D}
theorem w_make {c : Nat} {mf : XI} {r : XL} : xMake c mf r env Q = r env fun ds => mf ds fun gs => Q (mkO c gs) := (rfl)
theorem range_pre {p : List Int} {m : Int} (e : p ++ x :: s = rangeI m) : x = (p.length : Int) ∧ (p.length : Int) < m ∧ p = rangeI (p.length : Int) := by
  have hl := congrArg List.length e
  rw [rangeI_len] at hl
  simp at hl
  have h1 : (rangeI m)[p.length]? = some x := by rw [← e]; simp
  have h2 : (rangeI m).take p.length = p := by rw [← e]; simp
  unfold rangeI at h1 h2
  rw [List.getElem?_map, List.getElem?_range (by omega)] at h1
  refine ⟨by simpa using h1.symm, by omega, ?_⟩
  rw [← List.map_take, List.take_range, Nat.min_eq_left (by omega)] at h2
  unfold rangeI
  rw [Int.toNat_natCast]
  exact h2.symm
theorem nodup_in : ∀ {m : Int} {J : List Int}, J.Nodup → (∀ j ∈ J, 0 ≤ j ∧ j < m) → 0 ≤ m → (J.length : Int) ≤ m := by
  intro m J nd h h0
  have : ∀ (k : Nat) (J : List Int), J.Nodup → (∀ j ∈ J, 0 ≤ j ∧ j < (k : Int)) → J.length ≤ k := by
    intro k
    induction k with
    | zero =>
      intro J _ h
      cases J with
      | nil => exact Nat.le_refl _
      | cons x J => have := h x List.mem_cons_self; omega
    | succ k ih =>
      intro J nd h
      have h1 := ih (J.erase (k : Int)) (nd.erase _) fun j hj => by
        have a := h j (List.mem_of_mem_erase hj)
        have b : j ≠ (k : Int) := fun e => by
          rw [e] at hj
          exact (List.Nodup.not_mem_erase nd) hj
        omega
      have h2 := List.length_erase (a := (k : Int)) (l := J)
      split at h2 <;> omega
  have := this m.toNat J nd fun j hj => by have := h j hj; omega
  omega
end
end Pu
set_option Elab.async false
set_option linter.all false
set_option maxRecDepth 100000
set_option synthInstance.maxHeartbeats 0
set_option synthInstance.maxSize 100000
namespace Pu
open PySem PySem.Spec PyProof.Rows L2
section
variable {Q : D → Prop} {n i j k e d c m p q : Int} {r s l J a lot : List Int} {ws : List (List Int)} {x y : Int} {K : D → Prop} {env : PEnv} {dd t : D} {ls : List D}
end
end Pu
set_option Elab.async false
set_option linter.all false
set_option maxRecDepth 100000
set_option synthInstance.maxHeartbeats 0
set_option synthInstance.maxSize 100000
namespace Pu
open PySem PySem.Spec PyProof.Rows L2
section
variable {Q : D → Prop} {k : Nat} {d : D} {ds : List D}
inductive Nb : Nat → D → Prop
  | non {k : Nat} : Nb k .non
  | int {k : Nat} (i : Int) : Nb k (.int i)
  | bl {k : Nat} (b : Bool) : Nb k (.bl b)
  | tup {k : Nat} {ds : List D} : (∀ d ∈ ds, Nb k d) → ds.length ≤ 1000000 → Nb (k + 1) (.tup ds)
theorem Nb.imm (h : Nb k d) : d.imm = true := by
  induction h with
  | non => rfl
  | int i => rfl
  | bl b => rfl
  | @tup k ds h l ih =>
    rw [Zcf]
    clear l
    induction ds with
    | nil => rfl
    | cons d ds i2 =>
      rw [Zce, ih d List.mem_cons_self, i2 (fun x hx => h x (List.mem_cons_of_mem _ hx)) (fun x hx => ih x (List.mem_cons_of_mem _ hx))]
      rfl
theorem Nb.lay (h : Nb k d) : d.py.canLay0 = true ∧ d.py.depth ≤ k ∧ PyData.eqv d.py d.py = true := by
  induction h with
  | non => exact ⟨rfl, Nat.zero_le _, rfl⟩
  | int i => exact ⟨rfl, Nat.zero_le _, by show D.eqb (.int i) (.int i) = true; rw [eqb_int]; exact decide_eq_true rfl⟩
  | bl b => exact ⟨rfl, Nat.zero_le _, by cases b <;> rfl⟩
  | @tup k ds h l ih =>
    clear l
    have all : PyData.canLayAll0 (pyL ds) = true ∧ PyData.depthAll (pyL ds) ≤ k ∧ PyData.eqvAll (pyL ds) (pyL ds) = true := by
      induction ds with
      | nil => exact ⟨rfl, Nat.zero_le _, rfl⟩
      | cons d ds i2 =>
        obtain ⟨a1, a2, a3⟩ := ih d List.mem_cons_self
        obtain ⟨b1, b2, b3⟩ := i2 (fun x hx => h x (List.mem_cons_of_mem _ hx)) (fun x hx => ih x (List.mem_cons_of_mem _ hx))
        refine ⟨?_, ?_, ?_⟩
        · show (d.py.canLay0 && PyData.canLayAll0 (pyL ds)) = true
          rw [a1, b1]; rfl
        · show max d.py.depth (PyData.depthAll (pyL ds)) ≤ k
          exact Nat.max_le.mpr ⟨a2, b2⟩
        · show (PyData.eqv d.py d.py && PyData.eqvAll (pyL ds) (pyL ds)) = true
          rw [a3, b3]; rfl
    exact ⟨all.1, Nat.succ_le_succ all.2.1, all.2.2⟩
theorem Nb.eqb (h : Nb k d) : D.eqb d d = true := h.lay.2.2
theorem Nb.up (h : Nb k d) : Nb (k + 1) d := by
  induction h with
  | non => exact .non
  | int i => exact .int i
  | bl b => exact .bl b
  | tup h l ih => exact .tup ih l
theorem Nb.le {j : Nat} (h : Nb k d) (l : k ≤ j) : Nb j d := by
  induction l with
  | refl => exact h
  | step _ ih => exact ih.up
end
end Pu
set_option Elab.async false
set_option linter.all false
set_option maxRecDepth 100000
set_option synthInstance.maxHeartbeats 0
set_option synthInstance.maxSize 100000
namespace Pu
open PySem PySem.Spec PyProof.Rows L2
section
variable {Q : D → Prop} {n i j k e d c m p q : Int} {r s l J a lot : List Int} {ws L : List (List Int)} {x y : Int} {K : D → Prop} {env : PEnv} {dd t : D} {ls ds : List D}
end
end Pu
set_option Elab.async false
set_option linter.all false
set_option maxRecDepth 100000
set_option synthInstance.maxHeartbeats 0
set_option synthInstance.maxSize 100000
namespace Pu
open PySem PySem.Spec PyProof.Rows L2
section
variable {Q : D → Prop} {n : Int} {r s row left : List Int} {ws : List (List Int)}
def freeAt (ws : List (List Int)) : List Int → Int → Option Nat
  | [], _ => none
  | y :: r, x => if y = x then some 0 else if meetsF ws y x = true then none else (freeAt ws r x).map (· + 1)
def Pick (ws : List (List Int)) (left : List Int) (x : Int) (k : Nat) : Prop := freeAt ws left x = some k ∧ ∀ y ∈ left, y < x → freeAt ws left y = none
inductive Lst (ws : List (List Int)) : List Int → List Int → Prop
  | nil : Lst ws [] []
  | cons {left rest : List Int} {x : Int} {k : Nat} : Pick ws left x k → Lst ws (left.eraseIdx k) rest → Lst ws left (x :: rest)
end
section
variable {n : Int} {r s a b row left : List Int} {ws : List (List Int)} {x z : Int}
end
end Pu
set_option Elab.async false
set_option linter.all false
set_option maxRecDepth 100000
set_option synthInstance.maxHeartbeats 0
set_option synthInstance.maxSize 100000
namespace Pu
open PySem PySem.Spec PyProof.Rows L2
section
variable {Q : D → Prop} {n i : Int} {r s row left : List Int} {ws us : List (List Int)}
inductive Pl : Nat → D → Prop
  | int {k : Nat} (a : Int) : Pl k (.int a)
  | bl {k : Nat} (b : Bool) : Pl k (.bl b)
  | non {k : Nat} : Pl k .non
  | tup {k : Nat} {ds : List D} (h : ∀ d ∈ ds, Pl k d) (l : ds.length ≤ 1000000) : Pl (k + 1) (.tup ds)
  | lst {k : Nat} {ds : List D} (h : ∀ d ∈ ds, Pl k d) (l : ds.length ≤ 1000000) : Pl (k + 1) (.lst ds)
end
end Pu
set_option Elab.async false
set_option linter.all false
set_option maxRecDepth 100000
set_option synthInstance.maxHeartbeats 0
set_option synthInstance.maxSize 100000
namespace Pu
open PySem PySem.Spec PyProof.Rows L2
section
variable {Q : D → Prop} {n i : Int} {r s row left : List Int} {ws us : List (List Int)}
end
end Pu
set_option Elab.async false
set_option linter.all false
set_option maxRecDepth 100000
set_option synthInstance.maxHeartbeats 0
set_option synthInstance.maxSize 100000
namespace Pu
open PySem PySem.Spec PyProof.Rows L2
section
variable {Q : D → Prop} {n i : Int} {r s row left : List Int} {ws us L : List (List Int)} {C : List Int}
def Ready (ws : List (List Int)) (R : Int → List Int) (x : Int) : Prop := W ws x ≠ [] ∧ ∀ d ∈ W ws x, (R d).head? = some x
instance {ws : List (List Int)} {R : Int → List Int} {x : Int} : Decidable (Ready ws R x) := by unfold Ready; infer_instance
def firstR (ws : List (List Int)) (R : Int → List Int) : Option Int := (rangeI ws.length).find? fun x => decide (Ready ws R x)
def COk : List (List Int) → List Int → Prop
  | [], [] => True
  | l :: L, c :: C => 0 ≤ c ∧ c ≤ (l.length : Int) ∧ COk L C
  | _, _ => False
theorem COk.len : ∀ {L : List (List Int)} {C : List Int}, COk L C → C.length = L.length
  | [], [], _ => rfl
  | l :: L, c :: C, h => by simp [COk.len h.2.2]
  | [], _ :: _, h => h.elim
  | _ :: _, [], h => h.elim
theorem COk.at : ∀ {L : List (List Int)} {C : List Int} (k : Nat), COk L C → 0 ≤ C.getD k 0 ∧ C.getD k 0 ≤ ((L.getD k []).length : Int)
  | [], [], k, _ => by simp
  | l :: L, c :: C, 0, h => by simpa using ⟨h.1, h.2.1⟩
  | l :: L, c :: C, k + 1, h => by simpa using COk.at k h.2.2
  | [], _ :: _, _, h => h.elim
  | _ :: _, [], _, h => h.elim
theorem COk.set : ∀ {L : List (List Int)} {C : List Int} (k : Nat) {c : Int}, COk L C → 0 ≤ c → c ≤ ((L.getD k []).length : Int) → COk L (C.set k c)
  | [], [], k, c, _, _, _ => by simp [COk]
  | l :: L, c0 :: C, 0, c, h, h1, h2 => ⟨h1, by simpa using h2, h.2.2⟩
  | l :: L, c0 :: C, k + 1, c, h, h1, h2 => ⟨h.1, h.2.1, COk.set k h.2.2 h1 (by simpa using h2)⟩
  | [], _ :: _, _, _, h, _, _ => h.elim
  | _ :: _, [], _, _, h, _, _ => h.elim
def tot (L : List (List Int)) : Int := (L.map fun l => (l.length : Int)).sum
theorem COk.sum : ∀ {L : List (List Int)} {C : List Int}, COk L C → 0 ≤ C.sum ∧ C.sum ≤ tot L
  | [], [], _ => by simp [tot]
  | l :: L, c :: C, h => by
    have := COk.sum h.2.2
    have h1 := h.1
    have h2 := h.2.1
    simp only [tot, List.map_cons, List.sum_cons] at this ⊢
    omega
  | [], _ :: _, h => h.elim
  | _ :: _, [], h => h.elim
theorem COk.zero : ∀ L : List (List Int), COk L (List.replicate L.length 0)
  | [] => trivial
  | l :: L => ⟨Int.le_refl _, by omega, COk.zero L⟩
end
end Pu
set_option Elab.async false
set_option linter.all false
set_option maxRecDepth 100000
set_option synthInstance.maxHeartbeats 0
set_option synthInstance.maxSize 100000
namespace Pu
open PySem PySem.Spec PyProof.Rows L2
section
variable {Q : D → Prop} {n i : Int} {r s row left : List Int} {ws us L : List (List Int)} {C : List Int}
inductive Run (ws : List (List Int)) : (Int → List Int) → List Int → (Int → List Int) → Prop
  | stop {R : Int → List Int} : firstR ws R = none → Run ws R [] R
  | step {R R' : Int → List Int} {x : Int} {row : List Int} : firstR ws R = some x → Run ws (fun d => if d ∈ W ws x then (R d).tail else R d) row R' → Run ws R (x :: row) R'
end
end Pu
set_option Elab.async false
set_option linter.all false
set_option maxRecDepth 100000
set_option synthInstance.maxHeartbeats 0
set_option synthInstance.maxSize 100000
namespace Pu
open PySem PySem.Spec PyProof.Rows L2
section
variable {Q : D → Prop} {n i : Int} {r s row left a b : List Int} {ws us L : List (List Int)} {C : List Int}
end
end Pu
set_option Elab.async false
set_option linter.all false
set_option maxRecDepth 100000
set_option synthInstance.maxHeartbeats 0
set_option synthInstance.maxSize 100000
namespace Pu
open PySem PySem.Spec PyProof.Rows L2
section
variable {Q : D → Prop} {n i : Int} {r s row left a b : List Int} {ws us L K : List (List Int)} {C : List Int} {kvs : List (List Key × D)} {dd : D}
end
end Pu
set_option Elab.async false
set_option linter.all false
set_option maxRecDepth 100000
set_option synthInstance.maxHeartbeats 0
set_option synthInstance.maxSize 100000
namespace Pu
open PySem PySem.Spec PyProof.Rows L2
section
variable {Q : D → Prop} {n i j k e d c m p q : Int} {r s l J a lot left found row : List Int} {ws L : List (List Int)} {x y : Int} {K : D → Prop} {env : PEnv} {dd t : D} {ls ds : List D}
end
end Pu
set_option Elab.async false
set_option linter.all false
set_option maxRecDepth 100000
set_option synthInstance.maxHeartbeats 0
set_option synthInstance.maxSize 100000
namespace Pu
open PySem PySem.Spec PyProof.Rows L2
section
variable {Q : D → Prop} {n i j k e d c m p q A b : Int} {r s l J a lot left found row : List Int} {ws L : List (List Int)} {x y : Int} {K : D → Prop} {env : PEnv} {dd t : D} {ls ds : List D}
end
end Pu
set_option Elab.async false
set_option linter.all false
set_option maxRecDepth 100000
set_option synthInstance.maxHeartbeats 0
set_option synthInstance.maxSize 100000
namespace Pu
open PySem PySem.Spec PyProof.Rows L2
section
variable {α : Type} {Q : D → Prop} {kds acc : List (D × D)} {ks l : List NestedKey} {k : NestedKey} {y z : D} {env : PEnv} {E : PEnds}
theorem w_putN {i : Nat} {m mv : X1} : sPutN i m mv E env = mv env fun x => xVar i env fun d => m env fun e => setDN d e x fun d' => E.nx (env.set i (some d')) := (rfl)
def NX (kds : List (D × D)) (ks : List NestedKey) : Prop := kds.map (fun p => p.1.nk) = ks.map some ∧ ks.Nodup
def insK (ks : List NestedKey) (k : NestedKey) : List NestedKey := if k ∈ ks then ks else ks ++ [k]
theorem insK_nd (h : ks.Nodup) : (insK ks k).Nodup := by
  unfold insK
  split
  · exact h
  · rename_i hk
    exact List.nodup_append.mpr ⟨h, by simp, fun a ha b hb e => by rw [List.mem_singleton.mp hb] at e; exact hk (e ▸ ha)⟩
theorem NX.nil : NX [] [] := ⟨rfl, List.nodup_nil⟩
theorem NX.len (h : NX kds ks) : kds.length = ks.length := by have := congrArg List.length h.1; simpa using this
theorem NX.nd (h : NX kds ks) : (kds.map fun p => p.1.nk).Nodup := by
  rw [h.1]
  exact List.pairwise_map.mpr (h.2.imp fun h e => h (Option.some.inj e))
theorem NX.isSome : ∀ {kds : List (D × D)} {ks : List NestedKey}, NX kds ks → (lookN kds k).isSome = decide (k ∈ ks)
  | [], [], _ => by simp [lookN]
  | [], _ :: _, h => by have := h.len; simp at this
  | _ :: _, [], h => by have := h.len; simp at this
  | p :: kds, a :: ks, ⟨h1, h2⟩ => by
    rw [List.map_cons, List.map_cons] at h1
    obtain ⟨e1, e2⟩ := List.cons.inj h1
    have ih : (lookN kds k).isSome = decide (k ∈ ks) := NX.isSome ⟨e2, (List.nodup_cons.mp h2).2⟩
    unfold lookN at ih ⊢
    by_cases e : a = k
    · rw [List.find?_cons_of_pos (by rw [e1, e]; simp)]
      simp [e]
    · rw [List.find?_cons_of_neg (by rw [e1]; simpa using e), ih, Bool.eq_iff_iff, decide_eq_true_iff, decide_eq_true_iff, List.mem_cons]
      exact ⟨.inr, fun z => z.elim (fun w => absurd w.symm e) id⟩
theorem NX.put (h : NX kds ks) (e : y.nk = some k) : NX (putN kds k y z) (insK ks k) := by
  unfold putN insK
  rw [h.isSome]
  by_cases hk : k ∈ ks
  · rw [if_pos (by simpa using hk), if_pos hk]
    refine ⟨?_, h.2⟩
    rw [← h.1, List.map_map]
    refine List.map_congr_left fun p _ => ?_
    show (if p.1.nk = some k then (p.1, z) else p).1.nk = p.1.nk
    split <;> rfl
  · rw [if_neg (by simpa using hk), if_neg hk]
    refine ⟨by rw [List.map_append, List.map_append, h.1]; simp [e], ?_⟩
    have := insK_nd (k := k) h.2
    unfold insK at this
    rwa [if_neg hk] at this
def IsMex (U : Int → Prop) (m : Int) : Prop := 0 ≤ m ∧ ¬ U m ∧ ∀ j, 0 ≤ j → j < m → U j
theorem IsMex.congr {U U' : Int → Prop} {m : Int} (h : IsMex U m) (e : ∀ j, U j ↔ U' j) : IsMex U' m := ⟨h.1, fun z => h.2.1 ((e m).mpr z), fun j h0 h1 => (e j).mp (h.2.2 j h0 h1)⟩
theorem IsMex.le {U : Int → Prop} {m : Int} (h : IsMex U m) (xs : List Int) (hx : ∀ j, U j → j ∈ xs) : m ≤ xs.length := by
  have h0 := h.1
  have : ∀ (k : Nat) (xs : List Int), (∀ j : Int, 0 ≤ j → j < (k : Int) → j ∈ xs) → k ≤ xs.length := by
    intro k
    induction k with
    | zero => intro xs _; exact Nat.zero_le _
    | succ k ih =>
      intro xs hh
      have h1 := ih (xs.erase (k : Int)) fun j j0 j1 => (List.mem_erase_of_ne (by omega)).mpr (hh j j0 (by omega))
      have h2 := hh (k : Int) (by omega) (by omega)
      rw [List.length_erase_of_mem h2] at h1
      have := List.length_pos_of_mem h2
      omega
  have := this m.toNat xs fun j j0 j1 => hx j (h.2.2 j j0 (by omega))
  omega
end
end Pu
set_option Elab.async false
set_option linter.all false
set_option maxRecDepth 100000
set_option synthInstance.maxHeartbeats 0
set_option synthInstance.maxSize 100000
namespace Pu
open PySem PySem.Spec PyProof.Rows L2
section
variable {Q : D → Prop} {n i j k e d c m p q : Int} {r s l J a ls : List Int} {ws L : List (List Int)} {x y : Int} {K : D → Prop} {env : PEnv} {dd t : D}
def Thd (n : Int) (ws : List (List Int)) (r : List Int) (e f : Int) : Prop := ∃ d1 d2 d3, ((0 ≤ d1 ∧ d1 < n) ∧ (0 ≤ d2 ∧ d2 < n) ∧ (0 ≤ d3 ∧ d3 < n)) ∧ f = lastIn ws r (lastIn ws r (lastIn ws r e d1) d2) d3
def Used (n : Int) (ws : List (List Int)) (r ls : List Int) (x k : Int) : Prop := ∃ c ∈ W ws x, ∃ f, Thd n ws r (lastOf ws r c) f ∧ 0 ≤ f ∧ Ev r f = x ∧ ls.getD f.toNat 0 = k
end
end Pu
set_option Elab.async false
set_option linter.all false
set_option maxRecDepth 100000
set_option synthInstance.maxHeartbeats 0
set_option synthInstance.maxSize 100000
namespace Pu
open PySem PySem.Spec PyProof.Rows L2
section
variable {Q : D → Prop} {n i j k e d c m p q : Int} {r s l J a ls ls' : List Int} {ws L : List (List Int)} {x y : Int} {K : D → Prop} {env : PEnv} {dd t : D}
end
end Pu
set_option Elab.async false
set_option linter.all false
set_option maxRecDepth 100000
set_option synthInstance.maxHeartbeats 0
set_option synthInstance.maxSize 100000
namespace Pu
open PySem PySem.Spec PyProof.Rows L2
section
variable {Q : D → Prop} {n i j k e d c m p q : Int} {r s l J a ls ls' : List Int} {ws L : List (List Int)} {x y : Int} {K : D → Prop} {env : PEnv} {dd t : D}
def Labs (n : Int) (ws : List (List Int)) (r ls : List Int) : Prop := ls.length = r.length ∧ ∀ (p : Nat) (x : Int), r[p]? = some x → IsMex (Used n ws (r.take p) (ls.take p) x) (ls.getD p 0)
theorem Labs.nil : Labs n ws [] [] := ⟨rfl, fun p x h => nomatch h⟩
theorem Labs.snoc (h : Labs n ws r ls) (hm : IsMex (Used n ws r ls x) m) : Labs n ws (r ++ [x]) (ls ++ [m]) := by
  refine ⟨by simp [h.1], fun p y hp => ?_⟩
  have hl := (List.getElem?_eq_some_iff.mp hp).1
  simp at hl
  by_cases e : p < r.length
  · rw [List.take_append_of_le_length (by omega), List.take_append_of_le_length (by rw [h.1]; omega), List.getD_eq_getElem?_getD, List.getElem?_append_left (by rw [h.1]; omega), ← List.getD_eq_getElem?_getD]
    exact h.2 p y (by rw [List.getElem?_append_left e] at hp; exact hp)
  · have ep : p = r.length := by omega
    subst ep
    rw [List.getElem?_append_right (Nat.le_refl _), Nat.sub_self] at hp
    cases hp
    rw [List.take_left, List.take_left' h.1, List.getD_eq_getElem?_getD, List.getElem?_append_right (by rw [h.1]; exact Nat.le_refl _), h.1, Nat.sub_self]
    exact hm
theorem Labs.take (h : Labs n ws r ls) (k : Nat) : Labs n ws (r.take k) (ls.take k) := by
  refine ⟨by simp [h.1], fun p x hp => ?_⟩
  rw [List.getElem?_take] at hp
  split at hp
  · rename_i hk
    rw [List.take_take, List.take_take, Nat.min_eq_left (by omega), List.getD_eq_getElem?_getD, List.getElem?_take, if_pos hk, ← List.getD_eq_getElem?_getD]
    exact h.2 p x hp
  · cases hp
end
end Pu
set_option Elab.async false
set_option linter.all false
set_option maxRecDepth 100000
set_option synthInstance.maxHeartbeats 0
set_option synthInstance.maxSize 100000
namespace Pu
open PySem PySem.Spec PyProof.Rows L2
section
variable {Q : D → Prop} {n i j k e d c m p q : Int} {r s l J a lot : List Int} {ws : List (List Int)} {x y : Int} {K : D → Prop} {env : PEnv} {dd t P : D} {ls : List D}
end
end Pu
set_option Elab.async false
set_option linter.all false
set_option maxRecDepth 100000
set_option synthInstance.maxHeartbeats 0
set_option synthInstance.maxSize 100000
namespace Pu
open PySem PySem.Spec PyProof.Rows L2
section
variable {Q : D → Prop} {n i j k e d c m p q : Int} {r s l J a ls ls' : List Int} {ws L : List (List Int)} {x y : Int} {K : D → Prop} {env : PEnv} {dd t : D}
end
end Pu
set_option Elab.async false
set_option linter.all false
set_option maxRecDepth 100000
set_option synthInstance.maxHeartbeats 0
set_option synthInstance.maxSize 100000
namespace Pu
open PySem PySem.Spec PyProof.Rows L2
section
variable {Q : D → Prop} {n i j k e d c m p q f : Int} {r s l J a ls ls' u v lu lv : List Int} {ws L : List (List Int)} {x y lx ly : Int} {K : D → Prop} {env : PEnv} {dd t : D}
theorem apart_ne (ha : meetsF ws x y = false) (h1 : d ∈ W ws x) (h2 : d ∈ W ws y) : False := by
  rw [meets_of' h1 h2] at ha; cases ha
end
end Pu
set_option Elab.async false
set_option linter.all false
set_option maxRecDepth 100000
set_option synthInstance.maxHeartbeats 0
set_option synthInstance.maxSize 100000
namespace Pu
open PySem PySem.Spec PyProof.Rows L2
section
variable {Q : D → Prop} {n i j k e d c m p q f : Int} {r s l J a ls ls' u v lu lv : List Int} {ws L : List (List Int)} {x y lx ly : Int} {K : D → Prop} {env : PEnv} {dd t : D}
end
end Pu
set_option Elab.async false
set_option linter.all false
set_option maxRecDepth 100000
set_option synthInstance.maxHeartbeats 0
set_option synthInstance.maxSize 100000
namespace Pu
open PySem PySem.Spec PyProof.Rows L2
section
variable {Q : D → Prop} {n i j k e d c m p q f g A B : Int} {r s l J a ls ls' u v lu lv : List Int} {ws L : List (List Int)} {x y lx ly : Int} {K : D → Prop} {env : PEnv} {dd t : D}
end
end Pu
set_option Elab.async false
set_option linter.all false
set_option maxRecDepth 100000
set_option synthInstance.maxHeartbeats 0
set_option synthInstance.maxSize 100000
namespace Pu
open PySem PySem.Spec PyProof.Rows L2
section
variable {Q : D → Prop} {n i j k e d c m p q f g A B b : Int} {r s l J a ls ls' u v lu lv : List Int} {ws L : List (List Int)} {x y lx ly : Int} {K : D → Prop} {env : PEnv} {dd t : D}
end
end Pu
set_option Elab.async false
set_option linter.all false
set_option maxRecDepth 100000
set_option synthInstance.maxHeartbeats 0
set_option synthInstance.maxSize 100000
namespace Pu
open PySem PySem.Spec PyProof.Rows L2
section
variable {Q : D → Prop} {n i j k e d c m p q f g A B b : Int} {r s l J a ls ls' u v lu lv : List Int} {ws L : List (List Int)} {x y lx ly : Int} {K : D → Prop} {env : PEnv} {dd t P : D}
end
end Pu
set_option Elab.async false
set_option linter.all false
set_option maxRecDepth 100000
set_option synthInstance.maxHeartbeats 0
set_option synthInstance.maxSize 100000
namespace Pu
open PySem PySem.Spec PyProof.Rows L2
section
variable {Q : D → Prop} {n i j k e d c m p q f g A B b : Int} {r s l J a ls ls' u v T S : List Int} {ws L : List (List Int)} {x y : Int} {K : D → Prop} {env : PEnv} {dd t : D} {acc : List (Key × D)} {labs : List D} {p' : List Int}
end
end Pu
set_option Elab.async false
set_option linter.all false
set_option maxRecDepth 100000
set_option synthInstance.maxHeartbeats 0
set_option synthInstance.maxSize 100000
namespace Pu
open PySem PySem.Spec PyProof.Rows L2
section
variable {Q : D → Prop} {n i j k e d c m p q f g A B b : Int} {r s l J a ls ls' u v T S : List Int} {ws L X Y K1 : List (List Int)} {x y : Int} {K : D → Prop} {env : PEnv} {dd t : D} {p' : List Int}
def ledF (st : List (List Int)) (s : Int) (row : List Int) : Int := row.foldl (fun s w => (st.getD s.toNat []).getD w.toNat 0) s
def StOk (m : Nat) (st : List (List Int)) : Prop := st.length ≤ 12 ∧ ∀ l ∈ st, l.length = m ∧ ∀ x ∈ l, 0 ≤ x ∧ x < (st.length : Int)
end
end Pu
set_option Elab.async false
set_option linter.all false
set_option maxRecDepth 100000
set_option synthInstance.maxHeartbeats 0
set_option synthInstance.maxSize 100000
namespace Pu
open PySem PySem.Spec PyProof.Rows L2
section
variable {n i j k e d c m p q f g A B b P : Int} {r s l J a ls h v M T S va vb : List Int} {ws L X Y K1 : List (List Int)} {x y : Int}
def updS : List Int → List Int → List Int → List Int
  | h, d :: l, x :: v => updS (h.set d.toNat x) l v
  | h, _, _ => h
def prjS (h l : List Int) : List Int := l.map fun d => h.getD d.toNat 0
theorem updS_len : ∀ {l v h : List Int}, (updS h l v).length = h.length
  | [], _, h => by rw [updS]; intro d l x v e; cases e
  | _ :: _, [], h => by rw [updS]; intro d l x v _ e; cases e
  | d :: l, x :: v, h => by rw [updS, updS_len, List.length_set]
theorem updS_out : ∀ {l v h : List Int} {c : Int}, 0 ≤ c → (∀ d ∈ l, 0 ≤ d) → c ∉ l → (updS h l v).getD c.toNat 0 = h.getD c.toNat 0
  | [], _, h, c, _, _, _ => by rw [updS]; intro d l x v e; cases e
  | _ :: _, [], h, c, _, _, _ => by rw [updS]; intro d l x v _ e; cases e
  | d :: l, x :: v, h, c, c0, l0, hc => by
    have d0 := l0 d List.mem_cons_self
    rw [updS, updS_out c0 (fun z hz => l0 z (List.mem_cons_of_mem _ hz)) (fun z => hc (List.mem_cons_of_mem _ z))]
    rw [List.getD_eq_getElem?_getD, List.getD_eq_getElem?_getD, List.getElem?_set_ne (fun z => hc (by
      have : d = c := by omega
      rw [this]; exact List.mem_cons_self))]
theorem set_updS : ∀ {l v h : List Int} {c y : Int}, 0 ≤ c → (∀ d ∈ l, 0 ≤ d) → c ∉ l → updS (h.set c.toNat y) l v = (updS h l v).set c.toNat y
  | [], _, h, c, y, _, _, _ => by rw [updS, updS] <;> (intro d l x v e; cases e)
  | _ :: _, [], h, c, y, _, _, _ => by rw [updS, updS] <;> (intro d l x v _ e; cases e)
  | d :: l, x :: v, h, c, y, c0, l0, hc => by
    have d0 := l0 d List.mem_cons_self
    have ne : c.toNat ≠ d.toNat := fun z => hc (by
      have : c = d := by omega
      rw [this]; exact List.mem_cons_self)
    rw [updS, updS, List.set_comm _ _ ne, set_updS c0 (fun z hz => l0 z (List.mem_cons_of_mem _ hz)) (fun z => hc (List.mem_cons_of_mem _ z))]
theorem updS_comm : ∀ {l v h a w : List Int}, (∀ d ∈ l, 0 ≤ d) → (∀ d ∈ a, 0 ≤ d) → (∀ d ∈ l, d ∉ a) → updS (updS h l v) a w = updS (updS h a w) l v
  | [], _, h, a, w, _, _, _ => by
    have : ∀ {h v : List Int}, updS h [] v = h := fun {h v} => by rw [updS]; intro d l x v e; cases e
    rw [this, this]
  | _ :: _, [], h, a, w, _, _, _ => by
    have : ∀ {h l : List Int}, updS h l [] = h := fun {h l} => by rw [updS]; intro d l x v _ e; cases e
    rw [this, this]
  | d :: l, x :: v, h, a, w, l0, a0, dj => by
    have d0 := l0 d List.mem_cons_self
    rw [updS, updS, updS_comm (fun z hz => l0 z (List.mem_cons_of_mem _ hz)) a0 (fun z hz => dj z (List.mem_cons_of_mem _ hz)), set_updS d0 a0 (dj d List.mem_cons_self)]
theorem prj_upd (l0 : ∀ d ∈ l, 0 ≤ d) (a0 : ∀ d ∈ a, 0 ≤ d) (dj : ∀ d ∈ l, d ∉ a) : prjS (updS h l v) a = prjS h a :=
  List.map_congr_left fun d hd => updS_out (a0 d hd) l0 fun z => dj d z hd
def InB (M h : List Int) : Prop := h.length = M.length ∧ ∀ k : Nat, k < M.length → 0 ≤ h.getD k 0 ∧ h.getD k 0 < M.getD k 0
theorem inB_set (hb : InB M h) (x0 : 0 ≤ x) (x1 : x < M.getD d.toNat 0) : InB M (h.set d.toNat x) := by
  refine ⟨by rw [List.length_set, hb.1], fun k hk => ?_⟩
  have e := hb.1
  by_cases z : d.toNat = k
  · subst z
    rw [List.getD_eq_getElem?_getD, List.getElem?_set_self (by omega)]
    exact ⟨x0, x1⟩
  · rw [List.getD_eq_getElem?_getD, List.getElem?_set_ne z, ← List.getD_eq_getElem?_getD]
    exact hb.2 k hk
def ValOk (M : List Int) : List Int → List Int → Prop
  | d :: l, x :: v => (0 ≤ x ∧ x < M.getD d.toNat 0) ∧ ValOk M l v
  | [], [] => True
  | _, _ => False
theorem inB_upd : ∀ {l v h : List Int}, InB M h → ValOk M l v → InB M (updS h l v)
  | [], [], h, hb, _ => by
    have : updS h [] [] = h := by rw [updS]; intro d l x v e; cases e
    rw [this]; exact hb
  | [], _ :: _, _, _, hv => hv.elim
  | _ :: _, [], _, _, hv => hv.elim
  | d :: l, x :: v, h, hb, hv => by
    rw [updS]
    exact inB_upd (inB_set hb hv.1.1 hv.1.2) hv.2
def boxL : List Int → List (List Int)
  | [] => [[]]
  | m :: M => ((rangeI m).map fun x => (boxL M).map fun h => x :: h).flatten
def prodL : List Int → Int
  | [] => 1
  | m :: M => m * prodL M
theorem prodL_pos : ∀ {M : List Int}, (∀ x ∈ M, 1 ≤ x) → 1 ≤ prodL M
  | [], _ => Int.le_refl 1
  | m :: M, hm => by
    have h1 := hm m List.mem_cons_self
    have h2 := prodL_pos fun x hx => hm x (List.mem_cons_of_mem _ hx)
    rw [prodL]
    have := Int.mul_le_mul h1 h2 (by omega) (by omega)
    omega
theorem boxL_len : ∀ {M : List Int}, (∀ x ∈ M, 1 ≤ x) → ((boxL M).length : Int) = prodL M
  | [], _ => rfl
  | m :: M, hm => by
    have h1 := hm m List.mem_cons_self
    have ih := boxL_len (M := M) fun x hx => hm x (List.mem_cons_of_mem _ hx)
    rw [boxL, prodL, ← ih]
    have : ∀ u : List Int, ((u.map fun x => (boxL M).map fun h => x :: h).flatten).length = u.length * (boxL M).length := fun u => by
      induction u with
      | nil => simp
      | cons a u ihu => rw [List.map_cons, List.flatten_cons, List.length_append, ihu, List.length_map, List.length_cons, Nat.add_mul, Nat.one_mul, Nat.add_comm]
    rw [this, rangeI_len, Int.natCast_mul, Int.toNat_of_nonneg (by omega)]
theorem mem_boxL : ∀ {M h : List Int}, InB M h → h ∈ boxL M
  | [], h, hb => by
    have : h = [] := List.eq_nil_of_length_eq_zero hb.1
    rw [this]; exact List.mem_singleton.mpr rfl
  | m :: M, [], hb => by have := hb.1; simp at this
  | m :: M, x :: h, hb => by
    have h0 := hb.2 0 (by simp)
    simp only [List.getD_cons_zero] at h0
    refine List.mem_flatten.mpr ⟨_, List.mem_map.mpr ⟨x, mem_rangeI.mpr h0, rfl⟩, List.mem_map.mpr ⟨h, mem_boxL ⟨by have := hb.1; simpa using this, fun k hk => ?_⟩, rfl⟩⟩
    have := hb.2 (k + 1) (by simp; omega)
    simpa using this
theorem nodup_le53 {α : Type} [DecidableEq α] : ∀ {S B : List α}, S.Nodup → (∀ x ∈ S, x ∈ B) → S.length ≤ B.length
  | [], B, _, _ => Nat.zero_le _
  | x :: S, B, nd, hs => by
    obtain ⟨n1, n2⟩ := List.nodup_cons.mp nd
    have hx := hs x List.mem_cons_self
    have := nodup_le53 (S := S) (B := B.erase x) n2 fun y hy => (List.mem_erase_of_ne fun e => by subst e; exact n1 hy).mpr (hs y (List.mem_cons_of_mem _ hy))
    rw [List.length_erase_of_mem hx] at this
    have : 0 < B.length := List.length_pos_of_mem hx
    rw [List.length_cons]
    omega
theorem box_le {S : List (List Int)} (hM : ∀ x ∈ M, 1 ≤ x) (nd : S.Nodup) (hb : ∀ h ∈ S, InB M h) : (S.length : Int) ≤ prodL M := by
  have := nodup_le53 nd fun h hh => mem_boxL (hb h hh)
  rw [← boxL_len hM]
  omega
theorem prod_set : ∀ {M : List Int} {k : Nat} {y : Int}, k < M.length → ∃ c, prodL M = M.getD k 0 * c ∧ prodL (M.set k y) = y * c
  | [], k, y, h => by simp at h
  | m :: M, 0, y, h => ⟨prodL M, by simp [prodL], by simp [prodL]⟩
  | m :: M, k + 1, y, h => by
    obtain ⟨c, h1, h2⟩ := prod_set (M := M) (k := k) (y := y) (by simpa using h)
    refine ⟨m * c, ?_, ?_⟩
    · rw [prodL, h1, List.getD_cons_succ]
      rw [← Int.mul_assoc, ← Int.mul_assoc, Int.mul_comm m]
    · rw [List.set_cons_succ, prodL, h2, ← Int.mul_assoc, ← Int.mul_assoc, Int.mul_comm m]
end
end Pu
set_option Elab.async false
set_option linter.all false
set_option maxRecDepth 100000
set_option synthInstance.maxHeartbeats 0
set_option synthInstance.maxSize 100000
namespace Pu
open PySem PySem.Spec PyProof.Rows L2
section
variable {Q : D → Prop} {n i j k e d c m p q f g A B b P : Int} {r s l J a ls h v M T va vb : List Int} {ws L X Y K1 S : List (List Int)} {x y w : Int} {kds : List (D × D)} {env : PEnv} {dd : D}
theorem first_at53 : ∀ {S : List (List Int)}, l ∈ S → ∃ j : Nat, S[j]? = some l ∧ ∀ k z, k < j → S[k]? = some z → z ≠ l
  | x :: S, h => by
    by_cases e : x = l
    · exact ⟨0, by rw [e]; rfl, fun k z hk => absurd hk (Nat.not_lt_zero k)⟩
    · rcases List.mem_cons.mp h with z | z
      · exact absurd z.symm e
      · obtain ⟨j, h1, h2⟩ := first_at53 z
        refine ⟨j + 1, h1, fun k z hk hz => ?_⟩
        cases k with
        | zero => cases hz; exact e
        | succ k => exact h2 k z (by omega) hz
theorem y_idxRows {i : Nat} {mx : X1} (he : env[i]? = some (some (.lst (rowsD S)))) (hm : ∀ R : D → Prop, R (rD l) → mx env R) (hl : l ∈ S) (q : ∀ j : Nat, S[j]? = some l → Q (.int (j : Nat))) : xIdx i mx env Q := by
  unfold xIdx xVar
  rw [he]
  refine hm _ ?_
  obtain ⟨j, h1, h2⟩ := first_at53 hl
  refine ⟨sh_rows S, sh_ints l, j, rD l, by unfold rowsD; rw [List.getElem?_map, h1]; rfl, by rw [eqb_rD]; exact decide_eq_true rfl, fun k z hk hz => ?_, q j h1⟩
  unfold rowsD at hz
  rw [List.getElem?_map] at hz
  cases e : S[k]? with
  | none => rw [e] at hz; cases hz
  | some y =>
    rw [e] at hz
    cases hz
    show D.eqb (rD y) (rD l) = false
    rw [eqb_rD]
    exact decide_eq_false (h2 k y hk e)
def kyN (w : Int) (l : List Int) : NestedKey := .tup [.num w, .tup (l.map .num)]
theorem nkL_ints : ∀ l : List Int, nkL (dInts l) = some (l.map NestedKey.num)
  | [] => by simp [dInts, nkL]
  | x :: l => by
    have ih := nkL_ints l
    show nkL (.int x :: dInts l) = _
    simp [nkL, D.nk, ih]
theorem ky_nk : (D.tup [.int w, rD l]).nk = some (kyN w l) := by
  have e1 : (rD l).nk = some (.tup (l.map NestedKey.num)) := by
    show (D.tup (dInts l)).nk = _
    simp [D.nk, nkL_ints]
  simp [D.nk, nkL, e1, kyN]
theorem ky_inj {w' : Int} {l' : List Int} (h : kyN w l = kyN w' l') : w = w' ∧ l = l' := by
  unfold kyN at h
  injection h with h
  injection h with h1 h2
  injection h1 with h1
  injection h2 with h2 _
  injection h2 with h2
  exact ⟨h1, (List.map_inj_right fun x y e => by injection e).mp h2⟩
structure MV (kds : List (D × D)) (f : Int → List Int → Option (List Int)) (N : Nat) : Prop where
  nd : (kds.map fun p => p.1.nk).Nodup
  len : kds.length ≤ N
  look : ∀ w l, lookN kds (kyN w l) = (f w l).map fun v => .lst (dInts v)
theorem MV.nil : MV [] (fun _ _ => none) 0 := ⟨List.nodup_nil, Nat.le_refl _, fun w l => rfl⟩
def mvSet (f : Int → List Int → Option (List Int)) (w : Int) (l v : List Int) : Int → List Int → Option (List Int) := fun w' l' => if w' = w ∧ l' = l then some v else f w' l'
theorem look_app {kd : D × D} {k : NestedKey} : lookN (kds ++ [kd]) k = (match lookN kds k with | some x => some x | none => if kd.1.nk = some k then some kd.2 else none) := by
  unfold lookN
  rw [List.find?_append]
  cases e : kds.find? (fun kd => decide (kd.1.nk = some k)) with
  | some x => rfl
  | none =>
    by_cases h : kd.1.nk = some k
    · rw [if_pos h]; simp [h]
    · rw [if_neg h]; simp [h]
theorem MV.put {f : Int → List Int → Option (List Int)} {N : Nat} (h : MV kds f N) (hn : f w l = none) : MV (putN kds (kyN w l) (.tup [.int w, rD l]) (.lst (dInts v))) (mvSet f w l v) (N + 1) := by
  have e0 : lookN kds (kyN w l) = none := by rw [h.look, hn]; rfl
  have e1 : putN kds (kyN w l) (.tup [.int w, rD l]) (.lst (dInts v)) = kds ++ [(.tup [.int w, rD l], .lst (dInts v))] := by
    unfold putN
    rw [e0]
    rfl
  rw [e1]
  refine ⟨?_, by rw [List.length_append]; have := h.len; simp; omega, fun w' l' => ?_⟩
  · rw [List.map_append]
    refine List.nodup_append.mpr ⟨h.nd, by simp, fun a ha b hb e => ?_⟩
    rw [List.map_singleton, List.mem_singleton] at hb
    obtain ⟨p, hp, ep⟩ := List.mem_map.mp ha
    unfold lookN at e0
    rw [Option.map_eq_none_iff] at e0
    have := List.find?_eq_none.mp e0 p hp
    rw [ep, e, hb, ky_nk] at this
    exact this (decide_eq_true rfl)
  · rw [look_app, ky_nk]
    unfold mvSet
    by_cases z : w' = w ∧ l' = l
    · obtain ⟨z1, z2⟩ := z
      subst z1; subst z2
      rw [if_pos (And.intro rfl rfl), e0]
      simp
    · rw [if_neg z, h.look]
      cases f w' l' with
      | some x => rfl
      | none =>
        show (if some (kyN w l) = some (kyN w' l') then _ else none) = none
        rw [if_neg]
        intro e
        obtain ⟨a1, a2⟩ := ky_inj (Option.some.inj e)
        exact z ⟨a1.symm, a2.symm⟩
end
end Pu
set_option Elab.async false
set_option linter.all false
set_option maxRecDepth 100000
set_option synthInstance.maxHeartbeats 0
set_option synthInstance.maxSize 100000
namespace Pu
open PySem PySem.Spec PyProof.Rows L2
section
variable {Q : D → Prop} {n i j k e d c m p q f g A B b P : Int} {r s l J a ls h v M T va vb : List Int} {ws L X Y K1 S st : List (List Int)} {x y w : Int} {kds : List (D × D)} {env : PEnv} {dd : D} {F : Int → List Int → Option (List Int)}
structure EI (ws : List (List Int)) (M : List Int) (S st : List (List Int)) (F : Int → List Int → Option (List Int)) : Prop where
  nd : S.Nodup
  inb : ∀ h ∈ S, InB M h
  ne : 1 ≤ S.length
  le : st.length ≤ S.length
  val : ∀ w l v, F w l = some v → 0 ≤ w → w < (ws.length : Int) → ValOk M (W ws w) v
  stp : ∀ (s : Nat) (row : List Int), st[s]? = some row → row.length = ws.length ∧ ∀ w, 0 ≤ w → w < (ws.length : Int) → ∃ h v, ∃ j : Nat, S[s]? = some h ∧ F w (prjS h (W ws w)) = some v ∧ S[j]? = some (updS h (W ws w) v) ∧ row.getD w.toNat 0 = (j : Int)
def Evn (ws st : List (List Int)) : Prop := ∀ a b, (0 ≤ a ∧ a < (ws.length : Int)) → (0 ≤ b ∧ b < (ws.length : Int)) → meetsF ws a b = false → ∀ s, 0 ≤ s → s < (st.length : Int) → (st.getD ((st.getD s.toNat []).getD a.toNat 0).toNat []).getD b.toNat 0 = (st.getD ((st.getD s.toNat []).getD b.toNat 0).toNat []).getD a.toNat 0
def GI (ws S : List (List Int)) (F : Int → List Int → Option (List Int)) (h G : List Int) (p : Nat) : Prop := G.length = p ∧ ∀ w, 0 ≤ w → w < (p : Int) → ∃ v, ∃ j : Nat, F w (prjS h (W ws w)) = some v ∧ S[j]? = some (updS h (W ws w) v) ∧ G.getD w.toNat 0 = (j : Int)
theorem mvSet_ext (hn : F w l = none) {w' : Int} {l' v' : List Int} (h : F w' l' = some v') : mvSet F w l v w' l' = some v' := by
  unfold mvSet
  rw [if_neg]
  · exact h
  · rintro ⟨rfl, rfl⟩
    rw [hn] at h; cases h
theorem get_app {t : List Int} {k : Nat} (h : S[k]? = some l) : (S ++ [t])[k]? = some l := by
  rw [List.getElem?_append_left (List.getElem?_eq_some_iff.mp h).1]
  exact h
theorem EI.mv (ei : EI ws M S st F) (hn : F w l = none) (hv : ValOk M (W ws w) v) : EI ws M S st (mvSet F w l v) := by
  refine ⟨ei.nd, ei.inb, ei.ne, ei.le, fun w' l' v' h h0 h1 => ?_, fun s row hs => ?_⟩
  · unfold mvSet at h
    split at h
    · rename_i z
      obtain ⟨z1, z2⟩ := z
      subst z1
      cases h
      exact hv
    · exact ei.val w' l' v' h h0 h1
  · obtain ⟨a1, a2⟩ := ei.stp s row hs
    refine ⟨a1, fun w' h0 h1 => ?_⟩
    obtain ⟨h, v', j, b1, b2, b3, b4⟩ := a2 w' h0 h1
    exact ⟨h, v', j, b1, mvSet_ext hn b2, b3, b4⟩
theorem EI.push {t : List Int} (ei : EI ws M S st F) (ht : t ∉ S) (hb : InB M t) : EI ws M (S ++ [t]) st F := by
  refine ⟨List.nodup_append.mpr ⟨ei.nd, by simp, fun a ha b hb e => by rw [List.mem_singleton.mp hb] at e; exact ht (e ▸ ha)⟩, fun h hh => ?_, by rw [List.length_append]; have := ei.ne; omega, by rw [List.length_append]; have := ei.le; omega, ei.val, fun s row hs => ?_⟩
  · rcases List.mem_append.mp hh with z | z
    · exact ei.inb h z
    · rw [List.mem_singleton.mp z]; exact hb
  · obtain ⟨a1, a2⟩ := ei.stp s row hs
    refine ⟨a1, fun w' h0 h1 => ?_⟩
    obtain ⟨h, v', j, b1, b2, b3, b4⟩ := a2 w' h0 h1
    exact ⟨h, v', j, get_app b1, b2, get_app b3, b4⟩
theorem EI.row {G : List Int} (ei : EI ws M S st F) (hh : S[st.length]? = some h) (gi : GI ws S F h G ws.length) : EI ws M S (st ++ [G]) F := by
  have lt := (List.getElem?_eq_some_iff.mp hh).1
  refine ⟨ei.nd, ei.inb, ei.ne, by rw [List.length_append, List.length_singleton]; omega, ei.val, fun s row hs => ?_⟩
  by_cases z : s < st.length
  · rw [List.getElem?_append_left z] at hs
    exact ei.stp s row hs
  · have sl : s < (st ++ [G]).length := (List.getElem?_eq_some_iff.mp hs).1
    rw [List.length_append, List.length_singleton] at sl
    have es : s = st.length := by omega
    subst es
    rw [List.getElem?_append_right (Nat.le_refl _), Nat.sub_self] at hs
    cases hs
    refine ⟨gi.1, fun w h0 h1 => ?_⟩
    obtain ⟨v, j, a1, a2, a3⟩ := gi.2 w h0 h1
    exact ⟨h, v, j, hh, a1, a2, a3⟩
theorem GI.mv {G : List Int} {p : Nat} (gi : GI ws S F h G p) (hn : F w l = none) : GI ws S (mvSet F w l v) h G p := ⟨gi.1, fun w' h0 h1 => by
  obtain ⟨v', j, a1, a2, a3⟩ := gi.2 w' h0 h1
  exact ⟨v', j, mvSet_ext hn a1, a2, a3⟩⟩
theorem GI.push {G t : List Int} {p : Nat} (gi : GI ws S F h G p) : GI ws (S ++ [t]) F h G p := ⟨gi.1, fun w' h0 h1 => by
  obtain ⟨v', j, a1, a2, a3⟩ := gi.2 w' h0 h1
  exact ⟨v', j, a1, get_app a2, a3⟩⟩
theorem GI.snoc {G : List Int} {p j : Nat} (gi : GI ws S F h G p) (hf : F (p : Int) (prjS h (W ws (p : Int))) = some v) (hj : S[j]? = some (updS h (W ws (p : Int)) v)) : GI ws S F h (G ++ [(j : Int)]) (p + 1) := by
  have gl := gi.1
  refine ⟨by rw [List.length_append, gl]; rfl, fun w h0 h1 => ?_⟩
  by_cases z : w < (p : Int)
  · obtain ⟨v', j', a1, a2, a3⟩ := gi.2 w h0 z
    refine ⟨v', j', a1, a2, ?_⟩
    rw [List.getD_eq_getElem?_getD, List.getElem?_append_left (by omega), ← List.getD_eq_getElem?_getD]
    exact a3
  · have e : w = (p : Int) := by omega
    subst e
    refine ⟨v, j, hf, hj, ?_⟩
    rw [Int.toNat_natCast, List.getD_eq_getElem?_getD, List.getElem?_append_right (by omega), gl, Nat.sub_self]
    rfl
theorem valOk_len : ∀ {l v : List Int}, ValOk M l v → v.length = l.length
  | [], [], _ => rfl
  | [], _ :: _, h => h.elim
  | _ :: _, [], h => h.elim
  | _ :: _, _ :: _, h => by rw [List.length_cons, List.length_cons, valOk_len h.2]
theorem updS_nil {h v : List Int} : updS h [] v = h := by rw [updS]; intro d l x v e; cases e
theorem updS_snoc : ∀ {l v h : List Int}, l.length = v.length → updS h (l ++ [d]) (v ++ [x]) = (updS h l v).set d.toNat x
  | [], [], h, _ => by
    rw [List.nil_append, List.nil_append, updS, updS_nil, updS_nil]
  | [], _ :: _, _, e => by simp at e
  | _ :: _, [], _, e => by simp at e
  | a :: l, b :: v, h, e => by
    rw [List.cons_append, List.cons_append, updS, updS, updS_snoc (by simpa using e)]
theorem valOk_of : ∀ {l v : List Int}, v.length = l.length → (∀ (j : Nat) (a b : Int), l[j]? = some a → v[j]? = some b → 0 ≤ b ∧ b < M.getD a.toNat 0) → ValOk M l v
  | [], [], _, _ => True.intro
  | [], _ :: _, e, _ => by simp at e
  | _ :: _, [], e, _ => by simp at e
  | a :: l, b :: v, e, h => ⟨h 0 a b rfl rfl, valOk_of (by simpa using e) fun j x y hx hy => h (j + 1) x y hx hy⟩
theorem M_rng (pM : ∀ x ∈ M, 1 ≤ x) (P12 : prodL M ≤ 12) {k : Nat} (hk : k < M.length) : 1 ≤ M.getD k 0 ∧ M.getD k 0 ≤ 12 := by
  obtain ⟨y, hy⟩ : ∃ y, M.getD k 0 = y := ⟨_, rfl⟩
  have y1 : 1 ≤ y := by
    rw [← hy, List.getD_eq_getElem?_getD, List.getElem?_eq_getElem hk]
    exact pM _ (List.getElem_mem _)
  obtain ⟨c, c1, c2⟩ := prod_set (M := M) (k := k) (y := y + 1) hk
  rw [hy] at c1 ⊢
  have P1 := prodL_pos pM
  have cp : 0 < c := by
    apply Classical.byContradiction
    intro hc
    have := Int.mul_le_mul_of_nonneg_left (show c ≤ 0 by omega) (show 0 ≤ y by omega)
    rw [Int.mul_zero] at this
    omega
  have := Int.mul_le_mul_of_nonneg_left (show 1 ≤ c by omega) (show 0 ≤ y by omega)
  omega
theorem EI.at (ei : EI ws M S st F) {s : Int} (h0 : 0 ≤ s) (h1 : s < (st.length : Int)) (w0 : 0 ≤ w) (w1 : w < (ws.length : Int)) : ∃ h v, ∃ j : Nat, S[s.toNat]? = some h ∧ F w (prjS h (W ws w)) = some v ∧ S[j]? = some (updS h (W ws w) v) ∧ (st.getD s.toNat []).getD w.toNat 0 = (j : Int) := by
  have e : st[s.toNat]? = some (st.getD s.toNat []) := by rw [List.getD_eq_getElem?_getD, List.getElem?_eq_getElem (show s.toNat < st.length by omega)]; rfl
  exact (ei.stp _ _ e).2 w w0 w1
theorem EI.stOk (ei : EI ws M S st F) (es : S.length = st.length) (h12 : st.length ≤ 12) : StOk ws.length st := by
  refine ⟨h12, fun l hl => ?_⟩
  obtain ⟨s, hs⟩ := List.mem_iff_getElem?.mp hl
  obtain ⟨a1, a2⟩ := ei.stp s l hs
  refine ⟨a1, fun x hx => ?_⟩
  obtain ⟨w, hw⟩ := List.mem_iff_getElem?.mp hx
  have wl := (List.getElem?_eq_some_iff.mp hw).1
  obtain ⟨h, v, j, b1, b2, b3, b4⟩ := a2 (w : Int) (by omega) (by omega)
  rw [Int.toNat_natCast, List.getD_eq_getElem?_getD, hw] at b4
  have b4 : x = (j : Int) := b4
  have := (List.getElem?_eq_some_iff.mp b3).1
  omega
theorem EI.even (ei : EI ws M S st F) (hW : WsOk n ws) (es : S.length = st.length) : Evn ws st := by
  intro a b ha hb hm s s0 s1
  obtain ⟨h, va, i, b1, b2, b3, b4⟩ := ei.at s0 s1 ha.1 ha.2
  obtain ⟨h', vb, k, c1, c2, c3, c4⟩ := ei.at s0 s1 hb.1 hb.2
  rw [b1] at c1
  cases c1
  have il := (List.getElem?_eq_some_iff.mp b3).1
  have kl := (List.getElem?_eq_some_iff.mp c3).1
  rw [b4, c4, Int.toNat_natCast, Int.toNat_natCast]
  obtain ⟨h1, vb', j1, d1, d2, d3, d4⟩ := ei.at (s := (i : Int)) (by omega) (by omega) hb.1 hb.2
  obtain ⟨h2, va', j2, e1, e2, e3, e4⟩ := ei.at (s := (k : Int)) (by omega) (by omega) ha.1 ha.2
  rw [Int.toNat_natCast] at d1 d4 e1 e4
  rw [b3] at d1
  rw [c3] at e1
  cases d1
  cases e1
  have la := fun d hd => (lotOk_all (hW.2.2.2.2 _ (w_mem' ha)).1 d hd).1
  have lb := fun d hd => (lotOk_all (hW.2.2.2.2 _ (w_mem' hb)).1 d hd).1
  have dj : ∀ d ∈ W ws a, d ∉ W ws b := fun d h1 h2 => apart_ne hm h1 h2
  rw [prj_upd la lb dj, c2] at d2
  rw [prj_upd lb la (fun d h1 h2 => dj d h2 h1), b2] at e2
  cases d2
  cases e2
  rw [d4, e4]
  have eq := updS_comm (h := h) (v := va) (w := vb) la lb dj
  rw [eq] at d3
  have j1l := (List.getElem?_eq_some_iff.mp d3).1
  have : j1 = j2 := (List.getElem?_inj j1l ei.nd).mp (d3.trans e3.symm)
  rw [this]
theorem setD_l53 {K : D → Prop} (h0 : 0 ≤ c) (h1 : c < (l.length : Int)) (q : K (.lst (dInts (l.set c.toNat x)))) : setD (.lst (dInts l)) (.int c) (.int x) K := by
  show (match ixN (dInts l).length c with | some j => K (.lst ((dInts l).set j (.int x))) | none => False)
  unfold ixN
  rw [if_pos h0, if_pos (by rw [dInts_len]; omega)]
  have : (dInts l).set c.toNat (.int x) = dInts (l.set c.toNat x) := by rw [dInts, dInts, List.map_set]
  show K (.lst ((dInts l).set c.toNat (.int x)))
  rw [this]
  exact q
end
end Pu
set_option Elab.async false
set_option linter.all false
set_option maxRecDepth 100000
set_option synthInstance.maxHeartbeats 0
set_option synthInstance.maxSize 100000
namespace Pu
open PySem PySem.Spec PyProof.Rows L2
section
variable {Q : D → Prop} {n i j k e d c m p q f g A B b P : Int} {r s l J a ls h v M T tl va vb : List Int} {ws L X Y K1 S st : List (List Int)} {x y w : Int} {kds : List (D × D)} {env : PEnv} {dd : D} {F : Int → List Int → Option (List Int)}
def bkD (n : Int) (ws : List (List Int)) (tl : List Int) (st : List (List Int)) : D := .fz 4 [("office", oD n ws), ("telling", rD tl), ("steps", wD st)]
theorem bk_off : atF 4 "office" (bkD n ws tl st) Q = Q (oD n ws) := propext ⟨fun z => z.2, fun z => ⟨rfl, z⟩⟩
theorem bk_st : atF 4 "steps" (bkD n ws tl st) Q = Q (wD st) := propext ⟨fun z => z.2, fun z => ⟨rfl, z⟩⟩
theorem bk_tl : atF 4 "telling" (bkD n ws tl st) Q = Q (rD tl) := propext ⟨fun z => z.2, fun z => ⟨rfl, z⟩⟩
theorem all_below {l : List Int} {m : Int} (hl : l.length ≤ 1000) (h : ∀ x ∈ l, 0 ≤ x ∧ x < m) {me : X1} {env : PEnv} {b : XG} (hb : ∀ x ∈ l, ∀ R : D → Prop, R (.bl true) → b (.int x) env fun env1 => me env1 R) (q : Q (.bl true)) : lcLoop b bYes me env (dInts l) [] fun acc => oAny true (.lst acc) Q := by
  have hs : 100000 ≤ sizeLine := by decide
  refine lc_M (e := D.int) (fun _ => true) D.bl (by omega) (fun x hx R hR => hb x hx R hR) ?_
  rw [ZcC, show (l.map fun _ => true).all id = true by simp]
  exact q
local macro_rules
  | `(tactic| and_intros) => `(tactic| (try simp only [Zaa, Zab, w_c, Zac, Zad, Zae, Zaf, Zag, Zah, Zai, Zaj, Zak, Zal, Zam, Zan, Zao, Zap, Zaq, Zar, Zas, Zat, Zau, Zav, Zaw, Zax, Zay, Zaz, ZaA, ZaB, ZaC, ZaD, ZaE, ZaF, ZaG, ZaH, ZaI, ZaJ, ZaK, ZaL, ZaM, ZaN, ZaO, ZaP, ZaQ, ZaR, ZaS, ZaT, ZaU, ZaV, ZaW, ZaX, ZaY, ZaZ, Za0, Za1, Za2, Za3, Za4, Za5, Za6, Za7, Za8, Za9, Zba, Zbb, Zbc, Zbd, Zbe, Zbf, Zbg, Zbh, Zbi, Zbj, Zbk, Zbl, Zbm, Zbn, Zbo, Zbp, Zbq, Zbr, Zbs, Zbt, Zbu, Zbv, Zbw, Zbx, Zby, Zbz, ZbA, List.length_cons, List.length_nil, Nat.reduceAdd, Nat.zero_add, ZbB, ZbC, ZbD, ZbE, y_W, ZbF, ZbG, ZbH, ZbI, ZbJ, ZbK, ZbL, ZbM, ZbN, ZbO, ZbP, ZbQ, ZbR, ZbS, sb1, sb2, sb3, sb4, sb5, sb6, sb7, sb8, sb9, ZbT, ZbU, ZbV, ZbW, ZbX, ZbY, ZbZ, Zb0, Zb1, Zb2, Zb3, Zb4, Zb5, Zb6, Zb7, List.map_id, id_eq, BEq.rfl, bne_self_eq_false, Zb8, Zb9, Zca, Zcb, Zcc, Zcd, Zce, Zcf, Zcg, Zch, Zci, Zcj, Zck, Zcl, Zcm, Zcn, Zco, Zcp, Zcq, Zcr, Zcs, Zct, Zcu, Zcv, Zcw, Zcx, Zcy, Zcz, ZcA, ZcB, ZcC, ZcD, true_and, and_true, Bool.and_self, Bool.and_true, Bool.true_and, Bool.not_true, Bool.not_false, Bool.false_eq_true, if_false, if_true, ite_true, ite_false, decide_true, decide_false, reduceIte, s_seqR, s_seqL, w_make, w_setF]))
local macro_rules
  | `(tactic| array_get_dec) => `(tactic| (simp only [env0, List.map_cons, List.map_nil, List.length_cons, List.length_nil, List.replicate_succ, List.replicate_zero, List.cons_append, List.nil_append, Nat.reduceSub, Nat.reduceAdd, Nat.zero_add, Zaa, Zab, w_c, Zac, Zad, Zae, Zaf, Zag, Zah, Zai, Zaj, Zak, Zal, Zam, Zan, Zao, Zap, Zaq, Zar, Zas, Zat, Zau, Zav, Zaw, Zax, Zay, Zaz, ZaA, ZaB, ZaC, ZaD, ZaE, ZaF, ZaG, ZaH, ZaI, ZaJ, ZaK, ZaL, ZaM, ZaN, ZaO, ZaP, ZaQ, ZaR, ZaS, ZaT, ZaU, ZaV, ZaW, ZaX, ZaY, ZaZ, Za0, Za1, Za2, Za3, Za4, Za5, Za6, Za7, Za8, Za9, Zba, Zbb, Zbc, Zbd, Zbe, Zbf, Zbg, Zbh, Zbi, Zbj, Zbk, Zbl, Zbm, Zbn, Zbo, Zbp, Zbq, Zbr, Zbs, Zbt, Zbu, Zbv, Zbw, Zbx, Zby, Zbz, ZbA, List.length_cons, List.length_nil, Nat.reduceAdd, Nat.zero_add, ZbB, ZbC, ZbD, ZbE, y_W, ZbF, ZbG, ZbH, ZbI, ZbJ, ZbK, ZbL, ZbM, ZbN, ZbO, ZbP, ZbQ, ZbR, ZbS, sb1, sb2, sb3, sb4, sb5, sb6, sb7, sb8, sb9, ZbT, ZbU, ZbV, ZbW, ZbX, ZbY, ZbZ, Zb0, Zb1, Zb2, Zb3, Zb4, Zb5, Zb6, Zb7, List.map_id, id_eq, BEq.rfl, bne_self_eq_false, Zb8, Zb9, Zca, Zcb, Zcc, Zcd, Zce, Zcf, Zcg, Zch, Zci, Zcj, Zck, Zcl, Zcm, Zcn, Zco, Zcp, Zcq, Zcr, Zcs, Zct, Zcu, Zcv, Zcw, Zcx, Zcy, Zcz, ZcA, ZcB, ZcC, ZcD, true_and, and_true, Bool.and_self, Bool.and_true, Bool.true_and, Bool.not_true, Bool.not_false, Bool.false_eq_true, if_false, if_true, ite_true, ite_false, decide_true, decide_false, reduceIte, s_seqR, s_seqL, w_make, w_setF]))
theorem is_telling_ev (h1 : 1 ≤ tl.length) (h2 : tl.length ≤ 12) (h : ∀ x ∈ tl, 0 ≤ x ∧ x < 10) : FEv m_is_telling [rD tl] (.bl true) := fun Q q => by
  unfold m_is_telling fnM b_is_telling
  array_get_dec
  rw [decide_eq_true (show (1 : Int) ≤ (tl.length : Nat) by omega)]
  and_intros
  rw [decide_eq_true (show ((tl.length : Nat) : Int) ≤ 12 by omega)]
  and_intros
  refine all_below (m := 10) (by omega) h (fun x hx R hR => ?_) q
  and_intros
  exact is_below_ev (h x hx).1 (h x hx).2 _ hR
theorem are_standings_ev {m : Int} (hl : l.length ≤ 1000) (h : ∀ x ∈ l, 0 ≤ x ∧ x < m) : FEv m_are_standings [rD l, .int (l.length : Nat), .int m] (.bl true) := fun Q q => by
  unfold m_are_standings fnM b_are_standings
  array_get_dec
  refine all_below (m := m) hl h (fun x hx R hR => ?_) q
  and_intros
  exact is_below_ev (h x hx).1 (h x hx).2 _ hR
theorem are_steps_ev (h : StOk ws.length st) (hw : ws.length ≤ 10) : FEv m_are_steps [oD n ws, .int (st.length : Nat), wD st] (.bl true) := fun Q q => by
  have hs : 100000 ≤ sizeLine := by decide
  unfold m_are_steps fnM b_are_steps
  array_get_dec
  show lcLoop _ _ _ _ (st.map rD) [] _
  refine lc_M (e := rD) (fun _ => true) D.bl (by have := h.1; omega) (fun l hl R hR => ?_) ?_
  · and_intros
    obtain ⟨a1, a2⟩ := h.2 l hl
    rw [← a1]
    exact are_standings_ev (by omega) a2 _ hR
  rw [ZcC, show (st.map fun _ => true).all id = true by simp]
  exact q
theorem book_ev {R : List (Str × D) → Prop} (h1 : 1 ≤ st.length) (lt : tl.length = st.length) (ht : ∀ x ∈ tl, 0 ≤ x ∧ x < 10) (h : StOk ws.length st) (hw : ws.length ≤ 10) (q : R [("office", oD n ws), ("telling", rD tl), ("steps", wD st)]) : i_Book [oD n ws, rD tl, wD st] R := by
  have h12 := h.1
  unfold i_Book fnI0 fnI b_Book_init
  refine ⟨rfl, ?_⟩
  array_get_dec
  refine is_telling_ev (by omega) (by omega) ht _ ?_
  and_intros
  rw [lt]
  refine are_steps_ev h hw _ ?_
  and_intros
  exact ⟨y_imm_oD, onM_i (show 0 < 1000 by decide) (show Fz [] = false by decide) (onM_i (show 1 < 1000 by decide) (show Fz ["office"] = false by decide) (onM_i (show 2 < 1000 by decide) (show Fz ["office", "telling"] = false by decide) ⟨rfl, (show 3 < 1000 by decide), q⟩))⟩
theorem mk_bk : mkO 4 [("office", oD n ws), ("telling", rD tl), ("steps", wD st)] = bkD n ws tl st := if_pos (show Fz ["office", "telling", "steps"] = true by decide)
end
end Pu
set_option Elab.async false
set_option linter.all false
set_option maxRecDepth 100000
set_option synthInstance.maxHeartbeats 0
set_option synthInstance.maxSize 100000
namespace Pu
open PySem PySem.Spec PyProof.Rows L2
section
variable {Q : D → Prop} {n i j k e d c m p q f g A B b P : Int} {r s l J a ls h v M T tl va vb : List Int} {ws L X Y K1 S st : List (List Int)} {x y w : Int} {kds : List (D × D)} {env : PEnv} {dd : D} {F : Int → List Int → Option (List Int)}
theorem led_from_ev (hst : StOk ws.length st) : ∀ (row : List Int), InW ws row → ∀ s, 0 ≤ s ∧ s < (st.length : Int) → 0 ≤ ledF st s row ∧ ledF st s row < (st.length : Int)
  | [], _, s, h => h
  | w :: row, hr, s, h => by
    have hw := hr w List.mem_cons_self
    refine led_from_ev hst row (fun x hx => hr x (List.mem_cons_of_mem _ hx)) _ ?_
    have e : st.getD s.toNat [] ∈ st := by rw [List.getD_eq_getElem?_getD, List.getElem?_eq_getElem (show s.toNat < st.length by omega)]; exact List.getElem_mem _
    obtain ⟨a1, a2⟩ := hst.2 _ e
    show 0 ≤ (st.getD s.toNat []).getD w.toNat 0 ∧ (st.getD s.toNat []).getD w.toNat 0 < (st.length : Int)
    generalize st.getD s.toNat [] = l at a1 a2
    rw [List.getD_eq_getElem?_getD, List.getElem?_eq_getElem (show w.toNat < l.length by omega)]
    exact a2 _ (List.getElem_mem _)
end
end Pu
set_option Elab.async false
set_option linter.all false
set_option maxRecDepth 100000
set_option synthInstance.maxHeartbeats 0
set_option synthInstance.maxSize 100000
namespace Pu
open PySem PySem.Spec PyProof.Rows L2
section
variable {Q : D → Prop} {n i j k e d c m p q f g A B b P : Int} {r s l J a ls h v M T tl va vb row lot : List Int} {ws L X Y K1 S st : List (List Int)} {x y w : Int} {kds : List (D × D)} {env : PEnv} {dd t : D} {labs : List D}
theorem led_step (hst : StOk ws.length st) (hs : 0 ≤ x ∧ x < (st.length : Int)) (hw : 0 ≤ w ∧ w < (ws.length : Int)) : (st.getD x.toNat []).length = ws.length := by
  rw [List.getD_eq_getElem?_getD, List.getElem?_eq_getElem (show x.toNat < st.length by omega)]
  exact (hst.2 _ (List.getElem_mem _)).1
theorem ledF_app {x w : Int} : ledF st x (l ++ [w]) = (st.getD (ledF st x l).toNat []).getD w.toNat 0 := by
  unfold ledF
  rw [List.foldl_append]
  rfl
end
end Pu
set_option Elab.async false
set_option linter.all false
set_option maxRecDepth 100000
set_option synthInstance.maxHeartbeats 0
set_option synthInstance.maxSize 100000
namespace Pu
open PySem PySem.Spec PyProof.Rows L2
section
variable {Q : D → Prop} {n i j k e d c m p q f g A B b P : Int} {r s l J a ls h v M T va vb u : List Int} {ws L X Y K1 S st : List (List Int)} {x y w : Int} {kds : List (D × D)} {env : PEnv} {dd : D} {F : List Int → Option (List Int)}
theorem w_appM1 {i j : Nat} {E : PEnds} : sAppM1 i j E env = xVar i env fun d => onL d fun xs => xVar j env fun y => xs.length < sizeLine ∧ E.nx (env.set i (some (.lst (xs ++ [y])))) := (rfl)
def tqN (l : List Int) : NestedKey := .tup (l.map .num)
theorem tq_nk : (rD l).nk = some (tqN l) := by
  show (D.tup (dInts l)).nk = _
  simp [D.nk, nkL_ints, tqN]
theorem tq_inj (h : tqN l = tqN u) : l = u := by
  unfold tqN at h
  injection h with h
  exact (List.map_inj_right fun x y e => by injection e).mp h
theorem tq_depth : (tqN l).depth ≤ 8 := by
  have : ∀ l : List Int, NestedKey.depthAll (l.map NestedKey.num) = 0 := fun l => by
    induction l with
    | nil => simp [NestedKey.depthAll]
    | cons x l ih => rw [List.map_cons, NestedKey.depthAll, ih]; simp [NestedKey.depth]
  unfold tqN
  simp [NestedKey.depth, this]
structure DV (kds : List (D × D)) (f : List Int → Option (List Int)) (N : Nat) : Prop where
  nd : (kds.map fun p => p.1.nk).Nodup
  len : kds.length ≤ N
  look : ∀ l, lookN kds (tqN l) = (f l).map rD
theorem DV.nil : DV [] (fun _ => none) 0 := ⟨List.nodup_nil, Nat.le_refl _, fun l => rfl⟩
def dvSet (f : List Int → Option (List Int)) (l v : List Int) : List Int → Option (List Int) := fun l' => if l' = l then some v else f l'
theorem DV.put {f : List Int → Option (List Int)} {N : Nat} (h : DV kds f N) (hn : f l = none) : DV (putN kds (tqN l) (rD l) (rD v)) (dvSet f l v) (N + 1) := by
  have e0 : lookN kds (tqN l) = none := by rw [h.look, hn]; rfl
  have e1 : putN kds (tqN l) (rD l) (rD v) = kds ++ [(rD l, rD v)] := by
    unfold putN
    rw [e0]
    rfl
  rw [e1]
  refine ⟨?_, by rw [List.length_append]; have := h.len; simp; omega, fun l' => ?_⟩
  · rw [List.map_append]
    refine List.nodup_append.mpr ⟨h.nd, by simp, fun a ha b hb e => ?_⟩
    rw [List.map_singleton, List.mem_singleton] at hb
    obtain ⟨p, hp, ep⟩ := List.mem_map.mp ha
    unfold lookN at e0
    rw [Option.map_eq_none_iff] at e0
    have := List.find?_eq_none.mp e0 p hp
    rw [ep, e, hb, tq_nk] at this
    exact this (decide_eq_true rfl)
  · rw [look_app, tq_nk]
    unfold dvSet
    by_cases z : l' = l
    · subst z
      rw [if_pos rfl, e0]
      simp
    · rw [if_neg z, h.look]
      cases f l' with
      | some x => rfl
      | none =>
        show (if some (tqN l) = some (tqN l') then _ else none) = none
        rw [if_neg]
        intro e
        exact z (tq_inj (Option.some.inj e)).symm
theorem y_ndv {f : List Int → Option (List Int)} {N : Nat} {d : D} (hd : d.nv = some kds) (h : DV kds f N) (q : Q (.bl (!(f l).isSome))) : oInN true (rD l) d Q := by
  unfold oInN
  rw [hd, tq_nk]
  refine ⟨tq_depth, ?_⟩
  rw [h.look, Bool.true_xor, Option.isSome_map]
  exact q
theorem y_ixdv {f : List Int → Option (List Int)} {N : Nat} {d : D} (hd : d.nv = some kds) (h : DV kds f N) (hf : f l = some v) (q : Q (rD v)) : oIxN d (rD l) Q := by
  unfold oIxN
  rw [hd, tq_nk]
  refine ⟨tq_depth, ?_⟩
  rw [h.look, hf]
  exact q
theorem y_putdv {f : List Int → Option (List Int)} {N : Nat} {d : D} {K : D → Prop} (hd : d.nv = some kds) (h : DV kds f N) (hN : N < 100000) (hf : f l = none) (q : ∀ kds', DV kds' (dvSet f l v) (N + 1) → K (.dN kds')) : setDN d (rD l) (rD v) K := by
  unfold setDN
  rw [hd, tq_nk]
  have hs : 1000000 ≤ sizeLine := by decide
  exact ⟨⟨tq_depth, by have := h.len; omega, h.nd⟩, q _ (h.put hf)⟩
def stepE (S : List (List Int)) (m : Int) : List (List Int) := (S.map fun h => (rangeI m).map fun x => h ++ [x]).flatten
structure EV (M : List Int) (S : List (List Int)) : Prop where
  nd : S.Nodup
  mem : ∀ h, h ∈ S ↔ InB M h
theorem EV.nil : EV [] [[]] := ⟨by simp, fun h => by
  rw [List.mem_singleton]
  exact ⟨fun e => by rw [e]; exact ⟨rfl, fun k hk => by simp at hk⟩, fun hb => List.eq_nil_of_length_eq_zero hb.1⟩⟩
theorem inB_snoc : InB (M ++ [m]) (h ++ [x]) ↔ InB M h ∧ 0 ≤ x ∧ x < m := by
  unfold InB
  rw [List.length_append, List.length_append, List.length_singleton]
  constructor
  · rintro ⟨e, hk⟩
    have e : h.length = M.length := by simpa using e
    refine ⟨⟨e, fun k hk2 => ?_⟩, ?_⟩
    · have := hk k (by simp; omega)
      rwa [List.getD_eq_getElem?_getD, List.getElem?_append_left (by omega), ← List.getD_eq_getElem?_getD, List.getD_eq_getElem?_getD (l := M ++ [m]), List.getElem?_append_left hk2, ← List.getD_eq_getElem?_getD] at this
    · have := hk M.length (by simp)
      rwa [List.getD_eq_getElem?_getD, List.getElem?_append_right (by omega), e, Nat.sub_self, List.getD_eq_getElem?_getD (l := M ++ [m]), List.getElem?_append_right (by omega), Nat.sub_self] at this
  · rintro ⟨⟨e, hk⟩, x0, x1⟩
    refine ⟨by simp [e], fun k hk2 => ?_⟩
    by_cases z : k < M.length
    · rw [List.getD_eq_getElem?_getD, List.getElem?_append_left (by omega), ← List.getD_eq_getElem?_getD, List.getD_eq_getElem?_getD (l := M ++ [m]), List.getElem?_append_left z, ← List.getD_eq_getElem?_getD]
      exact hk k z
    · have ek : k = M.length := by simp at hk2; omega
      subst ek
      rw [List.getD_eq_getElem?_getD, List.getElem?_append_right (by omega), e, Nat.sub_self, List.getD_eq_getElem?_getD (l := M ++ [m]), List.getElem?_append_right (by omega), Nat.sub_self]
      exact ⟨x0, x1⟩
theorem EV.step (ev : EV M S) : EV (M ++ [m]) (stepE S m) := by
  refine ⟨?_, fun h => ?_⟩
  · unfold stepE
    refine List.pairwise_flatten.mpr ⟨fun l hl => ?_, ?_⟩
    · obtain ⟨h, _, rfl⟩ := List.mem_map.mp hl
      refine List.pairwise_map.mpr ((rangeI_pw m).imp fun {a b} hab e => ?_)
      have := List.append_cancel_left e
      simp at this
      omega
    · refine List.pairwise_map.mpr (ev.nd.imp fun {a b} hab => ?_)
      intro z hz z2 hz2 ez
      obtain ⟨x, _, e1⟩ := List.mem_map.mp hz
      obtain ⟨y, _, e2⟩ := List.mem_map.mp hz2
      rw [← e1, ← e2] at ez
      exact hab (List.append_inj_left' ez rfl)
  · unfold stepE
    rw [List.mem_flatten]
    constructor
    · rintro ⟨l, hl, hh⟩
      obtain ⟨h0, hh0, rfl⟩ := List.mem_map.mp hl
      obtain ⟨x, hx, rfl⟩ := List.mem_map.mp hh
      exact inB_snoc.mpr ⟨(ev.mem h0).mp hh0, mem_rangeI.mp hx⟩
    · intro hb
      have hne : h ≠ [] := by intro z; rw [z] at hb; have := hb.1; simp at this
      obtain ⟨u, x, rfl⟩ : ∃ u x, h = u ++ [x] := ⟨h.dropLast, h.getLast hne, (List.dropLast_concat_getLast _).symm⟩
      obtain ⟨b1, b2⟩ := inB_snoc.mp hb
      exact ⟨_, List.mem_map.mpr ⟨u, (ev.mem u).mpr b1, rfl⟩, List.mem_map.mpr ⟨x, mem_rangeI.mpr b2, rfl⟩⟩
theorem prodL_app : ∀ {M N : List Int}, prodL (M ++ N) = prodL M * prodL N
  | [], N => by rw [List.nil_append, prodL, Int.one_mul]
  | m :: M, N => by rw [List.cons_append, prodL, prodL, prodL_app, Int.mul_assoc]
theorem EV.le (ev : EV M S) (hM : ∀ x ∈ M, 1 ≤ x) : (S.length : Int) ≤ prodL M := box_le hM ev.nd fun h hh => (ev.mem h).mp hh
def szF (k : Int) : Int := if k < 2 then (if k = 0 then 3 else 2) else (if k = 2 then 2 else 1)
theorem sz_rng : 1 ≤ szF k ∧ szF k ≤ 3 := by unfold szF; split <;> split <;> omega
theorem sz_prod (h1 : 1 ≤ n) (h6 : n ≤ 6) : prodL ((rangeI n).map szF) ≤ 12 := by
  have : n = 1 ∨ n = 2 ∨ n = 3 ∨ n = 4 ∨ n = 5 ∨ n = 6 := by omega
  rcases this with e | e | e | e | e | e <;> (subst e; decide)
theorem stepE_len : (stepE S m).length = S.length * m.toNat := by
  unfold stepE
  induction S with
  | nil => simp
  | cons a u ih => rw [List.map_cons, List.flatten_cons, List.length_append, ih, List.length_map, rangeI_len, List.length_cons, Nat.add_mul, Nat.one_mul, Nat.add_comm]
theorem stepE_snoc {h : List Int} : stepE (S ++ [h]) m = stepE S m ++ (rangeI m).map fun x => h ++ [x] := by
  unfold stepE
  rw [List.map_append, List.flatten_append]
  simp
structure MW (M : List Int) (S u : List (List Int)) (bs : List D) (G : Int → List Int → Option (List Int)) : Prop where
  len : bs.length = u.length
  dv : ∀ k : Nat, k < u.length → ∃ b kds N, bs[k]? = some b ∧ b.nv = some kds ∧ DV kds (G (k : Int)) N
  val : ∀ (k : Nat) l v, k < u.length → G (k : Int) l = some v → ValOk M (u.getD k []) v
  all : ∀ (k : Nat) h, k < u.length → h ∈ S → ∃ v, G (k : Int) (prjS h (u.getD k [])) = some v
theorem MW.snoc {bs : List D} {G : Int → List Int → Option (List Int)} {b : D} {N : Nat} {lot : List Int} {f : List Int → Option (List Int)} {u : List (List Int)} (mw : MW M S u bs G) (hb : b.nv = some kds) (dv : DV kds f N) (hv : ∀ l v, f l = some v → ValOk M lot v) (ha : ∀ h ∈ S, ∃ v, f (prjS h lot) = some v) :
    MW M S (u ++ [lot]) (bs ++ [b]) (fun k l => if k = (u.length : Int) then f l else G k l) := by
  have e0 := mw.len
  refine ⟨by simp [e0], fun k hk => ?_, fun k l v hk h => ?_, fun k h hk hh => ?_⟩
  · by_cases z : k < u.length
    · obtain ⟨b', kds', N', a1, a2, a3⟩ := mw.dv k z
      refine ⟨b', kds', N', by rw [List.getElem?_append_left (by omega)]; exact a1, a2, ?_⟩
      rw [show (fun l => if (k : Int) = (u.length : Int) then f l else G (k : Int) l) = G (k : Int) from funext fun l => if_neg (by omega)]
      exact a3
    · have ek : k = u.length := by simp at hk; omega
      subst ek
      refine ⟨b, kds, N, by rw [List.getElem?_append_right (by omega), e0, Nat.sub_self]; rfl, hb, ?_⟩
      rw [show (fun l => if ((u.length : Nat) : Int) = (u.length : Int) then f l else G ((u.length : Nat) : Int) l) = f from funext fun l => if_pos rfl]
      exact dv
  · by_cases z : k < u.length
    · rw [if_neg (by omega)] at h
      rw [List.getD_eq_getElem?_getD, List.getElem?_append_left z, ← List.getD_eq_getElem?_getD]
      exact mw.val k l v z h
    · have ek : k = u.length := by simp at hk; omega
      subst ek
      rw [if_pos rfl] at h
      rw [List.getD_eq_getElem?_getD, List.getElem?_append_right (by omega), Nat.sub_self]
      exact hv l v h
  · by_cases z : k < u.length
    · obtain ⟨v, hv2⟩ := mw.all k h z hh
      rw [List.getD_eq_getElem?_getD, List.getElem?_append_left z, ← List.getD_eq_getElem?_getD]
      exact ⟨v, by rw [if_neg (by omega)]; exact hv2⟩
    · have ek : k = u.length := by simp at hk; omega
      subst ek
      obtain ⟨v, hv2⟩ := ha h hh
      rw [List.getD_eq_getElem?_getD, List.getElem?_append_right (by omega), Nat.sub_self]
      exact ⟨v, by rw [if_pos rfl]; exact hv2⟩
end
end Pu
set_option Elab.async false
set_option linter.all false
set_option maxRecDepth 100000
set_option synthInstance.maxHeartbeats 0
set_option synthInstance.maxSize 100000
namespace Pu
open PySem PySem.Spec PyProof.Rows L2
section
variable {Q : D → Prop} {n i j k e d c m p q f g A B b P : Int} {r s l J a ls h v M T va vb u : List Int} {ws L X Y K1 S st : List (List Int)} {x y w : Int} {kds : List (D × D)} {env : PEnv} {dd : D} {F : List Int → Option (List Int)}
local macro_rules
  | `(tactic| and_intros) => `(tactic| (try simp only [Zaa, Zab, w_c, Zac, Zad, Zae, Zaf, Zag, Zah, Zai, Zaj, Zak, Zal, Zam, Zan, Zao, Zap, Zaq, Zar, Zas, Zat, Zau, Zav, Zaw, Zax, Zay, Zaz, ZaA, ZaB, ZaC, ZaD, ZaE, ZaF, ZaG, ZaH, ZaI, ZaJ, ZaK, ZaL, ZaM, ZaN, ZaO, ZaP, ZaQ, ZaR, ZaS, ZaT, ZaU, ZaV, ZaW, ZaX, ZaY, ZaZ, Za0, Za1, Za2, Za3, Za4, Za5, Za6, Za7, Za8, Za9, Zba, Zbb, Zbc, Zbd, Zbe, Zbf, Zbg, Zbh, Zbi, Zbj, Zbk, Zbl, Zbm, Zbn, Zbo, Zbp, Zbq, Zbr, Zbs, Zbt, Zbu, Zbv, Zbw, Zbx, Zby, Zbz, ZbA, List.length_cons, List.length_nil, Nat.reduceAdd, Nat.zero_add, ZbB, ZbC, ZbD, ZbE, y_W, ZbF, ZbG, ZbH, ZbI, ZbJ, ZbK, ZbL, ZbM, ZbN, ZbO, ZbP, ZbQ, ZbR, ZbS, sb1, sb2, sb3, sb4, sb5, sb6, sb7, sb8, sb9, ZbT, ZbU, ZbV, ZbW, ZbX, ZbY, ZbZ, Zb0, Zb1, Zb2, Zb3, Zb4, Zb5, Zb6, Zb7, List.map_id, id_eq, BEq.rfl, bne_self_eq_false, Zb8, Zb9, Zca, Zcb, Zcc, Zcd, Zce, Zcf, Zcg, Zch, Zci, Zcj, Zck, Zcl, Zcm, Zcn, Zco, Zcp, Zcq, Zcr, Zcs, Zct, Zcu, Zcv, Zcw, Zcx, Zcy, Zcz, ZcA, ZcB, ZcC, ZcD, true_and, and_true, Bool.and_self, Bool.and_true, Bool.true_and, Bool.not_true, Bool.not_false, Bool.false_eq_true, if_false, if_true, ite_true, ite_false, decide_true, decide_false, reduceIte, s_seqR, s_seqL, w_putN, w_appM1]))
local macro_rules
  | `(tactic| array_get_dec) => `(tactic| (simp only [env0, List.map_cons, List.map_nil, List.length_cons, List.length_nil, List.replicate_succ, List.replicate_zero, List.cons_append, List.nil_append, Nat.reduceSub, Nat.reduceAdd, Nat.zero_add, Zaa, Zab, w_c, Zac, Zad, Zae, Zaf, Zag, Zah, Zai, Zaj, Zak, Zal, Zam, Zan, Zao, Zap, Zaq, Zar, Zas, Zat, Zau, Zav, Zaw, Zax, Zay, Zaz, ZaA, ZaB, ZaC, ZaD, ZaE, ZaF, ZaG, ZaH, ZaI, ZaJ, ZaK, ZaL, ZaM, ZaN, ZaO, ZaP, ZaQ, ZaR, ZaS, ZaT, ZaU, ZaV, ZaW, ZaX, ZaY, ZaZ, Za0, Za1, Za2, Za3, Za4, Za5, Za6, Za7, Za8, Za9, Zba, Zbb, Zbc, Zbd, Zbe, Zbf, Zbg, Zbh, Zbi, Zbj, Zbk, Zbl, Zbm, Zbn, Zbo, Zbp, Zbq, Zbr, Zbs, Zbt, Zbu, Zbv, Zbw, Zbx, Zby, Zbz, ZbA, List.length_cons, List.length_nil, Nat.reduceAdd, Nat.zero_add, ZbB, ZbC, ZbD, ZbE, y_W, ZbF, ZbG, ZbH, ZbI, ZbJ, ZbK, ZbL, ZbM, ZbN, ZbO, ZbP, ZbQ, ZbR, ZbS, sb1, sb2, sb3, sb4, sb5, sb6, sb7, sb8, sb9, ZbT, ZbU, ZbV, ZbW, ZbX, ZbY, ZbZ, Zb0, Zb1, Zb2, Zb3, Zb4, Zb5, Zb6, Zb7, List.map_id, id_eq, BEq.rfl, bne_self_eq_false, Zb8, Zb9, Zca, Zcb, Zcc, Zcd, Zce, Zcf, Zcg, Zch, Zci, Zcj, Zck, Zcl, Zcm, Zcn, Zco, Zcp, Zcq, Zcr, Zcs, Zct, Zcu, Zcv, Zcw, Zcx, Zcy, Zcz, ZcA, ZcB, ZcC, ZcD, true_and, and_true, Bool.and_self, Bool.and_true, Bool.true_and, Bool.not_true, Bool.not_false, Bool.false_eq_true, if_false, if_true, ite_true, ite_false, decide_true, decide_false, reduceIte, s_seqR, s_seqL, w_putN, w_appM1]))
theorem of_desks_ev (hW : WsOk n ws) : FP m__law_of_desks [dd, pD n ws] (fun d => ∃ T st, d = .tup [rD T, wD st] ∧ T.length = st.length ∧ (∀ x ∈ T, 0 ≤ x ∧ x < 3) ∧ 1 ≤ st.length ∧ StOk ws.length st ∧ Evn ws st) := fun Q q => by
  have hs : 100000 ≤ sizeLine := by decide
  obtain ⟨h1, h2, h3, h4, h5⟩ := id hW
  unfold m__law_of_desks fnM b__law_of_desks
  array_get_dec
  refine y_rng (n := n) (by omega) (by omega) ?_
  refine lc_M (e := D.int) szF D.int (by rw [rangeI_len]; omega) (fun k hk R hR => ?_) ?_
  · have hk := mem_rangeI.mp hk
    have two : ∀ {a b : Int} {c : Bool}, (c = true → R (.int b)) → (c = false → R (.int a)) → oIx (.lst [.int a, .int b]) (.int (if c = true then 1 else 0)) R := fun {a b c} hb ha => by
      cases c with
      | true => exact atD_some (xs := [.int a, .int b]) (x := 1) (by decide) rfl (hb rfl)
      | false => exact atD_some (xs := [.int a, .int b]) (x := 0) (by decide) rfl (ha rfl)
    and_intros
    split
    · rename_i k2
      have k2 := of_decide_eq_true k2
      refine ⟨by omega, two (fun z => ?_) fun z => ?_⟩
      · have e : szF k = 3 := by unfold szF; rw [if_pos k2, if_pos (of_decide_eq_true z)]
        rwa [e] at hR
      · have e : szF k = 2 := by unfold szF; rw [if_pos k2, if_neg (of_decide_eq_false z)]
        rwa [e] at hR
    · rename_i k2
      have k2 : ¬ k < 2 := fun z => k2 (decide_eq_true z)
      refine ⟨by omega, two (fun z => ?_) fun z => ?_⟩
      · have e : szF k = 2 := by unfold szF; rw [if_neg k2, if_pos (of_decide_eq_true z)]
        rwa [e] at hR
      · have e : szF k = 1 := by unfold szF; rw [if_neg k2, if_neg (of_decide_eq_false z)]
        rwa [e] at hR
  have pM : ∀ x ∈ (rangeI n).map szF, 1 ≤ x := fun x hx => by obtain ⟨k, _, rfl⟩ := List.mem_map.mp hx; exact sz_rng.1
  have pP := sz_prod h1 h2
  have lM : ((rangeI n).map szF).length = n.toNat := by rw [List.length_map, rangeI_len]
  have bM : ∀ x ∈ (rangeI n).map szF, x ≤ 3 := fun x hx => by obtain ⟨k, _, rfl⟩ := List.mem_map.mp hx; exact sz_rng.2
  generalize (rangeI n).map szF = M at pM pP lM bM
  and_intros
  refine ⟨by omega, by omega, ?_⟩
  rw [show D.lst [D.tup []] = .lst (rowsD [[]]) from rfl]
  refine loop_I (fun p s env => ∃ S e4 e5 e6, env = [some dd, some (pD n ws), some (.lst (dInts M)), some (.lst (rowsD S)), e4, e5, e6, none, none, none, none, none, none, none, none, none, none, none, none] ∧ EV p S) _ ⟨_, _, _, _, rfl, EV.nil⟩ ?_ ?_
  · rintro p m s env ep ⟨S, e4, e5, e6, rfl, ev⟩
    have hm : m ∈ M := by rw [← ep]; simp
    have m1 := pM m hm
    have m3 := bM m hm
    have pp : ∀ x ∈ p, 1 ≤ x := fun x hx => pM x (by rw [← ep]; exact List.mem_append_left _ hx)
    have S12 : S.length ≤ 12 := by
      have a1 := ev.le pp
      have a2 : prodL M = prodL p * prodL (m :: s) := by rw [← ep, prodL_app]
      have a3 := prodL_pos (M := m :: s) fun x hx => pM x (by rw [← ep]; exact List.mem_append_right _ hx)
      have a4 := prodL_pos pp
      have a5 := Int.mul_le_mul_of_nonneg_left a3 (show 0 ≤ prodL p by omega)
      omega
    and_intros
    refine ⟨by omega, ?_⟩
    show sLoop _ _ (S.map rD) _ _
    refine loop_T (e := rD) (fun u v env => ∃ e6, env = [some dd, some (pD n ws), some (.lst (dInts M)), some (.lst (rowsD S)), some (.int m), some (.lst (rowsD (stepE u m))), e6, none, none, none, none, none, none, none, none, none, none, none, none]) _ ⟨_, rfl⟩ ?_ ?_
    · rintro u h v env eu ⟨e6, rfl⟩
      have ul : u.length < S.length := by have := congrArg List.length eu; simp at this; omega
      have hb := (ev.mem h).mp (by rw [← eu]; simp)
      have hl : h.length ≤ 6 := by have := hb.1; have := congrArg List.length ep; simp at this; omega
      have sl : (stepE u m).length ≤ 36 := by
        rw [stepE_len]
        have := Nat.mul_le_mul (show u.length ≤ 12 by omega) (show m.toNat ≤ 3 by omega)
        omega
      and_intros
      refine y_rng (n := m) (by omega) (by omega) ?_
      refine lc_M (e := D.int) (fun x => h ++ [x]) rD (by rw [rangeI_len]; omega) (fun x hx R hR => ?_) ?_
      · and_intros
        refine ⟨by omega, y_addR (s := [x]) (by simp; omega) hR⟩
      refine ⟨immL_rows _, immL_rows ((rangeI m).map fun x => h ++ [x]), by rw [rowsD, List.length_map, List.length_map, List.length_map, rangeI_len]; omega, ?_⟩
      rw [stepE_snoc, rowsD, rowsD, List.map_append]
      exact ⟨_, rfl⟩
    · rintro env ⟨e6, rfl⟩
      exact ⟨_, _, _, _, rfl, ev.step⟩
  · rintro env ⟨S, e4, e5, e6, rfl, ev⟩
    have S12 : S.length ≤ 12 := by have := ev.le pM; omega
    have hz : List.replicate n.toNat (0 : Int) ∈ S := (ev.mem _).mpr (by
      refine ⟨by rw [List.length_replicate, lM], fun k hk => ?_⟩
      have e0 : (List.replicate n.toNat (0 : Int)).getD k 0 = 0 := by
        rw [List.getD_eq_getElem?_getD, List.getElem?_replicate]
        split <;> rfl
      have e1 : M.getD k 0 = M[k] := by rw [List.getD_eq_getElem?_getD, List.getElem?_eq_getElem hk]; rfl
      have := pM _ (List.getElem_mem hk)
      rw [e0, e1]
      omega)
    and_intros
    refine ⟨by omega, ?_⟩
    show sLoop _ _ (ws.map rD) _ _
    refine loop_T (e := rD) (fun u v env => ∃ bs G e6 e8 e9 e10, env = [some dd, some (pD n ws), some (.lst (dInts M)), some (.lst (rowsD S)), e4, e5, e6, some (.lst bs), e8, e9, e10, none, none, none, none, none, none, none, none] ∧ MW M S u bs G) _ ⟨[], fun _ _ => none, _, _, _, _, rfl, rfl, (fun k h => by simp at h), (fun k l v h => by simp at h), fun k h hk => by simp at hk⟩ ?_ ?_
    · rintro u lot v env eu ⟨bs, G, e6, e8, e9, e10, rfl, mw⟩
      obtain ⟨wl, wne, w6⟩ := h5 lot (by rw [← eu]; simp)
      have wr := lotOk_all wl
      have ub : u.length < ws.length := by have := congrArg List.length eu; simp at this; omega
      and_intros
      show sLoop _ _ (S.map rD) _ _
      refine loop_T (e := rD) (fun u2 v2 env => ∃ b kds N f e6 e10, env = [some dd, some (pD n ws), some (.lst (dInts M)), some (.lst (rowsD S)), e4, e5, e6, some (.lst bs), some (rD lot), some b, e10, none, none, none, none, none, none, none, none] ∧ b.nv = some kds ∧ DV kds f N ∧ N ≤ u2.length ∧ (∀ l v, f l = some v → ValOk M lot v) ∧ ∀ h ∈ u2, ∃ v, f (prjS h lot) = some v) _ ⟨.dK [], [], 0, fun _ => none, _, _, rfl, rfl, DV.nil, Nat.le_refl _, (fun l v h => nomatch h), fun h hh => nomatch hh⟩ ?_ ?_
      · rintro u2 h v2 env eu2 ⟨b, kds, N, f, e6, e10, rfl, nv, dv, hN, hv, ha⟩
        have hb := (ev.mem h).mp (by rw [← eu2]; simp)
        have hl : h.length = n.toNat := by rw [hb.1, lM]
        have u2l : u2.length < S.length := by have := congrArg List.length eu2; simp at this; omega
        and_intros
        refine lc_M (e := D.int) (fun d => h.getD d.toNat 0) D.int (by omega) (fun d hd R hR => ?_) ?_
        · have := wr d hd
          and_intros
          exact y_ixR this.1 (by omega) ⟨rfl, hR⟩
        rw [show (lot.map fun d => h.getD d.toNat 0).map D.int = dInts (prjS h lot) from rfl]
        and_intros
        obtain ⟨PJ, hPJ⟩ : ∃ PJ, prjS h lot = PJ := ⟨_, rfl⟩
        rw [hPJ]
        (try rw [w_sif])
        and_intros
        refine y_ndv nv dv ?_
        and_intros
        cases hF : f PJ with
        | none =>
          show if true = true then _ else _
          rw [if_pos rfl]
          refine lc_R (e := D.int) (fun d x => 0 ≤ x ∧ x < M.getD d.toNat 0) D.int lot [] _ (by simp; omega) (fun d hd R hR => ?_) fun v vl vp => ?_
          · have hd := wr d hd
            have hy := M_rng pM pP (show d.toNat < M.length by omega)
            and_intros
            refine y_ixL (r := M) hd.1 (by omega) ?_
            exact draw_ev (by omega) (by omega) fun x x0 x1 => hR x ⟨x0, x1⟩
          · rw [List.nil_append, show v.map D.int = dInts v from rfl]
            and_intros
            refine y_putdv nv dv (by omega) hF fun kds' dv' => ?_
            refine ⟨_, kds', N + 1, dvSet f PJ v, _, _, rfl, rfl, dv', by simp; omega, fun l v' h' => ?_, fun h' hh' => ?_⟩
            · unfold dvSet at h'
              split at h'
              · cases h'
                exact valOk_of vl vp
              · exact hv l v' h'
            · unfold dvSet
              by_cases z : prjS h' lot = PJ
              · exact ⟨v, if_pos z⟩
              · rw [if_neg z]
                rcases List.mem_append.mp hh' with w | w
                · exact ha h' w
                · rw [List.mem_singleton.mp w] at z; exact absurd hPJ z
        | some v =>
          and_intros
          refine ⟨b, kds, N, f, _, _, rfl, nv, dv, by simp; omega, hv, fun h' hh' => ?_⟩
          rcases List.mem_append.mp hh' with w | w
          · exact ha h' w
          · rw [List.mem_singleton.mp w, hPJ]; exact ⟨v, hF⟩
      · rintro env ⟨b, kds, N, f, e6, e10, rfl, nv, dv, hN, hv, ha⟩
        have bl := mw.len
        and_intros
        exact ⟨by omega, _, _, _, _, _, _, rfl, mw.snoc nv dv hv ha⟩
    · rintro env ⟨bs, G, e6, e8, e9, e10, rfl, mw⟩
      and_intros
      refine ⟨by omega, ?_⟩
      have ei0 : EI ws M S [] (fun w => G w) := ⟨ev.nd, fun h hh => (ev.mem h).mp hh, List.length_pos_of_mem hz, by simp, fun w l v h w0 w1 => by
        have := mw.val w.toNat l v (by omega) (by rw [Int.toNat_of_nonneg w0]; exact h)
        exact this, fun s row h => nomatch h⟩
      show sLoop _ _ (S.map rD) _ _
      refine loop_T (e := rD) (fun u v env => ∃ st e6 e8 e12 e13 e14 e15 e16, env = [some dd, some (pD n ws), some (.lst (dInts M)), some (.lst (rowsD S)), e4, e5, e6, some (.lst bs), e8, e9, e10, some (.lst (rowsD st)), e12, e13, e14, e15, e16, none, none] ∧ st.length = u.length ∧ EI ws M S st (fun w => G w)) _ ⟨[], _, _, _, _, _, _, _, rfl, rfl, ei0⟩ ?_ ?_
      · rintro u h v env eu ⟨st, e6, e8, e12, e13, e14, e15, e16, rfl, sl, ei⟩
        have hin := (ev.mem h).mp (by rw [← eu]; simp)
        have hl : h.length = n.toNat := by rw [hin.1, lM]
        have u2l : u.length < S.length := by have := congrArg List.length eu; simp at this; omega
        have hS : S[st.length]? = some h := by rw [← eu, sl, List.getElem?_append_right (Nat.le_refl _), Nat.sub_self]; rfl
        and_intros
        refine ⟨by omega, y_rng (n := (ws.length : Int)) (by omega) (by omega) ?_⟩
        refine loop_I (fun u z env => ∃ GG e8 e13 e14 e15 e16, env = [some dd, some (pD n ws), some (.lst (dInts M)), some (.lst (rowsD S)), e4, e5, some (rD h), some (.lst bs), e8, e9, e10, some (.lst (rowsD st)), some (.lst (dInts GG)), e13, e14, e15, e16, none, none] ∧ GI ws S (fun w => G w) h GG u.length) _ ⟨[], _, _, _, _, _, rfl, rfl, fun w h0 h1 => by simp at h1; omega⟩ ?_ ?_
        · rintro u w z env eu ⟨GG, e8, e13, e14, e15, e16, rfl, gi⟩
          obtain ⟨ek, ul, _⟩ := range_pre eu
          have w0 : 0 ≤ w := by omega
          have w1 : w < (ws.length : Int) := by omega
          obtain ⟨wl, wne, w6⟩ := h5 _ (w_mem' ⟨w0, w1⟩)
          have wr := lotOk_all wl
          obtain ⟨b, kds, N, b1, b2, b3⟩ := mw.dv w.toNat (by omega)
          obtain ⟨v, hv⟩ := mw.all w.toNat h (by omega) (List.mem_of_getElem? hS)
          have vok := mw.val w.toNat _ v (by omega) hv
          rw [Int.toNat_of_nonneg w0] at b3 hv
          rw [show ws.getD w.toNat [] = W ws w from rfl] at hv vok
          have vl := valOk_len vok
          and_intros
          refine y_ixW w0 w1 ?_
          rw [y_W]
          refine ⟨Zcb, ?_⟩
          have bix : ∀ {R : D → Prop}, R b → oIx (.lst bs) (.int w) R := fun hR => atD_some w0 b1 hR
          refine bix ?_
          rw [s_seqR]
          refine lc_M (e := D.int) (fun d => h.getD d.toNat 0) D.int (by omega) (fun d hd R hR => ?_) ?_
          · have := wr d hd
            and_intros
            exact y_ixR this.1 (by omega) ⟨rfl, hR⟩
          refine ⟨immL_dInts _, ?_⟩
          rw [show D.tup (((W ws w).map fun d => h.getD d.toNat 0).map D.int) = rD (prjS h (W ws w)) from rfl]
          refine y_ixdv b2 b3 hv ⟨Zcb, ?_⟩
          and_intros
          refine y_rng (n := ((W ws w).length : Int)) (by omega) (by omega) ?_
          refine loop_I (fun u2 z2 env => ∃ e16, env = [some dd, some (pD n ws), some (.lst (dInts M)), some (.lst (rowsD S)), e4, e5, some (rD h), some (.lst bs), some (rD (W ws w)), e9, e10, some (.lst (rowsD st)), some (.lst (dInts GG)), some (.int w), some (.lst (dInts (updS h ((W ws w).take u2.length) (v.take u2.length)))), some (rD v), e16, none, none]) _ ⟨e16, by rw [show ([] : List Int).length = 0 from rfl, List.take_zero, List.take_zero, updS_nil]⟩ ?_ ?_
          · rintro u2 j z2 env eu2 ⟨e16, rfl⟩
            obtain ⟨ej, jl, _⟩ := range_pre eu2
            and_intros
            have rx : (W ws w)[u2.length]? = some ((W ws w).getD u2.length 0) := by rw [List.getD_eq_getElem?_getD, List.getElem?_eq_getElem (show u2.length < (W ws w).length by omega)]; rfl
            have vx : v[u2.length]? = some (v.getD u2.length 0) := by rw [List.getD_eq_getElem?_getD, List.getElem?_eq_getElem (show u2.length < v.length by omega)]; rfl
            have rd := wr _ (List.mem_of_getElem? rx)
            refine y_ixR (r := v) (by omega) (by omega) ⟨rfl, ?_⟩
            refine y_ixR (r := W ws w) (by omega) (by omega) ?_
            rw [show j.toNat = u2.length by omega]
            refine setD_l53 rd.1 (by rw [updS_len]; omega) ?_
            have e1 : updS h ((W ws w).take (u2 ++ [j]).length) (v.take (u2 ++ [j]).length) = (updS h ((W ws w).take u2.length) (v.take u2.length)).set ((W ws w).getD u2.length 0).toNat (v.getD u2.length 0) := by
              rw [List.length_append, List.length_singleton, List.take_add_one, List.take_add_one, rx, vx]
              exact updS_snoc (by rw [List.length_take, List.length_take, vl])
            rw [e1]
            exact ⟨_, rfl⟩
          · rintro env ⟨e16, rfl⟩
            rw [rangeI_len, Int.toNat_natCast, List.take_of_length_le (Nat.le_refl _), List.take_of_length_le (by omega)]
            have tb : InB M (updS h (W ws w) v) := inB_upd hin vok
            have ht := (ev.mem _).mpr tb
            generalize hT : updS h (W ws w) v = t at tb ht
            have gl := gi.1
            and_intros
            refine y_idxRows (l := t) (S := S) rfl (fun R hR => ?_) ht fun j hj => ?_
            · show oTup (.lst (dInts t)) R
              exact ⟨immL_dInts t, hR⟩
            · refine ⟨by omega, ?_⟩
              have gi2 : GI ws S (fun w => G w) h (GG ++ [(j : Int)]) (u.length + 1) := by
                refine gi.snoc (v := v) ?_ ?_
                · rw [← ek]; exact hv
                · rw [← ek, hT]; exact hj
              rw [show dInts GG ++ [D.int (j : Int)] = dInts (GG ++ [(j : Int)]) from by rw [← dInts_app]; rfl]
              exact ⟨_, _, _, _, _, _, rfl, by rw [List.length_append, List.length_singleton]; exact gi2⟩
        · rintro env ⟨GG, e8, e13, e14, e15, e16, rfl, gi⟩
          rw [rangeI_len, Int.toNat_natCast] at gi
          have ei2 := ei.row hS gi
          and_intros
          rw [show rowsD st ++ [rD GG] = rowsD (st ++ [GG]) from by rw [rowsD, rowsD, List.map_append]; rfl]
          exact ⟨by omega, st ++ [GG], _, _, _, _, _, _, _, rfl, by simp [sl], ei2⟩
      · rintro env ⟨st, e6, e8, e12, e13, e14, e15, e16, rfl, sl, ei⟩
        and_intros
        show lcLoop _ _ _ _ (S.map rD) [] _
        refine lc_R (e := rD) (fun _ x => 0 ≤ x ∧ x < 3) D.int S [] _ (by simp; omega) (fun l hl R hR => ?_) fun T Tl Tp => ?_
        · and_intros
          exact draw_ev (by decide) (by decide) fun x x0 x1 => hR x ⟨x0, x1⟩
        · rw [List.nil_append, show T.map D.int = dInts T from rfl]
          have es : S.length = st.length := by omega
          refine ⟨immL_dInts T, by omega, q _ ⟨T, st, rfl, by omega, fun x hx => ?_, by have := ei.ne; omega, ei.stOk es (by omega), ei.even hW es⟩⟩
          obtain ⟨j, hj, e⟩ := List.mem_iff_getElem.mp hx
          exact Tp j (S[j]'(by omega)) x (List.getElem?_eq_getElem _) (by rw [← e]; exact List.getElem?_eq_getElem hj)
theorem lot2_ev (n1 : 1 ≤ n) (n6 : n ≤ 6) : FP m__law_lot_2 [dd, .int n] (fun d => ∃ lot, d = rD lot ∧ lotOk n lot ∧ lot ≠ [] ∧ lot.length ≤ 6) := fun Q q => by
  have hs : 100000 ≤ sizeLine := by decide
  unfold m__law_lot_2 fnM b__law_lot_2
  array_get_dec
  refine ⟨⟨by omega, by omega⟩, ?_⟩
  refine lc_F id _ [] _ (by rw [rgD_len]; simp; omega) (fun d hd R hR => ⟨by decide, by decide, fun r _ _ => ⟨rfl, rfl, hR _⟩⟩) (fun d hd R hR => ?_) fun ys s => ?_
  · obtain ⟨j, hj, e⟩ := mem_rg hd
    subst e
    exact ⟨rfl, hR⟩
  · rw [List.map_id, List.nil_append]
    obtain ⟨l, e, g1, g2⟩ := sub_range s
    subst e
    refine ⟨immL_dInts l, ?_⟩
    and_intros
    split
    · rename_i hl0
      have hl0 : 0 < (l.length : Int) := by simpa using hl0
      exact q _ ⟨l, rfl, g1, (fun e => by rw [e] at hl0; simp at hl0), by omega⟩
    · refine draw_ev (by omega) (by omega) fun x x0 x1 => ⟨by omega, q _ ⟨[x], rfl, lot_of (List.pairwise_singleton _ _) fun y hy => by rw [List.mem_singleton.mp hy]; exact ⟨x0, x1⟩, by simp, by simp⟩⟩
def LtOk (n : Int) (l : List Int) : Prop := lotOk n l ∧ l ≠ [] ∧ l.length ≤ 6
theorem two_lot {a b : Int} {R : D → Prop} (n1 : 1 ≤ n) (n6 : n ≤ 6) (ha : 0 ≤ a ∧ a < n) (hb : 0 ≤ b ∧ b < n) (hR : ∀ l, LtOk n l → R (rD l)) : oSortSet (.lst [.int a, .int b]) fun d => oTup d R := by
  have hs : 100000 ≤ sizeLine := by decide
  refine ⟨[a, b], rfl, by simp, fun ms pw mem => ?_⟩
  have mb : ∀ x ∈ ms, 0 ≤ x ∧ x < n := fun x hx => by
    have := (mem x).mp hx
    rcases List.mem_cons.mp this with z | z
    · rw [z]; exact ha
    · rw [List.mem_singleton.mp z]; exact hb
  have nd : ms.Nodup := pw.imp fun h => by omega
  have ml := nodup_in (m := n) nd mb (by omega)
  refine ⟨immL_dInts ms, hR ms ⟨lot_of pw mb, fun e => ?_, by omega⟩⟩
  have : a ∈ ms := (mem a).mpr (by simp)
  rw [e] at this; cases this
theorem fmr {i j : Int} (h : 0 < j) : 0 ≤ i.fmod j ∧ i.fmod j < j := ⟨Int.fmod_nonneg_of_pos i h, Int.fmod_lt_of_pos i h⟩
theorem office_ev {most : Int} (m1 : 1 ≤ most) (m2 : most ≤ 10) : FP m__law_office [dd, .int most] (fun d => ∃ n ws, d = pD n ws ∧ WsOk n ws) := fun Q q => by
  have hs : 100000 ≤ sizeLine := by decide
  unfold m__law_office fnM b__law_office
  array_get_dec
  refine ⟨by omega, draw_ev (by decide) (by decide) fun z z0 z1 => ?_⟩
  obtain ⟨n, n1, n6, hn⟩ : ∃ n : Int, 1 ≤ n ∧ n ≤ 6 ∧ [(1 : Int), 2, 2, 3, 3, 4, 6].getD z.toNat 0 = n := by
    have : z = 0 ∨ z = 1 ∨ z = 2 ∨ z = 3 ∨ z = 4 ∨ z = 5 ∨ z = 6 := by omega
    rcases this with e | e | e | e | e | e | e <;> (subst e; exact ⟨_, by decide, by decide, rfl⟩)
  refine y_ixL (r := [1, 2, 2, 3, 3, 4, 6]) z0 (by simp; omega) ?_
  rw [hn]
  refine draw_ev (by omega) (by omega) fun w w0 w1 => ?_
  and_intros
  obtain ⟨m, hm⟩ : ∃ m : Int, 1 + w = m := ⟨_, rfl⟩
  rw [hm]
  have fin : ∀ L : List (List Int), (∀ l ∈ L, LtOk n l) → (L.length : Int) = m → Q (D.tup [.int n, wD L]) := fun L hL hl => q _ ⟨n, L, rfl, n1, n6, by omega, by omega, hL⟩
  have fin2 : ∀ ys : List (List Int), ys.length = (rangeI m).length → (∀ (j : Nat) (x : Int) (y : List Int), (rangeI m)[j]? = some x → ys[j]? = some y → LtOk n y) → Q (D.tup [.int n, wD ys]) := fun ys yl yp => fin ys (fun l hl => by
    obtain ⟨j, hj⟩ := List.mem_iff_getElem?.mp hl
    have jl := (List.getElem?_eq_some_iff.mp hj).1
    exact yp j _ l (List.getElem?_eq_getElem (by omega)) hj) (by rw [yl, rangeI_len]; omega)
  refine draw_ev (by decide) (by decide) fun k k0 k1 => ?_
  and_intros
  split
  · refine y_rng (n := m) (by omega) (by omega) ?_
    refine lc_R (e := D.int) (fun _ l => LtOk n l) rD (rangeI m) [] _ (by rw [rangeI_len]; simp; omega) (fun j hj R hR => ?_) fun ys yl yp => ?_
    · have r1 := fmr (i := j) (j := n) (by omega)
      and_intros
      refine ⟨by omega, by omega, hR [j.fmod n] ⟨lot_of (List.pairwise_singleton _ _) fun y hy => by rw [List.mem_singleton.mp hy]; exact r1, by simp, by simp⟩⟩
    · rw [List.nil_append]
      exact ⟨immL_rows ys, by omega, fin2 ys yl yp⟩
  split
  · refine y_rng (n := m) (by omega) (by omega) ?_
    refine lc_R (e := D.int) (fun _ l => LtOk n l) rD (rangeI m) [] _ (by rw [rangeI_len]; simp; omega) (fun j hj R hR => ?_) fun ys yl yp => ?_
    · have r1 := fmr (i := j) (j := n) (by omega)
      have r2 := fmr (i := j + 1) (j := n) (by omega)
      and_intros
      refine ⟨by omega, by omega, by omega, ?_⟩
      exact two_lot n1 n6 r1 r2 hR
    · rw [List.nil_append]
      exact ⟨immL_rows ys, by omega, fin2 ys yl yp⟩
  split
  · refine y_rng (n := m) (by omega) (by omega) ?_
    refine lc_R (e := D.int) (fun _ l => LtOk n l) rD (rangeI m) [] _ (by rw [rangeI_len]; simp; omega) (fun j hj R hR => ?_) fun ys yl yp => ?_
    · and_intros
      refine draw_ev (by omega) (by omega) fun a a0 a1 => ?_
      and_intros
      refine draw_ev (by omega) (by omega) fun b b0 b1 => ?_
      and_intros
      refine ⟨by omega, ?_⟩
      exact two_lot n1 n6 ⟨a0, a1⟩ ⟨b0, b1⟩ hR
    · rw [List.nil_append]
      exact ⟨immL_rows ys, by omega, fin2 ys yl yp⟩
  · refine y_rng (n := m) (by omega) (by omega) ?_
    refine lc_R (e := D.int) (fun _ l => LtOk n l) rD (rangeI m) [] _ (by rw [rangeI_len]; simp; omega) (fun j hj R hR => ?_) fun ys yl yp => ?_
    · and_intros
      exact lot2_ev n1 n6 _ fun d ⟨l, e, l1, l2, l3⟩ => by rw [e]; exact hR l ⟨l1, l2, l3⟩
    · rw [List.nil_append]
      exact ⟨immL_rows ys, by omega, fin2 ys yl yp⟩
end
end Pu
set_option Elab.async false
set_option linter.all false
set_option maxRecDepth 100000
set_option synthInstance.maxHeartbeats 0
set_option synthInstance.maxSize 100000
namespace Pu
open PySem PySem.Spec PyProof.Rows L2
section
variable {Q : D → Prop} {n i j k e d c m p q f g A B b : Int} {r s l J a ls ls' u v T S : List Int} {ws L : List (List Int)} {x y : Int} {K : D → Prop} {env : PEnv} {dd t : D} {p' : List Int} {a' : Int}
end
end Pu
set_option Elab.async false
set_option linter.all false
set_option maxRecDepth 100000
set_option synthInstance.maxHeartbeats 0
set_option synthInstance.maxSize 100000
namespace Pu
open PySem PySem.Spec PyProof.Rows L2
section
variable {Q : D → Prop} {n i j k e d c m p q f g A B b P : Int} {r s l J a ls h v M T va vb u tl : List Int} {ws L X Y K1 S st : List (List Int)} {x y w z : Int} {kds : List (D × D)} {env : PEnv} {dd : D}
theorem sW_hi (h : 0 ≤ z) (q : Q (wD (L.take z.toNat))) : slcQ (wD L) none (some z) Q := by
  obtain ⟨k, rfl⟩ := Int.eq_ofNat_of_zero_le h
  exact ⟨immL_rows L, by rw [cut_take, rowsD, ← List.map_take]; exact q⟩
theorem sW_lo (h : 0 ≤ z) (q : Q (wD (L.drop z.toNat))) : slcQ (wD L) (some z) none Q := by
  obtain ⟨k, rfl⟩ := Int.eq_ofNat_of_zero_le h
  exact ⟨immL_rows L, by rw [cut_drop, rowsD, ← List.map_drop]; exact q⟩
theorem aW {a b : List (List Int)} (h : a.length + b.length ≤ sizeLine) (q : Q (wD (a ++ b))) : oAdd (wD a) (wD b) Q := ⟨immL_rows a, immL_rows b, by rw [rowsD, rowsD, List.length_map, List.length_map]; exact h, by rw [rowsD, rowsD, ← List.map_append]; exact q⟩
theorem sR_hi (h : 0 ≤ z) (q : Q (rD (r.take z.toNat))) : slcQ (rD r) none (some z) Q := by
  obtain ⟨k, rfl⟩ := Int.eq_ofNat_of_zero_le h
  exact y_slR_hi q
theorem sR_lo (h : 0 ≤ z) (q : Q (rD (r.drop z.toNat))) : slcQ (rD r) (some z) none Q := by
  obtain ⟨k, rfl⟩ := Int.eq_ofNat_of_zero_le h
  exact y_slR_lo q
def BkD (ws : List (List Int)) (d : D) : Prop := ∃ T st, d = .tup [rD T, wD st] ∧ T.length = st.length ∧ (∀ x ∈ T, 0 ≤ x ∧ x < 10) ∧ 1 ≤ st.length ∧ StOk ws.length st
theorem all_of {P : Int → Prop} {xs : List Int} {m : Int} (e : xs.length = (rangeI m).length) (h : ∀ (j : Nat) (x : Int) (y : Int), (rangeI m)[j]? = some x → xs[j]? = some y → P y) : ∀ y ∈ xs, P y := fun y hy => by
  obtain ⟨j, hj⟩ := List.mem_iff_getElem?.mp hy
  have jl := (List.getElem?_eq_some_iff.mp hj).1
  exact h j _ y (List.getElem?_eq_getElem (by omega)) hj
theorem all_of2 {P : List Int → Prop} {xs : List (List Int)} {m : Int} (e : xs.length = (rangeI m).length) (h : ∀ (j : Nat) (x : Int) (y : List Int), (rangeI m)[j]? = some x → xs[j]? = some y → P y) : ∀ y ∈ xs, P y := fun y hy => by
  obtain ⟨j, hj⟩ := List.mem_iff_getElem?.mp hy
  have jl := (List.getElem?_eq_some_iff.mp hj).1
  exact h j _ y (List.getElem?_eq_getElem (by omega)) hj
local macro_rules
  | `(tactic| and_intros) => `(tactic| (try simp only [Zaa, Zab, w_c, Zac, Zad, Zae, Zaf, Zag, Zah, Zai, Zaj, Zak, Zal, Zam, Zan, Zao, Zap, Zaq, Zar, Zas, Zat, Zau, Zav, Zaw, Zax, Zay, Zaz, ZaA, ZaB, ZaC, ZaD, ZaE, ZaF, ZaG, ZaH, ZaI, ZaJ, ZaK, ZaL, ZaM, ZaN, ZaO, ZaP, ZaQ, ZaR, ZaS, ZaT, ZaU, ZaV, ZaW, ZaX, ZaY, ZaZ, Za0, Za1, Za2, Za3, Za4, Za5, Za6, Za7, Za8, Za9, Zba, Zbb, Zbc, Zbd, Zbe, Zbf, Zbg, Zbh, Zbi, Zbj, Zbk, Zbl, Zbm, Zbn, Zbo, Zbp, Zbq, Zbr, Zbs, Zbt, Zbu, Zbv, Zbw, Zbx, Zby, Zbz, ZbA, List.length_cons, List.length_nil, Nat.reduceAdd, Nat.zero_add, ZbB, ZbC, ZbD, ZbE, y_W, ZbF, ZbG, ZbH, ZbI, ZbJ, ZbK, ZbL, ZbM, ZbN, ZbO, ZbP, ZbQ, ZbR, ZbS, sb1, sb2, sb3, sb4, sb5, sb6, sb7, sb8, sb9, ZbT, ZbU, ZbV, ZbW, ZbX, ZbY, ZbZ, Zb0, Zb1, Zb2, Zb3, Zb4, Zb5, Zb6, Zb7, List.map_id, id_eq, BEq.rfl, bne_self_eq_false, Zb8, Zb9, Zca, Zcb, Zcc, Zcd, Zce, Zcf, Zcg, Zch, Zci, Zcj, Zck, Zcl, Zcm, Zcn, Zco, Zcp, Zcq, Zcr, Zcs, Zct, Zcu, Zcv, Zcw, Zcx, Zcy, Zcz, ZcA, ZcB, ZcC, ZcD, true_and, and_true, Bool.and_self, Bool.and_true, Bool.true_and, Bool.not_true, Bool.not_false, Bool.false_eq_true, if_false, if_true, ite_true, ite_false, decide_true, decide_false, reduceIte, s_seqR, s_seqL, w_putN, Zbb, bk_off, bk_st, bk_tl]))
local macro_rules
  | `(tactic| array_get_dec) => `(tactic| (simp only [env0, List.map_cons, List.map_nil, List.length_cons, List.length_nil, List.replicate_succ, List.replicate_zero, List.cons_append, List.nil_append, Nat.reduceSub, Nat.reduceAdd, Nat.zero_add, Zaa, Zab, w_c, Zac, Zad, Zae, Zaf, Zag, Zah, Zai, Zaj, Zak, Zal, Zam, Zan, Zao, Zap, Zaq, Zar, Zas, Zat, Zau, Zav, Zaw, Zax, Zay, Zaz, ZaA, ZaB, ZaC, ZaD, ZaE, ZaF, ZaG, ZaH, ZaI, ZaJ, ZaK, ZaL, ZaM, ZaN, ZaO, ZaP, ZaQ, ZaR, ZaS, ZaT, ZaU, ZaV, ZaW, ZaX, ZaY, ZaZ, Za0, Za1, Za2, Za3, Za4, Za5, Za6, Za7, Za8, Za9, Zba, Zbb, Zbc, Zbd, Zbe, Zbf, Zbg, Zbh, Zbi, Zbj, Zbk, Zbl, Zbm, Zbn, Zbo, Zbp, Zbq, Zbr, Zbs, Zbt, Zbu, Zbv, Zbw, Zbx, Zby, Zbz, ZbA, List.length_cons, List.length_nil, Nat.reduceAdd, Nat.zero_add, ZbB, ZbC, ZbD, ZbE, y_W, ZbF, ZbG, ZbH, ZbI, ZbJ, ZbK, ZbL, ZbM, ZbN, ZbO, ZbP, ZbQ, ZbR, ZbS, sb1, sb2, sb3, sb4, sb5, sb6, sb7, sb8, sb9, ZbT, ZbU, ZbV, ZbW, ZbX, ZbY, ZbZ, Zb0, Zb1, Zb2, Zb3, Zb4, Zb5, Zb6, Zb7, List.map_id, id_eq, BEq.rfl, bne_self_eq_false, Zb8, Zb9, Zca, Zcb, Zcc, Zcd, Zce, Zcf, Zcg, Zch, Zci, Zcj, Zck, Zcl, Zcm, Zcn, Zco, Zcp, Zcq, Zcr, Zcs, Zct, Zcu, Zcv, Zcw, Zcx, Zcy, Zcz, ZcA, ZcB, ZcC, ZcD, true_and, and_true, Bool.and_self, Bool.and_true, Bool.true_and, Bool.not_true, Bool.not_false, Bool.false_eq_true, if_false, if_true, ite_true, ite_false, decide_true, decide_false, reduceIte, s_seqR, s_seqL, w_putN, Zbb, bk_off, bk_st, bk_tl]))
theorem any_book_ev {most : Int} (h4 : ws.length ≤ 10) (m1 : 1 ≤ most) (m2 : most ≤ 12) : FP m__law_any_book [dd, .int (ws.length : Nat), .int most] (BkD ws) := fun Q q => by
  have hs : 100000 ≤ sizeLine := by decide
  unfold m__law_any_book fnM b__law_any_book
  array_get_dec
  refine draw_ev (by omega) (by omega) fun z z0 z1 => ?_
  and_intros
  obtain ⟨m, hm⟩ : ∃ m : Int, 1 + z = m := ⟨_, rfl⟩
  rw [hm]
  refine y_rng (n := m) (by omega) (by omega) ?_
  refine lc_R (e := D.int) (fun _ x => 0 ≤ x ∧ x < 10) D.int (rangeI m) [] _ (by rw [rangeI_len]; simp; omega) (fun j hj R hR => ?_) fun T Tl Tp => ?_
  · and_intros
    exact draw_ev (by decide) (by decide) fun x x0 x1 => hR x ⟨x0, by omega⟩
  rw [List.nil_append, show T.map D.int = dInts T from rfl]
  and_intros
  refine y_rng (n := m) (by omega) (by omega) ?_
  refine lc_R (e := D.int) (fun _ l => l.length = ws.length ∧ ∀ x ∈ l, 0 ≤ x ∧ x < m) rD (rangeI m) [] _ (by rw [rangeI_len]; simp; omega) (fun j hj R hR => ?_) fun st sl sp => ?_
  · and_intros
    refine y_rng (n := (ws.length : Int)) (by omega) (by omega) ?_
    refine lc_R (e := D.int) (fun _ x => 0 ≤ x ∧ x < m) D.int (rangeI (ws.length : Int)) [] _ (by rw [rangeI_len]; simp; omega) (fun j hj R hR => ?_) fun l ll lp => ?_
    · and_intros
      exact draw_ev (by omega) (by omega) fun x x0 x1 => hR x ⟨x0, x1⟩
    rw [List.nil_append, show l.map D.int = dInts l from rfl]
    exact ⟨immL_dInts l, hR l ⟨by rw [ll, rangeI_len]; omega, all_of ll lp⟩⟩
  rw [List.nil_append]
  have a1 := all_of Tl Tp
  have a2 := all_of2 sl sp
  rw [rangeI_len] at Tl sl
  refine ⟨immL_rows st, by omega, q _ ⟨T, st, rfl, by omega, a1, by omega, by omega, fun l hl => ?_⟩⟩
  obtain ⟨b1, b2⟩ := a2 l hl
  exact ⟨b1, fun x hx => by have := b2 x hx; omega⟩
theorem turning_ev {most : Int} (h4 : ws.length ≤ 10) (m1 : 1 ≤ most) (m2 : most ≤ 12) : FP m__law_turning [dd, .int (ws.length : Nat), .int most] (BkD ws) := fun Q q => by
  have hs : 100000 ≤ sizeLine := by decide
  unfold m__law_turning fnM b__law_turning
  array_get_dec
  refine draw_ev (by omega) (by omega) fun z z0 z1 => ?_
  and_intros
  obtain ⟨m, hm⟩ : ∃ m : Int, 1 + z = m := ⟨_, rfl⟩
  rw [hm]
  refine y_rng (n := (ws.length : Int)) (by omega) (by omega) ?_
  refine lc_R (e := D.int) (fun _ x => 0 ≤ x ∧ x < m) D.int (rangeI (ws.length : Int)) [] _ (by rw [rangeI_len]; simp; omega) (fun j hj R hR => ?_) fun M Ml Mp => ?_
  · and_intros
    exact draw_ev (by omega) (by omega) fun x x0 x1 => hR x ⟨x0, x1⟩
  rw [List.nil_append, show M.map D.int = dInts M from rfl]
  and_intros
  refine y_rng (n := m) (by omega) (by omega) ?_
  refine lc_R (e := D.int) (fun _ x => 0 ≤ x ∧ x < 10) D.int (rangeI m) [] _ (by rw [rangeI_len]; simp; omega) (fun j hj R hR => ?_) fun T Tl Tp => ?_
  · and_intros
    exact draw_ev (by decide) (by decide) fun x x0 x1 => hR x ⟨x0, by omega⟩
  rw [List.nil_append, show T.map D.int = dInts T from rfl]
  rw [rangeI_len] at Ml
  and_intros
  refine y_rng (n := m) (by omega) (by omega) ?_
  refine lc_M (e := D.int) (fun k => M.map fun z => (k + z).fmod m) rD (by rw [rangeI_len]; omega) (fun k hk R hR => ?_) ?_
  · and_intros
    refine lc_M (e := D.int) (fun z => (k + z).fmod m) D.int (by omega) (fun z hz R hR => ?_) ?_
    · and_intros
      exact ⟨by omega, hR⟩
    · exact ⟨immL_dInts (M.map fun z => (k + z).fmod m), hR⟩
  have a1 := all_of Tl Tp
  rw [rangeI_len] at Tl
  have im : immL (((rangeI m).map fun k => M.map fun z => (k + z).fmod m).map rD) = true := immL_rows _
  refine ⟨im, by omega, q _ ⟨T, (rangeI m).map fun k => M.map fun z => (k + z).fmod m, rfl, by rw [List.length_map, rangeI_len]; omega, a1, by rw [List.length_map, rangeI_len]; omega, by rw [List.length_map, rangeI_len]; omega, fun l hl => ?_⟩⟩
  obtain ⟨k, _, rfl⟩ := List.mem_map.mp hl
  refine ⟨by rw [List.length_map, Ml]; omega, fun x hx => ?_⟩
  obtain ⟨z, _, rfl⟩ := List.mem_map.mp hx
  have := fmr (i := k + z) (j := m) (by omega)
  rw [List.length_map, rangeI_len]
  omega
theorem row_len (hst : StOk ws.length st) (h0 : 0 ≤ x) (h1 : x < (st.length : Int)) : (W st x).length = ws.length ∧ ∀ y ∈ W st x, 0 ≤ y ∧ y < (st.length : Int) := by
  unfold W
  rw [List.getD_eq_getElem?_getD, List.getElem?_eq_getElem (show x.toNat < st.length by omega)]
  exact hst.2 _ (List.getElem_mem _)
theorem doubled_ev {D0 : D} (h4 : ws.length ≤ 10) (hb : BkD ws D0) : FP m__law_doubled [dd, D0] (BkD ws) := fun Q q => by
  have hs : 100000 ≤ sizeLine := by decide
  obtain ⟨T, st, rfl, lt, ht, ne, hst⟩ := hb
  have h12 := hst.1
  unfold m__law_doubled fnM b__law_doubled
  array_get_dec
  (try rw [w_sif])
  and_intros
  split
  · exact q _ ⟨T, st, rfl, lt, ht, ne, hst⟩
  rename_i h6
  have h6 : ¬ (6 : Int) < (T.length : Int) := fun z => h6 (decide_eq_true z)
  obtain ⟨m, hm⟩ : ∃ m : Int, (T.length : Int) = m := ⟨_, rfl⟩
  rw [hm]
  refine ⟨by omega, .inl ⟨by decide, by decide⟩, y_rng (n := 2 * m) (by omega) (by omega) ?_⟩
  refine loop_I (fun u v env => ∃ st2 e6 e7, env = [some dd, some (D.tup [rD T, wD st]), some (rD T), some (wD st), some (.int m), some (.lst (rowsD st2)), e6, e7] ∧ st2.length = u.length ∧ ∀ l ∈ st2, l.length = ws.length ∧ ∀ x ∈ l, 0 ≤ x ∧ x < 2 * m) _ ⟨[], _, _, rfl, rfl, fun _ h => nomatch h⟩ ?_ ?_
  · rintro u j v env eu ⟨st2, e6, e7, rfl, sl, hr⟩
    have hj := mem_rangeI.mp (show j ∈ rangeI (2 * m) by rw [← eu]; simp)
    have ul : u.length < 12 := by have := congrArg List.length eu; rw [rangeI_len] at this; simp at this; omega
    have r1 := fmr (i := j) (j := m) (by omega)
    obtain ⟨rl, rr⟩ := row_len (ws := ws) (x := j.fmod m) hst r1.1 (by omega)
    and_intros
    refine ⟨by omega, y_ixW r1.1 (by omega) ?_⟩
    rw [s_seqR]
    refine lc_R (e := D.int) (fun _ x => 0 ≤ x ∧ x < 2 * m) D.int (W st (j.fmod m)) [] _ (by simp; omega) (fun y hy R hR => ?_) fun l ll lp => ?_
    · have hy := rr y hy
      and_intros
      refine draw_ev (by decide) (by decide) fun x x0 x1 => ?_
      and_intros
      refine ⟨.inl ⟨by omega, by omega⟩, ?_⟩
      have : x = 0 ∨ x = 1 := by omega
      rcases this with e | e
      · subst e
        rw [Int.mul_zero]
        exact hR _ ⟨by omega, by omega⟩
      · subst e
        rw [Int.mul_one]
        exact hR _ ⟨by omega, by omega⟩
    · rw [List.nil_append, show l.map D.int = dInts l from rfl]
      refine ⟨immL_dInts l, by first | omega | (rw [rowsD, List.length_map]; omega), st2 ++ [l], _, _, (by rw [show rowsD st2 ++ [D.tup (dInts l)] = rowsD (st2 ++ [l]) from by rw [rowsD, rowsD, List.map_append]; rfl]), by simp [sl], fun z hz => ?_⟩
      rcases List.mem_append.mp hz with w | w
      · exact hr z w
      · rw [List.mem_singleton.mp w]
        refine ⟨by omega, fun x hx => ?_⟩
        obtain ⟨t, ht⟩ := List.mem_iff_getElem?.mp hx
        have tl := (List.getElem?_eq_some_iff.mp ht).1
        exact lp t _ x (List.getElem?_eq_getElem (by omega)) ht
  · rintro env ⟨st2, e6, e7, rfl, sl, hr⟩
    rw [rangeI_len] at sl
    and_intros
    refine y_addR (by omega) ⟨by omega, q _ ⟨T ++ T, st2, rfl, by simp; omega, fun x hx => ?_, by omega, by omega, fun l hl => ?_⟩⟩
    · exact (List.mem_append.mp hx).elim (ht x) (ht x)
    · obtain ⟨b1, b2⟩ := hr l hl
      exact ⟨b1, fun x hx => by have := b2 x hx; omega⟩
theorem bent_ev {D0 : D} (h3 : 1 ≤ ws.length) (h4 : ws.length ≤ 10) (hb : BkD ws D0) : FP m__law_bent_2 [dd, D0] (BkD ws) := fun Q q => by
  have hs : 100000 ≤ sizeLine := by decide
  obtain ⟨T, st, rfl, lt, ht, ne, hst⟩ := hb
  have h12 := hst.1
  unfold m__law_bent_2 fnM b__law_bent_2
  array_get_dec
  refine draw_ev (by omega) (by omega) fun a a0 a1 => ?_
  (try rw [w_sif])
  and_intros
  refine draw_ev (by decide) (by decide) fun z z0 z1 => ?_
  and_intros
  split
  · refine sR_hi a0 (draw_ev (by decide) (by decide) fun x x0 x1 => ⟨by omega, y_addR (s := [x]) (by rw [List.length_take]; simp; omega) (sR_lo (by omega) (y_addR (by rw [List.length_append, List.length_take, List.length_drop]; simp; omega) ⟨by omega, q _ ⟨T.take a.toNat ++ [x] ++ T.drop (a + 1).toNat, st, rfl, ?_, fun y hy => ?_, ne, hst⟩⟩))⟩)
    · rw [List.length_append, List.length_append, List.length_take, List.length_drop, List.length_singleton]; omega
    · rcases List.mem_append.mp hy with w | w
      · rcases List.mem_append.mp w with w | w
        · exact ht y (List.mem_of_mem_take w)
        · rw [List.mem_singleton.mp w]; exact ⟨x0, x1⟩
      · exact ht y (List.mem_of_mem_drop w)
  · obtain ⟨rl, rr⟩ := row_len (ws := ws) (x := a) hst a0 (by omega)
    refine y_ixW a0 (by omega) ?_
    and_intros
    refine draw_ev (by omega) (by omega) fun w w0 w1 => ?_
    refine y_ixW a0 (by omega) ?_
    and_intros
    (try rw [show st.getD a.toNat [] = W st a from rfl])
    refine sR_hi w0 (draw_ev (by omega) (by omega) fun x x0 x1 => ⟨by omega, y_addR (s := [x]) (by rw [List.length_take, List.length_singleton]; omega) (y_ixW a0 (by omega) ?_)⟩)
    and_intros
    refine sR_lo (by omega) (y_addR (by rw [List.length_append, List.length_take, List.length_drop, List.length_singleton]; omega) ?_)
    generalize hl : W st a = l at rl rr w1
    have l2l : (l.take w.toNat ++ [x] ++ l.drop (w + 1).toNat).length = ws.length := by rw [List.length_append, List.length_append, List.length_take, List.length_drop, List.length_singleton]; omega
    have l2r : ∀ y ∈ l.take w.toNat ++ [x] ++ l.drop (w + 1).toNat, 0 ≤ y ∧ y < (st.length : Int) := fun y hy => by
      rcases List.mem_append.mp hy with v | v
      · rcases List.mem_append.mp v with v | v
        · exact rr y (List.mem_of_mem_take v)
        · rw [List.mem_singleton.mp v]; omega
      · exact rr y (List.mem_of_mem_drop v)
    generalize l.take w.toNat ++ [x] ++ l.drop (w + 1).toNat = l2 at l2l l2r
    refine sW_hi a0 ⟨Zcb, by omega, aW (b := [l2]) (by rw [List.length_take]; simp; omega) (sW_lo (by omega) (aW (by rw [List.length_append, List.length_take, List.length_drop]; simp; omega) ⟨by omega, q _ ⟨T, st.take a.toNat ++ [l2] ++ st.drop (a + 1).toNat, rfl, ?_, ht, ?_, ?_, fun y hy => ?_⟩⟩))⟩
    · rw [List.length_append, List.length_append, List.length_take, List.length_drop, List.length_singleton]; omega
    · rw [List.length_append, List.length_append, List.length_take, List.length_drop, List.length_singleton]; omega
    · rw [List.length_append, List.length_append, List.length_take, List.length_drop, List.length_singleton]; omega
    · have el : (st.take a.toNat ++ [l2] ++ st.drop (a + 1).toNat).length = st.length := by rw [List.length_append, List.length_append, List.length_take, List.length_drop, List.length_singleton]; omega
      rw [el]
      rcases List.mem_append.mp hy with v | v
      · rcases List.mem_append.mp v with v | v
        · exact hst.2 y (List.mem_of_mem_take v)
        · rw [List.mem_singleton.mp v]; exact ⟨l2l, l2r⟩
      · exact hst.2 y (List.mem_of_mem_drop v)
noncomputable def tail43 : XS := (sSeq (sSet 5 (xCall m__law_draw (xDice (xCons (xC (.int 4)) xNil)))) (sSeq (sIf (bTest (x2 oEq (xVar 5) (xC (.int 0)))) (sRet (xCall m__law_doubled (xDice (xCons (xVar 4) xNil)))) sNext) (sRet (xIf (bTest (x2 oEq (xVar 5) (xC (.int 1)))) (xCall m__law_bent_2 (xDice (xCons (xVar 4) xNil))) (xImm (xVar 4))))))
theorem tail43_ev {a1 a2 a3 a5 : Option D} {d : D} {E : PEnds} (h3 : 1 ≤ ws.length) (h4 : ws.length ≤ 10) (hd : BkD ws d) (q : ∀ z, BkD ws z → E.rt z) : tail43 E [some dd, a1, a2, a3, some d, a5] := by
  have di : d.imm = true := by
    obtain ⟨T, st, rfl, _⟩ := hd
    rw [Zcf, Zce, Zce, Zcb, Zcc]; rfl
  unfold tail43
  and_intros
  refine draw_ev (by decide) (by decide) fun z z0 z1 => ?_
  (try rw [w_sif])
  and_intros
  split
  · exact doubled_ev h4 hd _ q
  split
  · exact bent_ev h3 h4 hd _ q
  · exact ⟨di, q d hd⟩
theorem law_book_ev {most : Int} (hW : WsOk n ws) (m1 : 1 ≤ most) (m2 : most ≤ 12) : FP m__law_book [dd, pD n ws, .int most] (BkD ws) := fun Q q => by
  have hs : 100000 ≤ sizeLine := by decide
  obtain ⟨h1, h2, h3, h4, h5⟩ := id hW
  unfold m__law_book fnM b__law_book
  array_get_dec
  refine draw_ev (by decide) (by decide) fun z z0 z1 => ?_
  and_intros
  refine any_book_ev h4 m1 m2 _ fun d1 hd1 => ?_
  (try rw [w_sif])
  and_intros
  have T : ∀ (d : D), BkD ws d → tail43 { nx := fun x => Q D.non, rt := Q } [some dd, some (pD n ws), some (.int most), some (.int z), some d, none] := fun d hd => tail43_ev h3 h4 hd q
  split
  · rename_i hz
    have hz : z = 1 := of_decide_eq_true hz
    refine turning_ev h4 m1 m2 _ fun d2 hd2 => ?_
    (try rw [w_sif])
    and_intros
    rw [decide_eq_false (show ¬ 1 < z by omega)]
    and_intros
    exact T d2 hd2
  · (try rw [w_sif])
    and_intros
    split
    · refine of_desks_ev hW _ fun d2 ⟨T2, st, e, a1, a2, a3, a4, a5⟩ => ?_
      exact T d2 ⟨T2, st, e, a1, fun x hx => by have := a2 x hx; omega, a3, a4⟩
    · exact T d1 hd1
end
end Pu
set_option Elab.async false
set_option linter.all false
set_option maxRecDepth 100000
set_option synthInstance.maxHeartbeats 0
set_option synthInstance.maxSize 100000
namespace Pu
open PySem PySem.Spec PyProof.Rows L2
section
variable {Q : D → Prop} {n i j k e d c m p q f g A B b P : Int} {r s l J a ls h v M T va vb u tl row : List Int} {ws L X Y K1 S st : List (List Int)} {x y w z : Int} {kds : List (D × D)} {env : PEnv} {dd : D}
theorem w_own {c : Nat} {mf : XF} {neg : Bool} {m n : X1} : xOwn c mf neg m n env Q = m env fun d => n env fun e => isFzI c d ∧ isFzI c e ∧ mf [d, e] fun z => onB neg z Q := (rfl)
local macro_rules
  | `(tactic| and_intros) => `(tactic| (try simp only [Zaa, Zab, w_c, Zac, Zad, Zae, Zaf, Zag, Zah, Zai, Zaj, Zak, Zal, Zam, Zan, Zao, Zap, Zaq, Zar, Zas, Zat, Zau, Zav, Zaw, Zax, Zay, Zaz, ZaA, ZaB, ZaC, ZaD, ZaE, ZaF, ZaG, ZaH, ZaI, ZaJ, ZaK, ZaL, ZaM, ZaN, ZaO, ZaP, ZaQ, ZaR, ZaS, ZaT, ZaU, ZaV, ZaW, ZaX, ZaY, ZaZ, Za0, Za1, Za2, Za3, Za4, Za5, Za6, Za7, Za8, Za9, Zba, Zbb, Zbc, Zbd, Zbe, Zbf, Zbg, Zbh, Zbi, Zbj, Zbk, Zbl, Zbm, Zbn, Zbo, Zbp, Zbq, Zbr, Zbs, Zbt, Zbu, Zbv, Zbw, Zbx, Zby, Zbz, ZbA, List.length_cons, List.length_nil, Nat.reduceAdd, Nat.zero_add, ZbB, ZbC, ZbD, ZbE, y_W, ZbF, ZbG, ZbH, ZbI, ZbJ, ZbK, ZbL, ZbM, ZbN, ZbO, ZbP, ZbQ, ZbR, ZbS, sb1, sb2, sb3, sb4, sb5, sb6, sb7, sb8, sb9, ZbT, ZbU, ZbV, ZbW, ZbX, ZbY, ZbZ, Zb0, Zb1, Zb2, Zb3, Zb4, Zb5, Zb6, Zb7, List.map_id, id_eq, BEq.rfl, bne_self_eq_false, Zb8, Zb9, Zca, Zcb, Zcc, Zcd, Zce, Zcf, Zcg, Zch, Zci, Zcj, Zck, Zcl, Zcm, Zcn, Zco, Zcp, Zcq, Zcr, Zcs, Zct, Zcu, Zcv, Zcw, Zcx, Zcy, Zcz, ZcA, ZcB, ZcC, ZcD, true_and, and_true, Bool.and_self, Bool.and_true, Bool.true_and, Bool.not_true, Bool.not_false, Bool.false_eq_true, if_false, if_true, ite_true, ite_false, decide_true, decide_false, reduceIte, s_seqR, s_seqL, w_make, Zbb, bk_off, bk_st, bk_tl, w_own]))
local macro_rules
  | `(tactic| array_get_dec) => `(tactic| (simp only [env0, List.map_cons, List.map_nil, List.length_cons, List.length_nil, List.replicate_succ, List.replicate_zero, List.cons_append, List.nil_append, Nat.reduceSub, Nat.reduceAdd, Nat.zero_add, Zaa, Zab, w_c, Zac, Zad, Zae, Zaf, Zag, Zah, Zai, Zaj, Zak, Zal, Zam, Zan, Zao, Zap, Zaq, Zar, Zas, Zat, Zau, Zav, Zaw, Zax, Zay, Zaz, ZaA, ZaB, ZaC, ZaD, ZaE, ZaF, ZaG, ZaH, ZaI, ZaJ, ZaK, ZaL, ZaM, ZaN, ZaO, ZaP, ZaQ, ZaR, ZaS, ZaT, ZaU, ZaV, ZaW, ZaX, ZaY, ZaZ, Za0, Za1, Za2, Za3, Za4, Za5, Za6, Za7, Za8, Za9, Zba, Zbb, Zbc, Zbd, Zbe, Zbf, Zbg, Zbh, Zbi, Zbj, Zbk, Zbl, Zbm, Zbn, Zbo, Zbp, Zbq, Zbr, Zbs, Zbt, Zbu, Zbv, Zbw, Zbx, Zby, Zbz, ZbA, List.length_cons, List.length_nil, Nat.reduceAdd, Nat.zero_add, ZbB, ZbC, ZbD, ZbE, y_W, ZbF, ZbG, ZbH, ZbI, ZbJ, ZbK, ZbL, ZbM, ZbN, ZbO, ZbP, ZbQ, ZbR, ZbS, sb1, sb2, sb3, sb4, sb5, sb6, sb7, sb8, sb9, ZbT, ZbU, ZbV, ZbW, ZbX, ZbY, ZbZ, Zb0, Zb1, Zb2, Zb3, Zb4, Zb5, Zb6, Zb7, List.map_id, id_eq, BEq.rfl, bne_self_eq_false, Zb8, Zb9, Zca, Zcb, Zcc, Zcd, Zce, Zcf, Zcg, Zch, Zci, Zcj, Zck, Zcl, Zcm, Zcn, Zco, Zcp, Zcq, Zcr, Zcs, Zct, Zcu, Zcv, Zcw, Zcx, Zcy, Zcz, ZcA, ZcB, ZcC, ZcD, true_and, and_true, Bool.and_self, Bool.and_true, Bool.true_and, Bool.not_true, Bool.not_false, Bool.false_eq_true, if_false, if_true, ite_true, ite_false, decide_true, decide_false, reduceIte, s_seqR, s_seqL, w_make, Zbb, bk_off, bk_st, bk_tl, w_own]))
theorem led42 (hst : StOk ws.length st) (hr : InW ws row) (hx : 0 ≤ x ∧ x < (st.length : Int)) : FEv m_led_from [bkD n ws tl st, .int x, rD row] (.int (ledF st x row)) := fun Q q => by
  unfold m_led_from fnM b_led_from
  array_get_dec
  refine loop_I (fun u z env => ∃ e3, env = [some (bkD n ws tl st), some (.int (ledF st x u)), some (rD row), e3]) _ ⟨_, rfl⟩ ?_ ?_
  · rintro u w z env eu ⟨e3, rfl⟩
    have hw := hr w (by rw [← eu]; simp)
    have hu := led_from_ev hst u (fun y hy => hr y (by rw [← eu]; exact List.mem_append_left _ hy)) x hx
    have rl := led_step hst hu hw
    and_intros
    refine y_ixW hu.1 hu.2 ?_
    refine y_ixR hw.1 (by omega) ?_
    rw [← ledF_app]
    exact ⟨rfl, _, rfl⟩
  · rintro env ⟨e3, rfl⟩
    and_intros
    exact q
theorem stood42 (hst : StOk ws.length st) (ne : 1 ≤ st.length) (hw : InW ws r) (hl : r.length ≤ 1000) : FEv m_stood [bkD n ws tl st, rD r] (.int (ledF st 0 r)) := fun Q q => by
  have hs : 100000 ≤ sizeLine := by decide
  unfold m_stood fnM b_stood
  array_get_dec
  refine check_row_ev (by omega) hw _ ?_
  and_intros
  exact led42 hst hw ⟨by omega, by omega⟩ _ q
theorem told42 (hst : StOk ws.length st) (lt : tl.length = st.length) (ne : 1 ≤ st.length) (hw : InW ws r) (hl : r.length ≤ 1000) : FEv m_told [bkD n ws tl st, rD r] (.int (tl.getD (ledF st 0 r).toNat 0)) := fun Q q => by
  have hu := led_from_ev hst r hw 0 ⟨by omega, by omega⟩
  unfold m_told fnM b_told
  array_get_dec
  refine stood42 hst ne hw hl _ ?_
  exact y_ixR hu.1 (by omega) ⟨rfl, q⟩
theorem lstood42 (hst : StOk ws.length st) (hr : InW ws row) (hx : 0 ≤ x ∧ x < (st.length : Int)) : FEv m__law_stood [wD st, .int x, rD row] (.int (ledF st x row)) := fun Q q => by
  unfold m__law_stood fnM b__law_stood
  array_get_dec
  refine loop_I (fun u z env => ∃ e3, env = [some (wD st), some (.int (ledF st x u)), some (rD row), e3]) _ ⟨_, rfl⟩ ?_ ?_
  · rintro u w z env eu ⟨e3, rfl⟩
    have hw := hr w (by rw [← eu]; simp)
    have hu := led_from_ev hst u (fun y hy => hr y (by rw [← eu]; exact List.mem_append_left _ hy)) x hx
    have rl := led_step hst hu hw
    and_intros
    refine y_ixW hu.1 hu.2 ?_
    refine y_ixR hw.1 (by omega) ?_
    rw [← ledF_app]
    exact ⟨rfl, _, rfl⟩
  · rintro env ⟨e3, rfl⟩
    and_intros
    exact q
theorem row42_ev {m : Int} (h3 : 1 ≤ ws.length) (h4 : ws.length ≤ 10) (m0 : 0 ≤ m) (m1 : m ≤ 100) : FP m__law_row_3 [dd, .int (ws.length : Nat), .int m] (fun d => ∃ r : List Int, d = rD r ∧ (r.length : Int) = m ∧ InW ws r) := fun Q q => by
  have hs : 100000 ≤ sizeLine := by decide
  unfold m__law_row_3 fnM b__law_row_3
  array_get_dec
  refine y_rng (n := m) (by omega) (by omega) ?_
  refine lc_R (e := D.int) (fun _ x => 0 ≤ x ∧ x < (ws.length : Int)) D.int (rangeI m) [] _ (by rw [rangeI_len]; simp; omega) (fun j hj R hR => ?_) fun T Tl Tp => ?_
  · and_intros
    exact draw_ev (by omega) (by omega) fun x x0 x1 => hR x ⟨x0, by omega⟩
  rw [List.nil_append, show T.map D.int = dInts T from rfl]
  have a1 := all_of Tl Tp
  rw [rangeI_len] at Tl
  exact ⟨immL_dInts T, q _ ⟨T, rfl, by omega, a1⟩⟩
theorem repr42 (h0 : 0 ≤ i) (h1 : i < 12) {R : D → Prop} (q : R (.str (toString i))) : oRepr (.int i) R := ⟨Nat.lt_of_le_of_lt (Nat.log2_le_self _) (by omega), q⟩
theorem repr_ne (h0 : 0 ≤ i) (h1 : i < 12) (q : Q (.bl false)) : oNe (.str (toString i)) (.str (toString i)) Q := by
  have : i = 0 ∨ i = 1 ∨ i = 2 ∨ i = 3 ∨ i = 4 ∨ i = 5 ∨ i = 6 ∨ i = 7 ∨ i = 8 ∨ i = 9 ∨ i = 10 ∨ i = 11 := by omega
  rcases this with e | e | e | e | e | e | e | e | e | e | e | e <;>
    (subst e; refine ⟨by show SeqAt.shaped _ = true; decide +kernel, by show SeqAt.shaped _ = true; decide +kernel, ?_⟩; (first | exact q | (rw [show ∀ s : Str, D.eqb (.str s) (.str s) = true from fun s => by show PyData.eqv _ _ = true; simp [D.py, PyData.eqv]]; exact q)))
theorem office_eq_ev (h : WsOk n ws) : FEv m_Office___eq__ [oD n ws, oD n ws] (.bl true) := fun Q q => by
  obtain ⟨h1, h2, h3, h4, h5⟩ := id h
  unfold m_Office___eq__ fnM b_Office___eq__
  array_get_dec
  have go : ∀ {R : D → Prop}, R (.bl true) → oIsO 3 (oD n ws) R := fun hR => ⟨rfl, hR⟩
  refine go ?_
  and_intros
  exact q
theorem book_eq_ev (h : WsOk n ws) (hst : StOk ws.length st) (ht : tl.length ≤ 12) : FEv m_Book___eq__ [bkD n ws tl st, bkD n ws tl st] (.bl true) := fun Q q => by
  obtain ⟨h1, h2, h3, h4, h5⟩ := id h
  unfold m_Book___eq__ fnM b_Book___eq__
  array_get_dec
  have go : ∀ {R : D → Prop}, R (.bl true) → oIsO 4 (bkD n ws tl st) R := fun hR => ⟨rfl, hR⟩
  have fo : isFzI 3 (oD n ws) := ⟨rfl, y_imm_oD⟩
  refine go ?_
  and_intros
  refine ⟨fo, fo, ?_⟩
  refine office_eq_ev h _ ?_
  have gb : ∀ {R : D → Prop}, R (.bl true) → onB false (.bl true) R := fun hR => hR
  refine gb ?_
  and_intros
  exact q
theorem bk_imm42 : D.imm (bkD n ws tl st) = true := by
  show immF [("office", oD n ws), ("telling", rD tl), ("steps", wD st)] = true
  rw [immF_eq]
  show immL [oD n ws, rD tl, wD st] = true
  rw [Zce, Zce, Zce, y_imm_oD, Zcb, Zcc]
  rfl
theorem pure_law_k42 : b_law_k42 lawEnds (List.replicate 11 none) := by
  have hs : 100000 ≤ sizeLine := by decide
  unfold b_law_k42
  array_get_dec
  refine y_rng (by decide) (by decide) ?_
  refine loop_I (fun p s env => ∃ e2 e3 e4 e5 e6 e7 e8 e9 e10, env = [none, none, e2, e3, e4, e5, e6, e7, e8, e9, e10]) _ ⟨_, _, _, _, _, _, _, _, _, rfl⟩ ?_ ?_
  · rintro p i s env e ⟨e2, e3, e4, e5, e6, e7, e8, e9, e10, rfl⟩
    and_intros
    refine office_ev (by decide) (by decide) _ fun d ⟨n, ws, e, h⟩ => ?_
    subst e
    obtain ⟨h1, h2, h3, h4, h5⟩ := id h
    and_intros
    refine law_book_ev h (by decide) (by decide) _ fun d ⟨T, st, e, lt, ht, ne, hst⟩ => ?_
    subst e
    have h12 := hst.1
    and_intros
    refine made_ev h _ ?_
    refine book_ev ne lt ht hst h4 ?_
    rw [mk_bk]
    and_intros
    refine ⟨by omega, y_rng (n := 5) (by decide) (by decide) ?_⟩
    have fb : isFzI 4 (bkD n ws T st) := ⟨rfl, bk_imm42⟩
    have t10 : ∀ x : Int, 0 ≤ x → x < (st.length : Int) → 0 ≤ T.getD x.toNat 0 ∧ T.getD x.toNat 0 < 10 := fun x x0 x1 => by
      rw [List.getD_eq_getElem?_getD, List.getElem?_eq_getElem (show x.toNat < T.length by omega)]
      exact ht _ (List.getElem_mem _)
    refine loop_I (fun u v env => ∃ r e9 e10, env = [none, none, some (.int i), some (pD n ws), some (rD T), some (wD st), some (bkD n ws T st), some (.int (ledF st 0 r)), some (rD r), e9, e10] ∧ InW ws r ∧ r.length ≤ 12 * u.length) _ ⟨[], _, _, rfl, (fun _ h => nomatch h), by simp⟩ ?_ ?_
    · rintro u j v env eu ⟨r, e9, e10, rfl, hw, rl⟩
      have ul : u.length < 5 := by have := congrArg List.length eu; rw [rangeI_len] at this; simp at this; omega
      and_intros
      refine draw_ev (by decide) (by decide) fun m m0 m1 => ?_
      refine row42_ev h3 h4 m0 (by omega) _ fun d ⟨r2, e, rl2, hw2⟩ => ?_
      subst e
      have hw3 : InW ws (r ++ r2) := fun y hy => (List.mem_append.mp hy).elim (hw y) (hw2 y)
      have hu := led_from_ev hst r hw 0 ⟨by omega, by omega⟩
      have hu3 := led_from_ev hst (r ++ r2) hw3 0 ⟨by omega, by omega⟩
      and_intros
      refine y_addR (by omega) ?_
      and_intros
      refine lstood42 hst hw2 hu _ ?_
      rw [show ledF st (ledF st 0 r) r2 = ledF st 0 (r ++ r2) from List.foldl_append.symm]
      have l3 : (r ++ r2).length ≤ 60 := by rw [List.length_append]; omega
      have tb := t10 _ hu3.1 hu3.2
      (try rw [w_sif])
      and_intros
      refine stood42 hst ne hw3 (by omega) _ ?_
      refine repr42 hu3.1 (by omega) (repr42 hu3.1 (by omega) (repr_ne hu3.1 (by omega) ?_))
      and_intros
      refine told42 hst lt ne hw3 (by omega) _ ?_
      refine repr42 tb.1 (by omega) (y_ixR hu3.1 (by omega) (repr42 tb.1 (by omega) (repr_ne tb.1 (by omega) ?_)))
      and_intros
      exact ⟨_, _, _, rfl, hw3, by rw [List.length_append, List.length_append, List.length_singleton]; omega⟩
    · rintro env ⟨r, e9, e10, rfl, hw, rl⟩
      rw [rangeI_len] at rl
      have hu := led_from_ev hst r hw 0 ⟨by omega, by omega⟩
      (try rw [w_sif])
      and_intros
      refine ⟨by omega, stood42 (r := []) hst ne (fun _ h => nomatch h) (by simp) _ ?_⟩
      rw [show ledF st 0 [] = 0 from rfl]
      and_intros
      refine ⟨by omega, told42 (r := []) hst lt ne (fun _ h => nomatch h) (by simp) _ ?_⟩
      rw [show ledF st 0 [] = 0 from rfl]
      refine y_ixR (by decide) (by omega) ?_
      and_intros
      refine made_ev h _ ?_
      refine book_ev ne lt ht hst h4 ?_
      rw [mk_bk]
      refine ⟨fb, fb, book_eq_ev h hst (by omega) _ ?_⟩
      have gb : ∀ {R : D → Prop}, R (.bl false) → onB true (.bl true) R := fun hR => hR
      refine gb ?_
      and_intros
      refine stood42 hst ne hw (by omega) _ ?_
      and_intros
      exact ⟨_, _, _, _, _, _, _, _, _, rfl⟩
  · rintro env ⟨e2, e3, e4, e5, e6, e7, e8, e9, e10, rfl⟩
    and_intros
    rfl
end
end Pu
set_option Elab.async false
set_option linter.all false
set_option maxRecDepth 100000
set_option synthInstance.maxHeartbeats 0
set_option synthInstance.maxSize 100000
namespace Pu
open PySem PySem.Spec PyProof.Rows L2
end Pu
open PySem PySem.W PyProof.Rows
set_option maxHeartbeats 0 in
theorem PySem.Challenge.cw_latestword_k42_whole_standings_and_numbe_holds : PySem.Challenge.rw_latestword_k42_whole_standings_and_numbe.Holds := by
  w_on; o_law; k_head; (case hw => w_witness2)
  k_fill
  refine L2.walk_of (l := PySem.Challenge.rw_latestword_k42_whole_standings_and_numbe) (n := 63) (k := 9) (x := "script") (CX := fun _ => L2.CX0) (sp := fun w => Pu.spLaw _) rfl (by decide) rfl ⟨rfl, by decide, by decide⟩ (fun w h Y => PySem.W.kIn_of Y) ?F (fun _ _ a ns hl _ hS => ⟨a, ns, rfl, hS, hl, fun _ => rfl⟩) (fun _ _ _ _ _ h => h)
  case F =>
    intro w mg fa h KX G hmg
    refine' Pu.all_mk KX G hmg ?a_is_integer ?l_is_integer ?c_is_integer ?k_is_integer ?a_is_number ?l_is_number ?c_is_number ?k_is_number ?a_is_below ?l_is_below ?c_is_below ?k_is_below ?a_is_lot ?l_is_lot ?c_is_lot ?k_is_lot ?a_are_works ?l_are_works ?c_are_works ?k_are_works ?a_check_row ?l_check_row ?c_check_row ?k_check_row ?a_are_office_works ?l_are_office_works ?c_are_office_works ?k_are_office_works ?a_is_telling ?l_is_telling ?c_is_telling ?k_is_telling ?a_are_standings ?l_are_standings ?c_are_standings ?k_are_standings ?a_are_steps ?l_are_steps ?c_are_steps ?k_are_steps ?a_led_from ?l_led_from ?c_led_from ?k_led_from ?a_stood ?l_stood ?c_stood ?k_stood ?a_told ?l_told ?c_told ?k_told ?a__law_pool ?l__law_pool ?c__law_pool ?k__law_pool ?a__law_draw ?l__law_draw ?c__law_draw ?k__law_draw ?a__law_lot ?l__law_lot ?c__law_lot ?k__law_lot ?a__law_office ?l__law_office ?c__law_office ?k__law_office ?a__law_made ?l__law_made ?c__law_made ?k__law_made ?a__law_any_book ?l__law_any_book ?c__law_any_book ?k__law_any_book ?a__law_turning ?l__law_turning ?c__law_turning ?k__law_turning ?a__law_of_desks ?l__law_of_desks ?c__law_of_desks ?k__law_of_desks ?a__law_doubled ?l__law_doubled ?c__law_doubled ?k__law_doubled ?a__law_bent ?l__law_bent ?c__law_bent ?k__law_bent ?a__law_book ?l__law_book ?c__law_book ?k__law_book ?a__law_stood ?l__law_stood ?c__law_stood ?k__law_stood ?a__law_row ?l__law_row ?c__law_row ?k__law_row ?a_law ?l_law ?c_law ?k_law ?a_Office ?i_Office ?j_Office ?l_Office_init ?c_Office_init ?k_Office_init ?pg_Office ?hd_Office ?po_Office ?sa_Office ?mk_Office ?kc_Office ?a_Book ?i_Book ?j_Book ?l_Book_init ?c_Book_init ?k_Book_init ?pg_Book ?hd_Book ?po_Book ?sa_Book ?mk_Book ?kc_Book ?hm_Office___eq__ ?hf_Office___eq__ ?l_Office___eq__ ?c_Office___eq__ ?k_Office___eq__ ?hm_Book___eq__ ?hf_Book___eq__ ?l_Book___eq__ ?c_Book___eq__ ?k_Book___eq__ ?oa_Book ?og_Book ?ot_Book ?om_Book ?on_Book ?oo_Book ?oa_Office ?og_Office ?ot_Office ?om_Office ?on_Office ?oo_Office ?na_Book_office ?na_Book_steps ?na_Book_telling ?na_Office_desks ?na_Office_works ?n_abs ?n_all ?n_bool ?n_int ?n_isinstance ?n_len ?n_list ?n_range ?n_repr ?n_set ?n_sorted ?n_sum ?n_tuple ?n_zip ?a_MOST_DESKS ?a_MOST_STANDINGS ?a_MOST_TOLD ?a_MOST_WORKS Pu.pure_law_k42
    (case a_is_integer => k_is)
    (case l_is_integer => k_is)
    (case c_is_integer => k_is)
    (case k_is_integer => k_is)
    (case a_is_number => k_is)
    (case l_is_number => k_is)
    (case c_is_number => k_is)
    (case k_is_number => k_is)
    (case a_is_below => k_is)
    (case l_is_below => k_is)
    (case c_is_below => k_is)
    (case k_is_below => k_is)
    (case a_is_lot => k_is)
    (case l_is_lot => k_is)
    (case c_is_lot => k_is)
    (case k_is_lot => k_is)
    (case a_are_works => k_is)
    (case l_are_works => k_is)
    (case c_are_works => k_is)
    (case k_are_works => k_is)
    (case a_check_row => k_is)
    (case l_check_row => k_is)
    (case c_check_row => k_is)
    (case k_check_row => k_is)
    (case a_are_office_works => k_is)
    (case l_are_office_works => k_is)
    (case c_are_office_works => k_is)
    (case k_are_office_works => k_is)
    (case a_is_telling => k_is)
    (case l_is_telling => k_is)
    (case c_is_telling => k_is)
    (case k_is_telling => k_is)
    (case a_are_standings => k_is)
    (case l_are_standings => k_is)
    (case c_are_standings => k_is)
    (case k_are_standings => k_is)
    (case a_are_steps => k_is)
    (case l_are_steps => k_is)
    (case c_are_steps => k_is)
    (case k_are_steps => k_is)
    (case a_led_from => k_is)
    (case l_led_from => k_is)
    (case c_led_from => k_is)
    (case k_led_from => k_is)
    (case a_stood => k_is)
    (case l_stood => k_is)
    (case c_stood => k_is)
    (case k_stood => k_is)
    (case a_told => k_is)
    (case l_told => k_is)
    (case c_told => k_is)
    (case k_told => k_is)
    (case a__law_pool => k_is)
    (case l__law_pool => k_is)
    (case c__law_pool => k_is)
    (case k__law_pool => k_is)
    (case a__law_draw => k_is)
    (case l__law_draw => k_is)
    (case c__law_draw => k_is)
    (case k__law_draw => k_is)
    (case a__law_lot => k_is)
    (case l__law_lot => k_is)
    (case c__law_lot => k_is)
    (case k__law_lot => k_is)
    (case a__law_office => k_is)
    (case l__law_office => k_is)
    (case c__law_office => k_is)
    (case k__law_office => k_is)
    (case a__law_made => k_is)
    (case l__law_made => k_is)
    (case c__law_made => k_is)
    (case k__law_made => k_is)
    (case a__law_any_book => k_is)
    (case l__law_any_book => k_is)
    (case c__law_any_book => k_is)
    (case k__law_any_book => k_is)
    (case a__law_turning => k_is)
    (case l__law_turning => k_is)
    (case c__law_turning => k_is)
    (case k__law_turning => k_is)
    (case a__law_of_desks => k_is)
    (case l__law_of_desks => k_is)
    (case c__law_of_desks => k_is)
    (case k__law_of_desks => k_is)
    (case a__law_doubled => k_is)
    (case l__law_doubled => k_is)
    (case c__law_doubled => k_is)
    (case k__law_doubled => k_is)
    (case a__law_bent => k_is)
    (case l__law_bent => k_is)
    (case c__law_bent => k_is)
    (case k__law_bent => k_is)
    (case a__law_book => k_is)
    (case l__law_book => k_is)
    (case c__law_book => k_is)
    (case k__law_book => k_is)
    (case a__law_stood => k_is)
    (case l__law_stood => k_is)
    (case c__law_stood => k_is)
    (case k__law_stood => k_is)
    (case a__law_row => k_is)
    (case l__law_row => k_is)
    (case c__law_row => k_is)
    (case k__law_row => k_is)
    (case a_law => k_is)
    (case l_law => k_is)
    (case c_law => k_is)
    (case k_law => k_is)
    (case a_Office => k_is)
    (case i_Office => k_is)
    (case j_Office => k_is)
    (case l_Office_init => k_is)
    (case c_Office_init => k_is)
    (case k_Office_init => k_is)
    (case pg_Office => k_is)
    (case hd_Office => k_is)
    (case po_Office => k_is)
    (case sa_Office => k_is)
    (case mk_Office => k_is)
    (case kc_Office => k_is)
    (case a_Book => k_is)
    (case i_Book => k_is)
    (case j_Book => k_is)
    (case l_Book_init => k_is)
    (case c_Book_init => k_is)
    (case k_Book_init => k_is)
    (case pg_Book => k_is)
    (case hd_Book => k_is)
    (case po_Book => k_is)
    (case sa_Book => k_is)
    (case mk_Book => k_is)
    (case kc_Book => k_is)
    (case hm_Office___eq__ => k_is)
    (case hf_Office___eq__ => k_is)
    (case l_Office___eq__ => k_is)
    (case c_Office___eq__ => k_is)
    (case k_Office___eq__ => k_is)
    (case hm_Book___eq__ => k_is)
    (case hf_Book___eq__ => k_is)
    (case l_Book___eq__ => k_is)
    (case c_Book___eq__ => k_is)
    (case k_Book___eq__ => k_is)
    (case oa_Book => k_is)
    (case og_Book => k_is)
    (case ot_Book => k_is)
    (case om_Book => k_is)
    (case on_Book => k_is)
    (case oo_Book => k_is)
    (case oa_Office => k_is)
    (case og_Office => k_is)
    (case ot_Office => k_is)
    (case om_Office => k_is)
    (case on_Office => k_is)
    (case oo_Office => k_is)
    (case na_Book_office => k_is)
    (case na_Book_steps => k_is)
    (case na_Book_telling => k_is)
    (case na_Office_desks => k_is)
    (case na_Office_works => k_is)
    (case n_abs => k_is)
    (case n_all => k_is)
    (case n_bool => k_is)
    (case n_int => k_is)
    (case n_isinstance => k_is)
    (case n_len => k_is)
    (case n_list => k_is)
    (case n_range => k_is)
    (case n_repr => k_is)
    (case n_set => k_is)
    (case n_sorted => k_is)
    (case n_sum => k_is)
    (case n_tuple => k_is)
    (case n_zip => k_is)
    (case a_MOST_DESKS => k_is)
    (case a_MOST_STANDINGS => k_is)
    (case a_MOST_TOLD => k_is)
    (case a_MOST_WORKS => k_is)
