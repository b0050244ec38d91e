import PyProof.Rows.All
import Wide.All
import OpenK.AllK
import Wide.FinOn
import HandS.ForMost
import HandS.Evl
import HandS.TupAny
import HandS.TupLe
import HandS.Wide
import HandS.Deep
import HandS.Zip
import HandS.Conv
import HandS.SortInts
import HandS.IsInst
import HandS.More
import PyProof.Rows.TupDisplay
import KE.KDictDisplayH
import KE.GoesMore
import HandS.SortRule
import HandS.TupLen
import HandS.WordsDict
import HandS.SetFor
import HandS.Strs
import KE.DatumOrd
import PySem.Challenge.RW_latestword_k06_whole_least_rows
/-! file PuCore -/
set_option Elab.async false
set_option linter.all false
set_option maxRecDepth 100000
/-! Pu: a calculus of plain data over the hand layer. -/
namespace Pu
open PySem PySem.Spec PyProof.Rows L2

/-! ### plain data -/
inductive D where
  | non
  | bl (b : Bool)
  | int (i : Int)
  | str (x : Str)
  | tup (xs : List D)
  | lst (xs : List D)
  | dK (kvs : List (Key × D))
  | dT (kvs : List (List Key × D))
  | obj (c : Nat) (fs : List (Str × D))

mutual
def D.imm : D → Bool
  | .tup xs => immL xs
  | .lst _ => false
  | .dK _ => false
  | .dT _ => false
  | .obj _ _ => false
  | _ => true
def immL : List D → Bool
  | [] => true
  | d :: ds => D.imm d && immL ds
end

/-! ### data in a heap; F: the addresses of what may change -/
mutual
inductive Rp (CT : Nat → Addr) (H : Hp) : V → D → List Addr → Prop
  | non : Rp CT H .non .non []
  | bl (b : Bool) : Rp CT H (.bl b) (.bl b) []
  | int (i : Int) : Rp CT H (.int i) (.int i) []
  | str (x : Str) : Rp CT H (.str x) (.str x) []
  | tup {a : Addr} {vs : List V} {ds : List D} {F : List Addr} : H a = some (.tup vs) → Rps CT H vs ds F → Rp CT H (.ref a) (.tup ds) F
  | lst {a : Addr} {vs : List V} {ds : List D} {F : List Addr} : H a = some (.lst vs) → Rps CT H vs ds F → Rp CT H (.ref a) (.lst ds) (a :: F)
  | dK {a : Addr} {kvs : List (Key × V)} {kds : List (Key × D)} {F : List Addr} : H a = some (.dK kvs) → kvs.map (·.1) = kds.map (·.1) → Rps CT H (kvs.map (·.2)) (kds.map (·.2)) F → Rp CT H (.ref a) (.dK kds) (a :: F)
  | dT {a : Addr} {kvs : List (List Key × V)} {kds : List (List Key × D)} {F : List Addr} : H a = some (.dT kvs) → kvs.map (·.1) = kds.map (·.1) → Rps CT H (kvs.map (·.2)) (kds.map (·.2)) F → Rp CT H (.ref a) (.dT kds) (a :: F)
  | obj {a dx : Addr} {c : Nat} {fs : List (Str × V)} {gs : List (Str × D)} {F : List Addr} : H a = some (.ins (CT c) dx fs) → fs.map (·.1) = gs.map (·.1) → Rps CT H (fs.map (·.2)) (gs.map (·.2)) F → Rp CT H (.ref a) (.obj c gs) (a :: F)
inductive Rps (CT : Nat → Addr) (H : Hp) : List V → List D → List Addr → Prop
  | nil : Rps CT H [] [] []
  | cons {v : V} {d : D} {F G : List Addr} {vs : List V} {ds : List D} : Rp CT H v d F → Rps CT H vs ds G → Rps CT H (v :: vs) (d :: ds) (F ++ G)
end

def Im : HO → Bool
  | .tup _ => true
  | .frz _ _ => true
  | _ => false
/-- outside of W all is kept -/
structure Fr (W : Addr → Prop) (H H' : Hp) : Prop where
  keep : ∀ a o, H a = some o → ¬ W a → H' a = some o
  im : ∀ a o, H a = some o → Im o = true → H' a = some o
  there : ∀ a, H' a = none → H a = none

section
variable {W W' : Addr → Prop} {H H' H1 H2 : Hp} {CT : Nat → Addr} {v : V} {vs : List V} {d : D} {ds : List D} {F : List Addr}
theorem Fr.refl : Fr W H H := ⟨fun _ _ h _ => h, fun _ _ h _ => h, fun _ h => h⟩
theorem Fr.trans (a : Fr W H H1) (b : Fr W H1 H2) : Fr W H H2 :=
  ⟨fun x o h n => b.keep x o (a.keep x o h n) n, fun x o h n => b.im x o (a.im x o h n) n, fun x h => a.there x (b.there x h)⟩
theorem Fr.mono (a : Fr W H H1) (h : ∀ x, W x → W' x) : Fr W' H H1 := ⟨fun x o e n => a.keep x o e fun w => n (h x w), a.im, a.there⟩
theorem Fr.new {p : Addr} {o : HO} (h : H p = none) : Fr W H (upd H p o) := by
  refine ⟨fun a u e _ => ?_, fun a u e _ => ?_, fun a e => ?_⟩
  · rw [upd_ne (ne_of_none e h)]; exact e
  · rw [upd_ne (ne_of_none e h)]; exact e
  · by_cases q : a = p
    · rw [q]; exact h
    · rw [upd_ne q] at e; exact e
theorem Fr.at {p : Addr} {o u : HO} (w : W p) (h : H p = some u) (i : Im u = false) : Fr W H (upd H p o) := by
  refine ⟨fun a x e n => ?_, fun a x e n => ?_, fun a e => ?_⟩
  · rw [upd_ne (fun q => n (by rw [q]; exact w))]; exact e
  · rw [upd_ne (fun q => by subst q; rw [h] at e; cases e; rw [i] at n; cases n)]; exact e
  · by_cases q : a = p
    · rw [q, upd_same] at e; cases e
    · rw [upd_ne q] at e; exact e
theorem Fr.some_of (a : Fr W H H1) {x : Addr} (h : H x ≠ none) : H1 x ≠ none := fun e => h (a.there x e)

mutual
theorem Rp.keep : ∀ {v : V} {d : D} {F : List Addr}, Rp CT H v d F → Fr W H H' → (∀ a ∈ F, ¬ W a) → Rp CT H' v d F
  | _, _, _, .non, _, _ => .non
  | _, _, _, .bl b, _, _ => .bl b
  | _, _, _, .int b, _, _ => .int b
  | _, _, _, .str b, _, _ => .str b
  | _, _, _, .tup h r, f, n => .tup (f.im _ _ h rfl) (Rps.keep r f n)
  | _, _, _, .lst h r, f, n => .lst (f.keep _ _ h (n _ List.mem_cons_self)) (Rps.keep r f fun a m => n a (List.mem_cons_of_mem _ m))
  | _, _, _, .dK h k r, f, n => .dK (f.keep _ _ h (n _ List.mem_cons_self)) k (Rps.keep r f fun a m => n a (List.mem_cons_of_mem _ m))
  | _, _, _, .dT h k r, f, n => .dT (f.keep _ _ h (n _ List.mem_cons_self)) k (Rps.keep r f fun a m => n a (List.mem_cons_of_mem _ m))
  | _, _, _, .obj h k r, f, n => .obj (f.keep _ _ h (n _ List.mem_cons_self)) k (Rps.keep r f fun a m => n a (List.mem_cons_of_mem _ m))
theorem Rps.keep : ∀ {vs : List V} {ds : List D} {F : List Addr}, Rps CT H vs ds F → Fr W H H' → (∀ a ∈ F, ¬ W a) → Rps CT H' vs ds F
  | _, _, _, .nil, _, _ => .nil
  | _, _, _, .cons h r, f, n => .cons (Rp.keep h f fun a m => n a (List.mem_append_left _ m)) (Rps.keep r f fun a m => n a (List.mem_append_right _ m))
end
mutual
theorem Rp.tracked : ∀ {v : V} {d : D} {F : List Addr}, Rp CT H v d F → ∀ a ∈ F, H a ≠ none
  | _, _, _, .non, a, m => absurd m (by simp)
  | _, _, _, .bl b, a, m => absurd m (by simp)
  | _, _, _, .int b, a, m => absurd m (by simp)
  | _, _, _, .str b, a, m => absurd m (by simp)
  | _, _, _, .tup h r, a, m => Rps.tracked r a m
  | _, _, _, .lst h r, a, m => by
    rcases List.mem_cons.mp m with e | m
    · rw [e, h]; exact fun z => nomatch z
    · exact Rps.tracked r a m
  | _, _, _, .dK h _ r, a, m => by
    rcases List.mem_cons.mp m with e | m
    · rw [e, h]; exact fun z => nomatch z
    · exact Rps.tracked r a m
  | _, _, _, .dT h _ r, a, m => by
    rcases List.mem_cons.mp m with e | m
    · rw [e, h]; exact fun z => nomatch z
    · exact Rps.tracked r a m
  | _, _, _, .obj h _ r, a, m => by
    rcases List.mem_cons.mp m with e | m
    · rw [e, h]; exact fun z => nomatch z
    · exact Rps.tracked r a m
theorem Rps.tracked : ∀ {vs : List V} {ds : List D} {F : List Addr}, Rps CT H vs ds F → ∀ a ∈ F, H a ≠ none
  | _, _, _, .nil, a, m => absurd m (by simp)
  | _, _, _, .cons h r, a, m => by
    rcases List.mem_append.mp m with m | m
    · exact Rp.tracked h a m
    · exact Rps.tracked r a m
end
mutual
theorem Rp.imm : ∀ {v : V} {d : D} {F : List Addr}, Rp CT H v d F → d.imm = true → F = []
  | _, _, _, .non, _ => rfl
  | _, _, _, .bl b, _ => rfl
  | _, _, _, .int b, _ => rfl
  | _, _, _, .str b, _ => rfl
  | _, _, _, .tup h r, e => Rps.imm r (by simpa [D.imm] using e)
  | _, _, _, .lst h r, e => by simp [D.imm] at e
  | _, _, _, .dK h _ r, e => by simp [D.imm] at e
  | _, _, _, .dT h _ r, e => by simp [D.imm] at e
  | _, _, _, .obj h _ r, e => by simp [D.imm] at e
theorem Rps.imm : ∀ {vs : List V} {ds : List D} {F : List Addr}, Rps CT H vs ds F → immL ds = true → F = []
  | _, _, _, .nil, _ => rfl
  | _, _, _, .cons h r, e => by
    simp [immL] at e
    rw [Rp.imm h e.1, Rps.imm r e.2]
    rfl
end
theorem Rps.length : ∀ {vs : List V} {ds : List D} {F : List Addr}, Rps CT H vs ds F → vs.length = ds.length
  | _, _, _, .nil => rfl
  | _, _, _, .cons _ r => by simp [Rps.length r]
theorem Rps.get : ∀ {vs : List V} {ds : List D} {F : List Addr} {j : Nat} {d : D}, Rps CT H vs ds F → ds[j]? = some d → ∃ v G, vs[j]? = some v ∧ Rp CT H v d G ∧ G.Sublist F
  | _, _, _, _, _, .nil, e => by simp at e
  | _, _, _, 0, _, .cons (F := F) h r, e => by
    simp at e; subst e
    exact ⟨_, _, rfl, h, List.sublist_append_left _ _⟩
  | _, _, _, j + 1, _, .cons h r, e => by
    obtain ⟨v, G, h1, h2, h3⟩ := Rps.get (j := j) r (by simpa using e)
    exact ⟨v, G, by simpa using h1, h2, h3.trans (List.sublist_append_right _ _)⟩
theorem Rps.append : ∀ {vs : List V} {ds : List D} {F : List Addr} {ws : List V} {es : List D} {G : List Addr}, Rps CT H vs ds F → Rps CT H ws es G → Rps CT H (vs ++ ws) (ds ++ es) (F ++ G)
  | _, _, _, _, _, _, .nil, s => s
  | _, _, _, _, _, _, .cons h r, s => by
    rw [List.append_assoc]
    exact .cons h (Rps.append r s)
/-- a row of data that cannot change, item by item -/
theorem Rps.of_imm : ∀ {vs : List V} {ds : List D}, vs.length = ds.length → (∀ (j : Nat) (v : V) (d : D), vs[j]? = some v → ds[j]? = some d → Rp CT H v d []) → Rps CT H vs ds []
  | [], [], _, _ => .nil
  | v :: vs, d :: ds, l, h => by
    have := Rps.cons (h 0 v d rfl rfl) (Rps.of_imm (vs := vs) (ds := ds) (by simpa using l) fun j v' d' e1 e2 => h (j + 1) v' d' (by simpa using e1) (by simpa using e2))
    simpa using this
  | [], _ :: _, l, _ => by simp at l
  | _ :: _, [], l, _ => by simp at l
theorem Rps.at (r : Rps CT H vs ds []) {j : Nat} {v : V} {d : D} (e1 : vs[j]? = some v) (e2 : ds[j]? = some d) : Rp CT H v d [] := by
  obtain ⟨v', G, h1, h2, h3⟩ := r.get e2
  rw [e1] at h1; cases h1
  rw [List.sublist_nil.mp h3] at h2
  exact h2
theorem Rps.take (r : Rps CT H vs ds []) (n : Nat) : Rps CT H (vs.take n) (ds.take n) [] := by
  refine Rps.of_imm (by simp [r.length]) fun j v d e1 e2 => ?_
  rw [List.getElem?_take] at e1 e2
  split at e1
  · rename_i hj
    rw [if_pos hj] at e2
    exact r.at e1 e2
  · cases e1
theorem Rps.drop (r : Rps CT H vs ds []) (n : Nat) : Rps CT H (vs.drop n) (ds.drop n) [] := by
  refine Rps.of_imm (by simp [r.length]) fun j v d e1 e2 => ?_
  rw [List.getElem?_drop] at e1 e2
  exact r.at e1 e2
end
end Pu

/-! file PuSim -/
set_option Elab.async false
set_option linter.all false
set_option maxRecDepth 100000
namespace Pu
open PySem PySem.Spec PyProof.Rows L2

/-! ### the dice: two objects that draws may change -/
structure Stat where
  CT : Nat → Addr
  DQ : Addr × Addr → HO → HO → Prop
structure Cfg extends Stat where
  q : Option (Addr × Addr)
  pin : List (Nat × V)
/-- a slot that no one holds fast -/
def Free (C : Cfg) (i : Nat) : Prop := i ∉ C.pin.map (·.1)
structure Dice (DQ : Addr × Addr → HO → HO → Prop) (H : Hp) (p : Addr × Addr) : Prop where
  ex : ∃ o u, H p.1 = some o ∧ H p.2 = some u ∧ DQ p o u
theorem Dice.t1 {DQ : Addr × Addr → HO → HO → Prop} {H : Hp} {p : Addr × Addr} (x : Dice DQ H p) : H p.1 ≠ none := fun z => by
  obtain ⟨o, u, h1, h2, _⟩ := x.ex
  rw [z] at h1; cases h1
theorem Dice.t2 {DQ : Addr × Addr → HO → HO → Prop} {H : Hp} {p : Addr × Addr} (x : Dice DQ H p) : H p.2 ≠ none := fun z => by
  obtain ⟨o, u, h1, h2, _⟩ := x.ex
  rw [z] at h2; cases h2

inductive Mo where
  | o | f | x | q
  deriving DecidableEq
inductive Kd where
  | own | al (S : List Nat)
def Kd.set : Kd → List Nat
  | .own => []
  | .al S => S
def Kd.j : Kd → Kd → Kd
  | .own, .own => .own
  | a, b => .al (a.set ++ b.set)
abbrev PEnv := List (Option D)
abbrev X1 := PEnv → (D → Prop) → Prop
abbrev XB := PEnv → (Bool → Prop) → Prop
abbrev XL := PEnv → (List D → Prop) → Prop
structure PEnds where
  nx : PEnv → Prop
  rt : D → Prop
  bk : PEnv → Prop := fun _ => False
  ct : PEnv → Prop := fun _ => False
abbrev XS := PEnds → PEnv → Prop

def Wq (C : Cfg) : Addr → Prop := fun a => ∃ p, C.q = some p ∧ (a = p.1 ∨ a = p.2)
def DiceOk (C : Cfg) (H : Hp) : Prop := ∀ p, C.q = some p → Dice C.DQ H p
def NoQ (C : Cfg) (F : List Addr) : Prop := ∀ p, C.q = some p → p.1 ∉ F ∧ p.2 ∉ F
theorem NoQ.wq {C : Cfg} {F : List Addr} (n : NoQ C F) : ∀ a ∈ F, ¬ Wq C a := fun a m ⟨p, e, ea⟩ => by
  rcases ea with ea | ea
  · exact (n p e).1 (ea ▸ m)
  · exact (n p e).2 (ea ▸ m)
theorem NoQ.nil {C : Cfg} : NoQ C [] := fun _ _ => by simp
theorem NoQ.app {C : Cfg} {F G : List Addr} (a : NoQ C F) (b : NoQ C G) : NoQ C (F ++ G) := fun p e => ⟨fun m => (List.mem_append.mp m).elim (a p e).1 (b p e).1, fun m => (List.mem_append.mp m).elim (a p e).2 (b p e).2⟩
theorem NoQ.sub {C : Cfg} {F G : List Addr} (a : NoQ C F) (s : G.Sublist F) : NoQ C G := fun p e => ⟨fun m => (a p e).1 (s.mem m), fun m => (a p e).2 (s.mem m)⟩
theorem NoQ.new {C : Cfg} {F : List Addr} {H0 : Hp} (dk : DiceOk C H0) (h : ∀ a ∈ F, H0 a = none) : NoQ C F := fun p e => ⟨fun m => (dk p e).t1 (h _ m), fun m => (dk p e).t2 (h _ m)⟩
theorem wq_there {C : Cfg} {H : Hp} {a : Addr} (dk : DiceOk C H) (w : Wq C a) : H a ≠ none := by
  obtain ⟨p, e, ea⟩ := w
  rcases ea with ea | ea
  · rw [ea]; exact (dk p e).t1
  · rw [ea]; exact (dk p e).t2

def live (m : Mo) : Prop := m = .o ∨ m = .f
structure Ok (C : Cfg) (Γ : List Mo) (σ : L2.St) (H : Hp) (env : PEnv) (Fs : Nat → List Addr) : Prop where
  le : env.length = Γ.length
  ls : σ.length = Γ.length
  val : ∀ (i : Nat) (m : Mo), Γ[i]? = some m → live m → ∃ v d, σ[i]? = some (some v) ∧ env[i]? = some (some d) ∧ Rp C.CT H v d (Fs i)
  dice : ∀ i : Nat, Γ[i]? = some .q → ∃ p, C.q = some p ∧ σ[i]? = some (some (.ref p.1))
  nd : ∀ i : Nat, Γ[i]? = some .o → (Fs i).Nodup
  dj : ∀ (i j : Nat) (m : Mo), Γ[i]? = some .o → Γ[j]? = some m → live m → i ≠ j → ∀ a ∈ Fs i, a ∉ Fs j
  nq : ∀ (i : Nat) (m : Mo), Γ[i]? = some m → live m → NoQ C (Fs i)
  dk : DiceOk C H
  pn : ∀ p ∈ C.pin, σ[p.1]? = some (some p.2)

section
variable {C : Cfg} {Γ Γ' Γl Γ1 : List Mo} {σ σ' : L2.St} {H H' H1 H2 : Hp} {env env' : PEnv} {Fs Fs' : Nat → List Addr} {v : V} {d : D} {F G : List Addr}

theorem Ok.step (I : Ok C Γ σ H env Fs) (f : Fr (Wq C) H H') (dk : DiceOk C H') : Ok C Γ σ H' env Fs := by
  refine ⟨I.le, I.ls, fun i m h l => ?_, I.dice, I.nd, I.dj, I.nq, dk, I.pn⟩
  obtain ⟨v, d, h1, h2, h3⟩ := I.val i m h l
  exact ⟨v, d, h1, h2, h3.keep f (I.nq i m h l).wq⟩
theorem DiceOk.keep (x : DiceOk C H) (f : Fr (fun _ => False) H H') : DiceOk C H' := fun p e => by
  obtain ⟨o, u, h1, h2, r⟩ := (x p e).ex
  exact ⟨o, u, f.keep _ _ h1 (fun z => z), f.keep _ _ h2 (fun z => z), r⟩
theorem Fr.wq {W : Addr → Prop} (f : Fr (fun _ => False) H H') : Fr W H H' := f.mono fun _ z => z.elim

/-- of which kind the result's changeable parts are: new ones, or parts of slots -/
def KdOk (C : Cfg) (Γ : List Mo) (Fs : Nat → List Addr) (H0 : Hp) (A : Kd) (F : List Addr) : Prop :=
  NoQ C F ∧ match A with
    | .own => F.Nodup ∧ ∀ a ∈ F, H0 a = none
    | .al S => ∀ a ∈ F, ∀ i : Nat, Γ[i]? = some .o → a ∈ Fs i → i ∈ S
theorem KdOk.own_nil {H0 : Hp} : KdOk C Γ Fs H0 .own [] := ⟨NoQ.nil, List.nodup_nil, fun _ h => nomatch h⟩
theorem KdOk.nil {H0 : Hp} {A : Kd} : KdOk C Γ Fs H0 A [] := ⟨NoQ.nil, by cases A <;> simp⟩
theorem KdOk.set {H0 : Hp} {A : Kd} (I : Ok C Γ σ H0 env Fs) (k : KdOk C Γ Fs H0 A F) : ∀ a ∈ F, ∀ i : Nat, Γ[i]? = some .o → a ∈ Fs i → i ∈ A.set := fun a m i g b => by
  cases A with
  | own =>
    obtain ⟨v, d, _, _, r⟩ := I.val i _ g (.inl rfl)
    exact absurd (k.2.2 a m) (r.tracked a b)
  | al S => exact k.2 a m i g b
theorem KdOk.al {H0 : Hp} {A : Kd} (I : Ok C Γ σ H0 env Fs) (k : KdOk C Γ Fs H0 A F) : KdOk C Γ Fs H0 (.al A.set) F := ⟨k.1, k.set I⟩
theorem KdOk.sub {H0 : Hp} {A : Kd} (k : KdOk C Γ Fs H0 A F) (s : G.Sublist F) : KdOk C Γ Fs H0 A G := by
  refine ⟨k.1.sub s, ?_⟩
  cases A with
  | own => exact ⟨k.2.1.sublist s, fun a m => k.2.2 a (s.mem m)⟩
  | al S => exact fun a m => k.2 a (s.mem m)
/-- two parts, the one behind the other -/
theorem KdOk.j {A B : Kd} (I : Ok C Γ σ H env Fs) (f : Fr (Wq C) H H1) (r : ∀ a ∈ F, H1 a ≠ none) (k : KdOk C Γ Fs H A F) (k' : KdOk C Γ Fs H1 B G) (I1 : Ok C Γ σ H1 env Fs) : KdOk C Γ Fs H (A.j B) (F ++ G) := by
  refine ⟨k.1.app k'.1, ?_⟩
  have al : ∀ a ∈ F ++ G, ∀ i : Nat, Γ[i]? = some .o → a ∈ Fs i → i ∈ A.set ++ B.set := fun a m i g b => by
    rcases List.mem_append.mp m with m | m
    · exact List.mem_append_left _ (k.set I a m i g b)
    · exact List.mem_append_right _ (k'.set I1 a m i g b)
  cases A with
  | own =>
    cases B with
    | own =>
      refine ⟨List.nodup_append.mpr ⟨k.2.1, k'.2.1, fun a m b m' e => ?_⟩, fun a m => ?_⟩
      · subst e
        exact r a m (k'.2.2 a m')
      · rcases List.mem_append.mp m with m | m
        · exact k.2.2 a m
        · exact f.there a (k'.2.2 a m)
    | al S => exact al
  | al S => cases B <;> exact al

/-! ### what a reading does, told of plain data -/
def Mono {α : Type} (m : PEnv → (α → Prop) → Prop) : Prop := ∀ env Q Q', (∀ d, Q d → Q' d) → m env Q → m env Q'
structure Sim (C : Cfg) (Γ : List Mo) (t : TE) (A : Kd) (m : X1) : Prop where
  run : ∀ (σ : L2.St) (H : Hp) (env : PEnv) (Fs : Nat → List Addr) (Q : VK), Ok C Γ σ H env Fs →
    m env (fun d => ∀ v H' F, Fr (Wq C) H H' → DiceOk C H' → Rp C.CT H' v d F → KdOk C Γ Fs H A F → Q v H') → t σ H Q
  mono : Mono m
structure SimT (C : Cfg) (Γ : List Mo) (t : TT) (m : XB) : Prop where
  run : ∀ (σ : L2.St) (H : Hp) (env : PEnv) (Fs : Nat → List Addr) (Q : Bool → Hp → Prop), Ok C Γ σ H env Fs →
    m env (fun b => ∀ H', Fr (Wq C) H H' → DiceOk C H' → Q b H') → t σ H Q
  mono : Mono m
/-- a list of items, for displays -/
structure SimL (C : Cfg) (Γ : List Mo) (t : TA) (A : Kd) (m : XL) : Prop where
  run : ∀ (σ : L2.St) (H : Hp) (env : PEnv) (Fs : Nat → List Addr) (Q : List V → Hp → Prop), Ok C Γ σ H env Fs →
    m env (fun ds => ∀ vs H' F, Fr (Wq C) H H' → DiceOk C H' → Rps C.CT H' vs ds F → KdOk C Γ Fs H A F → Q vs H') → t σ H Q
  mono : Mono m

/-! ### names, constants, displays -/
def xVar (i : Nat) : X1 := fun env Q => match env[i]? with
  | some (some d) => Q d
  | _ => False
theorem mono_var {i : Nat} : Mono (xVar i) := fun env Q Q' h q => by
  unfold xVar at q ⊢
  split at q
  · exact h _ q
  · exact q
theorem sim_var {i : Nat} {m : Mo} (g : Γ[i]? = some m) (l : live m) : Sim C Γ (tVar i) (.al [i]) (xVar i) := ⟨fun σ H env Fs Q I h => by
  obtain ⟨v, d, h1, h2, h3⟩ := I.val i m g l
  unfold xVar at h
  rw [h2] at h
  refine ⟨v, h1, h v H (Fs i) Fr.refl I.dk h3 ⟨I.nq i m g l, fun a ma j gj b => ?_⟩⟩
  by_cases e : j = i
  · simp [e]
  · exact absurd ma (I.dj j i m gj g l e a b), mono_var⟩
/-- a slot that is not owned: nothing of a slot's own -/
theorem sim_varF {i : Nat} (g : Γ[i]? = some .f) : Sim C Γ (tVar i) (.al []) (xVar i) := ⟨fun σ H env Fs Q I h => by
  obtain ⟨v, d, h1, h2, h3⟩ := I.val i _ g (.inr rfl)
  unfold xVar at h
  rw [h2] at h
  refine ⟨v, h1, h v H (Fs i) Fr.refl I.dk h3 ⟨I.nq i _ g (.inr rfl), fun a ma j gj b => ?_⟩⟩
  by_cases e : j = i
  · rw [e, g] at gj; cases gj
  · exact absurd ma (I.dj j i _ gj g (.inr rfl) e a b), mono_var⟩
theorem sim_varO {i : Nat} (g : Γ[i]? = some .o) : Sim C Γ (tVar i) (.al [i]) (xVar i) := sim_var g (.inl rfl)
def xC (d : D) : X1 := fun _ Q => Q d
theorem mono_c {d : D} : Mono (xC d) := fun _ _ _ h q => h _ q
theorem sim_int {i : Int} : Sim C Γ (tC (.int i)) .own (xC (.int i)) := ⟨fun σ H env Fs Q I h => h _ H [] Fr.refl I.dk (.int i) KdOk.own_nil, mono_c⟩
theorem sim_bl {b : Bool} : Sim C Γ (tC (.bl b)) .own (xC (.bl b)) := ⟨fun σ H env Fs Q I h => h _ H [] Fr.refl I.dk (.bl b) KdOk.own_nil, mono_c⟩
theorem sim_non : Sim C Γ (tC .non) .own (xC .non) := ⟨fun σ H env Fs Q I h => h _ H [] Fr.refl I.dk .non KdOk.own_nil, mono_c⟩
theorem sim_str {x : Str} : Sim C Γ (tC (.str x)) .own (xC (.str x)) := ⟨fun σ H env Fs Q I h => h _ H [] Fr.refl I.dk (.str x) KdOk.own_nil, mono_c⟩
/-- of what cannot change nothing can be held by another -/
def xImm (m : X1) : X1 := fun env Q => m env fun d => d.imm = true ∧ Q d
theorem sim_imm {t : TE} {A : Kd} {m : X1} (s : Sim C Γ t A m) : Sim C Γ t .own (xImm m) := ⟨fun σ H env Fs Q I h => s.run σ H env Fs Q I (s.mono env _ _ (fun d ⟨e, k⟩ v H' F f dk r _ => by
  obtain rfl := r.imm e
  exact k v H' [] f dk r KdOk.own_nil) h), fun env Q Q' h q => s.mono env _ _ (fun d ⟨e, k⟩ => ⟨e, h d k⟩) q⟩
def xNil : XL := fun _ Q => Q []
def xCons (m : X1) (r : XL) : XL := fun env Q => m env fun d => r env fun ds => Q (d :: ds)
theorem siml_nil : SimL C Γ tNil .own xNil := ⟨fun σ H env Fs Q I h => h [] H [] Fr.refl I.dk .nil KdOk.own_nil, fun _ _ _ h q => h _ q⟩
theorem siml_cons {t : TE} {ts : TA} {A B : Kd} {m : X1} {r : XL} (s : Sim C Γ t A m) (s' : SimL C Γ ts B r) : SimL C Γ (tCons t ts) (A.j B) (xCons m r) :=
  ⟨fun σ H env Fs Q I h => s.run σ H env Fs _ I (s.mono env _ _ (fun d q v H1 F f1 dk1 r1 k1 => s'.run σ H1 env Fs _ (I.step f1 dk1) (s'.mono env _ _ (fun ds q vs H2 G f2 dk2 r2 k2 =>
    q (v :: vs) H2 (F ++ G) (f1.trans f2) dk2 (.cons (r1.keep f2 k1.1.wq) r2) (k1.j I f1 r1.tracked k2 (I.step f1 dk1))) q)) h),
   fun env Q Q' h q => s.mono env _ _ (fun d q => s'.mono env _ _ (fun ds q => h _ q) q) q⟩
def xTup (r : XL) : X1 := fun env Q => r env fun ds => ds.length ≤ sizeLine ∧ Q (.tup ds)
def xLst (r : XL) : X1 := fun env Q => r env fun ds => ds.length ≤ sizeLine ∧ Q (.lst ds)
theorem sim_tup {ts : TA} {A : Kd} {r : XL} (s : SimL C Γ ts A r) : Sim C Γ (tTup ts) A (xTup r) :=
  ⟨fun σ H env Fs Q I h => s.run σ H env Fs _ I (s.mono env _ _ (fun ds ⟨z, q⟩ vs H1 F f1 dk1 r1 k1 => ⟨by rw [r1.length]; exact z, fun p hp =>
    q (.ref p) _ F (f1.trans (Fr.new hp)) (dk1.keep (Fr.new hp)) (.tup upd_same (r1.keep (W := fun _ => False) (Fr.new hp) fun _ _ z => z)) k1⟩) h),
   fun env Q Q' h q => s.mono env _ _ (fun ds ⟨z, q⟩ => ⟨z, h _ q⟩) q⟩
/-- a new object ahead of what it holds -/
theorem KdOk.new {H0 : Hp} {A : Kd} {p : Addr} (I : Ok C Γ σ H0 env Fs) (dk : DiceOk C H1) (f : Fr (Wq C) H0 H1) (k : KdOk C Γ Fs H0 A F) (hp : H1 p = none) (r : ∀ a ∈ F, H1 a ≠ none) : KdOk C Γ Fs H0 A (p :: F) := by
  refine ⟨fun x e => ⟨fun m => ?_, fun m => ?_⟩, ?_⟩
  · rcases List.mem_cons.mp m with z | m
    · exact (dk x e).t1 (z ▸ hp)
    · exact (k.1 x e).1 m
  · rcases List.mem_cons.mp m with z | m
    · exact (dk x e).t2 (z ▸ hp)
    · exact (k.1 x e).2 m
  · cases A with
    | own =>
      refine ⟨List.nodup_cons.mpr ⟨fun m => r p m hp, k.2.1⟩, fun a m => ?_⟩
      rcases List.mem_cons.mp m with z | m
      · rw [z]; exact f.there p hp
      · exact k.2.2 a m
    | al S =>
      intro a m i g b
      rcases List.mem_cons.mp m with z | m
      · obtain ⟨v, d, _, _, r'⟩ := I.val i _ g (.inl rfl)
        exact absurd (f.there p hp) (by rw [← z]; exact r'.tracked a b)
      · exact k.2 a m i g b
theorem sim_lst {ts : TA} {A : Kd} {r : XL} (s : SimL C Γ ts A r) : Sim C Γ (tLst ts) A (xLst r) :=
  ⟨fun σ H env Fs Q I h => s.run σ H env Fs _ I (s.mono env _ _ (fun ds ⟨z, q⟩ vs H1 F f1 dk1 r1 k1 => ⟨by rw [r1.length]; exact z, fun p hp =>
    q (.ref p) _ (p :: F) (f1.trans (Fr.new hp)) (dk1.keep (Fr.new hp)) (.lst upd_same (r1.keep (W := fun _ => False) (Fr.new hp) fun _ _ z => z)) (k1.new I dk1 f1 hp r1.tracked)⟩) h),
   fun env Q Q' h q => s.mono env _ _ (fun ds ⟨z, q⟩ => ⟨z, h _ q⟩) q⟩
end
end Pu

/-! file PuOps -/
set_option Elab.async false
set_option linter.all false
set_option maxRecDepth 100000
namespace Pu
open PySem PySem.Spec PyProof.Rows L2

abbrev O1 := D → (D → Prop) → Prop
abbrev O2 := D → D → (D → Prop) → Prop
def Mono1 (o : O1) : Prop := ∀ d Q Q', (∀ x, Q x → Q' x) → o d Q → o d Q'
def Mono2 (o : O2) : Prop := ∀ d e Q Q', (∀ x, Q x → Q' x) → o d e Q → o d e Q'
/-- what is wanted of a result that is new -/
def New (CT : Nat → Addr) (H : Hp) (Q : VK) (d : D) : Prop := ∀ v H' F, Fr (fun _ => False) H H' → Rp CT H' v d F → F.Nodup → (∀ a ∈ F, H a = none) → Q v H'
theorem New.imm {CT : Nat → Addr} {H : Hp} {Q : VK} {d : D} {v : V} (n : New CT H Q d) (r : Rp CT H v d []) : Q v H := n v H [] Fr.refl r List.nodup_nil fun _ h => nomatch h
theorem New.at {CT : Nat → Addr} {H : Hp} {Q : VK} {d : D} {v : V} {p : Addr} {o : HO} (n : New CT H Q d) (hp : H p = none) (r : Rp CT (upd H p o) v d []) : Q v (upd H p o) :=
  n v _ [] (Fr.new hp) r List.nodup_nil fun _ h => nomatch h
theorem New.at1 {CT : Nat → Addr} {H : Hp} {Q : VK} {d : D} {v : V} {p : Addr} {o : HO} (n : New CT H Q d) (hp : H p = none) (r : Rp CT (upd H p o) v d [p]) : Q v (upd H p o) :=
  n v _ [p] (Fr.new hp) r (by simp) fun a h => by rw [List.mem_singleton.mp h]; exact hp

structure SimO1 (CT : Nat → Addr) (r : V → Hp → VK → Prop) (o : O1) : Prop where
  run : ∀ (H : Hp) (v : V) (d : D) (F : List Addr) (Q : VK), Rp CT H v d F → o d (New CT H Q) → r v H Q
  mono : Mono1 o
structure SimO2 (CT : Nat → Addr) (r : R2) (o : O2) : Prop where
  run : ∀ (H : Hp) (v w : V) (d e : D) (F G : List Addr) (Q : VK), Rp CT H v d F → Rp CT H w e G → o d e (New CT H Q) → r v w H Q
  mono : Mono2 o
/-- of a call of a builtin, by its arguments -/
structure SimC1 (CT : Nat → Addr) (r : List V → Hp → VK → Prop) (o : O1) : Prop where
  run : ∀ (H : Hp) (v : V) (d : D) (F : List Addr) (Q : VK), Rp CT H v d F → o d (New CT H Q) → r [v] H Q
  mono : Mono1 o
structure SimC2 (CT : Nat → Addr) (r : List V → Hp → VK → Prop) (o : O2) : Prop where
  run : ∀ (H : Hp) (v w : V) (d e : D) (F G : List Addr) (Q : VK), Rp CT H v d F → Rp CT H w e G → o d e (New CT H Q) → r [v, w] H Q
  mono : Mono2 o
def x1 (o : O1) (m : X1) : X1 := fun env Q => m env fun d => o d Q
def x2 (o : O2) (m n : X1) : X1 := fun env Q => m env fun d => n env fun e => o d e Q
theorem mono_x1 {o : O1} {m : X1} (h : Mono1 o) (hm : Mono m) : Mono (x1 o m) := fun env Q Q' k q => hm env _ _ (fun d q => h d _ _ k q) q
theorem mono_x2 {o : O2} {m n : X1} (h : Mono2 o) (hm : Mono m) (hn : Mono n) : Mono (x2 o m n) := fun env Q Q' k q => hm env _ _ (fun d q => hn env _ _ (fun e q => h d e _ _ k q) q) q

section
variable {C : Cfg} {Γ : List Mo} {σ : L2.St} {H H' H1 : Hp} {env : PEnv} {Fs : Nat → List Addr} {v : V} {vs : List V} {d : D} {ds : List D} {F G : List Addr} {ta tb te : TE} {A B : Kd} {m n : X1}

/-- behind evaluations that lead from H to H1 a new result is new to H -/
theorem fin_new {Q : VK} (I : Ok C Γ σ H env Fs) (f : Fr (Wq C) H H1) (dk : DiceOk C H1)
    (k : ∀ v H' F, Fr (Wq C) H H' → DiceOk C H' → Rp C.CT H' v d F → KdOk C Γ Fs H .own F → Q v H') : New C.CT H1 Q d := fun v H' F f2 r nd fr =>
  k v H' F (f.trans f2.wq) (dk.keep f2) r ⟨NoQ.new dk fr, nd, fun a mm => f.there a (fr a mm)⟩
theorem sim_un {r : V → Hp → VK → Prop} {o : O1} (s : Sim C Γ ta A m) (h : SimO1 C.CT r o) : Sim C Γ (tUn r ta) .own (x1 o m) :=
  ⟨fun σ H env Fs Q I q => s.run σ H env Fs _ I (s.mono env _ _ (fun d q v H1 F f dk r k => h.run H1 v d F Q r (h.mono d _ _ (fun x k => fin_new I f dk k) q)) q), mono_x1 h.mono s.mono⟩
theorem sim_op {r : R2} {o : O2} (h : SimO2 C.CT r o) (s : Sim C Γ ta A m) (s' : Sim C Γ tb B n) : Sim C Γ (tOp r ta tb) .own (x2 o m n) :=
  ⟨fun σ H env Fs Q I q => s.run σ H env Fs _ I (s.mono env _ _ (fun d q v H1 F f dk r k => s'.run σ H1 env Fs _ (I.step f dk) (s'.mono env _ _ (fun e q w H2 G f2 dk2 r2 k2 =>
    h.run H2 v w d e F G Q (r.keep f2 k.1.wq) r2 (h.mono d e _ _ (fun x k => fin_new I (f.trans f2) dk2 k) q)) q)) q), mono_x2 h.mono s.mono s'.mono⟩
theorem sim_call1 {r : List V → Hp → VK → Prop} {o : O1} (h : SimC1 C.CT r o) (s : Sim C Γ ta A m) : Sim C Γ (tCB r (tCons ta tNil)) .own (x1 o m) :=
  ⟨fun σ H env Fs Q I q => s.run σ H env Fs _ I (s.mono env _ _ (fun d q v H1 F f dk r k => h.run H1 v d F Q r (h.mono d _ _ (fun x k => fin_new I f dk k) q)) q), mono_x1 h.mono s.mono⟩
theorem sim_call2 {r : List V → Hp → VK → Prop} {o : O2} (h : SimC2 C.CT r o) (s : Sim C Γ ta A m) (s' : Sim C Γ tb B n) : Sim C Γ (tCB r (tCons ta (tCons tb tNil))) .own (x2 o m n) :=
  ⟨fun σ H env Fs Q I q => s.run σ H env Fs _ I (s.mono env _ _ (fun d q v H1 F f dk r k => s'.run σ H1 env Fs _ (I.step f dk) (s'.mono env _ _ (fun e q w H2 G f2 dk2 r2 k2 =>
    h.run H2 v w d e F G Q (r.keep f2 k.1.wq) r2 (h.mono d e _ _ (fun x k => fin_new I (f.trans f2) dk2 k) q)) q)) q), mono_x2 h.mono s.mono s'.mono⟩
theorem SimO2.or1 {r r' : R2} {o : O2} (h : SimO2 C.CT r o) : SimO2 C.CT (fun x y H Q => r x y H Q ∨ r' x y H Q) o := ⟨fun H v w d e F G Q a b q => .inl (h.run H v w d e F G Q a b q), h.mono⟩

/-! ### typed views -/
theorem Rps.ints {CT : Nat → Addr} : ∀ {ns : List Int} {vs : List V} {F : List Addr}, Rps CT H vs (ns.map D.int) F → vs = ns.map V.int ∧ F = []
  | [], _, _, .nil => ⟨rfl, rfl⟩
  | n :: ns, _, _, .cons (.int _) r => by
    obtain ⟨h1, h2⟩ := Rps.ints (ns := ns) r
    exact ⟨by rw [h1] <;> rfl, by rw [h2] <;> rfl⟩
theorem Rps.bls {CT : Nat → Addr} : ∀ {ns : List Bool} {vs : List V} {F : List Addr}, Rps CT H vs (ns.map D.bl) F → vs = ns.map V.bl ∧ F = []
  | [], _, _, .nil => ⟨rfl, rfl⟩
  | n :: ns, _, _, .cons (.bl _) r => by
    obtain ⟨h1, h2⟩ := Rps.bls (ns := ns) r
    exact ⟨by rw [h1] <;> rfl, by rw [h2] <;> rfl⟩
theorem Rps.of_ints {CT : Nat → Addr} : ∀ {ns : List Int}, Rps CT H (ns.map V.int) (ns.map D.int) []
  | [] => .nil
  | n :: ns => Rps.cons (.int n) (Rps.of_ints (ns := ns))

/-! ### numbers -/
def oI (g : Int → Int → D) : O2 := fun d e Q => match d, e with
  | .int i, .int j => Q (g i j)
  | _, _ => False
def oIc (c : Int → Int → Prop) (g : Int → Int → D) : O2 := fun d e Q => match d, e with
  | .int i, .int j => c i j ∧ Q (g i j)
  | _, _ => False
theorem mono_oI {g : Int → Int → D} : Mono2 (oI g) := fun d e Q Q' k q => by
  cases d <;> cases e <;> first | exact k _ q | exact q
theorem mono_oIc {c : Int → Int → Prop} {g : Int → Int → D} : Mono2 (oIc c g) := fun d e Q Q' k q => by
  cases d <;> cases e <;> first | exact ⟨q.1, k _ q.2⟩ | exact q
theorem so_I {g : Int → Int → V} {g' : Int → Int → D} {CT : Nat → Addr} (h : ∀ H i j, Rp CT H (g i j) (g' i j) []) : SimO2 CT (rI0 g) (oI g') :=
  ⟨fun H v w d e F G Q a b q => by
    cases a <;> cases b <;> first | exact ⟨_, _, rfl, rfl, New.imm q (h _ _ _)⟩ | exact (show False from q).elim, mono_oI⟩
theorem so_Ic {c : Int → Int → Prop} {g : Int → Int → V} {g' : Int → Int → D} {CT : Nat → Addr} (h : ∀ H i j, Rp CT H (g i j) (g' i j) []) : SimO2 CT (rI c g) (oIc c g') :=
  ⟨fun H v w d e F G Q a b q => by
    cases a <;> cases b <;> first | exact ⟨_, _, rfl, rfl, q.1, New.imm q.2 (h _ _ _)⟩ | exact (show False from q).elim, mono_oIc⟩
/-- +, of ints, tuples, lists, texts -/
def rAddU (K : PySem.W.Frag) : R2 := fun x y H Q => ((rI0 (fun i j => .int (i + j)) x y H Q ∨ rCatA K x y H Q) ∨ rCat x y H Q) ∨ ∃ i j, x = .str i ∧ y = .str j ∧ i.length + j.length ≤ sizeLine ∧ Q (.str (i ++ j)) H
theorem op_addU {X : Cx} : OpR X (binaryOp .Add) (rAddU X.K) := ((op_add.or op_catA).or op_cat).or op_add_str
def oAdd : O2 := fun d e Q => match d, e with
  | .int i, .int j => Q (.int (i + j))
  | .tup xs, .tup ys => immL xs = true ∧ immL ys = true ∧ xs.length + ys.length ≤ sizeLine ∧ Q (.tup (xs ++ ys))
  | .lst xs, .lst ys => immL xs = true ∧ immL ys = true ∧ xs.length + ys.length ≤ sizeLine ∧ Q (.lst (xs ++ ys))
  | .str x, .str y => x.length + y.length ≤ sizeLine ∧ Q (.str (x ++ y))
  | _, _ => False
theorem mono_oAdd : Mono2 oAdd := fun d e Q Q' k q => by
  cases d <;> cases e <;> first | exact k _ q | exact ⟨q.1, k _ q.2⟩ | exact ⟨q.1, q.2.1, q.2.2.1, k _ q.2.2.2⟩ | exact q
theorem immL_app : ∀ {xs ys : List D}, immL xs = true → immL ys = true → immL (xs ++ ys) = true
  | [], _, _, h => h
  | x :: xs, ys, h1, h2 => by
    simp only [immL, Bool.and_eq_true, List.cons_append] at h1 ⊢
    exact ⟨h1.1, immL_app h1.2 h2⟩
theorem so_add {K : PySem.W.Frag} {CT : Nat → Addr} : SimO2 CT (rAddU K) oAdd := ⟨fun H v w d e F G Q a b q => by
  cases a with
  | int i =>
    cases b <;> first | exact .inl (.inl (.inl ⟨_, _, rfl, rfl, New.imm q (.int _)⟩)) | exact (show False from q).elim
  | str x =>
    cases b <;> first | exact .inr ⟨_, _, rfl, rfl, q.1, New.imm q.2 (.str _)⟩ | exact (show False from q).elim
  | tup ha ra =>
    cases b with
    | tup hb rb =>
      obtain ⟨i1, i2, z, q⟩ := q
      have e1 := ra.imm i1
      have e2 := rb.imm i2
      subst e1 e2
      refine .inl (.inl (.inr ⟨_, _, _, _, rfl, rfl, SqT.of ha, SqT.of hb, by rw [ra.length, rb.length]; exact z, fun e => ?_, fun _ e => ?_, fun _ _ p hp => ?_⟩))
      · subst e
        cases ra
        exact New.imm q (.tup hb rb)
      · subst e
        cases rb
        rw [List.append_nil] at q
        exact New.imm q (.tup ha ra)
      · exact New.at q hp (.tup upd_same ((ra.append rb).keep (W := fun _ => False) (Fr.new hp) fun _ h => nomatch h))
    | _ => exact (show False from q).elim
  | lst ha ra =>
    cases b with
    | lst hb rb =>
      obtain ⟨i1, i2, z, q⟩ := q
      have e1 := ra.imm i1
      have e2 := rb.imm i2
      subst e1 e2
      exact .inl (.inr ⟨_, _, _, _, rfl, rfl, ha, hb, by rw [ra.length, rb.length]; exact z, fun p hp => New.at1 q hp (.lst upd_same ((ra.append rb).keep (W := fun _ => False) (Fr.new hp) fun _ h => nomatch h))⟩)
    | _ => exact (show False from q).elim
  | _ => exact (show False from q).elim, mono_oAdd⟩
theorem so_sub {CT : Nat → Addr} : SimO2 CT (rI0 fun i j => .int (i - j)) (oI fun i j => .int (i - j)) := so_I fun _ _ _ => .int _
theorem so_mul {CT : Nat → Addr} : SimO2 CT (rI CMul fun i j => .int (i * j)) (oIc CMul fun i j => .int (i * j)) := so_Ic fun _ _ _ => .int _
theorem so_fdiv {CT : Nat → Addr} : SimO2 CT (rI CDivN fun i j => .int (i.fdiv j)) (oIc CDivN fun i j => .int (i.fdiv j)) := so_Ic fun _ _ _ => .int _
theorem so_mod {CT : Nat → Addr} : SimO2 CT (rI (fun _ j => j ≠ 0) fun i j => .int (i.fmod j)) (oIc (fun _ j => j ≠ 0) fun i j => .int (i.fmod j)) := so_Ic fun _ _ _ => .int _
theorem so_pow {CT : Nat → Addr} : SimO2 CT (rI CPow fun i j => .int (i ^ j.toNat)) (oIc CPow fun i j => .int (i ^ j.toNat)) := so_Ic fun _ _ _ => .int _
theorem so_lt {CT : Nat → Addr} : SimO2 CT (rI0 fun i j => .bl (decide (i < j))) (oI fun i j => .bl (decide (i < j))) := so_I fun _ _ _ => .bl _
theorem so_le {CT : Nat → Addr} : SimO2 CT (rI0 fun i j => .bl (decide (i ≤ j))) (oI fun i j => .bl (decide (i ≤ j))) := so_I fun _ _ _ => .bl _
theorem so_gt {CT : Nat → Addr} : SimO2 CT (rI0 fun i j => .bl (decide (j < i))) (oI fun i j => .bl (decide (j < i))) := so_I fun _ _ _ => .bl _
theorem so_ge {CT : Nat → Addr} : SimO2 CT (rI0 fun i j => .bl (decide (j ≤ i))) (oI fun i j => .bl (decide (j ≤ i))) := so_I fun _ _ _ => .bl _
def oNeg : O1 := fun d Q => match d with
  | .int i => Q (.int (-i))
  | _ => False
theorem so_neg {CT : Nat → Addr} : SimO1 CT (rU fun i => .int (-i)) oNeg := ⟨fun H v d F Q a q => by
  cases a <;> first | exact ⟨_, rfl, New.imm q (.int _)⟩ | exact (show False from q).elim, fun d Q Q' k q => by cases d <;> first | exact k _ q | exact q⟩

/-! ### data compared -/
mutual
def D.py : D → PyData
  | .non => .none
  | .bl b => .bool b
  | .int i => .int i
  | .str x => .str x
  | .tup xs => .tuple (pyL xs)
  | .lst xs => .list (pyL xs)
  | .dK _ => .dict []
  | .dT _ => .dict []
  | .obj _ _ => .dict []
def pyL : List D → List PyData
  | [] => []
  | x :: xs => D.py x :: pyL xs
end
mutual
theorem Rp.dp {CT : Nat → Addr} {K : PySem.W.Frag} : ∀ {v : V} {d : D} {F : List Addr}, Rp CT H v d F → d.py.canLay0 = true → Dp K H v d.py
  | _, _, _, .non, _ => .non
  | _, _, _, .bl b, _ => .bl b
  | _, _, _, .int b, _ => .int b
  | _, _, _, .str b, _ => .str b
  | _, _, _, .tup h r, c => .tup (SqT.of h) (Rps.dp r (by simpa [D.py, PyData.canLay0] using c))
  | _, _, _, .lst h r, c => .lst (SqL.of h) (Rps.dp r (by simpa [D.py, PyData.canLay0] using c))
  | _, _, _, .dK h _ r, c => by simp [D.py, PyData.canLay0] at c
  | _, _, _, .dT h _ r, c => by simp [D.py, PyData.canLay0] at c
  | _, _, _, .obj h _ r, c => by simp [D.py, PyData.canLay0] at c
theorem Rps.dp {CT : Nat → Addr} {K : PySem.W.Frag} : ∀ {vs : List V} {ds : List D} {F : List Addr}, Rps CT H vs ds F → PyData.canLayAll0 (pyL ds) = true → DpAll K H vs (pyL ds)
  | _, _, _, .nil, _ => .nil
  | _, _, _, .cons h r, c => by
    simp only [pyL, PyData.canLayAll0, Bool.and_eq_true] at c
    exact .cons (Rp.dp h c.1) (Rps.dp r c.2)
end
def Sh (d : D) : Prop := SeqAt.shaped d.py = true
def D.eqb (d e : D) : Bool := PyData.eqv d.py e.py
def oEq : O2 := fun d e Q => Sh d ∧ Sh e ∧ Q (.bl (D.eqb d e))
def oNe : O2 := fun d e Q => Sh d ∧ Sh e ∧ Q (.bl (!D.eqb d e))
theorem so_eq {K : PySem.W.Frag} {CT : Nat → Addr} : SimO2 CT (rEqD K) oEq := ⟨fun H v w d e F G Q a b ⟨h1, h2, q⟩ =>
  ⟨_, _, a.dp (SeqAt.canLay_of_shaped h1), b.dp (SeqAt.canLay_of_shaped h2), h1, h2, New.imm q (.bl _)⟩, fun d e Q Q' k ⟨h1, h2, q⟩ => ⟨h1, h2, k _ q⟩⟩
theorem so_ne {K : PySem.W.Frag} {CT : Nat → Addr} : SimO2 CT (rNeD K) oNe := ⟨fun H v w d e F G Q a b ⟨h1, h2, q⟩ =>
  ⟨_, _, a.dp (SeqAt.canLay_of_shaped h1), b.dp (SeqAt.canLay_of_shaped h2), h1, h2, New.imm q (.bl _)⟩, fun d e Q Q' k ⟨h1, h2, q⟩ => ⟨h1, h2, k _ q⟩⟩
def D.isN : D → Bool
  | .non => true
  | _ => false
def rIsNone : R2 := fun x y H Q => y = .non ∧ Q (.bl (decide (x = .non))) H
def rNotNone : R2 := fun x y H Q => y = .non ∧ Q (.bl (!decide (x = .non))) H
theorem Rp.isN {CT : Nat → Addr} (r : Rp CT H v d F) : decide (v = .non) = d.isN := by
  cases r <;> simp [D.isN]
def oIsN : O2 := fun d e Q => e.isN = true ∧ Q (.bl d.isN)
def oNotN : O2 := fun d e Q => e.isN = true ∧ Q (.bl (!d.isN))
theorem Rp.non_of {CT : Nat → Addr} (r : Rp CT H v d F) (h : d.isN = true) : v = .non := of_decide_eq_true (r.isN.trans h)
theorem so_isN {CT : Nat → Addr} : SimO2 CT rIsNone oIsN := ⟨fun H v w d e F G Q a b ⟨h, q⟩ => ⟨b.non_of h, by rw [a.isN]; exact New.imm q (.bl _)⟩, fun d e Q Q' k ⟨h, q⟩ => ⟨h, k _ q⟩⟩
theorem so_notN {CT : Nat → Addr} : SimO2 CT rNotNone oNotN := ⟨fun H v w d e F G Q a b ⟨h, q⟩ => ⟨b.non_of h, by rw [a.isN]; exact New.imm q (.bl _)⟩, fun d e Q Q' k ⟨h, q⟩ => ⟨h, k _ q⟩⟩
def oIsB (neg : Bool) : O2 := fun d e Q => match d, e with
  | .bl a, .bl b => Q (.bl (if neg then !decide (a = b) else decide (a = b)))
  | _, _ => False
def rIsB : R2 := fun x y H Q => ∃ a b, x = .bl a ∧ y = .bl b ∧ Q (.bl (decide (a = b))) H
def rIsNB : R2 := fun x y H Q => ∃ a b, x = .bl a ∧ y = .bl b ∧ Q (.bl (!decide (a = b))) H
theorem so_isB {CT : Nat → Addr} : SimO2 CT rIsB (oIsB false) := ⟨fun H v w d e F G Q a b q => by
  cases a <;> cases b <;> first | exact ⟨_, _, rfl, rfl, New.imm q (.bl _)⟩ | exact (show False from q).elim, fun d e Q Q' k q => by cases d <;> cases e <;> first | exact k _ q | exact q⟩
theorem so_isNB {CT : Nat → Addr} : SimO2 CT rIsNB (oIsB true) := ⟨fun H v w d e F G Q a b q => by
  cases a <;> cases b <;> first | exact ⟨_, _, rfl, rfl, New.imm q (.bl _)⟩ | exact (show False from q).elim, fun d e Q Q' k q => by cases d <;> cases e <;> first | exact k _ q | exact q⟩
end
end Pu

/-! file PuOps2 -/
set_option Elab.async false
set_option linter.all false
set_option maxRecDepth 100000
namespace Pu
open PySem PySem.Spec PyProof.Rows L2

section
variable {C : Cfg} {Γ : List Mo} {σ : L2.St} {H H' H1 : Hp} {env : PEnv} {Fs : Nat → List Addr} {v : V} {vs : List V} {d : D} {ds : List D} {F G : List Addr} {ta tb te : TE} {A B : Kd} {m n : X1} {CT : Nat → Addr} {K : PySem.W.Frag}

/-! ### keys -/
def D.key? : D → Option Key
  | .int i => some (.inl i)
  | .str x => some (.inr x)
  | _ => none
def keys? : List D → Option (List Key)
  | [] => some []
  | d :: ds => match d.key?, keys? ds with
    | some k, some ks => some (k :: ks)
    | _, _ => none
def D.tkey? : D → Option (List Key)
  | .tup ds => keys? ds
  | _ => none
theorem Rp.key {k : Key} (r : Rp CT H v d F) (h : d.key? = some k) : v = kV k := by
  cases r <;> simp [D.key?] at h <;> subst h <;> rfl
theorem Rps.keys : ∀ {vs : List V} {ds : List D} {F : List Addr} {ks : List Key}, Rps CT H vs ds F → keys? ds = some ks → vs = ks.map kV
  | _, _, _, _, .nil, h => by simp [keys?] at h; subst h; rfl
  | _, _, _, ks, .cons (d := d) (ds := ds) r rs, h => by
    unfold keys? at h
    split at h
    · rename_i k ks' h1 h2
      cases h
      rw [r.key h1, rs.keys h2]
      rfl
    · cases h
theorem Rp.tkey {k : List Key} (r : Rp CT H v d F) (h : d.tkey? = some k) : ∃ b, v = .ref b ∧ H b = some (.tup (k.map kV)) := by
  cases r <;> simp [D.tkey?] at h
  rename_i a vs ds ha rs
  exact ⟨_, rfl, by rw [ha, rs.keys h]⟩
def lookD {κ : Type} [DecidableEq κ] (kvs : List (κ × D)) (k : κ) : Option D := (kvs.find? fun kv => decide (kv.1 = k)).map (·.2)
theorem look_val {κ : Type} [DecidableEq κ] : ∀ {kvs : List (κ × V)} {kds : List (κ × D)} {F : List Addr} (k : κ), kvs.map (·.1) = kds.map (·.1) → Rps CT H (kvs.map (·.2)) (kds.map (·.2)) F →
    (lookD kds k = none ∧ valV kvs k = none) ∨ ∃ d v G, lookD kds k = some d ∧ valV kvs k = some v ∧ Rp CT H v d G ∧ G.Sublist F
  | [], [], _, k, _, _ => .inl ⟨rfl, rfl⟩
  | [], _ :: _, _, _, e, _ => by simp at e
  | _ :: _, [], _, _, e, _ => by simp at e
  | p :: kvs, q :: kds, _, k, e, .cons (F := F) (G := G) r rs => by
    simp only [List.map_cons, List.cons.injEq] at e
    obtain ⟨e1, e2⟩ := e
    by_cases h : p.1 = k
    · refine .inr ⟨q.2, p.2, F, ?_, ?_, r, List.sublist_append_left _ _⟩
      · unfold lookD; rw [List.find?_cons, decide_eq_true (e1 ▸ h)] <;> rfl
      · exact valV_pos h
    · have h' : ¬ q.1 = k := e1 ▸ h
      have a1 : lookD (q :: kds) k = lookD kds k := by unfold lookD; rw [List.find?_cons, decide_eq_false h']
      rcases look_val k e2 rs with ⟨b1, b2⟩ | ⟨d, v, G', b1, b2, b3, b4⟩
      · exact .inl ⟨a1.trans b1, (valV_neg h).trans b2⟩
      · exact .inr ⟨d, v, G', a1.trans b1, (valV_neg h).trans b2, b3, b4.trans (List.sublist_append_right _ _)⟩

/-! ### a[i] -/
theorem ix_dict {X : Cx} (hu : X.A.units + 1 < cLine) : IxR X (fun x y H Q => ∃ a v, x = .ref a ∧ DGet H a y (some v) ∧ Q v H) := by
  intro value slice pins s σ H x y v u Q I rx ry h hs
  obtain ⟨a, z, rfl, g, q⟩ := h
  obtain rfl : v = Value.ref a := rx
  exact tail_any (dict_typeIs I g) PySem.F.slot_dict_getitem.lookup (d_getItem hu I g ry fun w' s3 I3 rw' => ⟨z, H, I3, rw', q⟩) hs
def rIxU (K : PySem.W.Frag) : R2 := fun x y H Q => rIx K x y H Q ∨ ∃ a v, x = .ref a ∧ DGet H a y (some v) ∧ Q v H
theorem ix_U {X : Cx} (hu : X.A.units + 1 < cLine) : IxR X (rIxU X.K) := ix_seq.or (ix_dict hu)
def atD (xs : List D) (i : Int) (Q : D → Prop) : Prop := match atI xs i with
  | some d => Q d
  | none => False
def oIx : O2 := fun d e Q => match d with
  | .tup xs => (match e with | .int i => atD xs i Q | _ => False)
  | .lst xs => (match e with | .int i => atD xs i Q | _ => False)
  | .str z => (match e with | .int i => z.length ≤ sizeLine ∧ (match atI z.cps.toList i with | some c => Q (.str ⟨#[c]⟩) | none => False) | _ => False)
  | .dK kvs => (match e.key? with | some k => (match lookD kvs k with | some x => Q x | none => False) | none => False)
  | .dT kvs => (match e.tkey? with | some k => (match lookD kvs k with | some x => Q x | none => False) | none => False)
  | _ => False
theorem mono_atD {xs : List D} {i : Int} {Q Q' : D → Prop} (h : ∀ x, Q x → Q' x) (q : atD xs i Q) : atD xs i Q' := by
  unfold atD at q ⊢
  split at q
  · exact h _ q
  · exact q
theorem mono_oIx : Mono2 oIx := fun d e Q Q' h q => by
  cases d with
  | tup xs => cases e <;> first | exact mono_atD h q | exact q
  | lst xs => cases e <;> first | exact mono_atD h q | exact q
  | str z =>
    cases e with
    | int i =>
      refine ⟨q.1, ?_⟩
      have q2 := q.2
      revert q2
      cases atI z.cps.toList i with
      | some c => exact h _
      | none => exact fun z => z
    | _ => exact q
  | dK kvs =>
    unfold oIx at q ⊢
    revert q
    cases e.key? with
    | none => exact fun z => z
    | some k =>
      cases hl : lookD kvs k with
      | none => simp only [hl]; exact fun z => z
      | some x => simp only [hl]; exact h _
  | dT kvs =>
    unfold oIx at q ⊢
    revert q
    cases e.tkey? with
    | none => exact fun z => z
    | some k =>
      cases hl : lookD kvs k with
      | none => simp only [hl]; exact fun z => z
      | some x => simp only [hl]; exact h _
  | _ => exact q
theorem atI_len {α β : Type} {xs : List α} {ys : List β} {i : Int} {y : β} (l : xs.length = ys.length) (h : atI ys i = some y) : ∃ j : Nat, ys[j]? = some y ∧ ∀ x, xs[j]? = some x → atI xs i = some x := by
  unfold atI at h ⊢
  rw [← l] at h
  cases e : ixN xs.length i with
  | none => rw [e] at h; cases h
  | some j => rw [e] at h; exact ⟨j, h, fun x hx => hx⟩
theorem Rps.atI (r : Rps CT H vs ds F) {i : Int} {Q : D → Prop} (q : atD ds i Q) : ∃ v d G, L2.atI vs i = some v ∧ Q d ∧ Rp CT H v d G ∧ G.Sublist F := by
  unfold atD at q
  split at q
  · rename_i d e
    obtain ⟨j, h1, h2⟩ := atI_len (r.length) e
    obtain ⟨v, G, h3, h4, h5⟩ := r.get h1
    exact ⟨v, d, G, h2 v h3, q, h4, h5⟩
  · exact q.elim
/-- a part of the one operand comes out -/
structure SimPart (CT : Nat → Addr) (r : R2) (o : O2) : Prop where
  run : ∀ (H : Hp) (v w : V) (d e : D) (F G : List Addr) (Q : VK), Rp CT H v d F → Rp CT H w e G → o d e (fun x => ∀ z P, Rp CT H z x P → P.Sublist F → Q z H) → r v w H Q
  mono : Mono2 o
theorem so_ix : SimPart CT (rIxU K) oIx := ⟨fun H v w d e F G Q a b q => by
  cases a with
  | tup ha ra =>
    cases b with
    | int i =>
      obtain ⟨v, d, P, h1, h2, h3, h4⟩ := ra.atI q
      exact .inl (.inr (.inl ⟨_, _, _, _, rfl, rfl, SqT.of ha, h1, h2 v P h3 h4⟩))
    | _ => exact (show False from q).elim
  | lst ha ra =>
    cases b with
    | int i =>
      obtain ⟨v, d, P, h1, h2, h3, h4⟩ := ra.atI q
      exact .inl (.inl ⟨_, _, _, _, rfl, rfl, SqL.of ha, h1, h2 v P h3 (h4.trans (List.sublist_cons_self _ _))⟩)
    | _ => exact (show False from q).elim
  | str z =>
    cases b with
    | int i =>
      obtain ⟨q1, q2⟩ := q
      dsimp only at q2
      cases e : L2.atI z.cps.toList i with
      | none => rw [e] at q2; exact q2.elim
      | some c => rw [e] at q2; exact .inl (.inr (.inr ⟨_, _, _, rfl, rfl, q1, e, q2 _ [] (.str _) (List.nil_sublist _)⟩))
    | _ => exact (show False from q).elim
  | dK ha hk ra =>
    unfold oIx at q
    dsimp only at q
    cases ek : e.key? with
    | none => rw [ek] at q; exact q.elim
    | some k =>
      rw [ek] at q
      rcases look_val k hk ra with ⟨h1, _⟩ | ⟨x, v, P, h1, h2, h3, h4⟩
      · simp only [h1] at q
      · simp only [h1] at q
        exact .inr ⟨_, v, rfl, .inl ⟨_, k, .inl ha, b.key ek, h2.symm⟩, q v P h3 (h4.trans (List.sublist_cons_self _ _))⟩
  | dT ha hk ra =>
    unfold oIx at q
    dsimp only at q
    cases ek : e.tkey? with
    | none => rw [ek] at q; exact q.elim
    | some k =>
      rw [ek] at q
      obtain ⟨b', eb, hb⟩ := b.tkey ek
      rcases look_val k hk ra with ⟨h1, _⟩ | ⟨x, v, P, h1, h2, h3, h4⟩
      · simp only [h1] at q
      · simp only [h1] at q
        exact .inr ⟨_, v, rfl, .inr ⟨_, k, b', .inl ha, eb, hb, h2.symm⟩, q v P h3 (h4.trans (List.sublist_cons_self _ _))⟩
  | _ => exact (show False from q).elim, mono_oIx⟩
theorem sim_part {r : R2} {o : O2} (h : SimPart C.CT r o) (s : Sim C Γ ta A m) (s' : Sim C Γ tb B n) : Sim C Γ (tOp r ta tb) A (x2 o m n) :=
  ⟨fun σ H env Fs Q I q => s.run σ H env Fs _ I (s.mono env _ _ (fun d q v H1 F f dk r k => s'.run σ H1 env Fs _ (I.step f dk) (s'.mono env _ _ (fun e q w H2 G f2 dk2 r2 k2 =>
    h.run H2 v w d e F G Q (r.keep f2 k.1.wq) r2 (h.mono d e _ _ (fun x q z P rz sub => q z H2 P (f.trans f2) dk2 rz (k.sub sub)) q)) q)) q), mono_x2 h.mono s.mono s'.mono⟩

/-! ### in -/
def D.flat : D → Bool
  | .non => true
  | .bl _ => true
  | .int _ => true
  | .str _ => true
  | _ => false
theorem Rp.flat (r : Rp CT H v d F) (h : d.flat = true) : flatV v = true := by cases r <;> first | rfl | exact absurd h Bool.false_ne_true
theorem eqV_eqb {w : V} {e : D} (r : Rp CT H v d F) (r' : Rp CT H w e G) (h : d.flat = true) (h' : e.flat = true) : eqV v w = D.eqb d e := by
  cases r <;> first | exact absurd h Bool.false_ne_true | skip
  all_goals (cases r' <;> first | exact absurd h' Bool.false_ne_true | rfl | (simp [D.eqb, D.py, eqV, PyData.eqv]))
theorem Rps.flat : ∀ {vs : List V} {ds : List D} {F : List Addr}, Rps CT H vs ds F → ds.all D.flat = true → vs.all flatV = true
  | _, _, _, .nil, _ => rfl
  | _, _, _, .cons r rs, h => by
    simp only [List.all_cons, Bool.and_eq_true] at h ⊢
    exact ⟨r.flat h.1, rs.flat h.2⟩
theorem Rps.inV {x : V} {e : D} (r' : Rp CT H x e G) (h' : e.flat = true) : ∀ {vs : List V} {ds : List D} {F : List Addr}, Rps CT H vs ds F → ds.all D.flat = true → L2.inV x vs = ds.any fun z => D.eqb z e
  | _, _, _, .nil, _ => rfl
  | _, _, _, .cons r rs, h => by
    simp only [List.all_cons, Bool.and_eq_true] at h
    unfold L2.inV
    rw [List.any_cons, List.any_cons, eqV_eqb r r' h.1 h']
    congr 1
    exact rs.inV r' h' h.2
def rInU (K : PySem.W.Frag) : R2 := fun x y H Q => (rIn K false x y H Q ∨ rInD K x y H Q) ∨ ∃ a o, y = .ref a ∧ DGet H a x o ∧ Q (.bl o.isSome) H
def rNotInU (K : PySem.W.Frag) : R2 := fun x y H Q => (rIn K true x y H Q ∨ rNotInD K x y H Q) ∨ ∃ a o, y = .ref a ∧ DGet H a x o ∧ Q (.bl (!o.isSome)) H
theorem op_inU {X : Cx} (hu : X.A.units + 65 < cLine) : OpR X (compareOp .In) (rInU X.K) := (op_in_seq.or (op_inD hu)).or fun pins s σ H x y v u Q I rx ry h => by
  obtain ⟨a, o, rfl, g, q⟩ := h
  obtain rfl : u = Value.ref a := ry
  exact d_in (by omega) I g rx fun s3 I3 => ⟨.bl o.isSome, H, I3, rfl, q⟩
theorem op_notInU {X : Cx} (hu : X.A.units + 65 < cLine) : OpR X (compareOp .NotIn) (rNotInU X.K) := (op_notIn_seq.or (op_notInD hu)).or fun pins s σ H x y v u Q I rx ry h => by
  obtain ⟨a, o, rfl, g, q⟩ := h
  obtain rfl : u = Value.ref a := ry
  exact d_notIn (by omega) I g rx fun s3 I3 => ⟨.bl (!o.isSome), H, I3, rfl, q⟩
def inSeq (neg : Bool) (d : D) (xs : List D) (Q : D → Prop) : Prop := d.flat = true ∧ xs.all D.flat = true ∧ Q (.bl (xor neg (xs.any fun z => D.eqb z d)))
def oIn (neg : Bool) : O2 := fun d e Q => match e with
  | .tup xs => inSeq neg d xs Q
  | .lst xs => (inSeq neg d xs Q) ∨ (Sh d ∧ Sh (.lst xs) ∧ Q (.bl (xor neg (xs.any fun z => D.eqb z d))))
  | .dK kvs => (match d.key? with | some k => Q (.bl (xor neg (lookD kvs k).isSome)) | none => False)
  | .dT kvs => (match d.tkey? with | some k => Q (.bl (xor neg (lookD kvs k).isSome)) | none => False)
  | _ => False
theorem any_py (d : D) : ∀ xs : List D, ((pyL xs).any fun z => PyData.eqv z d.py) = xs.any fun z => D.eqb z d
  | [] => rfl
  | x :: xs => by rw [pyL, List.any_cons, List.any_cons, any_py d xs] <;> rfl
theorem look_isSome {κ : Type} [DecidableEq κ] {kvs : List (κ × V)} {kds : List (κ × D)} {F : List Addr} (k : κ) (hk : kvs.map (·.1) = kds.map (·.1)) (ra : Rps CT H (kvs.map (·.2)) (kds.map (·.2)) F) : (valV kvs k).isSome = (lookD kds k).isSome := by
  rcases look_val k hk ra with ⟨h1, h2⟩ | ⟨x, v, P, h1, h2, _⟩
  · rw [h1, h2] <;> rfl
  · rw [h1, h2] <;> rfl
theorem mono_oIn {neg : Bool} : Mono2 (oIn neg) := fun d e Q Q' h q => by
  cases e with
  | tup xs => exact ⟨q.1, q.2.1, h _ q.2.2⟩
  | lst xs =>
    rcases q with q | q
    · exact .inl ⟨q.1, q.2.1, h _ q.2.2⟩
    · exact .inr ⟨q.1, q.2.1, h _ q.2.2⟩
  | dK kvs =>
    unfold oIn at q ⊢
    revert q
    cases d.key? with
    | none => exact fun z => z
    | some k => exact h _
  | dT kvs =>
    unfold oIn at q ⊢
    revert q
    cases d.tkey? with
    | none => exact fun z => z
    | some k => exact h _
  | _ => exact q
theorem so_in : SimO2 CT (rInU K) (oIn false) := ⟨fun H v w d e F G Q a b q => by
  cases b with
  | tup hb rb =>
    obtain ⟨h1, h2, q⟩ := q
    refine .inl (.inl ⟨_, _, rfl, .inr (SqT.of hb), a.flat h1, rb.flat h2, ?_⟩)
    rw [if_neg Bool.false_ne_true, rb.inV a h1 h2]
    have := New.imm (CT := CT) q (.bl _)
    simpa using this
  | lst hb rb =>
    rcases q with ⟨h1, h2, q⟩ | ⟨h1, h2, q⟩
    · refine .inl (.inl ⟨_, _, rfl, .inl (SqL.of hb), a.flat h1, rb.flat h2, ?_⟩)
      rw [if_neg Bool.false_ne_true, rb.inV a h1 h2]
      have := New.imm (CT := CT) q (.bl _)
      simpa using this
    · refine .inl (.inr ⟨_, _, a.dp (SeqAt.canLay_of_shaped h1), (Rp.lst hb rb).dp (SeqAt.canLay_of_shaped h2), h1, h2, ?_⟩)
      rw [any_py]
      have := New.imm (CT := CT) q (.bl _)
      simpa using this
  | dK hb hk rb =>
    unfold oIn at q
    dsimp only at q
    cases ek : d.key? with
    | none => rw [ek] at q; exact q.elim
    | some k =>
      rw [ek] at q
      refine .inr ⟨_, _, rfl, .inl ⟨_, k, .inl hb, a.key ek, rfl⟩, ?_⟩
      rw [look_isSome k hk rb]
      have := New.imm (CT := CT) q (.bl _)
      simpa using this
  | dT hb hk rb =>
    unfold oIn at q
    dsimp only at q
    cases ek : d.tkey? with
    | none => rw [ek] at q; exact q.elim
    | some k =>
      rw [ek] at q
      obtain ⟨b', eb, hb'⟩ := a.tkey ek
      refine .inr ⟨_, _, rfl, .inr ⟨_, k, b', .inl hb, eb, hb', rfl⟩, ?_⟩
      rw [look_isSome k hk rb]
      have := New.imm (CT := CT) q (.bl _)
      simpa using this
  | _ => exact (show False from q).elim, mono_oIn⟩
theorem so_notIn : SimO2 CT (rNotInU K) (oIn true) := ⟨fun H v w d e F G Q a b q => by
  cases b with
  | tup hb rb =>
    obtain ⟨h1, h2, q⟩ := q
    refine .inl (.inl ⟨_, _, rfl, .inr (SqT.of hb), a.flat h1, rb.flat h2, ?_⟩)
    rw [if_pos rfl, rb.inV a h1 h2]
    have := New.imm (CT := CT) q (.bl _)
    simpa using this
  | lst hb rb =>
    rcases q with ⟨h1, h2, q⟩ | ⟨h1, h2, q⟩
    · refine .inl (.inl ⟨_, _, rfl, .inl (SqL.of hb), a.flat h1, rb.flat h2, ?_⟩)
      rw [if_pos rfl, rb.inV a h1 h2]
      have := New.imm (CT := CT) q (.bl _)
      simpa using this
    · refine .inl (.inr ⟨_, _, a.dp (SeqAt.canLay_of_shaped h1), (Rp.lst hb rb).dp (SeqAt.canLay_of_shaped h2), h1, h2, ?_⟩)
      rw [any_py]
      have := New.imm (CT := CT) q (.bl _)
      simpa using this
  | dK hb hk rb =>
    unfold oIn at q
    dsimp only at q
    cases ek : d.key? with
    | none => rw [ek] at q; exact q.elim
    | some k =>
      rw [ek] at q
      refine .inr ⟨_, _, rfl, .inl ⟨_, k, .inl hb, a.key ek, rfl⟩, ?_⟩
      rw [look_isSome k hk rb]
      have := New.imm (CT := CT) q (.bl _)
      simpa using this
  | dT hb hk rb =>
    unfold oIn at q
    dsimp only at q
    cases ek : d.tkey? with
    | none => rw [ek] at q; exact q.elim
    | some k =>
      rw [ek] at q
      obtain ⟨b', eb, hb'⟩ := a.tkey ek
      refine .inr ⟨_, _, rfl, .inr ⟨_, k, b', .inl hb, eb, hb', rfl⟩, ?_⟩
      rw [look_isSome k hk rb]
      have := New.imm (CT := CT) q (.bl _)
      simpa using this
  | _ => exact (show False from q).elim, mono_oIn⟩
end
end Pu

/-! file PuStm -/
set_option Elab.async false
set_option linter.all false
set_option maxRecDepth 100000
namespace Pu
open PySem PySem.Spec PyProof.Rows L2

section
variable {C : Cfg} {Γ Γ' Γn Γl Γ1 Γ2 : List Mo} {σ σ' : L2.St} {H H' H1 H2 : Hp} {env env' : PEnv} {Fs Fs' Fs1 Fs2 : Nat → List Addr} {v : V} {vs : List V} {d : D} {ds : List D} {F G : List Addr} {ta tb te : TE} {A B : Kd} {m n : X1}

/-- what a statement may change -/
def WO (C : Cfg) (Γ : List Mo) (Fs : Nat → List Addr) : Addr → Prop := fun a => Wq C a ∨ ∃ i : Nat, Γ[i]? = some .o ∧ a ∈ Fs i
def Mine (Γ : List Mo) (Fs : Nat → List Addr) (H : Hp) (F : List Addr) : Prop := ∀ a ∈ F, (∃ j : Nat, Γ[j]? = some .o ∧ a ∈ Fs j) ∨ H a = none
structure Go (C : Cfg) (Γ : List Mo) (Fs : Nat → List Addr) (H : Hp) (Γ' : List Mo) (Fs' : Nat → List Addr) (H' : Hp) : Prop where
  fr : Fr (WO C Γ Fs) H H'
  gr : ∀ i : Nat, Γ'[i]? = some .o → Mine Γ Fs H (Fs' i)
theorem Mine.back (g : Go C Γ Fs H Γ1 Fs1 H1) (m : Mine Γ1 Fs1 H1 F) : Mine Γ Fs H F := fun a ha => by
  rcases m a ha with ⟨j, g1, b⟩ | e
  · exact g.gr j g1 a b
  · exact .inr (g.fr.there a e)
theorem Fr.behind (g : Go C Γ Fs H Γ1 Fs1 H1) (f : Fr (WO C Γ1 Fs1) H1 H2) : Fr (WO C Γ Fs) H H2 := by
  refine ⟨fun a o e n => f.keep a o (g.fr.keep a o e n) fun w => ?_, fun a o e i => f.im a o (g.fr.im a o e i) i, fun a e => g.fr.there a (f.there a e)⟩
  rcases w with w | ⟨i, gi, b⟩
  · exact n (.inl w)
  · rcases g.gr i gi a b with ⟨j, gj, c⟩ | z
    · exact n (.inr ⟨j, gj, c⟩)
    · rw [e] at z; cases z
theorem Go.trans (g : Go C Γ Fs H Γ1 Fs1 H1) (f : Go C Γ1 Fs1 H1 Γ2 Fs2 H2) : Go C Γ Fs H Γ2 Fs2 H2 := ⟨Fr.behind g f.fr, fun i gi => (f.gr i gi).back g⟩
theorem Go.refl : Go C Γ Fs H Γ Fs H := ⟨Fr.refl, fun i gi a ha => .inl ⟨i, gi, ha⟩⟩
theorem Go.ev (f : Fr (Wq C) H H') : Go C Γ Fs H Γ Fs H' := ⟨f.mono fun _ w => .inl w, fun i gi a ha => .inl ⟨i, gi, ha⟩⟩

structure Lk (C : Cfg) (Γ : List Mo) (Fs : Nat → List Addr) (H : Hp) (Γn Γl : List Mo) (D : Ends) (E : PEnds) : Prop where
  nx : ∀ σ' H' env' Fs', Ok C Γn σ' H' env' Fs' → Go C Γ Fs H Γn Fs' H' → E.nx env' → D.nx σ' H'
  bk : ∀ σ' H' env' Fs', Ok C Γl σ' H' env' Fs' → Go C Γ Fs H Γl Fs' H' → E.bk env' → D.bk σ' H'
  ct : ∀ σ' H' env' Fs', Ok C Γl σ' H' env' Fs' → Go C Γ Fs H Γl Fs' H' → E.ct env' → D.ct σ' H'
  rt : ∀ v H' d F, Fr (WO C Γ Fs) H H' → DiceOk C H' → Rp C.CT H' v d F → F.Nodup → NoQ C F → Mine Γ Fs H F → E.rt d → D.rt v H'
theorem Lk.step {D : Ends} {E : PEnds} (l : Lk C Γ Fs H Γn Γl D E) (g : Go C Γ Fs H Γ1 Fs1 H1) : Lk C Γ1 Fs1 H1 Γn Γl D E :=
  ⟨fun σ' H' env' Fs' I g2 => l.nx σ' H' env' Fs' I (g.trans g2), fun σ' H' env' Fs' I g2 => l.bk σ' H' env' Fs' I (g.trans g2), fun σ' H' env' Fs' I g2 => l.ct σ' H' env' Fs' I (g.trans g2),
   fun v H' d F f dk r nd nq mi => l.rt v H' d F (Fr.behind g f) dk r nd nq (mi.back g)⟩
def PLe (E E' : PEnds) : Prop := (∀ e, E.nx e → E'.nx e) ∧ (∀ d, E.rt d → E'.rt d) ∧ (∀ e, E.bk e → E'.bk e) ∧ ∀ e, E.ct e → E'.ct e
structure SimS (C : Cfg) (Γl Γ Γ' : List Mo) (t : TS) (m : XS) : Prop where
  run : ∀ (σ : L2.St) (H : Hp) (env : PEnv) (Fs : Nat → List Addr) (D : Ends) (E : PEnds), Ok C Γ σ H env Fs → Lk C Γ Fs H Γ' Γl D E → m E env → t D σ H
  mono : ∀ E E' env, PLe E E' → m E env → m E' env

/-! ### one after the other -/
def sNext : XS := fun E env => E.nx env
def sSeq (a b : XS) : XS := fun E env => a { E with nx := b E } env
theorem sim_next : SimS C Γl Γ Γ tNext sNext := ⟨fun σ H env Fs D E I l h => l.nx σ H env Fs I Go.refl h, fun E E' env p h => p.1 env h⟩
theorem sim_seq {t u : TS} {a b : XS} (s : SimS C Γl Γ Γ1 t a) (s' : SimS C Γl Γ1 Γ2 u b) : SimS C Γl Γ Γ2 (tSeq t u) (sSeq a b) :=
  ⟨fun σ H env Fs D E I l h => s.run σ H env Fs _ { E with nx := b E } I ⟨fun σ' H' env' Fs' I' g q => s'.run σ' H' env' Fs' D E I' (l.step g) q, l.bk, l.ct, l.rt⟩ h,
   fun E E' env p h => s.mono { E with nx := b E } { E' with nx := b E' } env ⟨fun e q => s'.mono _ _ e p q, p.2.1, p.2.2.1, p.2.2.2⟩ h⟩

/-! ### what is known less of -/
def wk1 : Mo → Mo → Bool
  | _, .x => true
  | .o, .f => true
  | a, b => decide (a = b)
def wk : List Mo → List Mo → Bool
  | [], [] => true
  | a :: as, b :: bs => wk1 a b && wk as bs
  | _, _ => false
theorem wk_len : ∀ {Γ Γ' : List Mo}, wk Γ Γ' = true → Γ.length = Γ'.length
  | [], [], _ => rfl
  | a :: as, b :: bs, h => by
    simp only [wk, Bool.and_eq_true] at h
    simp [wk_len h.2]
  | [], _ :: _, h => by simp [wk] at h
  | _ :: _, [], h => by simp [wk] at h
theorem wk_at : ∀ {Γ Γ' : List Mo} {i : Nat} {b : Mo}, wk Γ Γ' = true → Γ'[i]? = some b → ∃ a, Γ[i]? = some a ∧ wk1 a b = true
  | a :: as, b :: bs, 0, c, h, e => by
    simp only [wk, Bool.and_eq_true] at h
    simp at e; subst e
    exact ⟨a, rfl, h.1⟩
  | a :: as, b :: bs, i + 1, c, h, e => by
    simp only [wk, Bool.and_eq_true] at h
    obtain ⟨x, h1, h2⟩ := wk_at (i := i) h.2 (by simpa using e)
    exact ⟨x, by simpa using h1, h2⟩
  | [], _, _, _, h, e => by
    rename_i Γ' _ _
    cases Γ' with
    | nil => simp at e
    | cons _ _ => simp [wk] at h
  | _ :: _, [], _, _, h, e => by simp [wk] at h
theorem wk_o {i : Nat} (h : wk Γ Γ' = true) (e : Γ'[i]? = some .o) : Γ[i]? = some .o := by
  obtain ⟨a, h1, h2⟩ := wk_at h e
  cases a <;> first | exact h1 | exact absurd h2 (by decide)
theorem wk_live {i : Nat} {b : Mo} (h : wk Γ Γ' = true) (e : Γ'[i]? = some b) (l : live b) : ∃ a, Γ[i]? = some a ∧ live a := by
  obtain ⟨a, h1, h2⟩ := wk_at h e
  refine ⟨a, h1, ?_⟩
  rcases l with rfl | rfl <;> cases a <;> first | exact .inl rfl | exact .inr rfl | exact absurd h2 (by decide)
theorem wk_q {i : Nat} (h : wk Γ Γ' = true) (e : Γ'[i]? = some .q) : Γ[i]? = some .q := by
  obtain ⟨a, h1, h2⟩ := wk_at h e
  cases a <;> first | exact h1 | exact absurd h2 (by decide)
theorem Ok.weak (I : Ok C Γ σ H env Fs) (h : wk Γ Γ' = true) : Ok C Γ' σ H env Fs :=
  ⟨I.le.trans (wk_len h), I.ls.trans (wk_len h), fun i m g l => by
    obtain ⟨a, g1, l1⟩ := wk_live h g l
    exact I.val i a g1 l1, fun i g => I.dice i (wk_q h g), fun i g => I.nd i (wk_o h g), fun i j m g g' l ne => by
    obtain ⟨a, g1, l1⟩ := wk_live h g' l
    exact I.dj i j a (wk_o h g) g1 l1 ne, fun i m g l => by
    obtain ⟨a, g1, l1⟩ := wk_live h g l
    exact I.nq i a g1 l1, I.dk, I.pn⟩
theorem Go.weak (g : Go C Γ Fs H Γ1 Fs1 H1) (h : wk Γ1 Γ2 = true) : Go C Γ Fs H Γ2 Fs1 H1 := ⟨g.fr, fun i gi => g.gr i (wk_o h gi)⟩
theorem sim_weak {t : TS} {a : XS} (s : SimS C Γl Γ Γ1 t a) (h : wk Γ1 Γ2 = true) : SimS C Γl Γ Γ2 t a :=
  ⟨fun σ H env Fs D E I l q => s.run σ H env Fs D E I ⟨fun σ' H' env' Fs' I' g => l.nx σ' H' env' Fs' (I'.weak h) (g.weak h), l.bk, l.ct, l.rt⟩ q, s.mono⟩
/-- .. ahead of it -/
theorem sim_weak0 {t : TS} {a : XS} (h : wk Γ Γ1 = true) (s : SimS C Γl Γ1 Γ2 t a) : SimS C Γl Γ Γ2 t a :=
  ⟨fun σ H env Fs D E I l q => s.run σ H env Fs D E (I.weak h) (l.step (Go.refl.weak h)) q, s.mono⟩

/-! ### slots set -/
def setF (Fs : Nat → List Addr) (i : Nat) (F : List Addr) : Nat → List Addr := fun j => if j = i then F else Fs j
theorem setF_same {i : Nat} : setF Fs i F i = F := if_pos rfl
theorem setF_ne {i j : Nat} (h : j ≠ i) : setF Fs i F j = Fs j := if_neg h
theorem get_set {α : Type} {l : List α} {i j : Nat} {a b : α} (h : (l.set i a)[j]? = some b) : (j = i ∧ b = a ∧ i < l.length) ∨ (j ≠ i ∧ l[j]? = some b) := by
  by_cases e : j = i
  · subst e
    rw [List.getElem?_set_self'] at h
    by_cases hl : j < l.length
    · simp [hl] at h; exact .inl ⟨rfl, h.symm, hl⟩
    · simp [List.getElem?_eq_none (Nat.le_of_not_lt hl)] at h
  · rw [List.getElem?_set_ne (Ne.symm e)] at h
    exact .inr ⟨e, h⟩
theorem Ok.setA (I : Ok C Γ σ H env Fs) {i : Nat} {mo : Mo} (fr : Free C i) (hm : live mo) (hi : i < Γ.length) (r : Rp C.CT H v d F) (nq : NoQ C F)
    (dj : ∀ a ∈ F, ∀ j : Nat, Γ[j]? = some .o → j ≠ i → a ∉ Fs j) (own : mo = .o → F.Nodup ∧ ∀ a ∈ F, ∀ (j : Nat) (m : Mo), Γ[j]? = some m → live m → j ≠ i → a ∉ Fs j) :
    Ok C (Γ.set i mo) (σ.set i (some v)) H (env.set i (some d)) (setF Fs i F) := by
  have hσ : i < σ.length := by rw [I.ls]; exact hi
  have he : i < env.length := by rw [I.le]; exact hi
  refine ⟨by simp [I.le], by simp [I.ls], fun j m g l => ?_, fun j g => ?_, fun j g => ?_, fun j k m g g' l ne => ?_, fun j m g l => ?_, I.dk, fun p hp => ?_⟩
  · rcases get_set g with ⟨rfl, rfl, _⟩ | ⟨ne, g⟩
    · exact ⟨v, d, by rw [List.getElem?_set_self hσ], by rw [List.getElem?_set_self he], by rw [setF_same]; exact r⟩
    · obtain ⟨v', d', h1, h2, h3⟩ := I.val j m g l
      exact ⟨v', d', by rw [List.getElem?_set_ne (Ne.symm ne)]; exact h1, by rw [List.getElem?_set_ne (Ne.symm ne)]; exact h2, by rw [setF_ne ne]; exact h3⟩
  · rcases get_set g with ⟨rfl, e, _⟩ | ⟨ne, g⟩
    · rcases hm with rfl | rfl <;> cases e
    · obtain ⟨p, h1, h2⟩ := I.dice j g
      exact ⟨p, h1, by rw [List.getElem?_set_ne (Ne.symm ne)]; exact h2⟩
  · rcases get_set g with ⟨rfl, e, _⟩ | ⟨ne, g⟩
    · rw [setF_same]; exact (own e.symm).1
    · rw [setF_ne ne]; exact I.nd j g
  · intro a ha hb
    rcases get_set g with ⟨ej, e, _⟩ | ⟨nj, g1⟩
    · rw [ej, setF_same] at ha
      rcases get_set g' with ⟨ek, _, _⟩ | ⟨nk, g2⟩
      · exact ne (ej.trans ek.symm)
      · rw [setF_ne nk] at hb
        exact (own e.symm).2 a ha k m g2 l nk hb
    · rw [setF_ne nj] at ha
      rcases get_set g' with ⟨ek, _, _⟩ | ⟨nk, g2⟩
      · rw [ek, setF_same] at hb
        exact dj a hb j g1 nj ha
      · rw [setF_ne nk] at hb
        exact I.dj j k m g1 g2 l ne a ha hb
  · rcases get_set g with ⟨rfl, _, _⟩ | ⟨ne, g⟩
    · rw [setF_same]; exact nq
    · rw [setF_ne ne]; exact I.nq j m g l
  · have ne : i ≠ p.1 := fun e => fr (by rw [e]; exact List.mem_map.mpr ⟨p, hp, rfl⟩)
    rw [List.getElem?_set_ne ne]; exact I.pn p hp
theorem Ok.tracked (I : Ok C Γ σ H env Fs) {i : Nat} {m : Mo} (g : Γ[i]? = some m) (l : live m) : ∀ a ∈ Fs i, H a ≠ none := by
  obtain ⟨v, d, _, _, r⟩ := I.val i m g l
  exact r.tracked
/-- a result that is new goes to a slot -/
theorem Ok.setO (I : Ok C Γ σ H env Fs) (f : Fr (Wq C) H H1) (dk : DiceOk C H1) {i : Nat} (fr : Free C i) (hi : i < Γ.length) (r : Rp C.CT H1 v d F) (k : KdOk C Γ Fs H .own F) :
    Ok C (Γ.set i .o) (σ.set i (some v)) H1 (env.set i (some d)) (setF Fs i F) :=
  (I.step f dk).setA fr (.inl rfl) hi r k.1 (fun a ha j g _ hb => I.tracked g (.inl rfl) a hb (k.2.2 a ha)) fun _ => ⟨k.2.1, fun a ha j m g l _ hb => I.tracked g l a hb (k.2.2 a ha)⟩
def sSet (i : Nat) (m : X1) : XS := fun E env => m env fun d => E.nx (env.set i (some d))
theorem mono_sSet {i : Nat} (hm : Mono m) : ∀ E E' env, PLe E E' → sSet i m E env → sSet i m E' env := fun E E' env p h => hm env _ _ (fun d q => p.1 _ q) h
theorem sim_setO {i : Nat} (fr : Free C i) (hi : i < Γ.length) (s : Sim C Γ te .own m) : SimS C Γl Γ (Γ.set i .o) (tAsg te (gName i)) (sSet i m) :=
  ⟨fun σ H env Fs D E I l h => s.run σ H env Fs _ I (s.mono env _ _ (fun d q v H1 F f dk r k => l.nx _ H1 _ _ (I.setO f dk fr hi r k) ⟨f.mono fun _ w => .inl w, fun j g a ha => by
    rcases get_set g with ⟨rfl, _, _⟩ | ⟨ne, g⟩
    · rw [setF_same] at ha; exact .inr (k.2.2 a ha)
    · rw [setF_ne ne] at ha; exact .inl ⟨j, g, ha⟩⟩ q) h), mono_sSet s.mono⟩
def noO (S : List Nat) (Γ : List Mo) : Bool := S.all fun i => decide (Γ[i]? ≠ some .o)
/-- .. that may be part of slots: these are not owned from now on -/
theorem sim_setF {i : Nat} {S : List Nat} (fr : Free C i) (hw : wk Γ Γ1 = true) (hS : noO S Γ1 = true) (hi : i < Γ1.length) (s : Sim C Γ te (.al S) m) : SimS C Γl Γ (Γ1.set i .f) (tAsg te (gName i)) (sSet i m) :=
  ⟨fun σ H env Fs D E I l h => s.run σ H env Fs _ I (s.mono env _ _ (fun d q v H1 F f dk r k => l.nx _ H1 _ _
    (((I.step f dk).weak hw).setA fr (.inr rfl) hi r k.1 (fun a ha j g _ hb => by
      have h1 := k.2 a ha j (wk_o hw g) hb
      have h2 := List.all_eq_true.mp hS j h1
      exact absurd g (of_decide_eq_true h2)) (fun z => nomatch z)) ⟨f.mono fun _ w => .inl w, fun j g a ha => by
    rcases get_set g with ⟨rfl, e, _⟩ | ⟨ne, g⟩
    · cases e
    · rw [setF_ne ne] at ha; exact .inl ⟨j, wk_o hw g, ha⟩⟩ q) h), mono_sSet s.mono⟩

/-! ### if, return, expressions as statements -/
def sIf (c : XB) (a b : XS) : XS := fun E env => c env fun k => if k = true then a E env else b E env
theorem sim_if {c : TT} {t u : TS} {mc : XB} {a b : XS} (s : SimT C Γ c mc) (s1 : SimS C Γl Γ Γ1 t a) (s2 : SimS C Γl Γ Γ1 u b) : SimS C Γl Γ Γ1 (tIfS c t u) (sIf mc a b) :=
  ⟨fun σ H env Fs D E I l h => s.run σ H env Fs _ I (s.mono env _ _ (fun k q H1 f dk => by
    cases k with
    | true => exact s1.run σ H1 env Fs D E (I.step f dk) (l.step (Go.ev f)) q
    | false => exact s2.run σ H1 env Fs D E (I.step f dk) (l.step (Go.ev f)) q) h),
   fun E E' env p h => s.mono env _ _ (fun k q => by
    cases k with
    | true => exact s1.mono _ _ env p q
    | false => exact s2.mono _ _ env p q) h⟩
def sRet (m : X1) : XS := fun E env => m env E.rt
theorem sim_ret (s : Sim C Γ te .own m) : SimS C Γl Γ Γ' (tRet te) (sRet m) :=
  ⟨fun σ H env Fs D E I l h => s.run σ H env Fs _ I (s.mono env _ _ (fun d q v H1 F f dk r k => l.rt v H1 d F (f.mono fun _ w => .inl w) dk r k.2.1 k.1 (fun a ha => .inr (k.2.2 a ha)) q) h),
   fun E E' env p h => s.mono env _ _ p.2.1 h⟩
/-- an owned slot is handed back whole -/
theorem sim_retO {i : Nat} (g : Γ[i]? = some .o) : SimS C Γl Γ Γ' (tRet (tVar i)) (sRet (xVar i)) :=
  ⟨fun σ H env Fs D E I l h => by
    obtain ⟨v, d, h1, h2, r⟩ := I.val i _ g (.inl rfl)
    refine ⟨v, h1, l.rt v H d (Fs i) Fr.refl I.dk r (I.nd i g) (I.nq i _ g (.inl rfl)) (fun a ha => .inl ⟨i, g, ha⟩) ?_⟩
    have h : xVar i env E.rt := h
    unfold xVar at h
    rw [h2] at h
    exact h, fun E E' env p h => mono_var env _ _ p.2.1 h⟩
def sRetN : XS := fun E _ => E.rt .non
theorem sim_retN : SimS C Γl Γ Γ' tRetN sRetN := ⟨fun σ H env Fs D E I l h => l.rt .non H .non [] Fr.refl I.dk .non List.nodup_nil NoQ.nil (fun _ z => nomatch z) h, fun E E' env p h => p.2.1 _ h⟩
def sDrop (m : X1) : XS := fun E env => m env fun _ => E.nx env
theorem sim_drop (s : Sim C Γ te A m) : SimS C Γl Γ Γ (tDrop te) (sDrop m) :=
  ⟨fun σ H env Fs D E I l h => s.run σ H env Fs _ I (s.mono env _ _ (fun d q v H1 F f dk r k => l.nx σ H1 env Fs (I.step f dk) (Go.ev f) q) h), fun E E' env p h => s.mono env _ _ (fun _ q => p.1 _ q) h⟩
def sNever : XS := fun _ _ => False
theorem sim_never : SimS C Γl Γ Γ' tNever sNever := ⟨fun σ H env Fs D E I l h => h, fun E E' env p h => h⟩
def sBreak : XS := fun E env => E.bk env
def sCont : XS := fun E env => E.ct env
theorem sim_break (h : wk Γ Γl = true) : SimS C Γl Γ Γ' tBreak sBreak := ⟨fun σ H env Fs D E I l q => l.bk σ H env Fs (I.weak h) (Go.refl.weak h) q, fun E E' env p h => p.2.2.1 _ h⟩
theorem sim_cont (h : wk Γ Γl = true) : SimS C Γl Γ Γ' tCont sCont := ⟨fun σ H env Fs D E I l q => l.ct σ H env Fs (I.weak h) (Go.refl.weak h) q, fun E E' env p h => p.2.2.2 _ h⟩
end
end Pu

/-! file PuLoop -/
set_option Elab.async false
set_option linter.all false
set_option maxRecDepth 100000
namespace Pu
open PySem PySem.Spec PyProof.Rows L2

/-- what a loop walks: the data in turn; S: what must stand meanwhile -/
structure Walk (CT : Nat → Addr) (J : It) (S : List Addr) (P : Hp → Prop) (ds : List D) : Prop where
  keep : ∀ (W : Addr → Prop) (H H' : Hp), P H → Fr W H H' → (∀ a ∈ S, ¬ W a) → P H'
  there : ∀ H, P H → ∀ a ∈ S, H a ≠ none
  go : ∀ (i : Nat) (H : Hp), P H → i < ds.length → J.go i H
  stop : ∀ H, P H → J.stop ds.length H
  yld : ∀ (i : Nat) (H : Hp) (x : V) (H' : Hp), P H → i < ds.length → J.yld i H x H' → ∃ d G, ds[i]? = some d ∧ Fr (fun _ => False) H H' ∧ Rp CT H' x d G ∧ ∀ a ∈ G, a ∈ S
def KdS (C : Cfg) (Γ : List Mo) (Fs : Nat → List Addr) (A : Kd) (S : List Addr) : Prop := NoQ C S ∧ ∀ a ∈ S, ∀ i : Nat, Γ[i]? = some .o → a ∈ Fs i → i ∈ A.set
structure SimI (C : Cfg) (Γ : List Mo) (wi : TI) (A : Kd) (m : XL) : Prop where
  run : ∀ (σ : L2.St) (H : Hp) (env : PEnv) (Fs : Nat → List Addr) (R : It → Hp → Prop), Ok C Γ σ H env Fs →
    m env (fun ds => ∀ H' J S P, Fr (Wq C) H H' → DiceOk C H' → Walk C.CT J S P ds → P H' → KdS C Γ Fs A S → R J H') → wi σ H R
  mono : Mono m
abbrev XG := D → PEnv → (PEnv → Prop) → Prop
structure SimG (C : Cfg) (Γ Γ' : List Mo) (ks : List Nat) (g : TG) (b : XG) : Prop where
  run : ∀ (σ : L2.St) (H : Hp) (env : PEnv) (Fs : Nat → List Addr) (v : V) (d : D) (F : List Addr) (Q : L2.St → Hp → Prop), Ok C Γ σ H env Fs → Rp C.CT H v d F → NoQ C F → (∀ a ∈ F, ∀ j : Nat, Γ[j]? = some .o → a ∉ Fs j) →
    b d env (fun env' => ∀ σ' Fs', Ok C Γ' σ' H env' Fs' → (∀ j : Nat, Γ'[j]? = some .o ↔ Γ[j]? = some .o) → (∀ j : Nat, Γ[j]? = some .o → Fs' j = Fs j) → σ'.length = σ.length → (∀ j : Nat, j ∉ ks → σ'[j]? = σ[j]?) → Q σ' H) → g v σ H Q
  mono : ∀ d env Q Q', (∀ e, Q e → Q' e) → b d env Q → b d env Q'
def bName (i : Nat) : XG := fun d env Q => Q (env.set i (some d))
section
variable {C : Cfg} {Γ Γ' Γn Γl Γo Γt Γe Γ1 Γ2 : List Mo} {σ σ' : L2.St} {H H' H1 H2 : Hp} {env env' : PEnv} {Fs Fs' Fs1 Fs2 : Nat → List Addr} {v : V} {vs : List V} {d : D} {ds : List D} {F G : List Addr} {ta tb te : TE} {A B : Kd} {m n : X1}

theorem simg_name {i : Nat} (fr : Free C i) (hi : i < Γ.length) (ho : Γ[i]? ≠ some .o) : SimG C Γ (Γ.set i .f) [i] (gName i) (bName i) :=
  ⟨fun σ H env Fs v d F Q I r nq dj h => h _ _ (I.setA fr (.inr rfl) hi r nq (fun a ha j g _ => dj a ha j g) (fun z => nomatch z)) (fun j => ⟨fun g => by
    rcases get_set g with ⟨_, e, _⟩ | ⟨_, g⟩
    · cases e
    · exact g, fun g => by
    have ne : j ≠ i := fun e => ho (e ▸ g)
    rw [List.getElem?_set_ne (Ne.symm ne)]; exact g⟩) (fun j g => setF_ne fun e => ho (e ▸ g)) (by simp) (fun j hj => by
    rw [List.getElem?_set_ne (fun e => hj (by simp [e]))]), fun d env Q Q' h q => h _ q⟩
/-- tuples of targets -/
abbrev XGs := List D → PEnv → (PEnv → Prop) → Prop
structure SimGs (C : Cfg) (Γ Γ' : List Mo) (ks : List Nat) (g : TGs) (b : XGs) : Prop where
  run : ∀ (σ : L2.St) (H : Hp) (env : PEnv) (Fs : Nat → List Addr) (vs : List V) (ds : List D) (F : List Addr) (Q : L2.St → Hp → Prop), Ok C Γ σ H env Fs → Rps C.CT H vs ds F → NoQ C F → (∀ a ∈ F, ∀ j : Nat, Γ[j]? = some .o → a ∉ Fs j) →
    b ds env (fun env' => ∀ σ' Fs', Ok C Γ' σ' H env' Fs' → (∀ j : Nat, Γ'[j]? = some .o ↔ Γ[j]? = some .o) → (∀ j : Nat, Γ[j]? = some .o → Fs' j = Fs j) → σ'.length = σ.length → (∀ j : Nat, j ∉ ks → σ'[j]? = σ[j]?) → Q σ' H) → g vs σ H Q
  mono : ∀ d env Q Q', (∀ e, Q e → Q' e) → b d env Q → b d env Q'
def bNil : XGs := fun ds env Q => match ds with
  | [] => Q env
  | _ :: _ => False
def bCons (b : XG) (r : XGs) : XGs := fun ds env Q => match ds with
  | [] => False
  | d :: ds => b d env fun env' => r ds env' Q
theorem simgs_nil : SimGs C Γ Γ [] gNil bNil := ⟨fun σ H env Fs vs ds F Q I r nq dj h => by
  cases r with
  | nil => exact ⟨rfl, h σ Fs I (fun _ => Iff.rfl) (fun _ _ => rfl) rfl fun _ _ => rfl⟩
  | cons _ _ => exact (show False from h).elim, fun d env Q Q' k h => by cases d <;> first | exact k _ h | exact h⟩
theorem simgs_cons {ks ls : List Nat} {g : TG} {gs : TGs} {b : XG} {r : XGs} (s : SimG C Γ Γ1 ks g b) (s' : SimGs C Γ1 Γ2 ls gs r) : SimGs C Γ Γ2 (ks ++ ls) (gCons g gs) (bCons b r) :=
  ⟨fun σ H env Fs vs ds F Q I rr nq dj h => by
    cases rr with
    | nil => exact (show False from h).elim
    | cons hd tl =>
      rename_i v d F1 F2 vs ds
      refine ⟨v, vs, rfl, s.run σ H env Fs v d F1 _ I hd (nq.sub (List.sublist_append_left _ _)) (fun a ha => dj a (List.mem_append_left _ ha)) (s.mono _ _ _ _ (fun env' q σ1 Fs1 I1 o1 f1 l1 k1 => ?_) h)⟩
      refine s'.run σ1 H env' Fs1 vs ds F2 Q I1 tl (nq.sub (List.sublist_append_right _ _)) (fun a ha j g => by rw [f1 j ((o1 j).mp g)]; exact dj a (List.mem_append_right _ ha) j ((o1 j).mp g)) (s'.mono _ _ _ _ (fun env2 q σ2 Fs2 I2 o2 f2 l2 k2 => ?_) q)
      exact q σ2 Fs2 I2 (fun j => (o2 j).trans (o1 j)) (fun j g => (f2 j ((o1 j).mpr g)).trans (f1 j g)) (l2.trans l1) fun j hj => (k2 j fun z => hj (List.mem_append_right _ z)).trans (k1 j fun z => hj (List.mem_append_left _ z)),
   fun d env Q Q' k h => by
    cases d with
    | nil => exact h
    | cons d ds => exact s.mono _ _ _ _ (fun e q => s'.mono _ _ _ _ k q) h⟩
def bTup (n : Nat) (r : XGs) : XG := fun d env Q => match d with
  | .tup ds => ds.length = n ∧ r ds env Q
  | _ => False
theorem simg_tup {K : PySem.W.Frag} {ks : List Nat} {n : Nat} {gs : TGs} {r : XGs} (s : SimGs C Γ Γ1 ks gs r) : SimG C Γ Γ1 ks (gTup K n gs) (bTup n r) :=
  ⟨fun σ H env Fs v d F Q I rr nq dj h => by
    cases rr with
    | tup ha ra => exact ⟨_, _, rfl, SqT.of ha, by rw [ra.length]; exact h.1, s.run σ H env Fs _ _ _ Q I ra nq dj h.2⟩
    | _ => exact (show False from h).elim, fun d env Q Q' k h => by
    cases d <;> first | exact ⟨h.1, s.mono _ _ _ _ k h.2⟩ | exact h⟩

/-! ### for -/
def sLoop (b : XG) (body : XS) : List D → XS
  | [] => fun E env => E.nx env
  | d :: ds => fun E env => b d env fun env1 => body { nx := sLoop b body ds E, rt := E.rt, bk := E.nx, ct := sLoop b body ds E } env1
def sFor (mi : XL) (b : XG) (body : XS) : XS := fun E env => mi env fun ds => sLoop b body ds E env
theorem mono_sLoop {b : XG} {body : XS} (hb : ∀ d env Q Q', (∀ e, Q e → Q' e) → b d env Q → b d env Q') (h : ∀ E E' env, PLe E E' → body E env → body E' env) : ∀ (ds : List D) (E E' : PEnds) (env : PEnv), PLe E E' → sLoop b body ds E env → sLoop b body ds E' env
  | [], E, E', env, p, q => p.1 _ q
  | d :: ds, E, E', env, p, q => hb _ _ _ _ (fun e q => h { nx := sLoop b body ds E, rt := E.rt, bk := E.nx, ct := sLoop b body ds E } { nx := sLoop b body ds E', rt := E'.rt, bk := E'.nx, ct := sLoop b body ds E' } e ⟨fun e q => mono_sLoop hb h ds E E' e p q, p.2.1, p.1, fun e q => mono_sLoop hb h ds E E' e p q⟩ q) q
theorem sim_for {wi : TI} {g : TG} {tb : TS} {mi : XL} {b : XG} {body : XS} {ks : List Nat} (s : SimI C Γ wi A mi) (hw : wk Γ Γl = true) (hS : noO A.set Γl = true) (sg : SimG C Γl Γt ks g b) (sb : SimS C Γl Γt Γe tb body) (hb : wk Γe Γl = true) :
    SimS C Γo Γ Γl (tFor wi g tb) (sFor mi b body) :=
  ⟨fun σ H env Fs D E I l h => s.run σ H env Fs _ I (s.mono env _ _ (fun ds q H1 J S P f dk wlk p kd => by
    have I1 : Ok C Γl σ H1 env Fs := (I.step f dk).weak hw
    have g1 : Go C Γ Fs H Γl Fs H1 := (Go.ev f).weak hw
    have nw : ∀ a ∈ S, ¬ WO C Γl Fs a := fun a ha w => by
      rcases w with w | ⟨i, gi, hb⟩
      · exact kd.1.wq a ha w
      · exact absurd gi (of_decide_eq_true (List.all_eq_true.mp hS i (kd.2 a ha i (wk_o hw gi) hb)))
    refine ⟨fun i m σ H => m = ds.length - i ∧ i ≤ ds.length ∧ ∃ env Fs2, Ok C Γl σ H env Fs2 ∧ Go C Γl Fs H1 Γl Fs2 H ∧ sLoop b body (ds.drop i) E env, ⟨ds.length, rfl, Nat.zero_le _, env, Fs, I1, Go.refl, q⟩, ?_⟩
    rintro i m σ2 H2 ⟨rfl, hi, env2, Fs2, I2, g2, q2⟩
    have p2 : P H2 := wlk.keep _ H1 H2 p g2.fr nw
    by_cases hlt : i < ds.length
    · refine .inr ⟨wlk.go i H2 p2 hlt, fun σ' H' => ∃ env Fs3, Ok C Γl σ' H' env Fs3 ∧ Go C Γl Fs H1 Γl Fs3 H' ∧ sLoop b body (ds.drop (i + 1)) E env, fun σ' H' hN => ⟨ds.length - (i + 1), by omega, rfl, hlt, hN⟩, fun x H3 y => ?_⟩
      obtain ⟨d, G, e, f3, r3, sub⟩ := wlk.yld i H2 x H3 p2 hlt y
      have hd : ds.drop i = d :: ds.drop (i + 1) := by
        obtain ⟨h1, h2⟩ := List.getElem?_eq_some_iff.mp e
        rw [← h2, List.drop_eq_getElem_cons h1]
      rw [hd] at q2
      have I3 : Ok C Γl σ2 H3 env2 Fs2 := I2.step f3.wq (I2.dk.keep f3)
      have g3 : Go C Γl Fs H1 Γl Fs2 H3 := g2.trans (Go.ev f3.wq)
      refine sg.run σ2 H3 env2 Fs2 x d G _ I3 r3 (fun p e => ⟨fun hm => (kd.1 p e).1 (sub _ hm), fun hm => (kd.1 p e).2 (sub _ hm)⟩) (fun a ha j gj hb => ?_) (sg.mono _ _ _ _ (fun env3 q3 σ4 Fs4 I4 o4 f4 _ _ => ?_) q2)
      · rcases g3.gr j gj a hb with ⟨k, gk, hk⟩ | z
        · exact nw a (sub a ha) (.inr ⟨k, gk, hk⟩)
        · exact wlk.there H1 p a (sub a ha) z
      · have g4 : Go C Γl Fs H1 Γt Fs4 H3 := ⟨g3.fr, fun j gj => by rw [f4 j ((o4 j).mp gj)]; exact g3.gr j ((o4 j).mp gj)⟩
        have g0 : Go C Γ Fs H Γt Fs4 H3 := g1.trans g4
        refine sb.run σ4 H3 env3 Fs4 _ _ I4 ⟨fun σ' H' env' Fs' I' g' q' => ⟨env', Fs', I'.weak hb, (g4.trans g').weak hb, q'⟩, fun σ' H' env' Fs' I' g' q' => l.nx σ' H' env' Fs' I' (g0.trans g') q', fun σ' H' env' Fs' I' g' q' => ⟨env', Fs', I', g4.trans g', q'⟩, ?_⟩ q3
        exact fun v H' d F f dk r nd nq mi q => l.rt v H' d F (Fr.behind g0 f) dk r nd nq (mi.back g0) q
    · have e : i = ds.length := by omega
      subst e
      rw [List.drop_length] at q2
      exact .inl ⟨wlk.stop H2 p2, l.nx σ2 H2 env2 Fs2 I2 (g1.trans g2) q2⟩) h),
   fun E E' env p h => s.mono env _ _ (fun ds q => mono_sLoop sg.mono sb.mono ds E E' env p q) h⟩

/-! ### while -/
def sWhile (c : XB) (body : XS) : XS := fun E env => ∃ W : Nat → PEnv → Prop, (∃ n, W n env) ∧ ∀ n env, W n env → c env fun k =>
  if k = true then body { nx := fun env' => ∃ n', n' < n ∧ W n' env', rt := E.rt, bk := E.nx, ct := fun env' => ∃ n', n' < n ∧ W n' env' } env else E.nx env
theorem sim_while {c : TT} {tb : TS} {mc : XB} {body : XS} (hw : wk Γ Γl = true) (s : SimT C Γl c mc) (sb : SimS C Γl Γl Γe tb body) (hb : wk Γe Γl = true) : SimS C Γo Γ Γl (tWhile c tb) (sWhile mc body) :=
  ⟨fun σ H env Fs D E I l h => by
    obtain ⟨W, ⟨n, w0⟩, hs⟩ := h
    have g1 : Go C Γ Fs H Γl Fs H := Go.refl.weak hw
    refine ⟨fun n σ H' => ∃ env Fs2, Ok C Γl σ H' env Fs2 ∧ Go C Γ Fs H Γl Fs2 H' ∧ W n env, ⟨n, env, Fs, I.weak hw, g1, w0⟩, ?_⟩
    rintro n σ2 H2 ⟨env2, Fs2, I2, g2, w2⟩
    refine s.run σ2 H2 env2 Fs2 _ I2 (s.mono _ _ _ (fun k q H3 f dk => ?_) (hs n env2 w2))
    cases k with
    | true =>
      rw [if_pos rfl] at q ⊢
      refine ⟨fun σ' H' => ∃ n', n' < n ∧ ∃ env Fs2, Ok C Γl σ' H' env Fs2 ∧ Go C Γ Fs H Γl Fs2 H' ∧ W n' env, fun σ' H' ⟨n', hn, x⟩ => ⟨n', hn, x⟩, ?_⟩
      have g3 : Go C Γ Fs H Γl Fs2 H3 := g2.trans (Go.ev f)
      refine sb.run σ2 H3 env2 Fs2 _ _ (I2.step f dk) ⟨fun σ' H' env' Fs' I' g' q' => ?_, fun σ' H' env' Fs' I' g' q' => l.nx σ' H' env' Fs' I' (g3.trans g') q', fun σ' H' env' Fs' I' g' q' => ?_, ?_⟩ q
      · obtain ⟨n', hn, w'⟩ := q'
        exact ⟨n', hn, env', Fs', I'.weak hb, (g3.trans g').weak hb, w'⟩
      · obtain ⟨n', hn, w'⟩ := q'
        exact ⟨n', hn, env', Fs', I', g3.trans g', w'⟩
      · exact fun v H' d F f dk r nd nq mi q => l.rt v H' d F (Fr.behind g3 f) dk r nd nq (mi.back g3) q
    | false =>
      rw [if_neg Bool.false_ne_true] at q ⊢
      exact l.nx σ2 H3 env2 Fs2 (I2.step f dk) (g2.trans (Go.ev f)) q,
   fun E E' env p h => by
    obtain ⟨W, w0, hs⟩ := h
    refine ⟨W, w0, fun n env w => s.mono _ _ _ (fun k q => ?_) (hs n env w)⟩
    cases k with
    | true =>
      rw [if_pos rfl] at q ⊢
      exact sb.mono { nx := fun env' => ∃ n', n' < n ∧ W n' env', rt := E.rt, bk := E.nx, ct := fun env' => ∃ n', n' < n ∧ W n' env' } _ _ ⟨fun _ z => z, p.2.1, p.1, fun _ z => z⟩ q
    | false =>
      rw [if_neg Bool.false_ne_true] at q ⊢
      exact p.1 _ q⟩
end
end Pu

/-! file PuFun -/
set_option Elab.async false
set_option linter.all false
set_option maxRecDepth 100000
namespace Pu
open PySem PySem.Spec PyProof.Rows L2

abbrev XF := List D → (D → Prop) → Prop
inductive ArgsOk (C : Cfg) (H : Hp) : List Bool → List V → List D → List Addr → Prop
  | nil : ArgsOk C H [] [] [] []
  | dice {p : Addr × Addr} {pm : List Bool} {vs : List V} {ds : List D} {F : List Addr} : C.q = some p → ArgsOk C H pm vs ds F → ArgsOk C H (true :: pm) (.ref p.1 :: vs) (.non :: ds) F
  | val {v : V} {d : D} {pm : List Bool} {vs : List V} {ds : List D} {F G : List Addr} : Rp C.CT H v d F → ArgsOk C H pm vs ds G → ArgsOk C H (false :: pm) (v :: vs) (d :: ds) (F ++ G)
/-- a def's promise: the result is that of mf -/
def SpM (S : Stat) (pm : List Bool) (mf : XF) : Sp := fun vs H Q _ => ∃ (C : Cfg) (ds : List D) (F : List Addr), C.toStat = S ∧ C.pin = [] ∧ ArgsOk C H pm vs ds F ∧ DiceOk C H ∧ NoQ C F ∧
  mf ds (fun d => ∀ v H' F', Fr (Wq C) H H' → DiceOk C H' → Rp C.CT H' v d F' → F'.Nodup → (∀ a ∈ F', H a = none) → Q v H')
def pmo (b : Bool) : Mo := if b = true then .q else .f
def Gam (N : Nat) (pm : List Bool) : List Mo := pm.map pmo ++ List.replicate (N - pm.length) .x
def env0 (N : Nat) (ds : List D) : PEnv := ds.map some ++ List.replicate (N - ds.length) none
def fnM (N : Nat) (body : XS) : XF := fun ds Q => body { nx := fun _ => Q .non, rt := Q } (env0 N ds)

section
variable {C : Cfg} {Γ Γ' Γn Γl Γo Γt Γe Γ1 Γ2 : List Mo} {σ σ' : L2.St} {H H' H1 H2 : Hp} {env env' : PEnv} {Fs Fs' Fs1 Fs2 : Nat → List Addr} {v : V} {vs : List V} {d : D} {ds : List D} {F G : List Addr} {ta tb te : TE} {A B : Kd} {m n : X1} {pm : List Bool}

theorem ArgsOk.len : ∀ {pm : List Bool} {vs : List V} {ds : List D} {F : List Addr}, ArgsOk C H pm vs ds F → vs.length = pm.length ∧ ds.length = pm.length
  | _, _, _, _, .nil => ⟨rfl, rfl⟩
  | _, _, _, _, .dice _ r => by have := r.len; simp [this]
  | _, _, _, _, .val _ r => by have := r.len; simp [this]
theorem ArgsOk.at : ∀ {pm : List Bool} {vs : List V} {ds : List D} {F : List Addr}, ArgsOk C H pm vs ds F → ∃ L : Nat → List Addr, ∀ (i : Nat) (b : Bool), pm[i]? = some b →
    (b = true → ∃ p, C.q = some p ∧ vs[i]? = some (.ref p.1)) ∧ (b = false → ∃ v d, vs[i]? = some v ∧ ds[i]? = some d ∧ Rp C.CT H v d (L i) ∧ (L i).Sublist F)
  | _, _, _, _, .nil => ⟨fun _ => [], fun i b e => by simp at e⟩
  | _, _, _, _, .dice q r => by
    obtain ⟨L, h⟩ := r.at
    refine ⟨fun i => L (i - 1), fun i b e => ?_⟩
    cases i with
    | zero =>
      simp at e; subst e
      exact ⟨(fun _ => ⟨_, q, rfl⟩), fun z => nomatch z⟩
    | succ i =>
      have := h i b (by simpa using e)
      simpa using this
  | _, _, _, _, .val (F := F) (G := G) rv r => by
    obtain ⟨L, h⟩ := r.at
    refine ⟨fun i => if i = 0 then F else L (i - 1), fun i b e => ?_⟩
    cases i with
    | zero =>
      simp at e; subst e
      exact ⟨(fun z => nomatch z), fun _ => ⟨_, _, rfl, rfl, by simpa using rv, by simpa using List.sublist_append_left _ _⟩⟩
    | succ i =>
      have h1 := h i b (by simpa using e)
      refine ⟨fun z => by simpa using h1.1 z, fun z => ?_⟩
      obtain ⟨v, d, h2, h3, h4, h5⟩ := h1.2 z
      exact ⟨v, d, by simpa using h2, by simpa using h3, by simpa using h4, by simpa using h5.trans (List.sublist_append_right _ _)⟩
theorem gam_at {N : Nat} {i : Nat} {mo : Mo} (h : (Gam N pm)[i]? = some mo) : (∃ b, pm[i]? = some b ∧ mo = pmo b) ∨ mo = .x := by
  unfold Gam at h
  by_cases hi : i < pm.length
  · rw [List.getElem?_append_left (by simpa using hi), List.getElem?_map] at h
    cases e : pm[i]? with
    | none => rw [e] at h; cases h
    | some b => rw [e] at h; cases h; exact .inl ⟨b, rfl, rfl⟩
  · rw [List.getElem?_append_right (by simpa using hi), List.getElem?_replicate] at h
    split at h <;> cases h
    exact .inr rfl
theorem pmo_o {b : Bool} : pmo b ≠ .o := by cases b <;> decide
theorem ok_start {N : List Str} (a : ArgsOk C H pm vs ds F) (nq : NoQ C F) (dk : DiceOk C H) (hN : pm.length ≤ N.length) (hpn : C.pin = []) : ∃ Fs, Ok C (Gam N.length pm) (L2.start N vs) H (env0 N.length ds) Fs := by
  obtain ⟨L, h⟩ := a.at
  obtain ⟨l1, l2⟩ := a.len
  have noo : ∀ i : Nat, (Gam N.length pm)[i]? ≠ some .o := fun i e => by
    rcases gam_at e with ⟨b, _, z⟩ | z
    · exact pmo_o z.symm
    · cases z
  refine ⟨L, ⟨?_, ?_, fun i m g l => ?_, fun i g => ?_, fun i g => absurd g (noo i), fun i j m g => absurd g (noo i), fun i m g l => ?_, dk, fun p hp => by rw [hpn] at hp; cases hp⟩⟩
  · unfold env0 Gam; simp [l2]
  · unfold L2.start Gam; simp [l1]
  · rcases gam_at g with ⟨b, hb, z⟩ | z
    · cases b with
      | true => rcases l with e | e <;> rw [z] at e <;> cases e
      | false =>
        obtain ⟨v, d, h1, h2, h3, h4⟩ := (h i false hb).2 rfl
        refine ⟨v, d, ?_, ?_, h3⟩
        · unfold L2.start
          have hi := (List.getElem?_eq_some_iff.mp h1).1
          rw [List.getElem?_append_left (by simpa using hi), List.getElem?_map, h1] <;> rfl
        · unfold env0
          have hi := (List.getElem?_eq_some_iff.mp h2).1
          rw [List.getElem?_append_left (by simpa using hi), List.getElem?_map, h2] <;> rfl
    · rcases l with e | e <;> rw [z] at e <;> cases e
  · rcases gam_at g with ⟨b, hb, z⟩ | z
    · cases b with
      | true =>
        obtain ⟨p, h1, h2⟩ := (h i true hb).1 rfl
        refine ⟨p, h1, ?_⟩
        unfold L2.start
        have hi := (List.getElem?_eq_some_iff.mp h2).1
        rw [List.getElem?_append_left (by simpa using hi), List.getElem?_map, h2] <;> rfl
      | false => cases z
    · cases z
  · rcases gam_at g with ⟨b, hb, z⟩ | z
    · cases b with
      | true => rcases l with e | e <;> rw [z] at e <;> cases e
      | false =>
        obtain ⟨v, d, h1, h2, h3, h4⟩ := (h i false hb).2 rfl
        exact nq.sub h4
    · rcases l with e | e <;> rw [z] at e <;> cases e

/-- THE RULE for a def: its body as a term of rules, and what it does to plain data -/
theorem fn_ok {P : Program} {w : World} {K : PySem.W.Frag} {mg : Str → Option Value} {base : Heap} {x qual : Str} {st : Stmt} {f : Addr} {fd : FuncData} {N ps : List Str} {k : Nat} {S0 : Stat} {body : XS} {pm : List Bool} {Γe : List Mo}
    (Fn : Fun K x qual st f fd) (S : FnScope N ps (defScope st)) (hp : pm.length = ps.length) (hN : pm.length ≤ N.length)
    (hbody : ∀ (cdv : Value) (A : Around) (outer : List Env) (s : Shared) (H : Hp) (E : XK), Room k (A.deeper (envOfC qual (defScope st) s.heap.objs.size f cdv)) →
      ∃ t, PSs (cxOf CX0 P w K mg base N qual (defScope st) f cdv A outer s H E).nox (defBody st) t ∧ ∀ q, SimS ⟨S0, q, []⟩ [] (Gam N.length pm) Γe t body) :
    FnOk P w K mg base CX0 (k + 1) f fd ps (SpM S0 pm (fnM N.length body)) := by
  refine Fn.ok S (fun vs H Q E ⟨C, ds, F, _, _, a, _⟩ => by rw [a.len.1, hp]) (fun cdv A outer s H vs Q E hr ⟨C, ds, F, hC, hpn, a, dk, nq, q⟩ => ?_)
  obtain ⟨t, ht, hs⟩ := hbody cdv A outer s H E hr
  obtain ⟨Fs, I⟩ := ok_start (N := N) a nq dk hN hpn
  refine ⟨t, ht, (show SimS C [] (Gam N.length pm) Γe t body by obtain ⟨st, q0, pin⟩ := C; cases hC; cases hpn; exact hs q0).run _ H _ Fs _ { nx := fun _ => _, rt := _ } I ⟨fun σ' H' env' Fs' I' g q => ?_, fun _ _ _ _ _ _ q => q, fun _ _ _ _ _ _ q => q, fun v H' d F f dk r nd nq mi q => ?_⟩ q⟩
  · have noo : ∀ i : Nat, (Gam N.length pm)[i]? ≠ some .o := fun i e => by
      rcases gam_at e with ⟨b, _, z⟩ | z
      · exact pmo_o z.symm
      · cases z
    refine q .non H' [] (g.fr.mono fun a w => ?_) I'.dk .non List.nodup_nil fun _ z => nomatch z
    rcases w with w | ⟨i, gi, _⟩
    · exact w
    · exact absurd gi (noo i)
  · have noo : ∀ i : Nat, (Gam N.length pm)[i]? ≠ some .o := fun i e => by
      rcases gam_at e with ⟨b, _, z⟩ | z
      · exact pmo_o z.symm
      · cases z
    refine q v H' F (f.mono fun a w => ?_) dk r nd fun a ha => ?_
    · rcases w with w | ⟨i, gi, _⟩
      · exact w
      · exact absurd gi (noo i)
    · rcases mi a ha with ⟨j, gj, _⟩ | z
      · exact absurd gj (noo j)
      · exact z

/-! ### calls of such defs -/
structure SimA (C : Cfg) (Γ : List Mo) (pm : List Bool) (t : TA) (m : XL) : Prop where
  run : ∀ (σ : L2.St) (H : Hp) (env : PEnv) (Fs : Nat → List Addr) (Q : List V → Hp → Prop), Ok C Γ σ H env Fs →
    m env (fun ds => ∀ vs H' F, Fr (Wq C) H H' → DiceOk C H' → ArgsOk C H' pm vs ds F → NoQ C F → Q vs H') → t σ H Q
  mono : Mono m
theorem mono_nil : Mono xNil := fun _ _ _ h q => h _ q
theorem mono_cons {m : X1} {r : XL} (h : Mono m) (h' : Mono r) : Mono (xCons m r) := fun env Q Q' k q => h env _ _ (fun d q => h' env _ _ (fun ds q => k _ q) q) q
theorem sima_nil : SimA C Γ [] tNil xNil := ⟨fun σ H env Fs Q I h => h [] H [] Fr.refl I.dk .nil NoQ.nil, mono_nil⟩
def xDice (r : XL) : XL := fun env Q => r env fun ds => Q (.non :: ds)
theorem sima_dice {i : Nat} {t : TA} {r : XL} (g : Γ[i]? = some .q) (s : SimA C Γ pm t r) : SimA C Γ (true :: pm) (tCons (tVar i) t) (xDice r) :=
  ⟨fun σ H env Fs Q I h => by
    obtain ⟨p, h1, h2⟩ := I.dice i g
    exact ⟨_, h2, s.run σ H env Fs _ I (s.mono env _ _ (fun ds q vs H1 F f dk a nq => q _ H1 F f dk (.dice h1 a) nq) h)⟩, fun env Q Q' k q => s.mono env _ _ (fun ds q => k _ q) q⟩
theorem ArgsOk.keep {W : Addr → Prop} : ∀ {pm : List Bool} {vs : List V} {ds : List D} {F : List Addr}, ArgsOk C H pm vs ds F → Fr W H H' → (∀ a ∈ F, ¬ W a) → ArgsOk C H' pm vs ds F
  | _, _, _, _, .nil, _, _ => .nil
  | _, _, _, _, .dice q r, f, n => .dice q (r.keep f n)
  | _, _, _, _, .val rv r, f, n => .val (rv.keep f fun a m => n a (List.mem_append_left _ m)) (r.keep f fun a m => n a (List.mem_append_right _ m))
theorem sima_val {te : TE} {t : TA} {r : XL} (s : Sim C Γ te A m) (s' : SimA C Γ pm t r) : SimA C Γ (false :: pm) (tCons te t) (xCons m r) :=
  ⟨fun σ H env Fs Q I h => s.run σ H env Fs _ I (s.mono env _ _ (fun d q v H1 F f1 dk1 r1 k1 => s'.run σ H1 env Fs _ (I.step f1 dk1) (s'.mono env _ _ (fun ds q vs H2 G f2 dk2 a2 nq2 =>
    q (v :: vs) H2 (F ++ G) (f1.trans f2) dk2 (.val (r1.keep f2 k1.1.wq) a2) (k1.1.app nq2)) q)) h), mono_cons s.mono s'.mono⟩
theorem ArgsOk.pinned {pn : List (Nat × V)} : ∀ {pm : List Bool} {vs : List V} {ds : List D} {F : List Addr}, ArgsOk C H pm vs ds F → ArgsOk { C with pin := pn } H pm vs ds F
  | _, _, _, _, .nil => .nil
  | _, _, _, _, .dice q r => .dice q r.pinned
  | _, _, _, _, .val rv r => .val rv r.pinned
def xCall (mf : XF) (r : XL) : X1 := fun env Q => r env fun ds => mf ds Q
def MonoF (mf : XF) : Prop := ∀ ds Q Q', (∀ d, Q d → Q' d) → mf ds Q → mf ds Q'
theorem free_nil {i : Nat} {st : Stat} {q : Option (Addr × Addr)} : Free ⟨st, q, []⟩ i := by unfold Free; simp
theorem free_one {i : Nat} {st : Stat} {q : Option (Addr × Addr)} {v : V} (h : i ≠ 0) : Free ⟨st, q, [(0, v)]⟩ i := by unfold Free; simpa using h
theorem sim_call {mf : XF} {t : TA} {r : XL} {S0 : Stat} (hC : C.toStat = S0) (hm : MonoF mf) (s : SimA C Γ pm t r) : Sim C Γ (tCall (SpM S0 pm mf) [] E0 t) .own (xCall mf r) :=
  ⟨fun σ H env Fs Q I h => s.run σ H env Fs _ I (s.mono env _ _ (fun ds q vs H1 F f dk a nq => by
    show SpM S0 pm mf (vs ++ []) H1 Q E0
    rw [List.append_nil]
    refine ⟨{ C with pin := [] }, ds, F, hC, rfl, a.pinned, dk, nq, hm ds _ _ (fun d q v H2 F2 f2 dk2 r2 nd fr => ?_) q⟩
    exact q v H2 F2 (f.trans f2) dk2 r2 ⟨NoQ.new dk fr, nd, fun a ha => f.there a (fr a ha)⟩) h), fun env Q Q' k q => s.mono env _ _ (fun ds q => hm ds _ _ k q) q⟩
theorem monoF_fn {N : Nat} {body : XS} (h : ∀ E E' env, PLe E E' → body E env → body E' env) : MonoF (fnM N body) := fun ds Q Q' k q => h { nx := fun _ => Q .non, rt := Q } _ _ ⟨fun _ z => k _ z, k, fun _ z => z, fun _ z => z⟩ q

/-! ### tests -/
def bTest (m : X1) : XB := fun env Q => m env fun d => match d with
  | .bl b => Q b
  | _ => False
theorem mono_bTest (h : Mono m) : Mono (bTest m) := fun env Q Q' k q => h env _ _ (fun d q => by cases d <;> first | exact k _ q | exact q) q
theorem simt_test {t : TE} (s : Sim C Γ t A m) : SimT C Γ (tTest t) (bTest m) := ⟨fun σ H env Fs Q I h => s.run σ H env Fs _ I (s.mono env _ _ (fun d q v H1 F f dk r k => by
    cases r <;> first | exact ⟨_, rfl, q H1 f dk⟩ | exact (show False from q).elim) h), mono_bTest s.mono⟩
theorem simt_B {t : TE} (s : Sim C Γ t A m) : SimT C Γ (tB t) (bTest m) := ⟨fun σ H env Fs Q I h => s.run σ H env Fs _ I (s.mono env _ _ (fun d q v H1 F f dk r k => by
    cases r <;> first | exact ⟨_, rfl, q H1 f dk⟩ | exact (show False from q).elim) h), mono_bTest s.mono⟩
def bAnd (a b : XB) : XB := fun env Q => a env fun c => if c = true then b env Q else Q false
def bOr (a b : XB) : XB := fun env Q => a env fun c => if c = true then Q true else b env Q
def bNot (a : XB) : XB := fun env Q => a env fun c => Q (!c)
theorem simt_and {t u : TT} {a b : XB} (s : SimT C Γ t a) (s' : SimT C Γ u b) : SimT C Γ (tAnd t u) (bAnd a b) := ⟨fun σ H env Fs Q I h => s.run σ H env Fs _ I (s.mono env _ _ (fun c q H1 f dk => by
    cases c with
    | true =>
      rw [if_pos rfl] at q ⊢
      exact s'.run σ H1 env Fs _ (I.step f dk) (s'.mono env _ _ (fun c q H2 f2 dk2 => q H2 (f.trans f2) dk2) q)
    | false =>
      rw [if_neg Bool.false_ne_true] at q ⊢
      exact q H1 f dk) h), fun env Q Q' k q => s.mono env _ _ (fun c q => by
    cases c with
    | true => exact s'.mono env _ _ k q
    | false => exact k _ q) q⟩
theorem simt_or {t u : TT} {a b : XB} (s : SimT C Γ t a) (s' : SimT C Γ u b) : SimT C Γ (tOr t u) (bOr a b) := ⟨fun σ H env Fs Q I h => s.run σ H env Fs _ I (s.mono env _ _ (fun c q H1 f dk => by
    cases c with
    | false =>
      rw [if_neg Bool.false_ne_true] at q ⊢
      exact s'.run σ H1 env Fs _ (I.step f dk) (s'.mono env _ _ (fun c q H2 f2 dk2 => q H2 (f.trans f2) dk2) q)
    | true =>
      rw [if_pos rfl] at q ⊢
      exact q H1 f dk) h), fun env Q Q' k q => s.mono env _ _ (fun c q => by
    cases c with
    | false => exact s'.mono env _ _ k q
    | true => exact k _ q) q⟩
theorem simt_not {t : TT} {a : XB} (s : SimT C Γ t a) : SimT C Γ (tNot t) (bNot a) := ⟨fun σ H env Fs Q I h => s.run σ H env Fs _ I (s.mono env _ _ (fun c q H1 f dk => q H1 f dk) h), fun env Q Q' k q => s.mono env _ _ (fun c q => k _ q) q⟩
/-- and, or, not as values -/
def xAnd (a b : X1) : X1 := fun env Q => a env fun d => match d with
  | .bl c => if c = true then b env Q else Q (.bl false)
  | _ => False
def xOr (a b : X1) : X1 := fun env Q => a env fun d => match d with
  | .bl c => if c = true then Q (.bl true) else b env Q
  | _ => False
def xNot (a : X1) : X1 := fun env Q => a env fun d => match d with
  | .bl c => Q (.bl (!c))
  | _ => False
theorem KdOk.back {H0 : Hp} {A : Kd} (f : Fr (Wq C) H0 H) (k : KdOk C Γ Fs H A F) : KdOk C Γ Fs H0 A F := by
  refine ⟨k.1, ?_⟩
  cases A with
  | own => exact ⟨k.2.1, fun a ha => f.there a (k.2.2 a ha)⟩
  | al S => exact k.2
theorem sim_and (s : Sim C Γ ta A m) (s' : Sim C Γ tb B n) : Sim C Γ (tAndV ta tb) B (xAnd m n) := ⟨fun σ H env Fs Q I h => s.run σ H env Fs _ I (s.mono env _ _ (fun d q v H1 F f dk r k => by
    cases r <;> first | skip | exact (show False from q).elim
    all_goals first
      | exact (show False from q).elim
      | (rename_i c
         refine ⟨c, rfl, ?_⟩
         cases c with
         | true => exact s'.run σ H1 env Fs _ (I.step f dk) (s'.mono env _ _ (fun d q v H2 G f2 dk2 r2 k2 => q v H2 G (f.trans f2) dk2 r2 (k2.back f)) q)
         | false => exact q _ H1 [] f dk (.bl _) KdOk.nil)) h), fun env Q Q' k q => s.mono env _ _ (fun d q => by
    cases d <;> first | exact q | skip
    rename_i c
    cases c with
    | true => exact s'.mono env _ _ k q
    | false => exact k _ q) q⟩
theorem sim_or (s : Sim C Γ ta A m) (s' : Sim C Γ tb B n) : Sim C Γ (tOrV ta tb) B (xOr m n) := ⟨fun σ H env Fs Q I h => s.run σ H env Fs _ I (s.mono env _ _ (fun d q v H1 F f dk r k => by
    cases r
    all_goals first
      | exact (show False from q).elim
      | (rename_i c
         refine ⟨c, rfl, ?_⟩
         cases c with
         | false => exact s'.run σ H1 env Fs _ (I.step f dk) (s'.mono env _ _ (fun d q v H2 G f2 dk2 r2 k2 => q v H2 G (f.trans f2) dk2 r2 (k2.back f)) q)
         | true => exact q _ H1 [] f dk (.bl _) KdOk.nil)) h), fun env Q Q' k q => s.mono env _ _ (fun d q => by
    cases d <;> first | exact q | skip
    rename_i c
    cases c with
    | false => exact s'.mono env _ _ k q
    | true => exact k _ q) q⟩
theorem sim_not (s : Sim C Γ ta A m) : Sim C Γ (tNotV ta) .own (xNot m) := ⟨fun σ H env Fs Q I h => s.run σ H env Fs _ I (s.mono env _ _ (fun d q v H1 F f dk r k => by
    cases r
    all_goals first
      | exact (show False from q).elim
      | exact ⟨_, rfl, q _ H1 [] f dk (.bl _) KdOk.own_nil⟩) h), fun env Q Q' k q => s.mono env _ _ (fun d q => by
    cases d <;> first | exact q | exact k _ q) q⟩
def xIf (c : XB) (a b : X1) : X1 := fun env Q => c env fun k => if k = true then a env Q else b env Q
/-- both of one kind -/
theorem sim_if2 {t : TT} {c : XB} (s0 : SimT C Γ t c) (s : Sim C Γ ta A m) (s' : Sim C Γ tb A n) : Sim C Γ (tIf t ta tb) A (xIf c m n) := ⟨fun σ H env Fs Q I h => s0.run σ H env Fs _ I (s0.mono env _ _ (fun c q H1 f dk => by
    cases c with
    | true => exact s.run σ H1 env Fs _ (I.step f dk) (s.mono env _ _ (fun d q v H2 G f2 dk2 r2 k2 => q v H2 G (f.trans f2) dk2 r2 (k2.back f)) q)
    | false => exact s'.run σ H1 env Fs _ (I.step f dk) (s'.mono env _ _ (fun d q v H2 G f2 dk2 r2 k2 => q v H2 G (f.trans f2) dk2 r2 (k2.back f)) q)) h), fun env Q Q' k q => s0.mono env _ _ (fun c q => by
    cases c with
    | true => exact s.mono env _ _ k q
    | false => exact s'.mono env _ _ k q) q⟩
/-- what is new may pass for part of slots -/
theorem sim_al (s : Sim C Γ te A m) : Sim C Γ te (.al A.set) m := ⟨fun σ H env Fs Q I h => s.run σ H env Fs _ I (s.mono env _ _ (fun d q v H1 F f dk r k => q v H1 F f dk r (k.al I)) h), s.mono⟩
/-! ### a < b < c -/
def xChain (o o' : O2) (a b c : X1) : X1 := fun env Q => a env fun x => b env fun y => o x y fun z => match z with
  | .bl k => if k = true then c env fun w => o' y w Q else Q (.bl false)
  | _ => False
theorem sim_chain {r r' : R2} {o o' : O2} {tc : TE} {A' : Kd} {mc : X1} (h : SimO2 C.CT r o) (h' : SimO2 C.CT r' o') (s1 : Sim C Γ ta A m) (s2 : Sim C Γ tb B n) (s3 : Sim C Γ tc A' mc) : Sim C Γ (tChain r r' ta tb tc) .own (xChain o o' m n mc) :=
  ⟨fun σ H env Fs Q I q => s1.run σ H env Fs _ I (s1.mono env _ _ (fun x q v H1 F f dk r1 k1 => s2.run σ H1 env Fs _ (I.step f dk) (s2.mono env _ _ (fun y q w H2 G f2 dk2 r2 k2 =>
    h.run H2 v w x y F G _ (r1.keep f2 k1.1.wq) r2 (h.mono x y _ _ (fun z q u H3 P f3 r3 nd3 fr3 => by
      have f13 := (f.trans f2).trans f3.wq
      have dk3 := dk2.keep f3
      cases r3
      all_goals first
        | exact (show False from q).elim
        | (rename_i k
           refine ⟨k, rfl, ?_⟩
           cases k with
           | true =>
             rw [if_pos rfl]
             dsimp only at q
             rw [if_pos rfl] at q
             refine s3.run σ H3 env Fs _ (I.step f13 dk3) (s3.mono env _ _ (fun w' q u' H4 P4 f4 dk4 r4 k4 => ?_) q)
             exact h'.run H4 w u' y w' G P4 Q ((r2.keep f3 fun _ _ z => z).keep f4 k2.1.wq) r4 (h'.mono y w' _ _ (fun x k => fin_new I (f13.trans f4) dk4 k) q)
           | false =>
             rw [if_neg Bool.false_ne_true]
             dsimp only at q
             rw [if_neg Bool.false_ne_true] at q
             exact q _ H3 [] f13 dk3 (.bl _) KdOk.own_nil)) q)) q)) q),
   fun env Q Q' k q => s1.mono env _ _ (fun x q => s2.mono env _ _ (fun y q => h.mono x y _ _ (fun z q => by
    cases z <;> first | exact q | skip
    rename_i c
    cases c with
    | true => exact s3.mono env _ _ (fun w q => h'.mono y w _ _ k q) q
    | false => exact k _ q) q) q) q⟩
end
end Pu

/-! file PuIter -/
set_option Elab.async false
set_option linter.all false
set_option maxRecDepth 100000
namespace Pu
open PySem PySem.Spec PyProof.Rows L2

/-! ### a list or a tuple, walked -/
def iSeq (K : PySem.W.Frag) (tl : TE) : TI := fun σ H R => tl σ H fun x H1 => ∃ a, x = .ref a ∧ (((∃ xs, SqL K H1 a xs) ∧ R (Itl K a) H1) ∨ ((∃ xs, SqT K H1 a xs) ∧ R (Itt K a) H1))
theorem pi_seq {X : Cx} {tg l : Expr} {tl : TE} (hl : PE X l tl) : PI X tg l (iSeq X.K tl) := by
  refine ⟨fun pins s σ H R I h => ?_⟩
  refine thn (hl.run pins s σ H _ I h) fun v s1 ⟨x, H1, I1, r1, q1⟩ => ?_
  obtain ⟨a, e, q1⟩ := q1
  subst e
  cases r1
  have e0 : ∀ b ∈ [s1.heap.objs.size], FpOk X pins H1 b := fun b hb => by
    have e : b = s1.heap.objs.size := by simpa using hb
    subst e
    exact I1.fpOk (Nat.le_refl _) (I1.hok.fresh (Nat.le_refl _))
  rcases q1 with ⟨⟨xs, hq⟩, q⟩ | ⟨⟨xs, hq⟩, q⟩
  · obtain ⟨its, rv, p, hz⟩ := I1.list hq
    refine wpAny_pyIter_list p.isList ?_
    exact ⟨s1.heap.objs.size, [s1.heap.objs.size], _, _, H1, rfl, I1.kept (t' := s1.toks) fun b o e => Heap.get?_push_of_some _ e, turn_list a _, ⟨_, Heap.get?_push_size _ rfl, rfl, rfl⟩, e0, q⟩
  · obtain ⟨its, rv, p, hz⟩ := I1.tuple hq
    refine wpAny_pyIter_tuple (show s1.heap.IsTuple a its.toArray from p) ?_
    exact ⟨s1.heap.objs.size, [s1.heap.objs.size], _, _, H1, rfl, I1.kept (t' := s1.toks) fun b o e => Heap.get?_push_of_some _ e, turn_tuple a _, ⟨_, Heap.get?_push_size _ rfl, rfl, rfl⟩, e0, q⟩

section
variable {C : Cfg} {Γ Γ' Γn Γl Γo Γt Γe Γ1 Γ2 : List Mo} {σ σ' : L2.St} {H H' H1 H2 : Hp} {env env' : PEnv} {Fs Fs' Fs1 Fs2 : Nat → List Addr} {v : V} {vs : List V} {d : D} {ds : List D} {F G : List Addr} {ta tb te : TE} {A B : Kd} {m n : X1} {K : PySem.W.Frag} {CT : Nat → Addr}
theorem Rps.getV : ∀ {vs : List V} {ds : List D} {F : List Addr} {j : Nat} {v : V}, Rps CT H vs ds F → vs[j]? = some v → ∃ d G, ds[j]? = some d ∧ Rp CT H v d G ∧ G.Sublist F := fun {vs ds F j v} r e => by
  have hj := (List.getElem?_eq_some_iff.mp e).1
  rw [r.length] at hj
  obtain ⟨v', G, h1, h2, h3⟩ := r.get (List.getElem?_eq_getElem hj)
  rw [e] at h1; cases h1
  exact ⟨_, G, List.getElem?_eq_getElem hj, h2, h3⟩
theorem walk_lst {a : Addr} : Walk CT (Itl K a) (a :: F) (fun H => H a = some (.lst vs) ∧ Rps CT H vs ds F) ds where
  keep := fun W H H' ⟨h, r⟩ f n => ⟨f.keep _ _ h (n _ List.mem_cons_self), r.keep f fun b hb => n b (List.mem_cons_of_mem _ hb)⟩
  there := fun H ⟨h, r⟩ b hb => (Rp.lst h r).tracked b hb
  go := fun i H ⟨h, r⟩ hi => by
    rw [← r.length] at hi
    exact ⟨vs, vs[i], SqL.of h, List.getElem?_eq_getElem hi⟩
  stop := fun H ⟨h, r⟩ => ⟨vs, SqL.of h, by rw [r.length]; exact Nat.le_refl _⟩
  yld := fun i H x H' ⟨h, r⟩ hi ⟨e, y⟩ => by
    subst e
    obtain ⟨d, G, h1, h2, h3⟩ := r.getV (y vs (SqL.of h))
    exact ⟨d, G, h1, Fr.refl, h2, fun b hb => List.mem_cons_of_mem _ (h3.mem hb)⟩
theorem walk_tpl {a : Addr} : Walk CT (Itt K a) F (fun H => H a = some (.tup vs) ∧ Rps CT H vs ds F) ds where
  keep := fun W H H' ⟨h, r⟩ f n => ⟨f.im _ _ h rfl, r.keep f n⟩
  there := fun H ⟨h, r⟩ b hb => r.tracked b hb
  go := fun i H ⟨h, r⟩ hi => by
    rw [← r.length] at hi
    exact ⟨vs, vs[i], SqT.of h, List.getElem?_eq_getElem hi⟩
  stop := fun H ⟨h, r⟩ => ⟨vs, SqT.of h, by rw [r.length]; exact Nat.le_refl _⟩
  yld := fun i H x H' ⟨h, r⟩ hi ⟨e, y⟩ => by
    subst e
    obtain ⟨d, G, h1, h2, h3⟩ := r.getV (y vs (SqT.of h))
    exact ⟨d, G, h1, Fr.refl, h2, fun b hb => h3.mem hb⟩
def mSeq (m : X1) : XL := fun env Q => m env fun d => match d with
  | .lst ds => Q ds
  | .tup ds => Q ds
  | _ => False
theorem simi_seq (s : Sim C Γ te A m) : SimI C Γ (iSeq K te) A (mSeq m) := ⟨fun σ H env Fs R I h => s.run σ H env Fs _ I (s.mono env _ _ (fun d q v H1 F f dk r k => by
    have kd := k.set I
    cases r with
    | lst ha ra => exact ⟨_, rfl, .inl ⟨⟨_, SqL.of ha⟩, q H1 _ _ _ f dk walk_lst ⟨ha, ra⟩ ⟨k.1, kd⟩⟩⟩
    | tup ha ra => exact ⟨_, rfl, .inr ⟨⟨_, SqT.of ha⟩, q H1 _ _ _ f dk walk_tpl ⟨ha, ra⟩ ⟨k.1, kd⟩⟩⟩
    | _ => exact (show False from q).elim) h), fun env Q Q' k q => s.mono env _ _ (fun d q => by cases d <;> first | exact k _ q | exact q) q⟩
/-! ### ranges -/
def rgD (lo : Int) (n : Nat) : List D := (List.range n).map fun k => .int (lo + (k : Nat))
theorem rgD_len {lo : Int} {n : Nat} : (rgD lo n).length = n := by simp [rgD]
theorem walk_rng {lo : Int} {n : Nat} : Walk CT (Itr lo n) [] (fun _ => True) (rgD lo n) where
  keep := fun _ _ _ _ _ _ => trivial
  there := fun _ _ _ hb => nomatch hb
  go := fun i H _ hi => by rw [rgD_len] at hi; exact hi
  stop := fun H _ => by show n ≤ (rgD lo n).length; rw [rgD_len]; exact Nat.le_refl _
  yld := fun i H x H' _ hi ⟨e, y⟩ => by
    subst e y
    rw [rgD_len] at hi
    refine ⟨.int (lo + (i : Nat)), [], ?_, Fr.refl, .int _, fun _ hb => nomatch hb⟩
    unfold rgD
    rw [List.getElem?_map, List.getElem?_range hi] <;> rfl
def RgOk (i : Int) : Prop := -(2 ^ 62) ≤ i ∧ i < 2 ^ 62
def mRng1 (m : X1) : XL := fun env Q => m env fun d => match d with
  | .int j => RgOk j ∧ Q (rgD 0 j.toNat)
  | _ => False
def mRng2 (m n : X1) : XL := fun env Q => m env fun d => n env fun e => match d, e with
  | .int i, .int j => RgOk i ∧ RgOk j ∧ Q (rgD i (j - i).toNat)
  | _, _ => False
theorem kds_nil {A : Kd} : KdS C Γ Fs A [] := ⟨NoQ.nil, fun _ h => nomatch h⟩
theorem simi_rng1 (s : Sim C Γ te A m) : SimI C Γ (iRng1 (tCons te tNil)) .own (mRng1 m) := ⟨fun σ H env Fs R I h => s.run σ H env Fs _ I (s.mono env _ _ (fun d q v H1 F f dk r k => by
    cases r with
    | int j => exact ⟨j, rfl, q.1.1, q.1.2, q.2 H1 _ _ _ f dk walk_rng trivial kds_nil⟩
    | _ => exact (show False from q).elim) h), fun env Q Q' k q => s.mono env _ _ (fun d q => by cases d <;> first | exact ⟨q.1, k _ q.2⟩ | exact q) q⟩
theorem simi_rng2 (s : Sim C Γ ta A m) (s' : Sim C Γ tb B n) : SimI C Γ (iRng2 (tCons ta (tCons tb tNil))) .own (mRng2 m n) := ⟨fun σ H env Fs R I h => s.run σ H env Fs _ I (s.mono env _ _ (fun d q v H1 F f dk r k =>
    s'.run σ H1 env Fs _ (I.step f dk) (s'.mono env _ _ (fun e q w H2 G f2 dk2 r2 k2 => by
    cases r with
    | int i =>
      cases r2 with
      | int j => exact ⟨i, j, rfl, ⟨q.1.1, q.1.2, q.2.1.1, q.2.1.2⟩, q.2.2 H2 _ _ _ (f.trans f2) dk2 walk_rng trivial kds_nil⟩
      | _ => exact (show False from q).elim
    | _ => exact (show False from q).elim) q)) h), fun env Q Q' k q => s.mono env _ _ (fun d q => s'.mono env _ _ (fun e q => by cases d <;> cases e <;> first | exact ⟨q.1, q.2.1, k _ q.2.2⟩ | exact q) q) q⟩
/-! ### enumerate, zip: a new pair each turn -/
def enD : Nat → List D → List D
  | _, [] => []
  | i, d :: ds => .tup [.int (i : Nat), d] :: enD (i + 1) ds
theorem enD_len : ∀ (ds : List D) (i : Nat), (enD i ds).length = ds.length
  | [], _ => rfl
  | d :: ds, i => by simp [enD, enD_len ds]
theorem enD_get : ∀ (ds : List D) (k i : Nat) (d : D), ds[i]? = some d → (enD k ds)[i]? = some (.tup [.int ((k + i : Nat) : Int), d])
  | [], _, _, _, h => by simp at h
  | x :: ds, k, 0, d, h => by simp at h; subst h; simp [enD]
  | x :: ds, k, i + 1, d, h => by
    have := enD_get ds (k + 1) i d (by simpa using h)
    simp only [enD, List.getElem?_cons_succ, this]
    congr 4
    omega
theorem walk_enm {a : Addr} : Walk CT (Ite K a) (a :: F) (fun H => H a = some (.lst vs) ∧ Rps CT H vs ds F) (enD 0 ds) where
  keep := fun W H H' ⟨h, r⟩ f n => ⟨f.keep _ _ h (n _ List.mem_cons_self), r.keep f fun b hb => n b (List.mem_cons_of_mem _ hb)⟩
  there := fun H ⟨h, r⟩ b hb => (Rp.lst h r).tracked b hb
  go := fun i H ⟨h, r⟩ hi => by
    rw [enD_len, ← r.length] at hi
    exact ⟨vs, vs[i], SqL.of h, List.getElem?_eq_getElem hi⟩
  stop := fun H ⟨h, r⟩ => ⟨vs, SqL.of h, by rw [enD_len, r.length]; exact Nat.le_refl _⟩
  yld := fun i H x H' ⟨h, r⟩ hi ⟨T, y, e, hT, e', hy⟩ => by
    subst e e'
    obtain ⟨d, G, h1, h2, h3⟩ := r.getV (hy vs (SqL.of h))
    have h4 := enD_get ds 0 i d h1
    rw [Nat.zero_add] at h4
    refine ⟨_, [] ++ (G ++ []), h4, Fr.new hT, .tup upd_same (.cons (.int _) (.cons (h2.keep (W := fun _ => False) (Fr.new hT) fun _ _ z => z) .nil)), fun b hb => ?_⟩
    simp at hb
    exact List.mem_cons_of_mem _ (h3.mem hb)
def mEnm (m : X1) : XL := fun env Q => m env fun d => match d with
  | .lst ds => Q (enD 0 ds)
  | _ => False
theorem simi_enm (s : Sim C Γ te A m) : SimI C Γ (iEnum K (tCons te tNil)) A (mEnm m) := ⟨fun σ H env Fs R I h => s.run σ H env Fs _ I (s.mono env _ _ (fun d q v H1 F f dk r k => by
    have kd := k.set I
    cases r with
    | lst ha ra => exact ⟨_, _, rfl, SqL.of ha, q H1 _ _ _ f dk walk_enm ⟨ha, ra⟩ ⟨k.1, kd⟩⟩
    | _ => exact (show False from q).elim) h), fun env Q Q' k q => s.mono env _ _ (fun d q => by cases d <;> first | exact k _ q | exact q) q⟩
end
end Pu

/-! file PuComp -/
set_option Elab.async false
set_option linter.all false
set_option maxRecDepth 100000
namespace Pu
open PySem PySem.Spec PyProof.Rows L2

def wipeG (Γ : List Mo) : List Nat → List Mo
  | [] => Γ
  | v :: vs => (wipeG Γ vs).set v .x
def bYes : XB := fun _ Q => Q true
def lcLoop (b : XG) (mt : XB) (me : X1) (env : PEnv) : List D → List D → (List D → Prop) → Prop
  | [], acc, Q => Q acc
  | d :: ds, acc, Q => b d env fun env1 => mt env1 fun k => if k = true then me env1 fun y => acc.length < sizeLine ∧ lcLoop b mt me env ds (acc ++ [y]) Q else lcLoop b mt me env ds acc Q
def xLc (mi : XL) (b : XG) (mt : XB) (me : X1) : X1 := fun env Q => mi env fun ds => lcLoop b mt me env ds [] fun acc => Q (.lst acc)

section
variable {C : Cfg} {Γ Γ' Γn Γl Γo Γt Γe Γ1 Γ2 Γf : List Mo} {σ σ' : L2.St} {H H' H1 H2 : Hp} {env env' : PEnv} {Fs Fs' Fs1 Fs2 : Nat → List Addr} {v : V} {vs : List V} {d : D} {ds : List D} {F G : List Addr} {ta tb te : TE} {A B : Kd} {m n : X1} {K : PySem.W.Frag} {CT : Nat → Addr}
theorem simt_yes : SimT C Γ tYes bYes := ⟨fun σ H env Fs Q I h => h H Fr.refl I.dk, fun _ _ _ k q => k _ q⟩
theorem Ok.forget (I : Ok C Γ σ H env Fs) {i : Nat} (fr : Free C i) : Ok C (Γ.set i .x) (σ.set i none) H env Fs := by
  have ne : ∀ {j : Nat} {m : Mo}, (Γ.set i .x)[j]? = some m → m ≠ .x → j ≠ i ∧ Γ[j]? = some m := fun g h => by
    rcases get_set g with ⟨_, e, _⟩ | r
    · exact absurd e h
    · exact r
  have lv : ∀ {m : Mo}, live m → m ≠ .x := fun l e => by rcases l with z | z <;> rw [z] at e <;> cases e
  refine ⟨by simp [I.le], by simp [I.ls], fun j m g l => ?_, fun j g => ?_, fun j g => I.nd j (ne g (by decide)).2, fun j k m g g' l => I.dj j k m (ne g (by decide)).2 (ne g' (lv l)).2 l, fun j m g l => I.nq j m (ne g (lv l)).2 l, I.dk, fun p hp => by
    have ne : i ≠ p.1 := fun e => fr (by rw [e]; exact List.mem_map.mpr ⟨p, hp, rfl⟩)
    rw [List.getElem?_set_ne ne]; exact I.pn p hp⟩
  · obtain ⟨n, g⟩ := ne g (lv l)
    obtain ⟨v, d, h1, h2, h3⟩ := I.val j m g l
    exact ⟨v, d, by rw [List.getElem?_set_ne (Ne.symm n)]; exact h1, h2, h3⟩
  · obtain ⟨n, g⟩ := ne g (by decide)
    obtain ⟨p, h1, h2⟩ := I.dice j g
    exact ⟨p, h1, by rw [List.getElem?_set_ne (Ne.symm n)]; exact h2⟩
theorem Ok.wipe (I : Ok C Γ σ H env Fs) : ∀ ks : List Nat, (∀ k ∈ ks, Free C k) → Ok C (wipeG Γ ks) (L2.wipe σ ks) H env Fs
  | [], _ => I
  | k :: ks, h => (I.wipe ks fun j hj => h j (List.mem_cons_of_mem _ hj)).forget (h k List.mem_cons_self)
theorem wipe_eq {ks : List Nat} (hl : σ'.length = σ.length) (h : ∀ j : Nat, j ∉ ks → σ'[j]? = (L2.wipe σ ks)[j]?) (hl2 : σ'.length = (L2.wipe σ ks).length) : L2.wipe σ' ks = L2.wipe σ ks := by
  apply List.ext_getElem?
  intro j
  by_cases hj : j ∈ ks
  · have a : ∀ (τ : L2.St), τ.length = σ.length → (L2.wipe τ ks)[j]? = if j < σ.length then some none else none := fun τ e => by
      clear h hl hl2
      induction ks with
      | nil => exact absurd hj (by simp)
      | cons k ks ih =>
        unfold L2.wipe
        by_cases e2 : j = k
        · subst e2
          rw [List.getElem?_set, if_pos rfl, L2.wipe_length, e]
        · rw [List.getElem?_set_ne (Ne.symm e2)]
          exact ih (by simpa [e2] using hj)
    rw [a σ' hl, a σ rfl]
  · rw [L2.wipe_out hj, h j hj]
theorem Fr.hid {W : Addr → Prop} {p : Addr} {o : HO} (f : Fr W H H1) (h : H p = none) : Fr W H (upd H1 p o) := by
  refine ⟨fun a x e n => ?_, fun a x e n => ?_, fun a e => ?_⟩
  · rw [upd_ne (ne_of_none e h)]; exact f.keep a x e n
  · rw [upd_ne (ne_of_none e h)]; exact f.im a x e n
  · by_cases q : a = p
    · rw [q, upd_same] at e; cases e
    · rw [upd_ne q] at e; exact f.there a e
theorem DiceOk.upd {p : Addr} {o : HO} (x : DiceOk C H1) (f : Fr (Wq C) H H1) (h : H p = none) (x0 : DiceOk C H) : DiceOk C (L2.upd H1 p o) := fun q e => by
  obtain ⟨o1, u1, h1, h2, r⟩ := (x q e).ex
  exact ⟨o1, u1, by rw [upd_ne (fun z => (x0 q e).t1 (by rw [z]; exact h))]; exact h1, by rw [upd_ne (fun z => (x0 q e).t2 (by rw [z]; exact h))]; exact h2, r⟩
theorem Rps.upd {p : Addr} {o u : HO} (r : Rps CT H vs ds F) (h : H p = some u) (hi : Im u = false) (n : p ∉ F) : Rps CT (L2.upd H p o) vs ds F :=
  r.keep (W := fun a => a = p) (Fr.at rfl h hi) fun a ha e => n (e ▸ ha)
theorem Rp.upd {p : Addr} {o u : HO} (r : Rp CT H v d F) (h : H p = some u) (hi : Im u = false) (n : p ∉ F) : Rp CT (L2.upd H p o) v d F :=
  r.keep (W := fun a => a = p) (Fr.at rfl h hi) fun a ha e => n (e ▸ ha)
theorem mono_lcLoop {b : XG} {mt : XB} {me : X1} (hb : ∀ d env Q Q', (∀ e, Q e → Q' e) → b d env Q → b d env Q') (ht : Mono mt) (he : Mono me) : ∀ (ds acc : List D) (Q Q' : List D → Prop), (∀ x, Q x → Q' x) → lcLoop b mt me env ds acc Q → lcLoop b mt me env ds acc Q'
  | [], acc, Q, Q', k, q => k _ q
  | d :: ds, acc, Q, Q', k, q => hb _ _ _ _ (fun e q => ht _ _ _ (fun c q => by
    cases c with
    | true => exact he _ _ _ (fun y q => ⟨q.1, mono_lcLoop hb ht he ds _ Q Q' k q.2⟩) q
    | false => exact mono_lcLoop hb ht he ds acc Q Q' k q) q) q
theorem sim_lc {wi : TI} {g : TG} {tt : TT} {ws ks : List Nat} {mi : XL} {b : XG} {mt : XB} {me : X1} (frs : ∀ k ∈ ws, Free C k) (s : SimI C Γ wi A mi) (hw : wk Γ Γf = true) (hS : noO A.set Γf = true) (sg : SimG C (wipeG Γf ws) Γt ks g b) (hk : ks.all (fun k => decide (k ∈ ws)) = true)
    (st : SimT C Γt tt mt) (se : Sim C Γt te .own me) : Sim C Γ (tLc wi g tt te ws) .own (xLc mi b mt me) :=
  ⟨fun σ H env Fs Q I h => s.run σ H env Fs _ I (s.mono env _ _ (fun ds q H1 J S P f dk wlk p kd Dl hD => by
    have I1 : Ok C (wipeG Γf ws) (L2.wipe σ ws) H1 env Fs := ((I.step f dk).weak hw).wipe ws frs
    have lw : (L2.wipe σ ws).length = σ.length := L2.wipe_length σ ws
    have ho : ∀ j : Nat, (wipeG Γf ws)[j]? = some .o → Γf[j]? = some .o := by
      clear sg hk I1 lw frs
      induction ws with
      | nil => exact fun j g => g
      | cons k ws ih =>
        intro j g
        rcases get_set g with ⟨_, e, _⟩ | ⟨_, g⟩
        · cases e
        · exact ih j g
    refine ⟨fun i m H => m = ds.length - i ∧ i ≤ ds.length ∧ ∃ accV accD F, H Dl = some (.lst accV) ∧ Rps C.CT H accV accD F ∧ Fr (Wq C) H1 H ∧ DiceOk C H ∧ F.Nodup ∧ (∀ a ∈ F, H1 a = none ∧ a ≠ Dl) ∧
      lcLoop b mt me env (ds.drop i) accD (fun acc => ∀ v H' F, Fr (Wq C) _ H' → DiceOk C H' → Rp C.CT H' v (.lst acc) F → KdOk C Γ Fs _ .own F → Q v H'), ⟨ds.length, rfl, Nat.zero_le _, [], [], [], upd_same, .nil, Fr.refl.hid hD, dk.keep (Fr.new hD), List.nodup_nil, (fun _ z => nomatch z), q⟩, ?_⟩
    rintro i m H2 ⟨rfl, hi, accV, accD, F, e2, r2, f2, dk2, nd2, fr2, q2⟩
    have nqS : ∀ a ∈ S, ¬ Wq C a := kd.1.wq
    have p2 : P H2 := wlk.keep _ H1 H2 p f2 nqS
    by_cases hlt : i < ds.length
    · refine .inr ⟨wlk.go i H2 p2 hlt, fun H' => ∃ accV accD F, H' Dl = some (.lst accV) ∧ Rps C.CT H' accV accD F ∧ Fr (Wq C) H1 H' ∧ DiceOk C H' ∧ F.Nodup ∧ (∀ a ∈ F, H1 a = none ∧ a ≠ Dl) ∧
        lcLoop b mt me env (ds.drop (i + 1)) accD (fun acc => ∀ v H' F, Fr (Wq C) _ H' → DiceOk C H' → Rp C.CT H' v (.lst acc) F → KdOk C Γ Fs _ .own F → Q v H'), fun H' hN => ⟨ds.length - (i + 1), by omega, rfl, hlt, hN⟩, fun x H3 y => ?_⟩
      obtain ⟨d, G, e, f3, r3, sub⟩ := wlk.yld i H2 x H3 p2 hlt y
      have hd : ds.drop i = d :: ds.drop (i + 1) := by
        obtain ⟨h1, h2⟩ := List.getElem?_eq_some_iff.mp e
        rw [← h2, List.drop_eq_getElem_cons h1]
      rw [hd] at q2
      have dk3 : DiceOk C H3 := dk2.keep f3
      have f13 : Fr (Wq C) H1 H3 := f2.trans f3.wq
      refine sg.run _ H3 env Fs x d G _ (I1.step f13 dk3) r3 (fun p e => ⟨fun hm => (kd.1 p e).1 (sub _ hm), fun hm => (kd.1 p e).2 (sub _ hm)⟩) (fun a ha j gj hb => ?_) (sg.mono _ _ _ _ (fun env4 q4 σ4 Fs4 I4 o4 fs4 l4 k4 => ⟨?_, ?_⟩) q2)
      · have gj := ho j gj
        exact absurd gj (of_decide_eq_true (List.all_eq_true.mp hS j (kd.2 a (sub a ha) j (wk_o hw gj) hb)))
      · refine wipe_eq (l4.trans lw) (fun j hj => k4 j fun z => hj (of_decide_eq_true (List.all_eq_true.mp hk j z))) l4
      · have e3 : H3 Dl = some (.lst accV) := f3.keep _ _ e2 fun z => z
        have r3' : Rps C.CT H3 accV accD F := r2.keep f3 fun _ _ z => z
        refine st.run σ4 H3 env4 Fs4 _ I4 (st.mono _ _ _ (fun c q5 H5 f5 dk5 => ?_) q4)
        have nqF : ∀ a ∈ F, ¬ Wq C a := (NoQ.new dk fun a ha => (fr2 a ha).1).wq
        have nqD : ¬ Wq C Dl := fun w => wq_there dk w hD
        have e5 : H5 Dl = some (.lst accV) := f5.keep _ _ e3 nqD
        have r5 : Rps C.CT H5 accV accD F := r3'.keep f5 nqF
        have f15 : Fr (Wq C) H1 H5 := f13.trans f5
        cases c with
        | true =>
          rw [if_pos rfl] at q5 ⊢
          refine se.run σ4 H5 env4 Fs4 _ (I4.step f5 dk5) (se.mono _ _ _ (fun y q6 w H6 G6 f6 dk6 r6 k6 => ?_) q5)
          have e6 : H6 Dl = some (.lst accV) := f6.keep _ _ e5 nqD
          have nG : Dl ∉ G6 := fun z => by
            have := k6.2.2 Dl z
            rw [e5] at this; cases this
          have nF : Dl ∉ F := fun z => (fr2 Dl z).2 rfl
          refine ⟨accV, e6, by rw [r5.length]; exact q6.1, accV ++ [w], accD ++ [y], F ++ (G6 ++ []), upd_same, ((r5.keep f6 nqF).upd e6 rfl nF).append (.cons (r6.upd e6 rfl nG) .nil), (f15.trans f6).hid hD, dk6.upd (f15.trans f6) hD dk, ?_, fun a ha => ?_, q6.2⟩
          · rw [List.append_nil]
            refine List.nodup_append.mpr ⟨nd2, k6.2.1, fun a ha b hb e => ?_⟩
            subst e
            exact r5.tracked a ha (k6.2.2 a hb)
          · rw [List.append_nil] at ha
            rcases List.mem_append.mp ha with ha | ha
            · exact fr2 a ha
            · exact ⟨f15.there a (k6.2.2 a ha), fun z => nG (z ▸ ha)⟩
        | false =>
          rw [if_neg Bool.false_ne_true] at q5 ⊢
          exact ⟨accV, accD, F, e5, r5, f15, dk5, nd2, fr2, q5⟩
    · have e : i = ds.length := by omega
      subst e
      rw [List.drop_length] at q2
      refine .inl ⟨wlk.stop H2 p2, q2 (.ref Dl) H2 (Dl :: F) (f.trans f2) dk2 (.lst e2 r2) ⟨NoQ.new dk fun a ha => ?_, List.nodup_cons.mpr ⟨fun z => (fr2 Dl z).2 rfl, nd2⟩, fun a ha => ?_⟩⟩
      · rcases List.mem_cons.mp ha with z | ha
        · rw [z]; exact hD
        · exact (fr2 a ha).1
      · rcases List.mem_cons.mp ha with z | ha
        · rw [z]; exact f.there _ hD
        · exact f.there _ (fr2 a ha).1) h),
   fun env Q Q' k q => s.mono env _ _ (fun ds q => mono_lcLoop sg.mono st.mono se.mono ds [] _ _ (fun acc q => k _ q) q) q⟩
end
end Pu

/-! file PuCall -/
set_option Elab.async false
set_option linter.all false
set_option maxRecDepth 100000
namespace Pu
open PySem PySem.Spec PyProof.Rows L2

section
variable {C : Cfg} {Γ Γ' Γn Γl Γo Γt Γe Γ1 Γ2 : List Mo} {σ σ' : L2.St} {H H' H1 H2 : Hp} {env env' : PEnv} {Fs Fs' Fs1 Fs2 : Nat → List Addr} {v : V} {vs : List V} {d : D} {ds : List D} {F G : List Addr} {ta tb tc te : TE} {A B : Kd} {m n mc : X1} {K : PySem.W.Frag} {CT : Nat → Addr}

/-! ### slices -/
structure SimO (C : Cfg) (Γ : List Mo) (t : TO) (m : PEnv → (Option Int → Prop) → Prop) : Prop where
  run : ∀ (σ : L2.St) (H : Hp) (env : PEnv) (Fs : Nat → List Addr) (Q : Option Int → Hp → Prop), Ok C Γ σ H env Fs →
    m env (fun b => ∀ H', Fr (Wq C) H H' → DiceOk C H' → Q b H') → t σ H Q
  mono : Mono m
def pNo : PEnv → (Option Int → Prop) → Prop := fun _ Q => Q none
def pYes (m : X1) : PEnv → (Option Int → Prop) → Prop := fun env Q => m env fun d => match d with
  | .int i => Q (some i)
  | _ => False
theorem simo_no : SimO C Γ tNoPart pNo := ⟨fun σ H env Fs Q I h => h H Fr.refl I.dk, fun _ _ _ k q => k _ q⟩
theorem simo_yes (s : Sim C Γ te A m) : SimO C Γ (tPart te) (pYes m) := ⟨fun σ H env Fs Q I h => s.run σ H env Fs _ I (s.mono env _ _ (fun d q v H1 F f dk r k => by
    cases r <;> first | exact ⟨_, rfl, q H1 f dk⟩ | exact (show False from q).elim) h), fun env Q Q' k q => s.mono env _ _ (fun d q => by cases d <;> first | exact k _ q | exact q) q⟩
def cutD {α : Type} (xs : List α) (lo hi : Option Int) : List α := (xs.drop (HT.sIx xs.length 0 lo)).take (HT.sIx xs.length xs.length hi - HT.sIx xs.length 0 lo)
def rSlU (K : PySem.W.Frag) : V → Option Int → Option Int → Hp → VK → Prop := fun x lo hi H Q => rSlA K x lo hi H Q ∨ rSlL K x lo hi H Q
theorem sl_U {X : Cx} : SlR X (rSlU X.K) := sl_tupA.or sl_list
def xSl (m : X1) (l u : PEnv → (Option Int → Prop) → Prop) : X1 := fun env Q => m env fun d => l env fun lo => u env fun hi => match d with
  | .tup xs => immL xs = true ∧ Q (.tup (cutD xs lo hi))
  | .lst xs => immL xs = true ∧ Q (.lst (cutD xs lo hi))
  | _ => False
theorem cut_whole {xs : List D} {lo hi : Option Int} (h : HT.sIx xs.length 0 lo = 0 ∧ HT.sIx xs.length xs.length hi = xs.length) : cutD xs lo hi = xs := by
  unfold cutD
  rw [h.1, h.2]
  simp
theorem Rps.cut (r : Rps CT H vs ds []) (lo hi : Option Int) : Rps CT H (cutV vs lo hi) (cutD ds lo hi) [] := by
  unfold cutV cutD
  rw [r.length]
  exact (r.drop _).take _
theorem sim_sl {tl th : TO} {l u : PEnv → (Option Int → Prop) → Prop} (s : Sim C Γ te A m) (s1 : SimO C Γ tl l) (s2 : SimO C Γ th u) : Sim C Γ (tSl (rSlU K) te tl th) .own (xSl m l u) :=
  ⟨fun σ H env Fs Q I h => s.run σ H env Fs _ I (s.mono env _ _ (fun d q v H1 F f dk r k => s1.run σ H1 env Fs _ (I.step f dk) (s1.mono env _ _ (fun lo q H2 f2 dk2 => s2.run σ H2 env Fs _ (I.step (f.trans f2) dk2) (s2.mono env _ _ (fun hi q H3 f3 dk3 => by
    have r3 := r.keep (f2.trans f3) k.1.wq
    have ff := f.trans (f2.trans f3)
    cases r3 with
    | tup ha ra =>
      have e := ra.imm q.1
      subst e
      refine .inl ⟨_, _, rfl, SqT.of ha, fun hh => ?_, fun hh p hp => ?_⟩
      · rw [ra.length] at hh
        have := q.2
        rw [cut_whole hh] at this
        exact this _ H3 [] ff dk3 (.tup ha ra) KdOk.own_nil
      · exact q.2 _ _ [] (ff.trans (Fr.new hp)) (dk3.keep (Fr.new hp)) (.tup upd_same ((ra.cut lo hi).keep (W := fun _ => False) (Fr.new hp) fun _ z => nomatch z)) KdOk.own_nil
    | lst ha ra =>
      have e := ra.imm q.1
      subst e
      exact .inr ⟨_, _, rfl, SqL.of ha, fun p hp => q.2 _ _ [p] (ff.trans (Fr.new hp)) (dk3.keep (Fr.new hp)) (.lst upd_same ((ra.cut lo hi).keep (W := fun _ => False) (Fr.new hp) fun _ z => nomatch z)) ⟨NoQ.new dk3 fun a ha => (by rw [List.mem_singleton.mp ha]; exact hp), (by simp), fun a ha => (by rw [List.mem_singleton.mp ha]; exact ff.there p hp)⟩⟩
    | _ => exact (show False from q).elim) q)) q)) h),
   fun env Q Q' k q => s.mono env _ _ (fun d q => s1.mono env _ _ (fun lo q => s2.mono env _ _ (fun hi q => by cases d <;> first | exact ⟨q.1, k _ q.2⟩ | exact q) q) q) q⟩

/-! ### built-ins by values -/
def oLen : O1 := fun d Q => match d with
  | .lst xs => Q (.int (xs.length : Nat))
  | .tup xs => Q (.int (xs.length : Nat))
  | _ => False
def rLen (K : PySem.W.Frag) : List V → Hp → VK → Prop := fun xs H Q => ∃ p ys, xs = [.ref p] ∧ (SqL K H p ys ∨ SqT K H p ys) ∧ Q (.int ys.length) H
theorem sc_len : SimC1 CT (rLen K) oLen := ⟨fun H v d F Q a q => by
  cases a with
  | lst ha ra => exact ⟨_, _, rfl, .inl (SqL.of ha), by rw [ra.length]; exact New.imm q (.int _)⟩
  | tup ha ra => exact ⟨_, _, rfl, .inr (SqT.of ha), by rw [ra.length]; exact New.imm q (.int _)⟩
  | _ => exact (show False from q).elim, fun d Q Q' k q => by cases d <;> first | exact k _ q | exact q⟩
def rListO (K : PySem.W.Frag) : List V → Hp → VK → Prop := fun xs H Q => ∃ p ys, xs = [.ref p] ∧ (SqL K H p ys ∨ SqT K H p ys) ∧ ∀ l, H l = none → Q (.ref l) (upd H l (.lst ys))
def oList : O1 := fun d Q => match d with
  | .lst xs => immL xs = true ∧ Q (.lst xs)
  | .tup xs => immL xs = true ∧ Q (.lst xs)
  | _ => False
theorem sc_list : SimC1 CT (rListO K) oList := ⟨fun H v d F Q a q => by
  cases a with
  | lst ha ra =>
    have e := ra.imm q.1; subst e
    exact ⟨_, _, rfl, .inl (SqL.of ha), fun l hl => New.at1 q.2 hl (.lst upd_same (ra.keep (W := fun _ => False) (Fr.new hl) fun _ z => nomatch z))⟩
  | tup ha ra =>
    have e := ra.imm q.1; subst e
    exact ⟨_, _, rfl, .inr (SqT.of ha), fun l hl => New.at1 q.2 hl (.lst upd_same (ra.keep (W := fun _ => False) (Fr.new hl) fun _ z => nomatch z))⟩
  | _ => exact (show False from q).elim, fun d Q Q' k q => by cases d <;> first | exact ⟨q.1, k _ q.2⟩ | exact q⟩
def rTupO (K : PySem.W.Frag) : List V → Hp → VK → Prop := fun xs H Q => ∃ p ys, xs = [.ref p] ∧ ((SqL K H p ys ∧ ∀ l, H l = none → Q (.ref l) (upd H l (.tup ys))) ∨ (SqT K H p ys ∧ Q (.ref p) H))
def oTup : O1 := fun d Q => match d with
  | .lst xs => immL xs = true ∧ Q (.tup xs)
  | .tup xs => immL xs = true ∧ Q (.tup xs)
  | _ => False
theorem sc_tup : SimC1 CT (rTupO K) oTup := ⟨fun H v d F Q a q => by
  cases a with
  | lst ha ra =>
    have e := ra.imm q.1; subst e
    exact ⟨_, _, rfl, .inl ⟨SqL.of ha, fun l hl => New.at q.2 hl (.tup upd_same (ra.keep (W := fun _ => False) (Fr.new hl) fun _ z => nomatch z))⟩⟩
  | tup ha ra =>
    have e := ra.imm q.1; subst e
    exact ⟨_, _, rfl, .inr ⟨SqT.of ha, New.imm q.2 (.tup ha ra)⟩⟩
  | _ => exact (show False from q).elim, fun d Q Q' k q => by cases d <;> first | exact ⟨q.1, k _ q.2⟩ | exact q⟩
def oSum : O1 := fun d Q => match d with
  | .lst xs => ∃ ns : List Int, xs = ns.map D.int ∧ Q (.int ns.sum)
  | _ => False
theorem sc_sum : SimC1 CT (rSum K) oSum := ⟨fun H v d F Q a q => by
  cases a with
  | lst ha ra =>
    obtain ⟨ns, rfl, q⟩ := q
    obtain ⟨rfl, _⟩ := ra.ints
    exact ⟨_, _, rfl, SqL.of ha, New.imm q (.int _)⟩
  | _ => exact (show False from q).elim, fun d Q Q' k q => by
  cases d <;> first | exact q | skip
  obtain ⟨ns, e, q⟩ := q
  exact ⟨ns, e, k _ q⟩⟩
def oAny (all : Bool) : O1 := fun d Q => match d with
  | .lst xs => ∃ bs : List Bool, xs = bs.map D.bl ∧ Q (.bl (if all then bs.all id else bs.any id))
  | _ => False
theorem mono_oAny {all : Bool} : Mono1 (oAny all) := fun d Q Q' k q => by
  cases d <;> first | exact q | skip
  obtain ⟨ns, e, q⟩ := q
  exact ⟨ns, e, k _ q⟩
theorem sc_any : SimC1 CT (rAny K) (oAny false) := ⟨fun H v d F Q a q => by
  cases a with
  | lst ha ra =>
    obtain ⟨ns, rfl, q⟩ := q
    obtain ⟨rfl, _⟩ := ra.bls
    exact ⟨_, _, rfl, SqL.of ha, New.imm q (.bl _)⟩
  | _ => exact (show False from q).elim, mono_oAny⟩
theorem sc_all : SimC1 CT (rAll K) (oAny true) := ⟨fun H v d F Q a q => by
  cases a with
  | lst ha ra =>
    obtain ⟨ns, rfl, q⟩ := q
    obtain ⟨rfl, _⟩ := ra.bls
    exact ⟨_, _, rfl, SqL.of ha, New.imm q (.bl _)⟩
  | _ => exact (show False from q).elim, mono_oAny⟩
/-- max, min of a list of ints; sorted ints: what holds of the answer -/
def oMost (mx : Bool) : O1 := fun d Q => match d with
  | .lst xs => ∃ ns : List Int, xs = ns.map D.int ∧ 0 < ns.length ∧ ∀ i, i ∈ ns → (∀ y, y ∈ ns → if mx then y ≤ i else i ≤ y) → Q (.int i)
  | _ => False
theorem mono_oMost {mx : Bool} : Mono1 (oMost mx) := fun d Q Q' k q => by
  cases d <;> first | exact q | skip
  obtain ⟨ns, e, l, q⟩ := q
  exact ⟨ns, e, l, fun i h1 h2 => k _ (q i h1 h2)⟩
theorem sc_max : SimC1 CT (rMax K) (oMost true) := ⟨fun H v d F Q a q => by
  cases a with
  | lst ha ra =>
    obtain ⟨ns, rfl, l, q⟩ := q
    obtain ⟨rfl, _⟩ := ra.ints
    exact ⟨_, _, rfl, SqL.of ha, l, fun i h1 h2 => New.imm (q i h1 h2) (.int _)⟩
  | _ => exact (show False from q).elim, mono_oMost⟩
theorem sc_min : SimC1 CT (rMin K) (oMost false) := ⟨fun H v d F Q a q => by
  cases a with
  | lst ha ra =>
    obtain ⟨ns, rfl, l, q⟩ := q
    obtain ⟨rfl, _⟩ := ra.ints
    exact ⟨_, _, rfl, SqL.of ha, l, fun i h1 h2 => New.imm (q i h1 (by simpa using h2)) (.int _)⟩
  | _ => exact (show False from q).elim, mono_oMost⟩
def oSortI : O1 := fun d Q => match d with
  | .lst xs => ∃ ns : List Int, xs = ns.map D.int ∧ ∀ ns' : List Int, ns'.Perm ns → ns'.Pairwise (· ≤ ·) → Q (.lst (ns'.map D.int))
  | _ => False
theorem sc_sortI : SimC1 CT (rSortedI K) oSortI := ⟨fun H v d F Q a q => by
  cases a with
  | lst ha ra =>
    obtain ⟨ns, rfl, q⟩ := q
    obtain ⟨rfl, _⟩ := ra.ints
    exact ⟨_, _, rfl, SqL.of ha, fun ns' p h1 h2 hp => New.at1 (q ns' h1 h2) hp (.lst upd_same Rps.of_ints)⟩
  | _ => exact (show False from q).elim, fun d Q Q' k q => by
  cases d <;> first | exact q | skip
  obtain ⟨ns, e, q⟩ := q
  exact ⟨ns, e, fun ns' h1 h2 => k _ (q ns' h1 h2)⟩⟩
def rAbs : List V → Hp → VK → Prop := fun xs H Q => ∃ i, xs = [.int i] ∧ Q (.int (if i < 0 then -i else i)) H
def oAbs : O1 := fun d Q => match d with
  | .int i => Q (.int (if i < 0 then -i else i))
  | _ => False
theorem sc_abs : SimC1 CT rAbs oAbs := ⟨fun H v d F Q a q => by
  cases a <;> first | exact ⟨_, rfl, New.imm q (.int _)⟩ | exact (show False from q).elim, fun d Q Q' k q => by cases d <;> first | exact k _ q | exact q⟩
def rInt1 : List V → Hp → VK → Prop := fun xs H Q => (∃ i, xs = [.int i] ∧ Q (.int i) H) ∨ ∃ k, xs = [.bl k] ∧ Q (.int (if k then 1 else 0)) H
def oInt : O1 := fun d Q => match d with
  | .int i => Q (.int i)
  | .bl b => Q (.int (if b then 1 else 0))
  | _ => False
theorem sc_int : SimC1 CT rInt1 oInt := ⟨fun H v d F Q a q => by
  cases a with
  | int i => exact .inl ⟨_, rfl, New.imm q (.int _)⟩
  | bl i => exact .inr ⟨_, rfl, New.imm q (.int _)⟩
  | _ => exact (show False from q).elim, fun d Q Q' k q => by cases d <;> first | exact k _ q | exact q⟩
def rMx2 : List V → Hp → VK → Prop := fun xs H Q => ∃ i j, xs = [.int i, .int j] ∧ Q (.int (if j > i then j else i)) H
def rMn2 : List V → Hp → VK → Prop := fun xs H Q => ∃ i j, xs = [.int i, .int j] ∧ Q (.int (if j < i then j else i)) H
theorem sc_max2 : SimC2 CT rMx2 (oI fun i j => .int (if j > i then j else i)) := ⟨fun H v w d e F G Q a b q => by
  cases a <;> cases b <;> first | exact ⟨_, _, rfl, New.imm q (.int _)⟩ | exact (show False from q).elim, mono_oI⟩
theorem sc_min2 : SimC2 CT rMn2 (oI fun i j => .int (if j < i then j else i)) := ⟨fun H v w d e F G Q a b q => by
  cases a <;> cases b <;> first | exact ⟨_, _, rfl, New.imm q (.int _)⟩ | exact (show False from q).elim, mono_oI⟩
/-- list(range(n)), tuple(range(n)) -/
theorem rgV_D {a b : Int} : Rps CT H (rgV a b) (rgD a (b - a).toNat) [] := by
  refine Rps.of_imm ?_ fun j v d e1 e2 => ?_
  · unfold rgV rgD; simp
  · unfold rgV at e1; unfold rgD at e2
    rw [List.getElem?_map] at e1 e2
    cases e : (List.range (b - a).toNat)[j]? with
    | none => rw [e] at e1; cases e1
    | some k =>
      rw [e] at e1 e2
      cases e1; cases e2
      exact .int _
def xLRg1 (m : X1) : X1 := fun env Q => m env fun d => match d with
  | .int j => L2.RgOk 0 j ∧ Q (.lst (rgD 0 (j - 0).toNat))
  | _ => False
theorem sim_lrg1 (s : Sim C Γ te A m) : Sim C Γ (tLstRg (tRg1 te)) .own (xLRg1 m) := ⟨fun σ H env Fs Q I h => s.run σ H env Fs _ I (s.mono env _ _ (fun d q v H1 F f dk r k => by
    cases r with
    | int j => exact ⟨j, rfl, q.1, fun p hp => q.2 _ _ [p] (f.trans (Fr.new hp)) (dk.keep (Fr.new hp)) (.lst upd_same rgV_D) ⟨NoQ.new dk fun a ha => (by rw [List.mem_singleton.mp ha]; exact hp), (by simp), fun a ha => (by rw [List.mem_singleton.mp ha]; exact f.there p hp)⟩⟩
    | _ => exact (show False from q).elim) h), fun env Q Q' k q => s.mono env _ _ (fun d q => by cases d <;> first | exact ⟨q.1, k _ q.2⟩ | exact q) q⟩

/-! ### x.f of an object of a class -/
def atF (c0 : Nat) (f : Str) : O1 := fun d Q => match d with
  | .obj c gs => c = c0 ∧ (match gs.lookup f with | some x => Q x | none => False)
  | _ => False
theorem lookup_F {f : Str} {x : D} : ∀ {fs : List (Str × V)} {gs : List (Str × D)} {F : List Addr}, fs.map (·.1) = gs.map (·.1) → Rps CT H (fs.map (·.2)) (gs.map (·.2)) F → gs.lookup f = some x → ∃ v G, fs.lookup f = some v ∧ Rp CT H v x G ∧ G.Sublist F
  | [], [], _, _, _, h => by simp at h
  | [], _ :: _, _, e, _, _ => by simp at e
  | _ :: _, [], _, e, _, _ => by simp at e
  | (a, p) :: fs, (b, q) :: gs, _, e, .cons (F := F) r rs, h => by
    simp only [List.map_cons, List.cons.injEq] at e
    obtain ⟨e1, e2⟩ := e
    have e1 : a = b := e1
    subst e1
    rw [List.lookup_cons] at h ⊢
    by_cases hf : (f == a) = true
    · rw [hf] at h ⊢
      cases h
      exact ⟨p, F, rfl, r, List.sublist_append_left _ _⟩
    · rw [Bool.not_eq_true] at hf
      rw [hf] at h ⊢
      obtain ⟨v, G, h1, h2, h3⟩ := lookup_F e2 rs h
      exact ⟨v, G, h1, h2, h3.trans (List.sublist_append_right _ _)⟩
theorem sim_fld {c0 : Nat} {f : Str} (hc : Cls K (C.CT c0)) (hn : NoAttr K (C.CT c0) f) (s : Sim C Γ te A m) : Sim C Γ (tFld K te f) A (x1 (atF c0 f) m) :=
  ⟨fun σ H env Fs Q I h => s.run σ H env Fs _ I (s.mono env _ _ (fun d q v H1 F f1 dk r k => by
    cases r with
    | obj ha hk ra =>
      obtain ⟨rfl, q⟩ := q
      cases e : List.lookup f _ with
      | none => rw [e] at q; exact q.elim
      | some x =>
        rw [e] at q
        obtain ⟨v, G, h1, h2, h3⟩ := lookup_F hk ra e
        exact ⟨_, _, _, _, v, rfl, ha, hc, hn, h1, q v H1 G f1 dk h2 (k.sub (h3.trans (List.sublist_cons_self _ _)))⟩
    | _ => exact (show False from q).elim) h),
   mono_x1 (fun d Q Q' k q => by
    cases d with
    | obj c gs =>
      refine ⟨q.1, ?_⟩
      have q2 := q.2
      revert q2
      cases List.lookup f gs with
      | none => exact fun z => z
      | some x => exact k x
    | _ => exact q) s.mono⟩

/-! ### x op= e at a name -/
def ipU (K : PySem.W.Frag) : TIp := ipI fun i j => i + j
def sAug (i : Nat) (o : O2) (m : X1) : XS := fun E env => xVar i env fun d => m env fun e => o d e fun x => E.nx (env.set i (some x))
theorem sim_aug {i : Nat} {mo : Mo} {r : TIp} {o : O2} (fr : Free C i) (g : Γ[i]? = some mo) (l : live mo) (h : SimO2 C.CT r o) (s : Sim C Γ te A m) : SimS C Γl Γ (Γ.set i .o) (tAug i te r) (sAug i o m) :=
  ⟨fun σ H env Fs D E I lk hh => by
    obtain ⟨v, d, h1, h2, h3⟩ := I.val i mo g l
    have hi : i < Γ.length := (List.getElem?_eq_some_iff.mp g).1
    have hh : xVar i env _ := hh
    unfold xVar at hh
    rw [h2] at hh
    refine ⟨v, h1, s.run σ H env Fs _ I (s.mono env _ _ (fun e q w H1 G f dk r2 k2 => ?_) hh)⟩
    refine h.run H1 v w d e (Fs i) G _ (h3.keep f (I.nq i mo g l).wq) r2 (h.mono d e _ _ (fun x q z H2 P f2 r3 nd fr3 => ?_) q)
    have kd : KdOk C Γ Fs H .own P := ⟨NoQ.new dk fr3, nd, fun a ha => f.there a (fr3 a ha)⟩
    refine lk.nx _ H2 _ _ (I.setO (f.trans f2.wq) (dk.keep f2) fr hi r3 kd) ⟨(f.trans f2.wq).mono fun _ w => .inl w, fun j gj a ha => ?_⟩ q
    rcases get_set gj with ⟨rfl, _, _⟩ | ⟨ne, gj⟩
    · rw [setF_same] at ha; exact .inr (kd.2.2 a ha)
    · rw [setF_ne ne] at ha; exact .inl ⟨j, gj, ha⟩,
   fun E E' env p q => mono_var env _ _ (fun d q => s.mono env _ _ (fun e q => h.mono d e _ _ (fun x q => p.1 _ q) q) q) q⟩

/-! ### what a slot owns is changed in place -/
/-- the object at the slot's own root -/
theorem Ok.root (I : Ok C Γ σ H env Fs) {i : Nat} (g : Γ[i]? = some .o) {a : Addr} {o u : HO} {d' : D} {F' : List Addr} (hv : σ[i]? = some (some (.ref a))) (ha : H a = some o) (hi : Im o = false) (hm : a ∈ Fs i)
    (r : Rp C.CT (upd H a u) (.ref a) d' F') (nd : F'.Nodup) (sub : ∀ b ∈ F', b ∈ Fs i ∨ ∀ (j : Nat) (m : Mo), Γ[j]? = some m → live m → b ∉ Fs j) (nq : NoQ C F') :
    Ok C Γ σ (upd H a u) (env.set i (some d')) (setF Fs i F') := by
  have fr : Fr (fun b => b = a) H (upd H a u) := Fr.at rfl ha hi
  have hΓ : i < Γ.length := (List.getElem?_eq_some_iff.mp g).1
  refine ⟨by simp [I.le], I.ls, fun j m gj l => ?_, I.dice, fun j gj => ?_, fun j k m gj gk l ne b hb hb' => ?_, fun j m gj l => ?_, fun p e => ?_, I.pn⟩
  · by_cases e : j = i
    · subst e
      exact ⟨_, d', hv, by rw [List.getElem?_set_self (by rw [I.le]; exact hΓ)], by rw [setF_same]; exact r⟩
    · obtain ⟨v, d, h1, h2, h3⟩ := I.val j m gj l
      refine ⟨v, d, h1, by rw [List.getElem?_set_ne (Ne.symm e)]; exact h2, ?_⟩
      rw [setF_ne e]
      exact h3.keep fr fun b hb z => I.dj i j m g gj l (Ne.symm e) a hm (z ▸ hb)
  · by_cases e : j = i
    · subst e; rw [setF_same]; exact nd
    · rw [setF_ne e]; exact I.nd j gj
  · by_cases e : j = i
    · subst e
      rw [setF_same] at hb
      rw [setF_ne (Ne.symm ne)] at hb'
      rcases sub b hb with z | z
      · exact I.dj j k m g gk l ne b z hb'
      · exact z k m gk l hb'
    · rw [setF_ne e] at hb
      by_cases e2 : k = i
      · subst e2
        rw [setF_same] at hb'
        rcases sub b hb' with z | z
        · exact I.dj j k .o gj g (.inl rfl) ne b hb z
        · exact z j .o gj (.inl rfl) hb
      · rw [setF_ne e2] at hb'
        exact I.dj j k m gj gk l ne b hb hb'
  · by_cases e : j = i
    · subst e; rw [setF_same]; exact nq
    · rw [setF_ne e]; exact I.nq j m gj l
  · obtain ⟨o1, u1, h1, h2, r1⟩ := (I.dk p e).ex
    have nq := I.nq i _ g (.inl rfl) p e
    exact ⟨o1, u1, by rw [upd_ne (fun z => nq.1 (by rw [z]; exact hm))]; exact h1, by rw [upd_ne (fun z => nq.2 (by rw [z]; exact hm))]; exact h2, r1⟩
/-- .. a statement that does so, behind an evaluation -/
theorem Lk.root {D : Ends} {E : PEnds} (lk : Lk C Γ Fs H Γ Γl D E) (I : Ok C Γ σ H env Fs) (f : Fr (Wq C) H H1) (dk : DiceOk C H1) {i : Nat} (g : Γ[i]? = some .o) {a : Addr} {o u : HO} {d' : Pu.D} {F F' G : List Addr}
    (hv : σ[i]? = some (some (.ref a))) (ha : H1 a = some o) (hi : Im o = false) (e : Fs i = a :: F) (r : Rp C.CT (L2.upd H1 a u) (.ref a) d' (a :: F')) (nd : F'.Nodup) (na : a ∉ F') (sub : ∀ b ∈ F', b ∈ F ∨ H b = none)
    (q : E.nx (env.set i (some d'))) : D.nx σ (L2.upd H1 a u) := by
  have hm : a ∈ Fs i := by rw [e]; exact List.mem_cons_self
  have hs : ∀ b ∈ a :: F', b ∈ Fs i ∨ H b = none := fun b hb => by
    rcases List.mem_cons.mp hb with z | hb
    · rw [z]; exact .inl hm
    · rcases sub b hb with z | z
      · rw [e]; exact .inl (List.mem_cons_of_mem _ z)
      · exact .inr z
  have nq : NoQ C (a :: F') := fun p ep => by
    have h1 := I.nq i _ g (.inl rfl) p ep
    refine ⟨fun z => ?_, fun z => ?_⟩
    · rcases hs _ z with z | z
      · exact h1.1 z
      · exact (I.dk p ep).t1 z
    · rcases hs _ z with z | z
      · exact h1.2 z
      · exact (I.dk p ep).t2 z
  have I1 := I.step f dk
  refine lk.nx σ _ _ _ (I1.root g hv ha hi hm r (List.nodup_cons.mpr ⟨na, nd⟩) (fun b hb => ?_) nq) ⟨?_, fun j gj b hb => ?_⟩ q
  · rcases hs b hb with z | z
    · exact .inl z
    · exact .inr fun j m gj l hb => I.tracked gj l b hb z
  · exact (f.mono fun _ w => .inl w).trans (Fr.at (.inr ⟨i, g, hm⟩) ha hi)
  · by_cases ej : j = i
    · subst ej
      rw [setF_same] at hb
      rcases hs b hb with z | z
      · exact .inl ⟨j, g, z⟩
      · exact .inr z
    · rw [setF_ne ej] at hb; exact .inl ⟨j, gj, hb⟩
/-- xs.append(e), xs a slot of one's own -/
def onL (xs : D) (k : List D → Prop) : Prop := match xs with
  | .lst ds => k ds
  | _ => False
theorem onL_mono {d : D} {k k' : List D → Prop} (h : ∀ ds, k ds → k' ds) (q : onL d k) : onL d k' := by cases d <;> first | exact h _ q | exact q
theorem Rp.onL {k : List D → Prop} (r : Rp CT H v d F) (q : onL d k) : ∃ a vs ds F', v = .ref a ∧ d = .lst ds ∧ F = a :: F' ∧ H a = some (.lst vs) ∧ Rps CT H vs ds F' ∧ k ds := by
  cases r with
  | lst ha ra => exact ⟨_, _, _, _, rfl, rfl, rfl, ha, ra, q⟩
  | _ => exact (show False from q).elim
def sApp (i : Nat) (m : X1) : XS := fun E env => xVar i env fun d => onL d fun xs => m env fun e => xs.length < sizeLine ∧ E.nx (env.set i (some (.lst (xs ++ [e]))))
theorem sim_app {i : Nat} (g : Γ[i]? = some .o) (s : Sim C Γ te .own m) : SimS C Γl Γ Γ (tDrop (tBM K "list" rAppend (tVar i) (tCons te tNil))) (sApp i m) :=
  ⟨fun σ H env Fs D E I lk hh => by
    obtain ⟨v, d, h1, h2, h3⟩ := I.val i _ g (.inl rfl)
    have hh : xVar i env _ := hh
    unfold xVar at hh
    rw [h2] at hh
    obtain ⟨a, vs, ds, F, rfl, rfl, eF, ha, ra, hh⟩ := h3.onL hh
    refine ⟨_, h1, .inl ⟨rfl, _, SqL.of ha⟩, s.run σ H env Fs _ I (s.mono env _ _ (fun e q w H1 G f dk r2 k2 => ?_) hh)⟩
    have nqa := I.nq i _ g (.inl rfl)
    rw [eF] at nqa
    have nda := I.nd i g
    rw [eF] at nda
    have ha1 := f.keep _ _ ha (nqa.wq a List.mem_cons_self)
    have ra1 := ra.keep f fun b hb => nqa.wq b (List.mem_cons_of_mem _ hb)
    have nG : a ∉ G := fun z => by
      have := k2.2.2 a z
      rw [ha] at this; cases this
    have nF : a ∉ F := (List.nodup_cons.mp nda).1
    refine ⟨a, vs, w, rfl, rfl, ha1, by rw [ra.length]; exact q.1, lk.root I f dk g h1 ha1 rfl eF (F' := F ++ (G ++ [])) (G := G) (.lst upd_same ((ra1.upd ha1 rfl nF).append (.cons (r2.upd ha1 rfl nG) .nil))) ?_ ?_ (fun b hb => ?_) q.2⟩
    · rw [List.append_nil]
      refine List.nodup_append.mpr ⟨(List.nodup_cons.mp nda).2, k2.2.1, fun b hb c hc z => ?_⟩
      subst z
      exact ra.tracked b hb (k2.2.2 b hc)
    · rw [List.append_nil]
      exact fun z => (List.mem_append.mp z).elim nF nG
    · rw [List.append_nil] at hb
      exact (List.mem_append.mp hb).imp id fun hb => k2.2.2 b hb,
   fun E E' env p q => mono_var env _ _ (fun d q => onL_mono (fun ds q => s.mono env _ _ (fun e q => ⟨q.1, p.1 _ q.2⟩) q) q) q⟩
/-- xs[k] = e -/
theorem Rps.set : ∀ {vs : List V} {ds : List D} {F : List Addr} (j : Nat), Rps CT H vs ds F → Rp CT H v d G → ∃ F', Rps CT H (vs.set j v) (ds.set j d) F' ∧ (∀ b ∈ F', b ∈ F ∨ b ∈ G) ∧ ((F ++ G).Nodup → F'.Nodup)
  | _, _, _, _, .nil, _ => ⟨[], .nil, (fun b h => nomatch h), fun _ => List.nodup_nil⟩
  | _, _, _, 0, .cons (F := F1) (G := F2) r rs, q => ⟨G ++ F2, .cons q rs, (fun b h => (List.mem_append.mp h).elim .inr fun h => .inl (List.mem_append_right _ h)), fun n => by
    rw [List.append_assoc] at n
    have n2 := (List.nodup_append.mp n).2.1
    exact (List.perm_append_comm.nodup_iff).mp n2⟩
  | _, _, _, j + 1, .cons (F := F1) (G := F2) r rs, q => by
    obtain ⟨F', h1, h2, h3⟩ := Rps.set j rs q
    refine ⟨F1 ++ F', .cons r h1, fun b h => ?_, fun n => ?_⟩
    · rcases List.mem_append.mp h with h | h
      · exact .inl (List.mem_append_left _ h)
      · exact (h2 b h).imp (List.mem_append_right _) id
    · rw [List.append_assoc] at n
      obtain ⟨n1, n2, n3⟩ := List.nodup_append.mp n
      refine List.nodup_append.mpr ⟨n1, h3 n2, fun x hx y hy e => n3 x hx y ?_ e⟩
      exact List.mem_append.mpr (h2 y hy)
def rSetU : V → V → V → Hp → (Hp → Prop) → Prop := fun o i v H Q => rSetL o i v H Q ∨ ∃ a H4, o = .ref a ∧ DPut H a i v H4 ∧ Q H4
theorem set_U {X : Cx} (hu : X.A.units + 1 < cLine) : PSet X rSetU := by
  intro pins s σ H o i v ov iv u Q I ro ri rv h
  rcases h with h | ⟨a, H4, rfl, g, q⟩
  · exact set_list pins s σ H o i v ov iv u Q I ro ri rv h
  · obtain rfl : ov = Value.ref a := ro
    exact d_setItem hu I g ri rv fun s4 I4 => ⟨H4, I4, q⟩
/-- what xs[k] = y makes of xs -/
def putD {κ : Type} [DecidableEq κ] (kvs : List (κ × D)) (k : κ) (v : D) : List (κ × D) := if kvs.any fun kv => decide (kv.1 = k) then kvs.map fun kv => if kv.1 = k then (kv.1, v) else kv else kvs ++ [(k, v)]
def setD (d e x : D) (Q : D → Prop) : Prop := match d with
  | .lst xs => (match e with | .int i => (match ixN xs.length i with | some j => Q (.lst (xs.set j x)) | none => False) | _ => False)
  | .dK kvs => (match e.key? with | some k => kvs.length < sizeLine ∧ (kvs.map (·.1)).Nodup ∧ Q (.dK (putD kvs k x)) | none => False)
  | .dT kvs => (match e.tkey? with | some k => kvs.length < sizeLine ∧ (kvs.map (·.1)).Nodup ∧ Q (.dT (putD kvs k x)) | none => False)
  | _ => False
theorem putD_any {κ : Type} [DecidableEq κ] {k : κ} : ∀ {kvs : List (κ × V)} {kds : List (κ × D)}, kvs.map (·.1) = kds.map (·.1) → (kvs.any fun kv => decide (kv.1 = k)) = kds.any fun kv => decide (kv.1 = k)
  | [], [], _ => rfl
  | [], _ :: _, e => by simp at e
  | _ :: _, [], e => by simp at e
  | p :: kvs, q :: kds, e => by
    simp only [List.map_cons, List.cons.injEq] at e
    rw [List.any_cons, List.any_cons, e.1, putD_any e.2]
theorem put_map {κ : Type} [DecidableEq κ] {k : κ} (q : Rp CT H v d G) : ∀ {kvs : List (κ × V)} {kds : List (κ × D)} {F : List Addr}, (kds.map (·.1)).Nodup → kvs.map (·.1) = kds.map (·.1) → Rps CT H (kvs.map (·.2)) (kds.map (·.2)) F →
    ∃ F', Rps CT H ((kvs.map fun kv => if kv.1 = k then (kv.1, v) else kv).map (·.2)) ((kds.map fun kv => if kv.1 = k then (kv.1, d) else kv).map (·.2)) F' ∧ (∀ b ∈ F', b ∈ F ∨ b ∈ G) ∧ ((F ++ G).Nodup → F'.Nodup)
  | [], [], _, _, _, .nil => ⟨[], .nil, (fun b h => nomatch h), fun _ => List.nodup_nil⟩
  | [], _ :: _, _, _, e, _ => by simp at e
  | _ :: _, [], _, _, e, _ => by simp at e
  | p :: kvs, w :: kds, _, nd, e, .cons (F := F1) (G := F2) r rs => by
    simp only [List.map_cons, List.cons.injEq, List.nodup_cons] at e nd
    obtain ⟨e1, e2⟩ := e
    by_cases h : w.1 = k
    · have hno : ∀ x ∈ kds, ¬ x.1 = k := fun x hx z => nd.1 (by rw [h, ← z]; exact List.mem_map.mpr ⟨x, hx, rfl⟩)
      have hno' : ∀ x ∈ kvs, ¬ x.1 = k := fun x hx z => nd.1 (by rw [h, ← z, ← e2]; exact List.mem_map.mpr ⟨x, hx, rfl⟩)
      have m1 : (kds.map fun kv => if kv.1 = k then (kv.1, d) else kv) = kds := by
        conv => rhs; rw [← List.map_id kds]
        exact List.map_congr_left fun x hx => by rw [if_neg (hno x hx)] <;> rfl
      have m2 : (kvs.map fun kv => if kv.1 = k then (kv.1, v) else kv) = kvs := by
        conv => rhs; rw [← List.map_id kvs]
        exact List.map_congr_left fun x hx => by rw [if_neg (hno' x hx)] <;> rfl
      simp only [List.map_cons]
      rw [m1, m2, if_pos h, if_pos (e1.trans h)]
      exact ⟨G ++ F2, .cons q rs, (fun b h => (List.mem_append.mp h).elim .inr fun h => .inl (List.mem_append_right _ h)), fun n => by
        rw [List.append_assoc] at n
        exact (List.perm_append_comm.nodup_iff).mp (List.nodup_append.mp n).2.1⟩
    · obtain ⟨F', h1, h2, h3⟩ := put_map (k := k) q nd.2 e2 rs
      simp only [List.map_cons]
      rw [if_neg h, if_neg (fun z => h (e1.symm.trans z))]
      refine ⟨F1 ++ F', .cons r h1, fun b h => ?_, fun n => ?_⟩
      · rcases List.mem_append.mp h with h | h
        · exact .inl (List.mem_append_left _ h)
        · exact (h2 b h).imp (List.mem_append_right _) id
      · rw [List.append_assoc] at n
        obtain ⟨n1, n2, n3⟩ := List.nodup_append.mp n
        exact List.nodup_append.mpr ⟨n1, h3 n2, fun x hx y hy e => n3 x hx y (List.mem_append.mpr (h2 y hy)) e⟩
theorem keys_map {κ β : Type} [DecidableEq κ] {k : κ} {x : β} (l : List (κ × β)) : (l.map fun kv => if kv.1 = k then (kv.1, x) else kv).map (·.1) = l.map (·.1) := by
  rw [List.map_map]
  exact List.map_congr_left fun p _ => by show (if p.1 = k then (p.1, x) else p).1 = p.1; split <;> rfl
/-- a dict's pairs, one put in -/
theorem put_rps {κ : Type} [DecidableEq κ] {k : κ} {kvs : List (κ × V)} {kds : List (κ × D)} (q : Rp CT H v d G) (nd : (kds.map (·.1)).Nodup) (e : kvs.map (·.1) = kds.map (·.1)) (r : Rps CT H (kvs.map (·.2)) (kds.map (·.2)) F) :
    ∃ F', (putK kvs k v).map (·.1) = (putD kds k d).map (·.1) ∧ Rps CT H ((putK kvs k v).map (·.2)) ((putD kds k d).map (·.2)) F' ∧ (∀ b ∈ F', b ∈ F ∨ b ∈ G) ∧ ((F ++ G).Nodup → F'.Nodup) := by
  unfold putK putD
  rw [putD_any e]
  split
  · obtain ⟨F', h1, h2, h3⟩ := put_map (k := k) q nd e r
    exact ⟨F', by rw [keys_map, keys_map]; exact e, h1, h2, h3⟩
  · refine ⟨F ++ (G ++ []), by rw [List.map_append, List.map_append, e] <;> rfl, ?_, fun b h => ?_, fun n => ?_⟩
    · rw [List.map_append, List.map_append]
      exact r.append (.cons q .nil)
    · rw [List.append_nil] at h; exact List.mem_append.mp h
    · rw [List.append_nil]; exact n
theorem mono_setD {d e x : D} {Q Q' : D → Prop} (h : ∀ y, Q y → Q' y) (q : setD d e x Q) : setD d e x Q' := by
  cases d with
  | lst xs =>
    cases e with
    | int i =>
      revert q
      unfold setD
      dsimp only
      cases ixN xs.length i with
      | none => exact fun z => z
      | some j => exact h _
    | _ => exact q
  | dK kvs =>
    revert q
    unfold setD
    dsimp only
    cases e.key? with
    | none => exact fun z => z
    | some k => exact fun q => ⟨q.1, q.2.1, h _ q.2.2⟩
  | dT kvs =>
    revert q
    unfold setD
    dsimp only
    cases e.tkey? with
    | none => exact fun z => z
    | some k => exact fun q => ⟨q.1, q.2.1, h _ q.2.2⟩
  | _ => exact q
/-- the store by values: at the object itself -/
theorem set_run {e x : D} {w y : V} {P : List Addr} {k : D → Prop} {Qh : Hp → Prop} (r : Rp CT H v d F) (re : Rp CT H w e P) (rx : Rp CT H y x G) (ndF : F.Nodup) (dj : ∀ b ∈ G, b ∉ F) (ndG : G.Nodup) (q : setD d e x k)
    (fin : ∀ (a : Addr) (o u : HO) (d' : D) (F0 F' : List Addr), v = .ref a → H a = some o → Im o = false → F = a :: F0 → Rp CT (L2.upd H a u) (.ref a) d' (a :: F') → F'.Nodup → a ∉ F' → (∀ b ∈ F', b ∈ F0 ∨ b ∈ G) → k d' → Qh (L2.upd H a u)) : rSetU v w y H Qh := by
  have app : ∀ {F0 : List Addr} {a : Addr}, F = a :: F0 → (F0 ++ G).Nodup ∧ a ∉ F0 ∧ a ∉ G := fun {F0 a} eF => by
    rw [eF] at ndF dj
    have n1 := List.nodup_cons.mp ndF
    exact ⟨List.nodup_append.mpr ⟨n1.2, ndG, fun b hb c hc z => dj c hc (List.mem_cons_of_mem _ (z ▸ hb))⟩, n1.1, fun z => dj a z List.mem_cons_self⟩
  cases r with
  | lst ha ra =>
    cases re with
    | int i =>
      unfold setD at q
      dsimp only at q
      split at q
      · rename_i j hj
        obtain ⟨n1, n2, n3⟩ := app rfl
        obtain ⟨F', h1, h2, h3⟩ := ra.set j rx
        have nF : _ ∉ F' := fun z => (h2 _ z).elim n2 n3
        exact .inl ⟨_, _, i, j, rfl, rfl, ha, by rw [ra.length]; exact hj, fin _ _ _ _ _ F' rfl ha rfl rfl (.lst upd_same (h1.upd ha rfl nF)) (h3 n1) nF h2 q⟩
      · exact q.elim
    | _ => exact (show False from q).elim
  | dK ha hk ra =>
    unfold setD at q
    dsimp only at q
    cases ek : e.key? with
    | none => rw [ek] at q; exact q.elim
    | some kk =>
      rw [ek] at q
      obtain ⟨l, nd, q⟩ := q
      obtain ⟨n1, n2, n3⟩ := app rfl
      obtain ⟨F', h0, h1, h2, h3⟩ := put_rps (k := kk) rx nd hk ra
      have nF : _ ∉ F' := fun z => (h2 _ z).elim n2 n3
      have le := congrArg List.length hk
      rw [List.length_map, List.length_map] at le
      exact .inr ⟨_, _, rfl, .inl ⟨_, kk, ha, re.key ek, by rw [le]; exact l, rfl⟩, fin _ _ _ _ _ F' rfl ha rfl rfl (.dK upd_same h0 (h1.upd ha rfl nF)) (h3 n1) nF h2 q⟩
  | dT ha hk ra =>
    unfold setD at q
    dsimp only at q
    cases ek : e.tkey? with
    | none => rw [ek] at q; exact q.elim
    | some kk =>
      rw [ek] at q
      obtain ⟨l, nd, q⟩ := q
      obtain ⟨n1, n2, n3⟩ := app rfl
      obtain ⟨F', h0, h1, h2, h3⟩ := put_rps (k := kk) rx nd hk ra
      have nF : _ ∉ F' := fun z => (h2 _ z).elim n2 n3
      obtain ⟨b, eb, hb⟩ := re.tkey ek
      have le := congrArg List.length hk
      rw [List.length_map, List.length_map] at le
      exact .inr ⟨_, _, rfl, .inr ⟨_, kk, b, ha, eb, hb, by rw [le]; exact l, rfl⟩, fin _ _ _ _ _ F' rfl ha rfl rfl (.dT upd_same h0 (h1.upd ha rfl nF)) (h3 n1) nF h2 q⟩
  | _ => exact (show False from q).elim
/-- xs[e] = value -/
def sPut (i : Nat) (me mv : X1) : XS := fun E env => mv env fun x => xVar i env fun d => me env fun e => setD d e x fun d' => E.nx (env.set i (some d'))
theorem sim_put {i : Nat} {B : Kd} {mv : X1} (g : Γ[i]? = some .o) (sv : Sim C Γ te .own mv) (s : Sim C Γ tb B n) : SimS C Γl Γ Γ (tAsg te (gSub (tVar i) tb rSetU)) (sPut i n mv) :=
  ⟨fun σ H env Fs D E I lk hh => sv.run σ H env Fs _ I (sv.mono env _ _ (fun x q y H1 G f dk rx kx => by
    have I1 := I.step f dk
    obtain ⟨v, d, h1, h2, h3⟩ := I1.val i _ g (.inl rfl)
    have q : xVar i env _ := q
    unfold xVar at q
    rw [h2] at q
    refine ⟨v, h1, s.run σ H1 env Fs _ I1 (s.mono env _ _ (fun e q w H2 P f2 dk2 re ke => ?_) q)⟩
    have f12 := f.trans f2
    have I2 := I1.step f2 dk2
    obtain ⟨v', d', h1', h2', h3'⟩ := I2.val i _ g (.inl rfl)
    rw [h1] at h1'; cases h1'
    rw [h2] at h2'; cases h2'
    refine set_run h3' re (rx.keep f2 kx.1.wq) (I.nd i g) (fun b hb z => I.tracked g (.inl rfl) b z (kx.2.2 b hb)) kx.2.1 q fun a o u d' F0 F' ev ha hi eF r nd na sub q => ?_
    subst ev
    exact lk.root I f12 dk2 g (G := G) h1 ha hi eF r nd na (fun b hb => (sub b hb).imp id fun z => kx.2.2 b z) q) hh),
   fun E E' env p q => sv.mono env _ _ (fun x q => mono_var env _ _ (fun d q => s.mono env _ _ (fun e q => mono_setD (fun y q => p.1 _ q) q) q) q) q⟩
end
end Pu

/-! file PuObj -/
set_option Elab.async false
set_option linter.all false
set_option maxRecDepth 100000
namespace Pu
open PySem PySem.Spec PyProof.Rows L2

section
variable {C : Cfg} {Γ Γ' Γn Γl Γo Γt Γe Γ1 Γ2 : List Mo} {σ σ' : L2.St} {H H' H1 H2 : Hp} {env env' : PEnv} {Fs Fs' Fs1 Fs2 : Nat → List Addr} {v : V} {vs : List V} {d : D} {ds : List D} {F G : List Addr} {ta tb tc te : TE} {A B : Kd} {m n mc : X1} {K : PySem.W.Frag} {CT : Nat → Addr} {S : Stat}

/-- what __init__ does: from the other arguments the fields of the new object -/
abbrev XI := List D → (List (Str × D) → Prop) → Prop
def SpI (S : Stat) (c : Nat) (mf : XI) : Sp := fun vs H Q _ => ∃ (C : Cfg) (ds : List D) (F : List Addr) (x dx : Addr) (ws : List V), C.toStat = S ∧ C.pin = [(0, .ref x)] ∧ vs = .ref x :: ws ∧ H x = some (.ins (S.CT c) dx []) ∧ Rps S.CT H ws ds F ∧ DiceOk C H ∧ NoQ C (x :: F) ∧ x ∉ F ∧
  mf ds (fun gs => ∀ H' G, Fr (fun a => Wq C a ∨ a = x) H H' → DiceOk C H' → Rp S.CT H' (.ref x) (.obj c gs) (x :: G) → (x :: G).Nodup → (∀ a ∈ G, H a = none) → Q .non H')
def xMake (c : Nat) (mf : XI) (r : XL) : X1 := fun env Q => r env fun ds => mf ds fun gs => Q (.obj c gs)
def MonoI (mf : XI) : Prop := ∀ ds Q Q', (∀ d, Q d → Q' d) → mf ds Q → mf ds Q'
/-- C(..) -/
theorem sim_make {c : Nat} {mf : XI} {t : TA} {r : XL} {Ad : Addr} (hC : C.toStat = S) (hA : S.CT c = Ad) (hm : MonoI mf) (s : SimL C Γ t A r) : Sim C Γ (tMake Ad (SpI S c mf) [] E0 t) .own (xMake c mf r) :=
  ⟨fun σ H env Fs Q I h => s.run σ H env Fs _ I (s.mono env _ _ (fun ds q vs H1 F f dk rr k x dx hx hd ne => by
    subst hC hA
    rw [List.append_nil]
    have hd2 : (upd H1 dx (.own x)) x = none := by rw [upd_ne (Ne.symm ne)]; exact hx
    have fn : Fr (Wq C) H1 (upd (upd H1 dx (.own x)) x (.ins (C.CT c) dx [])) := (Fr.new hd).trans (Fr.new hd2)
    have fn0 : Fr (fun _ => False) H1 (upd (upd H1 dx (.own x)) x (.ins (C.CT c) dx [])) := (Fr.new hd).trans (Fr.new hd2)
    have nx : x ∉ F := fun z => rr.tracked x z hx
    refine ⟨{ C with pin := [(0, .ref x)] }, ds, F, x, dx, vs, rfl, rfl, rfl, upd_same, rr.keep fn k.1.wq, dk.keep fn0, fun p e => ⟨fun z => ?_, fun z => ?_⟩, nx, hm ds _ _ (fun gs q H2 G f2 dk2 r2 nd fr => ?_) q⟩
    · rcases List.mem_cons.mp z with z | z
      · exact (dk p e).t1 (by rw [z]; exact hx)
      · exact (k.1 p e).1 z
    · rcases List.mem_cons.mp z with z | z
      · exact (dk p e).t2 (by rw [z]; exact hx)
      · exact (k.1 p e).2 z
    · have f02 : Fr (Wq C) H1 H2 := ⟨fun a o e n => f2.keep a o (fn.keep a o e n) (fun w => w.elim n fun z => by rw [z, hx] at e; cases e), fun a o e i => f2.im a o (fn.im a o e i) i, fun a e => fn.there a (f2.there a e)⟩
      have fr' : ∀ a ∈ x :: G, H1 a = none := fun a ha => by
        rcases List.mem_cons.mp ha with z | ha
        · rw [z]; exact hx
        · exact fn.there a (fr a ha)
      exact ⟨rfl, q (.ref x) H2 (x :: G) (f.trans f02) dk2 r2 ⟨NoQ.new dk fr', nd, fun a ha => f.there a (fr' a ha)⟩⟩) h),
   fun env Q Q' k q => s.mono env _ _ (fun ds q => hm ds _ _ (fun gs q => k _ q) q) q⟩

/-! ### fields stored -/
def putFD (f : Str) (x : D) : List (Str × D) → List (Str × D)
  | [] => [(f, x)]
  | (g, y) :: r => if g = f then (g, x) :: r else (g, y) :: putFD f x r
theorem putF_rps {f : Str} (q : Rp CT H v d G) : ∀ {fs : List (Str × V)} {gs : List (Str × D)} {F : List Addr}, fs.map (·.1) = gs.map (·.1) → Rps CT H (fs.map (·.2)) (gs.map (·.2)) F →
    ∃ F', (putF f v fs).map (·.1) = (putFD f d gs).map (·.1) ∧ Rps CT H ((putF f v fs).map (·.2)) ((putFD f d gs).map (·.2)) F' ∧ (∀ b ∈ F', b ∈ F ∨ b ∈ G) ∧ ((F ++ G).Nodup → F'.Nodup)
  | [], [], _, _, .nil => ⟨G ++ [], rfl, .cons q .nil, (fun b h => by rw [List.append_nil] at h; exact .inr h), fun n => by rw [List.append_nil]; exact n⟩
  | [], _ :: _, _, e, _ => by simp at e
  | _ :: _, [], _, e, _ => by simp at e
  | (a, p) :: fs, (b, w) :: gs, _, e, .cons (F := F1) (G := F2) r rs => by
    simp only [List.map_cons, List.cons.injEq] at e
    obtain ⟨e1, e2⟩ := e
    have e1 : a = b := e1
    subst e1
    by_cases h : a = f
    · unfold putF putFD
      rw [if_pos h, if_pos h]
      refine ⟨G ++ F2, by simp [e2], .cons q rs, (fun b h => (List.mem_append.mp h).elim .inr fun h => .inl (List.mem_append_right _ h)), fun n => ?_⟩
      rw [List.append_assoc] at n
      exact (List.perm_append_comm.nodup_iff).mp (List.nodup_append.mp n).2.1
    · obtain ⟨F', h0, h1, h2, h3⟩ := putF_rps q e2 rs
      unfold putF putFD
      rw [if_neg h, if_neg h]
      refine ⟨F1 ++ F', by simp [h0], .cons r h1, fun b h => ?_, fun n => ?_⟩
      · rcases List.mem_append.mp h with h | h
        · exact .inl (List.mem_append_left _ h)
        · exact (h2 b h).imp (List.mem_append_right _) id
      · rw [List.append_assoc] at n
        obtain ⟨n1, n2, n3⟩ := List.nodup_append.mp n
        exact List.nodup_append.mpr ⟨n1, h3 n2, fun x hx y hy e => n3 x hx y (List.mem_append.mpr (h2 y hy)) e⟩
def onO (c0 : Nat) (d : D) (k : List (Str × D) → Prop) : Prop := match d with
  | .obj c gs => c = c0 ∧ gs.length < 1000 ∧ k gs
  | _ => False
theorem onO_mono {c0 : Nat} {k k' : List (Str × D) → Prop} (h : ∀ ds, k ds → k' ds) (q : onO c0 d k) : onO c0 d k' := by cases d <;> first | exact ⟨q.1, q.2.1, h _ q.2.2⟩ | exact q
def sSetF (i c0 : Nat) (f : Str) (m : X1) : XS := fun E env => m env fun x => xVar i env fun d => onO c0 d fun gs => E.nx (env.set i (some (.obj c0 (putFD f x gs))))
theorem sim_sfld {i c0 : Nat} {f : Str} (g : Γ[i]? = some .o) (hc : Cls K (C.CT c0)) (hn : NoAttr K (C.CT c0) f) (s : Sim C Γ te .own m) : SimS C Γl Γ Γ (sFld K (tVar i) te f) (sSetF i c0 f m) :=
  ⟨fun σ H env Fs D E I lk hh => s.run σ H env Fs _ I (s.mono env _ _ (fun x q y H1 G f1 dk rx kx => by
    have I1 := I.step f1 dk
    obtain ⟨v, d, h1, h2, h3⟩ := I1.val i _ g (.inl rfl)
    have q : xVar i env _ := q
    unfold xVar at q
    rw [h2] at q
    have ndF := I.nd i g
    have dj : ∀ b ∈ G, b ∉ Fs i := fun b hb z => I.tracked g (.inl rfl) b z (kx.2.2 b hb)
    refine ⟨v, h1, ?_⟩
    generalize eF : Fs i = F at *
    cases h3 with
    | @obj a dx c fs gs F0 ha hk ra =>
      obtain ⟨rfl, lg, q⟩ := q
      obtain ⟨F', h0, h4, h5, h6⟩ := putF_rps (f := f) rx hk ra
      have n1 := List.nodup_cons.mp ndF
      have na : a ∉ F' := fun z => (h5 a z).elim n1.1 fun w => dj a w List.mem_cons_self
      have le := congrArg List.length hk
      rw [List.length_map, List.length_map] at le
      refine ⟨a, _, dx, fs, rfl, ha, hc, hn, by rw [le]; exact lg, lk.root I f1 dk g (G := G) h1 ha rfl eF (.obj upd_same h0 (h4.upd ha rfl na)) (h6 (List.nodup_append.mpr ⟨n1.2, kx.2.1, fun b hb c hc z => dj c hc (List.mem_cons_of_mem _ (z ▸ hb))⟩)) na (fun b hb => (h5 b hb).imp id fun z => kx.2.2 b z) q⟩
    | _ => exact (show False from q).elim) hh),
   fun E E' env p q => s.mono env _ _ (fun x q => mono_var env _ _ (fun d q => onO_mono (fun gs q => p.1 _ q) q) q) q⟩

/-! ### a def that is called with a new object first: __init__ -/
def fnI (N c : Nat) (body : XS) : XI := fun ds Q => body { nx := fun env => xVar 0 env fun d => onO c d Q, rt := fun _ => False } (env0 N (.obj c [] :: ds))
theorem monoI_fn {N c : Nat} {body : XS} (h : ∀ E E' env, PLe E E' → body E env → body E' env) : MonoI (fnI N c body) := fun ds Q Q' k q =>
  h { nx := fun env => xVar 0 env fun d => onO c d Q, rt := fun _ => False } _ _ ⟨fun env z => mono_var env _ _ (fun d q => onO_mono k q) z, fun _ z => z, fun _ z => z, fun _ z => z⟩ q
def GamI (N k : Nat) : List Mo := .o :: (List.replicate k .f ++ List.replicate (N - (k + 1)) .x)
theorem gamI_at {N k i : Nat} {mo : Mo} (h : (GamI N k)[i]? = some mo) : (i = 0 ∧ mo = .o) ∨ (∃ j, i = j + 1 ∧ j < k ∧ mo = .f) ∨ (i ≠ 0 ∧ mo = .x) := by
  cases i with
  | zero => simp [GamI] at h; exact .inl ⟨rfl, h.symm⟩
  | succ j =>
    simp only [GamI, List.getElem?_cons_succ] at h
    by_cases hj : j < k
    · rw [List.getElem?_append_left (by simpa using hj), List.getElem?_replicate, if_pos hj] at h
      cases h
      exact .inr (.inl ⟨j, rfl, hj, rfl⟩)
    · rw [List.getElem?_append_right (by simpa using hj), List.getElem?_replicate] at h
      split at h <;> cases h
      exact .inr (.inr ⟨by simp, rfl⟩)
theorem rps_at : ∀ {vs : List V} {ds : List D} {F : List Addr}, Rps CT H vs ds F → ∃ L : Nat → List Addr, ∀ i : Nat, i < ds.length → ∃ v d, vs[i]? = some v ∧ ds[i]? = some d ∧ Rp CT H v d (L i) ∧ (L i).Sublist F
  | _, _, _, .nil => ⟨fun _ => [], fun i h => by simp at h⟩
  | _, _, _, .cons (F := F) (G := G) r rs => by
    obtain ⟨L, h⟩ := rps_at rs
    refine ⟨fun i => if i = 0 then F else L (i - 1), fun i hi => ?_⟩
    cases i with
    | zero => exact ⟨_, _, rfl, rfl, by simpa using r, by simpa using List.sublist_append_left _ _⟩
    | succ i =>
      obtain ⟨v, d, h1, h2, h3, h4⟩ := h i (by simpa using hi)
      exact ⟨v, d, by simpa using h1, by simpa using h2, by simpa using h3, by simpa using h4.trans (List.sublist_append_right _ _)⟩
/-- __init__ with n arguments -/
def fnI0 (n N c : Nat) (body : XS) : XI := fun ds Q => ds.length = n ∧ fnI N c body ds Q
theorem monoI_fn0 {n N c : Nat} {body : XS} (h : ∀ E E' env, PLe E E' → body E env → body E' env) : MonoI (fnI0 n N c body) := fun ds Q Q' k q => ⟨q.1, monoI_fn h ds Q Q' k q.2⟩
theorem init_body {N : List Str} {c n : Nat} {body : XS} {Γe : List Mo} {t : TS} {Q : VK} {E : XK} (hN : n + 1 ≤ N.length) (he : Γe[0]? = some .o) (hs : ∀ q v, SimS ⟨S, q, [(0, v)]⟩ [] (GamI N.length n) Γe t body)
    (hsp : SpI S c (fnI0 n N.length c body) vs H Q E) : t { nx := fun _ H' => Q .non H', rt := Q } (L2.start N vs) H := by
  · obtain ⟨C, ds, F, x, dx, ws, hC, hpn, e, hx, r, dk, nq, nx, ld, q⟩ := hsp
    subst hC e
    obtain ⟨L, hL⟩ := rps_at r
    have lw := r.length
    have I : Ok C (GamI N.length n) (L2.start N (.ref x :: ws)) H (env0 N.length (.obj c [] :: ds)) (fun i => if i = 0 then [x] else L (i - 1)) := by
      refine ⟨?_, ?_, fun i m g l => ?_, fun i g => ?_, fun i g => ?_, fun i j m g g' l ne a ha hb => ?_, fun i m g l => ?_, dk, fun p hp' => ?_⟩
      · unfold env0 GamI; simp [ld]
      · unfold L2.start GamI; simp [lw, ld]
      · rcases gamI_at g with ⟨rfl, _⟩ | ⟨j, rfl, hj, _⟩ | ⟨_, z⟩
        · exact ⟨.ref x, .obj c [], rfl, rfl, by simpa using Rp.obj (gs := []) hx rfl .nil⟩
        · obtain ⟨v, d, h1, h2, h3, h4⟩ := hL j (by omega)
          refine ⟨v, d, ?_, ?_, by simpa using h3⟩
          · unfold L2.start
            have hi := (List.getElem?_eq_some_iff.mp h1).1
            simp only [List.map_cons, List.cons_append, List.getElem?_cons_succ]
            rw [List.getElem?_append_left (by simpa using hi), List.getElem?_map, h1] <;> rfl
          · unfold env0
            have hi := (List.getElem?_eq_some_iff.mp h2).1
            simp only [List.map_cons, List.cons_append, List.getElem?_cons_succ]
            rw [List.getElem?_append_left (by simpa using hi), List.getElem?_map, h2] <;> rfl
        · rcases l with e | e <;> rw [z] at e <;> cases e
      · rcases gamI_at g with ⟨_, z⟩ | ⟨_, _, _, z⟩ | ⟨_, z⟩ <;> cases z
      · rcases gamI_at g with ⟨rfl, _⟩ | ⟨_, _, _, z⟩ | ⟨_, z⟩
        · simp
        · cases z
        · cases z
      · rcases gamI_at g with ⟨rfl, _⟩ | ⟨_, _, _, z⟩ | ⟨_, z⟩
        · rcases gamI_at g' with ⟨rfl, _⟩ | ⟨k, rfl, hk, _⟩ | ⟨_, z⟩
          · exact ne rfl
          · obtain ⟨v, d, h1, h2, h3, h4⟩ := hL k (by omega)
            simp at ha hb
            subst ha
            exact nx (h4.mem hb)
          · rcases l with e | e <;> rw [z] at e <;> cases e
        · cases z
        · cases z
      · rcases gamI_at g with ⟨rfl, _⟩ | ⟨j, rfl, hj, _⟩ | ⟨_, z⟩
        · simpa using nq.sub (by simpa using (List.singleton_sublist.mpr List.mem_cons_self : [x].Sublist (x :: F)))
        · obtain ⟨v, d, h1, h2, h3, h4⟩ := hL j (by omega)
          simpa using nq.sub (h4.trans (List.sublist_cons_self _ _))
        · rcases l with e | e <;> rw [z] at e <;> cases e
      · rw [hpn] at hp'
        rw [List.mem_singleton.mp hp']
        rfl
    have own0 : ∀ (i : Nat) (a : Addr), (GamI N.length n)[i]? = some .o → a ∈ (if i = 0 then [x] else L (i - 1)) → a = x := fun i a g ha => by
      rcases gamI_at g with ⟨rfl, _⟩ | ⟨_, _, _, z⟩ | ⟨_, z⟩
      · simpa using ha
      · cases z
      · cases z
    refine (show SimS C [] (GamI N.length n) Γe t body by obtain ⟨st, q0, pin⟩ := C; cases hpn; exact hs q0 _).run _ H _ _ _ { nx := fun env => xVar 0 env fun d => onO c d _, rt := fun _ => False } I ⟨fun σ' H' env' Fs' I' g q => ?_, fun _ _ _ _ _ _ q => q, fun _ _ _ _ _ _ q => q, fun _ _ _ _ _ _ _ _ _ _ q => q.elim⟩ q
    obtain ⟨v, d, h1, h2, h3⟩ := I'.val 0 _ he (.inl rfl)
    have hv : v = .ref x := by
      have := I'.pn (0, .ref x) (by rw [hpn]; simp)
      rw [h1] at this
      exact Option.some.inj (Option.some.inj this)
    subst hv
    have q : xVar 0 env' _ := q
    unfold xVar at q
    rw [h2] at q
    have nd := I'.nd 0 he
    have gr := g.gr 0 he
    generalize Fs' 0 = F2 at *
    cases h3 with
    | obj ha hk ra =>
      obtain ⟨rfl, _, q⟩ := q
      refine q H' _ (g.fr.mono fun a w => ?_) I'.dk (.obj ha hk ra) nd fun a ham => ?_
      · rcases w with w | ⟨i, gi, hm⟩
        · exact .inl w
        · exact .inr (own0 i a gi hm)
      · rcases gr a (List.mem_cons_of_mem _ ham) with ⟨j, gj, hm⟩ | z
        · have := own0 j a gj hm
          subst this
          exact absurd ham (List.nodup_cons.mp nd).1
        · exact z
    | _ => exact (show False from q).elim
end
end Pu

/-! file PuGen -/
set_option Elab.async false
set_option linter.all false
set_option maxRecDepth 100000
namespace Pu
open PySem PySem.Spec PyProof.Rows L2

/-! ### room, in short -/
theorem rm1 {k : Nat} {A : Around} (hr : Room k A) : A.units + 1 < cLine := by have := hr.un; omega
theorem rm64 {k : Nat} {A : Around} (hr : Room k A) : A.units + 64 < cLine := by have := hr.un; omega
theorem rm65 {k : Nat} {A : Around} (hr : Room k A) : A.units + 65 < cLine := by have := hr.un; omega

/-! ### monotone terms, found by instances -/
class MX {α : Type} (m : PEnv → (α → Prop) → Prop) : Prop where
  mono : Mono m
class MO1 (o : O1) : Prop where
  mono : Mono1 o
class MO2 (o : O2) : Prop where
  mono : Mono2 o
class MG {β : Type} (b : β → PEnv → (PEnv → Prop) → Prop) : Prop where
  mono : ∀ d env Q Q', (∀ e, Q e → Q' e) → b d env Q → b d env Q'
class MS (m : XS) : Prop where
  mono : ∀ {E E' : PEnds} {env : PEnv}, PLe E E' → m E env → m E' env
class MF (mf : XF) : Prop where
  mono : MonoF mf
class MI (mf : XI) : Prop where
  mono : MonoI mf
theorem MS.all {m : XS} [h : MS m] : ∀ E E' env, PLe E E' → m E env → m E' env := fun _ _ _ p q => h.mono p q
section
variable {m n : X1} {a b : XB} {r : XL} {o o' : O2} {p : O1} {s t : XS} {g : XG} {gs : XGs}
instance {i : Nat} : MX (xVar i) := ⟨mono_var⟩
instance {d : D} : MX (xC d) := ⟨mono_c⟩
instance [h : MX m] : MX (xImm m) := ⟨fun env _ _ k q => h.mono env _ _ (fun _ ⟨e, q⟩ => ⟨e, k _ q⟩) q⟩
instance : MX xNil := ⟨mono_nil⟩
instance [h : MX m] [h' : MX r] : MX (xCons m r) := ⟨mono_cons h.mono h'.mono⟩
instance [h : MX r] : MX (xDice r) := ⟨fun env _ _ k q => h.mono env _ _ (fun _ q => k _ q) q⟩
instance [h : MX r] : MX (xTup r) := ⟨fun env _ _ k q => h.mono env _ _ (fun _ q => ⟨q.1, k _ q.2⟩) q⟩
instance [h : MX r] : MX (xLst r) := ⟨fun env _ _ k q => h.mono env _ _ (fun _ q => ⟨q.1, k _ q.2⟩) q⟩
instance [h : MO1 p] [h' : MX m] : MX (x1 p m) := ⟨mono_x1 h.mono h'.mono⟩
instance [h : MO2 o] [h' : MX m] [h'' : MX n] : MX (x2 o m n) := ⟨mono_x2 h.mono h'.mono h''.mono⟩
instance {mf : XF} [h : MF mf] [h' : MX r] : MX (xCall mf r) := ⟨fun env _ _ k q => h'.mono env _ _ (fun ds q => h.mono ds _ _ k q) q⟩
instance {c : Nat} {mf : XI} [h : MI mf] [h' : MX r] : MX (xMake c mf r) := ⟨fun env _ _ k q => h'.mono env _ _ (fun ds q => h.mono ds _ _ (fun _ q => k _ q) q) q⟩
instance [h : MX m] : MX (bTest m) := ⟨mono_bTest h.mono⟩
instance [h : MX a] [h' : MX b] : MX (bAnd a b) := ⟨fun env _ _ k q => h.mono env _ _ (fun c q => by
    cases c with
    | true => exact h'.mono env _ _ k q
    | false => exact k _ q) q⟩
instance [h : MX a] [h' : MX b] : MX (bOr a b) := ⟨fun env _ _ k q => h.mono env _ _ (fun c q => by
    cases c with
    | false => exact h'.mono env _ _ k q
    | true => exact k _ q) q⟩
instance [h : MX a] : MX (bNot a) := ⟨fun env _ _ k q => h.mono env _ _ (fun c q => k _ q) q⟩
instance : MX bYes := ⟨fun _ _ _ k q => k _ q⟩
instance [h : MX m] [h' : MX n] : MX (xAnd m n) := ⟨fun env _ _ k q => h.mono env _ _ (fun d q => by
    cases d <;> first | exact q | skip
    rename_i c
    cases c with
    | true => exact h'.mono env _ _ k q
    | false => exact k _ q) q⟩
instance [h : MX m] [h' : MX n] : MX (xOr m n) := ⟨fun env _ _ k q => h.mono env _ _ (fun d q => by
    cases d <;> first | exact q | skip
    rename_i c
    cases c with
    | false => exact h'.mono env _ _ k q
    | true => exact k _ q) q⟩
instance [h : MX m] : MX (xNot m) := ⟨fun env _ _ k q => h.mono env _ _ (fun d q => by cases d <;> first | exact q | exact k _ q) q⟩
instance [h : MX a] [h' : MX m] [h'' : MX n] : MX (xIf a m n) := ⟨fun env _ _ k q => h.mono env _ _ (fun c q => by
    cases c with
    | true => exact h'.mono env _ _ k q
    | false => exact h''.mono env _ _ k q) q⟩
instance {c : X1} [h : MO2 o] [h0 : MO2 o'] [h1 : MX m] [h2 : MX n] [h3 : MX c] : MX (xChain o o' m n c) := ⟨fun env _ _ k q => h1.mono env _ _ (fun x q => h2.mono env _ _ (fun y q => h.mono x y _ _ (fun z q => by
    cases z <;> first | exact q | skip
    rename_i c
    cases c with
    | true => exact h3.mono env _ _ (fun w q => h0.mono y w _ _ k q) q
    | false => exact k _ q) q) q) q⟩
instance : MX pNo := ⟨fun _ _ _ k q => k _ q⟩
instance [h : MX m] : MX (pYes m) := ⟨fun env _ _ k q => h.mono env _ _ (fun d q => by cases d <;> first | exact k _ q | exact q) q⟩
instance {l u : PEnv → (Option Int → Prop) → Prop} [h : MX m] [h1 : MX l] [h2 : MX u] : MX (xSl m l u) := ⟨fun env _ _ k q => h.mono env _ _ (fun d q => h1.mono env _ _ (fun lo q => h2.mono env _ _ (fun hi q => by cases d <;> first | exact ⟨q.1, k _ q.2⟩ | exact q) q) q) q⟩
instance [h : MX m] : MX (xLRg1 m) := ⟨fun env _ _ k q => h.mono env _ _ (fun d q => by cases d <;> first | exact ⟨q.1, k _ q.2⟩ | exact q) q⟩
instance {mi : XL} {mt : XB} {me : X1} [h : MX mi] [h1 : MG g] [h2 : MX mt] [h3 : MX me] : MX (xLc mi g mt me) := ⟨fun env _ _ k q => h.mono env _ _ (fun ds q => mono_lcLoop h1.mono h2.mono h3.mono ds [] _ _ (fun _ q => k _ q) q) q⟩
instance [h : MX m] : MX (mSeq m) := ⟨fun env _ _ k q => h.mono env _ _ (fun d q => by cases d <;> first | exact k _ q | exact q) q⟩
instance [h : MX m] : MX (mRng1 m) := ⟨fun env _ _ k q => h.mono env _ _ (fun d q => by cases d <;> first | exact ⟨q.1, k _ q.2⟩ | exact q) q⟩
instance [h : MX m] [h' : MX n] : MX (mRng2 m n) := ⟨fun env _ _ k q => h.mono env _ _ (fun d q => h'.mono env _ _ (fun e q => by cases d <;> cases e <;> first | exact ⟨q.1, q.2.1, k _ q.2.2⟩ | exact q) q) q⟩
instance [h : MX m] : MX (mEnm m) := ⟨fun env _ _ k q => h.mono env _ _ (fun d q => by cases d <;> first | exact k _ q | exact q) q⟩
instance {i : Nat} : MG (bName i) := ⟨fun _ _ _ _ k q => k _ q⟩
instance : MG bNil := ⟨fun d _ _ _ k q => by cases d <;> first | exact k _ q | exact q⟩
instance [h : MG g] [h' : MG gs] : MG (bCons g gs) := ⟨fun d _ _ _ k q => by
  cases d with
  | nil => exact q
  | cons d ds => exact h.mono _ _ _ _ (fun e q => h'.mono _ _ _ _ k q) q⟩
instance {n : Nat} [h : MG gs] : MG (bTup n gs) := ⟨fun d _ _ _ k q => by cases d <;> first | exact ⟨q.1, h.mono _ _ _ _ k q.2⟩ | exact q⟩
instance : MO2 oAdd := ⟨mono_oAdd⟩
instance {f : Int → Int → D} : MO2 (oI f) := ⟨mono_oI⟩
instance {c : Int → Int → Prop} {f : Int → Int → D} : MO2 (oIc c f) := ⟨mono_oIc⟩
instance : MO2 oEq := ⟨fun _ _ _ _ k q => ⟨q.1, q.2.1, k _ q.2.2⟩⟩
instance : MO2 oNe := ⟨fun _ _ _ _ k q => ⟨q.1, q.2.1, k _ q.2.2⟩⟩
instance : MO2 oIsN := ⟨fun _ _ _ _ k q => ⟨q.1, k _ q.2⟩⟩
instance : MO2 oNotN := ⟨fun _ _ _ _ k q => ⟨q.1, k _ q.2⟩⟩
instance {b : Bool} : MO2 (oIsB b) := ⟨fun d e _ _ k q => by cases d <;> cases e <;> first | exact k _ q | exact q⟩
instance : MO2 oIx := ⟨mono_oIx⟩
instance {b : Bool} : MO2 (oIn b) := ⟨mono_oIn⟩
instance : MO1 oNeg := ⟨(so_neg (CT := fun _ => 0)).mono⟩
instance : MO1 oLen := ⟨(sc_len (CT := fun _ => 0) (K := default)).mono⟩
end
end Pu

/-! file PuGen2 -/
set_option Elab.async false
set_option linter.all false
set_option maxRecDepth 100000
namespace Pu
open PySem PySem.Spec PyProof.Rows L2
section
variable {C : Cfg} {Γ Γ' Γn Γl Γo Γt Γe Γ1 Γ2 : List Mo} {σ σ' : L2.St} {H H' H1 H2 : Hp} {env env' : PEnv} {Fs Fs' Fs1 Fs2 : Nat → List Addr} {v : V} {vs : List V} {d : D} {ds : List D} {F G : List Addr} {ta tb tc te : TE} {A B : Kd} {m n mc : X1} {K : PySem.W.Frag} {CT : Nat → Addr} {S : Stat}
theorem sim_any {t : TS} {a : XS} (s : SimS C Γl Γ Γ2 t a) : SimS C Γl Γ Γ2 t a := s
/-- a, b = e -/
def sAsgG (b : XG) (m : X1) : XS := fun E env => m env fun d => b d env E.nx
theorem sim_asgG {g : TG} {b : XG} {ks : List Nat} (hw : wk Γ Γ1 = true) (s : Sim C Γ te .own m) (sg : SimG C Γ1 Γ2 ks g b) : SimS C Γl Γ Γ2 (tAsg te g) (sAsgG b m) :=
  ⟨fun σ H env Fs D E I l h => s.run σ H env Fs _ I (s.mono env _ _ (fun d q v H1 F f dk r k => sg.run σ H1 env Fs v d F _ ((I.step f dk).weak hw) r k.1 (fun a ha j g hb => I.tracked (wk_o hw g) (.inl rfl) a hb (k.2.2 a ha))
      (sg.mono _ _ _ _ (fun env' q σ' Fs' I' o' f' _ _ => l.nx σ' H1 env' Fs' I' ⟨f.mono fun _ w => .inl w, fun j gj a ha => .inl ⟨j, wk_o hw ((o' j).mp gj), by rw [f' j ((o' j).mp gj)] at ha; exact ha⟩⟩ q) q)) h),
   fun E E' env p h => s.mono env _ _ (fun d q => sg.mono _ _ _ _ p.1 q) h⟩
theorem init_ok0 {P : Program} {w : World} {mg : Str → Option Value} {base : Heap} {x qual : Str} {st : Stmt} {f : Addr} {fd : FuncData} {N ps : List Str} {k c n : Nat} {body : XS} {Γe : List Mo}
    (Fn : L2.Fun K x qual st f fd) (Sc : FnScope N ps (defScope st)) (hp : n + 1 = ps.length) (hN : n + 1 ≤ N.length) (he : Γe[0]? = some .o)
    (hbody : ∀ (cdv : Value) (A : Around) (outer : List Env) (s : Shared) (H : Hp) (E : XK), Room k (A.deeper (envOfC qual (defScope st) s.heap.objs.size f cdv)) →
      ∃ t, PSs (cxOf CX0 P w K mg base N qual (defScope st) f cdv A outer s H E).nox (defBody st) t ∧ ∀ q v, SimS ⟨S, q, [(0, v)]⟩ [] (GamI N.length n) Γe t body) :
    FnOk P w K mg base CX0 (k + 1) f fd ps (SpI S c (fnI0 n N.length c body)) := by
  refine Fn.ok Sc (fun vs H Q E ⟨C, ds, F, x, dx, ws, _, _, e, _, r, _, _, _, q⟩ => ?_) (fun cdv A outer s H vs Q E hr hsp => ?_)
  · rw [e, List.length_cons, r.length, q.1, hp]
  · obtain ⟨t, ht, hs⟩ := hbody cdv A outer s H E hr
    exact ⟨t, ht, init_body hN he hs hsp⟩
/-- + of any kinds, in place -/
def ipAddU : TIp := fun x y H Q => (∃ i j, x = .int i ∧ y = .int j ∧ Q (.int (i + j)) H) ∨ ∃ i j, x = .str i ∧ y = .str j ∧ i.length + j.length ≤ sizeLine ∧ Q (.str (i ++ j)) H
theorem ip_addU {X : Cx} : PIp X .Add ipAddU := by
  intro pins s σ H x y v u Q I rx ry h
  rcases h with h | h
  · exact iop_add pins s σ H x y v u Q I rx ry h
  · exact iop_add_str pins s σ H x y v u Q I rx ry h
def oAdd1 : O2 := fun d e Q => match d, e with
  | .int i, .int j => Q (.int (i + j))
  | .str x, .str y => x.length + y.length ≤ sizeLine ∧ Q (.str (x ++ y))
  | _, _ => False
theorem so_add1 : SimO2 CT ipAddU oAdd1 := ⟨fun H v w d e F G Q a b q => by
  cases a with
  | int i => cases b <;> first | exact .inl ⟨_, _, rfl, rfl, New.imm q (.int _)⟩ | exact (show False from q).elim
  | str x => cases b <;> first | exact .inr ⟨_, _, rfl, rfl, q.1, New.imm q.2 (.str _)⟩ | exact (show False from q).elim
  | _ => exact (show False from q).elim, fun d e Q Q' k q => by cases d <;> cases e <;> first | exact k _ q | exact ⟨q.1, k _ q.2⟩ | exact q⟩
/-- xs[i] as it is got ahead of xs[i] += e -/
theorem get_list {X : Cx} : PGet X (rIxL X.K) := by
  intro pins s σ H o i ov iv Q I ro ri h
  obtain ⟨p, xs, k, z, rfl, rfl, hq, he, q⟩ := h
  cases ro
  obtain ⟨t, rfl⟩ := ri
  obtain ⟨its, r, pl, hz⟩ := I.list hq
  obtain ⟨j, h1, h2, h3, h4, h5⟩ := atI_get he
  obtain ⟨w, ew, rw'⟩ := r.get h2
  have hl := r.length
  have hn := line63
  have fin : EP X pins σ Q w s := ⟨z, H, I, rw', q⟩
  by_cases h0 : 0 ≤ k
  · have hj : k.toNat = j := by
      rw [seqIndex_of h0 h5] at h1
      exact Option.some.inj h1
    exact wpAny_getItem_list pl.isList h0 (by omega) (by rw [hj]; simpa using ew) fin
  · have hj : (k + (its.toArray.size : Int)).toNat = j := by
      rw [seqIndex_neg (by omega) h4] at h1
      rw [List.size_toArray, ← hl]
      exact Option.some.inj h1
    exact wpAny_getItem_list_neg pl.isList (by omega) (by rw [List.size_toArray] <;> omega) (by omega) (by rw [hj]; simpa using ew) fin
def rGetU (K : PySem.W.Frag) : R2 := fun x y H Q => rIxL K x y H Q ∨ ∃ a v, x = .ref a ∧ DGet H a y (some v) ∧ Q v H
theorem get_U {X : Cx} (hu : X.A.units + 1 < cLine) : PGet X (rGetU X.K) := by
  intro pins s σ H o i ov iv Q I ro ri h
  rcases h with h | ⟨a, z, rfl, g, q⟩
  · exact get_list pins s σ H o i ov iv Q I ro ri h
  · obtain rfl : ov = Value.ref a := ro
    exact d_getItem hu I g ri fun w' s3 I3 rw' => ⟨z, H, I3, rw', q⟩
def oGet : O2 := fun d e Q => match d with
  | .lst _ => oIx d e Q
  | .dK _ => oIx d e Q
  | .dT _ => oIx d e Q
  | _ => False
theorem so_get : SimPart CT (rGetU K) oGet := ⟨fun H v w d e F G Q a b q => by
  cases a with
  | lst ha ra =>
    cases b with
    | int i =>
      obtain ⟨v', d', P, h1, h2, h3, h4⟩ := ra.atI q
      exact .inl ⟨_, _, _, _, rfl, rfl, SqL.of ha, h1, h2 v' P h3 (h4.trans (List.sublist_cons_self _ _))⟩
    | _ => exact (show False from q).elim
  | dK ha hk ra =>
    have q : oIx (.dK _) e _ := q
    unfold oIx at q
    dsimp only at q
    cases ek : e.key? with
    | none => rw [ek] at q; exact q.elim
    | some k =>
      rw [ek] at q
      rcases look_val k hk ra with ⟨g1, _⟩ | ⟨x, v, P, g1, g2, g3, g4⟩
      · simp only [g1] at q
      · simp only [g1] at q
        exact .inr ⟨_, v, rfl, .inl ⟨_, k, .inl ha, b.key ek, g2.symm⟩, q v P g3 (g4.trans (List.sublist_cons_self _ _))⟩
  | dT ha hk ra =>
    have q : oIx (.dT _) e _ := q
    unfold oIx at q
    dsimp only at q
    cases ek : e.tkey? with
    | none => rw [ek] at q; exact q.elim
    | some k =>
      rw [ek] at q
      obtain ⟨b', eb, hb⟩ := b.tkey ek
      rcases look_val k hk ra with ⟨g1, _⟩ | ⟨x, v, P, g1, g2, g3, g4⟩
      · simp only [g1] at q
      · simp only [g1] at q
        exact .inr ⟨_, v, rfl, .inr ⟨_, k, b', .inl ha, eb, hb, g2.symm⟩, q v P g3 (g4.trans (List.sublist_cons_self _ _))⟩
  | _ => exact (show False from q).elim, fun d e Q Q' k q => by
  cases d with
  | lst xs => exact mono_oIx (.lst xs) e Q Q' k q
  | dK xs => exact mono_oIx (.dK xs) e Q Q' k q
  | dT xs => exact mono_oIx (.dT xs) e Q Q' k q
  | _ => exact q⟩
/-- xs[e] += w -/
def sAugS (i : Nat) (me mv : X1) : XS := fun E env => xVar i env fun d => me env fun e => oGet d e fun old => mv env fun w => oAdd1 old w fun z => setD d e z fun d' => E.nx (env.set i (some d'))
theorem sim_augS {i : Nat} {mv : X1} (g : Γ[i]? = some .o) (s : Sim C Γ tb B n) (sv : Sim C Γ te A mv) : SimS C Γl Γ Γ (tAugS (tVar i) tb te (rGetU K) ipAddU rSetU) (sAugS i n mv) :=
  ⟨fun σ H env Fs D E I lk hh => by
    obtain ⟨v, d, h1, h2, h3⟩ := I.val i _ g (.inl rfl)
    have hh : xVar i env _ := hh
    unfold xVar at hh
    rw [h2] at hh
    refine ⟨v, h1, s.run σ H env Fs _ I (s.mono env _ _ (fun e q w H1 P f dk re ke => ?_) hh)⟩
    have I1 := I.step f dk
    have nqi := I.nq i _ g (.inl rfl)
    have h3' := h3.keep f nqi.wq
    refine so_get.run H1 v w d e (Fs i) P _ h3' re (so_get (CT := C.CT) (K := K).mono d e _ _ (fun old q z Pz rz sz => ?_) q)
    refine sv.run σ H1 env Fs _ I1 (sv.mono env _ _ (fun w2 q y H2 G2 f2 dk2 r2 k2 => ?_) q)
    have rz2 := rz.keep f2 (nqi.sub sz).wq
    refine so_add1.run H2 z y old w2 Pz G2 _ rz2 r2 ((so_add1 (CT := C.CT)).mono old w2 _ _ (fun x q u H3 F3 f3 r3 nd3 fr3 => ?_) q)
    have f13 : Fr (Wq C) H H3 := (f.trans f2).trans f3.wq
    have dk3 := dk2.keep f3
    have I3 := I.step f13 dk3
    obtain ⟨v', d', h1', h2', h4⟩ := I3.val i _ g (.inl rfl)
    rw [h1] at h1'; cases h1'
    rw [h2] at h2'; cases h2'
    have fr0 : ∀ b ∈ F3, H b = none := fun b hb => (f.trans f2).there b (fr3 b hb)
    refine set_run h4 ((re.keep f2 ke.1.wq).keep f3 fun _ _ z => z) r3 (I.nd i g) (fun b hb z => I.tracked g (.inl rfl) b z (fr0 b hb)) nd3 q fun a o u' d' F0 F' ev ha hi eF r nd na sub q => ?_
    subst ev
    exact lk.root I f13 dk3 g (G := F3) h1 ha hi eF r nd na (fun b hb => (sub b hb).imp id fun z => fr0 b z) q,
   fun E E' env p q => mono_var env _ _ (fun d q => s.mono env _ _ (fun e q => (so_get (CT := C.CT) (K := K)).mono d e _ _ (fun old q => sv.mono env _ _ (fun w q => (so_add1 (CT := C.CT)).mono old w _ _ (fun z q => mono_setD (fun y q => p.1 _ q) q) q) q) q) q) q⟩
end
end Pu

/-! file PuMono -/
set_option Elab.async false
set_option linter.all false
set_option maxRecDepth 100000
namespace Pu
open PySem PySem.Spec PyProof.Rows L2
section
variable {m n : X1} {a b : XB} {r : XL} {o o' : O2} {p : O1} {s t : XS} {g : XG} {gs : XGs}
instance : MO1 oList := ⟨(sc_list (CT := fun _ => 0) (K := default)).mono⟩
instance : MO1 oTup := ⟨(sc_tup (CT := fun _ => 0) (K := default)).mono⟩
instance : MO1 oSum := ⟨(sc_sum (CT := fun _ => 0) (K := default)).mono⟩
instance {x : Bool} : MO1 (oAny x) := ⟨mono_oAny⟩
instance {x : Bool} : MO1 (oMost x) := ⟨mono_oMost⟩
instance : MO1 oSortI := ⟨(sc_sortI (CT := fun _ => 0) (K := default)).mono⟩
instance : MO1 oAbs := ⟨(sc_abs (CT := fun _ => 0)).mono⟩
instance : MO1 oInt := ⟨(sc_int (CT := fun _ => 0)).mono⟩
instance {c : Nat} {f : Str} : MO1 (atF c f) := ⟨fun d Q Q' k q => by
    cases d with
    | obj c gs =>
      refine ⟨q.1, ?_⟩
      have q2 := q.2
      revert q2
      cases List.lookup f gs with
      | none => exact fun z => z
      | some x => exact k x
    | _ => exact q⟩
instance : MO2 oAdd1 := ⟨(so_add1 (CT := fun _ => 0)).mono⟩
instance : MO2 oGet := ⟨(so_get (CT := fun _ => 0) (K := default)).mono⟩
instance : MS sNext := ⟨fun p q => p.1 _ q⟩
instance [h : MS s] [h' : MS t] : MS (sSeq s t) := ⟨fun {E E' env} p q => h.mono (E := { E with nx := t E }) (E' := { E' with nx := t E' }) ⟨fun _ q => h'.mono p q, p.2.1, p.2.2.1, p.2.2.2⟩ q⟩
instance {i : Nat} [h : MX m] : MS (sSet i m) := ⟨fun p q => h.mono _ _ _ (fun _ q => p.1 _ q) q⟩
instance [h : MX a] [h1 : MS s] [h2 : MS t] : MS (sIf a s t) := ⟨fun p q => h.mono _ _ _ (fun k q => by
    cases k with
    | true => exact h1.mono p q
    | false => exact h2.mono p q) q⟩
instance [h : MX m] : MS (sRet m) := ⟨fun p q => h.mono _ _ _ p.2.1 q⟩
instance : MS sRetN := ⟨fun p q => p.2.1 _ q⟩
instance [h : MX m] : MS (sDrop m) := ⟨fun p q => h.mono _ _ _ (fun _ q => p.1 _ q) q⟩
instance : MS sNever := ⟨fun _ q => q⟩
instance : MS sBreak := ⟨fun p q => p.2.2.1 _ q⟩
instance : MS sCont := ⟨fun p q => p.2.2.2 _ q⟩
instance {mi : XL} [h : MX mi] [h1 : MG g] [h2 : MS s] : MS (sFor mi g s) := ⟨fun {E E' env} p q => h.mono _ _ _ (fun ds q => mono_sLoop h1.mono (MS.all (m := s)) ds E E' env p q) q⟩
instance [h : MX a] [h2 : MS s] : MS (sWhile a s) := ⟨fun {E E' env} p q => by
    obtain ⟨W, w0, hs⟩ := q
    refine ⟨W, w0, fun n env w => h.mono _ _ _ (fun k q => ?_) (hs n env w)⟩
    cases k with
    | true =>
      rw [if_pos rfl] at q ⊢
      exact h2.mono (E := { nx := fun env' => ∃ n', n' < n ∧ W n' env', rt := E.rt, bk := E.nx, ct := fun env' => ∃ n', n' < n ∧ W n' env' }) ⟨fun _ z => z, p.2.1, p.1, fun _ z => z⟩ q
    | false =>
      rw [if_neg Bool.false_ne_true] at q ⊢
      exact p.1 _ q⟩
instance {i : Nat} [h : MO2 o] [h' : MX m] : MS (sAug i o m) := ⟨fun p q => mono_var _ _ _ (fun d q => h'.mono _ _ _ (fun e q => h.mono d e _ _ (fun x q => p.1 _ q) q) q) q⟩
instance {i : Nat} [h' : MX m] : MS (sApp i m) := ⟨fun p q => mono_var _ _ _ (fun d q => onL_mono (fun ds q => h'.mono _ _ _ (fun e q => ⟨q.1, p.1 _ q.2⟩) q) q) q⟩
instance {i : Nat} [h : MX m] [h' : MX n] : MS (sPut i m n) := ⟨fun p q => h'.mono _ _ _ (fun x q => mono_var _ _ _ (fun d q => h.mono _ _ _ (fun e q => mono_setD (fun y q => p.1 _ q) q) q) q) q⟩
instance {i c : Nat} {f : Str} [h : MX m] : MS (sSetF i c f m) := ⟨fun p q => h.mono _ _ _ (fun x q => mono_var _ _ _ (fun d q => onO_mono (fun gs q => p.1 _ q) q) q) q⟩
instance [h : MX m] [h' : MG g] : MS (sAsgG g m) := ⟨fun p q => h.mono _ _ _ (fun d q => h'.mono _ _ _ _ p.1 q) q⟩
instance {i : Nat} [h : MX m] [h' : MX n] : MS (sAugS i m n) := ⟨fun p q => mono_var _ _ _ (fun d q => h.mono _ _ _ (fun e q => MO2.mono (o := oGet) d e _ _ (fun old q => h'.mono _ _ _ (fun w q => MO2.mono (o := oAdd1) old w _ _ (fun z q => mono_setD (fun y q => p.1 _ q) q) q) q) q) q) q⟩
end
end Pu

/-! file PuK -/
set_option Elab.async false
set_option linter.all false
set_option maxRecDepth 100000
namespace Pu
open PySem PySem.Spec PyProof.Rows L2
section
variable {X : Cx} {K : PySem.W.Frag}
theorem k_add (h : X.K = K) : OpR X (binaryOp .Add) (rAddU K) := h ▸ op_addU
theorem k_eq (h : X.K = K) (hu : X.A.units + 64 < cLine) : OpR X (compareOp .Eq) (rEqD K) := h ▸ op_eqD hu
theorem k_ne (h : X.K = K) (hu : X.A.units + 64 < cLine) : OpR X (compareOp .NotEq) (rNeD K) := h ▸ op_neD hu
theorem k_in (h : X.K = K) (hu : X.A.units + 65 < cLine) : OpR X (compareOp .In) (rInU K) := h ▸ op_inU hu
theorem k_notIn (h : X.K = K) (hu : X.A.units + 65 < cLine) : OpR X (compareOp .NotIn) (rNotInU K) := h ▸ op_notInU hu
theorem k_ix (h : X.K = K) (hu : X.A.units + 1 < cLine) : IxR X (rIxU K) := h ▸ ix_U hu
theorem k_sl (h : X.K = K) : SlR X (rSlU K) := h ▸ sl_U
theorem k_seq {tg l : Expr} {tl : TE} (h : X.K = K) (hl : PE X l tl) : PI X tg l (iSeq K tl) := h ▸ pi_seq hl
theorem k_fld {e : Expr} {f : Str} {pos : Pos} {ta : TE} (h : X.K = K) (he : PE X e ta) (hb : attributeBase e f X.env (eval e X.env) = eval e X.env) : PE X (.Attribute e f pos) (tFld K ta f) := h ▸ pe_fld he hb
theorem k_len (h : X.K = K) : CallR X (.builtin "len") (rLen K) := h ▸ call_len_seq
theorem k_list (h : X.K = K) : CallR X (.type "list") (rListO K) := h ▸ call_list_of
theorem k_tuple (h : X.K = K) : CallR X (.type "tuple") (rTupO K) := h ▸ call_tuple_of
theorem k_sum (h : X.K = K) (hc : X.calm = true) : CallR X (.builtin "sum") (rSum K) := h ▸ cr_sum hc
theorem k_any (h : X.K = K) (hc : X.calm = true) : CallR X (.builtin "any") (rAny K) := h ▸ cr_any hc
theorem k_all (h : X.K = K) (hc : X.calm = true) : CallR X (.builtin "all") (rAll K) := h ▸ cr_all hc
theorem k_max (h : X.K = K) (hc : X.calm = true) : CallR X (.builtin "max") (rMax K) := h ▸ cr_max hc
theorem k_min (h : X.K = K) (hc : X.calm = true) : CallR X (.builtin "min") (rMin K) := h ▸ cr_min hc
theorem k_sorted (h : X.K = K) : CallR X (.builtin "sorted") (rSortedI K) := h ▸ cr_sortedI
theorem k_get (h : X.K = K) (hu : X.A.units + 1 < cLine) : PGet X (rGetU K) := h ▸ get_U hu
theorem k_enum {e : Expr} {ta : TA} {p pos tpos : Pos} {elts : List Expr} {kk : Nat} (h : X.K = K) (hg : Gl X "enumerate") (hm : X.mg "enumerate" = none) (ha : PA X [e] ta) (hs : starEach [e] X.env = [(false, eval e X.env)] := by rfl) :
    PI X (.Tuple elts kk tpos) (.Call (.Name "enumerate" p) [e] [] pos) (iEnum K ta) := h ▸ pi_enum hg hm ha hs
end
end Pu

/-! file PuMore -/
set_option Elab.async false
set_option linter.all false
set_option maxRecDepth 100000
namespace Pu
open PySem PySem.Spec PyProof.Rows L2
section
variable {C : Cfg} {Γ Γ' Γn Γl Γo Γt Γe Γ1 Γ2 : List Mo} {σ σ' : L2.St} {H H' H1 H2 : Hp} {env env' : PEnv} {Fs Fs' Fs1 Fs2 : Nat → List Addr} {v : V} {vs : List V} {d : D} {ds : List D} {F G : List Addr} {ta tb tc te : TE} {A B : Kd} {m n mc : X1} {K : PySem.W.Frag} {CT : Nat → Addr} {S : Stat} {X : Cx}

/-! ### isinstance of a built-in class -/
def D.ty : D → Option String
  | .non => some "NoneType"
  | .bl _ => some "bool"
  | .int _ => some "int"
  | .str _ => some "str"
  | .tup _ => some "tuple"
  | .lst _ => some "list"
  | .dK _ => some "dict"
  | .dT _ => some "dict"
  | .obj _ _ => none
def subB (t c : String) : Bool := t == c || (t == "bool" && c == "int")
def oIsA (c : String) : O1 := fun d Q => match d.ty with
  | some t => Q (.bl (subB t c))
  | none => False
class KitB (c : String) : Prop where
  h : ∀ (K : PySem.W.Frag) (d : D) (t : String), d.ty = some t → PySem.W.kitOne K (.type t) (.type c) = some (subB t c)
instance : KitB "int" := ⟨fun K d t h => by cases d <;> simp [D.ty] at h <;> subst h <;> rfl⟩
instance : KitB "bool" := ⟨fun K d t h => by cases d <;> simp [D.ty] at h <;> subst h <;> rfl⟩
instance : KitB "str" := ⟨fun K d t h => by cases d <;> simp [D.ty] at h <;> subst h <;> rfl⟩
instance : KitB "tuple" := ⟨fun K d t h => by cases d <;> simp [D.ty] at h <;> subst h <;> rfl⟩
instance : KitB "list" := ⟨fun K d t h => by cases d <;> simp [D.ty] at h <;> subst h <;> rfl⟩
instance : KitB "dict" := ⟨fun K d t h => by cases d <;> simp [D.ty] at h <;> subst h <;> rfl⟩
theorem Rp.ty {t : String} (r : Rp CT H v d F) (h : d.ty = some t) : TyX K H v (.type t) := by
  cases r <;> simp [D.ty] at h <;> subst h
  · exact .base .non
  · exact .base (.bl _)
  · exact .base (.int _)
  · exact .base (.str _)
  · exact .base (.tup (by assumption))
  · exact .base (.lst (by assumption))
  · exact .base (.dK (by assumption))
  · exact .base (.dT (by assumption))
theorem k_isa (h : X.K = K) : CallR X (.builtin "isinstance") (rIsi K) := h ▸ call_isi
theorem mono_oIsA {c : String} : Mono1 (oIsA c) := fun d Q Q' k q => by cases d <;> first | exact k _ q | exact q
theorem sim_isa {c : String} [kc : KitB c] (s : Sim C Γ te A m) : Sim C Γ (tCB (rIsi K) (tCons te (tCons (tC (.ty c)) tNil))) .own (x1 (oIsA c) m) :=
  ⟨fun σ H env Fs Q I h => s.run σ H env Fs _ I (s.mono env _ _ (fun d q v H1 F f dk r k => by
    cases e : d.ty with
    | none => unfold oIsA at q; rw [e] at q; exact q.elim
    | some t =>
      unfold oIsA at q; rw [e] at q
      exact ⟨v, .ty c, .type t, .type c, subB t c, rfl, .ty c, r.ty e, kc.h K d t e, q _ H1 [] f dk (.bl _) KdOk.own_nil⟩) h), mono_x1 mono_oIsA s.mono⟩
instance {c : String} : MO1 (oIsA c) := ⟨mono_oIsA⟩

/-! ### {k: v}, k a tuple -/
def tDispT (tk tv : TE) : TE := fun σ H Q => ∀ p, H p = none → tk σ (upd H p (.dT [])) fun x H1 => tv σ H1 fun y H2 => ∃ k b, x = .ref b ∧ H2 b = some (.tup (k.map kV)) ∧ H2 p = some (.dT []) ∧ Q (.ref p) (upd H2 p (.dT [(k, y)]))
theorem pe_dispT {k v : Expr} {pos : Pos} {tk tv : TE} (hu : X.A.units + 1 < cLine) (hk : PE X k tk) (hv : PE X v tv) : PE X (.Dict [some k] [v] pos) (tDispT tk tv) := by
  refine ⟨fun pins s σ H Q I q => ?_⟩
  have hn := I.hok.fresh (Nat.le_refl s.heap.objs.size)
  have I1 := I.laid (a := s.heap.objs.size) (o := .dT []) (h' := s.heap.push { cls := .type "dict", data := .dict #[] }) (t' := s.toks) (fun _ _ q => Heap.get?_push_of_some _ q) (Nat.le_refl _) (dt_empty s.heap I.big)
  refine wpAny_Dict_any rfl rfl (by simp) (by show 1 ≤ 15; decide) ?_
  refine pairTrees_cons_walk (thn (hk.run pins _ σ _ _ I1 (q _ hn)) fun u s1 ⟨x, H1, I1, rx, q1⟩ => thn (hv.run pins s1 σ H1 _ I1 q1) fun w2 s2 ⟨y, H2, I2, ry, kk, b, ex, hb, hp, q2⟩ => pairTrees_nil_walk ?_)
  subst ex
  cases rx
  obtain ⟨z, hd, xs, rel, dd⟩ := dt_of I2.hok hp
  cases rel
  show wpAny (model X.prog X.w) X.A (storeAll s.heap.objs.size [(Value.ref b, w2)]) _ _ s2
  unfold storeAll
  refine wpAny_storeAllH (knd := tupleKind (mixKind X.prog X.w)) (show X.A.units < cLine by omega) [(Value.ref b, w2)] [(kk, b, w2)] [] s2 _ ⟨rfl, rfl, key_of I2.hok hb, True.intro⟩ dd (by show 0 + 1 ≤ sizeLine; decide) fun h' tk dd' hs => ?_
  obtain ⟨o, es, ep, hq, h2, h3, h4, _, h5⟩ := dd'
  have I3 : Inv X pins σ (upd H2 s.heap.objs.size (.dT [(kk, y)])) { s2 with heap := h', toks := tk } :=
    d_write I2 (by rw [hp]; exact True.intro) hs ⟨o, hq⟩ ⟨by show 1 ≤ sizeLine; decide, hd, _, (KT.put (H := H2) (kvs := []) .nil kk hb ry).keeps fun c ys ec => by
      rw [upd_ne (ne_of ec hp (fun z => nomatch z))]
      exact ec, o, es, ep, hq, h2, h3, h4, h5⟩
  exact ⟨.ref s.heap.objs.size, _, I3, rfl, q2⟩
def xDispT (mk mv : X1) : X1 := fun env Q => mk env fun k => mv env fun x => match k.tkey? with
  | some kk => Q (.dT [(kk, x)])
  | none => False
theorem sim_dispT (s : Sim C Γ ta A m) (s' : Sim C Γ tb .own n) : Sim C Γ (tDispT ta tb) .own (xDispT m n) :=
  ⟨fun σ H env Fs Q I h p hp => by
    have f0 : Fr (fun _ => False) H (upd H p (.dT [])) := Fr.new hp
    have I0 := I.step f0.wq (I.dk.keep f0)
    refine s.run σ _ env Fs _ I0 (s.mono env _ _ (fun k q x H1 F f1 dk1 r1 k1 => s'.run σ H1 env Fs _ (I0.step f1 dk1) (s'.mono env _ _ (fun y q w H2 G f2 dk2 r2 k2 => ?_) q)) h)
    dsimp only at q
    cases ek : k.tkey? with
    | none => rw [ek] at q; exact q.elim
    | some kk =>
      rw [ek] at q
      have r1' := r1.keep f2 k1.1.wq
      obtain ⟨b, eb, hb⟩ := r1'.tkey ek
      have nqp : ¬ Wq C p := fun w => wq_there I.dk w hp
      have hp1 : H1 p = some (.dT []) := f1.keep _ _ upd_same nqp
      have hp2 : H2 p = some (.dT []) := f2.keep _ _ hp1 nqp
      have np : p ∉ G := fun z => by
        have := k2.2.2 p z
        rw [hp1] at this; cases this
      have f02 : Fr (Wq C) H H2 := (f0.wq.trans f1).trans f2
      have fr : ∀ a ∈ p :: (G ++ []), H a = none := fun a ha => by
        rcases List.mem_cons.mp ha with z | ha
        · rw [z]; exact hp
        · rw [List.append_nil] at ha
          exact f0.there a (f1.there a (k2.2.2 a ha))
      refine ⟨kk, b, eb, hb, hp2, q (.ref p) _ (p :: (G ++ [])) (f02.hid hp) (dk2.upd f02 hp I.dk) (.dT upd_same rfl (.cons (r2.upd hp2 rfl np) .nil)) ⟨NoQ.new I.dk fr, ?_, fr⟩⟩
      rw [List.append_nil]
      exact List.nodup_cons.mpr ⟨np, k2.2.1⟩,
   fun env Q Q' k q => s.mono env _ _ (fun d q => s'.mono env _ _ (fun y q => by
    revert q
    cases d.tkey? with
    | none => exact fun z => z
    | some kk => exact k _) q) q⟩
instance [h : MX m] [h' : MX n] : MX (xDispT m n) := ⟨fun env Q Q' k q => h.mono env _ _ (fun d q => h'.mono env _ _ (fun y q => by
    revert q
    cases d.tkey? with
    | none => exact fun z => z
    | some kk => exact k _) q) q⟩
theorem sim_dnewT : Sim C Γ tDNewT .own (xC (.dT [])) := ⟨fun σ H env Fs Q I h p hp => h (.ref p) _ [p] (Fr.new hp) (I.dk.keep (Fr.new hp)) (.dT upd_same rfl .nil) ⟨NoQ.new I.dk fun a ha => by rw [List.mem_singleton.mp ha]; exact hp, by simp, fun a ha => by rw [List.mem_singleton.mp ha]; exact hp⟩, mono_c⟩
theorem sim_dnewK : Sim C Γ tDNewK .own (xC (.dK [])) := ⟨fun σ H env Fs Q I h p hp => h (.ref p) _ [p] (Fr.new hp) (I.dk.keep (Fr.new hp)) (.dK upd_same rfl .nil) ⟨NoQ.new I.dk fun a ha => by rw [List.mem_singleton.mp ha]; exact hp, by simp, fun a ha => by rw [List.mem_singleton.mp ha]; exact hp⟩, mono_c⟩
end
end Pu

/-! file PuMore2 -/
set_option Elab.async false
set_option linter.all false
set_option maxRecDepth 100000
namespace Pu
open PySem PySem.Spec PyProof.Rows L2
section
variable {C : Cfg} {Γ Γ' Γn Γl Γo Γt Γe Γ1 Γ2 : List Mo} {σ σ' : L2.St} {H H' H1 H2 : Hp} {env env' : PEnv} {Fs Fs' Fs1 Fs2 : Nat → List Addr} {v y : V} {vs : List V} {d x : D} {ds : List D} {F G : List Addr} {t : TA} {ta tb tc te t1 t2 : TE} {A B : Kd} {m n mc n1 n2 : X1} {K : PySem.W.Frag} {CT : Nat → Addr} {S : Stat} {X : Cx}

theorem ps_never {st : Stmt} : PS X st tNever := ⟨fun _ _ _ _ _ _ h => h.elim⟩

/-! ### {k: v}, k an int or a text -/
def xDispK (mk mv : X1) : X1 := fun env Q => mk env fun k => mv env fun x => match k.key? with
  | some kk => Q (.dK [(kk, x)])
  | none => False
theorem mono_dispK (a : Mono m) (b : Mono n) : Mono (xDispK m n) := fun env Q Q' k q => a env _ _ (fun d q => b env _ _ (fun y q => by
    revert q
    cases d.key? with
    | none => exact fun z => z
    | some kk => exact k _) q) q
instance [h : MX m] [h' : MX n] : MX (xDispK m n) := ⟨fun env Q Q' k q => h.mono env _ _ (fun d q => h'.mono env _ _ (fun y q => by
    revert q
    cases d.key? with
    | none => exact fun z => z
    | some kk => exact k _) q) q⟩
theorem sim_dispK (s : Sim C Γ ta A m) (s' : Sim C Γ tb .own n) : Sim C Γ (tDisp [(ta, tb)]) .own (xDispK m n) :=
  ⟨fun σ H env Fs Q I h p hp => by
    have f0 : Fr (fun _ => False) H (upd H p (.dK [])) := Fr.new hp
    have I0 := I.step f0.wq (I.dk.keep f0)
    refine s.run σ _ env Fs _ I0 (s.mono env _ _ (fun k q x H1 F f1 dk1 r1 k1 => s'.run σ H1 env Fs _ (I0.step f1 dk1) (s'.mono env _ _ (fun y q w H2 G f2 dk2 r2 k2 => ?_) q)) h)
    cases ek : k.key? with
    | none => rw [ek] at q; exact q.elim
    | some kk =>
      rw [ek] at q
      have ev := r1.key ek
      have nqp : ¬ Wq C p := fun w => wq_there I.dk w hp
      have hp1 : H1 p = some (.dK []) := f1.keep _ _ upd_same nqp
      have hp2 : H2 p = some (.dK []) := f2.keep _ _ hp1 nqp
      have np : p ∉ G := fun z => by
        have := k2.2.2 p z
        rw [hp1] at this; cases this
      have f02 : Fr (Wq C) H H2 := (f0.wq.trans f1).trans f2
      have fr : ∀ a ∈ p :: (G ++ []), H a = none := fun a ha => by
        rcases List.mem_cons.mp ha with z | ha
        · rw [z]; exact hp
        · rw [List.append_nil] at ha
          exact f0.there a (f1.there a (k2.2.2 a ha))
      refine ⟨hp2, [(kk, w)], by rw [ev]; rfl, by show 1 ≤ 15; decide, q (.ref p) _ (p :: (G ++ [])) (f02.hid hp) (dk2.upd f02 hp I.dk) (.dK upd_same rfl (.cons (r2.upd hp2 rfl np) .nil)) ⟨NoQ.new I.dk fr, ?_, fr⟩⟩
      rw [List.append_nil]
      exact List.nodup_cons.mpr ⟨np, k2.2.1⟩, mono_dispK s.mono s'.mono⟩

/-! ### a list of a slot's own, changed by a method -/
abbrev UL := List D → List D → (List D → Prop) → Prop
structure LmOk (r : V → List V → Hp → VK → Prop) (u : UL) : Prop where
  run : ∀ {CT : Nat → Addr} {H : Hp} {a : Addr} {vs ws : List V} {ds es : List D} {F G : List Addr} {Q : V → Hp → Prop}, H a = some (.lst vs) → Rps CT H vs ds F → Rps CT H ws es G →
    u ds es (fun ds' => ∀ (vs' : List V) (F' : List Addr) (z : V), Rps CT H vs' ds' F' → (∀ b ∈ F', b ∈ F ∨ b ∈ G) → ((F ++ G).Nodup → F'.Nodup) → Q z (upd H a (.lst vs'))) → r (.ref a) ws H Q
  mono : ∀ ds es (Q Q' : List D → Prop), (∀ e, Q e → Q' e) → u ds es Q → u ds es Q'
def sLm (i : Nat) (u : UL) (ms : XL) : XS := fun E env => xVar i env fun d => onL d fun xs => ms env fun es => u xs es fun ds => E.nx (env.set i (some (.lst ds)))
theorem sim_lm {i : Nat} {r : V → List V → Hp → VK → Prop} {u : UL} {ms : XL} (lo : LmOk r u) (g : Γ[i]? = some .o) (s : SimL C Γ t .own ms) : SimS C Γl Γ Γ (tDrop (tBM K "list" r (tVar i) t)) (sLm i u ms) :=
  ⟨fun σ H env Fs D E I lk hh => by
    obtain ⟨v, d, h1, h2, h3⟩ := I.val i _ g (.inl rfl)
    have hh : xVar i env _ := hh
    unfold xVar at hh
    rw [h2] at hh
    obtain ⟨a, vs, ds, F, rfl, rfl, eF, ha, ra, hh⟩ := h3.onL hh
    refine ⟨_, h1, .inl ⟨rfl, _, SqL.of ha⟩, s.run σ H env Fs _ I (s.mono env _ _ (fun es q ws H1 G f dk r2 k2 => ?_) hh)⟩
    have nqa := I.nq i _ g (.inl rfl)
    rw [eF] at nqa
    have nda := I.nd i g
    rw [eF] at nda
    have ha1 := f.keep _ _ ha (nqa.wq a List.mem_cons_self)
    have ra1 := ra.keep f fun b hb => nqa.wq b (List.mem_cons_of_mem _ hb)
    have nG : a ∉ G := fun z => by
      have := k2.2.2 a z
      rw [ha] at this; cases this
    have nF : a ∉ F := (List.nodup_cons.mp nda).1
    have ndd : (F ++ G).Nodup := List.nodup_append.mpr ⟨(List.nodup_cons.mp nda).2, k2.2.1, fun b hb c hc z => by
      subst z
      exact ra.tracked b hb (k2.2.2 b hc)⟩
    refine lo.run ha1 ra1 r2 (lo.mono _ _ _ _ (fun ds' q vs' F' z r3 sub nd => ?_) q)
    have na : a ∉ F' := fun z => (sub a z).elim nF nG
    exact lk.root I f dk g h1 ha1 rfl eF (F' := F') (G := G) (.lst upd_same (r3.upd ha1 rfl na)) (nd ndd) na (fun b hb => (sub b hb).imp id fun hb => k2.2.2 b hb) q,
   fun E E' env p q => mono_var env _ _ (fun d q => onL_mono (fun ds q => s.mono env _ _ (fun e q => lo.mono _ _ _ _ (fun ds q => p.1 _ q) q) q) q) q⟩
class MU (u : UL) : Prop where
  mono : ∀ ds es (Q Q' : List D → Prop), (∀ e, Q e → Q' e) → u ds es Q → u ds es Q'
def uIns : UL := fun xs es Q => match es with
  | [.int i, d] => xs.length < sizeLine ∧ 0 ≤ i ∧ i < 2 ^ 63 ∧ Q (xs.take i.toNat ++ d :: xs.drop i.toNat)
  | _ => False
theorem Rps.two_of {a b : D} (r : Rps CT H vs [a, b] F) : ∃ v w G1 G2, vs = [v, w] ∧ Rp CT H v a G1 ∧ Rp CT H w b G2 ∧ F = G1 ++ G2 := by
  cases r with
  | cons r1 r2 => cases r2 with
    | cons r2 r3 => cases r3; exact ⟨_, _, _, _, rfl, r1, r2, by simp⟩
theorem Rps.one_of {a : D} (r : Rps CT H vs [a] F) : ∃ v, vs = [v] ∧ Rp CT H v a F := by
  cases r with
  | cons r1 r2 => cases r2; exact ⟨_, rfl, by simpa using r1⟩
theorem Rps.split : ∀ {vs : List V} {ds : List D} {F : List Addr} (j : Nat), Rps CT H vs ds F → ∃ F1 F2, Rps CT H (vs.take j) (ds.take j) F1 ∧ Rps CT H (vs.drop j) (ds.drop j) F2 ∧ F = F1 ++ F2
  | _, _, F, 0, r => ⟨[], F, .nil, r, rfl⟩
  | _, _, _, j + 1, .nil => ⟨[], [], .nil, .nil, rfl⟩
  | _, _, _, j + 1, .cons (F := F1) (G := F2) r rs => by
    obtain ⟨P, Q, h1, h2, h3⟩ := Rps.split j rs
    exact ⟨F1 ++ P, Q, .cons r h1, h2, by rw [h3, List.append_assoc]⟩
theorem lm_ins : ∃ r, (∀ X : Cx, MtR X "list.insert" r) ∧ LmOk r uIns := by
  refine ⟨_, fun X => mt_insert, ⟨?_, ?_⟩⟩
  · intro CT H a vs ws ds es F G Q ha r r2 q
    match es, r2, q with
    | [.int i, d], r2, q =>
      obtain ⟨v, w, G1, G2, rfl, q1, q2, rfl⟩ := r2.two_of
      cases q1
      obtain ⟨h1, h2, h3, q⟩ := q
      obtain ⟨F1, F2, s1, s2, rfl⟩ := r.split i.toNat
      refine ⟨a, vs, i, w, rfl, rfl, ha, by rw [r.length]; exact h1, h2, h3, ?_⟩
      rw [List.append_assoc]
      refine q _ (F1 ++ (G2 ++ F2)) _ (s1.append (.cons q2 s2)) (fun b hb => ?_) (fun nd => ?_)
      · simp only [List.mem_append, List.nil_append] at hb ⊢
        rcases hb with h | h | h
        · exact .inl (.inl h)
        · exact .inr h
        · exact .inl (.inr h)
      · rw [List.nil_append, List.append_assoc] at nd
        exact (List.Perm.append_left F1 (List.perm_append_comm (l₁ := F2) (l₂ := G2))).nodup_iff.mp nd
  · intro ds es Q Q' kk q
    match es, q with
    | [.int i, d], q => exact ⟨q.1, q.2.1, q.2.2.1, kk _ q.2.2.2⟩
noncomputable def rIns := lm_ins.choose
theorem mt_ins : MtR X "list.insert" rIns := lm_ins.choose_spec.1 X
theorem lo_ins : LmOk rIns uIns := lm_ins.choose_spec.2
def uPopAt : UL := fun xs es Q => match es with
  | [.int i] => -(2 ^ 63) ≤ i ∧ i < 2 ^ 63 ∧ (match seqIndex? i xs.length with | some k => k < xs.length ∧ Q (xs.eraseIdx k) | none => False)
  | _ => False
theorem Rps.erase : ∀ {vs : List V} {ds : List D} {F : List Addr} (j : Nat), Rps CT H vs ds F → ∃ F', Rps CT H (vs.eraseIdx j) (ds.eraseIdx j) F' ∧ F'.Sublist F
  | _, _, _, _, .nil => ⟨[], .nil, List.Sublist.slnil⟩
  | _, _, _, 0, .cons (F := F1) (G := F2) r rs => ⟨F2, rs, List.sublist_append_right _ _⟩
  | _, _, _, j + 1, .cons (F := F1) (G := F2) r rs => by
    obtain ⟨F', h1, h2⟩ := Rps.erase j rs
    exact ⟨F1 ++ F', .cons r h1, h2.append_left _⟩
theorem lo_popAt : LmOk rPopAt uPopAt := by
  refine ⟨?_, ?_⟩
  · intro CT H a vs ws ds es F G Q ha r r2 q
    match es, r2, q with
    | [.int i], r2, q =>
      obtain ⟨v, rfl, q1⟩ := r2.one_of
      cases q1
      obtain ⟨h1, h2, q⟩ := q
      cases e : seqIndex? i ds.length with
      | none => rw [e] at q; exact q.elim
      | some k =>
        rw [e] at q
        obtain ⟨h3, q⟩ := q
        obtain ⟨F', s1, s2⟩ := r.erase k
        have hk : k < vs.length := by rw [r.length]; exact h3
        refine ⟨a, vs, i, k, vs[k], rfl, rfl, ha, h1, h2, by rw [r.length]; exact e, List.getElem?_eq_getElem hk, q _ F' _ s1 (fun b hb => .inl (s2.subset hb)) fun nd => ?_⟩
        rw [List.append_nil] at nd
        exact s2.nodup nd
  · intro ds es Q Q' kk q
    match es, q with
    | [.int i], q =>
      refine ⟨q.1, q.2.1, ?_⟩
      have q := q.2.2
      cases e : seqIndex? i ds.length with
      | none => rw [e] at q; exact q.elim
      | some j =>
        rw [e] at q
        exact ⟨q.1, kk _ q.2⟩
def uExtend : UL := fun xs es Q => match es with
  | [.lst ys] => xs.length + ys.length ≤ sizeLine ∧ Q (xs ++ ys)
  | _ => False
theorem lo_extend : LmOk rExtend uExtend := by
  refine ⟨?_, ?_⟩
  · intro CT H a vs ws ds es F G Q ha r r2 q
    match es, r2, q with
    | [.lst ys], r2, q =>
      obtain ⟨v, rfl, q1⟩ := r2.one_of
      cases q1 with
      | lst hb rb =>
        refine ⟨a, _, vs, _, rfl, rfl, ha, hb, by rw [r.length, rb.length]; exact q.1, q.2 _ _ _ (r.append rb) (fun b hb => ?_) fun nd => ?_⟩
        · exact (List.mem_append.mp hb).imp id (List.mem_cons_of_mem _)
        · exact nd.sublist (List.Sublist.append_left (List.sublist_cons_self _ _) _)
  · intro ds es Q Q' k q
    match es, q with
    | [.lst ys], q => exact ⟨q.1, k _ q.2⟩
instance : MU uIns := ⟨lo_ins.mono⟩
instance : MU uPopAt := ⟨lo_popAt.mono⟩
instance : MU uExtend := ⟨lo_extend.mono⟩
instance {i : Nat} {u : UL} {ms : XL} [h : MU u] [h' : MX ms] : MS (sLm i u ms) := ⟨fun p q => mono_var _ _ _ (fun d q => onL_mono (fun ds q => h'.mono _ _ _ (fun e q => h.mono _ _ _ _ (fun ds q => p.1 _ q) q) q) q) q⟩
/-! ### xs[i], xs[j] = .., with values that never change -/
theorem put_g {i : Nat} {k : PEnv → Prop} {Q : L2.St → Hp → Prop} (g : Γ[i]? = some .o) (s : Sim C Γ tb B n) (I : Ok C Γ σ H env Fs) (rx : Rp C.CT H y x []) (q : xVar i env fun d => n env fun e => setD d e x fun d' => k (env.set i (some d')))
    (fin : ∀ H' env' Fs', Ok C Γ σ H' env' Fs' → Go C Γ Fs H Γ Fs' H' → k env' → Q σ H') : gSub (tVar i) tb rSetU y σ H Q := by
  obtain ⟨v, d, h1, h2, h3⟩ := I.val i _ g (.inl rfl)
  have q : xVar i env _ := q
  unfold xVar at q
  rw [h2] at q
  refine ⟨v, h1, s.run σ H env Fs _ I (s.mono env _ _ (fun e q w H2 P f2 dk2 re ke => ?_) q)⟩
  have I2 := I.step f2 dk2
  obtain ⟨v', d', h1', h2', h3'⟩ := I2.val i _ g (.inl rfl)
  rw [h1] at h1'; cases h1'
  rw [h2] at h2'; cases h2'
  refine set_run h3' re (rx.keep f2 fun b hb => nomatch hb) (I.nd i g) (fun b hb z => nomatch hb) List.nodup_nil q fun a o u d' F0 F' ev ha hi eF r nd na sub q => ?_
  subst ev
  have lk : Lk C Γ Fs H Γ Γ ⟨fun σ' H' => σ' = σ → Q σ H', fun _ _ => True, fun _ _ => True, fun _ _ => True⟩ ⟨k, fun _ => True, fun _ => True, fun _ => True⟩ :=
    ⟨fun σ' H' env' Fs' I' go q e => by subst e; exact fin H' env' Fs' I' go q, fun _ _ _ _ _ _ _ => True.intro, fun _ _ _ _ _ _ _ => True.intro, fun _ _ _ _ _ _ _ _ _ _ _ => True.intro⟩
  exact lk.root I f2 dk2 g (G := []) h1 ha hi eF r nd na (fun b hb => (sub b hb).imp id fun z => nomatch z) q rfl
def sSwap (i : Nat) (m n1 n2 : X1) : XS := fun E env => m env fun d => match d with
  | .tup [x, y] => x.imm = true ∧ y.imm = true ∧ xVar i env fun d => n1 env fun e => setD d e x fun d' =>
      (fun env => xVar i env fun d => n2 env fun e => setD d e y fun d' => E.nx (env.set i (some d'))) (env.set i (some d'))
  | _ => False
theorem sim_swap {i : Nat} {B1 B2 : Kd} (g : Γ[i]? = some .o) (s : Sim C Γ te .own m) (s1 : Sim C Γ t1 B1 n1) (s2 : Sim C Γ t2 B2 n2) :
    SimS C Γl Γ Γ (tAsg te (gTup K 2 (gCons (gSub (tVar i) t1 rSetU) (gCons (gSub (tVar i) t2 rSetU) gNil)))) (sSwap i m n1 n2) :=
  ⟨fun σ H env Fs D E I lk hh => s.run σ H env Fs _ I (s.mono env _ _ (fun d q v H1 F f dk r kk => by
    cases r with
    | tup ha ra =>
      rename_i a vs ds
      match ds, ra, q with
      | [x, y], ra, q =>
        obtain ⟨vx, vy, G1, G2, rfl, r1, r2, rfl⟩ := ra.two_of
        obtain ⟨i1, i2, q⟩ := q
        have e1 := r1.imm i1
        have e2 := r2.imm i2
        subst e1 e2
        have I1 := I.step f dk
        refine ⟨a, _, rfl, SqT.of ha, rfl, vx, [vy], rfl, put_g g s1 I1 r1 q fun H2 env2 Fs2 I2 go2 q2 => ⟨vy, [], rfl, put_g g s2 I2 (r2.keep go2.fr fun b hb => nomatch hb) q2 fun H3 env3 Fs3 I3 go3 q3 => ⟨rfl, ?_⟩⟩⟩
        exact (lk.step ((Go.ev f).trans (go2.trans go3))).nx σ H3 env3 Fs3 I3 Go.refl q3
    | _ => exact (show False from q).elim) hh),
   fun E E' env p q => s.mono env _ _ (fun d q => by
    match d, q with
    | .tup [x, y], q => exact ⟨q.1, q.2.1, mono_var env _ _ (fun d q => s1.mono env _ _ (fun e q => mono_setD (fun d' q => mono_var _ _ _ (fun d q => s2.mono _ _ _ (fun e q => mono_setD (fun d' q => p.1 _ q) q) q) q) q) q) q.2.2⟩) q⟩
instance {i : Nat} [h : MX m] [h1 : MX n1] [h2 : MX n2] : MS (sSwap i m n1 n2) := ⟨fun p q => h.mono _ _ _ (fun d q => by
    match d, q with
    | .tup [x, y], q => exact ⟨q.1, q.2.1, mono_var _ _ _ (fun d q => h1.mono _ _ _ (fun e q => mono_setD (fun d' q => mono_var _ _ _ (fun d q => h2.mono _ _ _ (fun e q => mono_setD (fun d' q => p.1 _ q) q) q) q) q) q) q.2.2⟩) q⟩
end
end Pu

/-! file PuEnum -/
set_option Elab.async false
set_option linter.all false
set_option maxRecDepth 100000
namespace Pu
open PySem PySem.Spec PyProof.Rows L2
open Sem (wp)
open AutoSeq1 (wpAny_loadPart')

/-! ### enumerate(tuple) -/
theorem meets_enT (l : Addr) (xs : Array Value) (n : Nat) (dct : Option Addr) (sl : Array (Option Value)) :
    Meets (Builtin.«enumerate.__new__» ⟨[.type "enumerate", .ref l], []⟩) (fun _ R s => s.heap.get? l = some { cls := .type "tuple", dict := dct, data := .seq xs n, slots := sl } ∧
      R (.ok (.ret (.ref (s.heap.push { cls := .type "tuple_iterator", data := .fields #[.ref l, .int 0 0] }).objs.size)))
        { s with heap := (s.heap.push { cls := .type "tuple_iterator", data := .fields #[.ref l, .int 0 0] }).push { cls := .type "enumerate", data := .fields #[.none, .bool false, .ref s.heap.objs.size, rawInt 0, .none, .none] } }) :=
  .of_wp fun P w A R s q => by
    obtain ⟨hp, g, d, tk, os⟩ := s
    obtain ⟨ht, q⟩ := q
    have hsub := sub_enumerate
    have hT : Heap.IsTuple (Shared.heap ⟨hp, g, d, tk, os⟩) l xs := ⟨_, ht, rfl, n, rfl⟩
    wp_walk using wpAny_loadPart' ht
    refine wpAny_stack_any fun st => wpAny_pure ?_
    split
    · rename_i c _ _ _ _ _
      cases (c == Value.type "enumerate")
      · wp_walk using wpAny_loadPart' ht, wpAny_pyIter_tuple hT
        exact ⟨_, rfl, q⟩
      · wp_walk using wpAny_loadPart' ht, wpAny_pyIter_tuple hT
        exact ⟨_, rfl, q⟩
    · wp_walk using wpAny_loadPart' ht, wpAny_pyIter_tuple hT
      exact ⟨_, rfl, q⟩
theorem call_enT {P : Program} {w : World} {A : Around} {E : Value → Shared → Prop} {s : Shared} {l : Addr} {xs : Array Value} {Q : Value → Shared → Prop} (hT : s.heap.IsTuple l xs)
    (h : ∀ h', IsEnum h' (s.heap.objs.size + 1) s.heap.objs.size 0 .none → h'.IsTupleIter s.heap.objs.size l 0 → (∀ b o, s.heap.get? b = some o → h'.get? b = some o) → Q (.ref (s.heap.objs.size + 1)) { s with heap := h' }) :
    wpAny (model P w) A (call (.type "enumerate") [.ref l]) Q E s := by
  obtain ⟨⟨c, dct, dt, sl⟩, hl, hc, n, hd⟩ := hT
  replace hc : c = .type "tuple" := hc
  replace hd : dt = .seq xs n := hd
  subst hc hd
  refine callType_new F.called_enumerate (by decide) (F.typeCall_enumerate_1 _) (F.newCall_enumerate_1 _) (fun obj => F.args_object_init_2 obj _) F.entry_enumerate_new (meets_enT l xs n dct sl) ⟨hl, ?_⟩
  have hz : (s.heap.push { cls := .type "tuple_iterator", data := .fields #[.ref l, .int 0 0] }).objs.size = s.heap.objs.size + 1 := Heap.size_push ..
  show _ ∧ _
  rw [hz]
  have he : IsEnum ((s.heap.push { cls := .type "tuple_iterator", data := .fields #[.ref l, .int 0 0] }).push { cls := .type "enumerate", data := .fields #[.none, .bool false, .ref s.heap.objs.size, rawInt 0, .none, .none] }) (s.heap.objs.size + 1) s.heap.objs.size 0 .none := by
    have e := Heap.get?_push_size (s.heap.push { cls := .type "tuple_iterator", data := .fields #[.ref l, .int 0 0] }) (o := { cls := .type "enumerate", data := .fields #[.none, .bool false, .ref s.heap.objs.size, rawInt 0, .none, .none] }) rfl
    rw [hz] at e; exact e
  exact ⟨⟨_, he, rfl⟩, h _ he ⟨_, Heap.get?_push_of_some _ (Heap.get?_push_size _ rfl), rfl, rfl⟩ fun b o x => Heap.get?_push_of_some _ (Heap.get?_push_of_some _ x)⟩
theorem pyNext_enT_end {P : Program} {w : World} {A : Around} {E : Value → Shared → Prop} {s : Shared} {e it l : Addr} {i : Nat} {xs : Array Value} {old : Value} {Q : Option Value → Shared → Prop} (hh : A.handled = none)
    (he : IsEnum s.heap e it i old) (hit : s.heap.IsTupleIter it l i) (ht : s.heap.IsTuple l xs) (hx : xs[i]? = none) (hQ : ∀ h', Heap.ExtBut it s.heap h' → Q none { s with heap := h' }) : wpAny (model P w) A (pyNext (.ref e)) Q E s := by
  have ty : s.TypeIs (.ref e) "enumerate" := ⟨_, he, rfl⟩
  unfold pyNext
  refine wpAny_bind (wpAny_attempt (wpAny_callSpecial?_slot (name := Str.ofString "__next__") ty F.slot_enumerate_next (wpAny_call_entry F.slot_enumerate_next ty F.entry_enumerate_next ?_ (F.args_enumerate_next_1 _))))
  show wpAny _ _ (field (.ref e) 2 >>= _) _ _ _
  refine wpAny_bind (wpAny_field he rfl (x := .ref it) rfl (wpAny_bind (wpAny_nextOf_tuple_end hh hit ht hx fun h' x k ⟨o, ho, hc⟩ => ?_)))
  exact wpAny_bind (wpAny_isInstance (T := "StopIteration") (b := true) ⟨o, ho, hc⟩ isSubtype_stop (wpAny_pure (hQ _ k)))
def IteT (K : PySem.W.Frag) (a : Addr) : It :=
  ⟨fun i H => ∃ (xs : List V) (x : V), SqT K H a xs ∧ xs[i]? = some x, fun i H v H' => ∃ T x, v = .ref T ∧ H T = none ∧ H' = L2.upd H T (.tup [.int (i : Nat), x]) ∧ ∀ xs, SqT K H a xs → xs[i]? = some x,
    fun i H => ∃ xs : List V, SqT K H a xs ∧ xs.length ≤ i⟩
theorem turn_enT {P : Program} {w : World} {K : PySem.W.Frag} {elts : List Expr} {kk : Nat} {tpos : Pos} (a e it : Addr) (ha : a ≠ it) (hae : a ≠ e) :
    Turn P w K (.Tuple elts kk tpos) (IteT K a) [e, it] e (fun i h => (∃ old, IsEnum h e it ((i : Nat) : Int) old) ∧ h.IsTupleIter it a i ∧ e ≠ it) where
  mem := by simp
  obj := fun i h st b hb => by
    obtain ⟨⟨old, he⟩, ⟨o, ho, hc, hd⟩, _⟩ := st
    rcases (show b = e ∨ b = it by simpa using hb) with z | z
    · rw [z]; exact ⟨_, he, fun v q => nomatch q⟩
    · rw [z]; exact ⟨o, ho, fun v q => by rw [hd] at q; cases q⟩
  keep := fun i h h' st k => let ⟨⟨old, he⟩, hi, hne⟩ := st; ⟨⟨old, k e (by simp) _ he⟩, hi.at fun o q => k it (by simp) o q, hne⟩
  item := by
    intro X hP hw hK hc i pins s σ H E I hf st hg
    subst hP hw hK
    obtain ⟨⟨old, he⟩, hit, hne⟩ := st
    obtain ⟨xs, x, hq, hx⟩ := hg
    obtain ⟨its, rv, p, hz⟩ := I.tuple hq
    obtain ⟨u, hu, ru⟩ := rv.get hx
    have hel : e < s.heap.objs.size := Heap.lt_size he
    have hil : it < s.heap.objs.size := by obtain ⟨_, q, _⟩ := hit; exact Heap.lt_size q
    have hT0 : s.heap.IsTuple a its.toArray := p
    have hlt : i < its.toArray.size := by
      have := (List.getElem?_eq_some_iff.mp hu).1
      simpa using this
    refine wpAny_pyNext_enum_itemD (Draws.tuple (A := X.A.in1) (I.ok.hd hc) it a ha its.toArray) he ⟨hit, hT0⟩ hlt hne (by simp [hne, Ne.symm hae]) fun x' h' tk hP ho hst hT hsz hk => ?_
    obtain rfl : x' = u := by
      have e1 : its.toArray[i]? = some u := by simpa using hu
      rw [e1] at hP
      exact (Option.some.inj hP).symm
    refine ⟨_, rfl, wpAny_letOwnedTupleGo_enum (s := { s with heap := h', toks := tk + 1 }) ho fun h'' he' sb => ?_⟩
    have hT2 := (sb.2 s.heap.objs.size (Nat.ne_of_gt hel)).trans hT
    have new : ObjOk X.prog X.w (L2.upd H s.heap.objs.size (.tup [.int (i : Nat), x])) h'' s.heap.objs.size (.tup [.int (i : Nat), x]) :=
      ⟨by show 2 ≤ sizeLine; decide, [.int i tk, x'], .cons ⟨_, rfl⟩ (.cons ru .nil), ⟨_, hT2, rfl, _, rfl⟩⟩
    have I1 : Inv X pins σ (L2.upd H s.heap.objs.size (.tup [.int (i : Nat), x])) { s with heap := h'', toks := tk + 1 } :=
      I.turnedNew (ch := [e, it]) (fun b ob hb q => (sb.2 b (fun z => hb (by simp [z]))).trans (hk b ob (fun z => hb (by simp [z])) (fun z => hb (by simp [z])) q)) hf (Nat.le_refl _) new
    refine ⟨.ref s.heap.objs.size, _, I1, rfl, ⟨_, x, rfl, I.hok.fresh (Nat.le_refl _), rfl, fun ys hy => by rw [I.tuple_inj hy hq]; exact hx⟩, ⟨⟨x', ?_⟩, hst.1.at fun o q => (sb.2 it (Ne.symm hne)).trans q, hne⟩, fun b hb => ?_⟩
    · rw [show ((i + 1 : Nat) : Int) = (i : Int) + 1 by omega]; exact he'
    · have hb' : b < s.heap.objs.size := by
        rcases (show b = e ∨ b = it by simpa using hb) with z | z
        · rw [z]; exact hel
        · rw [z]; exact hil
      rw [L2.upd_ne (Nat.ne_of_lt hb')]
      exact (hf b hb).1
  done := by
    intro X hP hw hK hc i pins s σ H E I hf st hg
    subst hP hw hK
    obtain ⟨⟨old, he⟩, hit, hne⟩ := st
    obtain ⟨xs, hq, hx⟩ := hg
    obtain ⟨its, rv, p, hz⟩ := I.tuple hq
    obtain ⟨f0, f1, f2, f3, f4, f5⟩ := hf it (by simp)
    have hl := rv.length
    exact pyNext_enT_end (I.ok.hd hc) he hit (show s.heap.IsTuple a its.toArray from p) (by simp; omega) fun h' eb => ⟨rfl, I.turned (t' := s.toks) (fun b o hb q => eb b o hb q) f0 f1 f3 f4 f5⟩
  self := fun A i s Q E st h => let ⟨⟨_, he⟩, _⟩ := st; wpAny_pyIter_enum he h
/-- enumerate of a list or of a tuple -/
def iEnumU (K : PySem.W.Frag) (ta : TA) : TI := fun σ H R => ta σ H fun vs H1 => ∃ a xs, vs = [.ref a] ∧ ((SqL K H1 a xs ∧ R (Ite K a) H1) ∨ (SqT K H1 a xs ∧ R (IteT K a) H1))
theorem pi_enumU {X : Cx} {e : Expr} {ta : TA} {p pos tpos : Pos} {elts : List Expr} {kk : Nat} (hg : Gl X "enumerate") (hm : X.mg "enumerate" = none) (ha : PA X [e] ta) (hs : starEach [e] X.env = [(false, eval e X.env)] := by rfl) :
    PI X (.Tuple elts kk tpos) (.Call (.Name "enumerate" p) [e] [] pos) (iEnumU X.K ta) := by
  refine ⟨fun pins s σ H R I h => Call_ (ld_blt I hg hm boot_enumerate (PyProof.Rows.callWith_type1 (thn (ha.run pos pins s σ H _ I h) fun us s1 ⟨vs, H1, I1, r1, a, xs, ex, q1⟩ => ?_) hs rfl))⟩
  subst ex
  cases r1 with
  | cons r rr =>
    cases rr
    cases r
    have e0 : ∀ b ∈ [s1.heap.objs.size + 1, s1.heap.objs.size], FpOk X pins H1 b := fun b hb => by
      have hle : s1.heap.objs.size ≤ b := by
        rcases (show b = s1.heap.objs.size + 1 ∨ b = s1.heap.objs.size by simpa using hb) with z | z
        · rw [z]; exact Nat.le_add_right _ _
        · rw [z]; exact Nat.le_refl _
      exact I1.fpOk hle (I1.hok.fresh hle)
    rcases q1 with ⟨hq, q⟩ | ⟨hq, q⟩
    · obtain ⟨its, rv, p', hz⟩ := I1.list hq
      exact call_enumerate_list p'.isList fun h' he hit hsz hk => wpAny_pyIter_enum he
        ⟨s1.heap.objs.size + 1, [s1.heap.objs.size + 1, s1.heap.objs.size], _, _, H1, rfl, (I1.kept (t' := s1.toks) hk : Inv X pins σ H1 { s1 with heap := h' }), turn_enum a _ _, ⟨⟨.none, he⟩, hit, Nat.succ_ne_self _⟩, e0, q⟩
    · obtain ⟨its, rv, p', hz⟩ := I1.tuple hq
      have hT : s1.heap.IsTuple a its.toArray := p'
      have hal : a < s1.heap.objs.size := by obtain ⟨o, ho, _⟩ := id hT; exact Heap.lt_size ho
      exact call_enT hT fun h' he hit hk => wpAny_pyIter_enum he
        ⟨s1.heap.objs.size + 1, [s1.heap.objs.size + 1, s1.heap.objs.size], _, _, H1, rfl, (I1.kept (t' := s1.toks) hk : Inv X pins σ H1 { s1 with heap := h' }), turn_enT a _ _ (Nat.ne_of_lt hal) (Nat.ne_of_lt (Nat.lt_succ_of_lt hal)), ⟨⟨.none, he⟩, hit, Nat.succ_ne_self _⟩, e0, q⟩
theorem k_enumU {X : Cx} {K : PySem.W.Frag} {e : Expr} {ta : TA} {p pos tpos : Pos} {elts : List Expr} {kk : Nat} (h : X.K = K) (hg : Gl X "enumerate") (hm : X.mg "enumerate" = none) (ha : PA X [e] ta) (hs : starEach [e] X.env = [(false, eval e X.env)] := by rfl) :
    PI X (.Tuple elts kk tpos) (.Call (.Name "enumerate" p) [e] [] pos) (iEnumU K ta) := h ▸ pi_enumU hg hm ha hs
theorem k_zip {X : Cx} {K : PySem.W.Frag} {e e2 : Expr} {ta : TA} {p pos tpos : Pos} {elts : List Expr} {kk : Nat} (h : X.K = K) (hg : Gl X "zip") (hm : X.mg "zip" = none) (ha : PA X [e, e2] ta)
    (hs : starEach [e, e2] X.env = (false, eval e X.env) :: starEach [e2] X.env := by rfl) (hpl : (backTo pos (starEach [e2] X.env)).any (·.1) = false := by rfl) :
    PI X (.Tuple elts kk tpos) (.Call (.Name "zip" p) [e, e2] [] pos) (RZ.iZipA K ta) := h ▸ RZ.pi_zipA hg hm ha hs hpl
section
variable {C : Cfg} {Γ Γ' Γn Γl Γo Γt Γe Γ1 Γ2 : List Mo} {σ σ' : L2.St} {H H' H1 H2 : Hp} {env env' : PEnv} {Fs Fs' Fs1 Fs2 : Nat → List Addr} {v : V} {vs ws : List V} {d : D} {ds es : List D} {F G : List Addr} {ta tb te : TE} {A B : Kd} {m n : X1} {K : PySem.W.Frag} {CT : Nat → Addr}
theorem walk_enT {a : Addr} : Walk CT (IteT K a) F (fun H => H a = some (.tup vs) ∧ Rps CT H vs ds F) (enD 0 ds) where
  keep := fun W H H' ⟨h, r⟩ f n => ⟨f.im _ _ h rfl, r.keep f n⟩
  there := fun H ⟨h, r⟩ b hb => r.tracked b hb
  go := fun i H ⟨h, r⟩ hi => by
    rw [enD_len, ← r.length] at hi
    exact ⟨vs, vs[i], SqT.of h, List.getElem?_eq_getElem hi⟩
  stop := fun H ⟨h, r⟩ => ⟨vs, SqT.of h, by rw [enD_len, r.length]; exact Nat.le_refl _⟩
  yld := fun i H x H' ⟨h, r⟩ hi ⟨T, y, e, hT, e', hy⟩ => by
    subst e e'
    obtain ⟨d, G, h1, h2, h3⟩ := r.getV (hy vs (SqT.of h))
    have h4 := enD_get ds 0 i d h1
    rw [Nat.zero_add] at h4
    refine ⟨_, [] ++ (G ++ []), h4, Fr.new hT, .tup upd_same (.cons (.int _) (.cons (h2.keep (W := fun _ => False) (Fr.new hT) fun _ _ z => z) .nil)), fun b hb => ?_⟩
    simp at hb
    exact h3.mem hb
def mEnmU (m : X1) : XL := fun env Q => m env fun d => match d with
  | .lst ds => Q (enD 0 ds)
  | .tup ds => Q (enD 0 ds)
  | _ => False
theorem simi_enmU (s : Sim C Γ te A m) : SimI C Γ (iEnumU K (tCons te tNil)) A (mEnmU m) := ⟨fun σ H env Fs R I h => s.run σ H env Fs _ I (s.mono env _ _ (fun d q v H1 F f dk r k => by
    have kd := k.set I
    cases r with
    | lst ha ra => exact ⟨_, _, rfl, .inl ⟨SqL.of ha, q H1 _ _ _ f dk walk_enm ⟨ha, ra⟩ ⟨k.1, kd⟩⟩⟩
    | tup ha ra => exact ⟨_, _, rfl, .inr ⟨SqT.of ha, q H1 _ _ _ f dk walk_enT ⟨ha, ra⟩ ⟨k.1, kd⟩⟩⟩
    | _ => exact (show False from q).elim) h), fun env Q Q' k q => s.mono env _ _ (fun d q => by cases d <;> first | exact k _ q | exact q) q⟩
instance [h : MX m] : MX (mEnmU m) := ⟨fun env Q Q' k q => h.mono env _ _ (fun d q => by cases d <;> first | exact k _ q | exact q) q⟩
/-! ### zip of two lists, of two tuples -/
def zpD : List D → List D → List D
  | d :: ds, e :: es => .tup [d, e] :: zpD ds es
  | _, _ => []
theorem zpD_len : ∀ (ds es : List D), (zpD ds es).length = min ds.length es.length
  | [], _ => by simp [zpD]
  | _ :: _, [] => by simp [zpD]
  | d :: ds, e :: es => by simp only [zpD, List.length_cons, zpD_len ds es]; omega
theorem zpD_get : ∀ (ds es : List D) (i : Nat) (d e : D), ds[i]? = some d → es[i]? = some e → (zpD ds es)[i]? = some (.tup [d, e])
  | [], _, _, _, _, h, _ => by simp at h
  | _ :: _, [], _, _, _, _, h => by simp at h
  | x :: ds, y :: es, 0, d, e, h, h' => by simp at h h'; subst h h'; rfl
  | x :: ds, y :: es, i + 1, d, e, h, h' => by
    have := zpD_get ds es i d e (by simpa using h) (by simpa using h')
    simpa [zpD] using this
theorem walk_zpT {a b : Addr} : Walk CT (RZ.ItzT K a b) (F ++ G) (fun H => (H a = some (.tup vs) ∧ Rps CT H vs ds F) ∧ H b = some (.tup ws) ∧ Rps CT H ws es G) (zpD ds es) where
  keep := fun W H H' ⟨⟨h, r⟩, h', r'⟩ f n => ⟨⟨f.im _ _ h rfl, r.keep f fun b hb => n b (List.mem_append_left _ hb)⟩, f.im _ _ h' rfl, r'.keep f fun b hb => n b (List.mem_append_right _ hb)⟩
  there := fun H ⟨⟨h, r⟩, h', r'⟩ b hb => (List.mem_append.mp hb).elim (r.tracked b) (r'.tracked b)
  go := fun i H ⟨⟨h, r⟩, h', r'⟩ hi => by
    rw [zpD_len, ← r.length, ← r'.length] at hi
    have h1 : i < vs.length := by omega
    have h2 : i < ws.length := by omega
    exact ⟨vs, ws, vs[i], ws[i], SqT.of h, SqT.of h', List.getElem?_eq_getElem h1, List.getElem?_eq_getElem h2⟩
  stop := fun H ⟨⟨h, r⟩, h', r'⟩ => ⟨vs, ws, SqT.of h, SqT.of h', by rw [zpD_len, ← r.length, ← r'.length]; omega⟩
  yld := fun i H x H' ⟨⟨h, r⟩, h', r'⟩ hi ⟨T, y, z, e, hT, e', hy, hz⟩ => by
    subst e e'
    obtain ⟨d1, G1, h1, h2, h3⟩ := r.getV (hy vs (SqT.of h))
    obtain ⟨d2, G2, k1, k2, k3⟩ := r'.getV (hz ws (SqT.of h'))
    refine ⟨_, G1 ++ (G2 ++ []), zpD_get ds es i d1 d2 h1 k1, Fr.new hT, .tup upd_same (.cons (h2.keep (W := fun _ => False) (Fr.new hT) fun _ _ z => z) (.cons (k2.keep (W := fun _ => False) (Fr.new hT) fun _ _ z => z) .nil)), fun b hb => ?_⟩
    rw [List.append_nil] at hb
    exact (List.mem_append.mp hb).elim (fun m => List.mem_append_left _ (h3.mem m)) fun m => List.mem_append_right _ (k3.mem m)
theorem walk_zpL {a b : Addr} : Walk CT (Itz K a b) ((a :: F) ++ (b :: G)) (fun H => (H a = some (.lst vs) ∧ Rps CT H vs ds F) ∧ H b = some (.lst ws) ∧ Rps CT H ws es G) (zpD ds es) where
  keep := fun W H H' ⟨⟨h, r⟩, h', r'⟩ f n => ⟨⟨f.keep _ _ h (n _ (List.mem_append_left _ List.mem_cons_self)), r.keep f fun b hb => n b (List.mem_append_left _ (List.mem_cons_of_mem _ hb))⟩,
    f.keep _ _ h' (n _ (List.mem_append_right _ List.mem_cons_self)), r'.keep f fun b hb => n b (List.mem_append_right _ (List.mem_cons_of_mem _ hb))⟩
  there := fun H ⟨⟨h, r⟩, h', r'⟩ b hb => (List.mem_append.mp hb).elim ((Rp.lst h r).tracked b) ((Rp.lst h' r').tracked b)
  go := fun i H ⟨⟨h, r⟩, h', r'⟩ hi => by
    rw [zpD_len, ← r.length, ← r'.length] at hi
    have h1 : i < vs.length := by omega
    have h2 : i < ws.length := by omega
    exact ⟨vs, ws, vs[i], ws[i], SqL.of h, SqL.of h', List.getElem?_eq_getElem h1, List.getElem?_eq_getElem h2⟩
  stop := fun H ⟨⟨h, r⟩, h', r'⟩ => ⟨vs, ws, SqL.of h, SqL.of h', by rw [zpD_len, ← r.length, ← r'.length]; omega⟩
  yld := fun i H x H' ⟨⟨h, r⟩, h', r'⟩ hi ⟨T, y, z, e, hT, e', hy, hz⟩ => by
    subst e e'
    obtain ⟨d1, G1, h1, h2, h3⟩ := r.getV (hy vs (SqL.of h))
    obtain ⟨d2, G2, k1, k2, k3⟩ := r'.getV (hz ws (SqL.of h'))
    refine ⟨_, G1 ++ (G2 ++ []), zpD_get ds es i d1 d2 h1 k1, Fr.new hT, .tup upd_same (.cons (h2.keep (W := fun _ => False) (Fr.new hT) fun _ _ z => z) (.cons (k2.keep (W := fun _ => False) (Fr.new hT) fun _ _ z => z) .nil)), fun b hb => ?_⟩
    rw [List.append_nil] at hb
    exact (List.mem_append.mp hb).elim (fun m => List.mem_append_left _ (List.mem_cons_of_mem _ (h3.mem m))) fun m => List.mem_append_right _ (List.mem_cons_of_mem _ (k3.mem m))
def mzQ (ds : List D) (Q : List D → Prop) : Prop := match ds with
  | [.lst xs, .lst ys] => Q (zpD xs ys)
  | [.tup xs, .tup ys] => Q (zpD xs ys)
  | _ => False
theorem mzQ_of {Q : List D → Prop} (q : mzQ ds Q) : (∃ xs ys, ds = [.lst xs, .lst ys] ∧ Q (zpD xs ys)) ∨ ∃ xs ys, ds = [.tup xs, .tup ys] ∧ Q (zpD xs ys) := by
  unfold mzQ at q
  split at q
  · exact .inl ⟨_, _, rfl, q⟩
  · exact .inr ⟨_, _, rfl, q⟩
  · exact q.elim
def mZip (r : XL) : XL := fun env Q => r env fun ds => mzQ ds Q
theorem mono_zip {r : XL} (h : Mono r) : Mono (mZip r) := fun env Q Q' k q => h env _ _ (fun ds q => by
  rcases mzQ_of q with ⟨xs, ys, rfl, q⟩ | ⟨xs, ys, rfl, q⟩
  · exact k _ q
  · exact k _ q) q
theorem simi_zip {t : TA} {r : XL} (s : SimL C Γ t A r) : SimI C Γ (RZ.iZipA K t) A (mZip r) := ⟨fun σ H env Fs R I h => s.run σ H env Fs _ I (s.mono env _ _ (fun ds q vs H1 F f dk rr k => by
    have kd := k.set I
    rcases mzQ_of q with ⟨xs, ys, rfl, q⟩ | ⟨xs, ys, rfl, q⟩
    · obtain ⟨v, w, G1, G2, rfl, r1, r2, rfl⟩ := rr.two_of
      cases r1 with
      | lst h1 p1 => cases r2 with
        | lst h2 p2 => exact ⟨_, _, _, _, rfl, .inl ⟨SqL.of h1, SqL.of h2, q H1 _ _ _ f dk walk_zpL ⟨⟨h1, p1⟩, h2, p2⟩ ⟨k.1, kd⟩⟩⟩
    · obtain ⟨v, w, G1, G2, rfl, r1, r2, rfl⟩ := rr.two_of
      cases r1 with
      | tup h1 p1 => cases r2 with
        | tup h2 p2 => exact ⟨_, _, _, _, rfl, .inr ⟨SqT.of h1, SqT.of h2, q H1 _ _ _ f dk walk_zpT ⟨⟨h1, p1⟩, h2, p2⟩ ⟨k.1, kd⟩⟩⟩) h), mono_zip s.mono⟩
instance {r : XL} [h : MX r] : MX (mZip r) := ⟨mono_zip h.mono⟩
end
/-- a built-in class by its name -/
theorem k_ty {X : Cx} {x : Str} {c : String} {pos : Pos} (hg : Gl X x) (hm : X.mg x = none) (hv : bootBuiltins x = some (.type c)) (hn : x ≠ "__name__" := by decide) (hd : (x == ("__debug__" : Str)) = false := by decide) : PE X (.Name x pos) (tC (.ty c)) :=
  pe_bltn hg hm hv rfl hn hd
theorem k_gtup {X : Cx} {K : PySem.W.Frag} {es : List Expr} {k : Nat} {t : TGs} {n : Nat} {pos : Pos} (hK : X.K = K) (hc : X.calm = true) (h : PGs X es t) (hn : (assignEach es X.env).length = n := by rfl) (hst : (assignEach es X.env).findIdx? (·.1) = none := by rfl) :
    PG X (.Tuple es k pos) (gTup K n t) := hK ▸ pg_tup hc h hn hst
end Pu

/-! file PuDraw -/
set_option Elab.async false
set_option linter.all false
set_option maxRecDepth 100000
/-! Pu: the dice: a list [cells, int, int, ..], changed in place by the def that draws. -/
namespace Pu
open PySem PySem.Spec PyProof.Rows L2

def dInts (zs : List Int) : List D := zs.map D.int
def vInts (zs : List Int) : List V := zs.map V.int
def dD (cs zs : List Int) : D := .lst (.lst (dInts cs) :: dInts zs)
structure DS (p : Addr × Addr) (H : Hp) (cs zs : List Int) : Prop where
  ne : p.1 ≠ p.2
  a1 : H p.1 = some (.lst (.ref p.2 :: vInts zs))
  a2 : H p.2 = some (.lst (vInts cs))
section
variable {C : Cfg} {Γ Γ' Γ1 Γ2 : List Mo} {σ σ' : L2.St} {H H' H1 H2 : Hp} {env env' tl : PEnv} {v : V} {d : D} {F G : List Addr} {ta tb te : TE} {A B : Kd} {m n : X1} {CT : Nat → Addr} {S : Stat} {p : Addr × Addr} {cs zs : List Int}
theorem rps_dInts : ∀ zs : List Int, Rps CT H (vInts zs) (dInts zs) []
  | [] => .nil
  | z :: zs => .cons (.int z) (rps_dInts zs)
theorem DS.rp (s : DS p H cs zs) : Rp CT H (.ref p.1) (dD cs zs) (p.1 :: (p.2 :: []) ++ []) := .lst s.a1 (.cons (.lst s.a2 (rps_dInts cs)) (rps_dInts zs))
/-- the state of the def that draws: slot 0 the dice, the other ones dInts -/
structure OkD (p : Addr × Addr) (Γ : List Mo) (σ : L2.St) (H : Hp) (cs zs : List Int) (tl : PEnv) : Prop where
  ds : DS p H cs zs
  l1 : tl.length = Γ.length
  l2 : σ.length = Γ.length + 1
  s0 : σ[0]? = some (some (.ref p.1))
  val : ∀ i : Nat, Γ[i]? = some .f → ∃ z, σ[i + 1]? = some (some (.int z)) ∧ tl[i]? = some (some (.int z))
  fx : ∀ (i : Nat) (mo : Mo), Γ[i]? = some mo → mo = .f ∨ mo = .x
abbrev C0 (S : Stat) : Cfg := ⟨S, none, []⟩
def eD (cs zs : List Int) (tl : PEnv) : PEnv := some (dD cs zs) :: tl
theorem OkD.ok (I : OkD p Γ σ H cs zs tl) : Ok (C0 S) (.f :: Γ) σ H (eD cs zs tl) (fun j => if j = 0 then p.1 :: (p.2 :: []) ++ [] else []) := by
  refine ⟨by simp [eD, I.l1], by simp [I.l2], fun i mo h l => ?_, fun i h => ?_, fun i h => ?_, fun i j mo h _ _ _ => ?_, fun _ _ _ _ => (fun _ e => nomatch e), (fun _ e => nomatch e), (fun _ e => nomatch e)⟩
  · cases i with
    | zero => exact ⟨_, _, I.s0, rfl, I.ds.rp⟩
    | succ i =>
      have h : Γ[i]? = some mo := by simpa using h
      rcases I.fx i mo h with e | e
      · subst e
        obtain ⟨z, h1, h2⟩ := I.val i h
        exact ⟨_, _, h1, by simpa [eD] using h2, .int z⟩
      · subst e; rcases l with l | l <;> cases l
  · cases i with
    | zero => cases h
    | succ i =>
      have h : Γ[i]? = some .q := by simpa using h
      rcases I.fx i _ h with e | e <;> cases e
  · cases i with
    | zero => cases h
    | succ i =>
      have h : Γ[i]? = some .o := by simpa using h
      rcases I.fx i _ h with e | e <;> cases e
  · cases i with
    | zero => cases h
    | succ i =>
      have h : Γ[i]? = some .o := by simpa using h
      rcases I.fx i _ h with e | e <;> cases e
abbrev WD (p : Addr × Addr) : Addr → Prop := fun a => a = p.1 ∨ a = p.2
theorem wq0 {a : Addr} : ¬ Wq (C0 S) a := fun ⟨_, e, _⟩ => nomatch e
theorem DS.keep {W : Addr → Prop} (s : DS p H cs zs) (f : Fr W H H') (n1 : ¬ W p.1) (n2 : ¬ W p.2) : DS p H' cs zs := ⟨s.ne, f.keep _ _ s.a1 n1, f.keep _ _ s.a2 n2⟩
theorem OkD.keep (I : OkD p Γ σ H cs zs tl) (f : Fr (Wq (C0 S)) H H') : OkD p Γ σ H' cs zs tl := ⟨I.ds.keep f wq0 wq0, I.l1, I.l2, I.s0, I.val, I.fx⟩
def wkD : List Mo → List Mo → Bool
  | [], [] => true
  | a :: r, b :: s => (decide (b = .x) || decide (a = b)) && wkD r s
  | _, _ => false
theorem wkD_at : ∀ {Γ Γ' : List Mo}, wkD Γ Γ' = true → Γ.length = Γ'.length ∧ ∀ (i : Nat) (mo : Mo), Γ'[i]? = some mo → mo = .x ∨ Γ[i]? = some mo
  | [], [], _ => ⟨rfl, fun i mo h => by simp at h⟩
  | a :: r, b :: s, h => by
    simp only [wkD, Bool.and_eq_true, Bool.or_eq_true, decide_eq_true_eq] at h
    obtain ⟨h1, h2⟩ := wkD_at h.2
    refine ⟨by simp [h1], fun i mo e => ?_⟩
    cases i with
    | zero =>
      simp at e; subst e
      rcases h.1 with z | z
      · exact .inl z
      · exact .inr (by simp [z])
    | succ i => simpa using h2 i mo (by simpa using e)
  | [], _ :: _, h => by simp [wkD] at h
  | _ :: _, [], h => by simp [wkD] at h
theorem OkD.weak (I : OkD p Γ σ H cs zs tl) (h : wkD Γ Γ' = true) : OkD p Γ' σ H cs zs tl := by
  obtain ⟨h1, h2⟩ := wkD_at h
  refine ⟨I.ds, I.l1.trans h1, by rw [I.l2, h1], I.s0, fun i e => ?_, fun i mo e => ?_⟩
  · rcases h2 i _ e with z | z
    · cases z
    · exact I.val i z
  · rcases h2 i _ e with z | z
    · exact .inr z
    · exact I.fx i mo z
structure DEnds where
  nx : List Int → List Int → PEnv → Prop
  rt : List Int → List Int → Int → Prop
abbrev XD := DEnds → List Int → List Int → PEnv → Prop
structure SimD (S : Stat) (p : Addr × Addr) (Γ Γ' : List Mo) (t : TS) (b : XD) : Prop where
  run : ∀ (σ : L2.St) (H : Hp) (cs zs : List Int) (tl : PEnv) (D : Ends) (E : DEnds), OkD p Γ σ H cs zs tl →
    (∀ σ' H' cs' zs' tl', OkD p Γ' σ' H' cs' zs' tl' → Fr (WD p) H H' → E.nx cs' zs' tl' → D.nx σ' H') →
    (∀ H' cs' zs' z, DS p H' cs' zs' → Fr (WD p) H H' → E.rt cs' zs' z → D.rt (.int z) H') → b E cs zs tl → t D σ H
def zSeq (a b : XD) : XD := fun E => a { E with nx := b E }
theorem simd_seq {t u : TS} {a b : XD} (s : SimD S p Γ Γ1 t a) (s' : SimD S p Γ1 Γ2 u b) : SimD S p Γ Γ2 (tSeq t u) (zSeq a b) :=
  ⟨fun σ H cs zs tl D E I nx rt h => s.run σ H cs zs tl { D with nx := u D } { E with nx := b E } I
    (fun σ1 H1 cs1 zs1 tl1 I1 f1 h1 => s'.run σ1 H1 cs1 zs1 tl1 D E I1 (fun _ _ _ _ _ I2 f2 q => nx _ _ _ _ _ I2 (f1.trans f2) q) (fun _ _ _ _ q f2 e => rt _ _ _ _ q (f1.trans f2) e) h1) rt h⟩
def zNext : XD := fun E => E.nx
theorem simd_next : SimD S p Γ Γ tNext zNext := ⟨fun σ H cs zs tl D E I nx rt h => nx _ _ _ _ _ I Fr.refl h⟩
theorem simd_weak {t : TS} {a : XD} (s : SimD S p Γ Γ1 t a) (h : wkD Γ1 Γ2 = true) : SimD S p Γ Γ2 t a :=
  ⟨fun σ H cs zs tl D E I nx rt q => s.run σ H cs zs tl D E I (fun _ _ _ _ _ I1 f e => nx _ _ _ _ _ (I1.weak h) f e) rt q⟩
def zIf (c : XB) (a b : XD) : XD := fun E cs zs tl => c (eD cs zs tl) fun k => if k = true then a E cs zs tl else b E cs zs tl
theorem simd_if {c : TT} {t u : TS} {mc : XB} {a b : XD} (s : SimT (C0 S) (.f :: Γ) c mc) (s1 : SimD S p Γ Γ1 t a) (s2 : SimD S p Γ Γ1 u b) : SimD S p Γ Γ1 (tIfS c t u) (zIf mc a b) :=
  ⟨fun σ H cs zs tl D E I nx rt h => s.run σ H _ _ _ I.ok (s.mono _ _ _ (fun k q H1 f dk => by
    have g : Fr (WD p) H H1 := f.mono fun _ w => (wq0 w).elim
    cases k with
    | true => exact s1.run σ H1 cs zs tl D E (I.keep f) (fun _ _ _ _ _ I1 f1 e => nx _ _ _ _ _ I1 (g.trans f1) e) (fun _ _ _ _ z f1 e => rt _ _ _ _ z (g.trans f1) e) q
    | false => exact s2.run σ H1 cs zs tl D E (I.keep f) (fun _ _ _ _ _ I1 f1 e => nx _ _ _ _ _ I1 (g.trans f1) e) (fun _ _ _ _ z f1 e => rt _ _ _ _ z (g.trans f1) e) q) h)⟩
def onI (d : D) (Q : Int → Prop) : Prop := match d with
  | .int z => Q z
  | _ => False
theorem onI_of {Q : Int → Prop} (h : onI d Q) : ∃ z, d = .int z ∧ Q z := by cases d <;> first | exact ⟨_, rfl, h⟩ | exact (show False from h).elim
def zRet (m : X1) : XD := fun E cs zs tl => m (eD cs zs tl) fun d => onI d fun z => E.rt cs zs z
theorem simd_ret (s : Sim (C0 S) (.f :: Γ) te A m) : SimD S p Γ Γ' (tRet te) (zRet m) :=
  ⟨fun σ H cs zs tl D E I nx rt h => s.run σ H _ _ _ I.ok (s.mono _ _ _ (fun d q v H1 F f dk r k => by
    obtain ⟨z, rfl, q⟩ := onI_of q
    cases r
    exact rt H1 cs zs z (I.keep f).ds (f.mono fun _ w => (wq0 w).elim) q) h)⟩
def zSet (i : Nat) (m : X1) : XD := fun E cs zs tl => m (eD cs zs tl) fun d => onI d fun z => E.nx cs zs (tl.set i (some (.int z)))
theorem simd_set {i : Nat} (hi : i < Γ.length) (s : Sim (C0 S) (.f :: Γ) te A m) : SimD S p Γ (Γ.set i .f) (tAsg te (gName (i + 1))) (zSet i m) :=
  ⟨fun σ H cs zs tl D E I nx rt h => s.run σ H _ _ _ I.ok (s.mono _ _ _ (fun d q v H1 F f dk r k => by
    obtain ⟨z, rfl, q⟩ := onI_of q
    cases r
    have J := I.keep f
    refine nx _ H1 cs zs _ ⟨J.ds, by simp [J.l1], by simp [J.l2], by rw [List.getElem?_set_ne (by omega)]; exact J.s0, fun j e => ?_, fun j mo e => ?_⟩ (f.mono fun _ w => (wq0 w).elim) q
    · rcases get_set e with ⟨rfl, _, _⟩ | ⟨ne, e⟩
      · exact ⟨z, by rw [List.getElem?_set_self (by rw [J.l2]; omega)], by rw [List.getElem?_set_self (by rw [J.l1]; exact hi)]⟩
      · obtain ⟨y, h1, h2⟩ := J.val j e
        exact ⟨y, by rw [List.getElem?_set_ne (by omega)]; exact h1, by rw [List.getElem?_set_ne (Ne.symm ne)]; exact h2⟩
    · rcases get_set e with ⟨_, e, _⟩ | ⟨_, e⟩
      · exact .inl e
      · exact J.fx j mo e) h)⟩
/-- dice[k + 1] = an int -/
def zPut (k : Nat) (m : X1) : XD := fun E cs zs tl => m (eD cs zs tl) fun d => onI d fun z => k < zs.length ∧ zs.length < 100 ∧ E.nx cs (zs.set k z) tl
theorem simd_put {k : Nat} (hk : k < 90) (s : Sim (C0 S) (.f :: Γ) te A m) : SimD S p Γ Γ (tAsg te (gSub (tVar 0) (tC (.int ((k + 1 : Nat) : Int))) rSetU)) (zPut k m) :=
  ⟨fun σ H cs zs tl D E I nx rt h => s.run σ H _ _ _ I.ok (s.mono _ _ _ (fun d q v H1 F f dk r kk => by
    obtain ⟨z, rfl, h1, h2, q⟩ := onI_of q
    cases r
    have J := I.keep f
    have e1 : ((V.ref p.2 :: vInts zs).set (k + 1) (V.int z)) = V.ref p.2 :: vInts (zs.set k z) := by simp [vInts, List.map_set]
    have hl : (V.ref p.2 :: vInts zs).length = zs.length + 1 := by simp [vInts]
    refine ⟨_, J.s0, .inl ?_⟩
    refine ⟨p.1, _, _, k + 1, rfl, rfl, J.ds.a1, ?_, ?_⟩
    · rw [hl]
      unfold ixN
      rw [if_pos (by omega)]
      rw [if_pos (by omega)]
      rfl
    · rw [e1]
      refine nx σ _ cs _ tl ⟨⟨J.ds.ne, L2.upd_same, by rw [L2.upd_ne (Ne.symm J.ds.ne)]; exact J.ds.a2⟩, J.l1, J.l2, J.s0, J.val, J.fx⟩ ((f.mono fun _ w => (wq0 w).elim).trans (Fr.at (.inl rfl) J.ds.a1 rfl)) q) h)⟩
/-- what stands of the dice between draws -/
def DQi (Iv : List Int → List Int → Prop) : Addr × Addr → HO → HO → Prop := fun p o u => ∃ cs zs, Iv cs zs ∧ p.1 ≠ p.2 ∧ o = .lst (.ref p.2 :: vInts zs) ∧ u = .lst (vInts cs)
/-- a draw: any number below the sides -/
def mDraw : XF := fun ds Q => match ds with
  | [_, .int n] => 0 < n ∧ n < 2 ^ 30 ∧ ∀ r, 0 ≤ r → r < n → Q (.int r)
  | _ => False
theorem mDraw_of {ds : List D} {Q : D → Prop} (h : mDraw ds Q) : ∃ d n, ds = [d, .int n] ∧ 0 < n ∧ n < 2 ^ 30 ∧ ∀ r, 0 ≤ r → r < n → Q (.int r) := by
  unfold mDraw at h
  split at h
  · exact ⟨_, _, rfl, h⟩
  · exact h.elim
theorem mo_mDraw : MonoF mDraw := fun ds Q Q' k h => by
  obtain ⟨d, n, rfl, h1, h2, h3⟩ := mDraw_of h
  exact ⟨h1, h2, fun r a b => k _ (h3 r a b)⟩
instance : MF mDraw := ⟨mo_mDraw⟩
theorem draw_ok {P : Program} {w : World} {K : PySem.W.Frag} {mg : Str → Option Value} {base : Heap} {x qual : Str} {st : Stmt} {f : Addr} {fd : FuncData} {N ps : List Str} {k : Nat} {S : Stat} {b : XD} {Γe : List Mo} {Iv : List Int → List Int → Prop}
    (Fn : Fun K x qual st f fd) (Sc : FnScope N ps (defScope st)) (hp : ps.length = 2) (hN : N.length = 5) (hS : S.DQ = DQi Iv)
    (hbody : ∀ (cdv : Value) (A : Around) (outer : List Env) (s : Shared) (H : Hp) (E : XK), Room k (A.deeper (envOfC qual (defScope st) s.heap.objs.size f cdv)) →
      ∃ t, PSs (cxOf CX0 P w K mg base N qual (defScope st) f cdv A outer s H E).nox (defBody st) t ∧ ∀ p, SimD S p [.f, .x, .x, .x] Γe t b)
    (hpure : ∀ cs zs n, Iv cs zs → 0 < n → n < 2 ^ 30 → b ⟨fun _ _ _ => False, fun cs' zs' z => Iv cs' zs' ∧ 0 ≤ z ∧ z < n⟩ cs zs [some (.int n), none, none, none]) :
    FnOk P w K mg base CX0 (k + 1) f fd ps (SpM S [true, false] mDraw) := by
  refine Fn.ok Sc (fun vs H Q E ⟨C, ds, F, _, _, a, _⟩ => by rw [a.len.1, hp]; rfl) (fun cdv A outer s H vs Q E hr ⟨C, ds, F, hC, hpn, a, dk, nq, q⟩ => ?_)
  obtain ⟨t, ht, hs⟩ := hbody cdv A outer s H E hr
  obtain ⟨d, n, rfl, h1, h2, h3⟩ := mDraw_of q
  cases a with
  | @dice p pm' vs' ds' F' e a =>
    cases a with
    | val r a =>
      cases a
      cases r
      obtain ⟨o, u, e1, e2, e3⟩ := (dk p e).ex
      have hD : C.DQ = DQi Iv := by rw [← hS, ← hC]
      rw [hD] at e3
      obtain ⟨cs, zs, iv, ne, rfl, rfl⟩ := e3
      have I : OkD p [.f, .x, .x, .x] (L2.start N [.ref p.1, .int n]) H cs zs [some (.int n), none, none, none] := by
        refine ⟨⟨ne, e1, e2⟩, rfl, by simp [L2.start, hN], rfl, fun i h => ?_, fun i mo h => ?_⟩
        · match i, h with
          | 0, _ => exact ⟨n, rfl, rfl⟩
          | 1, h => cases h
          | 2, h => cases h
          | 3, h => cases h
          | i + 4, h => simp at h
        · match i, h with
          | 0, h => exact .inl (Option.some.inj h).symm
          | 1, h => exact .inr (Option.some.inj h).symm
          | 2, h => exact .inr (Option.some.inj h).symm
          | 3, h => exact .inr (Option.some.inj h).symm
          | i + 4, h => simp at h
      refine ⟨t, ht, (hs p).run _ H cs zs _ _ ⟨fun _ _ _ => False, fun cs' zs' z => Iv cs' zs' ∧ 0 ≤ z ∧ z < n⟩ I (fun _ _ _ _ _ _ _ q => q.elim) (fun H' cs' zs' z ds f ⟨iv', z1, z2⟩ => ?_) (hpure cs zs n iv h1 h2)⟩
      refine h3 z z1 z2 (.int z) H' [] (f.mono fun a ha => ⟨p, e, ha⟩) (fun p' e' => ?_) (.int z) List.nodup_nil fun _ m => nomatch m
      rw [e] at e'; cases e'
      exact ⟨_, _, ds.a1, ds.a2, by rw [hD]; exact ⟨cs', zs', iv', ne, rfl, rfl⟩⟩
instance {r : XL} [h : MX r] : MX (xDice r) := ⟨fun env Q Q' k q => h.mono env _ _ (fun ds q => k _ q) q⟩
end
end Pu

/-! file PuDraw2 -/
set_option Elab.async false
set_option linter.all false
set_option maxRecDepth 100000
namespace Pu
open PySem PySem.Spec PyProof.Rows L2
def oModZ : O2 := oIc (fun _ j => j ≠ 0) fun i j => .int (i.fmod j)
def oMulZ : O2 := oIc CMul fun i j => .int (i * j)
def oDivZ : O2 := oIc CDivN fun i j => .int (i.fdiv j)
abbrev dxi (k : Int) : X1 := x2 oIx (xVar 0) (xC (.int k))
def bDrawA : XD := zIf (bAnd (bTest (x2 oEq (dxi 2) (xC (.int 0)))) (bTest (x2 (oI fun i j => .bl (decide (i < j))) (dxi 1) (x1 oLen (dxi 0))))) (zSeq (zSet 1 (x2 oIx (dxi 0) (dxi 1))) (zSeq (zPut 0 (x2 oAdd (dxi 1) (xC (.int 1)))) (zIf (bTest (x2 (oI fun i j => .bl (decide (j ≤ i))) (xVar 2) (x2 (oIc CPow fun i j => .int (i ^ j.toNat)) (xC (.int 10)) (xC (.int 18))))) (zPut 1 (xVar 2)) (zPut 2 (x2 oModZ (x1 oInt (x2 oAdd (x2 oAdd (x2 oMulZ (dxi 3) (xC (.int 69621))) (x2 oMulZ (xVar 2) (xC (.int 40692)))) (dxi 1))) (xC (.int 2147483647))))))) zNext
def bDrawB : XD := zIf (bTest (x2 (oI fun i j => .bl (decide (j < i))) (dxi 2) (xC (.int 0)))) (zSeq (zSet 2 (x2 oModZ (x1 oInt (dxi 2)) (xVar 1))) (zSeq (zPut 1 (x2 oDivZ (x1 oInt (dxi 2)) (xVar 1))) (zRet (xVar 3)))) zNext
def bDrawC : XD := zSeq (zPut 3 (x2 oAdd (dxi 4) (xC (.int 1)))) (zSeq (zPut 2 (x2 oModZ (x1 oInt (x2 oAdd (x2 oAdd (x2 oMulZ (dxi 3) (xC (.int 48271))) (x2 oMulZ (dxi 4) (xC (.int 7919)))) (xC (.int 1)))) (xC (.int 2147483647)))) (zSeq (zSet 3 (x2 oModZ (x1 oInt (x2 oMulZ (dxi 3) (x2 oAdd (x2 oDivZ (dxi 3) (xC (.int 1009))) (xC (.int 69623))))) (xC (.int 2147483399)))) (zSeq (zSet 3 (x2 oModZ (x1 oInt (x2 oMulZ (xVar 4) (x2 oAdd (x2 oDivZ (xVar 4) (xC (.int 2003))) (xC (.int 40693))))) (xC (.int 2147483563)))) (zRet (x2 oModZ (x1 oInt (x2 oDivZ (xVar 4) (xC (.int 16)))) (xVar 1))))))
def bDraw : XD := zSeq bDrawA (zSeq bDrawB bDrawC)
def IvDraw (cs zs : List Int) : Prop := cs.length ≤ 63 ∧ ∃ i b m c, zs = [i, b, m, c] ∧ 0 ≤ i ∧ 0 ≤ m ∧ m < 2147483647
section
variable {cs : List Int} {i b m c n z : Int} {tl : PEnv} {Q : D → Prop} {E : DEnds} {e2 e3 e4 : Option D}
theorem dx0 : dxi 0 (eD cs [i, b, m, c] tl) Q = Q (.lst (dInts cs)) := rfl
theorem dx1 : dxi 1 (eD cs [i, b, m, c] tl) Q = Q (.int i) := rfl
theorem dx2 : dxi 2 (eD cs [i, b, m, c] tl) Q = Q (.int b) := rfl
theorem dx3 : dxi 3 (eD cs [i, b, m, c] tl) Q = Q (.int m) := rfl
theorem dx4 : dxi 4 (eD cs [i, b, m, c] tl) Q = Q (.int c) := rfl
theorem dv1 {d : D} : xVar 1 (eD cs [i, b, m, c] [some d, e2, e3, e4]) Q = Q d := rfl
theorem dv2 {d e : D} : xVar 2 (eD cs [i, b, m, c] [some d, some e, e3, e4]) Q = Q e := rfl
theorem dv3 {d e : D} : xVar 3 (eD cs [i, b, m, c] [some d, e2, some e, e4]) Q = Q e := rfl
theorem dv4 {d e : D} : xVar 4 (eD cs [i, b, m, c] [some d, e2, e3, some e]) Q = Q e := rfl
theorem atD_dInts (h0 : 0 ≤ i) (h1 : i < cs.length) (q : ∀ c, Q (.int c)) : atD (dInts cs) i Q := by
  unfold atD atI ixN
  have hl : (dInts cs).length = cs.length := by simp [dInts]
  rw [hl, if_pos h0, if_pos h1]
  have hj : i.toNat < cs.length := by omega
  have e : (dInts cs)[i.toNat]? = some (.int cs[i.toNat]) := by
    unfold dInts
    rw [List.getElem?_map, List.getElem?_eq_getElem hj] <;> rfl
  show (match (dInts cs)[i.toNat]? with | some x => Q x | none => False)
  rw [e]
  exact q _
theorem add_z {i j : Int} : oAdd (.int i) (.int j) Q = Q (.int (i + j)) := rfl
theorem mod_z {i j : Int} : oModZ (.int i) (.int j) Q = (j ≠ 0 ∧ Q (.int (i.fmod j))) := rfl
theorem mul_z {i j : Int} : oMulZ (.int i) (.int j) Q = (CMul i j ∧ Q (.int (i * j))) := rfl
theorem div_z {i j : Int} : oDivZ (.int i) (.int j) Q = (CDivN i j ∧ Q (.int (i.fdiv j))) := rfl
theorem int_z {i : Int} : oInt (.int i) Q = Q (.int i) := rfl
theorem mul_c {i j : Int} (h : -(2 ^ 64) < j ∧ j < 2 ^ 64) : CMul i j := .inr h
theorem fmod_lt {i j : Int} (h : 0 < j) : 0 ≤ i.fmod j ∧ i.fmod j < j := ⟨Int.fmod_nonneg_of_pos i h, Int.fmod_lt_of_pos i h⟩
theorem nz1 : (2147483647 : Int) ≠ 0 := by decide
theorem nz2 : (2147483399 : Int) ≠ 0 := by decide
theorem nz3 : (2147483563 : Int) ≠ 0 := by decide
theorem drawC_ok (hn : 0 < n) (hn2 : n < 2 ^ 30) (hi : 0 ≤ i) (hcs : cs.length ≤ 63) :
    bDrawC ⟨fun _ _ _ => False, fun cs' zs' z => IvDraw cs' zs' ∧ 0 ≤ z ∧ z < n⟩ cs [i, b, m, c] [some (.int n), e2, e3, e4] := by
  have h1 := fmod_lt (i := m * 48271 + (c + 1) * 7919 + 1) (j := 2147483647) (by decide)
  refine ⟨by simp, by simp, mul_c (by decide), mul_c (by decide), nz1, by simp, by simp, ⟨by decide, by decide⟩, .inl ⟨?_, ?_⟩, nz2, ⟨by decide, by decide⟩, .inl ⟨?_, ?_⟩, nz3, ⟨by decide, by decide⟩, by omega, ⟨hcs, _, _, _, _, rfl, hi, h1.1, h1.2⟩, ?_⟩
  · exact Int.lt_of_lt_of_le (by decide) h1.1
  · exact Int.lt_trans h1.2 (by decide)
  · exact Int.lt_of_lt_of_le (by decide) (fmod_lt (by decide)).1
  · exact Int.lt_trans (fmod_lt (by decide)).2 (by decide)
  · exact fmod_lt hn
theorem drawB_ok (hn : 0 < n) (hn2 : n < 2 ^ 30) (hi : 0 ≤ i) (hcs : cs.length ≤ 63) (m0 : 0 ≤ m) (m1 : m < 2147483647) :
    zSeq bDrawB bDrawC ⟨fun _ _ _ => False, fun cs' zs' z => IvDraw cs' zs' ∧ 0 ≤ z ∧ z < n⟩ cs [i, b, m, c] [some (.int n), e2, e3, e4] := by
  show (if decide (0 < b) = true then _ else _)
  split
  · exact ⟨by omega, ⟨by omega, by omega⟩, by simp, by simp, ⟨hcs, _, _, _, _, rfl, hi, m0, m1⟩, fmod_lt hn⟩
  · exact drawC_ok hn hn2 hi hcs
theorem pure_draw : ∀ cs zs n, IvDraw cs zs → 0 < n → n < 2 ^ 30 → bDraw ⟨fun _ _ _ => False, fun cs' zs' z => IvDraw cs' zs' ∧ 0 ≤ z ∧ z < n⟩ cs zs [some (.int n), none, none, none] := by
  rintro cs zs n ⟨hcs, i, b, m, c, rfl, hi, m0, m1⟩ hn hn2
  have B : ∀ (i b m c : Int) (e2 e3 e4 : Option D), 0 ≤ i → 0 ≤ m → m < 2147483647 → zSeq bDrawB bDrawC ⟨fun _ _ _ => False, fun cs' zs' z => IvDraw cs' zs' ∧ 0 ≤ z ∧ z < n⟩ cs [i, b, m, c] [some (.int n), e2, e3, e4] :=
    fun i b m c e2 e3 e4 a a1 a2 => drawB_ok hn hn2 a hcs a1 a2
  generalize hE : zSeq bDrawB bDrawC ⟨fun _ _ _ => False, fun cs' zs' z => IvDraw cs' zs' ∧ 0 ≤ z ∧ z < n⟩ = R at B
  show bDrawA ⟨zSeq bDrawB bDrawC ⟨fun _ _ _ => False, fun cs' zs' z => IvDraw cs' zs' ∧ 0 ≤ z ∧ z < n⟩, _⟩ cs [i, b, m, c] [some (.int n), none, none, none]
  rw [hE]
  refine ⟨rfl, rfl, ?_⟩
  show (if D.eqb (.int b) (.int 0) = true then _ else _)
  split
  · rename_i hb
    show (if decide (i < ((dInts cs).length : Nat)) = true then _ else _)
    split
    · rename_i hlt
      have hl : (dInts cs).length = cs.length := by simp [dInts]
      have hlt : i < cs.length := by rw [← hl]; exact of_decide_eq_true hlt
      refine atD_dInts hi hlt fun z => ⟨by simp, by simp, ⟨by decide, by decide, by decide⟩, ?_⟩
      show (if decide _ = true then _ else _)
      split
      · exact ⟨by simp, by simp, B (i + 1) z m c _ _ _ (by omega) m0 m1⟩
      · refine ⟨mul_c (by decide), mul_c (by decide), nz1, by simp, by simp, B (i + 1) b _ c _ _ _ (by omega) (fmod_lt (by decide)).1 (fmod_lt (by decide)).2⟩
    · exact B i b m c none none none hi m0 m1
  · exact B i b m c none none none hi m0 m1
end
end Pu

/-! file PuLaw -/
set_option Elab.async false
set_option linter.all false
set_option maxRecDepth 100000
/-! Pu: a law's own def: the script, the dice, the rest. -/
namespace Pu
open PySem PySem.Spec PyProof.Rows L2
section
variable {C : Cfg} {Γ Γ' Γn Γl Γo Γt Γe Γ1 Γ2 : List Mo} {σ σ' : L2.St} {H H' H1 H2 : Hp} {env env' : PEnv} {v : V} {d : D} {ds : List D} {S : Stat} {K : PySem.W.Frag} {ns : List Int}
/-- a new list of ints -/
def wNew (ms : List Int) : TI := fun σ H R => ∀ c, H c = none → R (Itl K c) (upd H c (.lst (vInts ms)))
theorem simi_new {ms : List Int} : SimI (C0 S) Γ (wNew (K := K) ms) .own (fun env Q => Q (dInts ms)) :=
  ⟨fun σ H env Fs R I h c hc => h _ _ [c] _ (Fr.new hc) (fun p e => nomatch e) (walk_lst (F := [])) ⟨upd_same, rps_dInts ms⟩ ⟨fun _ e => (nomatch e), fun a ha i g hb => by
    rw [List.mem_singleton.mp ha] at hb
    exact absurd hc (I.tracked g (.inl rfl) c hb)⟩, fun env Q Q' k q => k _ q⟩
def teDice (wi : TI) : TE := tLst (tCons (tLc wi (gName 1) tYes (tCB rAbs (tCons (tCB rInt1 (tCons (tVar 1) tNil)) tNil)) [1]) (tCons (tC (.int 0)) (tCons (tC (.int 0)) (tCons (tC (.int 1)) (tCons (tC (.int 0)) tNil)))))
def xDiceL (mi : XL) : X1 := xLst (xCons (xLc mi (bName 1) bYes (x1 oAbs (x1 oInt (xVar 1)))) (xCons (xC (.int 0)) (xCons (xC (.int 0)) (xCons (xC (.int 1)) (xCons (xC (.int 0)) xNil)))))
theorem sim_teDice {wi : TI} {mi : XL} (s : SimI (C0 S) [.x, .x] wi .own mi) : Sim (C0 S) [.x, .x] (teDice wi) .own (xDiceL mi) :=
  sim_lst (siml_cons (sim_lc (Γf := [.x, .x]) (ws := [1]) (ks := [1]) (by intro k hk; exact free_nil) s rfl rfl (simg_name (i := 1) free_nil (by decide) (by decide)) (by decide) simt_yes (sim_call1 sc_abs (sim_call1 sc_int (sim_varF (i := 1) rfl)))) (siml_cons sim_int (siml_cons sim_int (siml_cons sim_int (siml_cons sim_int siml_nil)))))
theorem lc_abs {env : PEnv} (he : env.length = 2) : ∀ (ms : List Int) (acc : List Int) (Q : List D → Prop), acc.length + ms.length ≤ 63 → (∀ cs : List Int, cs.length ≤ 63 → Q (dInts cs)) → lcLoop (bName 1) bYes (x1 oAbs (x1 oInt (xVar 1))) env (dInts ms) (dInts acc) Q
  | [], acc, Q, h, q => q acc (by simpa using h)
  | m :: ms, acc, Q, h, q => by
    match env, he with
    | [a, b], _ =>
      have hl : (dInts acc).length = acc.length := by simp [dInts]
      have h63 : 63 < sizeLine := by decide
      simp at h
      refine ⟨by rw [hl]; omega, ?_⟩
      have := lc_abs (env := [a, b]) rfl ms (acc ++ [if m < 0 then -m else m]) Q (by simp; omega) q
      simpa [dInts] using this
def spDice (K : PySem.W.Frag) : Sp := fun vs H Q _ => ∃ (a : Addr) (ns : List Int), vs = [.ref a] ∧ SqL K H a (ns.map V.int) ∧ ns.length ≤ 63 ∧
  ∀ (p : Addr × Addr) (H' : Hp) (cs zs : List Int), IvDraw cs zs → DS p H' cs zs → Fr (fun _ => False) H H' → Q (.ref p.1) H'
theorem cut_ints (ns : List Int) (lo hi : Option Int) : ∃ ms : List Int, cutV (ns.map V.int) lo hi = vInts ms ∧ ms.length ≤ ns.length := by
  refine ⟨(ns.drop (HT.sIx (ns.map V.int).length 0 lo)).take (HT.sIx (ns.map V.int).length (ns.map V.int).length hi - HT.sIx (ns.map V.int).length 0 lo), ?_, ?_⟩
  · unfold cutV vInts
    rw [List.map_take, List.map_drop]
  · rw [List.length_take, List.length_drop]
    omega
end
theorem dice_ok {P : Program} {w : World} {K : PySem.W.Frag} {mg : Str → Option Value} {base : Heap} {x qual : Str} {st : Stmt} {f : Addr} {fd : FuncData} {k : Nat}
    (Fn : Fun K x qual st f fd) (Sc : FnScope ["script", "cell"] ["script"] (defScope st))
    (hbody : ∀ (cdv : Value) (A : Around) (outer : List Env) (s : Shared) (H : Hp) (E : XK), Room k (A.deeper (envOfC qual (defScope st) s.heap.objs.size f cdv)) →
      PSs (cxOf CX0 P w K mg base ["script", "cell"] qual (defScope st) f cdv A outer s H E).nox (defBody st) (tRet (teDice (iSeq K (tSl (rSlL K) (tVar 0) tNoPart (tPart (tC (.int 63)))))))) :
    FnOk P w K mg base CX0 (k + 1) f fd ["script"] (spDice K) := by
  refine Fn.ok Sc (fun vs H Q E ⟨a, ns, e, _⟩ => by rw [e]; rfl) (fun cdv A outer s H vs Q E hr ⟨a, ns, e, hS, hl, q⟩ => ?_)
  subst e
  refine ⟨_, hbody cdv A outer s H E hr, ?_⟩
  obtain ⟨ms, e1, e2⟩ := cut_ints ns none (some 63)
  have I : Ok (C0 (⟨fun _ => 0, fun _ _ _ => True⟩ : Stat)) [.x, .x] (L2.start ["script", "cell"] [.ref a]) H [none, none] (fun _ => []) := by
    refine ⟨rfl, rfl, fun i m h l => ?_, fun i h => ?_, fun i h => ?_, fun i j m h => ?_, fun _ _ _ _ _ e => (nomatch e), (fun _ e => nomatch e), (fun _ e => nomatch e)⟩
    all_goals
      match i, h with
      | 0, h => first | (cases h; rcases l with l | l <;> cases l) | cases h
      | 1, h => first | (cases h; rcases l with l | l <;> cases l) | cases h
      | i + 2, h => simp at h
  have key := (sim_teDice (S := ⟨fun _ => 0, fun _ _ _ => True⟩) (simi_new (K := K) (ms := ms))).run _ H _ _ Q I ?_
  · refine ⟨.ref a, rfl, 63, rfl, a, _, rfl, hS, fun c hc => ⟨c, rfl, .inl ⟨⟨_, SqL.of upd_same⟩, ?_⟩⟩⟩
    rw [e1]
    exact key c hc
  · refine lc_abs rfl ms [] _ (by simp; omega) fun cs hcs => ⟨by show 5 ≤ sizeLine; decide, fun v H' F f dk r kd => ?_⟩
    have aux : ∀ (zs : List Int) (vs : List V) (F : List Addr), Rps (C0 (⟨fun _ => 0, fun _ _ _ => True⟩ : Stat)).CT H' vs (dInts zs) F → vs = vInts zs := by
      intro zs
      induction zs with
      | nil => intro vs F r; cases r; rfl
      | cons c zs ih =>
        intro vs F r
        cases r with
        | cons q r =>
          cases q
          rw [ih _ _ r]
          rfl
    cases r with
    | @lst a1 vs0 _ F0 h1 r1 =>
      cases r1 with
      | @cons v1 _ Fa Ga vs1 _ q1 r2 =>
        cases q1 with
        | @lst a2 vs2 _ F2 h2 r3 =>
          have z1 := aux [0, 0, 1, 0] _ _ r2
          have z2 := aux cs _ _ r3
          subst z1 z2
          refine q (a1, a2) H' cs [0, 0, 1, 0] ⟨hcs, _, _, _, _, rfl, by decide, by decide, by decide⟩ ⟨fun e => ?_, h1, h2⟩ (f.mono fun _ w => (wq0 w).elim)
          have e : a1 = a2 := e
          rw [e, h2] at h1
          have h1 := Option.some.inj h1
          cases cs <;> simp [vInts] at h1
def spLaw (K : PySem.W.Frag) : Sp := fun vs H Q _ => ∃ (a : Addr) (ns : List Int), vs = [.ref a] ∧ SqL K H a (ns.map V.int) ∧ ns.length ≤ 63 ∧ ∀ H', Q (.bl true) H'
def gamL (n : Nat) : List Mo := .x :: .q :: List.replicate n .x
def lawEnds : PEnds := { nx := fun _ => False, rt := fun d => d = .bl true, bk := fun _ => False, ct := fun _ => False }
theorem law_ok {P : Program} {w : World} {K : PySem.W.Frag} {mg : Str → Option Value} {base : Heap} {x qual : Str} {st : Stmt} {f : Addr} {fd : FuncData} {N : List Str} {k n : Nat} {S : Stat} {b : XS} {Γe : List Mo}
    (Fn : Fun K x qual st f fd) (Sc : FnScope N ["script"] (defScope st)) (hN : N.length = n + 2) (hS : S.DQ = DQi IvDraw)
    (hbody : ∀ (cdv : Value) (A : Around) (outer : List Env) (s : Shared) (H : Hp) (E : XK), Room k (A.deeper (envOfC qual (defScope st) s.heap.objs.size f cdv)) →
      ∃ t, PSs (cxOf CX0 P w K mg base N qual (defScope st) f cdv A outer s H E).nox (defBody st) (tSeq (tAsg (tCall (spDice K) [] E0 (tCons (tVar 0) tNil)) (gName 1)) t) ∧ ∀ q, SimS ⟨S, q, []⟩ [] (gamL n) Γe t b)
    (hpure : b lawEnds (List.replicate (n + 2) none)) : FnOk P w K mg base CX0 (k + 1) f fd ["script"] (spLaw K) := by
  refine Fn.ok Sc (fun vs H Q E ⟨a, ns, e, _⟩ => by rw [e]; rfl) (fun cdv A outer s H vs Q E hr ⟨a, ns, e, hS1, hl, q⟩ => ?_)
  subst e
  obtain ⟨t, ht, hs⟩ := hbody cdv A outer s H E hr
  refine ⟨_, ht, ?_⟩
  refine ⟨.ref a, ?_, a, ns, rfl, hS1, hl, fun p H' cs zs iv ds ff => ?_⟩
  · unfold L2.start; rfl
  have hl2 : (L2.start N [.ref a]).length = n + 2 := by unfold L2.start; simp [hN]
  have I : Ok ⟨S, some p, []⟩ (gamL n) ((L2.start N [.ref a]).set 1 (some (.ref p.1))) H' (List.replicate (n + 2) none) (fun _ => []) := by
    refine ⟨by simp [gamL], by rw [List.length_set, hl2]; simp [gamL], fun i m h l => ?_, fun i h => ?_, fun i h => ?_, fun i j m h => ?_, fun _ _ _ _ => NoQ.nil, fun p' e => ?_, fun _ e => nomatch e⟩
    · match i, h with
      | 0, h => cases h; rcases l with l | l <;> cases l
      | 1, h => cases h; rcases l with l | l <;> cases l
      | i + 2, h =>
        have h : (List.replicate n Mo.x)[i]? = some m := h
        rw [List.getElem?_replicate] at h
        split at h <;> cases h
        rcases l with l | l <;> cases l
    · match i, h with
      | 0, h => cases h
      | 1, h => exact ⟨p, rfl, by rw [List.getElem?_set_self (by rw [hl2]; omega)]⟩
      | i + 2, h =>
        have h : (List.replicate n Mo.x)[i]? = some .q := h
        rw [List.getElem?_replicate] at h
        split at h <;> cases h
    · match i, h with
      | 0, h => cases h
      | 1, h => cases h
      | i + 2, h =>
        have h : (List.replicate n Mo.x)[i]? = some .o := h
        rw [List.getElem?_replicate] at h
        split at h <;> cases h
    · match i, h with
      | 0, h => cases h
      | 1, h => cases h
      | i + 2, h =>
        have h : (List.replicate n Mo.x)[i]? = some .o := h
        rw [List.getElem?_replicate] at h
        split at h <;> cases h
    · cases e
      exact ⟨_, _, ds.a1, ds.a2, by show S.DQ _ _ _; rw [hS]; exact ⟨cs, zs, iv, ds.ne, rfl, rfl⟩⟩
  refine (hs (some p)).run _ H' _ _ _ lawEnds I ⟨fun _ _ _ _ _ _ z => z.elim, fun _ _ _ _ _ _ z => z.elim, fun _ _ _ _ _ _ z => z.elim, fun v H2 d F _ _ r _ _ _ e => ?_⟩ hpure
  have e : d = .bl true := e
  subst e
  cases r
  exact q _
end Pu

/-! file PuSort -/
set_option Elab.async false
set_option linter.all false
set_option maxRecDepth 100000
/-! Pu: sorted of a list of tuples of ints, any number of any lengths above 0. -/
namespace PuS
open PySem PySem.Spec PyProof.Rows SrtO
open HT (lexLt)
theorem lex_irr : ∀ a : List Int, lexLt a a = false
  | [] => rfl
  | x :: a => by rw [HT.lexLt_cons, if_pos rfl]; exact lex_irr a
theorem lex_asym : ∀ a b : List Int, lexLt a b = true → lexLt b a = false
  | [], [], h => rfl
  | [], _ :: _, h => rfl
  | _ :: _, [], h => by cases h
  | x :: a, y :: b, h => by
    rw [HT.lexLt_cons] at h ⊢
    by_cases e : x = y
    · rw [if_pos e] at h
      rw [if_pos e.symm]
      exact lex_asym a b h
    · rw [if_neg e, decide_eq_true_eq] at h
      rw [if_neg (Ne.symm e), decide_eq_false_iff_not]
      omega
theorem lex_tr : ∀ a b c : List Int, lexLt b a = false → lexLt c b = false → lexLt c a = false
  | [], b, [], _, _ => rfl
  | [], _ :: _, _ :: _, _, _ => rfl
  | [], [], _ :: _, _, _ => rfl
  | _ :: _, [], _, h, _ => by cases h
  | _ :: _, _ :: _, [], _, h => by cases h
  | x :: a, y :: b, z :: c, h1, h2 => by
    rw [HT.lexLt_cons] at h1 h2 ⊢
    by_cases e1 : y = x
    · by_cases e2 : z = y
      · rw [if_pos e1] at h1
        rw [if_pos e2] at h2
        rw [if_pos (e2.trans e1)]
        exact lex_tr a b c h1 h2
      · rw [if_neg e2, decide_eq_false_iff_not] at h2
        rw [if_neg (by omega), decide_eq_false_iff_not]
        omega
    · rw [if_neg e1, decide_eq_false_iff_not] at h1
      by_cases e2 : z = y
      · rw [if_neg (by omega), decide_eq_false_iff_not]
        omega
      · rw [if_neg e2, decide_eq_false_iff_not] at h2
        rw [if_neg (by omega), decide_eq_false_iff_not]
        omega
theorem swo_lexL {α : Type} (k : α → List Int) : Swo fun v u => lexLt (k v) (k u) := ⟨fun x y h => lex_asym _ _ h, fun x y z h1 h2 => lex_tr _ _ _ h1 h2⟩
section
variable {prog : Program} {w : World} {A : Around} {E : Value → Shared → Prop} {s : Shared}
theorem lexl {Q : Bool → Shared → Prop} {b fin : Bool} {xs ys : List Value} {ns ms : List Int} (i : Nat) (hx : IntsAre xs ns) (hy : IntsAre ys ms) (hf : fin = decide (ns.length < ms.length)) (h : Q (lexLt ns ms) s) : PySem.W.KatLex prog w A b fin Q (xs.zip ys) i s := by
  induction hx generalizing ys ms i with
  | nil =>
    have e : fin = lexLt [] ms := by
      rw [hf]
      cases ms <;> rfl
    refine PySem.W.kat_nil ?_
    rw [e]; exact h
  | @cons p t xs ns hx ih =>
    cases hy with
    | nil =>
      have e : fin = false := by rw [hf]; exact decide_eq_false (by simp)
      refine PySem.W.kat_nil ?_
      rw [e]; exact h
    | @cons q u ys ms hy =>
      rw [HT.lexLt_cons] at h
      show PySem.W.KatLex prog w A b fin Q ((.int p t, .int q u) :: xs.zip ys) i s
      refine PySem.W.kat_cons (SeqAt.EqAt.int_int p t q u prog w _ _ (PySem.W.kat_go (fun e1 => ?_) (fun e1 => ?_)))
      · have e : p = q := by simpa using e1
        rw [if_pos e] at h
        exact PySem.W.kat_yes (ih (i + 1) hy (by rw [hf]; simp) h)
      · have e : ¬ p = q := by simpa using e1
        rw [if_neg e] at h
        exact PySem.W.kat_no (TS.oneLt_ints _ h)
theorem ti_cmp {vs : List Value} {k : Value → List Int} (hp : ∀ v ∈ vs, TS.TupInts s.heap v (k v)) : Cmp prog w A s (tuples' true) (fun p => p.1 ∈ vs) (lt2 fun v u => lexLt (k v) (k u)) := by
  intro p q hm hm'
  obtain ⟨a, xs, e, ⟨o, ho, hc, n, hd⟩, i⟩ := hp _ hm
  obtain ⟨a', xs', e', ⟨o', ho', hc', n', hd'⟩, i'⟩ := hp _ hm'
  show wpAny (model prog w) A (keyLt' (tuples' true) p.1 q.1) (fun r s' => s' = s ∧ r = lexLt (k p.1) (k q.1)) (fun _ _ => False) s
  generalize k p.1 = ns at i ⊢
  generalize k q.1 = ms at i' ⊢
  rw [e, e']
  refine PySem.W.kat_lt ho hd ho' hd' (lexl 0 i i' ?_ ⟨rfl, rfl⟩)
  rw [← i.length, ← i'.length]
  simp
theorem ti_firsts {h : Heap} {k : Value → List Int} : ∀ vs : List Value, (∀ v ∈ vs, TS.TupInts h v (k v) ∧ k v ≠ []) → ∃ fs, PySem.W.KatTups h vs fs ∧ fs.length = vs.length ∧ ∀ f, f ∈ fs → ∃ n t, f = Value.int n t
  | [], _ => ⟨[], PySem.W.KatTups.nil, rfl, fun f hf => by simp at hf⟩
  | v :: vs, x => by
    obtain ⟨fs, kt, hl, hi⟩ := ti_firsts vs fun u hu => x u (List.mem_cons_of_mem _ hu)
    obtain ⟨⟨a, xs, e0, ⟨o, ho, hc, n, hdt⟩, i⟩, hn⟩ := x v List.mem_cons_self
    generalize k v = ns at i hn
    subst e0
    obtain ⟨y, ys, e⟩ : ∃ y ys, xs.toList = y :: ys := by
      cases q : xs.toList with
      | nil => rw [q] at i; cases i; exact absurd rfl hn
      | cons y ys => exact ⟨y, ys, rfl⟩
    obtain ⟨m, t, hy⟩ := i.all y (by rw [e]; exact List.mem_cons_self)
    refine ⟨y :: fs, PySem.W.KatTups.cons ho hc hdt ?_ kt, by simp [hl], fun f hf => ?_⟩
    · have z : xs.toList[0]? = some y := by rw [e] <;> rfl
      rw [Array.getElem?_toList] at z
      exact z
    · rcases List.mem_cons.mp hf with e | hf
      · exact ⟨m, t, e.trans hy⟩
      · exact hi f hf
theorem ti_sortable {a : Addr} {vs : List Value} {k : Value → List Int} (h0 : 0 < vs.length) (hp : ∀ v ∈ vs, TS.TupInts s.heap v (k v) ∧ k v ≠ []) (ha : ∀ o, s.heap.get? a = some o → o.cls ≠ .type "tuple") : SortableO prog w A s a vs fun v u => lexLt (k v) (k u) := by
  intro h' keep
  have hp' : ∀ v ∈ vs, TS.TupInts h' v (k v) ∧ k v ≠ [] := fun v hm => ⟨(hp v hm).1.keeps fun b o e c => keep b o (fun z => by subst z; exact ha o e c) e, (hp v hm).2⟩
  obtain ⟨fs, h1, h2, h3⟩ := ti_firsts vs hp'
  refine ⟨tuples' true, fun Q E hq => ?_, ti_cmp fun v hm => (hp' v hm).1⟩
  refine PySem.W.kat_kind (T := .type "int") h1 (by omega) (fun f hm => ?_) (by rfl) ?_
  · obtain ⟨x, t, rfl⟩ := h3 f hm
    exact PySem.W.Looks.now
  · rw [show (Value.type "int" != Value.type "tuple") = true by first | decide +kernel | rfl | decide]
    exact hq
end
end PuS
namespace Pu
open PySem PySem.Spec PyProof.Rows L2
/-- sorted(xs), xs a list of tuples of ints (k says which) -/
def rSortTI (K : PySem.W.Frag) : List V → Hp → VK → Prop := fun vs H Q => ∃ (a : Addr) (xs : List V) (k : V → List Int), vs = [V.ref a] ∧ SqL K H a xs ∧ (∀ x ∈ xs, (k x ≠ [] ∨ xs.length < 2) ∧ ∃ t, x = V.ref t ∧ H t = some (.tup ((k x).map V.int))) ∧
  ∀ ys p, ys.Perm xs → ys.Pairwise (fun x y => HT.lexLt (k y) (k x) = false) → H p = none → Q (.ref p) (upd H p (.lst ys))
theorem cr_sortTI {X : Cx} : CallR X (.builtin "sorted") (rSortTI X.K) := by
  intro pins s σ H vs us Q I r h
  obtain ⟨a, xs, k, rfl, hs, hx, q⟩ := h
  obtain ⟨its, rv, hl, hz⟩ := I.list hs
  obtain ⟨u, rfl, ru⟩ := vals1 r
  obtain rfl : u = Value.ref a := ru
  obtain ⟨e1, e2⟩ := refs_back rv fun x m => by
    obtain ⟨_, t, e, _⟩ := hx x m
    exact ⟨t, e⟩
  have hp : ∀ v ∈ its, TS.TupInts s.heap v (k (backV v)) ∧ (k (backV v) ≠ [] ∨ its.length < 2) := fun v hv => by
    obtain ⟨t, rfl⟩ := e2 v hv
    have hm : V.ref t ∈ xs := by rw [e1]; exact List.mem_map.mpr ⟨_, hv, rfl⟩
    obtain ⟨hn, t', e, ht⟩ := hx _ hm
    cases e
    obtain ⟨i2, rv2, hT, _⟩ := I.tuple (SqT.of (K := X.K) ht)
    exact ⟨⟨t, i2.toArray, rfl, hT, (show IntsAre i2 (k (V.ref t)) from rv2.ints)⟩, hn.imp id fun h => by rw [← rv.length]; exact h⟩
  refine SrtO.sorted_ord (PuS.swo_lexL fun u => k (backV u)) hl.isList (by rw [← rv.length]; exact hz) (fun h2 h₁ a' ha kk => ?_) fun out h1 h2 => ?_
  · refine PuS.ti_sortable (s := { s with heap := h₁ }) (by omega) (fun v hm => ⟨(hp v hm).1.keeps fun b o e _ => (kk b o e).2, (hp v hm).2.resolve_right (by omega)⟩) fun o e => ?_
    have e' := e.symm.trans ha
    cases e'
    intro c
    exact absurd (Value.type.inj c) (by decide)
  · have h3 : ∀ u ∈ out, ∃ a, u = Value.ref a := fun u hu => e2 u (h2.perm.mem_iff.mp hu)
    obtain ⟨n, hn⟩ := PyProof.Rows.sortedAll_at s.heap its out.toArray
    have hb : (out.map backV).Perm xs := by rw [e1]; exact h2.perm.map backV
    refine ⟨.ref _, upd H (s.heap.objs.size + 1) (.lst (out.map backV)), I.laid (t' := s.toks) (fun b o e => PyProof.Rows.sortedAll_old e) (Nat.le_succ _) ⟨?_, out, n, vals_back h3, hn⟩, rfl, q _ _ hb ?_ (I.hok.fresh (Nat.le_succ _))⟩
    · rw [hb.length_eq]; exact hz
    · exact List.pairwise_map.mpr h1
def rSortA (K : PySem.W.Frag) : List V → Hp → VK → Prop := fun vs H Q => rSortedI K vs H Q ∨ rSortTI K vs H Q
theorem k_sortA {X : Cx} {K : PySem.W.Frag} (h : X.K = K) : CallR X (.builtin "sorted") (rSortA K) := by
  subst h
  intro pins s σ H vs us Q I r h
  rcases h with h | h
  · exact cr_sortedI pins s σ H vs us Q I r h
  · exact cr_sortTI pins s σ H vs us Q I r h
def rowsD (rows : List (List Int)) : List D := rows.map fun ns => .tup (dInts ns)
def oSortT : O1 := fun d Q => match d with
  | .lst xs => ∃ rows : List (List Int), xs = rowsD rows ∧ (∀ r ∈ rows, r ≠ [] ∨ rows.length < 2) ∧ ∀ rows' : List (List Int), rows'.Perm rows → rows'.Pairwise (fun a b => HT.lexLt b a = false) → Q (.lst (rowsD rows'))
  | _ => False
def oSortA : O1 := fun d Q => oSortI d Q ∨ oSortT d Q
def kOf (H : Hp) : V → List Int
  | .ref t => match H t with
    | some (.tup ws) => ws.map fun v => match v with | .int i => i | _ => 0
    | _ => []
  | _ => []
theorem kOf_tup {H : Hp} {t : Addr} {ns : List Int} (h : H t = some (.tup (ns.map V.int))) : kOf H (.ref t) = ns := by
  show (match H t with | some (.tup ws) => ws.map (fun v => match v with | .int i => i | _ => 0) | _ => []) = ns
  rw [h]
  show (ns.map V.int).map _ = ns
  rw [List.map_map]
  exact (List.map_congr_left fun _ _ => rfl).trans (List.map_id ns)
section
variable {CT : Nat → Addr} {H : Hp} {vs : List V} {F : List Addr} {K : PySem.W.Frag}
theorem dInts_inv : ∀ {ns : List Int} {vs : List V} {F : List Addr}, Rps CT H vs (dInts ns) F → vs = ns.map V.int
  | [], _, _, r => by cases r; rfl
  | n :: ns, _, _, r => by
    cases r with
    | cons q r =>
      cases q
      rw [dInts_inv r]
      rfl
theorem rowsD_inv : ∀ {rows : List (List Int)} {vs : List V} {F : List Addr}, Rps CT H vs (rowsD rows) F → vs.map (kOf H) = rows ∧ ∀ x ∈ vs, ∃ t, x = V.ref t ∧ H t = some (.tup ((kOf H x).map V.int))
  | [], _, _, r => by cases r; exact ⟨rfl, fun x h => by simp at h⟩
  | n :: rows, _, _, r => by
    cases r with
    | @cons v _ _ _ vs _ q r =>
      obtain ⟨h1, h2⟩ := rowsD_inv r
      cases q with
      | @tup t ws _ _ ht rt =>
        have e := dInts_inv rt
        subst e
        refine ⟨by rw [List.map_cons, kOf_tup ht, h1], fun x hx => ?_⟩
        rcases List.mem_cons.mp hx with e | hx
        · exact ⟨t, e, by rw [e, kOf_tup ht]; exact ht⟩
        · exact h2 x hx
theorem rowsD_of : ∀ {vs : List V}, (∀ x ∈ vs, ∃ t, x = V.ref t ∧ H t = some (.tup ((kOf H x).map V.int))) → Rps CT H vs (rowsD (vs.map (kOf H))) []
  | [], _ => .nil
  | v :: vs, h => by
    obtain ⟨t, e, ht⟩ := h v List.mem_cons_self
    subst e
    exact .cons (F := []) (.tup ht (rps_dInts _)) (rowsD_of fun x hx => h x (List.mem_cons_of_mem _ hx))
theorem mono_oSortT : Mono1 oSortT := fun d Q Q' k q => by
  cases d <;> first | exact q | skip
  obtain ⟨rows, e, h, q⟩ := q
  exact ⟨rows, e, h, fun r h1 h2 => k _ (q r h1 h2)⟩
theorem sc_sortT : SimC1 CT (rSortTI K) oSortT := ⟨fun H v d F Q a q => by
  cases a with
  | lst ha ra =>
    obtain ⟨rows, rfl, hne, q⟩ := q
    obtain ⟨h1, h2⟩ := rowsD_inv ra
    refine ⟨_, _, kOf H, rfl, SqL.of ha, fun x hx => ⟨(hne _ (by rw [← h1]; exact List.mem_map.mpr ⟨x, hx, rfl⟩)).imp id fun h => by rw [← h1, List.length_map] at h; exact h, h2 x hx⟩, fun ys p hp hw hn => ?_⟩
    have h3 : ∀ x ∈ ys, ∃ t, x = V.ref t ∧ H t = some (.tup ((kOf H x).map V.int)) := fun x hx => h2 x (hp.mem_iff.mp hx)
    refine New.at1 (q (ys.map (kOf H)) (by rw [← h1]; exact hp.map _) (List.pairwise_map.mpr hw)) hn (.lst upd_same ((rowsD_of h3).keep (W := fun _ => False) (Fr.new hn) fun _ z => nomatch z))
  | _ => exact (show False from q).elim, mono_oSortT⟩
theorem sc_sortA : SimC1 CT (rSortA K) oSortA := ⟨fun H v d F Q a q => q.elim (fun q => .inl (sc_sortI.run H v d F Q a q)) fun q => .inr (sc_sortT.run H v d F Q a q),
  fun d Q Q' k q => q.elim (fun q => .inl ((sc_sortI (CT := fun _ => 0) (K := default)).mono d Q Q' k q)) fun q => .inr (mono_oSortT d Q Q' k q)⟩
instance : MO1 oSortA := ⟨(sc_sortA (CT := fun _ => 0) (K := default)).mono⟩
end
end Pu

/-! file PuConv -/
set_option Elab.async false
set_option linter.all false
set_option maxRecDepth 100000
/-! Pu: list(dict), len(dict). -/
namespace Pu
open PySem PySem.Spec PyProof.Rows L2
def keyD : Key → D
  | .inl i => .int i
  | .inr x => .str x
theorem rp_key {CT : Nat → Addr} {H : Hp} : ∀ k : Key, Rp CT H (kV k) (keyD k) []
  | .inl i => .int i
  | .inr x => .str x
theorem rps_keys {CT : Nat → Addr} {H : Hp} : ∀ ks : List Key, Rps CT H (ks.map kV) (ks.map keyD) []
  | [] => .nil
  | k :: ks => .cons (F := []) (rp_key k) (rps_keys ks)
def tkD (k : List Key) : D := .tup (k.map keyD)
def oListT : O1 := fun d Q => match d with
  | .dT kvs => Q (.lst (kvs.map fun kv => tkD kv.1))
  | _ => False
def oListK : O1 := fun d Q => match d with
  | .dK kvs => Q (.lst (kvs.map fun kv => keyD kv.1))
  | _ => False
theorem keys_rps {CT : Nat → Addr} {H : Hp} : ∀ {kvs : List (List Key × V)} {kds : List (List Key × D)} {bs : List Addr}, kvs.map (·.1) = kds.map (·.1) → IsKeys H kvs bs → Rps CT H (bs.map V.ref) (kds.map fun kv => tkD kv.1) []
  | [], [], _, _, h => by cases h; exact .nil
  | [], _ :: _, _, e, _ => by simp at e
  | _ :: _, [], _, e, _ => by simp at e
  | p :: kvs, q :: kds, _, e, h => by
    simp only [List.map_cons, List.cons.injEq] at e
    cases h with
    | cons h1 h2 =>
      refine .cons (F := []) (.tup (H := H) h1 ?_) (keys_rps e.2 h2)
      rw [e.1]
      exact rps_keys _
theorem l_dT : ∃ r, (∀ X : Cx, X.calm = true → CallR X (.type "list") r) ∧ ∀ CT, SimC1 CT r oListT := by
  refine ⟨_, fun X hc => call_list_dT hc, fun CT => ⟨fun H v d F Q a q => ?_, fun d Q Q' k q => by cases d <;> first | exact k _ q | exact q⟩⟩
  cases a with
  | dT ha he ra => exact ⟨_, _, rfl, Rd.of ha, fun p bs hp hb => New.at1 q hp (.lst upd_same ((keys_rps he hb).keep (W := fun _ => False) (Fr.new hp) fun _ z => nomatch z))⟩
  | _ => exact (show False from q).elim
noncomputable def rListT := l_dT.choose
theorem sc_listK {CT : Nat → Addr} : SimC1 CT rListD oListK := ⟨fun H v d F Q a q => by
  cases a with
  | @dK a kvs kds F ha he ra =>
    refine ⟨_, _, rfl, ha, fun p hp => ?_⟩
    have e : (kvs.map fun kv => kV kv.1) = (kds.map (·.1)).map kV := by rw [← he, List.map_map] <;> rfl
    have e2 : (kds.map fun kv => keyD kv.1) = (kds.map (·.1)).map keyD := by rw [List.map_map] <;> rfl
    have q : New CT H Q (.lst (kds.map fun kv => keyD kv.1)) := q
    rw [e2] at q
    rw [e]
    exact New.at1 q hp (.lst upd_same (rps_keys _))
  | _ => exact (show False from q).elim, fun d Q Q' k q => by cases d <;> first | exact k _ q | exact q⟩
def rListA (K : PySem.W.Frag) : List V → Hp → VK → Prop := fun vs H Q => rListO K vs H Q ∨ rListT vs H Q ∨ rListD vs H Q
theorem k_listA {X : Cx} {K : PySem.W.Frag} (h : X.K = K) (hc : X.calm = true) : CallR X (.type "list") (rListA K) := by
  subst h
  intro pins s σ H vs us Q I r h
  rcases h with h | h | h
  · exact call_list_of pins s σ H vs us Q I r h
  · exact l_dT.choose_spec.1 X hc pins s σ H vs us Q I r h
  · exact call_list_dK hc pins s σ H vs us Q I r h
def oListA : O1 := fun d Q => oList d Q ∨ oListT d Q ∨ oListK d Q
theorem sc_listA {CT : Nat → Addr} {K : PySem.W.Frag} : SimC1 CT (rListA K) oListA := ⟨fun H v d F Q a q => by
  rcases q with q | q | q
  · exact .inl (sc_list.run H v d F Q a q)
  · exact .inr (.inl ((l_dT.choose_spec.2 CT).run H v d F Q a q))
  · exact .inr (.inr (sc_listK.run H v d F Q a q)), fun d Q Q' k q => by
  rcases q with q | q | q
  · exact .inl ((sc_list (CT := fun _ => 0) (K := default)).mono d Q Q' k q)
  · exact .inr (.inl ((l_dT.choose_spec.2 CT).mono d Q Q' k q))
  · exact .inr (.inr ((sc_listK (CT := fun _ => 0)).mono d Q Q' k q))⟩
instance : MO1 oListA := ⟨(sc_listA (CT := fun _ => 0) (K := default)).mono⟩
/-! ### len -/
def oLenT : O1 := fun d Q => match d with
  | .dT kvs => Q (.int ((kvs.length : Nat) : Int))
  | _ => False
def oLenK : O1 := fun d Q => match d with
  | .dK kvs => Q (.int ((kvs.length : Nat) : Int))
  | _ => False
theorem sc_lenT {CT : Nat → Addr} : SimC1 CT rLenT oLenT := ⟨fun H v d F Q a q => by
  cases a with
  | @dT a kvs kds F ha he ra =>
    have e : kvs.length = kds.length := by simpa using congrArg List.length he
    refine ⟨_, _, rfl, ha, ?_⟩
    rw [e]
    exact New.imm q (.int _)
  | _ => exact (show False from q).elim, fun d Q Q' k q => by cases d <;> first | exact k _ q | exact q⟩
theorem l_lenK : ∃ r, (∀ X : Cx, CallR X (.builtin "len") r) ∧ ∀ CT, SimC1 CT r oLenK := by
  refine ⟨_, fun X => call_lenD, fun CT => ⟨fun H v d F Q a q => ?_, fun d Q Q' k q => by cases d <;> first | exact k _ q | exact q⟩⟩
  cases a with
  | @dK a kvs kds F ha he ra =>
    have e : kvs.length = kds.length := by simpa using congrArg List.length he
    refine ⟨_, _, rfl, ha, ?_⟩
    rw [e]
    exact New.imm q (.int _)
  | _ => exact (show False from q).elim
noncomputable def rLenK := l_lenK.choose
def rLenA (K : PySem.W.Frag) : List V → Hp → VK → Prop := fun vs H Q => rLen K vs H Q ∨ rLenT vs H Q ∨ rLenK vs H Q
theorem k_lenA {X : Cx} {K : PySem.W.Frag} (h : X.K = K) : CallR X (.builtin "len") (rLenA K) := by
  subst h
  intro pins s σ H vs us Q I r h
  rcases h with h | h | h
  · exact (k_len rfl) pins s σ H vs us Q I r h
  · exact call_len_dT pins s σ H vs us Q I r h
  · exact l_lenK.choose_spec.1 X pins s σ H vs us Q I r h
def oLenA : O1 := fun d Q => oLen d Q ∨ oLenT d Q ∨ oLenK d Q
theorem sc_lenA {CT : Nat → Addr} {K : PySem.W.Frag} : SimC1 CT (rLenA K) oLenA := ⟨fun H v d F Q a q => by
  rcases q with q | q | q
  · exact .inl (sc_len.run H v d F Q a q)
  · exact .inr (.inl (sc_lenT.run H v d F Q a q))
  · exact .inr (.inr ((l_lenK.choose_spec.2 CT).run H v d F Q a q)), fun d Q Q' k q => by
  rcases q with q | q | q
  · exact .inl ((sc_len (CT := fun _ => 0) (K := default)).mono d Q Q' k q)
  · exact .inr (.inl ((sc_lenT (CT := fun _ => 0)).mono d Q Q' k q))
  · exact .inr (.inr ((l_lenK.choose_spec.2 (fun _ => 0)).mono d Q Q' k q))⟩
instance : MO1 oLenA := ⟨(sc_lenA (CT := fun _ => 0) (K := default)).mono⟩
end Pu

/-! file PuX -/
set_option Elab.async false
set_option linter.all false
set_option maxRecDepth 100000
namespace Pu
open PySem PySem.Spec PyProof.Rows L2
section
variable {C : Cfg} {Γ Γ' Γn Γl Γo Γt Γe Γ1 Γ2 : List Mo} {σ σ' : L2.St} {H H' H1 H2 : Hp} {env env' : PEnv} {Fs Fs' Fs1 Fs2 : Nat → List Addr} {v : V} {vs : List V} {d : D} {ds : List D} {F G : List Addr} {ta tb tc te ti : TE} {A B : Kd} {m n mc : X1} {K : PySem.W.Frag} {CT : Nat → Addr} {S : Stat} {X : Cx}
/-- a def of which nothing is promised -/
theorem fn_never {P : Program} {w : World} {mg : Str → Option Value} {base : Heap} {CX : CXT} {k : Nat} {f : Addr} {fd : FuncData} {ps : List Str} {pm : List Bool} (hp : pm.length = ps.length) : FnOk P w K mg base CX k f fd ps (SpM S pm (fun _ _ => False)) :=
  ⟨fun vs H Q E ⟨C, ds, F, _, _, a, _⟩ => by rw [a.len.1, hp], fun A outer s H args us vs Q E _ _ _ _ ⟨_, _, _, _, _, _, _, _, q⟩ => q.elim⟩

/-! ### isinstance of built-in classes, several -/
def oIsAny (cs : List String) : O1 := fun d Q => match d.ty with
  | some t => Q (.bl (cs.any fun c => subB t c))
  | none => False
theorem mono_oIsAny {cs : List String} : Mono1 (oIsAny cs) := fun d Q Q' k q => by cases d <;> first | exact k _ q | exact q
instance {cs : List String} : MO1 (oIsAny cs) := ⟨mono_oIsAny⟩
class KitBs (cs : List String) : Prop where
  h : ∀ (K : PySem.W.Frag) (d : D) (t : String), d.ty = some t → PySem.W.kitAny K (.type t) (cs.map Value.type) = some (cs.any fun c => subB t c)
instance : KitBs ["tuple", "list"] := ⟨fun K d t h => by cases d <;> simp [D.ty] at h <;> subst h <;> rfl⟩
instance : KitBs ["bool", "str"] := ⟨fun K d t h => by cases d <;> simp [D.ty] at h <;> subst h <;> rfl⟩
theorem paired_ty : ∀ cs : List String, Paired ClsV (cs.map V.ty) (cs.map Value.type)
  | [] => .nil
  | c :: cs => .cons (.ty c) (paired_ty cs)
theorem k_isaT (h : X.K = K) : CallR X (.builtin "isinstance") (rIsiT K) := h ▸ call_isiT
theorem sim_isaT {c1 c2 : String} [kc : KitBs [c1, c2]] (s : Sim C Γ te A m) : Sim C Γ (tCB (rIsiT K) (tCons te (tCons (tTup (tCons (tC (.ty c1)) (tCons (tC (.ty c2)) tNil))) tNil))) .own (x1 (oIsAny [c1, c2]) m) :=
  ⟨fun σ H env Fs Q I h => s.run σ H env Fs _ I (s.mono env _ _ (fun d q v H1 F f dk r k => by
    refine ⟨by show 2 ≤ sizeLine; decide, fun p hp => ?_⟩
    have f2 : Fr (fun _ => False) H1 (upd H1 p (.tup [.ty c1, .ty c2])) := Fr.new hp
    cases e : d.ty with
    | none => unfold oIsAny at q; rw [e] at q; exact q.elim
    | some t =>
      unfold oIsAny at q; rw [e] at q
      have r2 := r.keep f2 fun _ _ z => z
      exact ⟨v, p, [.ty c1, .ty c2], .type t, [.type c1, .type c2], _, rfl, upd_same, paired_ty [c1, c2], r2.ty e, kc.h K d t e, q _ _ [] (f.trans f2.wq) (dk.keep f2) (.bl _) KdOk.own_nil⟩) h), mono_x1 mono_oIsAny s.mono⟩

/-! ### readings that change what slots own -/
abbrev XE := PEnv → (D → PEnv → Prop) → Prop
def Apart (Γ : List Mo) (Fs : Nat → List Addr) (F : List Addr) : Prop := ∀ (j : Nat) (m : Mo), Γ[j]? = some m → live m → ∀ a ∈ F, a ∉ Fs j
structure SimE (C : Cfg) (Γ : List Mo) (t : TE) (m : XE) : Prop where
  run : ∀ (σ : L2.St) (H : Hp) (env : PEnv) (Fs : Nat → List Addr) (Q : VK), Ok C Γ σ H env Fs →
    m env (fun d env' => ∀ v H' F Fs', Ok C Γ σ H' env' Fs' → Go C Γ Fs H Γ Fs' H' → Rp C.CT H' v d F → F.Nodup → NoQ C F → Apart Γ Fs' F → Mine Γ Fs H F → Q v H') → t σ H Q
  mono : ∀ env (Q Q' : D → PEnv → Prop), (∀ d e, Q d e → Q' d e) → m env Q → m env Q'
class MXE (m : XE) : Prop where
  mono : ∀ env (Q Q' : D → PEnv → Prop), (∀ d e, Q d e → Q' d e) → m env Q → m env Q'
def sSetE (i : Nat) (m : XE) : XS := fun E env => m env fun d env' => E.nx (env'.set i (some d))
instance {i : Nat} {m : XE} [h : MXE m] : MS (sSetE i m) := ⟨fun p q => h.mono _ _ _ (fun d e q => p.1 _ q) q⟩
theorem sim_setE {i : Nat} {m : XE} (fr : Free C i) (hi : i < Γ.length) (s : SimE C Γ te m) : SimS C Γl Γ (Γ.set i .o) (tAsg te (gName i)) (sSetE i m) :=
  ⟨fun σ H env Fs D E I l h => s.run σ H env Fs _ I (s.mono env _ _ (fun d e q v H1 F Fs1 I1 g r nd nq ap mi => l.nx _ H1 _ _ (I1.setA fr (.inl rfl) hi r nq (fun a ha j gj _ => ap j _ gj (.inl rfl) a ha) fun _ => ⟨nd, fun a ha j mj gj lj _ => ap j mj gj lj a ha⟩) ⟨g.fr, fun j gj => by
      rcases get_set gj with ⟨rfl, _, _⟩ | ⟨ne, gj⟩
      · rw [setF_same]; exact mi
      · rw [setF_ne ne]; exact g.gr j gj⟩ q) h),
   fun E E' env p h => s.mono env _ _ (fun d e q => p.1 _ q) h⟩
def sRetE (m : XE) : XS := fun E env => m env fun d _ => E.rt d
instance {m : XE} [h : MXE m] : MS (sRetE m) := ⟨fun p q => h.mono _ _ _ (fun d e q => p.2.1 _ q) q⟩
theorem sim_retE {m : XE} (s : SimE C Γ te m) : SimS C Γl Γ Γ' (tRet te) (sRetE m) :=
  ⟨fun σ H env Fs D E I l h => s.run σ H env Fs _ I (s.mono env _ _ (fun d e q v H1 F Fs1 I1 g r nd nq ap mi => l.rt v H1 d F g.fr I1.dk r nd nq mi q) h), fun E E' env p h => s.mono env _ _ (fun d e q => p.2.1 _ q) h⟩
/-- xs.append(e), e a reading that changes other slots -/
def sAppE (j : Nat) (m : XE) : XS := fun E env => m env fun e env' => xVar j env' fun d => onL d fun xs => xs.length < sizeLine ∧ E.nx (env'.set j (some (.lst (xs ++ [e]))))
def isL (d : Option (Option D)) : Prop := match d with
  | some (some (.lst _)) => True
  | _ => False
def sAppE' (j : Nat) (m : XE) : XS := fun E env => isL env[j]? ∧ sAppE j m E env
instance {j : Nat} {m : XE} [h : MXE m] : MS (sAppE' j m) := ⟨fun p q => ⟨q.1, h.mono _ _ _ (fun d e q => mono_var _ _ _ (fun d q => onL_mono (fun ds q => ⟨q.1, p.1 _ q.2⟩) q) q) q.2⟩⟩
theorem sim_appE {j : Nat} {m : XE} (g : Γ[j]? = some .o) (s : SimE C Γ te m) : SimS C Γl Γ Γ (tDrop (tBM K "list" rAppend (tVar j) (tCons te tNil))) (sAppE' j m) :=
  ⟨fun σ H env Fs D E I lk ⟨hL, hh⟩ => by
    obtain ⟨v, d, h1, h2, h3⟩ := I.val j _ g (.inl rfl)
    rw [h2] at hL
    obtain ⟨a, vs, ds, F0, rfl, rfl, eF0, ha, ra, _⟩ := h3.onL (k := fun _ => True) (by cases d <;> first | exact True.intro | exact hL.elim)
    refine ⟨_, h1, .inl ⟨rfl, _, SqL.of ha⟩, s.run σ H env Fs _ I (s.mono env _ _ (fun e env1 q w H1 G Fs1 I1 g1 r1 nd nq ap mi => ?_) hh)⟩
    obtain ⟨v', d', h1', h2', h3'⟩ := I1.val j _ g (.inl rfl)
    rw [h1] at h1'; cases h1'
    have q : xVar j env1 _ := q
    unfold xVar at q
    rw [h2'] at q
    obtain ⟨b, us, es, F1, ev, rfl, eF, hb, rb, q⟩ := h3'.onL q
    cases ev
    have ndj := I1.nd j g
    rw [eF] at ndj
    have apj := ap j _ g (.inl rfl)
    have nG : a ∉ G := fun z => apj a z (by rw [eF]; exact List.mem_cons_self)
    have nF : a ∉ F1 := (List.nodup_cons.mp ndj).1
    have nda : (F1 ++ G).Nodup := List.nodup_append.mpr ⟨(List.nodup_cons.mp ndj).2, nd, fun x hx y hy z => apj y hy (by rw [eF, ← z]; exact List.mem_cons_of_mem _ hx)⟩
    have rr : Rp C.CT (upd H1 a (.lst (us ++ [w]))) (.ref a) (.lst (es ++ [e])) (a :: (F1 ++ (G ++ []))) := .lst upd_same ((rb.upd hb rfl nF).append (.cons (r1.upd hb rfl nG) .nil))
    rw [List.append_nil] at rr
    have nqj := I1.nq j _ g (.inl rfl)
    rw [eF] at nqj
    have nq2 : NoQ C (a :: (F1 ++ G)) := NoQ.app (F := a :: F1) nqj nq
    have ma : a ∈ Fs1 j := by rw [eF]; exact List.mem_cons_self
    refine ⟨a, us, w, rfl, rfl, hb, by rw [rb.length]; exact q.1, lk.nx σ _ _ _ (I1.root g h1 hb rfl ma rr (List.nodup_cons.mpr ⟨fun z => (List.mem_append.mp z).elim nF nG, nda⟩) (fun x hx => ?_) nq2) ⟨Fr.behind g1 (Fr.at (.inr ⟨j, g, ma⟩) hb rfl), fun k gk x hx => ?_⟩ q.2⟩
    · rcases List.mem_cons.mp hx with z | hx
      · rw [z]; exact .inl ma
      · rcases List.mem_append.mp hx with z | z
        · exact .inl (by rw [eF]; exact List.mem_cons_of_mem _ z)
        · exact .inr fun k mk gk lk hz => ap k mk gk lk x z hz
    · by_cases ek : k = j
      · subst ek
        rw [setF_same] at hx
        have hx : x ∈ Fs1 k ∨ x ∈ G := by
          rcases List.mem_cons.mp hx with z | hx
          · rw [z]; exact .inl ma
          · rcases List.mem_append.mp hx with z | z
            · exact .inl (by rw [eF]; exact List.mem_cons_of_mem _ z)
            · exact .inr z
        exact hx.elim (g1.gr k gk x) (mi x)
      · rw [setF_ne ek] at hx
        exact g1.gr k gk x hx,
   fun E E' env p q => ⟨q.1, s.mono env _ _ (fun d e q => mono_var _ _ _ (fun d q => onL_mono (fun ds q => ⟨q.1, p.1 _ q.2⟩) q) q) q.2⟩⟩
/-! xs.pop(i) -/
theorem Rps.erase2 : ∀ {vs : List V} {ds : List D} {F : List Addr} (j : Nat) (d : D), Rps CT H vs ds F → ds[j]? = some d → ∃ v Fd F', vs[j]? = some v ∧ Rp CT H v d Fd ∧ Rps CT H (vs.eraseIdx j) (ds.eraseIdx j) F' ∧ F.Perm (Fd ++ F')
  | _, _, _, _, _, .nil, e => by simp at e
  | _, _, _, 0, d, .cons (F := F1) (G := F2) r rs, e => by
    simp at e; subst e
    exact ⟨_, F1, F2, rfl, r, rs, .refl _⟩
  | _, _, _, j + 1, d, .cons (F := F1) (G := F2) r rs, e => by
    obtain ⟨v, Fd, F', h1, h2, h3, h4⟩ := Rps.erase2 j d rs (by simpa using e)
    refine ⟨v, Fd, F1 ++ F', by simpa using h1, h2, .cons r h3, ?_⟩
    have : (F1 ++ F2).Perm (F1 ++ (Fd ++ F')) := h4.append_left F1
    exact this.trans (by rw [← List.append_assoc, ← List.append_assoc]; exact (List.perm_append_comm).append_right F')
def popQ (xs : List D) (e : D) (Q : D → List D → Prop) : Prop := match e with
  | .int k => -(2 ^ 63) ≤ k ∧ k < 2 ^ 63 ∧ (match seqIndex? k xs.length with
    | some j => (match xs[j]? with | some x => Q x (xs.eraseIdx j) | none => False)
    | none => False)
  | _ => False
theorem popQ_mono {xs : List D} {e : D} {Q Q' : D → List D → Prop} (h : ∀ x ys, Q x ys → Q' x ys) (q : popQ xs e Q) : popQ xs e Q' := by
  unfold popQ at q ⊢
  split at q
  · refine ⟨q.1, q.2.1, ?_⟩
    have q := q.2.2
    split at q
    · split at q
      · exact h _ _ q
      · exact q
    · exact q
  · exact q
def xPop (i : Nat) (n : X1) : XE := fun env Q => xVar i env fun d => onL d fun xs => n env fun e => popQ xs e fun x ys => Q x (env.set i (some (.lst ys)))
instance {i : Nat} [h : MX n] : MXE (xPop i n) := ⟨fun env Q Q' k q => mono_var _ _ _ (fun d q => onL_mono (fun ds q => h.mono _ _ _ (fun e q => popQ_mono (fun x ys q => k _ _ q) q) q) q) q⟩
theorem sim_pop {i : Nat} (g : Γ[i]? = some .o) (s : Sim C Γ ti B n) : SimE C Γ (tBM K "list" rPopAt (tVar i) (tCons ti tNil)) (xPop i n) :=
  ⟨fun σ H env Fs Q I hh => by
    obtain ⟨v, d, h1, h2, h3⟩ := I.val i _ g (.inl rfl)
    have hh : xVar i env _ := hh
    unfold xVar at hh
    rw [h2] at hh
    obtain ⟨a, vs, ds, F, rfl, rfl, eF, ha, ra, hh⟩ := h3.onL hh
    refine ⟨_, h1, .inl ⟨rfl, _, SqL.of ha⟩, s.run σ H env Fs _ I (s.mono env _ _ (fun e q w H1 G f dk r2 k2 => ?_) hh)⟩
    unfold popQ at q
    split at q
    · rename_i k
      cases r2
      obtain ⟨q1, q2, q⟩ := q
      cases ej : seqIndex? k ds.length with
      | none => rw [ej] at q; exact q.elim
      | some j =>
        rw [ej] at q
        dsimp only at q
        cases ex : ds[j]? with
        | none => rw [ex] at q; exact q.elim
        | some x =>
          rw [ex] at q
          dsimp only at q
          have nqa := I.nq i _ g (.inl rfl)
          rw [eF] at nqa
          have nda := I.nd i g
          rw [eF] at nda
          have ha1 := f.keep _ _ ha (nqa.wq a List.mem_cons_self)
          have ra1 := ra.keep f fun b hb => nqa.wq b (List.mem_cons_of_mem _ hb)
          obtain ⟨y, Fd, F', hy, ry, re, pm⟩ := ra1.erase2 j x ex
          have nF : a ∉ F := (List.nodup_cons.mp nda).1
          have nd2 : (Fd ++ F').Nodup := pm.nodup_iff.mp (List.nodup_cons.mp nda).2
          have mF : ∀ b, b ∈ Fd ∨ b ∈ F' → b ∈ F := fun b hb => pm.mem_iff.mpr (List.mem_append.mpr hb)
          have nFd : a ∉ Fd := fun z => nF (mF a (.inl z))
          have nF' : a ∉ F' := fun z => nF (mF a (.inr z))
          have ma : a ∈ Fs i := by rw [eF]; exact List.mem_cons_self
          have I1 := I.step f dk
          refine ⟨a, vs, k, j, y, rfl, rfl, ha1, q1, q2, by rw [ra.length]; exact ej, hy, ?_⟩
          refine q y _ Fd (setF Fs i (a :: F')) (I1.root g h1 ha1 rfl ma (F' := a :: F') (.lst upd_same (re.upd ha1 rfl nF')) (List.nodup_cons.mpr ⟨nF', (List.nodup_append.mp nd2).2.1⟩) (fun b hb => .inl ?_) ?_) ⟨?_, fun k gk b hb => ?_⟩ (ry.upd ha1 rfl nFd) (List.nodup_append.mp nd2).1 ?_ ?_ ?_
          · rw [eF]
            rcases List.mem_cons.mp hb with z | z
            · rw [z]; exact List.mem_cons_self
            · exact List.mem_cons_of_mem _ (mF b (.inr z))
          · exact fun p e => ⟨fun z => (nqa p e).1 ((List.mem_cons.mp z).elim (fun z => z ▸ List.mem_cons_self) fun z => List.mem_cons_of_mem _ (mF _ (.inr z))), fun z => (nqa p e).2 ((List.mem_cons.mp z).elim (fun z => z ▸ List.mem_cons_self) fun z => List.mem_cons_of_mem _ (mF _ (.inr z)))⟩
          · exact (f.mono fun _ w => .inl w).trans (Fr.at (.inr ⟨i, g, ma⟩) ha1 rfl)
          · by_cases ek : k = i
            · subst ek
              rw [setF_same] at hb
              refine .inl ⟨k, g, ?_⟩
              rw [eF]
              rcases List.mem_cons.mp hb with z | z
              · rw [z]; exact List.mem_cons_self
              · exact List.mem_cons_of_mem _ (mF b (.inr z))
            · rw [setF_ne ek] at hb; exact .inl ⟨k, gk, hb⟩
          · exact fun p e => ⟨fun z => (nqa p e).1 (List.mem_cons_of_mem _ (mF _ (.inl z))), fun z => (nqa p e).2 (List.mem_cons_of_mem _ (mF _ (.inl z)))⟩
          · intro k mk gk lk b hb hz
            by_cases ek : k = i
            · subst ek
              rw [setF_same] at hz
              rcases List.mem_cons.mp hz with z | z
              · exact nFd (z ▸ hb)
              · exact (List.nodup_append.mp nd2).2.2 b hb b z rfl
            · rw [setF_ne ek] at hz
              exact I.dj i k mk g gk lk (Ne.symm ek) b (by rw [eF]; exact List.mem_cons_of_mem _ (mF b (.inl hb))) hz
          · exact fun b hb => .inl ⟨i, g, by rw [eF]; exact List.mem_cons_of_mem _ (mF b (.inl hb))⟩
    · exact q.elim,
   fun env Q Q' k q => mono_var _ _ _ (fun d q => onL_mono (fun ds q => s.mono _ _ _ (fun e q => popQ_mono (fun x ys q => k _ _ q) q) q) q) q⟩
end
end Pu

/-! file PuSet1 -/
set_option Elab.async false
set_option linter.all false
set_option maxRecDepth 100000
set_option maxHeartbeats 4000000
namespace Pu
open PySem PySem.Spec PyProof.Rows L2
/-! ### sorted(set(xs)), xs a list of ints -/
def eSet (w : World) : Obj := { cls := .type "set", dict := none, data := .set #[] 0 (.fresh 0 0 (!w.params.followText "set-order")) }
section
variable {P : Program} {w : World} {A : Around} {E : Value → Shared → Prop} {s : Shared}
theorem set_of_list {l : Addr} {its : Array Value} (ns : List Int) {Q : Value → Shared → Prop} (hd : A.handled = none) (il : s.heap.IsList l its) (ia : IntsAre its.toList ns) (few : ns.length + 1 < scanBound)
    (fin : ∀ (g : Heap) (tk c : Nat), SetR w g s.heap.objs.size (fun j => decide (j ∈ ns)) c → c ≤ ns.length → (∀ b o, s.heap.get? b = some o → g.get? b = some o) → Q (.ref s.heap.objs.size) { s with heap := g, toks := tk }) : wpAny (model P w) A (call (.type "set") [.ref l]) Q E s := by
  have sz : its.size = ns.length := by have := IntsAre.length ia; rwa [Array.length_toList] at this
  obtain ⟨c, tl, m1⟩ := F.called_set.mro
  have m2 := F.called_set.made
  have m3 := F.called_set.sub
  refine wpAny_call (codeAny_of_tree (show wpAny _ _ (callAny (.type "set") _) _ _ _ from wpAny_pure ⟨Code.quiet_builtin _ (by decide +kernel), codeAny_builtin F.entry_type_call ?_⟩))
  rw [Around.under_plain (weight_type_call_type "set" [Value.ref l] []) rfl]
  have m4 := F.called_set.notType
  have m5 := F.called_set.canCreate
  have m6 := F.typeCall_set_1 (Value.ref l)
  repeat (any_goals (first | assumption | wp_step))
  refine codeAny_mono (code_set_led1 (Value.ref l) (E := E) (Q₁ := fun x s1 => x = .ref s.heap.objs.size ∧ s1 = { s with heap := s.heap.push (eSet w) }) ⟨rfl, rfl⟩) fun r s1 hr => ?_
  cases r with
  | error e => exact hr
  | ok f =>
   cases f with
   | ret x =>
    obtain ⟨rfl, rfl⟩ := hr
    have at1 : (s.heap.push (eSet w)).get? s.heap.objs.size = some (eSet w) := Heap.get?_push_size _ rfl
    have ty1 : Shared.TypeIs { s with heap := s.heap.push (eSet w) } (.ref s.heap.objs.size) "set" := ⟨_, at1, rfl⟩
    have m7 := F.called_set.init.lookup
    have m8 := F.called_set.init.bind (Value.ref s.heap.objs.size)
    repeat (any_goals (first | assumption | wp_step))
    refine codeAny_mono (codeAny_call_builtin (R := wants (fun r s2 => r = .none ∧ ∃ g tk c, s2 = { s with heap := g, toks := tk } ∧ SetR w g s.heap.objs.size (fun j => decide (j ∈ ns)) c ∧ c ≤ ns.length ∧ (∀ b o, s.heap.get? b = some o → g.get? b = some o)) E) F.called_set.init.plain F.entry_set_init (check_set_init_1 ty1 ?_)) fun r2 s2 hr2 => ?_
    · obtain ⟨⟨oc, od, oda, osl⟩, hol, ec, nl, ed⟩ := il
      simp only at ec ed
      subst ec ed
      have ol2 : (s.heap.push (eSet w)).get? l = some { cls := .type "list", dict := od, data := .seq its nl, slots := osl } := Heap.get?_push_of_some _ hol
      have n1 := F.sub_list_set
      have n2 := F.sub_list_frozenset
      have n3 : (Value.type "list" == Value.type "dict") = false := by decide
      have il1 : (s.heap.push (eSet w)).IsList l its := ⟨_, ol2, rfl, nl, rfl⟩
      unfold Builtin.«set.__init__» noKeywords Builtin.Frozenset.updateFrom
      generalize hPI : pyIter = PI
      wp_walk
      subst hPI
      refine wpAny_pyIter_list il1 (wpAny_bind (wpAny_runValue ?_))
      have lS : l < s.heap.objs.size := Heap.lt_size hol
      have hd3 : A.in1.in1.in1.handled = none := by simp [hd]
      have z1 : (s.heap.push (eSet w)).objs.size = s.heap.objs.size + 1 := Heap.size_push ..
      have ne1 : l ≠ (s.heap.push (eSet w)).objs.size := by rw [z1]; exact Nat.ne_of_lt (Nat.lt_succ_of_lt lS)
      have ne2 : s.heap.objs.size ∉ [(s.heap.push (eSet w)).objs.size, l] := by
        rw [z1]
        simp only [List.mem_cons, List.not_mem_nil, or_false, not_or]
        exact ⟨Nat.ne_of_lt (Nat.lt_succ_self _), Nat.ne_of_gt lS⟩
      have hv : ∀ (i : Nat) (v : Value), its[i]? = some v → ∃ k t, ns[i]? = some k ∧ v = .int k t := fun i v h => by
        have hi : i < ns.length := by rw [← sz]; exact (Array.getElem?_eq_some_iff.mp h).1
        obtain ⟨t, e⟩ := IntsAre.int_at ia i v (by rw [Array.getElem?_toList]; exact h)
        refine ⟨ns[i], t, List.getElem?_eq_getElem hi, ?_⟩
        rw [e, List.getD_eq_getElem?_getD, List.getElem?_eq_getElem hi] <;> rfl
      refine set_update_ints ((Walks.list hd3 _ l ne1 its).toS) s.heap.objs.size ne2 ns sz few hv (its.size - 0) 0 _ (by omega) (Nat.zero_le _) ⟨⟨_, Heap.get?_push_size _ rfl, rfl, rfl⟩, (il1.push _)⟩ ⟨0, Nat.le_refl 0, setR_new_at (Heap.get?_push_of_some _ at1)⟩ ?_
      intro s3 c3 hm hc hS
      obtain ⟨g, g2, d2, tk2, os2⟩ := s3
      obtain rfl : g2 = s.gens := hm.gens
      obtain rfl : d2 = s.drawn := hm.drawn
      obtain rfl : os2 = s.os := hm.os
      show wpAny _ _ _ _ _ _
      refine wpAny_pure (show wpAny _ _ (ret Value.none) _ _ _ from ?_)
      rw [sz] at hc
      refine wpAny_pure ⟨rfl, g, tk2, c3, rfl, hS, hc, fun b o e => ?_⟩
      have b0 : b < s.heap.objs.size := Heap.lt_size e
      refine hm.heap b o ?_ (Heap.get?_push_of_some _ (Heap.get?_push_of_some _ e))
      simp only [List.mem_cons, List.not_mem_nil, or_false, not_or]
      exact ⟨Nat.ne_of_lt b0, by rw [z1]; exact Nat.ne_of_lt (Nat.lt_succ_of_lt b0)⟩
    · cases r2 with
      | error e => exact hr2
      | ok f =>
       cases f with
       | ret x =>
        obtain ⟨rfl, g, tk, c, rfl, q1, q2, q3⟩ := hr2
        repeat (any_goals (first | assumption | wp_step))
        exact fin _ _ _ q1 q2 q3
       | _ => exact hr2.elim
   | _ => exact hr.elim
end
end Pu

/-! file PuSet -/
set_option Elab.async false
set_option linter.all false
set_option maxRecDepth 100000
namespace Pu
open PySem PySem.Spec PyProof.Rows L2
section
variable {X : Cx}
def rSetOfI (K : PySem.W.Frag) (w : World) : List V → Hp → VK → Prop := fun xs H Q => ∃ (l : Addr) (ns : List Int), xs = [V.ref l] ∧ SqL K H l (ns.map V.int) ∧ ns.length + 1 < scanBound ∧ ∀ p c, H p = none → c ≤ ns.length → Q (.ref p) (upd H p (SetO w p (fun j => decide (j ∈ ns)) c))
theorem cr_setOfI (hc : X.calm = true) : CallR X (.type "set") (rSetOfI X.K X.w) := by
  intro pins s σ H xs us Q I r h
  obtain ⟨l, ns, rfl, hl, hb, q⟩ := h
  rw [Vals.ref1 r]
  obtain ⟨its, rv, pl, hz⟩ := I.list hl
  have hn : H s.heap.objs.size = none := I.hok.fresh (Nat.le_refl _)
  refine set_of_list ns (I.ok.hd hc) pl.isList (by simpa using RZ.intsAre_vals rv) hb fun g tk c R hc k => ?_
  exact ⟨.ref s.heap.objs.size, upd H s.heap.objs.size (SetO X.w s.heap.objs.size _ c), I.laid (t' := tk) k (Nat.le_refl _) (setO_new R), rfl, q _ c hn hc⟩
/-- sorted(set(xs)) -/
def oSortSet : O1 := fun d Q => match d with
  | .lst xs => ∃ ns : List Int, xs = ns.map D.int ∧ ns.length < 64 ∧ ∀ ms : List Int, ms.Pairwise (· < ·) → (∀ k, k ∈ ms ↔ k ∈ ns) → Q (.lst (ms.map D.int))
  | _ => False
theorem mono_oSortSet : Mono1 oSortSet := fun d Q Q' h q => by
  cases d with
  | lst xs =>
    obtain ⟨ns, e, l, k⟩ := q
    exact ⟨ns, e, l, fun ms p m => h _ (k ms p m)⟩
  | _ => exact q
instance : MO1 oSortSet := ⟨mono_oSortSet⟩
theorem ints_of {CT : Nat → Addr} {H : Hp} : ∀ {vs : List V} {ns : List Int} {F : List Addr}, Rps CT H vs (ns.map D.int) F → vs = ns.map V.int ∧ F = []
  | _, [], _, .nil => ⟨rfl, rfl⟩
  | _, n :: ns, _, .cons r rs => by
    obtain ⟨h1, h2⟩ := ints_of rs
    cases r
    exact ⟨by rw [h1] <;> rfl, by rw [h2] <;> rfl⟩
theorem rps_ints {CT : Nat → Addr} {H : Hp} : ∀ ms : List Int, Rps CT H (ms.map V.int) (ms.map D.int) []
  | [] => .nil
  | m :: ms => Rps.cons (F := []) (.int m) (rps_ints ms)
theorem sim_sortSet {C : Cfg} {Γ : List Mo} {te : TE} {A : Kd} {m : X1} {K : PySem.W.Frag} {w : World} (s : Sim C Γ te A m) : Sim C Γ (tCB (rSortedSet w) (tCons (tCB (rSetOfI K w) (tCons te tNil)) tNil)) .own (x1 oSortSet m) :=
  ⟨fun σ H env Fs Q I h => s.run σ H env Fs _ I (s.mono env _ _ (fun d q v H1 F f dk r k => by
    cases r with
    | lst ha ra =>
      obtain ⟨ns, rfl, hl, q⟩ := q
      obtain ⟨rfl, rfl⟩ := ints_of ra
      refine ⟨_, ns, rfl, SqL.of ha, Nat.lt_of_lt_of_le (Nat.succ_lt_succ hl) (by decide), fun p c hp hc => ⟨p, _, c, rfl, upd_same, Nat.lt_of_le_of_lt hc hl, fun ms p2 pw hm _ hp2 => ?_⟩⟩
      have f2 : Fr (fun _ => False) H1 _ := Fr.new (o := SetO w p (fun j => decide (j ∈ ns)) c) hp
      have f3 : Fr (fun _ => False) _ _ := Fr.new (o := .lst (ms.map V.int)) hp2
      have f23 := f2.trans f3
      have h0 : H p2 = none := f.there _ (f2.there _ hp2)
      refine q ms pw (fun k => by rw [hm k, decide_eq_true_iff]) (.ref p2) _ [p2] (f.trans f23.wq) (dk.keep f23) (.lst upd_same (rps_ints ms)) ⟨NoQ.new I.dk fun a ha => by rw [List.mem_singleton.mp ha]; exact h0, by simp, fun a ha => by rw [List.mem_singleton.mp ha]; exact h0⟩
    | _ => exact (show False from q).elim) h), mono_x1 mono_oSortSet s.mono⟩
theorem k_setOfI {K : PySem.W.Frag} {w : World} (h : X.K = K) (h2 : X.w = w) (hc : X.calm = true) : CallR X (.type "set") (rSetOfI K w) := h ▸ h2 ▸ cr_setOfI hc
theorem k_sortedSet {w : World} (h2 : X.w = w) (hc : X.calm = true) : CallR X (.builtin "sorted") (rSortedSet w) := h2 ▸ cr_sortedSet hc
end
end Pu

/-! file PuX2 -/
set_option Elab.async false
set_option linter.all false
set_option maxRecDepth 100000
namespace Pu
open PySem PySem.Spec PyProof.Rows L2
/-! ### [x, ..] * k -/
def oRepL : O2 := fun d e Q => match d, e with
  | .lst xs, .int k => immL xs = true ∧ -(2 ^ 63) ≤ k ∧ k < 2 ^ 63 ∧ xs.length * k.toNat ≤ sizeLine ∧ Q (.lst (List.replicate k.toNat xs).flatten)
  | _, _ => False
theorem mono_oRepL : Mono2 oRepL := fun d e Q Q' h q => by
  cases d <;> first | exact q | skip
  cases e <;> first | exact q | skip
  exact ⟨q.1, q.2.1, q.2.2.1, q.2.2.2.1, h _ q.2.2.2.2⟩
instance : MO2 oRepL := ⟨mono_oRepL⟩
theorem Rps.rep {CT : Nat → Addr} {H : Hp} {vs : List V} {ds : List D} (r : Rps CT H vs ds []) : ∀ k : Nat, Rps CT H (List.replicate k vs).flatten (List.replicate k ds).flatten []
  | 0 => .nil
  | k + 1 => by
    rw [List.replicate_succ, List.replicate_succ, List.flatten_cons, List.flatten_cons]
    have := r.append (Rps.rep r k)
    simpa using this
theorem so_repL {CT : Nat → Addr} : SimO2 CT rRep oRepL := ⟨fun H v w d e F G Q a b q => by
  cases a with
  | lst ha ra =>
    cases b with
    | int k =>
      obtain ⟨i1, h1, h2, z, q⟩ := q
      have e1 := ra.imm i1
      subst e1
      exact ⟨_, k, _, rfl, rfl, ha, h1, h2, by rw [ra.length]; exact z, fun p hp => New.at1 q hp (.lst upd_same ((ra.rep k.toNat).keep (W := fun _ => False) (Fr.new hp) fun _ h => nomatch h))⟩
    | _ => exact (show False from q).elim
  | _ => exact (show False from q).elim, mono_oRepL⟩
/-! ### t < u, tuples of ints -/
def oLtT : O2 := fun d e Q => match d, e with
  | .tup xs, .tup ys => ∃ ns ms : List Int, xs = ns.map D.int ∧ ys = ms.map D.int ∧ Q (.bl (HT.lexLt ns ms))
  | _, _ => False
theorem mono_oLtT : Mono2 oLtT := fun d e Q Q' h q => by
  cases d <;> first | exact q | skip
  cases e <;> first | exact q | skip
  obtain ⟨ns, ms, h1, h2, q⟩ := q
  exact ⟨ns, ms, h1, h2, h _ q⟩
instance : MO2 oLtT := ⟨mono_oLtT⟩
theorem so_ltT {CT : Nat → Addr} {K : PySem.W.Frag} : SimO2 CT (rLtT K) oLtT := ⟨fun H v w d e F G Q a b q => by
  cases a with
  | tup ha ra =>
    cases b with
    | tup hb rb =>
      obtain ⟨ns, ms, rfl, rfl, q⟩ := q
      obtain ⟨rfl, _⟩ := ints_of ra
      obtain ⟨rfl, _⟩ := ints_of rb
      exact ⟨_, _, ns, ms, rfl, rfl, SqT.of ha, SqT.of hb, New.imm q (.bl _)⟩
    | _ => exact (show False from q).elim
  | _ => exact (show False from q).elim, mono_oLtT⟩
theorem k_ltT {X : Cx} {K : PySem.W.Frag} (h : X.K = K) (hu : X.A.units < cLine) : OpR X (compareOp .Lt) (rLtT K) := h ▸ op_ltT hu
/-! ### min(xs), xs a list of tuples of ints -/
theorem listLt_eq : ∀ a b : List Int, PySem.W.listLt a b = HT.lexLt a b
  | [], [] => rfl
  | [], _ :: _ => rfl
  | _ :: _, [] => rfl
  | x :: a, y :: b => by
    unfold PySem.W.listLt HT.lexLt
    rw [listLt_eq a b]
    rfl
def tupOf (k : Value → List Int) (u : Value) : PySem.W.Tup Int := ⟨k u⟩
theorem lex_total : ∀ {a b c : List Int}, HT.lexLt a b = false → HT.lexLt b c = false → HT.lexLt a c = false
  | [], [], _, _, h => h
  | [], _ :: _, _, h, _ => by simp [HT.lexLt] at h
  | _ :: _, _, [], _, _ => rfl
  | x :: a, [], z :: c, _, h => by simp [HT.lexLt] at h
  | x :: a, y :: b, z :: c, h1, h2 => by
    unfold HT.lexLt at h1 h2 ⊢
    split at h1
    · rename_i e
      subst e
      split at h2
      · rename_i e
        subst e
        rw [if_pos rfl]
        exact lex_total h1 h2
      · rename_i e
        rw [if_neg e]; exact h2
    · rename_i e
      split at h2
      · rename_i e2
        subst e2
        rw [if_neg e]; exact h1
      · have h1 := of_decide_eq_false h1
        have h2 := of_decide_eq_false h2
        rw [if_neg (by omega), decide_eq_false (by omega)]
theorem lex_self : ∀ a : List Int, HT.lexLt a a = false
  | [] => rfl
  | x :: a => by unfold HT.lexLt; rw [if_pos rfl]; exact lex_self a
theorem lex_asym : ∀ {a b : List Int}, HT.lexLt a b = true → HT.lexLt b a = false
  | [], [], h => by simp [HT.lexLt] at h
  | [], _ :: _, _ => rfl
  | _ :: _, [], h => by simp [HT.lexLt] at h
  | x :: a, y :: b, h => by
    unfold HT.lexLt at h ⊢
    split at h
    · rename_i e
      rw [if_pos e.symm]; exact lex_asym h
    · rename_i e
      have h := of_decide_eq_true h
      rw [if_neg (Ne.symm e), decide_eq_false (by omega)]
theorem minOf_le : ∀ (xs : List (PySem.W.Tup Int)) (x : PySem.W.Tup Int), (PySem.W.minOf x xs = x ∨ PySem.W.minOf x xs ∈ xs) ∧ HT.lexLt x.items (PySem.W.minOf x xs).items = false ∧ ∀ y ∈ xs, HT.lexLt y.items (PySem.W.minOf x xs).items = false
  | [], x => ⟨.inl rfl, lex_self _, fun _ h => nomatch h⟩
  | y :: xs, x => by
    have e : PySem.W.minOf x (y :: xs) = PySem.W.minOf (if HT.lexLt y.items x.items = true then y else x) xs := by
      show List.foldl _ _ xs = List.foldl _ _ xs
      rw [← listLt_eq]
      rfl
    rw [e]
    obtain ⟨h1, h2, h3⟩ := minOf_le xs (if HT.lexLt y.items x.items = true then y else x)
    by_cases c : HT.lexLt y.items x.items = true
    · rw [if_pos c] at h1 h2 h3 ⊢
      refine ⟨.inr ?_, ?_, fun z hz => ?_⟩
      · rcases h1 with h | h
        · rw [h]; exact List.mem_cons_self
        · exact List.mem_cons_of_mem _ h
      · exact lex_total (lex_asym c) h2
      · rcases List.mem_cons.mp hz with q | q
        · rw [q]; exact h2
        · exact h3 z q
    · rw [if_neg c] at h1 h2 h3 ⊢
      have c : HT.lexLt y.items x.items = false := by simpa using c
      refine ⟨h1.imp id (List.mem_cons_of_mem _), h2, fun z hz => ?_⟩
      rcases List.mem_cons.mp hz with q | q
      · rw [q]; exact lex_total c h2
      · exact h3 z q
def rMinTI (K : PySem.W.Frag) : List V → Hp → VK → Prop := fun vs H Q => ∃ (a : Addr) (xs : List V) (k : V → List Int), vs = [V.ref a] ∧ SqL K H a xs ∧ xs ≠ [] ∧ (∀ x ∈ xs, ∃ t, x = V.ref t ∧ H t = some (.tup ((k x).map V.int))) ∧
  ∀ y ∈ xs, (∀ x ∈ xs, HT.lexLt (k x) (k y) = false) → Q y H
theorem hold_all {h : Heap} {k : Value → List Int} : ∀ {its : List Value}, (∀ v ∈ its, PySem.W.Holds h v (tupOf k v)) → PySem.W.HoldAll h its (its.map (tupOf k))
  | [], _ => .nil
  | v :: its, hv => .cons (hv v List.mem_cons_self) (hold_all fun u hu => hv u (List.mem_cons_of_mem _ hu))
theorem ints_unique {vs : List Value} {ns ms : List Int} (a : IntsAre vs ns) (b : IntsAre vs ms) : ns = ms := by
  induction a generalizing ms with
  | nil => cases b; rfl
  | cons n t a ih => cases b with
    | cons _ _ b => rw [ih b]
theorem tup_unique {h : Heap} {v : Value} {t u : PySem.W.Tup Int} (a : PySem.W.Holds h v t) (b : PySem.W.Holds h v u) : t = u := by
  obtain ⟨l, vs, rfl, h1, h2⟩ := PySem.W.tup_of_holds a
  obtain ⟨l', us, e, g1, g2⟩ := PySem.W.tup_of_holds b
  cases e
  obtain ⟨o, ho, _, n, hd⟩ := h1
  obtain ⟨o', ho', _, n', hd'⟩ := g1
  rw [ho] at ho'; cases ho'
  rw [hd] at hd'; cases hd'
  have := ints_unique h2.toInts g2.toInts
  cases t; cases u
  exact congrArg _ this
theorem cr_minTI {X : Cx} (hc : X.calm = true) (hu : X.A.units + 64 < cLine) : CallR X (.builtin "min") (rMinTI X.K) := by
  intro pins s σ H vs us Q I r h
  obtain ⟨a, xs, k, rfl, hs, hne, hx, q⟩ := h
  obtain ⟨its, rv, hl, hz⟩ := I.list hs
  obtain ⟨u, rfl, ru⟩ := vals1 r
  obtain rfl : u = Value.ref a := ru
  obtain ⟨e1, e2⟩ := refs_back rv fun x m => by
    obtain ⟨t, e, _⟩ := hx x m
    exact ⟨t, e⟩
  have hp : ∀ v ∈ its, PySem.W.Holds s.heap v (tupOf (fun u => k (backV u)) v) := fun v hv => by
    obtain ⟨t, rfl⟩ := e2 v hv
    have hm : V.ref t ∈ xs := by rw [e1]; exact List.mem_map.mpr ⟨_, hv, rfl⟩
    obtain ⟨t', e, ht⟩ := hx _ hm
    cases e
    obtain ⟨i2, rv2, hT, _⟩ := I.tuple (SqT.of (K := X.K) ht)
    exact PySem.W.holds_tup (α := Int) hT (.of_ints (show IntsAre i2 (k (V.ref t)) from rv2.ints))
  cases its with
  | nil => cases xs with
    | nil => exact absurd rfl hne
    | cons x xs => cases rv
  | cons u0 us0 =>
    refine PySem.W.min_list_datum (α := PySem.W.Tup Int) (I.ok.hd hc) hl.isList (x := tupOf (fun u => k (backV u)) u0) (xs := us0.map (tupOf fun u => k (backV u))) (by simpa using hold_all hp) (by show X.A.units + 1 + _ < _; exact Nat.lt_of_le_of_lt (Nat.add_le_add_left (by decide : PySem.W.Datum.depth (PySem.W.Tup Int) ≤ 60) _) (by omega)) fun i v h' tk hv ho hk => ?_
    have hm : v ∈ u0 :: us0 := by simpa using Array.mem_of_getElem? hv
    obtain ⟨t, rfl⟩ := e2 v hm
    have hmx : V.ref t ∈ xs := by rw [e1]; exact List.mem_map.mpr ⟨_, hm, rfl⟩
    have eq := tup_unique ho ((hp _ hm).keeps hk)
    obtain ⟨_, g2, g3⟩ := minOf_le (us0.map (tupOf fun u => k (backV u))) (tupOf (fun u => k (backV u)) u0)
    rw [eq] at g2 g3
    refine ⟨.ref t, H, I.kept hk, rfl, q _ hmx fun x hxm => ?_⟩
    rw [e1] at hxm
    obtain ⟨u, hu, rfl⟩ := List.mem_map.mp hxm
    rcases List.mem_cons.mp hu with z | z
    · rw [z]; exact g2
    · exact g3 _ (List.mem_map.mpr ⟨u, z, rfl⟩)
def oMinT : O1 := fun d Q => match d with
  | .lst xs => ∃ rows : List (List Int), xs = rowsD rows ∧ rows ≠ [] ∧ ∀ r ∈ rows, (∀ s ∈ rows, HT.lexLt s r = false) → Q (.tup (dInts r))
  | _ => False
theorem mono_oMinT : Mono1 oMinT := fun d Q Q' h q => by
  cases d <;> first | exact q | skip
  obtain ⟨rows, e, n, q⟩ := q
  exact ⟨rows, e, n, fun r h1 h2 => h _ (q r h1 h2)⟩
instance : MO1 oMinT := ⟨mono_oMinT⟩
theorem sc_minT {CT : Nat → Addr} {K : PySem.W.Frag} : SimC1 CT (rMinTI K) oMinT := ⟨fun H v d F Q a q => by
  cases a with
  | lst ha ra =>
    obtain ⟨rows, rfl, hne, q⟩ := q
    obtain ⟨h1, h2⟩ := rowsD_inv ra
    refine ⟨_, _, kOf H, rfl, SqL.of ha, fun e => ?_, h2, fun y hy hm => ?_⟩
    · subst e; exact hne h1.symm
    · obtain ⟨t, rfl, ht⟩ := h2 y hy
      refine New.imm (q (kOf H (.ref t)) (by rw [← h1]; exact List.mem_map.mpr ⟨_, hy, rfl⟩) fun s hs => ?_) (.tup ht (rps_dInts _))
      rw [← h1] at hs
      obtain ⟨x, hx, rfl⟩ := List.mem_map.mp hs
      exact hm x hx
  | _ => exact (show False from q).elim, mono_oMinT⟩
theorem k_minT {X : Cx} {K : PySem.W.Frag} (h : X.K = K) (hc : X.calm = true) (hu : X.A.units + 65 < cLine) : CallR X (.builtin "min") (rMinTI K) := h ▸ cr_minTI hc (by omega)
end Pu

/-! file M_k04 -/
set_option Elab.async false
set_option linter.all false
set_option maxRecDepth 100000
set_option synthInstance.maxHeartbeats 0
set_option synthInstance.maxSize 100000
namespace Pu
open PySem PySem.Spec PyProof.Rows L2
/-! is_integer -/
def b_is_integer : XS := sRet (xAnd (x1 (oIsA "int") (xVar 0)) (xNot (x1 (oIsA "bool") (xVar 0))))
def m_is_integer : XF := fnM 1 b_is_integer
theorem mo_is_integer : MonoF m_is_integer := monoF_fn (by unfold b_is_integer; exact MS.all)
instance : MF m_is_integer := ⟨mo_is_integer⟩
/-! is_number -/
def b_is_number : XS := sRet (xAnd (xCall m_is_integer (xCons (xVar 0) xNil)) (x2 (oI fun i j => .bl (decide (j ≤ i))) (xVar 0) (xC (.int 0))))
def m_is_number : XF := fnM 1 b_is_number
theorem mo_is_number : MonoF m_is_number := monoF_fn (by unfold b_is_number; exact MS.all)
instance : MF m_is_number := ⟨mo_is_number⟩
/-! is_below -/
def b_is_below : XS := sRet (xAnd (xCall m_is_number (xCons (xVar 0) xNil)) (x2 (oI fun i j => .bl (decide (i < j))) (xVar 0) (xVar 1)))
def m_is_below : XF := fnM 2 b_is_below
theorem mo_is_below : MonoF m_is_below := monoF_fn (by unfold b_is_below; exact MS.all)
instance : MF m_is_below := ⟨mo_is_below⟩
/-! is_lot -/
def b_is_lot : XS := sSeq (sIf (bOr (bNot (bTest (x1 (oIsA "tuple") (xVar 0)))) (bNot (bTest (x1 (oAny true) (xLc (mSeq (xVar 0)) (bName 4) bYes (xCall m_is_below (xCons (xVar 4) (xCons (xVar 1) xNil)))))))) (sRet (xC (.bl false))) sNext) (sRet (x1 (oAny true) (xLc (mZip (xCons (xVar 0) (xCons (xSl (xVar 0) (pYes (xC (.int 1))) pNo) xNil))) (bTup 2 (bCons (bName 2) (bCons (bName 3) bNil))) bYes (x2 (oI fun i j => .bl (decide (i < j))) (xVar 2) (xVar 3)))))
def m_is_lot : XF := fnM 5 b_is_lot
theorem mo_is_lot : MonoF m_is_lot := monoF_fn (by unfold b_is_lot; exact MS.all)
instance : MF m_is_lot := ⟨mo_is_lot⟩
/-! are_works -/
def b_are_works : XS := sSeq (sSet 2 (x1 oLenA (x1 (atF 3 "works") (xVar 0)))) (sRet (xAnd (x1 (oIsA "tuple") (xVar 1)) (x1 (oAny true) (xLc (mSeq (xVar 1)) (bName 3) bYes (xCall m_is_below (xCons (xVar 3) (xCons (xVar 2) xNil)))))))
def m_are_works : XF := fnM 4 b_are_works
theorem mo_are_works : MonoF m_are_works := monoF_fn (by unfold b_are_works; exact MS.all)
instance : MF m_are_works := ⟨mo_are_works⟩
/-! check_row -/
def b_check_row : XS := sIf (bNot (bTest (xCall m_are_works (xCons (xVar 0) (xCons (xVar 1) xNil))))) sNever sNext
def m_check_row : XF := fnM 2 b_check_row
theorem mo_check_row : MonoF m_check_row := monoF_fn (by unfold b_check_row; exact MS.all)
instance : MF m_check_row := ⟨mo_check_row⟩
/-! are_office_works -/
def b_are_office_works : XS := sSeq (sIf (bOr (bNot (bTest (x1 (oIsA "tuple") (xVar 1)))) (bNot (bTest (xChain (oI fun i j => .bl (decide (i ≤ j))) (oI fun i j => .bl (decide (i ≤ j))) (xC (.int 1)) (x1 oLenA (xVar 1)) (xC (.int 10)))))) (sRet (xC (.bl false))) sNext) (sRet (x1 (oAny true) (xLc (mSeq (xVar 1)) (bName 2) bYes (xAnd (xCall m_is_lot (xCons (xVar 2) (xCons (xVar 0) xNil))) (x2 (oI fun i j => .bl (decide (j < i))) (x1 oLenA (xVar 2)) (xC (.int 0)))))))
def m_are_office_works : XF := fnM 3 b_are_office_works
theorem mo_are_office_works : MonoF m_are_office_works := monoF_fn (by unfold b_are_office_works; exact MS.all)
instance : MF m_are_office_works := ⟨mo_are_office_works⟩
/-! Office.__init__ -/
def b_Office_init : XS := sSeq (sIf (bOr (bNot (bTest (xCall m_is_integer (xCons (xVar 1) xNil)))) (bNot (bTest (xChain (oI fun i j => .bl (decide (i ≤ j))) (oI fun i j => .bl (decide (i ≤ j))) (xC (.int 1)) (xVar 1) (xC (.int 6)))))) sNever sNext) (sSeq (sIf (bNot (bTest (xCall m_are_office_works (xCons (xVar 1) (xCons (xVar 2) xNil))))) sNever sNext) (sSeq (sSetF 0 3 "desks" (xImm (xVar 1))) (sSetF 0 3 "works" (xImm (xVar 2)))))
def i_Office : XI := fnI0 2 3 3 b_Office_init
theorem mo_Office_init : MonoI i_Office := monoI_fn0 (by unfold b_Office_init; exact MS.all)
instance : MI i_Office := ⟨mo_Office_init⟩
/-! all_logs -/
def b_all_logs : XS := sRet (x1 oTup (xLc (mRng1 (x1 (atF 3 "desks") (xVar 0))) (bName 2) bYes (x1 oTup (xLc (mSeq (xVar 1)) (bName 3) (bTest (x2 (oIn false) (xVar 2) (x2 oIx (x1 (atF 3 "works") (xVar 0)) (xVar 3)))) (xImm (xVar 3))))))
def m_all_logs : XF := fnM 4 b_all_logs
theorem mo_all_logs : MonoF m_all_logs := monoF_fn (by unfold b_all_logs; exact MS.all)
instance : MF m_all_logs := ⟨mo_all_logs⟩
/-! alike -/
def b_alike : XS := sSeq (sDrop (xCall m_check_row (xCons (xVar 0) (xCons (xVar 1) xNil)))) (sSeq (sDrop (xCall m_check_row (xCons (xVar 0) (xCons (xVar 2) xNil)))) (sRet (x2 oEq (xCall m_all_logs (xCons (xVar 0) (xCons (xVar 1) xNil))) (xCall m_all_logs (xCons (xVar 0) (xCons (xVar 2) xNil))))))
def m_alike : XF := fnM 3 b_alike
theorem mo_alike : MonoF m_alike := monoF_fn (by unfold b_alike; exact MS.all)
instance : MF m_alike := ⟨mo_alike⟩
/-! _law_draw -/
abbrev m__law_draw : XF := mDraw
theorem mo__law_draw : MonoF m__law_draw := mo_mDraw
/-! _law_parts -/
def b__law_parts : XS := sSeq (sSet 2 (x2 oAdd (xC (.int 1)) (xCall m__law_draw (xDice (xCons (xVar 1) xNil))))) (sSeq (sSet 3 (xCall m__law_draw (xDice (xCons (xC (.int 4)) xNil)))) (sSeq (sSet 4 (xLst xNil)) (sSeq (sIf (bAnd (bTest (x2 oEq (xVar 3) (xC (.int 1)))) (bTest (x2 (oI fun i j => .bl (decide (j < i))) (xVar 2) (xC (.int 2))))) (sSet 4 (xLc (mRng1 (xVar 2)) (bName 7) bYes (x1 oTup (x1 oSortA (xLst (xCons (xImm (xVar 7)) (xCons (x2 (oIc (fun _ j => j ≠ 0) fun i j => .int (i.fmod j)) (x1 oInt (x2 oAdd (xVar 7) (xC (.int 1)))) (xVar 2)) xNil))))))) sNext) (sSeq (sIf (bTest (x2 oEq (xVar 3) (xC (.int 2)))) (sSet 4 (xLc (mRng1 (xVar 2)) (bName 7) bYes (xTup (xCons (xImm (xVar 7)) xNil)))) sNext) (sSeq (sIf (bAnd (bTest (x2 oEq (xVar 3) (xC (.int 3)))) (bTest (x2 (oI fun i j => .bl (decide (j < i))) (xVar 2) (xC (.int 1))))) (sSet 4 (xLc (mRng2 (xC (.int 1)) (xVar 2)) (bName 7) bYes (xTup (xCons (xC (.int 0)) (xCons (xImm (xVar 7)) xNil))))) sNext) (sSeq (sFor (mRng1 (x2 oAdd (xC (.int 1)) (xCall m__law_draw (xDice (xCons (xC (.int 4)) xNil))))) (bName 5) (sSeq (sSet 6 (x1 oTup (xLc (mRng1 (xVar 2)) (bName 7) (bTest (x2 oEq (xCall m__law_draw (xDice (xCons (xC (.int 2)) xNil))) (xC (.int 0)))) (xImm (xVar 7))))) (sApp 4 (xIf (bTest (x2 (oI fun i j => .bl (decide (j < i))) (x1 oLenA (xVar 6)) (xC (.int 0)))) (xImm (xVar 6)) (xTup (xCons (xCall m__law_draw (xDice (xCons (xVar 2) xNil))) xNil)))))) (sRet (xTup (xCons (xImm (xVar 2)) (xCons (x1 oTup (xSl (xVar 4) pNo (pYes (xC (.int 10))))) xNil))))))))))
def m__law_parts : XF := fnM 8 b__law_parts
theorem mo__law_parts : MonoF m__law_parts := monoF_fn (by unfold b__law_parts; exact MS.all)
instance : MF m__law_parts := ⟨mo__law_parts⟩
/-! _law_made -/
def b__law_made : XS := sRet (xMake 3 i_Office (xCons (xImm (x2 oIx (xVar 0) (xC (.int 0)))) (xCons (xImm (x2 oIx (xVar 0) (xC (.int 1)))) xNil)))
def m__law_made : XF := fnM 1 b__law_made
theorem mo__law_made : MonoF m__law_made := monoF_fn (by unfold b__law_made; exact MS.all)
instance : MF m__law_made := ⟨mo__law_made⟩
/-! _law_some_parts -/
def b__law_some_parts : XS := sRet (xCall m__law_parts (xDice (xCons (xIf (bTest (x2 oEq (xCall m__law_draw (xDice (xCons (xC (.int 8)) xNil))) (xC (.int 0)))) (xC (.int 6)) (xC (.int 4))) xNil)))
def m__law_some_parts : XF := fnM 1 b__law_some_parts
theorem mo__law_some_parts : MonoF m__law_some_parts := monoF_fn (by unfold b__law_some_parts; exact MS.all)
instance : MF m__law_some_parts := ⟨mo__law_some_parts⟩
/-! _law_row -/
def b__law_row : XS := sRet (x1 oTup (xLc (mRng1 (xCall m__law_draw (xDice (xCons (x2 oAdd (xVar 2) (xC (.int 1))) xNil)))) (bName 3) bYes (xCall m__law_draw (xDice (xCons (x1 oLenA (x2 oIx (xVar 1) (xC (.int 1)))) xNil)))))
def m__law_row : XF := fnM 4 b__law_row
theorem mo__law_row : MonoF m__law_row := monoF_fn (by unfold b__law_row; exact MS.all)
instance : MF m__law_row := ⟨mo__law_row⟩
/-! _law_meets -/
def b__law_meets : XS := sRet (x1 (oAny false) (xLc (mSeq (x2 oIx (x2 oIx (xVar 0) (xC (.int 1))) (xVar 1))) (bName 3) bYes (x2 (oIn false) (xVar 3) (x2 oIx (x2 oIx (xVar 0) (xC (.int 1))) (xVar 2)))))
def m__law_meets : XF := fnM 4 b__law_meets
theorem mo__law_meets : MonoF m__law_meets := monoF_fn (by unfold b__law_meets; exact MS.all)
instance : MF m__law_meets := ⟨mo__law_meets⟩
/-! _law_flag -/
def b__law_flag : XS := sRet (xAnd (x1 (oIsA "bool") (xVar 0)) (x2 oEq (xVar 0) (xVar 1)))
def m__law_flag : XF := fnM 2 b__law_flag
theorem mo__law_flag : MonoF m__law_flag := monoF_fn (by unfold b__law_flag; exact MS.all)
instance : MF m__law_flag := ⟨mo__law_flag⟩
/-! _law_near -/
def b__law_near : XS := sSeq (sSet 1 (xLRg1 (x1 oLenA (x2 oIx (xVar 0) (xC (.int 1)))))) (sRet (xLc (mSeq (xVar 1)) (bName 2) bYes (xLc (mSeq (xVar 1)) (bName 3) bYes (xCall m__law_meets (xCons (xVar 0) (xCons (xVar 2) (xCons (xVar 3) xNil)))))))
def m__law_near : XF := fnM 4 b__law_near
theorem mo__law_near : MonoF m__law_near := monoF_fn (by unfold b__law_near; exact MS.all)
instance : MF m__law_near := ⟨mo__law_near⟩
/-! _law_exchanged -/
def b__law_exchanged : XS := sSeq (sSet 2 (xDispT (xVar 1) (xC (.int 0)))) (sSeq (sSet 3 (xLst (xCons (xImm (xVar 1)) xNil))) (sSeq (sWhile (bTest (x2 (oI fun i j => .bl (decide (j < i))) (x1 oLenA (xVar 3)) (xC (.int 0)))) (sSeq (sSet 4 (xLst xNil)) (sSeq (sFor (mSeq (xVar 3)) (bName 5) (sFor (mRng1 (x2 (oI fun i j => .int (i - j)) (x1 oLenA (xVar 5)) (xC (.int 1)))) (bName 6) (sSeq (sSet 7 (x2 oAdd (x2 oAdd (xSl (xVar 5) pNo (pYes (xVar 6))) (xTup (xCons (xImm (x2 oIx (xVar 5) (x2 oAdd (xVar 6) (xC (.int 1))))) (xCons (xImm (x2 oIx (xVar 5) (xVar 6))) xNil)))) (xSl (xVar 5) (pYes (x2 oAdd (xVar 6) (xC (.int 2)))) pNo))) (sIf (bAnd (bNot (bTest (x2 oIx (x2 oIx (xVar 0) (x2 oIx (xVar 5) (xVar 6))) (x2 oIx (xVar 5) (x2 oAdd (xVar 6) (xC (.int 1))))))) (bTest (x2 (oIn true) (xVar 7) (xVar 2)))) (sSeq (sPut 2 (xVar 7) (x2 oAdd (x2 oIx (xVar 2) (xVar 5)) (xC (.int 1)))) (sApp 4 (xImm (xVar 7)))) sNext)))) (sSet 3 (xVar 4))))) (sRet (xVar 2))))
def m__law_exchanged : XF := fnM 8 b__law_exchanged
theorem mo__law_exchanged : MonoF m__law_exchanged := monoF_fn (by unfold b__law_exchanged; exact MS.all)
instance : MF m__law_exchanged := ⟨mo__law_exchanged⟩
/-! _law_mixed -/
def b__law_mixed : XS := sSeq (sSet 4 (x1 oListA (xVar 2))) (sSeq (sFor (mRng1 (xIf (bTest (x2 (oI fun i j => .bl (decide (j < i))) (x1 oLenA (xVar 2)) (xC (.int 1)))) (xImm (xVar 3)) (xC (.int 0)))) (bName 5) (sSeq (sSet 6 (xCall m__law_draw (xDice (xCons (x2 (oI fun i j => .int (i - j)) (x1 oLenA (xVar 4)) (xC (.int 1))) xNil)))) (sIf (bNot (bTest (x2 oIx (x2 oIx (xVar 1) (x2 oIx (xVar 4) (xVar 6))) (x2 oIx (xVar 4) (x2 oAdd (xVar 6) (xC (.int 1))))))) (sSwap 4 (xTup (xCons (xImm (x2 oIx (xVar 4) (x2 oAdd (xVar 6) (xC (.int 1))))) (xCons (xImm (x2 oIx (xVar 4) (xVar 6))) xNil))) (xVar 6) (x2 oAdd (xVar 6) (xC (.int 1)))) sNext))) (sRet (x1 oTup (xVar 4))))
def m__law_mixed : XF := fnM 7 b__law_mixed
theorem mo__law_mixed : MonoF m__law_mixed := monoF_fn (by unfold b__law_mixed; exact MS.all)
instance : MF m__law_mixed := ⟨mo__law_mixed⟩
/-! _law_changed -/
def b__law_changed : XS := sSeq (sSet 3 (x1 oListA (xCall m__law_mixed (xDice (xCons (xVar 1) (xCons (xVar 2) (xCons (xC (.int 6)) xNil))))))) (sSeq (sSet 4 (xCall m__law_draw (xDice (xCons (xC (.int 6)) xNil)))) (sSeq (sSet 5 (xCall m__law_draw (xDice (xCons (x2 oAdd (x1 oLenA (xVar 3)) (xC (.int 1))) xNil)))) (sSeq (sIf (bTest (x2 oEq (xVar 4) (xC (.int 0)))) (sLm 3 uIns (xCons (xImm (xVar 5)) (xCons (xCall m__law_draw (xDice (xCons (x1 oLenA (xVar 1)) xNil))) xNil))) sNext) (sSeq (sIf (bAnd (bTest (x2 oEq (xVar 4) (xC (.int 1)))) (bTest (x2 (oI fun i j => .bl (decide (i < j))) (xVar 5) (x1 oLenA (xVar 3))))) (sLm 3 uPopAt (xCons (xImm (xVar 5)) xNil)) sNext) (sSeq (sIf (bAnd (bTest (x2 oEq (xVar 4) (xC (.int 2)))) (bTest (x2 (oI fun i j => .bl (decide (i < j))) (xVar 5) (x1 oLenA (xVar 3))))) (sPut 3 (xVar 5) (xCall m__law_draw (xDice (xCons (x1 oLenA (xVar 1)) xNil)))) sNext) (sSeq (sIf (bAnd (bTest (x2 oEq (xVar 4) (xC (.int 3)))) (bTest (x2 (oI fun i j => .bl (decide (i < j))) (x2 oAdd (xVar 5) (xC (.int 1))) (x1 oLenA (xVar 3))))) (sSwap 3 (xTup (xCons (xImm (x2 oIx (xVar 3) (x2 oAdd (xVar 5) (xC (.int 1))))) (xCons (xImm (x2 oIx (xVar 3) (xVar 5))) xNil))) (xVar 5) (x2 oAdd (xVar 5) (xC (.int 1)))) sNext) (sRet (x1 oTup (xVar 3)))))))))
def m__law_changed : XF := fnM 6 b__law_changed
theorem mo__law_changed : MonoF m__law_changed := monoF_fn (by unfold b__law_changed; exact MS.all)
instance : MF m__law_changed := ⟨mo__law_changed⟩
/-! law_k04 -/
def b_law_k04 : XS := sSeq (sFor (mRng1 (xC (.int 4))) (bName 2) (sSeq (sSet 3 (xCall m__law_some_parts (xDice xNil))) (sSeq (sSet 4 (xCall m__law_made (xCons (xVar 3) xNil))) (sSeq (sSet 5 (xCall m__law_near (xCons (xVar 3) xNil))) (sSeq (sSet 6 (xCall m__law_row (xDice (xCons (xVar 3) (xCons (xIf (bTest (x2 oEq (xVar 2) (xC (.int 0)))) (xC (.int 7)) (xC (.int 5))) xNil))))) (sSeq (sSet 7 (xCall m__law_exchanged (xCons (xVar 5) (xCons (xVar 6) xNil)))) (sSeq (sFor (mRng1 (xC (.int 6))) (bName 8) (sSeq (sSet 9 (xIf (bTest (x2 (oI fun i j => .bl (decide (j < i))) (xCall m__law_draw (xDice (xCons (xC (.int 4)) xNil))) (xC (.int 0)))) (xCall m__law_changed (xDice (xCons (xVar 5) (xCons (xVar 6) xNil)))) (xCall m__law_row (xDice (xCons (xVar 3) (xCons (xC (.int 5)) xNil)))))) (sSeq (sSet 10 (x2 (oIn false) (xVar 9) (xVar 7))) (sSeq (sIf (bOr (bNot (bTest (xCall m__law_flag (xCons (xCall m_alike (xCons (xVar 4) (xCons (xVar 6) (xCons (xVar 9) xNil)))) (xCons (xVar 10) xNil))))) (bNot (bTest (xCall m__law_flag (xCons (xCall m_alike (xCons (xVar 4) (xCons (xVar 9) (xCons (xVar 6) xNil)))) (xCons (xVar 10) xNil)))))) (sRet (xC (.bl false))) sNext) (sSeq (sSet 11 (xCall m__law_changed (xDice (xCons (xVar 5) (xCons (xVar 9) xNil))))) (sSeq (sIf (bAnd (bTest (xVar 10)) (bTest (x2 (oIsB false) (xCall m__law_flag (xCons (xCall m_alike (xCons (xVar 4) (xCons (xVar 9) (xCons (xVar 11) xNil)))) (xCons (x2 (oIn false) (xVar 11) (xVar 7)) xNil))) (xC (.bl false))))) (sRet (xC (.bl false))) sNext) (sSeq (sSet 12 (xCall m__law_row (xDice (xCons (xVar 3) (xCons (xC (.int 3)) xNil))))) (sIf (bOr (bTest (x2 oNe (xCall m_alike (xCons (xVar 4) (xCons (x2 oAdd (xVar 6) (xVar 12)) (xCons (x2 oAdd (xVar 9) (xVar 12)) xNil)))) (xVar 10))) (bTest (x2 oNe (xCall m_alike (xCons (xVar 4) (xCons (x2 oAdd (xVar 12) (xVar 6)) (xCons (x2 oAdd (xVar 12) (xVar 9)) xNil)))) (xVar 10)))) (sRet (xC (.bl false))) sNext)))))))) (sSeq (sSet 13 (x1 oSortA (x1 oListA (xVar 7)))) (sFor (mSeq (xLst (xCons (xC (.int 0)) (xCons (x2 (oI fun i j => .int (i - j)) (x1 oLenA (xVar 13)) (xC (.int 1))) (xCons (xCall m__law_draw (xDice (xCons (x1 oLenA (xVar 13)) xNil))) xNil))))) (bName 14) (sIf (bTest (x2 (oIsB true) (xCall m_alike (xCons (xVar 4) (xCons (xVar 6) (xCons (x2 oIx (xVar 13) (xVar 14)) xNil)))) (xC (.bl true)))) (sRet (xC (.bl false))) sNext)))))))))) (sRet (xC (.bl true)))
end Pu

/-! file M_k09 -/
set_option Elab.async false
set_option linter.all false
set_option maxRecDepth 100000
set_option synthInstance.maxHeartbeats 0
set_option synthInstance.maxSize 100000
namespace Pu
open PySem PySem.Spec PyProof.Rows L2
/-! check_desk -/
def b_check_desk : XS := sIf (bNot (bTest (xCall m_is_below (xCons (xVar 1) (xCons (x1 (atF 3 "desks") (xVar 0)) xNil))))) sNever sNext
def m_check_desk : XF := fnM 2 b_check_desk
theorem mo_check_desk : MonoF m_check_desk := monoF_fn (by unfold b_check_desk; exact MS.all)
instance : MF m_check_desk := ⟨mo_check_desk⟩
/-! log -/
def b_log : XS := sSeq (sDrop (xCall m_check_row (xCons (xVar 0) (xCons (xVar 1) xNil)))) (sSeq (sDrop (xCall m_check_desk (xCons (xVar 0) (xCons (xVar 2) xNil)))) (sRet (x2 oIx (xCall m_all_logs (xCons (xVar 0) (xCons (xVar 1) xNil))) (xVar 2))))
def m_log : XF := fnM 3 b_log
theorem mo_log : MonoF m_log := monoF_fn (by unfold b_log; exact MS.all)
instance : MF m_log := ⟨mo_log⟩
/-! _law_whole -/
def b__law_whole : XS := sSeq (sIf (bTest (x2 oIsN (xVar 1) (xC .non))) (sRet (x2 oIsN (xVar 0) (xC .non))) sNext) (sRet (xAnd (x1 (oIsA "int") (xVar 0)) (xAnd (xNot (x1 (oIsA "bool") (xVar 0))) (x2 oEq (xVar 0) (xVar 1)))))
def m__law_whole : XF := fnM 2 b__law_whole
theorem mo__law_whole : MonoF m__law_whole := monoF_fn (by unfold b__law_whole; exact MS.all)
instance : MF m__law_whole := ⟨mo__law_whole⟩
/-! _law_same -/
def b__law_same (self : XF) : XS := sSeq (sIf (bTest (x1 (oIsAny ["tuple", "list"]) (xVar 1))) (sSeq (sIf (bOr (bTest (x2 oNe (x1 (oIsA "tuple") (xVar 0)) (x1 (oIsA "tuple") (xVar 1)))) (bTest (x2 oNe (x1 (oIsA "list") (xVar 0)) (x1 (oIsA "list") (xVar 1))))) (sRet (xC (.bl false))) sNext) (sSeq (sIf (bTest (x2 oNe (x1 oLenA (xVar 0)) (x1 oLenA (xVar 1)))) (sRet (xC (.bl false))) sNext) (sRet (x1 (oAny true) (xLc (mRng1 (x1 oLenA (xVar 1))) (bName 2) bYes (xCall self (xCons (x2 oIx (xVar 0) (xVar 2)) (xCons (x2 oIx (xVar 1) (xVar 2)) xNil)))))))) sNext) (sSeq (sIf (bOr (bTest (x1 (oIsA "bool") (xVar 1))) (bTest (x1 (oIsA "str") (xVar 1)))) (sSeq (sIf (bOr (bNot (bTest (x1 (oIsAny ["bool", "str"]) (xVar 0)))) (bTest (x2 oNe (x1 (oIsA "bool") (xVar 0)) (x1 (oIsA "bool") (xVar 1))))) (sRet (xC (.bl false))) sNext) (sRet (x2 oEq (xVar 0) (xVar 1)))) sNext) (sRet (xCall m__law_whole (xCons (xVar 0) (xCons (xVar 1) xNil)))))
def m__law_same_n : Nat → XF
  | 0 => fun _ _ => False
  | n + 1 => fnM 3 (b__law_same (m__law_same_n n))
theorem mo__law_same_n : ∀ n, MonoF (m__law_same_n n)
  | 0 => fun _ _ _ _ q => q
  | n + 1 => by
    haveI : MF (m__law_same_n n) := ⟨mo__law_same_n n⟩
    exact monoF_fn (by unfold b__law_same; exact MS.all)
def m__law_same : XF := m__law_same_n 8
theorem mo__law_same : MonoF m__law_same := mo__law_same_n 8
instance : MF m__law_same := ⟨mo__law_same⟩
/-! _law_free_at -/
def b__law_free_at : XS := sSeq (sFor (mRng1 (x1 oLenA (xVar 1))) (bName 3) (sSeq (sIf (bTest (x2 oEq (x2 oIx (xVar 1) (xVar 3)) (xVar 2))) (sRet (xImm (xVar 3))) sNext) (sIf (bTest (x2 oIx (x2 oIx (xVar 0) (x2 oIx (xVar 1) (xVar 3))) (xVar 2))) (sRet (xC .non)) sNext))) (sRet (xC .non))
def m__law_free_at : XF := fnM 4 b__law_free_at
theorem mo__law_free_at : MonoF m__law_free_at := monoF_fn (by unfold b__law_free_at; exact MS.all)
instance : MF m__law_free_at := ⟨mo__law_free_at⟩
/-! _law_least -/
def b__law_least : XS := sSeq (sSet 2 (x1 oListA (xVar 1))) (sSeq (sSet 3 (xLst xNil)) (sSeq (sFor (mRng1 (x1 oLenA (xVar 1))) (bName 4) (sFor (mSeq (x1 oSortSet (xVar 2))) (bName 5) (sSeq (sSet 6 (xCall m__law_free_at (xCons (xVar 0) (xCons (xVar 2) (xCons (xVar 5) xNil))))) (sIf (bTest (x2 oNotN (xVar 6) (xC .non))) (sSeq (sAppE' 3 (xPop 2 (xVar 6))) sBreak) sNext)))) (sRet (x1 oTup (xVar 3)))))
def m__law_least : XF := fnM 7 b__law_least
theorem mo__law_least : MonoF m__law_least := monoF_fn (by unfold b__law_least; exact MS.all)
instance : MF m__law_least := ⟨mo__law_least⟩
/-! _law_logs -/
def b__law_logs : XS := sRet (x1 oTup (xLc (mRng1 (x2 oIx (xVar 0) (xC (.int 0)))) (bName 2) bYes (x1 oTup (xLc (mSeq (xVar 1)) (bName 3) (bTest (x2 (oIn false) (xVar 2) (x2 oIx (x2 oIx (xVar 0) (xC (.int 1))) (xVar 3)))) (xImm (xVar 3))))))
def m__law_logs : XF := fnM 4 b__law_logs
theorem mo__law_logs : MonoF m__law_logs := monoF_fn (by unfold b__law_logs; exact MS.all)
instance : MF m__law_logs := ⟨mo__law_logs⟩
/-! law_k09 -/
def b_law_k09 : XS := sSeq (sFor (mRng1 (xC (.int 3))) (bName 2) (sSeq (sSet 3 (xCall m__law_some_parts (xDice xNil))) (sSeq (sSet 4 (xCall m__law_made (xCons (xVar 3) xNil))) (sSeq (sSet 5 (xCall m__law_near (xCons (xVar 3) xNil))) (sSeq (sSet 6 (xLRg1 (x2 oIx (xVar 3) (xC (.int 0))))) (sSeq (sSet 7 (xCall m__law_row (xDice (xCons (xVar 3) (xCons (xC (.int 6)) xNil))))) (sSeq (sSet 8 (xCall m__law_exchanged (xCons (xVar 5) (xCons (xVar 7) xNil)))) (sSeq (sSet 9 (x1 oTup (xLc (mSeq (xVar 6)) (bName 15) bYes (xCall m_log (xCons (xVar 4) (xCons (xVar 7) (xCons (xVar 15) xNil))))))) (sSeq (sIf (bNot (bTest (xCall m__law_same (xCons (xVar 9) (xCons (xCall m__law_logs (xCons (xVar 3) (xCons (xVar 7) xNil))) xNil))))) (sRet (xC (.bl false))) sNext) (sSeq (sFor (mRng1 (xC (.int 5))) (bName 10) (sSeq (sSet 11 (xCall m__law_changed (xDice (xCons (xVar 5) (xCons (xVar 7) xNil))))) (sSeq (sSet 12 (x2 oEq (x1 oTup (xLc (mSeq (xVar 6)) (bName 15) bYes (xCall m_log (xCons (xVar 4) (xCons (xVar 11) (xCons (xVar 15) xNil)))))) (xVar 9))) (sIf (bOr (bTest (x2 oNe (xVar 12) (x2 (oIn false) (xVar 11) (xVar 8)))) (bTest (x2 oNe (xCall m_alike (xCons (xVar 4) (xCons (xVar 7) (xCons (xVar 11) xNil)))) (xVar 12)))) (sRet (xC (.bl false))) sNext)))) (sSeq (sSet 7 (xCall m__law_row (xDice (xCons (xVar 3) (xCons (xC (.int 60)) xNil))))) (sSeq (sFor (mSeq (xLst (xCons (xCall m__law_mixed (xDice (xCons (xVar 5) (xCons (xVar 7) (xCons (xC (.int 60)) xNil))))) (xCons (xSl (xCall m__law_changed (xDice (xCons (xVar 5) (xCons (xVar 7) xNil)))) pNo (pYes (xC (.int 60)))) xNil)))) (bName 11) (sSeq (sIf (bNot (bTest (x1 (oAny true) (xLc (mSeq (xVar 6)) (bName 15) bYes (xCall m__law_same (xCons (xCall m_log (xCons (xVar 4) (xCons (xVar 11) (xCons (xVar 15) xNil)))) (xCons (x2 oIx (xCall m__law_logs (xCons (xVar 3) (xCons (xVar 11) xNil))) (xVar 15)) xNil))))))) (sRet (xC (.bl false))) sNext) (sSeq (sSet 12 (x2 oEq (xCall m__law_logs (xCons (xVar 3) (xCons (xVar 11) xNil))) (xCall m__law_logs (xCons (xVar 3) (xCons (xVar 7) xNil))))) (sIf (bOr (bTest (x2 oNe (xVar 12) (x2 oEq (xCall m__law_least (xCons (xVar 5) (xCons (xVar 7) xNil))) (xCall m__law_least (xCons (xVar 5) (xCons (xVar 11) xNil)))))) (bTest (x2 oNe (xCall m_alike (xCons (xVar 4) (xCons (xVar 7) (xCons (xVar 11) xNil)))) (xVar 12)))) (sRet (xC (.bl false))) sNext)))) (sSeq (sSet 13 (xCall m__law_row (xDice (xCons (xVar 3) (xCons (xC (.int 5)) xNil))))) (sSeq (sSet 14 (x2 oAdd (xSl (xVar 7) pNo (pYes (xC (.int 50)))) (xVar 13))) (sSeq (sSet 15 (xCall m__law_draw (xDice (xCons (x2 oIx (xVar 3) (xC (.int 0))) xNil)))) (sSeq (sSet 16 (xCall m_log (xCons (xVar 4) (xCons (xSl (xVar 7) pNo (pYes (xC (.int 50)))) (xCons (xVar 15) xNil))))) (sIf (bTest (x2 oNe (xCall m_log (xCons (xVar 4) (xCons (xVar 14) (xCons (xVar 15) xNil)))) (x2 oAdd (xVar 16) (xCall m_log (xCons (xVar 4) (xCons (xVar 13) (xCons (xVar 15) xNil))))))) (sRet (xC (.bl false))) sNext))))))))))))))))) (sRet (xC (.bl true)))
end Pu

/-! file M_k06 -/
set_option Elab.async false
set_option linter.all false
set_option maxRecDepth 100000
set_option synthInstance.maxHeartbeats 0
set_option synthInstance.maxSize 100000
namespace Pu
open PySem PySem.Spec PyProof.Rows L2
/-! first_ready -/
def b_first_ready : XS := sSeq (sFor (mEnmU (xVar 0)) (bTup 2 (bCons (bName 3) (bCons (bName 4) bNil))) (sIf (bAnd (bTest (x2 (oI fun i j => .bl (decide (j < i))) (x1 oLenA (xVar 4)) (xC (.int 0)))) (bTest (x1 (oAny true) (xLc (mSeq (xVar 4)) (bName 5) bYes (x2 oEq (xSl (x2 oIx (xVar 1) (xVar 5)) (pYes (x2 oIx (xVar 2) (xVar 5))) (pYes (x2 oAdd (x2 oIx (xVar 2) (xVar 5)) (xC (.int 1))))) (xTup (xCons (xImm (xVar 3)) xNil))))))) (sRet (xImm (xVar 3))) sNext)) (sRet (xC .non))
def m_first_ready : XF := fnM 6 b_first_ready
theorem mo_first_ready : MonoF m_first_ready := monoF_fn (by unfold b_first_ready; exact MS.all)
instance : MF m_first_ready := ⟨mo_first_ready⟩
/-! done_by_teams -/
def b_done_by_teams : XS := sSeq (sSet 2 (x2 oRepL (xLst (xCons (xC (.int 0)) xNil)) (x1 oLenA (xVar 1)))) (sSeq (sSet 3 (xLst xNil)) (sSeq (sSet 4 (xCall m_first_ready (xCons (xVar 0) (xCons (xVar 1) (xCons (xVar 2) xNil))))) (sSeq (sWhile (bTest (x2 oNotN (xVar 4) (xC .non))) (sSeq (sApp 3 (xImm (xVar 4))) (sSeq (sFor (mSeq (x2 oIx (xVar 0) (xVar 4))) (bName 5) (sAugS 2 (xVar 5) (xC (.int 1)))) (sSet 4 (xCall m_first_ready (xCons (xVar 0) (xCons (xVar 1) (xCons (xVar 2) xNil)))))))) (sRet (xTup (xCons (x1 oTup (xVar 3)) (xCons (x1 oTup (xVar 2)) xNil)))))))
def m_done_by_teams : XF := fnM 6 b_done_by_teams
theorem mo_done_by_teams : MonoF m_done_by_teams := monoF_fn (by unfold b_done_by_teams; exact MS.all)
instance : MF m_done_by_teams := ⟨mo_done_by_teams⟩
/-! done_by_logs -/
def b_done_by_logs : XS := sRet (xCall m_done_by_teams (xCons (x1 (atF 3 "works") (xVar 0)) (xCons (xVar 1) xNil)))
def m_done_by_logs : XF := fnM 2 b_done_by_logs
theorem mo_done_by_logs : MonoF m_done_by_logs := monoF_fn (by unfold b_done_by_logs; exact MS.all)
instance : MF m_done_by_logs := ⟨mo_done_by_logs⟩
/-! least_row -/
def b_least_row : XS := sSeq (sDrop (xCall m_check_row (xCons (xVar 0) (xCons (xVar 1) xNil)))) (sSeq (sAsgG (bTup 2 (bCons (bName 2) (bCons (bName 3) bNil))) (xCall m_done_by_logs (xCons (xVar 0) (xCons (xCall m_all_logs (xCons (xVar 0) (xCons (xVar 1) xNil))) xNil)))) (sRet (xImm (xVar 2))))
def m_least_row : XF := fnM 4 b_least_row
theorem mo_least_row : MonoF m_least_row := monoF_fn (by unfold b_least_row; exact MS.all)
instance : MF m_least_row := ⟨mo_least_row⟩
/-! law_k06 -/
def b_law_k06 : XS := sSeq (sFor (mRng1 (xC (.int 3))) (bName 2) (sSeq (sSet 3 (xCall m__law_some_parts (xDice xNil))) (sSeq (sSet 4 (xCall m__law_made (xCons (xVar 3) xNil))) (sSeq (sSet 5 (xCall m__law_near (xCons (xVar 3) xNil))) (sSeq (sSet 6 (xCall m__law_row (xDice (xCons (xVar 3) (xCons (xIf (bTest (x2 oEq (xVar 2) (xC (.int 0)))) (xC (.int 7)) (xC (.int 5))) xNil))))) (sSeq (sSet 7 (xCall m__law_exchanged (xCons (xVar 5) (xCons (xVar 6) xNil)))) (sSeq (sSet 8 (xCall m_least_row (xCons (xVar 4) (xCons (xVar 6) xNil)))) (sSeq (sIf (bOr (bNot (bTest (xCall m__law_same (xCons (xVar 8) (xCons (x1 oMinT (x1 oListA (xVar 7))) xNil))))) (bTest (x2 oNe (xCall m__law_least (xCons (xVar 5) (xCons (xVar 6) xNil))) (xVar 8)))) (sRet (xC (.bl false))) sNext) (sSeq (sIf (bTest (x2 oNe (xCall m_least_row (xCons (xVar 4) (xCons (xVar 8) xNil))) (xVar 8))) (sRet (xC (.bl false))) sNext) (sSeq (sFor (mRng1 (xC (.int 4))) (bName 9) (sSeq (sSet 10 (xCall m__law_changed (xDice (xCons (xVar 5) (xCons (xVar 6) xNil))))) (sIf (bTest (x2 oNe (x2 oEq (xCall m_least_row (xCons (xVar 4) (xCons (xVar 10) xNil))) (xVar 8)) (x2 (oIn false) (xVar 10) (xVar 7)))) (sRet (xC (.bl false))) sNext))) (sSeq (sSet 6 (xCall m__law_row (xDice (xCons (xVar 3) (xCons (xC (.int 60)) xNil))))) (sSeq (sSet 8 (xCall m_least_row (xCons (xVar 4) (xCons (xVar 6) xNil)))) (sSeq (sIf (bOr (bNot (bTest (xCall m__law_same (xCons (xVar 8) (xCons (xCall m__law_least (xCons (xVar 5) (xCons (xVar 6) xNil))) xNil))))) (bTest (x2 oNe (xCall m_least_row (xCons (xVar 4) (xCons (xCall m__law_mixed (xDice (xCons (xVar 5) (xCons (xVar 6) (xCons (xC (.int 60)) xNil))))) xNil))) (xVar 8)))) (sRet (xC (.bl false))) sNext) (sSeq (sSet 11 (xCall m__law_draw (xDice (xCons (x2 oAdd (x1 oLenA (xVar 8)) (xC (.int 1))) xNil)))) (sIf (bOr (bTest (x2 oNe (xCall m_least_row (xCons (xVar 4) (xCons (xSl (xVar 8) pNo (pYes (xVar 11))) xNil))) (xSl (xVar 8) pNo (pYes (xVar 11))))) (bTest (x2 oNe (xCall m_least_row (xCons (xVar 4) (xCons (xSl (xVar 8) (pYes (xVar 11)) pNo) xNil))) (xSl (xVar 8) (pYes (xVar 11)) pNo)))) (sRet (xC (.bl false))) sNext))))))))))))))) (sRet (xC (.bl true)))
end Pu

/-! file O_k06 -/
set_option Elab.async false
set_option linter.all false
set_option maxRecDepth 100000
set_option synthInstance.maxHeartbeats 0
set_option synthInstance.maxSize 100000
namespace Pu
open PySem PySem.Spec PyProof.Rows L2
def topS (i : Nat) : Stmt := PySem.Challenge.pw_latestword_k06_whole_least_rows.main.body.getD i (.Pass ⟨0, 0, 0, 0⟩)
abbrev DQ0 : Addr × Addr → HO → HO → Prop := DQi IvDraw
section
abbrev s_is_integer : Stmt := topS 5
abbrev s_is_number : Stmt := topS 6
abbrev s_is_below : Stmt := topS 7
abbrev s_is_lot : Stmt := topS 8
abbrev s_are_works : Stmt := topS 9
abbrev s_check_row : Stmt := topS 10
abbrev s_are_office_works : Stmt := topS 14
abbrev s_all_logs : Stmt := topS 17
abbrev s_first_ready : Stmt := topS 18
abbrev s_done_by_teams : Stmt := topS 19
abbrev s_done_by_logs : Stmt := topS 20
abbrev s_least_row : Stmt := topS 21
abbrev s__law_dice : Stmt := topS 23
abbrev s__law_draw : Stmt := topS 24
abbrev s__law_parts : Stmt := topS 25
abbrev s__law_made : Stmt := topS 26
abbrev s__law_some_parts : Stmt := topS 27
abbrev s__law_row : Stmt := topS 28
abbrev s__law_meets : Stmt := topS 29
abbrev s__law_whole : Stmt := topS 30
abbrev s__law_same : Stmt := topS 31
abbrev s__law_near : Stmt := topS 32
abbrev s__law_exchanged : Stmt := topS 33
abbrev s__law_mixed : Stmt := topS 34
abbrev s__law_changed : Stmt := topS 35
abbrev s__law_free_at : Stmt := topS 36
abbrev s__law_least : Stmt := topS 37
abbrev s_law : Stmt := topS 38
abbrev s_Office_init : Stmt := inClass (topS 15) 0
/-- what the top has written -/
structure Facts (K : PySem.W.Frag) (mg : Str → Option Value) where
  f_is_integer : Addr
  fd_is_integer : FuncData
  F_is_integer : L2.Fun K "is_integer" "is_integer" s_is_integer f_is_integer fd_is_integer
  m_is_integer : mg "is_integer" = some (.ref f_is_integer)
  f_is_number : Addr
  fd_is_number : FuncData
  F_is_number : L2.Fun K "is_number" "is_number" s_is_number f_is_number fd_is_number
  m_is_number : mg "is_number" = some (.ref f_is_number)
  f_is_below : Addr
  fd_is_below : FuncData
  F_is_below : L2.Fun K "is_below" "is_below" s_is_below f_is_below fd_is_below
  m_is_below : mg "is_below" = some (.ref f_is_below)
  f_is_lot : Addr
  fd_is_lot : FuncData
  F_is_lot : L2.Fun K "is_lot" "is_lot" s_is_lot f_is_lot fd_is_lot
  m_is_lot : mg "is_lot" = some (.ref f_is_lot)
  f_are_works : Addr
  fd_are_works : FuncData
  F_are_works : L2.Fun K "are_works" "are_works" s_are_works f_are_works fd_are_works
  m_are_works : mg "are_works" = some (.ref f_are_works)
  f_check_row : Addr
  fd_check_row : FuncData
  F_check_row : L2.Fun K "check_row" "check_row" s_check_row f_check_row fd_check_row
  m_check_row : mg "check_row" = some (.ref f_check_row)
  f_are_office_works : Addr
  fd_are_office_works : FuncData
  F_are_office_works : L2.Fun K "are_office_works" "are_office_works" s_are_office_works f_are_office_works fd_are_office_works
  m_are_office_works : mg "are_office_works" = some (.ref f_are_office_works)
  f_all_logs : Addr
  fd_all_logs : FuncData
  F_all_logs : L2.Fun K "all_logs" "all_logs" s_all_logs f_all_logs fd_all_logs
  m_all_logs : mg "all_logs" = some (.ref f_all_logs)
  f_first_ready : Addr
  fd_first_ready : FuncData
  F_first_ready : L2.Fun K "first_ready" "first_ready" s_first_ready f_first_ready fd_first_ready
  m_first_ready : mg "first_ready" = some (.ref f_first_ready)
  f_done_by_teams : Addr
  fd_done_by_teams : FuncData
  F_done_by_teams : L2.Fun K "done_by_teams" "done_by_teams" s_done_by_teams f_done_by_teams fd_done_by_teams
  m_done_by_teams : mg "done_by_teams" = some (.ref f_done_by_teams)
  f_done_by_logs : Addr
  fd_done_by_logs : FuncData
  F_done_by_logs : L2.Fun K "done_by_logs" "done_by_logs" s_done_by_logs f_done_by_logs fd_done_by_logs
  m_done_by_logs : mg "done_by_logs" = some (.ref f_done_by_logs)
  f_least_row : Addr
  fd_least_row : FuncData
  F_least_row : L2.Fun K "least_row" "least_row" s_least_row f_least_row fd_least_row
  m_least_row : mg "least_row" = some (.ref f_least_row)
  f__law_dice : Addr
  fd__law_dice : FuncData
  F__law_dice : L2.Fun K "_law_dice" "_law_dice" s__law_dice f__law_dice fd__law_dice
  m__law_dice : mg "_law_dice" = some (.ref f__law_dice)
  f__law_draw : Addr
  fd__law_draw : FuncData
  F__law_draw : L2.Fun K "_law_draw" "_law_draw" s__law_draw f__law_draw fd__law_draw
  m__law_draw : mg "_law_draw" = some (.ref f__law_draw)
  f__law_parts : Addr
  fd__law_parts : FuncData
  F__law_parts : L2.Fun K "_law_parts" "_law_parts" s__law_parts f__law_parts fd__law_parts
  m__law_parts : mg "_law_parts" = some (.ref f__law_parts)
  f__law_made : Addr
  fd__law_made : FuncData
  F__law_made : L2.Fun K "_law_made" "_law_made" s__law_made f__law_made fd__law_made
  m__law_made : mg "_law_made" = some (.ref f__law_made)
  f__law_some_parts : Addr
  fd__law_some_parts : FuncData
  F__law_some_parts : L2.Fun K "_law_some_parts" "_law_some_parts" s__law_some_parts f__law_some_parts fd__law_some_parts
  m__law_some_parts : mg "_law_some_parts" = some (.ref f__law_some_parts)
  f__law_row : Addr
  fd__law_row : FuncData
  F__law_row : L2.Fun K "_law_row" "_law_row" s__law_row f__law_row fd__law_row
  m__law_row : mg "_law_row" = some (.ref f__law_row)
  f__law_meets : Addr
  fd__law_meets : FuncData
  F__law_meets : L2.Fun K "_law_meets" "_law_meets" s__law_meets f__law_meets fd__law_meets
  m__law_meets : mg "_law_meets" = some (.ref f__law_meets)
  f__law_whole : Addr
  fd__law_whole : FuncData
  F__law_whole : L2.Fun K "_law_whole" "_law_whole" s__law_whole f__law_whole fd__law_whole
  m__law_whole : mg "_law_whole" = some (.ref f__law_whole)
  f__law_same : Addr
  fd__law_same : FuncData
  F__law_same : L2.Fun K "_law_same" "_law_same" s__law_same f__law_same fd__law_same
  m__law_same : mg "_law_same" = some (.ref f__law_same)
  f__law_near : Addr
  fd__law_near : FuncData
  F__law_near : L2.Fun K "_law_near" "_law_near" s__law_near f__law_near fd__law_near
  m__law_near : mg "_law_near" = some (.ref f__law_near)
  f__law_exchanged : Addr
  fd__law_exchanged : FuncData
  F__law_exchanged : L2.Fun K "_law_exchanged" "_law_exchanged" s__law_exchanged f__law_exchanged fd__law_exchanged
  m__law_exchanged : mg "_law_exchanged" = some (.ref f__law_exchanged)
  f__law_mixed : Addr
  fd__law_mixed : FuncData
  F__law_mixed : L2.Fun K "_law_mixed" "_law_mixed" s__law_mixed f__law_mixed fd__law_mixed
  m__law_mixed : mg "_law_mixed" = some (.ref f__law_mixed)
  f__law_changed : Addr
  fd__law_changed : FuncData
  F__law_changed : L2.Fun K "_law_changed" "_law_changed" s__law_changed f__law_changed fd__law_changed
  m__law_changed : mg "_law_changed" = some (.ref f__law_changed)
  f__law_free_at : Addr
  fd__law_free_at : FuncData
  F__law_free_at : L2.Fun K "_law_free_at" "_law_free_at" s__law_free_at f__law_free_at fd__law_free_at
  m__law_free_at : mg "_law_free_at" = some (.ref f__law_free_at)
  f__law_least : Addr
  fd__law_least : FuncData
  F__law_least : L2.Fun K "_law_least" "_law_least" s__law_least f__law_least fd__law_least
  m__law_least : mg "_law_least" = some (.ref f__law_least)
  f_law : Addr
  fd_law : FuncData
  F_law : L2.Fun K "law" "law" s_law f_law fd_law
  m_law : mg "law" = some (.ref f_law)
  C_Office : Addr
  f_Office_init : Addr
  fd_Office_init : FuncData
  F_Office_init : L2.Fun K "__init__" "Office.__init__" s_Office_init f_Office_init fd_Office_init
  m_Office : mg "Office" = some (.ref C_Office)
  mk_Office : Mk K C_Office f_Office_init
  cl_Office : Cls K C_Office
  na_Office_desks : NoAttr K C_Office "desks"
  na_Office_works : NoAttr K C_Office "works"
  n_abs : mg "abs" = none
  n_all : mg "all" = none
  n_any : mg "any" = none
  n_bool : mg "bool" = none
  n_enumerate : mg "enumerate" = none
  n_int : mg "int" = none
  n_isinstance : mg "isinstance" = none
  n_len : mg "len" = none
  n_list : mg "list" = none
  n_min : mg "min" = none
  n_range : mg "range" = none
  n_set : mg "set" = none
  n_sorted : mg "sorted" = none
  n_str : mg "str" = none
  n_tuple : mg "tuple" = none
  n_zip : mg "zip" = none
  t_MOST_DESKS : Tok
  m_MOST_DESKS : mg "MOST_DESKS" = some (.int 6 t_MOST_DESKS)
  t_MOST_WORKS : Tok
  m_MOST_WORKS : mg "MOST_WORKS" = some (.int 10 t_MOST_WORKS)
variable {P : Program} {w : World} {K : PySem.W.Frag} {mg : Str → Option Value} {base : Heap}
def S0 (T : Facts K mg) : Stat := { CT := fun c => match c with | 3 => T.C_Office | _ => 0, DQ := DQ0 }
/-! is_integer -/
theorem sc_is_integer : FnScope ["thing"] ["thing"] (defScope s_is_integer) := ⟨rfl, rfl, rfl, by decide +kernel, rfl, by decide +kernel, by decide +kernel⟩
theorem bn_is_integer (T : Facts K mg) : Binds K T.fd_is_integer ["thing"] [] := T.F_is_integer.binds fun _ _ _ _ _ _ us hl => match us, hl with | [_], _ => rfl
theorem ok_is_integer (T : Facts K mg) : FnOk P w K mg base CX0 1 T.f_is_integer T.fd_is_integer ["thing"] (SpM (S0 T) [false] m_is_integer) := by
  refine fn_ok (N := ["thing"]) (body := b_is_integer) (Γe := []) T.F_is_integer sc_is_integer rfl (by decide) (fun cdv A outer s H E hr => ⟨_, pss_one (ps_ret (pe_and (pe_callB (id := "isinstance") (k_isa (K := K) rfl) (by rfl) T.n_isinstance (by decide +kernel) (pa_cons (pv 0) (pa_cons (k_ty (c := "int") (by rfl) T.n_int (by decide +kernel)) pa_nil))) (pe_one (pe_not (pe_callB (id := "isinstance") (k_isa (K := K) rfl) (by rfl) T.n_isinstance (by decide +kernel) (pa_cons (pv 0) (pa_cons (k_ty (c := "bool") (by rfl) T.n_bool (by decide +kernel)) pa_nil))))))), fun q => ?_⟩)
  exact sim_ret (sim_and (sim_isa (c := "int") (sim_varF (i := 0) rfl)) (sim_not (sim_isa (c := "bool") (sim_varF (i := 0) rfl))))
/-! is_number -/
theorem sc_is_number : FnScope ["thing"] ["thing"] (defScope s_is_number) := ⟨rfl, rfl, rfl, by decide +kernel, rfl, by decide +kernel, by decide +kernel⟩
theorem bn_is_number (T : Facts K mg) : Binds K T.fd_is_number ["thing"] [] := T.F_is_number.binds fun _ _ _ _ _ _ us hl => match us, hl with | [_], _ => rfl
theorem ok_is_number (T : Facts K mg) : FnOk P w K mg base CX0 2 T.f_is_number T.fd_is_number ["thing"] (SpM (S0 T) [false] m_is_number) := by
  refine fn_ok (N := ["thing"]) (body := b_is_number) (Γe := []) T.F_is_number sc_is_number rfl (by decide) (fun cdv A outer s H E hr => ⟨_, pss_one (ps_ret (pe_and (pe_call (ok_is_integer T) (hr.mono (by first | decide | omega)) (by rfl) T.m_is_integer T.F_is_integer.kp (bn_is_integer T) .nil pass0 (pa_cons (pv 0) pa_nil)) (pe_one (pe_cmpR op_ge (pv 0) pe_int (nomark _))))), fun q => ?_⟩)
  exact sim_ret (sim_and (sim_call rfl mo_is_integer (sima_val (sim_varF (i := 0) rfl) sima_nil)) (sim_op so_ge (sim_varF (i := 0) rfl) sim_int))
/-! is_below -/
theorem sc_is_below : FnScope ["thing", "many"] ["thing", "many"] (defScope s_is_below) := ⟨rfl, rfl, rfl, by decide +kernel, rfl, by decide +kernel, by decide +kernel⟩
theorem bn_is_below (T : Facts K mg) : Binds K T.fd_is_below ["thing", "many"] [] := T.F_is_below.binds fun _ _ _ _ _ _ us hl => match us, hl with | [_, _], _ => rfl
theorem ok_is_below (T : Facts K mg) : FnOk P w K mg base CX0 3 T.f_is_below T.fd_is_below ["thing", "many"] (SpM (S0 T) [false, false] m_is_below) := by
  refine fn_ok (N := ["thing", "many"]) (body := b_is_below) (Γe := []) T.F_is_below sc_is_below rfl (by decide) (fun cdv A outer s H E hr => ⟨_, pss_one (ps_ret (pe_and (pe_call (ok_is_number T) (hr.mono (by first | decide | omega)) (by rfl) T.m_is_number T.F_is_number.kp (bn_is_number T) .nil pass0 (pa_cons (pv 0) pa_nil)) (pe_one (pe_cmpR op_lt (pv 0) (pv 1) (nomark _))))), fun q => ?_⟩)
  exact sim_ret (sim_and (sim_call rfl mo_is_number (sima_val (sim_varF (i := 0) rfl) sima_nil)) (sim_op so_lt (sim_varF (i := 0) rfl) (sim_varF (i := 1) rfl)))
/-! is_lot -/
theorem sc_is_lot : FnScope ["thing", "many", "low", "high", "part"] ["thing", "many"] (defScope s_is_lot) := ⟨rfl, rfl, rfl, by decide +kernel, rfl, by decide +kernel, by decide +kernel⟩
theorem bn_is_lot (T : Facts K mg) : Binds K T.fd_is_lot ["thing", "many"] [] := T.F_is_lot.binds fun _ _ _ _ _ _ us hl => match us, hl with | [_, _], _ => rfl
theorem ok_is_lot (T : Facts K mg) : FnOk P w K mg base CX0 4 T.f_is_lot T.fd_is_lot ["thing", "many"] (SpM (S0 T) [false, false] m_is_lot) := by
  refine fn_ok (N := ["thing", "many", "low", "high", "part"]) (body := b_is_lot) (Γe := []) T.F_is_lot sc_is_lot rfl (by decide) (fun cdv A outer s H E hr => ⟨_, pss_cons (ps_if (PW.pt (pw_or (pt_not (pt_val (pe_callB (id := "isinstance") (k_isa (K := K) rfl) (by rfl) T.n_isinstance (by decide +kernel) (pa_cons (pv 0) (pa_cons (k_ty (c := "tuple") (by rfl) T.n_tuple (by decide +kernel)) pa_nil))))) (pw_or1 (pt_not (pt_val (pe_callB (id := "all") (k_all (K := K) rfl rfl) (by rfl) T.n_all (by decide +kernel) (pa_cons (pe_lc (own := [("part", 4)]) rfl sc_is_lot.nd (k_seq (K := K) rfl (pv 0)) (blkOk_by (by rfl)) (fun _ _ _ _ _ => (pg_name (i := 4) sc_is_lot.nd rfl (by first | exact Or.inl rfl | exact Or.inr rfl))) (fun _ _ _ _ _ => pts_nil) (fun _ _ _ _ _ => (pe_call (ok_is_below T) (hr.mono (by first | decide | omega)) (by rfl) T.m_is_below T.F_is_below.kp (bn_is_below T) .nil pass0 (pa_cons (pv 4) (pa_cons (pv 1) pa_nil))))) pa_nil))))))) (pss_one (ps_ret pe_bl)) pss_nil) (pss_one (ps_ret (pe_callB (id := "all") (k_all (K := K) rfl rfl) (by rfl) T.n_all (by decide +kernel) (pa_cons (pe_lc (own := [("low", 2), ("high", 3)]) rfl sc_is_lot.nd (k_zip (K := K) rfl (by rfl) T.n_zip (pa_cons (pv 0) (pa_cons (pe_slice (k_sl (K := K) rfl) (pv 0) (po_some pe_int) po_none) pa_nil))) (blkOk_by (by rfl)) (fun _ _ _ _ _ => (k_gtup (K := K) (n := 2) rfl rfl (pgs_cons (pg_name (i := 2) sc_is_lot.nd rfl (by first | exact Or.inl rfl | exact Or.inr rfl)) (pgs_cons (pg_name (i := 3) sc_is_lot.nd rfl (by first | exact Or.inl rfl | exact Or.inr rfl)) pgs_nil)))) (fun _ _ _ _ _ => pts_nil) (fun _ _ _ _ _ => pe_cmpR op_lt (pv 2) (pv 3) (nomark _))) pa_nil)))), fun q => ?_⟩)
  exact sim_seq (sim_if (simt_or (simt_not (simt_B (sim_isa (c := "tuple") (sim_varF (i := 0) rfl)))) (simt_not (simt_B (sim_call1 sc_all (sim_lc (Γf := [.f, .f, .x, .x, .x]) (ws := [4]) (ks := [4]) (by intro k hk; exact free_nil) (simi_seq (sim_varF (i := 0) rfl)) rfl rfl (simg_name (i := 4) free_nil (by decide) (by decide)) (by decide) simt_yes (sim_call rfl mo_is_below (sima_val (sim_varF (i := 4) rfl) (sima_val (sim_varF (i := 1) rfl) sima_nil)))))))) (sim_ret sim_bl) sim_next) (sim_ret (sim_call1 sc_all (sim_lc (Γf := [.f, .f, .x, .x, .x]) (ws := [2, 3]) (ks := [2, 3]) (by intro k hk; exact free_nil) (simi_zip (siml_cons (sim_varF (i := 0) rfl) (siml_cons (sim_sl (sim_varF (i := 0) rfl) (simo_yes sim_int) simo_no) siml_nil))) rfl rfl (simg_tup (simgs_cons (simg_name (i := 2) free_nil (by decide) (by decide)) (simgs_cons (simg_name (i := 3) free_nil (by decide) (by decide)) simgs_nil))) (by decide) simt_yes (sim_op so_lt (sim_varF (i := 2) rfl) (sim_varF (i := 3) rfl)))))
/-! are_works -/
theorem sc_are_works : FnScope ["office", "thing", "many", "part"] ["office", "thing"] (defScope s_are_works) := ⟨rfl, rfl, rfl, by decide +kernel, rfl, by decide +kernel, by decide +kernel⟩
theorem bn_are_works (T : Facts K mg) : Binds K T.fd_are_works ["office", "thing"] [] := T.F_are_works.binds fun _ _ _ _ _ _ us hl => match us, hl with | [_, _], _ => rfl
theorem ok_are_works (T : Facts K mg) : FnOk P w K mg base CX0 4 T.f_are_works T.fd_are_works ["office", "thing"] (SpM (S0 T) [false, false] m_are_works) := by
  refine fn_ok (N := ["office", "thing", "many", "part"]) (body := b_are_works) (Γe := []) T.F_are_works sc_are_works rfl (by decide) (fun cdv A outer s H E hr => ⟨_, pss_cons (ps_set (i := 2) sc_are_works.nd rfl (by first | exact Or.inl rfl | exact Or.inr rfl) (pe_callB (id := "len") (k_lenA (K := K) rfl) (by rfl) T.n_len (by decide +kernel) (pa_cons (k_fld (K := K) rfl (pv 0) rfl) pa_nil))) (pss_one (ps_ret (pe_and (pe_callB (id := "isinstance") (k_isa (K := K) rfl) (by rfl) T.n_isinstance (by decide +kernel) (pa_cons (pv 1) (pa_cons (k_ty (c := "tuple") (by rfl) T.n_tuple (by decide +kernel)) pa_nil))) (pe_one (pe_callB (id := "all") (k_all (K := K) rfl rfl) (by rfl) T.n_all (by decide +kernel) (pa_cons (pe_lc (own := [("part", 3)]) rfl sc_are_works.nd (k_seq (K := K) rfl (pv 1)) (blkOk_by (by rfl)) (fun _ _ _ _ _ => (pg_name (i := 3) sc_are_works.nd rfl (by first | exact Or.inl rfl | exact Or.inr rfl))) (fun _ _ _ _ _ => pts_nil) (fun _ _ _ _ _ => (pe_call (ok_is_below T) (hr.mono (by first | decide | omega)) (by rfl) T.m_is_below T.F_is_below.kp (bn_is_below T) .nil pass0 (pa_cons (pv 3) (pa_cons (pv 2) pa_nil))))) pa_nil)))))), fun q => ?_⟩)
  exact sim_seq (sim_setO (i := 2) free_nil (by decide) (sim_call1 sc_lenA (sim_fld (c0 := 3) T.cl_Office T.na_Office_works (sim_varF (i := 0) rfl)))) (sim_ret (sim_and (sim_isa (c := "tuple") (sim_varF (i := 1) rfl)) (sim_call1 sc_all (sim_lc (Γf := [.f, .f, .o, .x]) (ws := [3]) (ks := [3]) (by intro k hk; exact free_nil) (simi_seq (sim_varF (i := 1) rfl)) rfl rfl (simg_name (i := 3) free_nil (by decide) (by decide)) (by decide) simt_yes (sim_call rfl mo_is_below (sima_val (sim_varF (i := 3) rfl) (sima_val (sim_varO (i := 2) rfl) sima_nil)))))))
/-! check_row -/
theorem sc_check_row : FnScope ["office", "row"] ["office", "row"] (defScope s_check_row) := ⟨rfl, rfl, rfl, by decide +kernel, rfl, by decide +kernel, by decide +kernel⟩
theorem bn_check_row (T : Facts K mg) : Binds K T.fd_check_row ["office", "row"] [] := T.F_check_row.binds fun _ _ _ _ _ _ us hl => match us, hl with | [_, _], _ => rfl
theorem ok_check_row (T : Facts K mg) : FnOk P w K mg base CX0 5 T.f_check_row T.fd_check_row ["office", "row"] (SpM (S0 T) [false, false] m_check_row) := by
  refine fn_ok (N := ["office", "row"]) (body := b_check_row) (Γe := [.f, .f]) T.F_check_row sc_check_row rfl (by decide) (fun cdv A outer s H E hr => ⟨_, pss_one (ps_if (pt_not (pt_val (pe_call (ok_are_works T) (hr.mono (by first | decide | omega)) (by rfl) T.m_are_works T.F_are_works.kp (bn_are_works T) .nil pass0 (pa_cons (pv 0) (pa_cons (pv 1) pa_nil))))) (pss_one ps_never) pss_nil), fun q => ?_⟩)
  exact sim_if (simt_not (simt_B (sim_call rfl mo_are_works (sima_val (sim_varF (i := 0) rfl) (sima_val (sim_varF (i := 1) rfl) sima_nil))))) sim_never sim_next
/-! are_office_works -/
theorem sc_are_office_works : FnScope ["desks", "works", "lot"] ["desks", "works"] (defScope s_are_office_works) := ⟨rfl, rfl, rfl, by decide +kernel, rfl, by decide +kernel, by decide +kernel⟩
theorem bn_are_office_works (T : Facts K mg) : Binds K T.fd_are_office_works ["desks", "works"] [] := T.F_are_office_works.binds fun _ _ _ _ _ _ us hl => match us, hl with | [_, _], _ => rfl
theorem ok_are_office_works (T : Facts K mg) : FnOk P w K mg base CX0 5 T.f_are_office_works T.fd_are_office_works ["desks", "works"] (SpM (S0 T) [false, false] m_are_office_works) := by
  refine fn_ok (N := ["desks", "works", "lot"]) (body := b_are_office_works) (Γe := []) T.F_are_office_works sc_are_office_works rfl (by decide) (fun cdv A outer s H E hr => ⟨_, pss_cons (ps_if (PW.pt (pw_or (pt_not (pt_val (pe_callB (id := "isinstance") (k_isa (K := K) rfl) (by rfl) T.n_isinstance (by decide +kernel) (pa_cons (pv 1) (pa_cons (k_ty (c := "tuple") (by rfl) T.n_tuple (by decide +kernel)) pa_nil))))) (pw_or1 (pt_not (pt_chain op_le op_le pe_int (pe_callB (id := "len") (k_lenA (K := K) rfl) (by rfl) T.n_len (by decide +kernel) (pa_cons (pv 1) pa_nil)) (pe_glob (v := .int 10) (by rfl) T.m_MOST_WORKS ⟨_, rfl⟩)))))) (pss_one (ps_ret pe_bl)) pss_nil) (pss_one (ps_ret (pe_callB (id := "all") (k_all (K := K) rfl rfl) (by rfl) T.n_all (by decide +kernel) (pa_cons (pe_lc (own := [("lot", 2)]) rfl sc_are_office_works.nd (k_seq (K := K) rfl (pv 1)) (blkOk_by (by rfl)) (fun _ _ _ _ _ => (pg_name (i := 2) sc_are_office_works.nd rfl (by first | exact Or.inl rfl | exact Or.inr rfl))) (fun _ _ _ _ _ => pts_nil) (fun _ _ _ _ _ => pe_and (pe_call (ok_is_lot T) (hr.mono (by first | decide | omega)) (by rfl) T.m_is_lot T.F_is_lot.kp (bn_is_lot T) .nil pass0 (pa_cons (pv 2) (pa_cons (pv 0) pa_nil))) (pe_one (pe_cmpR op_gt (pe_callB (id := "len") (k_lenA (K := K) rfl) (by rfl) T.n_len (by decide +kernel) (pa_cons (pv 2) pa_nil)) pe_int (nomark _))))) pa_nil)))), fun q => ?_⟩)
  exact sim_seq (sim_if (simt_or (simt_not (simt_B (sim_isa (c := "tuple") (sim_varF (i := 1) rfl)))) (simt_not (simt_test (sim_chain so_le so_le sim_int (sim_call1 sc_lenA (sim_varF (i := 1) rfl)) sim_int)))) (sim_ret sim_bl) sim_next) (sim_ret (sim_call1 sc_all (sim_lc (Γf := [.f, .f, .x]) (ws := [2]) (ks := [2]) (by intro k hk; exact free_nil) (simi_seq (sim_varF (i := 1) rfl)) rfl rfl (simg_name (i := 2) free_nil (by decide) (by decide)) (by decide) simt_yes (sim_and (sim_call rfl mo_is_lot (sima_val (sim_varF (i := 2) rfl) (sima_val (sim_varF (i := 0) rfl) sima_nil))) (sim_op so_gt (sim_call1 sc_lenA (sim_varF (i := 2) rfl)) sim_int)))))
/-! Office.__init__ -/
theorem sc_Office_init : FnScope ["self", "desks", "works"] ["self", "desks", "works"] (defScope s_Office_init) := ⟨rfl, rfl, rfl, by decide +kernel, rfl, by decide +kernel, by decide +kernel⟩
theorem bn_Office_init (T : Facts K mg) : Binds K T.fd_Office_init ["self", "desks", "works"] [] := T.F_Office_init.binds fun _ _ _ _ _ _ us hl => match us, hl with | [_, _, _], _ => rfl
theorem ok_Office_init (T : Facts K mg) : FnOk P w K mg base CX0 6 T.f_Office_init T.fd_Office_init ["self", "desks", "works"] (SpI (S0 T) 3 i_Office) := by
  refine init_ok0 (N := ["self", "desks", "works"]) (n := 2) (c := 3) (body := b_Office_init) (Γe := [.o, .f, .f]) T.F_Office_init sc_Office_init rfl (by decide) rfl (fun cdv A outer s H E hr => ⟨_, pss_cons (ps_if (PW.pt (pw_or (pt_not (pt_val (pe_call (ok_is_integer T) (hr.mono (by first | decide | omega)) (by rfl) T.m_is_integer T.F_is_integer.kp (bn_is_integer T) .nil pass0 (pa_cons (pv 1) pa_nil)))) (pw_or1 (pt_not (pt_chain op_le op_le pe_int (pv 1) (pe_glob (v := .int 6) (by rfl) T.m_MOST_DESKS ⟨_, rfl⟩)))))) (pss_one ps_never) pss_nil) (pss_cons (ps_if (pt_not (pt_val (pe_call (ok_are_office_works T) (hr.mono (by first | decide | omega)) (by rfl) T.m_are_office_works T.F_are_office_works.kp (bn_are_office_works T) .nil pass0 (pa_cons (pv 1) (pa_cons (pv 2) pa_nil))))) (pss_one ps_never) pss_nil) (pss_cons (ps_fld (pv 0) (pv 1) rfl) (pss_one (ps_fld (pv 0) (pv 2) rfl)))), fun q v => ?_⟩)
  exact sim_seq (sim_if (simt_or (simt_not (simt_B (sim_call rfl mo_is_integer (sima_val (sim_varF (i := 1) rfl) sima_nil)))) (simt_not (simt_test (sim_chain so_le so_le sim_int (sim_varF (i := 1) rfl) sim_int)))) sim_never sim_next) (sim_seq (sim_if (simt_not (simt_B (sim_call rfl mo_are_office_works (sima_val (sim_varF (i := 1) rfl) (sima_val (sim_varF (i := 2) rfl) sima_nil))))) sim_never sim_next) (sim_seq (sim_sfld (i := 0) (c0 := 3) rfl T.cl_Office T.na_Office_desks (sim_imm (sim_varF (i := 1) rfl))) (sim_sfld (i := 0) (c0 := 3) rfl T.cl_Office T.na_Office_works (sim_imm (sim_varF (i := 2) rfl)))))
/-! all_logs -/
theorem sc_all_logs : FnScope ["office", "row", "desk", "work"] ["office", "row"] (defScope s_all_logs) := ⟨rfl, rfl, rfl, by decide +kernel, rfl, by decide +kernel, by decide +kernel⟩
theorem bn_all_logs (T : Facts K mg) : Binds K T.fd_all_logs ["office", "row"] [] := T.F_all_logs.binds fun _ _ _ _ _ _ us hl => match us, hl with | [_, _], _ => rfl
theorem ok_all_logs (T : Facts K mg) : FnOk P w K mg base CX0 1 T.f_all_logs T.fd_all_logs ["office", "row"] (SpM (S0 T) [false, false] m_all_logs) := by
  refine fn_ok (N := ["office", "row", "desk", "work"]) (body := b_all_logs) (Γe := []) T.F_all_logs sc_all_logs rfl (by decide) (fun cdv A outer s H E hr => ⟨_, pss_one (ps_ret (pe_callTy (T := "tuple") (k_tuple (K := K) rfl) (by rfl) T.n_tuple (by decide +kernel) (pa_cons (pe_lc (own := [("desk", 2)]) rfl sc_all_logs.nd (pi_range1 (by rfl) T.n_range (pa_cons (k_fld (K := K) rfl (pv 0) rfl) pa_nil)) (blkOk_by (by rfl)) (fun _ _ _ _ _ => (pg_name (i := 2) sc_all_logs.nd rfl (by first | exact Or.inl rfl | exact Or.inr rfl))) (fun _ _ _ _ _ => pts_nil) (fun _ _ _ _ _ => (pe_callTy (T := "tuple") (k_tuple (K := K) rfl) (by rfl) T.n_tuple (by decide +kernel) (pa_cons (pe_lc (own := [("work", 3)]) rfl sc_all_logs.nd (k_seq (K := K) rfl (pv 1)) (blkOk_by (by rfl)) (fun _ _ _ _ _ => (pg_name (i := 3) sc_all_logs.nd rfl (by first | exact Or.inl rfl | exact Or.inr rfl))) (fun _ _ _ _ _ => pts_one (pt_cmpR (k_in (K := K) rfl (rm65 hr)) (pv 2) (pe_ix (k_ix (K := K) rfl (rm1 hr)) (k_fld (K := K) rfl (pv 0) rfl) (pv 3) (fun _ _ => rfl)) (by rfl))) (fun _ _ _ _ _ => (pv 3))) pa_nil)))) pa_nil))), fun q => ?_⟩)
  exact sim_ret (sim_call1 sc_tup (sim_lc (Γf := [.f, .f, .x, .x]) (ws := [2]) (ks := [2]) (by intro k hk; exact free_nil) (simi_rng1 (sim_fld (c0 := 3) T.cl_Office T.na_Office_desks (sim_varF (i := 0) rfl))) rfl rfl (simg_name (i := 2) free_nil (by decide) (by decide)) (by decide) simt_yes (sim_call1 sc_tup (sim_lc (Γf := [.f, .f, .f, .x]) (ws := [3]) (ks := [3]) (by intro k hk; exact free_nil) (simi_seq (sim_varF (i := 1) rfl)) rfl rfl (simg_name (i := 3) free_nil (by decide) (by decide)) (by decide) (simt_test (sim_op so_in (sim_varF (i := 2) rfl) (sim_part so_ix (sim_fld (c0 := 3) T.cl_Office T.na_Office_works (sim_varF (i := 0) rfl)) (sim_varF (i := 3) rfl)))) (sim_imm (sim_varF (i := 3) rfl))))))
/-! first_ready -/
theorem sc_first_ready : FnScope ["teams", "logs", "counts", "work", "team", "desk"] ["teams", "logs", "counts"] (defScope s_first_ready) := ⟨rfl, rfl, rfl, by decide +kernel, rfl, by decide +kernel, by decide +kernel⟩
theorem bn_first_ready (T : Facts K mg) : Binds K T.fd_first_ready ["teams", "logs", "counts"] [] := T.F_first_ready.binds fun _ _ _ _ _ _ us hl => match us, hl with | [_, _, _], _ => rfl
theorem ok_first_ready (T : Facts K mg) : FnOk P w K mg base CX0 1 T.f_first_ready T.fd_first_ready ["teams", "logs", "counts"] (SpM (S0 T) [false, false, false] m_first_ready) := by
  refine fn_ok (N := ["teams", "logs", "counts", "work", "team", "desk"]) (body := b_first_ready) (Γe := []) T.F_first_ready sc_first_ready rfl (by decide) (fun cdv A outer s H E hr => ⟨_, pss_cons (ps_for PassesOwn.never rfl (k_enumU (K := K) rfl (by rfl) T.n_enumerate (pa_cons (pv 0) pa_nil)) (k_gtup (K := K) (n := 2) rfl rfl (pgs_cons (pg_name (i := 3) sc_first_ready.nd rfl (by first | exact Or.inl rfl | exact Or.inr rfl)) (pgs_cons (pg_name (i := 4) sc_first_ready.nd rfl (by first | exact Or.inl rfl | exact Or.inr rfl)) pgs_nil))) (pss_one (ps_if (PW.pt (pw_and (pt_cmpR op_gt (pe_callB (id := "len") (k_lenA (K := K) rfl) (by rfl) T.n_len (by decide +kernel) (pa_cons (pv 4) pa_nil)) pe_int (nomark _)) (pw_and1 (pt_val (pe_callB (id := "all") (k_all (K := K) rfl rfl) (by rfl) T.n_all (by decide +kernel) (pa_cons (pe_lc (own := [("desk", 5)]) rfl sc_first_ready.nd (k_seq (K := K) rfl (pv 4)) (blkOk_by (by rfl)) (fun _ _ _ _ _ => (pg_name (i := 5) sc_first_ready.nd rfl (by first | exact Or.inl rfl | exact Or.inr rfl))) (fun _ _ _ _ _ => pts_nil) (fun _ _ _ _ _ => pe_cmpR (k_eq (K := K) rfl (rm64 hr)) (pe_slice (k_sl (K := K) rfl) (pe_ix (k_ix (K := K) rfl (rm1 hr)) (pv 1) (pv 5) (fun _ _ => rfl)) (po_some (pe_ix (k_ix (K := K) rfl (rm1 hr)) (pv 2) (pv 5) (fun _ _ => rfl))) (po_some (pe_op (k_add (K := K) rfl) (pe_ix (k_ix (K := K) rfl (rm1 hr)) (pv 2) (pv 5) (fun _ _ => rfl)) pe_int))) (pe_tup (pa_cons (pv 3) pa_nil)) (nomark _))) pa_nil)))))) (pss_one (ps_ret (pv 3))) pss_nil))) (pss_one (ps_ret pe_non)), fun q => ?_⟩)
  exact sim_seq (sim_for (Γl := [.f, .f, .f, .x, .x, .x]) (simi_enmU (sim_varF (i := 0) rfl)) rfl rfl (simg_tup (simgs_cons (simg_name (i := 3) free_nil (by decide) (by decide)) (simgs_cons (simg_name (i := 4) free_nil (by decide) (by decide)) simgs_nil))) (sim_if (simt_and (simt_test (sim_op so_gt (sim_call1 sc_lenA (sim_varF (i := 4) rfl)) sim_int)) (simt_B (sim_call1 sc_all (sim_lc (Γf := [.f, .f, .f, .f, .f, .x]) (ws := [5]) (ks := [5]) (by intro k hk; exact free_nil) (simi_seq (sim_varF (i := 4) rfl)) rfl rfl (simg_name (i := 5) free_nil (by decide) (by decide)) (by decide) simt_yes (sim_op so_eq (sim_sl (sim_part so_ix (sim_varF (i := 1) rfl) (sim_varF (i := 5) rfl)) (simo_yes (sim_part so_ix (sim_varF (i := 2) rfl) (sim_varF (i := 5) rfl))) (simo_yes (sim_op so_add (sim_part so_ix (sim_varF (i := 2) rfl) (sim_varF (i := 5) rfl)) sim_int))) (sim_tup (siml_cons (sim_imm (sim_varF (i := 3) rfl)) siml_nil))))))) (sim_ret (sim_imm (sim_varF (i := 3) rfl))) sim_next) rfl) (sim_ret sim_non)
/-! done_by_teams -/
theorem sc_done_by_teams : FnScope ["teams", "logs", "counts", "row", "work", "desk"] ["teams", "logs"] (defScope s_done_by_teams) := ⟨rfl, rfl, rfl, by decide +kernel, rfl, by decide +kernel, by decide +kernel⟩
theorem bn_done_by_teams (T : Facts K mg) : Binds K T.fd_done_by_teams ["teams", "logs"] [] := T.F_done_by_teams.binds fun _ _ _ _ _ _ us hl => match us, hl with | [_, _], _ => rfl
theorem ok_done_by_teams (T : Facts K mg) : FnOk P w K mg base CX0 2 T.f_done_by_teams T.fd_done_by_teams ["teams", "logs"] (SpM (S0 T) [false, false] m_done_by_teams) := by
  refine fn_ok (N := ["teams", "logs", "counts", "row", "work", "desk"]) (body := b_done_by_teams) (Γe := []) T.F_done_by_teams sc_done_by_teams rfl (by decide) (fun cdv A outer s H E hr => ⟨_, pss_cons (ps_set (i := 2) sc_done_by_teams.nd rfl (by first | exact Or.inl rfl | exact Or.inr rfl) (pe_op op_rep (pe_lst (pa_cons pe_int pa_nil)) (pe_callB (id := "len") (k_lenA (K := K) rfl) (by rfl) T.n_len (by decide +kernel) (pa_cons (pv 1) pa_nil)))) (pss_cons (ps_set (i := 3) sc_done_by_teams.nd rfl (by first | exact Or.inl rfl | exact Or.inr rfl) (pe_lst pa_nil)) (pss_cons (ps_set (i := 4) sc_done_by_teams.nd rfl (by first | exact Or.inl rfl | exact Or.inr rfl) (pe_call (ok_first_ready T) (hr.mono (by first | decide | omega)) (by rfl) T.m_first_ready T.F_first_ready.kp (bn_first_ready T) .nil pass0 (pa_cons (pv 0) (pa_cons (pv 1) (pa_cons (pv 2) pa_nil))))) (pss_cons (ps_while PassesOwn.never (pt_cmpR op_notN (pv 4) pe_non (nomark _)) (pss_cons (ps_expr (pe_bm PySem.F.plainAttrs_list PySem.F.slot_list_append PySem.F.type_list_append mt_append (pv 3) (pa_cons (pv 4) pa_nil))) (pss_cons (ps_for PassesOwn.never rfl (k_seq (K := K) rfl (pe_ix (k_ix (K := K) rfl (rm1 hr)) (pv 0) (pv 4) (fun _ _ => rfl))) (pg_name (i := 5) sc_done_by_teams.nd rfl (by first | exact Or.inl rfl | exact Or.inr rfl)) (pss_one (ps_augS (pv 2) (pv 5) (k_get (K := K) rfl (rm1 hr)) pe_int ip_addU (set_U (rm1 hr))))) (pss_one (ps_set (i := 4) sc_done_by_teams.nd rfl (by first | exact Or.inl rfl | exact Or.inr rfl) (pe_call (ok_first_ready T) (hr.mono (by first | decide | omega)) (by rfl) T.m_first_ready T.F_first_ready.kp (bn_first_ready T) .nil pass0 (pa_cons (pv 0) (pa_cons (pv 1) (pa_cons (pv 2) pa_nil))))))))) (pss_one (ps_ret (pe_tup (pa_cons (pe_callTy (T := "tuple") (k_tuple (K := K) rfl) (by rfl) T.n_tuple (by decide +kernel) (pa_cons (pv 3) pa_nil)) (pa_cons (pe_callTy (T := "tuple") (k_tuple (K := K) rfl) (by rfl) T.n_tuple (by decide +kernel) (pa_cons (pv 2) pa_nil)) pa_nil)))))))), fun q => ?_⟩)
  exact sim_seq (sim_setO (i := 2) free_nil (by decide) (sim_op so_repL (sim_lst (siml_cons sim_int siml_nil)) (sim_call1 sc_lenA (sim_varF (i := 1) rfl)))) (sim_seq (sim_setO (i := 3) free_nil (by decide) (sim_lst siml_nil)) (sim_seq (sim_setO (i := 4) free_nil (by decide) (sim_call rfl mo_first_ready (sima_val (sim_varF (i := 0) rfl) (sima_val (sim_varF (i := 1) rfl) (sima_val (sim_varO (i := 2) rfl) sima_nil))))) (sim_seq (sim_while (Γl := [.f, .f, .o, .o, .o, .x]) rfl (simt_test (sim_op so_notN (sim_varO (i := 4) rfl) sim_non)) (sim_seq (sim_app (i := 3) rfl (sim_imm (sim_varO (i := 4) rfl))) (sim_seq (sim_for (Γl := [.f, .f, .o, .o, .o, .x]) (simi_seq (sim_part so_ix (sim_varF (i := 0) rfl) (sim_varO (i := 4) rfl))) rfl rfl (simg_name (i := 5) free_nil (by decide) (by decide)) (sim_augS (i := 2) rfl (sim_varF (i := 5) rfl) sim_int) rfl) (sim_setO (i := 4) free_nil (by decide) (sim_call rfl mo_first_ready (sima_val (sim_varF (i := 0) rfl) (sima_val (sim_varF (i := 1) rfl) (sima_val (sim_varO (i := 2) rfl) sima_nil))))))) rfl) (sim_ret (sim_tup (siml_cons (sim_call1 sc_tup (sim_varO (i := 3) rfl)) (siml_cons (sim_call1 sc_tup (sim_varO (i := 2) rfl)) siml_nil)))))))
/-! done_by_logs -/
theorem sc_done_by_logs : FnScope ["office", "logs"] ["office", "logs"] (defScope s_done_by_logs) := ⟨rfl, rfl, rfl, by decide +kernel, rfl, by decide +kernel, by decide +kernel⟩
theorem bn_done_by_logs (T : Facts K mg) : Binds K T.fd_done_by_logs ["office", "logs"] [] := T.F_done_by_logs.binds fun _ _ _ _ _ _ us hl => match us, hl with | [_, _], _ => rfl
theorem ok_done_by_logs (T : Facts K mg) : FnOk P w K mg base CX0 3 T.f_done_by_logs T.fd_done_by_logs ["office", "logs"] (SpM (S0 T) [false, false] m_done_by_logs) := by
  refine fn_ok (N := ["office", "logs"]) (body := b_done_by_logs) (Γe := []) T.F_done_by_logs sc_done_by_logs rfl (by decide) (fun cdv A outer s H E hr => ⟨_, pss_one (ps_ret (pe_call (ok_done_by_teams T) (hr.mono (by first | decide | omega)) (by rfl) T.m_done_by_teams T.F_done_by_teams.kp (bn_done_by_teams T) .nil pass0 (pa_cons (k_fld (K := K) rfl (pv 0) rfl) (pa_cons (pv 1) pa_nil)))), fun q => ?_⟩)
  exact sim_ret (sim_call rfl mo_done_by_teams (sima_val (sim_fld (c0 := 3) T.cl_Office T.na_Office_works (sim_varF (i := 0) rfl)) (sima_val (sim_varF (i := 1) rfl) sima_nil)))
/-! least_row -/
theorem sc_least_row : FnScope ["office", "row", "least", "_"] ["office", "row"] (defScope s_least_row) := ⟨rfl, rfl, rfl, by decide +kernel, rfl, by decide +kernel, by decide +kernel⟩
theorem bn_least_row (T : Facts K mg) : Binds K T.fd_least_row ["office", "row"] [] := T.F_least_row.binds fun _ _ _ _ _ _ us hl => match us, hl with | [_, _], _ => rfl
theorem ok_least_row (T : Facts K mg) : FnOk P w K mg base CX0 6 T.f_least_row T.fd_least_row ["office", "row"] (SpM (S0 T) [false, false] m_least_row) := by
  refine fn_ok (N := ["office", "row", "least", "_"]) (body := b_least_row) (Γe := []) T.F_least_row sc_least_row rfl (by decide) (fun cdv A outer s H E hr => ⟨_, pss_cons (ps_expr (pe_call (ok_check_row T) (hr.mono (by first | decide | omega)) (by rfl) T.m_check_row T.F_check_row.kp (bn_check_row T) .nil pass0 (pa_cons (pv 0) (pa_cons (pv 1) pa_nil)))) (pss_cons (ps_asg (pe_call (ok_done_by_logs T) (hr.mono (by first | decide | omega)) (by rfl) T.m_done_by_logs T.F_done_by_logs.kp (bn_done_by_logs T) .nil pass0 (pa_cons (pv 0) (pa_cons (pe_call (ok_all_logs T) (hr.mono (by first | decide | omega)) (by rfl) T.m_all_logs T.F_all_logs.kp (bn_all_logs T) .nil pass0 (pa_cons (pv 0) (pa_cons (pv 1) pa_nil))) pa_nil))) (k_gtup (K := K) (n := 2) rfl rfl (pgs_cons (pg_name (i := 2) sc_least_row.nd rfl (by first | exact Or.inl rfl | exact Or.inr rfl)) (pgs_cons (pg_name (i := 3) sc_least_row.nd rfl (by first | exact Or.inl rfl | exact Or.inr rfl)) pgs_nil)))) (pss_one (ps_ret (pv 2)))), fun q => ?_⟩)
  exact sim_seq (sim_drop (sim_call rfl mo_check_row (sima_val (sim_varF (i := 0) rfl) (sima_val (sim_varF (i := 1) rfl) sima_nil)))) (sim_seq (sim_asgG (Γ1 := [.f, .f, .x, .x]) rfl (sim_call rfl mo_done_by_logs (sima_val (sim_varF (i := 0) rfl) (sima_val (sim_call rfl mo_all_logs (sima_val (sim_varF (i := 0) rfl) (sima_val (sim_varF (i := 1) rfl) sima_nil))) sima_nil))) (simg_tup (simgs_cons (simg_name (i := 2) free_nil (by decide) (by decide)) (simgs_cons (simg_name (i := 3) free_nil (by decide) (by decide)) simgs_nil)))) (sim_ret (sim_imm (sim_varF (i := 2) rfl))))
/-! _law_dice -/
theorem sc__law_dice : FnScope ["script", "cell"] ["script"] (defScope s__law_dice) := ⟨rfl, rfl, rfl, by decide +kernel, rfl, by decide +kernel, by decide +kernel⟩
theorem bn__law_dice (T : Facts K mg) : Binds K T.fd__law_dice ["script"] [] := T.F__law_dice.binds fun _ _ _ _ _ _ us hl => match us, hl with | [_], _ => rfl
theorem ok__law_dice (T : Facts K mg) : FnOk P w K mg base CX0 1 T.f__law_dice T.fd__law_dice ["script"] (spDice K) := dice_ok T.F__law_dice sc__law_dice (fun cdv A outer s H E hr => (pss_one (ps_ret (pe_lst (pa_cons (pe_lc (own := [("cell", 1)]) rfl sc__law_dice.nd (k_seq (K := K) rfl (pe_slice sl_list (pv 0) po_none (po_some pe_int))) (blkOk_by (by rfl)) (fun _ _ _ _ _ => (pg_name (i := 1) sc__law_dice.nd rfl (by first | exact Or.inl rfl | exact Or.inr rfl))) (fun _ _ _ _ _ => pts_nil) (fun _ _ _ _ _ => (pe_callB (id := "abs") call_abs (by rfl) T.n_abs (by decide +kernel) (pa_cons (pe_callTy (T := "int") call_int1 (by rfl) T.n_int (by decide +kernel) (pa_cons (pv 1) pa_nil)) pa_nil)))) (pa_cons pe_int (pa_cons pe_int (pa_cons pe_int (pa_cons pe_int pa_nil)))))))))
/-! _law_draw -/
theorem sc__law_draw : FnScope ["dice", "sides", "cell", "digit", "mixed"] ["dice", "sides"] (defScope s__law_draw) := ⟨rfl, rfl, rfl, by decide +kernel, rfl, by decide +kernel, by decide +kernel⟩
theorem bn__law_draw (T : Facts K mg) : Binds K T.fd__law_draw ["dice", "sides"] [] := T.F__law_draw.binds fun _ _ _ _ _ _ us hl => match us, hl with | [_, _], _ => rfl
theorem ok__law_draw (T : Facts K mg) : FnOk P w K mg base CX0 1 T.f__law_draw T.fd__law_draw ["dice", "sides"] (SpM (S0 T) [true, false] m__law_draw) := by
  refine draw_ok (N := ["dice", "sides", "cell", "digit", "mixed"]) (b := bDraw) (Γe := []) (Iv := IvDraw) T.F__law_draw sc__law_draw rfl rfl rfl (fun cdv A outer s H E hr => ⟨_, pss_cons (ps_if (PW.pt (pw_and (pt_cmpR (k_eq (K := K) rfl (rm64 hr)) (pe_ix (k_ix (K := K) rfl (rm1 hr)) (pv 0) pe_int (fun _ _ => rfl)) pe_int (nomark _)) (pw_and1 (pt_cmpR op_lt (pe_ix (k_ix (K := K) rfl (rm1 hr)) (pv 0) pe_int (fun _ _ => rfl)) (pe_callB (id := "len") (k_len (K := K) rfl) (by rfl) T.n_len (by decide +kernel) (pa_cons (pe_ix (k_ix (K := K) rfl (rm1 hr)) (pv 0) pe_int (fun _ _ => rfl)) pa_nil)) (nomark _))))) (pss_cons (ps_set (i := 2) sc__law_draw.nd rfl (by first | exact Or.inl rfl | exact Or.inr rfl) (pe_ix (k_ix (K := K) rfl (rm1 hr)) (pe_ix (k_ix (K := K) rfl (rm1 hr)) (pv 0) pe_int (fun _ _ => rfl)) (pe_ix (k_ix (K := K) rfl (rm1 hr)) (pv 0) pe_int (fun _ _ => rfl)) (fun _ _ => rfl))) (pss_cons (ps_asg (pe_op (k_add (K := K) rfl) (pe_ix (k_ix (K := K) rfl (rm1 hr)) (pv 0) pe_int (fun _ _ => rfl)) pe_int) (pg_sub (pv 0) pe_int (set_U (rm1 hr)))) (pss_one (ps_if (pt_cmpR op_ge (pv 2) (pe_op op_pow pe_int pe_int) (nomark _)) (pss_one (ps_asg (pv 2) (pg_sub (pv 0) pe_int (set_U (rm1 hr))))) (pss_one (ps_asg (pe_op op_modN (pe_callTy (T := "int") call_int1 (by rfl) T.n_int (by decide +kernel) (pa_cons (pe_op (k_add (K := K) rfl) (pe_op (k_add (K := K) rfl) (pe_op op_mul (pe_ix (k_ix (K := K) rfl (rm1 hr)) (pv 0) pe_int (fun _ _ => rfl)) pe_int) (pe_op op_mul (pv 2) pe_int)) (pe_ix (k_ix (K := K) rfl (rm1 hr)) (pv 0) pe_int (fun _ _ => rfl))) pa_nil)) pe_int) (pg_sub (pv 0) pe_int (set_U (rm1 hr))))))))) pss_nil) (pss_cons (ps_if (pt_cmpR op_gt (pe_ix (k_ix (K := K) rfl (rm1 hr)) (pv 0) pe_int (fun _ _ => rfl)) pe_int (nomark _)) (pss_cons (ps_set (i := 3) sc__law_draw.nd rfl (by first | exact Or.inl rfl | exact Or.inr rfl) (pe_op op_modN (pe_callTy (T := "int") call_int1 (by rfl) T.n_int (by decide +kernel) (pa_cons (pe_ix (k_ix (K := K) rfl (rm1 hr)) (pv 0) pe_int (fun _ _ => rfl)) pa_nil)) (pv 1))) (pss_cons (ps_asg (pe_op op_fdivN (pe_callTy (T := "int") call_int1 (by rfl) T.n_int (by decide +kernel) (pa_cons (pe_ix (k_ix (K := K) rfl (rm1 hr)) (pv 0) pe_int (fun _ _ => rfl)) pa_nil)) (pv 1)) (pg_sub (pv 0) pe_int (set_U (rm1 hr)))) (pss_one (ps_ret (pv 3))))) pss_nil) (pss_cons (ps_asg (pe_op (k_add (K := K) rfl) (pe_ix (k_ix (K := K) rfl (rm1 hr)) (pv 0) pe_int (fun _ _ => rfl)) pe_int) (pg_sub (pv 0) pe_int (set_U (rm1 hr)))) (pss_cons (ps_asg (pe_op op_modN (pe_callTy (T := "int") call_int1 (by rfl) T.n_int (by decide +kernel) (pa_cons (pe_op (k_add (K := K) rfl) (pe_op (k_add (K := K) rfl) (pe_op op_mul (pe_ix (k_ix (K := K) rfl (rm1 hr)) (pv 0) pe_int (fun _ _ => rfl)) pe_int) (pe_op op_mul (pe_ix (k_ix (K := K) rfl (rm1 hr)) (pv 0) pe_int (fun _ _ => rfl)) pe_int)) pe_int) pa_nil)) pe_int) (pg_sub (pv 0) pe_int (set_U (rm1 hr)))) (pss_cons (ps_set (i := 4) sc__law_draw.nd rfl (by first | exact Or.inl rfl | exact Or.inr rfl) (pe_op op_modN (pe_callTy (T := "int") call_int1 (by rfl) T.n_int (by decide +kernel) (pa_cons (pe_op op_mul (pe_ix (k_ix (K := K) rfl (rm1 hr)) (pv 0) pe_int (fun _ _ => rfl)) (pe_op (k_add (K := K) rfl) (pe_op op_fdivN (pe_ix (k_ix (K := K) rfl (rm1 hr)) (pv 0) pe_int (fun _ _ => rfl)) pe_int) pe_int)) pa_nil)) pe_int)) (pss_cons (ps_set (i := 4) sc__law_draw.nd rfl (by first | exact Or.inl rfl | exact Or.inr rfl) (pe_op op_modN (pe_callTy (T := "int") call_int1 (by rfl) T.n_int (by decide +kernel) (pa_cons (pe_op op_mul (pv 4) (pe_op (k_add (K := K) rfl) (pe_op op_fdivN (pv 4) pe_int) pe_int)) pa_nil)) pe_int)) (pss_one (ps_ret (pe_op op_modN (pe_callTy (T := "int") call_int1 (by rfl) T.n_int (by decide +kernel) (pa_cons (pe_op op_fdivN (pv 4) pe_int) pa_nil)) (pv 1))))))))), fun q => ?_⟩) pure_draw
  exact simd_seq (simd_if (simt_and (simt_test (sim_op so_eq (sim_part so_ix (sim_varF (i := 0) rfl) sim_int) sim_int)) (simt_test (sim_op so_lt (sim_part so_ix (sim_varF (i := 0) rfl) sim_int) (sim_call1 sc_len (sim_part so_ix (sim_varF (i := 0) rfl) sim_int))))) (simd_weak (Γ2 := [.f, .x, .x, .x]) (simd_seq (simd_set (i := 1) (by decide) (sim_part so_ix (sim_part so_ix (sim_varF (i := 0) rfl) sim_int) (sim_part so_ix (sim_varF (i := 0) rfl) sim_int))) (simd_seq (simd_put (k := 0) (by decide) (sim_op so_add (sim_part so_ix (sim_varF (i := 0) rfl) sim_int) sim_int)) (simd_if (simt_test (sim_op so_ge (sim_varF (i := 2) rfl) (sim_op so_pow sim_int sim_int))) (simd_put (k := 1) (by decide) (sim_varF (i := 2) rfl)) (simd_put (k := 2) (by decide) (sim_op so_mod (sim_call1 sc_int (sim_op so_add (sim_op so_add (sim_op so_mul (sim_part so_ix (sim_varF (i := 0) rfl) sim_int) sim_int) (sim_op so_mul (sim_varF (i := 2) rfl) sim_int)) (sim_part so_ix (sim_varF (i := 0) rfl) sim_int))) sim_int))))) rfl) simd_next) (simd_seq (simd_if (simt_test (sim_op so_gt (sim_part so_ix (sim_varF (i := 0) rfl) sim_int) sim_int)) (simd_seq (simd_set (i := 2) (by decide) (sim_op so_mod (sim_call1 sc_int (sim_part so_ix (sim_varF (i := 0) rfl) sim_int)) (sim_varF (i := 1) rfl))) (simd_seq (simd_put (k := 1) (by decide) (sim_op so_fdiv (sim_call1 sc_int (sim_part so_ix (sim_varF (i := 0) rfl) sim_int)) (sim_varF (i := 1) rfl))) (simd_ret (sim_varF (i := 3) rfl)))) simd_next) (simd_seq (simd_put (k := 3) (by decide) (sim_op so_add (sim_part so_ix (sim_varF (i := 0) rfl) sim_int) sim_int)) (simd_seq (simd_put (k := 2) (by decide) (sim_op so_mod (sim_call1 sc_int (sim_op so_add (sim_op so_add (sim_op so_mul (sim_part so_ix (sim_varF (i := 0) rfl) sim_int) sim_int) (sim_op so_mul (sim_part so_ix (sim_varF (i := 0) rfl) sim_int) sim_int)) sim_int)) sim_int)) (simd_seq (simd_set (i := 3) (by decide) (sim_op so_mod (sim_call1 sc_int (sim_op so_mul (sim_part so_ix (sim_varF (i := 0) rfl) sim_int) (sim_op so_add (sim_op so_fdiv (sim_part so_ix (sim_varF (i := 0) rfl) sim_int) sim_int) sim_int))) sim_int)) (simd_seq (simd_set (i := 3) (by decide) (sim_op so_mod (sim_call1 sc_int (sim_op so_mul (sim_varF (i := 4) rfl) (sim_op so_add (sim_op so_fdiv (sim_varF (i := 4) rfl) sim_int) sim_int))) sim_int)) (simd_ret (sim_op so_mod (sim_call1 sc_int (sim_op so_fdiv (sim_varF (i := 4) rfl) sim_int)) (sim_varF (i := 1) rfl))))))))
/-! _law_parts -/
theorem sc__law_parts : FnScope ["dice", "most", "desks", "kind", "lots", "turn", "lot", "desk"] ["dice", "most"] (defScope s__law_parts) := ⟨rfl, rfl, rfl, by decide +kernel, rfl, by decide +kernel, by decide +kernel⟩
theorem bn__law_parts (T : Facts K mg) : Binds K T.fd__law_parts ["dice", "most"] [] := T.F__law_parts.binds fun _ _ _ _ _ _ us hl => match us, hl with | [_, _], _ => rfl
theorem ok__law_parts (T : Facts K mg) : FnOk P w K mg base CX0 2 T.f__law_parts T.fd__law_parts ["dice", "most"] (SpM (S0 T) [true, false] m__law_parts) := by
  refine fn_ok (N := ["dice", "most", "desks", "kind", "lots", "turn", "lot", "desk"]) (body := b__law_parts) (Γe := []) T.F__law_parts sc__law_parts rfl (by decide) (fun cdv A outer s H E hr => ⟨_, pss_cons (ps_set (i := 2) sc__law_parts.nd rfl (by first | exact Or.inl rfl | exact Or.inr rfl) (pe_op (k_add (K := K) rfl) pe_int (pe_call (ok__law_draw T) (hr.mono (by first | decide | omega)) (by rfl) T.m__law_draw T.F__law_draw.kp (bn__law_draw T) .nil pass0 (pa_cons (pv 0) (pa_cons (pv 1) pa_nil))))) (pss_cons (ps_set (i := 3) sc__law_parts.nd rfl (by first | exact Or.inl rfl | exact Or.inr rfl) (pe_call (ok__law_draw T) (hr.mono (by first | decide | omega)) (by rfl) T.m__law_draw T.F__law_draw.kp (bn__law_draw T) .nil pass0 (pa_cons (pv 0) (pa_cons pe_int pa_nil)))) (pss_cons (ps_set (i := 4) sc__law_parts.nd rfl (by first | exact Or.inl rfl | exact Or.inr rfl) (pe_lst pa_nil)) (pss_cons (ps_if (PW.pt (pw_and (pt_cmpR (k_eq (K := K) rfl (rm64 hr)) (pv 3) pe_int (nomark _)) (pw_and1 (pt_cmpR op_gt (pv 2) pe_int (nomark _))))) (pss_one (ps_setLc (i := 4) (own := [("desk", 7)]) rfl sc__law_parts.nd rfl rfl (sw_true rfl rfl rfl (by decide +kernel)) (pi_range1 (by rfl) T.n_range (pa_cons (pv 2) pa_nil)) (blkOk_by (by rfl)) (fun _ _ _ _ _ => (pg_name (i := 7) sc__law_parts.nd rfl (by first | exact Or.inl rfl | exact Or.inr rfl))) (fun _ _ _ _ _ => pts_nil) (fun _ _ _ _ _ => (pe_callTy (T := "tuple") (k_tuple (K := K) rfl) (by rfl) T.n_tuple (by decide +kernel) (pa_cons (pe_callB (id := "sorted") (k_sortA (K := K) rfl) (by rfl) T.n_sorted (by decide +kernel) (pa_cons (pe_lst (pa_cons (pv 7) (pa_cons (pe_op op_modN (pe_callTy (T := "int") call_int1 (by rfl) T.n_int (by decide +kernel) (pa_cons (pe_op (k_add (K := K) rfl) (pv 7) pe_int) pa_nil)) (pv 2)) pa_nil))) pa_nil)) pa_nil))))) pss_nil) (pss_cons (ps_if (pt_cmpR (k_eq (K := K) rfl (rm64 hr)) (pv 3) pe_int (nomark _)) (pss_one (ps_setLc (i := 4) (own := [("desk", 7)]) rfl sc__law_parts.nd rfl rfl (sw_true rfl rfl rfl (by decide +kernel)) (pi_range1 (by rfl) T.n_range (pa_cons (pv 2) pa_nil)) (blkOk_by (by rfl)) (fun _ _ _ _ _ => (pg_name (i := 7) sc__law_parts.nd rfl (by first | exact Or.inl rfl | exact Or.inr rfl))) (fun _ _ _ _ _ => pts_nil) (fun _ _ _ _ _ => pe_tup (pa_cons (pv 7) pa_nil)))) pss_nil) (pss_cons (ps_if (PW.pt (pw_and (pt_cmpR (k_eq (K := K) rfl (rm64 hr)) (pv 3) pe_int (nomark _)) (pw_and1 (pt_cmpR op_gt (pv 2) pe_int (nomark _))))) (pss_one (ps_setLc (i := 4) (own := [("desk", 7)]) rfl sc__law_parts.nd rfl rfl (sw_true rfl rfl rfl (by decide +kernel)) (pi_range2 (by rfl) T.n_range (pa_cons pe_int (pa_cons (pv 2) pa_nil))) (blkOk_by (by rfl)) (fun _ _ _ _ _ => (pg_name (i := 7) sc__law_parts.nd rfl (by first | exact Or.inl rfl | exact Or.inr rfl))) (fun _ _ _ _ _ => pts_nil) (fun _ _ _ _ _ => pe_tup (pa_cons pe_int (pa_cons (pv 7) pa_nil))))) pss_nil) (pss_cons (ps_for PassesOwn.never rfl (pi_range1 (by rfl) T.n_range (pa_cons (pe_op (k_add (K := K) rfl) pe_int (pe_call (ok__law_draw T) (hr.mono (by first | decide | omega)) (by rfl) T.m__law_draw T.F__law_draw.kp (bn__law_draw T) .nil pass0 (pa_cons (pv 0) (pa_cons pe_int pa_nil)))) pa_nil)) (pg_name (i := 5) sc__law_parts.nd rfl (by first | exact Or.inl rfl | exact Or.inr rfl)) (pss_cons (ps_set (i := 6) sc__law_parts.nd rfl (by first | exact Or.inl rfl | exact Or.inr rfl) (pe_callTy (T := "tuple") (k_tuple (K := K) rfl) (by rfl) T.n_tuple (by decide +kernel) (pa_cons (pe_lc (own := [("desk", 7)]) rfl sc__law_parts.nd (pi_range1 (by rfl) T.n_range (pa_cons (pv 2) pa_nil)) (blkOk_by (by rfl)) (fun _ _ _ _ _ => (pg_name (i := 7) sc__law_parts.nd rfl (by first | exact Or.inl rfl | exact Or.inr rfl))) (fun _ _ _ _ _ => pts_one (pt_cmpR (k_eq (K := K) rfl (rm64 hr)) (pe_call (ok__law_draw T) (hr.mono (by first | decide | omega)) (by rfl) T.m__law_draw T.F__law_draw.kp (bn__law_draw T) .nil pass0 (pa_cons (pv 0) (pa_cons pe_int pa_nil))) pe_int (nomark _))) (fun _ _ _ _ _ => (pv 7))) pa_nil))) (pss_one (ps_expr (pe_bm PySem.F.plainAttrs_list PySem.F.slot_list_append PySem.F.type_list_append mt_append (pv 4) (pa_cons (pe_ifExp (pt_cmpR op_gt (pe_callB (id := "len") (k_lenA (K := K) rfl) (by rfl) T.n_len (by decide +kernel) (pa_cons (pv 6) pa_nil)) pe_int (nomark _)) (pv 6) (pe_tup (pa_cons (pe_call (ok__law_draw T) (hr.mono (by first | decide | omega)) (by rfl) T.m__law_draw T.F__law_draw.kp (bn__law_draw T) .nil pass0 (pa_cons (pv 0) (pa_cons (pv 2) pa_nil))) pa_nil))) pa_nil)))))) (pss_one (ps_ret (pe_tup (pa_cons (pv 2) (pa_cons (pe_callTy (T := "tuple") (k_tuple (K := K) rfl) (by rfl) T.n_tuple (by decide +kernel) (pa_cons (pe_slice (k_sl (K := K) rfl) (pv 4) po_none (po_some pe_int)) pa_nil)) pa_nil))))))))))), fun q => ?_⟩)
  exact sim_seq (sim_setO (i := 2) free_nil (by decide) (sim_op so_add sim_int (sim_call rfl mo__law_draw (sima_dice (i := 0) rfl (sima_val (sim_varF (i := 1) rfl) sima_nil))))) (sim_seq (sim_setO (i := 3) free_nil (by decide) (sim_call rfl mo__law_draw (sima_dice (i := 0) rfl (sima_val sim_int sima_nil)))) (sim_seq (sim_setO (i := 4) free_nil (by decide) (sim_lst siml_nil)) (sim_seq (sim_if (simt_and (simt_test (sim_op so_eq (sim_varO (i := 3) rfl) sim_int)) (simt_test (sim_op so_gt (sim_varO (i := 2) rfl) sim_int))) (sim_setO (i := 4) free_nil (by decide) (sim_lc (Γf := [.q, .f, .o, .o, .o, .x, .x, .x]) (ws := [7]) (ks := [7]) (by intro k hk; exact free_nil) (simi_rng1 (sim_varO (i := 2) rfl)) rfl rfl (simg_name (i := 7) free_nil (by decide) (by decide)) (by decide) simt_yes (sim_call1 sc_tup (sim_call1 sc_sortA (sim_lst (siml_cons (sim_imm (sim_varF (i := 7) rfl)) (siml_cons (sim_op so_mod (sim_call1 sc_int (sim_op so_add (sim_varF (i := 7) rfl) sim_int)) (sim_varO (i := 2) rfl)) siml_nil))))))) sim_next) (sim_seq (sim_if (simt_test (sim_op so_eq (sim_varO (i := 3) rfl) sim_int)) (sim_setO (i := 4) free_nil (by decide) (sim_lc (Γf := [.q, .f, .o, .o, .o, .x, .x, .x]) (ws := [7]) (ks := [7]) (by intro k hk; exact free_nil) (simi_rng1 (sim_varO (i := 2) rfl)) rfl rfl (simg_name (i := 7) free_nil (by decide) (by decide)) (by decide) simt_yes (sim_tup (siml_cons (sim_imm (sim_varF (i := 7) rfl)) siml_nil)))) sim_next) (sim_seq (sim_if (simt_and (simt_test (sim_op so_eq (sim_varO (i := 3) rfl) sim_int)) (simt_test (sim_op so_gt (sim_varO (i := 2) rfl) sim_int))) (sim_setO (i := 4) free_nil (by decide) (sim_lc (Γf := [.q, .f, .o, .o, .o, .x, .x, .x]) (ws := [7]) (ks := [7]) (by intro k hk; exact free_nil) (simi_rng2 sim_int (sim_varO (i := 2) rfl)) rfl rfl (simg_name (i := 7) free_nil (by decide) (by decide)) (by decide) simt_yes (sim_tup (siml_cons sim_int (siml_cons (sim_imm (sim_varF (i := 7) rfl)) siml_nil))))) sim_next) (sim_seq (sim_for (Γl := [.q, .f, .o, .o, .o, .x, .x, .x]) (simi_rng1 (sim_op so_add sim_int (sim_call rfl mo__law_draw (sima_dice (i := 0) rfl (sima_val sim_int sima_nil))))) rfl rfl (simg_name (i := 5) free_nil (by decide) (by decide)) (sim_seq (sim_setO (i := 6) free_nil (by decide) (sim_call1 sc_tup (sim_lc (Γf := [.q, .f, .o, .o, .o, .f, .x, .x]) (ws := [7]) (ks := [7]) (by intro k hk; exact free_nil) (simi_rng1 (sim_varO (i := 2) rfl)) rfl rfl (simg_name (i := 7) free_nil (by decide) (by decide)) (by decide) (simt_test (sim_op so_eq (sim_call rfl mo__law_draw (sima_dice (i := 0) rfl (sima_val sim_int sima_nil))) sim_int)) (sim_imm (sim_varF (i := 7) rfl))))) (sim_app (i := 4) rfl (sim_if2 (simt_test (sim_op so_gt (sim_call1 sc_lenA (sim_varO (i := 6) rfl)) sim_int)) (sim_imm (sim_varO (i := 6) rfl)) (sim_tup (siml_cons (sim_call rfl mo__law_draw (sima_dice (i := 0) rfl (sima_val (sim_varO (i := 2) rfl) sima_nil))) siml_nil))))) rfl) (sim_ret (sim_tup (siml_cons (sim_imm (sim_varO (i := 2) rfl)) (siml_cons (sim_call1 sc_tup (sim_sl (sim_varO (i := 4) rfl) simo_no (simo_yes sim_int))) siml_nil))))))))))
/-! _law_made -/
theorem sc__law_made : FnScope ["parts"] ["parts"] (defScope s__law_made) := ⟨rfl, rfl, rfl, by decide +kernel, rfl, by decide +kernel, by decide +kernel⟩
theorem bn__law_made (T : Facts K mg) : Binds K T.fd__law_made ["parts"] [] := T.F__law_made.binds fun _ _ _ _ _ _ us hl => match us, hl with | [_], _ => rfl
theorem ok__law_made (T : Facts K mg) : FnOk P w K mg base CX0 8 T.f__law_made T.fd__law_made ["parts"] (SpM (S0 T) [false] m__law_made) := by
  refine fn_ok (N := ["parts"]) (body := b__law_made) (Γe := []) T.F__law_made sc__law_made rfl (by decide) (fun cdv A outer s H E hr => ⟨_, pss_one (ps_ret (pe_make T.mk_Office (ok_Office_init T) (hr.mono (by decide)) (by rfl) T.m_Office (bn_Office_init T) .nil pass0 (pa_cons (pe_ix (k_ix (K := K) rfl (rm1 hr)) (pv 0) pe_int (fun _ _ => rfl)) (pa_cons (pe_ix (k_ix (K := K) rfl (rm1 hr)) (pv 0) pe_int (fun _ _ => rfl)) pa_nil)))), fun q => ?_⟩)
  exact sim_ret (sim_make rfl rfl mo_Office_init (siml_cons (sim_imm (sim_part so_ix (sim_varF (i := 0) rfl) sim_int)) (siml_cons (sim_imm (sim_part so_ix (sim_varF (i := 0) rfl) sim_int)) siml_nil)))
/-! _law_some_parts -/
theorem sc__law_some_parts : FnScope ["dice"] ["dice"] (defScope s__law_some_parts) := ⟨rfl, rfl, rfl, by decide +kernel, rfl, by decide +kernel, by decide +kernel⟩
theorem bn__law_some_parts (T : Facts K mg) : Binds K T.fd__law_some_parts ["dice"] [] := T.F__law_some_parts.binds fun _ _ _ _ _ _ us hl => match us, hl with | [_], _ => rfl
theorem ok__law_some_parts (T : Facts K mg) : FnOk P w K mg base CX0 3 T.f__law_some_parts T.fd__law_some_parts ["dice"] (SpM (S0 T) [true] m__law_some_parts) := by
  refine fn_ok (N := ["dice"]) (body := b__law_some_parts) (Γe := []) T.F__law_some_parts sc__law_some_parts rfl (by decide) (fun cdv A outer s H E hr => ⟨_, pss_one (ps_ret (pe_call (ok__law_parts T) (hr.mono (by first | decide | omega)) (by rfl) T.m__law_parts T.F__law_parts.kp (bn__law_parts T) .nil pass0 (pa_cons (pv 0) (pa_cons (pe_ifExp (pt_cmpR (k_eq (K := K) rfl (rm64 hr)) (pe_call (ok__law_draw T) (hr.mono (by first | decide | omega)) (by rfl) T.m__law_draw T.F__law_draw.kp (bn__law_draw T) .nil pass0 (pa_cons (pv 0) (pa_cons pe_int pa_nil))) pe_int (nomark _)) pe_int pe_int) pa_nil)))), fun q => ?_⟩)
  exact sim_ret (sim_call rfl mo__law_parts (sima_dice (i := 0) rfl (sima_val (sim_if2 (simt_test (sim_op so_eq (sim_call rfl mo__law_draw (sima_dice (i := 0) rfl (sima_val sim_int sima_nil))) sim_int)) sim_int sim_int) sima_nil)))
/-! _law_row -/
theorem sc__law_row : FnScope ["dice", "parts", "most", "turn"] ["dice", "parts", "most"] (defScope s__law_row) := ⟨rfl, rfl, rfl, by decide +kernel, rfl, by decide +kernel, by decide +kernel⟩
theorem bn__law_row (T : Facts K mg) : Binds K T.fd__law_row ["dice", "parts", "most"] [] := T.F__law_row.binds fun _ _ _ _ _ _ us hl => match us, hl with | [_, _, _], _ => rfl
theorem ok__law_row (T : Facts K mg) : FnOk P w K mg base CX0 2 T.f__law_row T.fd__law_row ["dice", "parts", "most"] (SpM (S0 T) [true, false, false] m__law_row) := by
  refine fn_ok (N := ["dice", "parts", "most", "turn"]) (body := b__law_row) (Γe := []) T.F__law_row sc__law_row rfl (by decide) (fun cdv A outer s H E hr => ⟨_, pss_one (ps_ret (pe_callTy (T := "tuple") (k_tuple (K := K) rfl) (by rfl) T.n_tuple (by decide +kernel) (pa_cons (pe_lc (own := [("turn", 3)]) rfl sc__law_row.nd (pi_range1 (by rfl) T.n_range (pa_cons (pe_call (ok__law_draw T) (hr.mono (by first | decide | omega)) (by rfl) T.m__law_draw T.F__law_draw.kp (bn__law_draw T) .nil pass0 (pa_cons (pv 0) (pa_cons (pe_op (k_add (K := K) rfl) (pv 2) pe_int) pa_nil))) pa_nil)) (blkOk_by (by rfl)) (fun _ _ _ _ _ => (pg_name (i := 3) sc__law_row.nd rfl (by first | exact Or.inl rfl | exact Or.inr rfl))) (fun _ _ _ _ _ => pts_nil) (fun _ _ _ _ _ => (pe_call (ok__law_draw T) (hr.mono (by first | decide | omega)) (by rfl) T.m__law_draw T.F__law_draw.kp (bn__law_draw T) .nil pass0 (pa_cons (pv 0) (pa_cons (pe_callB (id := "len") (k_lenA (K := K) rfl) (by rfl) T.n_len (by decide +kernel) (pa_cons (pe_ix (k_ix (K := K) rfl (rm1 hr)) (pv 1) pe_int (fun _ _ => rfl)) pa_nil)) pa_nil))))) pa_nil))), fun q => ?_⟩)
  exact sim_ret (sim_call1 sc_tup (sim_lc (Γf := [.q, .f, .f, .x]) (ws := [3]) (ks := [3]) (by intro k hk; exact free_nil) (simi_rng1 (sim_call rfl mo__law_draw (sima_dice (i := 0) rfl (sima_val (sim_op so_add (sim_varF (i := 2) rfl) sim_int) sima_nil)))) rfl rfl (simg_name (i := 3) free_nil (by decide) (by decide)) (by decide) simt_yes (sim_call rfl mo__law_draw (sima_dice (i := 0) rfl (sima_val (sim_call1 sc_lenA (sim_part so_ix (sim_varF (i := 1) rfl) sim_int)) sima_nil)))))
/-! _law_meets -/
theorem sc__law_meets : FnScope ["parts", "one", "other", "desk"] ["parts", "one", "other"] (defScope s__law_meets) := ⟨rfl, rfl, rfl, by decide +kernel, rfl, by decide +kernel, by decide +kernel⟩
theorem bn__law_meets (T : Facts K mg) : Binds K T.fd__law_meets ["parts", "one", "other"] [] := T.F__law_meets.binds fun _ _ _ _ _ _ us hl => match us, hl with | [_, _, _], _ => rfl
theorem ok__law_meets (T : Facts K mg) : FnOk P w K mg base CX0 1 T.f__law_meets T.fd__law_meets ["parts", "one", "other"] (SpM (S0 T) [false, false, false] m__law_meets) := by
  refine fn_ok (N := ["parts", "one", "other", "desk"]) (body := b__law_meets) (Γe := []) T.F__law_meets sc__law_meets rfl (by decide) (fun cdv A outer s H E hr => ⟨_, pss_one (ps_ret (pe_callB (id := "any") (k_any (K := K) rfl rfl) (by rfl) T.n_any (by decide +kernel) (pa_cons (pe_lc (own := [("desk", 3)]) rfl sc__law_meets.nd (k_seq (K := K) rfl (pe_ix (k_ix (K := K) rfl (rm1 hr)) (pe_ix (k_ix (K := K) rfl (rm1 hr)) (pv 0) pe_int (fun _ _ => rfl)) (pv 1) (fun _ _ => rfl))) (blkOk_by (by rfl)) (fun _ _ _ _ _ => (pg_name (i := 3) sc__law_meets.nd rfl (by first | exact Or.inl rfl | exact Or.inr rfl))) (fun _ _ _ _ _ => pts_nil) (fun _ _ _ _ _ => pe_cmpR (k_in (K := K) rfl (rm65 hr)) (pv 3) (pe_ix (k_ix (K := K) rfl (rm1 hr)) (pe_ix (k_ix (K := K) rfl (rm1 hr)) (pv 0) pe_int (fun _ _ => rfl)) (pv 2) (fun _ _ => rfl)) (by rfl))) pa_nil))), fun q => ?_⟩)
  exact sim_ret (sim_call1 sc_any (sim_lc (Γf := [.f, .f, .f, .x]) (ws := [3]) (ks := [3]) (by intro k hk; exact free_nil) (simi_seq (sim_part so_ix (sim_part so_ix (sim_varF (i := 0) rfl) sim_int) (sim_varF (i := 1) rfl))) rfl rfl (simg_name (i := 3) free_nil (by decide) (by decide)) (by decide) simt_yes (sim_op so_in (sim_varF (i := 3) rfl) (sim_part so_ix (sim_part so_ix (sim_varF (i := 0) rfl) sim_int) (sim_varF (i := 2) rfl)))))
/-! _law_whole -/
theorem sc__law_whole : FnScope ["shown", "due"] ["shown", "due"] (defScope s__law_whole) := ⟨rfl, rfl, rfl, by decide +kernel, rfl, by decide +kernel, by decide +kernel⟩
theorem bn__law_whole (T : Facts K mg) : Binds K T.fd__law_whole ["shown", "due"] [] := T.F__law_whole.binds fun _ _ _ _ _ _ us hl => match us, hl with | [_, _], _ => rfl
theorem ok__law_whole (T : Facts K mg) : FnOk P w K mg base CX0 1 T.f__law_whole T.fd__law_whole ["shown", "due"] (SpM (S0 T) [false, false] m__law_whole) := by
  refine fn_ok (N := ["shown", "due"]) (body := b__law_whole) (Γe := []) T.F__law_whole sc__law_whole rfl (by decide) (fun cdv A outer s H E hr => ⟨_, pss_cons (ps_if (pt_cmpR op_isN (pv 1) pe_non (nomark _)) (pss_one (ps_ret (pe_cmpR op_isN (pv 0) pe_non (nomark _)))) pss_nil) (pss_one (ps_ret (pe_and (pe_callB (id := "isinstance") (k_isa (K := K) rfl) (by rfl) T.n_isinstance (by decide +kernel) (pa_cons (pv 0) (pa_cons (k_ty (c := "int") (by rfl) T.n_int (by decide +kernel)) pa_nil))) (pe_and (pe_not (pe_callB (id := "isinstance") (k_isa (K := K) rfl) (by rfl) T.n_isinstance (by decide +kernel) (pa_cons (pv 0) (pa_cons (k_ty (c := "bool") (by rfl) T.n_bool (by decide +kernel)) pa_nil)))) (pe_one (pe_cmpR (k_eq (K := K) rfl (rm64 hr)) (pv 0) (pv 1) (nomark _))))))), fun q => ?_⟩)
  exact sim_seq (sim_if (simt_test (sim_op so_isN (sim_varF (i := 1) rfl) sim_non)) (sim_ret (sim_op so_isN (sim_varF (i := 0) rfl) sim_non)) sim_next) (sim_ret (sim_and (sim_isa (c := "int") (sim_varF (i := 0) rfl)) (sim_and (sim_not (sim_isa (c := "bool") (sim_varF (i := 0) rfl))) (sim_op so_eq (sim_varF (i := 0) rfl) (sim_varF (i := 1) rfl)))))
/-! _law_same -/
theorem sc__law_same : FnScope ["shown", "due", "at"] ["shown", "due"] (defScope s__law_same) := ⟨rfl, rfl, rfl, by decide +kernel, rfl, by decide +kernel, by decide +kernel⟩
theorem bn__law_same (T : Facts K mg) : Binds K T.fd__law_same ["shown", "due"] [] := T.F__law_same.binds fun _ _ _ _ _ _ us hl => match us, hl with | [_, _], _ => rfl
theorem ok__law_same_n : ∀ (n : Nat) (T : Facts K mg), FnOk P w K mg base CX0 (1 + n) T.f__law_same T.fd__law_same ["shown", "due"] (SpM (S0 T) [false, false] (m__law_same_n n))
  | 0, T => fn_never rfl
  | n + 1, T => by
    have ih : ∀ T : Facts K mg, FnOk P w K mg base CX0 (1 + n) T.f__law_same T.fd__law_same ["shown", "due"] (SpM (S0 T) [false, false] (m__law_same_n n)) := fun T => ok__law_same_n n T
    have mo_self := mo__law_same_n n
    show FnOk P w K mg base CX0 (1 + n + 1) T.f__law_same T.fd__law_same ["shown", "due"] (SpM (S0 T) [false, false] (fnM 3 (b__law_same (m__law_same_n n))))
    refine fn_ok (N := ["shown", "due", "at"]) (body := _) (Γe := []) T.F__law_same sc__law_same rfl (by decide) (fun cdv A outer s H E hr => ⟨_, pss_cons (ps_if (pt_val (pe_callB (id := "isinstance") (k_isaT (K := K) rfl) (by rfl) T.n_isinstance (by decide +kernel) (pa_cons (pv 1) (pa_cons (pe_tup (pa_cons (k_ty (c := "tuple") (by rfl) T.n_tuple (by decide +kernel)) (pa_cons (k_ty (c := "list") (by rfl) T.n_list (by decide +kernel)) pa_nil))) pa_nil)))) (pss_cons (ps_if (PW.pt (pw_or (pt_cmpR (k_ne (K := K) rfl (rm64 hr)) (pe_callB (id := "isinstance") (k_isa (K := K) rfl) (by rfl) T.n_isinstance (by decide +kernel) (pa_cons (pv 0) (pa_cons (k_ty (c := "tuple") (by rfl) T.n_tuple (by decide +kernel)) pa_nil))) (pe_callB (id := "isinstance") (k_isa (K := K) rfl) (by rfl) T.n_isinstance (by decide +kernel) (pa_cons (pv 1) (pa_cons (k_ty (c := "tuple") (by rfl) T.n_tuple (by decide +kernel)) pa_nil))) (nomark _)) (pw_or1 (pt_cmpR (k_ne (K := K) rfl (rm64 hr)) (pe_callB (id := "isinstance") (k_isa (K := K) rfl) (by rfl) T.n_isinstance (by decide +kernel) (pa_cons (pv 0) (pa_cons (k_ty (c := "list") (by rfl) T.n_list (by decide +kernel)) pa_nil))) (pe_callB (id := "isinstance") (k_isa (K := K) rfl) (by rfl) T.n_isinstance (by decide +kernel) (pa_cons (pv 1) (pa_cons (k_ty (c := "list") (by rfl) T.n_list (by decide +kernel)) pa_nil))) (nomark _))))) (pss_one (ps_ret pe_bl)) pss_nil) (pss_cons (ps_if (pt_cmpR (k_ne (K := K) rfl (rm64 hr)) (pe_callB (id := "len") (k_lenA (K := K) rfl) (by rfl) T.n_len (by decide +kernel) (pa_cons (pv 0) pa_nil)) (pe_callB (id := "len") (k_lenA (K := K) rfl) (by rfl) T.n_len (by decide +kernel) (pa_cons (pv 1) pa_nil)) (nomark _)) (pss_one (ps_ret pe_bl)) pss_nil) (pss_one (ps_ret (pe_callB (id := "all") (k_all (K := K) rfl rfl) (by rfl) T.n_all (by decide +kernel) (pa_cons (pe_lc (own := [("at", 2)]) rfl sc__law_same.nd (pi_range1 (by rfl) T.n_range (pa_cons (pe_callB (id := "len") (k_lenA (K := K) rfl) (by rfl) T.n_len (by decide +kernel) (pa_cons (pv 1) pa_nil)) pa_nil)) (blkOk_by (by rfl)) (fun _ _ _ _ _ => (pg_name (i := 2) sc__law_same.nd rfl (by first | exact Or.inl rfl | exact Or.inr rfl))) (fun _ _ _ _ _ => pts_nil) (fun _ _ _ _ _ => (pe_call (ih T) (hr.mono (by omega)) (by rfl) T.m__law_same T.F__law_same.kp (bn__law_same T) .nil pass0 (pa_cons (pe_ix (k_ix (K := K) rfl (rm1 hr)) (pv 0) (pv 2) (fun _ _ => rfl)) (pa_cons (pe_ix (k_ix (K := K) rfl (rm1 hr)) (pv 1) (pv 2) (fun _ _ => rfl)) pa_nil))))) pa_nil)))))) pss_nil) (pss_cons (ps_if (PW.pt (pw_or (pt_val (pe_callB (id := "isinstance") (k_isa (K := K) rfl) (by rfl) T.n_isinstance (by decide +kernel) (pa_cons (pv 1) (pa_cons (k_ty (c := "bool") (by rfl) T.n_bool (by decide +kernel)) pa_nil)))) (pw_or1 (pt_val (pe_callB (id := "isinstance") (k_isa (K := K) rfl) (by rfl) T.n_isinstance (by decide +kernel) (pa_cons (pv 1) (pa_cons (k_ty (c := "str") (by rfl) T.n_str (by decide +kernel)) pa_nil))))))) (pss_cons (ps_if (PW.pt (pw_or (pt_not (pt_val (pe_callB (id := "isinstance") (k_isaT (K := K) rfl) (by rfl) T.n_isinstance (by decide +kernel) (pa_cons (pv 0) (pa_cons (pe_tup (pa_cons (k_ty (c := "bool") (by rfl) T.n_bool (by decide +kernel)) (pa_cons (k_ty (c := "str") (by rfl) T.n_str (by decide +kernel)) pa_nil))) pa_nil))))) (pw_or1 (pt_cmpR (k_ne (K := K) rfl (rm64 hr)) (pe_callB (id := "isinstance") (k_isa (K := K) rfl) (by rfl) T.n_isinstance (by decide +kernel) (pa_cons (pv 0) (pa_cons (k_ty (c := "bool") (by rfl) T.n_bool (by decide +kernel)) pa_nil))) (pe_callB (id := "isinstance") (k_isa (K := K) rfl) (by rfl) T.n_isinstance (by decide +kernel) (pa_cons (pv 1) (pa_cons (k_ty (c := "bool") (by rfl) T.n_bool (by decide +kernel)) pa_nil))) (nomark _))))) (pss_one (ps_ret pe_bl)) pss_nil) (pss_one (ps_ret (pe_cmpR (k_eq (K := K) rfl (rm64 hr)) (pv 0) (pv 1) (nomark _))))) pss_nil) (pss_one (ps_ret (pe_call (ok__law_whole T) (hr.mono (by first | decide | omega)) (by rfl) T.m__law_whole T.F__law_whole.kp (bn__law_whole T) .nil pass0 (pa_cons (pv 0) (pa_cons (pv 1) pa_nil)))))), fun q => ?_⟩)
    exact sim_seq (sim_if (simt_B (sim_isaT (c1 := "tuple") (c2 := "list") (sim_varF (i := 1) rfl))) (sim_seq (sim_if (simt_or (simt_test (sim_op so_ne (sim_isa (c := "tuple") (sim_varF (i := 0) rfl)) (sim_isa (c := "tuple") (sim_varF (i := 1) rfl)))) (simt_test (sim_op so_ne (sim_isa (c := "list") (sim_varF (i := 0) rfl)) (sim_isa (c := "list") (sim_varF (i := 1) rfl))))) (sim_ret sim_bl) sim_next) (sim_seq (sim_if (simt_test (sim_op so_ne (sim_call1 sc_lenA (sim_varF (i := 0) rfl)) (sim_call1 sc_lenA (sim_varF (i := 1) rfl)))) (sim_ret sim_bl) sim_next) (sim_ret (sim_call1 sc_all (sim_lc (Γf := [.f, .f, .x]) (ws := [2]) (ks := [2]) (by intro k hk; exact free_nil) (simi_rng1 (sim_call1 sc_lenA (sim_varF (i := 1) rfl))) rfl rfl (simg_name (i := 2) free_nil (by decide) (by decide)) (by decide) simt_yes (sim_call rfl mo_self (sima_val (sim_part so_ix (sim_varF (i := 0) rfl) (sim_varF (i := 2) rfl)) (sima_val (sim_part so_ix (sim_varF (i := 1) rfl) (sim_varF (i := 2) rfl)) sima_nil)))))))) sim_next) (sim_seq (sim_if (simt_or (simt_B (sim_isa (c := "bool") (sim_varF (i := 1) rfl))) (simt_B (sim_isa (c := "str") (sim_varF (i := 1) rfl)))) (sim_seq (sim_if (simt_or (simt_not (simt_B (sim_isaT (c1 := "bool") (c2 := "str") (sim_varF (i := 0) rfl)))) (simt_test (sim_op so_ne (sim_isa (c := "bool") (sim_varF (i := 0) rfl)) (sim_isa (c := "bool") (sim_varF (i := 1) rfl))))) (sim_ret sim_bl) sim_next) (sim_ret (sim_op so_eq (sim_varF (i := 0) rfl) (sim_varF (i := 1) rfl)))) sim_next) (sim_ret (sim_call rfl mo__law_whole (sima_val (sim_varF (i := 0) rfl) (sima_val (sim_varF (i := 1) rfl) sima_nil)))))
theorem ok__law_same (T : Facts K mg) : FnOk P w K mg base CX0 9 T.f__law_same T.fd__law_same ["shown", "due"] (SpM (S0 T) [false, false] m__law_same) := ok__law_same_n 8 T
/-! _law_near -/
theorem sc__law_near : FnScope ["parts", "numbers", "one", "other"] ["parts"] (defScope s__law_near) := ⟨rfl, rfl, rfl, by decide +kernel, rfl, by decide +kernel, by decide +kernel⟩
theorem bn__law_near (T : Facts K mg) : Binds K T.fd__law_near ["parts"] [] := T.F__law_near.binds fun _ _ _ _ _ _ us hl => match us, hl with | [_], _ => rfl
theorem ok__law_near (T : Facts K mg) : FnOk P w K mg base CX0 2 T.f__law_near T.fd__law_near ["parts"] (SpM (S0 T) [false] m__law_near) := by
  refine fn_ok (N := ["parts", "numbers", "one", "other"]) (body := b__law_near) (Γe := []) T.F__law_near sc__law_near rfl (by decide) (fun cdv A outer s H E hr => ⟨_, pss_cons (ps_set (i := 1) sc__law_near.nd rfl (by first | exact Or.inl rfl | exact Or.inr rfl) (pe_listRg rfl (by rfl) T.n_list (prg_1 (by rfl) T.n_range (pe_callB (id := "len") (k_lenA (K := K) rfl) (by rfl) T.n_len (by decide +kernel) (pa_cons (pe_ix (k_ix (K := K) rfl (rm1 hr)) (pv 0) pe_int (fun _ _ => rfl)) pa_nil))))) (pss_one (ps_ret (pe_lc (own := [("one", 2)]) rfl sc__law_near.nd (k_seq (K := K) rfl (pv 1)) (blkOk_by (by rfl)) (fun _ _ _ _ _ => (pg_name (i := 2) sc__law_near.nd rfl (by first | exact Or.inl rfl | exact Or.inr rfl))) (fun _ _ _ _ _ => pts_nil) (fun _ _ _ _ _ => (pe_lc (own := [("other", 3)]) rfl sc__law_near.nd (k_seq (K := K) rfl (pv 1)) (blkOk_by (by rfl)) (fun _ _ _ _ _ => (pg_name (i := 3) sc__law_near.nd rfl (by first | exact Or.inl rfl | exact Or.inr rfl))) (fun _ _ _ _ _ => pts_nil) (fun _ _ _ _ _ => (pe_call (ok__law_meets T) (hr.mono (by first | decide | omega)) (by rfl) T.m__law_meets T.F__law_meets.kp (bn__law_meets T) .nil pass0 (pa_cons (pv 0) (pa_cons (pv 2) (pa_cons (pv 3) pa_nil)))))))))), fun q => ?_⟩)
  exact sim_seq (sim_setO (i := 1) free_nil (by decide) (sim_lrg1 (sim_call1 sc_lenA (sim_part so_ix (sim_varF (i := 0) rfl) sim_int)))) (sim_ret (sim_lc (Γf := [.f, .f, .x, .x]) (ws := [2]) (ks := [2]) (by intro k hk; exact free_nil) (simi_seq (sim_varO (i := 1) rfl)) rfl rfl (simg_name (i := 2) free_nil (by decide) (by decide)) (by decide) simt_yes (sim_lc (Γf := [.f, .f, .f, .x]) (ws := [3]) (ks := [3]) (by intro k hk; exact free_nil) (simi_seq (sim_varF (i := 1) rfl)) rfl rfl (simg_name (i := 3) free_nil (by decide) (by decide)) (by decide) simt_yes (sim_call rfl mo__law_meets (sima_val (sim_varF (i := 0) rfl) (sima_val (sim_varF (i := 2) rfl) (sima_val (sim_varF (i := 3) rfl) sima_nil)))))))
/-! _law_exchanged -/
theorem sc__law_exchanged : FnScope ["near", "row", "found", "layer", "later", "here", "at", "there"] ["near", "row"] (defScope s__law_exchanged) := ⟨rfl, rfl, rfl, by decide +kernel, rfl, by decide +kernel, by decide +kernel⟩
theorem bn__law_exchanged (T : Facts K mg) : Binds K T.fd__law_exchanged ["near", "row"] [] := T.F__law_exchanged.binds fun _ _ _ _ _ _ us hl => match us, hl with | [_, _], _ => rfl
theorem ok__law_exchanged (T : Facts K mg) : FnOk P w K mg base CX0 1 T.f__law_exchanged T.fd__law_exchanged ["near", "row"] (SpM (S0 T) [false, false] m__law_exchanged) := by
  refine fn_ok (N := ["near", "row", "found", "layer", "later", "here", "at", "there"]) (body := b__law_exchanged) (Γe := []) T.F__law_exchanged sc__law_exchanged rfl (by decide) (fun cdv A outer s H E hr => ⟨_, pss_cons (ps_set (i := 2) sc__law_exchanged.nd rfl (by first | exact Or.inl rfl | exact Or.inr rfl) (pe_dispT (rm1 hr) (pv 1) pe_int)) (pss_cons (ps_set (i := 3) sc__law_exchanged.nd rfl (by first | exact Or.inl rfl | exact Or.inr rfl) (pe_lst (pa_cons (pv 1) pa_nil))) (pss_cons (ps_while PassesOwn.never (pt_cmpR op_gt (pe_callB (id := "len") (k_lenA (K := K) rfl) (by rfl) T.n_len (by decide +kernel) (pa_cons (pv 3) pa_nil)) pe_int (nomark _)) (pss_cons (ps_set (i := 4) sc__law_exchanged.nd rfl (by first | exact Or.inl rfl | exact Or.inr rfl) (pe_lst pa_nil)) (pss_cons (ps_for PassesOwn.never rfl (k_seq (K := K) rfl (pv 3)) (pg_name (i := 5) sc__law_exchanged.nd rfl (by first | exact Or.inl rfl | exact Or.inr rfl)) (pss_one (ps_for PassesOwn.never rfl (pi_range1 (by rfl) T.n_range (pa_cons (pe_op op_sub (pe_callB (id := "len") (k_lenA (K := K) rfl) (by rfl) T.n_len (by decide +kernel) (pa_cons (pv 5) pa_nil)) pe_int) pa_nil)) (pg_name (i := 6) sc__law_exchanged.nd rfl (by first | exact Or.inl rfl | exact Or.inr rfl)) (pss_cons (ps_set (i := 7) sc__law_exchanged.nd rfl (by first | exact Or.inl rfl | exact Or.inr rfl) (pe_op (k_add (K := K) rfl) (pe_op (k_add (K := K) rfl) (pe_slice (k_sl (K := K) rfl) (pv 5) po_none (po_some (pv 6))) (pe_tup (pa_cons (pe_ix (k_ix (K := K) rfl (rm1 hr)) (pv 5) (pe_op (k_add (K := K) rfl) (pv 6) pe_int) (fun _ _ => rfl)) (pa_cons (pe_ix (k_ix (K := K) rfl (rm1 hr)) (pv 5) (pv 6) (fun _ _ => rfl)) pa_nil)))) (pe_slice (k_sl (K := K) rfl) (pv 5) (po_some (pe_op (k_add (K := K) rfl) (pv 6) pe_int)) po_none))) (pss_one (ps_if (PW.pt (pw_and (pt_not (pt_val (pe_ix (k_ix (K := K) rfl (rm1 hr)) (pe_ix (k_ix (K := K) rfl (rm1 hr)) (pv 0) (pe_ix (k_ix (K := K) rfl (rm1 hr)) (pv 5) (pv 6) (fun _ _ => rfl)) (fun _ _ => rfl)) (pe_ix (k_ix (K := K) rfl (rm1 hr)) (pv 5) (pe_op (k_add (K := K) rfl) (pv 6) pe_int) (fun _ _ => rfl)) (fun _ _ => rfl)))) (pw_and1 (pt_cmpR (k_notIn (K := K) rfl (rm65 hr)) (pv 7) (pv 2) (by rfl))))) (pss_cons (ps_asg (pe_op (k_add (K := K) rfl) (pe_ix (k_ix (K := K) rfl (rm1 hr)) (pv 2) (pv 5) (fun _ _ => rfl)) pe_int) (pg_sub (pv 2) (pv 7) (set_U (rm1 hr)))) (pss_one (ps_expr (pe_bm PySem.F.plainAttrs_list PySem.F.slot_list_append PySem.F.type_list_append mt_append (pv 4) (pa_cons (pv 7) pa_nil))))) pss_nil)))))) (pss_one (ps_set (i := 3) sc__law_exchanged.nd rfl (by first | exact Or.inl rfl | exact Or.inr rfl) (pv 4)))))) (pss_one (ps_ret (pv 2))))), fun q => ?_⟩)
  exact sim_seq (sim_setO (i := 2) free_nil (by decide) (sim_dispT (sim_varF (i := 1) rfl) sim_int)) (sim_seq (sim_setO (i := 3) free_nil (by decide) (sim_lst (siml_cons (sim_imm (sim_varF (i := 1) rfl)) siml_nil))) (sim_seq (sim_while (Γl := [.f, .f, .o, .f, .x, .x, .x, .x]) rfl (simt_test (sim_op so_gt (sim_call1 sc_lenA (sim_varF (i := 3) rfl)) sim_int)) (sim_seq (sim_setO (i := 4) free_nil (by decide) (sim_lst siml_nil)) (sim_seq (sim_for (Γl := [.f, .f, .o, .f, .o, .x, .x, .x]) (simi_seq (sim_varF (i := 3) rfl)) rfl rfl (simg_name (i := 5) free_nil (by decide) (by decide)) (sim_for (Γl := [.f, .f, .o, .f, .o, .f, .x, .x]) (simi_rng1 (sim_op so_sub (sim_call1 sc_lenA (sim_varF (i := 5) rfl)) sim_int)) rfl rfl (simg_name (i := 6) free_nil (by decide) (by decide)) (sim_seq (sim_setO (i := 7) free_nil (by decide) (sim_op so_add (sim_op so_add (sim_sl (sim_varF (i := 5) rfl) simo_no (simo_yes (sim_varF (i := 6) rfl))) (sim_tup (siml_cons (sim_imm (sim_part so_ix (sim_varF (i := 5) rfl) (sim_op so_add (sim_varF (i := 6) rfl) sim_int))) (siml_cons (sim_imm (sim_part so_ix (sim_varF (i := 5) rfl) (sim_varF (i := 6) rfl))) siml_nil)))) (sim_sl (sim_varF (i := 5) rfl) (simo_yes (sim_op so_add (sim_varF (i := 6) rfl) sim_int)) simo_no))) (sim_if (simt_and (simt_not (simt_B (sim_part so_ix (sim_part so_ix (sim_varF (i := 0) rfl) (sim_part so_ix (sim_varF (i := 5) rfl) (sim_varF (i := 6) rfl))) (sim_part so_ix (sim_varF (i := 5) rfl) (sim_op so_add (sim_varF (i := 6) rfl) sim_int))))) (simt_test (sim_op so_notIn (sim_varO (i := 7) rfl) (sim_varO (i := 2) rfl)))) (sim_seq (sim_put (i := 2) rfl (sim_op so_add (sim_part so_ix (sim_varO (i := 2) rfl) (sim_varF (i := 5) rfl)) sim_int) (sim_varO (i := 7) rfl)) (sim_app (i := 4) rfl (sim_imm (sim_varO (i := 7) rfl)))) sim_next)) rfl) rfl) (sim_setF (i := 3) (Γ1 := [.f, .f, .o, .f, .f, .x, .x, .x]) free_nil rfl rfl (by decide) (sim_varO (i := 4) rfl)))) rfl) (sim_retO (i := 2) rfl)))
/-! _law_mixed -/
theorem sc__law_mixed : FnScope ["dice", "near", "row", "turns", "here", "turn", "at"] ["dice", "near", "row", "turns"] (defScope s__law_mixed) := ⟨rfl, rfl, rfl, by decide +kernel, rfl, by decide +kernel, by decide +kernel⟩
theorem bn__law_mixed (T : Facts K mg) : Binds K T.fd__law_mixed ["dice", "near", "row", "turns"] [] := T.F__law_mixed.binds fun _ _ _ _ _ _ us hl => match us, hl with | [_, _, _, _], _ => rfl
theorem ok__law_mixed (T : Facts K mg) : FnOk P w K mg base CX0 2 T.f__law_mixed T.fd__law_mixed ["dice", "near", "row", "turns"] (SpM (S0 T) [true, false, false, false] m__law_mixed) := by
  refine fn_ok (N := ["dice", "near", "row", "turns", "here", "turn", "at"]) (body := b__law_mixed) (Γe := []) T.F__law_mixed sc__law_mixed rfl (by decide) (fun cdv A outer s H E hr => ⟨_, pss_cons (ps_set (i := 4) sc__law_mixed.nd rfl (by first | exact Or.inl rfl | exact Or.inr rfl) (pe_callTy (T := "list") (k_listA (K := K) rfl rfl) (by rfl) T.n_list (by decide +kernel) (pa_cons (pv 2) pa_nil))) (pss_cons (ps_for PassesOwn.never rfl (pi_range1 (by rfl) T.n_range (pa_cons (pe_ifExp (pt_cmpR op_gt (pe_callB (id := "len") (k_lenA (K := K) rfl) (by rfl) T.n_len (by decide +kernel) (pa_cons (pv 2) pa_nil)) pe_int (nomark _)) (pv 3) pe_int) pa_nil)) (pg_name (i := 5) sc__law_mixed.nd rfl (by first | exact Or.inl rfl | exact Or.inr rfl)) (pss_cons (ps_set (i := 6) sc__law_mixed.nd rfl (by first | exact Or.inl rfl | exact Or.inr rfl) (pe_call (ok__law_draw T) (hr.mono (by first | decide | omega)) (by rfl) T.m__law_draw T.F__law_draw.kp (bn__law_draw T) .nil pass0 (pa_cons (pv 0) (pa_cons (pe_op op_sub (pe_callB (id := "len") (k_lenA (K := K) rfl) (by rfl) T.n_len (by decide +kernel) (pa_cons (pv 4) pa_nil)) pe_int) pa_nil)))) (pss_one (ps_if (pt_not (pt_val (pe_ix (k_ix (K := K) rfl (rm1 hr)) (pe_ix (k_ix (K := K) rfl (rm1 hr)) (pv 1) (pe_ix (k_ix (K := K) rfl (rm1 hr)) (pv 4) (pv 6) (fun _ _ => rfl)) (fun _ _ => rfl)) (pe_ix (k_ix (K := K) rfl (rm1 hr)) (pv 4) (pe_op (k_add (K := K) rfl) (pv 6) pe_int) (fun _ _ => rfl)) (fun _ _ => rfl)))) (pss_one (ps_asg (pe_tup (pa_cons (pe_ix (k_ix (K := K) rfl (rm1 hr)) (pv 4) (pe_op (k_add (K := K) rfl) (pv 6) pe_int) (fun _ _ => rfl)) (pa_cons (pe_ix (k_ix (K := K) rfl (rm1 hr)) (pv 4) (pv 6) (fun _ _ => rfl)) pa_nil))) (pg_tup rfl (pgs_cons (pg_sub (pv 4) (pv 6) (set_U (rm1 hr))) (pgs_cons (pg_sub (pv 4) (pe_op (k_add (K := K) rfl) (pv 6) pe_int) (set_U (rm1 hr))) pgs_nil))))) pss_nil)))) (pss_one (ps_ret (pe_callTy (T := "tuple") (k_tuple (K := K) rfl) (by rfl) T.n_tuple (by decide +kernel) (pa_cons (pv 4) pa_nil))))), fun q => ?_⟩)
  exact sim_seq (sim_setO (i := 4) free_nil (by decide) (sim_call1 sc_listA (sim_varF (i := 2) rfl))) (sim_seq (sim_for (Γl := [.q, .f, .f, .f, .o, .x, .x]) (simi_rng1 (sim_if2 (simt_test (sim_op so_gt (sim_call1 sc_lenA (sim_varF (i := 2) rfl)) sim_int)) (sim_imm (sim_varF (i := 3) rfl)) sim_int)) rfl rfl (simg_name (i := 5) free_nil (by decide) (by decide)) (sim_seq (sim_setO (i := 6) free_nil (by decide) (sim_call rfl mo__law_draw (sima_dice (i := 0) rfl (sima_val (sim_op so_sub (sim_call1 sc_lenA (sim_varO (i := 4) rfl)) sim_int) sima_nil)))) (sim_if (simt_not (simt_B (sim_part so_ix (sim_part so_ix (sim_varF (i := 1) rfl) (sim_part so_ix (sim_varO (i := 4) rfl) (sim_varO (i := 6) rfl))) (sim_part so_ix (sim_varO (i := 4) rfl) (sim_op so_add (sim_varO (i := 6) rfl) sim_int))))) (sim_swap (i := 4) rfl (sim_tup (siml_cons (sim_imm (sim_part so_ix (sim_varO (i := 4) rfl) (sim_op so_add (sim_varO (i := 6) rfl) sim_int))) (siml_cons (sim_imm (sim_part so_ix (sim_varO (i := 4) rfl) (sim_varO (i := 6) rfl))) siml_nil))) (sim_varO (i := 6) rfl) (sim_op so_add (sim_varO (i := 6) rfl) sim_int)) sim_next)) rfl) (sim_ret (sim_call1 sc_tup (sim_varO (i := 4) rfl))))
/-! _law_changed -/
theorem sc__law_changed : FnScope ["dice", "near", "row", "here", "kind", "at"] ["dice", "near", "row"] (defScope s__law_changed) := ⟨rfl, rfl, rfl, by decide +kernel, rfl, by decide +kernel, by decide +kernel⟩
theorem bn__law_changed (T : Facts K mg) : Binds K T.fd__law_changed ["dice", "near", "row"] [] := T.F__law_changed.binds fun _ _ _ _ _ _ us hl => match us, hl with | [_, _, _], _ => rfl
theorem ok__law_changed (T : Facts K mg) : FnOk P w K mg base CX0 3 T.f__law_changed T.fd__law_changed ["dice", "near", "row"] (SpM (S0 T) [true, false, false] m__law_changed) := by
  refine fn_ok (N := ["dice", "near", "row", "here", "kind", "at"]) (body := b__law_changed) (Γe := []) T.F__law_changed sc__law_changed rfl (by decide) (fun cdv A outer s H E hr => ⟨_, pss_cons (ps_set (i := 3) sc__law_changed.nd rfl (by first | exact Or.inl rfl | exact Or.inr rfl) (pe_callTy (T := "list") (k_listA (K := K) rfl rfl) (by rfl) T.n_list (by decide +kernel) (pa_cons (pe_call (ok__law_mixed T) (hr.mono (by first | decide | omega)) (by rfl) T.m__law_mixed T.F__law_mixed.kp (bn__law_mixed T) .nil pass0 (pa_cons (pv 0) (pa_cons (pv 1) (pa_cons (pv 2) (pa_cons pe_int pa_nil))))) pa_nil))) (pss_cons (ps_set (i := 4) sc__law_changed.nd rfl (by first | exact Or.inl rfl | exact Or.inr rfl) (pe_call (ok__law_draw T) (hr.mono (by first | decide | omega)) (by rfl) T.m__law_draw T.F__law_draw.kp (bn__law_draw T) .nil pass0 (pa_cons (pv 0) (pa_cons pe_int pa_nil)))) (pss_cons (ps_set (i := 5) sc__law_changed.nd rfl (by first | exact Or.inl rfl | exact Or.inr rfl) (pe_call (ok__law_draw T) (hr.mono (by first | decide | omega)) (by rfl) T.m__law_draw T.F__law_draw.kp (bn__law_draw T) .nil pass0 (pa_cons (pv 0) (pa_cons (pe_op (k_add (K := K) rfl) (pe_callB (id := "len") (k_lenA (K := K) rfl) (by rfl) T.n_len (by decide +kernel) (pa_cons (pv 3) pa_nil)) pe_int) pa_nil)))) (pss_cons (ps_if (pt_cmpR (k_eq (K := K) rfl (rm64 hr)) (pv 4) pe_int (nomark _)) (pss_one (ps_expr (pe_bm PySem.F.plainAttrs_list PySem.F.slot_list_insert PySem.F.type_list_insert mt_ins (pv 3) (pa_cons (pv 5) (pa_cons (pe_call (ok__law_draw T) (hr.mono (by first | decide | omega)) (by rfl) T.m__law_draw T.F__law_draw.kp (bn__law_draw T) .nil pass0 (pa_cons (pv 0) (pa_cons (pe_callB (id := "len") (k_lenA (K := K) rfl) (by rfl) T.n_len (by decide +kernel) (pa_cons (pv 1) pa_nil)) pa_nil))) pa_nil))))) pss_nil) (pss_cons (ps_if (PW.pt (pw_and (pt_cmpR (k_eq (K := K) rfl (rm64 hr)) (pv 4) pe_int (nomark _)) (pw_and1 (pt_cmpR op_lt (pv 5) (pe_callB (id := "len") (k_lenA (K := K) rfl) (by rfl) T.n_len (by decide +kernel) (pa_cons (pv 3) pa_nil)) (nomark _))))) (pss_one (ps_expr (pe_bm PySem.F.plainAttrs_list PySem.F.slot_list_pop PySem.F.type_list_pop mt_popAt (pv 3) (pa_cons (pv 5) pa_nil)))) pss_nil) (pss_cons (ps_if (PW.pt (pw_and (pt_cmpR (k_eq (K := K) rfl (rm64 hr)) (pv 4) pe_int (nomark _)) (pw_and1 (pt_cmpR op_lt (pv 5) (pe_callB (id := "len") (k_lenA (K := K) rfl) (by rfl) T.n_len (by decide +kernel) (pa_cons (pv 3) pa_nil)) (nomark _))))) (pss_one (ps_asg (pe_call (ok__law_draw T) (hr.mono (by first | decide | omega)) (by rfl) T.m__law_draw T.F__law_draw.kp (bn__law_draw T) .nil pass0 (pa_cons (pv 0) (pa_cons (pe_callB (id := "len") (k_lenA (K := K) rfl) (by rfl) T.n_len (by decide +kernel) (pa_cons (pv 1) pa_nil)) pa_nil))) (pg_sub (pv 3) (pv 5) (set_U (rm1 hr))))) pss_nil) (pss_cons (ps_if (PW.pt (pw_and (pt_cmpR (k_eq (K := K) rfl (rm64 hr)) (pv 4) pe_int (nomark _)) (pw_and1 (pt_cmpR op_lt (pe_op (k_add (K := K) rfl) (pv 5) pe_int) (pe_callB (id := "len") (k_lenA (K := K) rfl) (by rfl) T.n_len (by decide +kernel) (pa_cons (pv 3) pa_nil)) (nomark _))))) (pss_one (ps_asg (pe_tup (pa_cons (pe_ix (k_ix (K := K) rfl (rm1 hr)) (pv 3) (pe_op (k_add (K := K) rfl) (pv 5) pe_int) (fun _ _ => rfl)) (pa_cons (pe_ix (k_ix (K := K) rfl (rm1 hr)) (pv 3) (pv 5) (fun _ _ => rfl)) pa_nil))) (pg_tup rfl (pgs_cons (pg_sub (pv 3) (pv 5) (set_U (rm1 hr))) (pgs_cons (pg_sub (pv 3) (pe_op (k_add (K := K) rfl) (pv 5) pe_int) (set_U (rm1 hr))) pgs_nil))))) pss_nil) (pss_one (ps_ret (pe_callTy (T := "tuple") (k_tuple (K := K) rfl) (by rfl) T.n_tuple (by decide +kernel) (pa_cons (pv 3) pa_nil)))))))))), fun q => ?_⟩)
  exact sim_seq (sim_setO (i := 3) free_nil (by decide) (sim_call1 sc_listA (sim_call rfl mo__law_mixed (sima_dice (i := 0) rfl (sima_val (sim_varF (i := 1) rfl) (sima_val (sim_varF (i := 2) rfl) (sima_val sim_int sima_nil))))))) (sim_seq (sim_setO (i := 4) free_nil (by decide) (sim_call rfl mo__law_draw (sima_dice (i := 0) rfl (sima_val sim_int sima_nil)))) (sim_seq (sim_setO (i := 5) free_nil (by decide) (sim_call rfl mo__law_draw (sima_dice (i := 0) rfl (sima_val (sim_op so_add (sim_call1 sc_lenA (sim_varO (i := 3) rfl)) sim_int) sima_nil)))) (sim_seq (sim_if (simt_test (sim_op so_eq (sim_varO (i := 4) rfl) sim_int)) (sim_lm (i := 3) lo_ins rfl (siml_cons (sim_imm (sim_varO (i := 5) rfl)) (siml_cons (sim_call rfl mo__law_draw (sima_dice (i := 0) rfl (sima_val (sim_call1 sc_lenA (sim_varF (i := 1) rfl)) sima_nil))) siml_nil))) sim_next) (sim_seq (sim_if (simt_and (simt_test (sim_op so_eq (sim_varO (i := 4) rfl) sim_int)) (simt_test (sim_op so_lt (sim_varO (i := 5) rfl) (sim_call1 sc_lenA (sim_varO (i := 3) rfl))))) (sim_lm (i := 3) lo_popAt rfl (siml_cons (sim_imm (sim_varO (i := 5) rfl)) siml_nil)) sim_next) (sim_seq (sim_if (simt_and (simt_test (sim_op so_eq (sim_varO (i := 4) rfl) sim_int)) (simt_test (sim_op so_lt (sim_varO (i := 5) rfl) (sim_call1 sc_lenA (sim_varO (i := 3) rfl))))) (sim_put (i := 3) rfl (sim_call rfl mo__law_draw (sima_dice (i := 0) rfl (sima_val (sim_call1 sc_lenA (sim_varF (i := 1) rfl)) sima_nil))) (sim_varO (i := 5) rfl)) sim_next) (sim_seq (sim_if (simt_and (simt_test (sim_op so_eq (sim_varO (i := 4) rfl) sim_int)) (simt_test (sim_op so_lt (sim_op so_add (sim_varO (i := 5) rfl) sim_int) (sim_call1 sc_lenA (sim_varO (i := 3) rfl))))) (sim_swap (i := 3) rfl (sim_tup (siml_cons (sim_imm (sim_part so_ix (sim_varO (i := 3) rfl) (sim_op so_add (sim_varO (i := 5) rfl) sim_int))) (siml_cons (sim_imm (sim_part so_ix (sim_varO (i := 3) rfl) (sim_varO (i := 5) rfl))) siml_nil))) (sim_varO (i := 5) rfl) (sim_op so_add (sim_varO (i := 5) rfl) sim_int)) sim_next) (sim_ret (sim_call1 sc_tup (sim_varO (i := 3) rfl)))))))))
/-! _law_free_at -/
theorem sc__law_free_at : FnScope ["near", "row", "work", "at"] ["near", "row", "work"] (defScope s__law_free_at) := ⟨rfl, rfl, rfl, by decide +kernel, rfl, by decide +kernel, by decide +kernel⟩
theorem bn__law_free_at (T : Facts K mg) : Binds K T.fd__law_free_at ["near", "row", "work"] [] := T.F__law_free_at.binds fun _ _ _ _ _ _ us hl => match us, hl with | [_, _, _], _ => rfl
theorem ok__law_free_at (T : Facts K mg) : FnOk P w K mg base CX0 1 T.f__law_free_at T.fd__law_free_at ["near", "row", "work"] (SpM (S0 T) [false, false, false] m__law_free_at) := by
  refine fn_ok (N := ["near", "row", "work", "at"]) (body := b__law_free_at) (Γe := []) T.F__law_free_at sc__law_free_at rfl (by decide) (fun cdv A outer s H E hr => ⟨_, pss_cons (ps_for PassesOwn.never rfl (pi_range1 (by rfl) T.n_range (pa_cons (pe_callB (id := "len") (k_lenA (K := K) rfl) (by rfl) T.n_len (by decide +kernel) (pa_cons (pv 1) pa_nil)) pa_nil)) (pg_name (i := 3) sc__law_free_at.nd rfl (by first | exact Or.inl rfl | exact Or.inr rfl)) (pss_cons (ps_if (pt_cmpR (k_eq (K := K) rfl (rm64 hr)) (pe_ix (k_ix (K := K) rfl (rm1 hr)) (pv 1) (pv 3) (fun _ _ => rfl)) (pv 2) (nomark _)) (pss_one (ps_ret (pv 3))) pss_nil) (pss_one (ps_if (pt_val (pe_ix (k_ix (K := K) rfl (rm1 hr)) (pe_ix (k_ix (K := K) rfl (rm1 hr)) (pv 0) (pe_ix (k_ix (K := K) rfl (rm1 hr)) (pv 1) (pv 3) (fun _ _ => rfl)) (fun _ _ => rfl)) (pv 2) (fun _ _ => rfl))) (pss_one (ps_ret pe_non)) pss_nil)))) (pss_one (ps_ret pe_non)), fun q => ?_⟩)
  exact sim_seq (sim_for (Γl := [.f, .f, .f, .x]) (simi_rng1 (sim_call1 sc_lenA (sim_varF (i := 1) rfl))) rfl rfl (simg_name (i := 3) free_nil (by decide) (by decide)) (sim_seq (sim_if (simt_test (sim_op so_eq (sim_part so_ix (sim_varF (i := 1) rfl) (sim_varF (i := 3) rfl)) (sim_varF (i := 2) rfl))) (sim_ret (sim_imm (sim_varF (i := 3) rfl))) sim_next) (sim_if (simt_B (sim_part so_ix (sim_part so_ix (sim_varF (i := 0) rfl) (sim_part so_ix (sim_varF (i := 1) rfl) (sim_varF (i := 3) rfl))) (sim_varF (i := 2) rfl))) (sim_ret sim_non) sim_next)) rfl) (sim_ret sim_non)
/-! _law_least -/
theorem sc__law_least : FnScope ["near", "row", "left", "found", "turn", "work", "at"] ["near", "row"] (defScope s__law_least) := ⟨rfl, rfl, rfl, by decide +kernel, rfl, by decide +kernel, by decide +kernel⟩
theorem bn__law_least (T : Facts K mg) : Binds K T.fd__law_least ["near", "row"] [] := T.F__law_least.binds fun _ _ _ _ _ _ us hl => match us, hl with | [_, _], _ => rfl
theorem ok__law_least (T : Facts K mg) : FnOk P w K mg base CX0 2 T.f__law_least T.fd__law_least ["near", "row"] (SpM (S0 T) [false, false] m__law_least) := by
  refine fn_ok (N := ["near", "row", "left", "found", "turn", "work", "at"]) (body := b__law_least) (Γe := []) T.F__law_least sc__law_least rfl (by decide) (fun cdv A outer s H E hr => ⟨_, pss_cons (ps_set (i := 2) sc__law_least.nd rfl (by first | exact Or.inl rfl | exact Or.inr rfl) (pe_callTy (T := "list") (k_listA (K := K) rfl rfl) (by rfl) T.n_list (by decide +kernel) (pa_cons (pv 1) pa_nil))) (pss_cons (ps_set (i := 3) sc__law_least.nd rfl (by first | exact Or.inl rfl | exact Or.inr rfl) (pe_lst pa_nil)) (pss_cons (ps_for PassesOwn.never rfl (pi_range1 (by rfl) T.n_range (pa_cons (pe_callB (id := "len") (k_lenA (K := K) rfl) (by rfl) T.n_len (by decide +kernel) (pa_cons (pv 1) pa_nil)) pa_nil)) (pg_name (i := 4) sc__law_least.nd rfl (by first | exact Or.inl rfl | exact Or.inr rfl)) (pss_one (ps_for PassesOwn.never rfl (k_seq (K := K) rfl (pe_callB (id := "sorted") (k_sortedSet (w := w) rfl rfl) (by rfl) T.n_sorted (by decide +kernel) (pa_cons (pe_callTy (T := "set") (k_setOfI (K := K) (w := w) rfl rfl rfl) (by rfl) T.n_set (by decide +kernel) (pa_cons (pv 2) pa_nil)) pa_nil))) (pg_name (i := 5) sc__law_least.nd rfl (by first | exact Or.inl rfl | exact Or.inr rfl)) (pss_cons (ps_set (i := 6) sc__law_least.nd rfl (by first | exact Or.inl rfl | exact Or.inr rfl) (pe_call (ok__law_free_at T) (hr.mono (by first | decide | omega)) (by rfl) T.m__law_free_at T.F__law_free_at.kp (bn__law_free_at T) .nil pass0 (pa_cons (pv 0) (pa_cons (pv 2) (pa_cons (pv 5) pa_nil))))) (pss_one (ps_if (pt_cmpR op_notN (pv 6) pe_non (nomark _)) (pss_cons (ps_expr (pe_bm PySem.F.plainAttrs_list PySem.F.slot_list_append PySem.F.type_list_append mt_append (pv 3) (pa_cons (pe_bm PySem.F.plainAttrs_list PySem.F.slot_list_pop PySem.F.type_list_pop mt_popAt (pv 2) (pa_cons (pv 6) pa_nil)) pa_nil))) (pss_one ps_break)) pss_nil)))))) (pss_one (ps_ret (pe_callTy (T := "tuple") (k_tuple (K := K) rfl) (by rfl) T.n_tuple (by decide +kernel) (pa_cons (pv 3) pa_nil)))))), fun q => ?_⟩)
  exact sim_seq (sim_setO (i := 2) free_nil (by decide) (sim_call1 sc_listA (sim_varF (i := 1) rfl))) (sim_seq (sim_setO (i := 3) free_nil (by decide) (sim_lst siml_nil)) (sim_seq (sim_for (Γl := [.f, .f, .o, .o, .x, .x, .x]) (simi_rng1 (sim_call1 sc_lenA (sim_varF (i := 1) rfl))) rfl rfl (simg_name (i := 4) free_nil (by decide) (by decide)) (sim_for (Γl := [.f, .f, .o, .o, .f, .x, .x]) (simi_seq (sim_sortSet (sim_varO (i := 2) rfl))) rfl rfl (simg_name (i := 5) free_nil (by decide) (by decide)) (sim_seq (sim_setO (i := 6) free_nil (by decide) (sim_call rfl mo__law_free_at (sima_val (sim_varF (i := 0) rfl) (sima_val (sim_varO (i := 2) rfl) (sima_val (sim_varF (i := 5) rfl) sima_nil))))) (sim_if (simt_test (sim_op so_notN (sim_varO (i := 6) rfl) sim_non)) (sim_seq (sim_appE (j := 3) rfl (sim_pop (i := 2) rfl (sim_varO (i := 6) rfl))) (sim_break rfl)) sim_next)) rfl) rfl) (sim_ret (sim_call1 sc_tup (sim_varO (i := 3) rfl)))))
/-! law -/
theorem sc_law : FnScope ["script", "dice", "turn", "parts", "office", "near", "row", "known", "shown", "change", "other", "at"] ["script"] (defScope s_law) := ⟨rfl, rfl, rfl, by decide +kernel, rfl, by decide +kernel, by decide +kernel⟩
theorem ok_law (T : Facts K mg) (hp : b_law_k06 lawEnds (List.replicate 12 none)) : FnOk P w K mg base CX0 10 T.f_law T.fd_law ["script"] (spLaw K) := by
  refine law_ok (N := ["script", "dice", "turn", "parts", "office", "near", "row", "known", "shown", "change", "other", "at"]) (n := 10) (b := b_law_k06) (S := S0 T) (Γe := []) T.F_law sc_law rfl rfl (fun cdv A outer s H E hr => ⟨_, pss_cons (ps_set (i := 1) sc_law.nd rfl (by first | exact Or.inl rfl | exact Or.inr rfl) (pe_call (ok__law_dice T) (hr.mono (by decide)) (by rfl) T.m__law_dice T.F__law_dice.kp (bn__law_dice T) .nil pass0 (pa_cons (pv 0) pa_nil))) (pss_cons (ps_for PassesOwn.never rfl (pi_range1 (by rfl) T.n_range (pa_cons pe_int pa_nil)) (pg_name (i := 2) sc_law.nd rfl (by first | exact Or.inl rfl | exact Or.inr rfl)) (pss_cons (ps_set (i := 3) sc_law.nd rfl (by first | exact Or.inl rfl | exact Or.inr rfl) (pe_call (ok__law_some_parts T) (hr.mono (by first | decide | omega)) (by rfl) T.m__law_some_parts T.F__law_some_parts.kp (bn__law_some_parts T) .nil pass0 (pa_cons (pv 1) pa_nil))) (pss_cons (ps_set (i := 4) sc_law.nd rfl (by first | exact Or.inl rfl | exact Or.inr rfl) (pe_call (ok__law_made T) (hr.mono (by first | decide | omega)) (by rfl) T.m__law_made T.F__law_made.kp (bn__law_made T) .nil pass0 (pa_cons (pv 3) pa_nil))) (pss_cons (ps_set (i := 5) sc_law.nd rfl (by first | exact Or.inl rfl | exact Or.inr rfl) (pe_call (ok__law_near T) (hr.mono (by first | decide | omega)) (by rfl) T.m__law_near T.F__law_near.kp (bn__law_near T) .nil pass0 (pa_cons (pv 3) pa_nil))) (pss_cons (ps_set (i := 6) sc_law.nd rfl (by first | exact Or.inl rfl | exact Or.inr rfl) (pe_call (ok__law_row T) (hr.mono (by first | decide | omega)) (by rfl) T.m__law_row T.F__law_row.kp (bn__law_row T) .nil pass0 (pa_cons (pv 1) (pa_cons (pv 3) (pa_cons (pe_ifExp (pt_cmpR (k_eq (K := K) rfl (rm64 hr)) (pv 2) pe_int (nomark _)) pe_int pe_int) pa_nil))))) (pss_cons (ps_set (i := 7) sc_law.nd rfl (by first | exact Or.inl rfl | exact Or.inr rfl) (pe_call (ok__law_exchanged T) (hr.mono (by first | decide | omega)) (by rfl) T.m__law_exchanged T.F__law_exchanged.kp (bn__law_exchanged T) .nil pass0 (pa_cons (pv 5) (pa_cons (pv 6) pa_nil)))) (pss_cons (ps_set (i := 8) sc_law.nd rfl (by first | exact Or.inl rfl | exact Or.inr rfl) (pe_call (ok_least_row T) (hr.mono (by first | decide | omega)) (by rfl) T.m_least_row T.F_least_row.kp (bn_least_row T) .nil pass0 (pa_cons (pv 4) (pa_cons (pv 6) pa_nil)))) (pss_cons (ps_if (PW.pt (pw_or (pt_not (pt_val (pe_call (ok__law_same T) (hr.mono (by first | decide | omega)) (by rfl) T.m__law_same T.F__law_same.kp (bn__law_same T) .nil pass0 (pa_cons (pv 8) (pa_cons (pe_callB (id := "min") (k_minT (K := K) rfl rfl (rm65 hr)) (by rfl) T.n_min (by decide +kernel) (pa_cons (pe_callTy (T := "list") (k_listA (K := K) rfl rfl) (by rfl) T.n_list (by decide +kernel) (pa_cons (pv 7) pa_nil)) pa_nil)) pa_nil))))) (pw_or1 (pt_cmpR (k_ne (K := K) rfl (rm64 hr)) (pe_call (ok__law_least T) (hr.mono (by first | decide | omega)) (by rfl) T.m__law_least T.F__law_least.kp (bn__law_least T) .nil pass0 (pa_cons (pv 5) (pa_cons (pv 6) pa_nil))) (pv 8) (nomark _))))) (pss_one (ps_ret pe_bl)) pss_nil) (pss_cons (ps_if (pt_cmpR (k_ne (K := K) rfl (rm64 hr)) (pe_call (ok_least_row T) (hr.mono (by first | decide | omega)) (by rfl) T.m_least_row T.F_least_row.kp (bn_least_row T) .nil pass0 (pa_cons (pv 4) (pa_cons (pv 8) pa_nil))) (pv 8) (nomark _)) (pss_one (ps_ret pe_bl)) pss_nil) (pss_cons (ps_for PassesOwn.never rfl (pi_range1 (by rfl) T.n_range (pa_cons pe_int pa_nil)) (pg_name (i := 9) sc_law.nd rfl (by first | exact Or.inl rfl | exact Or.inr rfl)) (pss_cons (ps_set (i := 10) sc_law.nd rfl (by first | exact Or.inl rfl | exact Or.inr rfl) (pe_call (ok__law_changed T) (hr.mono (by first | decide | omega)) (by rfl) T.m__law_changed T.F__law_changed.kp (bn__law_changed T) .nil pass0 (pa_cons (pv 1) (pa_cons (pv 5) (pa_cons (pv 6) pa_nil))))) (pss_one (ps_if (pt_cmpR (k_ne (K := K) rfl (rm64 hr)) (pe_cmpR (k_eq (K := K) rfl (rm64 hr)) (pe_call (ok_least_row T) (hr.mono (by first | decide | omega)) (by rfl) T.m_least_row T.F_least_row.kp (bn_least_row T) .nil pass0 (pa_cons (pv 4) (pa_cons (pv 10) pa_nil))) (pv 8) (nomark _)) (pe_cmpR (k_in (K := K) rfl (rm65 hr)) (pv 10) (pv 7) (by rfl)) (nomark _)) (pss_one (ps_ret pe_bl)) pss_nil)))) (pss_cons (ps_set (i := 6) sc_law.nd rfl (by first | exact Or.inl rfl | exact Or.inr rfl) (pe_call (ok__law_row T) (hr.mono (by first | decide | omega)) (by rfl) T.m__law_row T.F__law_row.kp (bn__law_row T) .nil pass0 (pa_cons (pv 1) (pa_cons (pv 3) (pa_cons pe_int pa_nil))))) (pss_cons (ps_set (i := 8) sc_law.nd rfl (by first | exact Or.inl rfl | exact Or.inr rfl) (pe_call (ok_least_row T) (hr.mono (by first | decide | omega)) (by rfl) T.m_least_row T.F_least_row.kp (bn_least_row T) .nil pass0 (pa_cons (pv 4) (pa_cons (pv 6) pa_nil)))) (pss_cons (ps_if (PW.pt (pw_or (pt_not (pt_val (pe_call (ok__law_same T) (hr.mono (by first | decide | omega)) (by rfl) T.m__law_same T.F__law_same.kp (bn__law_same T) .nil pass0 (pa_cons (pv 8) (pa_cons (pe_call (ok__law_least T) (hr.mono (by first | decide | omega)) (by rfl) T.m__law_least T.F__law_least.kp (bn__law_least T) .nil pass0 (pa_cons (pv 5) (pa_cons (pv 6) pa_nil))) pa_nil))))) (pw_or1 (pt_cmpR (k_ne (K := K) rfl (rm64 hr)) (pe_call (ok_least_row T) (hr.mono (by first | decide | omega)) (by rfl) T.m_least_row T.F_least_row.kp (bn_least_row T) .nil pass0 (pa_cons (pv 4) (pa_cons (pe_call (ok__law_mixed T) (hr.mono (by first | decide | omega)) (by rfl) T.m__law_mixed T.F__law_mixed.kp (bn__law_mixed T) .nil pass0 (pa_cons (pv 1) (pa_cons (pv 5) (pa_cons (pv 6) (pa_cons pe_int pa_nil))))) pa_nil))) (pv 8) (nomark _))))) (pss_one (ps_ret pe_bl)) pss_nil) (pss_cons (ps_set (i := 11) sc_law.nd rfl (by first | exact Or.inl rfl | exact Or.inr rfl) (pe_call (ok__law_draw T) (hr.mono (by first | decide | omega)) (by rfl) T.m__law_draw T.F__law_draw.kp (bn__law_draw T) .nil pass0 (pa_cons (pv 1) (pa_cons (pe_op (k_add (K := K) rfl) (pe_callB (id := "len") (k_lenA (K := K) rfl) (by rfl) T.n_len (by decide +kernel) (pa_cons (pv 8) pa_nil)) pe_int) pa_nil)))) (pss_one (ps_if (PW.pt (pw_or (pt_cmpR (k_ne (K := K) rfl (rm64 hr)) (pe_call (ok_least_row T) (hr.mono (by first | decide | omega)) (by rfl) T.m_least_row T.F_least_row.kp (bn_least_row T) .nil pass0 (pa_cons (pv 4) (pa_cons (pe_slice (k_sl (K := K) rfl) (pv 8) po_none (po_some (pv 11))) pa_nil))) (pe_slice (k_sl (K := K) rfl) (pv 8) po_none (po_some (pv 11))) (nomark _)) (pw_or1 (pt_cmpR (k_ne (K := K) rfl (rm64 hr)) (pe_call (ok_least_row T) (hr.mono (by first | decide | omega)) (by rfl) T.m_least_row T.F_least_row.kp (bn_least_row T) .nil pass0 (pa_cons (pv 4) (pa_cons (pe_slice (k_sl (K := K) rfl) (pv 8) (po_some (pv 11)) po_none) pa_nil))) (pe_slice (k_sl (K := K) rfl) (pv 8) (po_some (pv 11)) po_none) (nomark _))))) (pss_one (ps_ret pe_bl)) pss_nil)))))))))))))))) (pss_one (ps_ret pe_bl))), fun q => ?_⟩) hp
  exact sim_seq (sim_for (Γl := [.x, .q, .x, .x, .x, .x, .x, .x, .x, .x, .x, .x]) (simi_rng1 sim_int) rfl rfl (simg_name (i := 2) free_nil (by decide) (by decide)) (sim_seq (sim_setO (i := 3) free_nil (by decide) (sim_call rfl mo__law_some_parts (sima_dice (i := 1) rfl sima_nil))) (sim_seq (sim_setO (i := 4) free_nil (by decide) (sim_call rfl mo__law_made (sima_val (sim_varO (i := 3) rfl) sima_nil))) (sim_seq (sim_setO (i := 5) free_nil (by decide) (sim_call rfl mo__law_near (sima_val (sim_varO (i := 3) rfl) sima_nil))) (sim_seq (sim_setO (i := 6) free_nil (by decide) (sim_call rfl mo__law_row (sima_dice (i := 1) rfl (sima_val (sim_varO (i := 3) rfl) (sima_val (sim_if2 (simt_test (sim_op so_eq (sim_varF (i := 2) rfl) sim_int)) sim_int sim_int) sima_nil))))) (sim_seq (sim_setO (i := 7) free_nil (by decide) (sim_call rfl mo__law_exchanged (sima_val (sim_varO (i := 5) rfl) (sima_val (sim_varO (i := 6) rfl) sima_nil)))) (sim_seq (sim_setO (i := 8) free_nil (by decide) (sim_call rfl mo_least_row (sima_val (sim_varO (i := 4) rfl) (sima_val (sim_varO (i := 6) rfl) sima_nil)))) (sim_seq (sim_if (simt_or (simt_not (simt_B (sim_call rfl mo__law_same (sima_val (sim_varO (i := 8) rfl) (sima_val (sim_call1 sc_minT (sim_call1 sc_listA (sim_varO (i := 7) rfl))) sima_nil))))) (simt_test (sim_op so_ne (sim_call rfl mo__law_least (sima_val (sim_varO (i := 5) rfl) (sima_val (sim_varO (i := 6) rfl) sima_nil))) (sim_varO (i := 8) rfl)))) (sim_ret sim_bl) sim_next) (sim_seq (sim_if (simt_test (sim_op so_ne (sim_call rfl mo_least_row (sima_val (sim_varO (i := 4) rfl) (sima_val (sim_varO (i := 8) rfl) sima_nil))) (sim_varO (i := 8) rfl))) (sim_ret sim_bl) sim_next) (sim_seq (sim_for (Γl := [.x, .q, .f, .o, .o, .o, .o, .o, .o, .x, .x, .x]) (simi_rng1 sim_int) rfl rfl (simg_name (i := 9) free_nil (by decide) (by decide)) (sim_seq (sim_setO (i := 10) free_nil (by decide) (sim_call rfl mo__law_changed (sima_dice (i := 1) rfl (sima_val (sim_varO (i := 5) rfl) (sima_val (sim_varO (i := 6) rfl) sima_nil))))) (sim_if (simt_test (sim_op so_ne (sim_op so_eq (sim_call rfl mo_least_row (sima_val (sim_varO (i := 4) rfl) (sima_val (sim_varO (i := 10) rfl) sima_nil))) (sim_varO (i := 8) rfl)) (sim_op so_in (sim_varO (i := 10) rfl) (sim_varO (i := 7) rfl)))) (sim_ret sim_bl) sim_next)) rfl) (sim_seq (sim_setO (i := 6) free_nil (by decide) (sim_call rfl mo__law_row (sima_dice (i := 1) rfl (sima_val (sim_varO (i := 3) rfl) (sima_val sim_int sima_nil))))) (sim_seq (sim_setO (i := 8) free_nil (by decide) (sim_call rfl mo_least_row (sima_val (sim_varO (i := 4) rfl) (sima_val (sim_varO (i := 6) rfl) sima_nil)))) (sim_seq (sim_if (simt_or (simt_not (simt_B (sim_call rfl mo__law_same (sima_val (sim_varO (i := 8) rfl) (sima_val (sim_call rfl mo__law_least (sima_val (sim_varO (i := 5) rfl) (sima_val (sim_varO (i := 6) rfl) sima_nil))) sima_nil))))) (simt_test (sim_op so_ne (sim_call rfl mo_least_row (sima_val (sim_varO (i := 4) rfl) (sima_val (sim_call rfl mo__law_mixed (sima_dice (i := 1) rfl (sima_val (sim_varO (i := 5) rfl) (sima_val (sim_varO (i := 6) rfl) (sima_val sim_int sima_nil))))) sima_nil))) (sim_varO (i := 8) rfl)))) (sim_ret sim_bl) sim_next) (sim_seq (sim_setO (i := 11) free_nil (by decide) (sim_call rfl mo__law_draw (sima_dice (i := 1) rfl (sima_val (sim_op so_add (sim_call1 sc_lenA (sim_varO (i := 8) rfl)) sim_int) sima_nil)))) (sim_if (simt_or (simt_test (sim_op so_ne (sim_call rfl mo_least_row (sima_val (sim_varO (i := 4) rfl) (sima_val (sim_sl (sim_varO (i := 8) rfl) simo_no (simo_yes (sim_varO (i := 11) rfl))) sima_nil))) (sim_sl (sim_varO (i := 8) rfl) simo_no (simo_yes (sim_varO (i := 11) rfl))))) (simt_test (sim_op so_ne (sim_call rfl mo_least_row (sima_val (sim_varO (i := 4) rfl) (sima_val (sim_sl (sim_varO (i := 8) rfl) (simo_yes (sim_varO (i := 11) rfl)) simo_no) sima_nil))) (sim_sl (sim_varO (i := 8) rfl) (simo_yes (sim_varO (i := 11) rfl)) simo_no)))) (sim_ret sim_bl) sim_next)))))))))))))) rfl) (sim_ret sim_bl)
end
/-! the end -/
theorem all_mk {l : PySem.W.OpenLaw} {w : World} {K : PySem.W.Frag} {h : Heap} {mg : Str → Option Value} {fa f_is_integer f_is_number f_is_below f_is_lot f_are_works f_check_row f_are_office_works f_all_logs f_first_ready f_done_by_teams f_done_by_logs f_least_row f__law_dice f__law_draw f__law_parts f__law_made f__law_some_parts f__law_row f__law_meets f__law_whole f__law_same f__law_near f__law_exchanged f__law_mixed f__law_changed f__law_free_at f__law_least f_law C_Office f_Office_init : Addr}
    {od_is_integer an_is_integer : Option Addr} {sl_is_integer : Array (Option Value)} {oc_is_integer kV_is_integer dc_is_integer pm_is_integer cd_is_integer ct_is_integer : Value}
    {od_is_number an_is_number : Option Addr} {sl_is_number : Array (Option Value)} {oc_is_number kV_is_number dc_is_number pm_is_number cd_is_number ct_is_number : Value}
    {od_is_below an_is_below : Option Addr} {sl_is_below : Array (Option Value)} {oc_is_below kV_is_below dc_is_below pm_is_below cd_is_below ct_is_below : Value}
    {od_is_lot an_is_lot : Option Addr} {sl_is_lot : Array (Option Value)} {oc_is_lot kV_is_lot dc_is_lot pm_is_lot cd_is_lot ct_is_lot : Value}
    {od_are_works an_are_works : Option Addr} {sl_are_works : Array (Option Value)} {oc_are_works kV_are_works dc_are_works pm_are_works cd_are_works ct_are_works : Value}
    {od_check_row an_check_row : Option Addr} {sl_check_row : Array (Option Value)} {oc_check_row kV_check_row dc_check_row pm_check_row cd_check_row ct_check_row : Value}
    {od_are_office_works an_are_office_works : Option Addr} {sl_are_office_works : Array (Option Value)} {oc_are_office_works kV_are_office_works dc_are_office_works pm_are_office_works cd_are_office_works ct_are_office_works : Value}
    {od_all_logs an_all_logs : Option Addr} {sl_all_logs : Array (Option Value)} {oc_all_logs kV_all_logs dc_all_logs pm_all_logs cd_all_logs ct_all_logs : Value}
    {od_first_ready an_first_ready : Option Addr} {sl_first_ready : Array (Option Value)} {oc_first_ready kV_first_ready dc_first_ready pm_first_ready cd_first_ready ct_first_ready : Value}
    {od_done_by_teams an_done_by_teams : Option Addr} {sl_done_by_teams : Array (Option Value)} {oc_done_by_teams kV_done_by_teams dc_done_by_teams pm_done_by_teams cd_done_by_teams ct_done_by_teams : Value}
    {od_done_by_logs an_done_by_logs : Option Addr} {sl_done_by_logs : Array (Option Value)} {oc_done_by_logs kV_done_by_logs dc_done_by_logs pm_done_by_logs cd_done_by_logs ct_done_by_logs : Value}
    {od_least_row an_least_row : Option Addr} {sl_least_row : Array (Option Value)} {oc_least_row kV_least_row dc_least_row pm_least_row cd_least_row ct_least_row : Value}
    {od__law_dice an__law_dice : Option Addr} {sl__law_dice : Array (Option Value)} {oc__law_dice kV__law_dice dc__law_dice pm__law_dice cd__law_dice ct__law_dice : Value}
    {od__law_draw an__law_draw : Option Addr} {sl__law_draw : Array (Option Value)} {oc__law_draw kV__law_draw dc__law_draw pm__law_draw cd__law_draw ct__law_draw : Value}
    {od__law_parts an__law_parts : Option Addr} {sl__law_parts : Array (Option Value)} {oc__law_parts kV__law_parts dc__law_parts pm__law_parts cd__law_parts ct__law_parts : Value}
    {od__law_made an__law_made : Option Addr} {sl__law_made : Array (Option Value)} {oc__law_made kV__law_made dc__law_made pm__law_made cd__law_made ct__law_made : Value}
    {od__law_some_parts an__law_some_parts : Option Addr} {sl__law_some_parts : Array (Option Value)} {oc__law_some_parts kV__law_some_parts dc__law_some_parts pm__law_some_parts cd__law_some_parts ct__law_some_parts : Value}
    {od__law_row an__law_row : Option Addr} {sl__law_row : Array (Option Value)} {oc__law_row kV__law_row dc__law_row pm__law_row cd__law_row ct__law_row : Value}
    {od__law_meets an__law_meets : Option Addr} {sl__law_meets : Array (Option Value)} {oc__law_meets kV__law_meets dc__law_meets pm__law_meets cd__law_meets ct__law_meets : Value}
    {od__law_whole an__law_whole : Option Addr} {sl__law_whole : Array (Option Value)} {oc__law_whole kV__law_whole dc__law_whole pm__law_whole cd__law_whole ct__law_whole : Value}
    {od__law_same an__law_same : Option Addr} {sl__law_same : Array (Option Value)} {oc__law_same kV__law_same dc__law_same pm__law_same cd__law_same ct__law_same : Value}
    {od__law_near an__law_near : Option Addr} {sl__law_near : Array (Option Value)} {oc__law_near kV__law_near dc__law_near pm__law_near cd__law_near ct__law_near : Value}
    {od__law_exchanged an__law_exchanged : Option Addr} {sl__law_exchanged : Array (Option Value)} {oc__law_exchanged kV__law_exchanged dc__law_exchanged pm__law_exchanged cd__law_exchanged ct__law_exchanged : Value}
    {od__law_mixed an__law_mixed : Option Addr} {sl__law_mixed : Array (Option Value)} {oc__law_mixed kV__law_mixed dc__law_mixed pm__law_mixed cd__law_mixed ct__law_mixed : Value}
    {od__law_changed an__law_changed : Option Addr} {sl__law_changed : Array (Option Value)} {oc__law_changed kV__law_changed dc__law_changed pm__law_changed cd__law_changed ct__law_changed : Value}
    {od__law_free_at an__law_free_at : Option Addr} {sl__law_free_at : Array (Option Value)} {oc__law_free_at kV__law_free_at dc__law_free_at pm__law_free_at cd__law_free_at ct__law_free_at : Value}
    {od__law_least an__law_least : Option Addr} {sl__law_least : Array (Option Value)} {oc__law_least kV__law_least dc__law_least pm__law_least cd__law_least ct__law_least : Value}
    {od_law an_law : Option Addr} {sl_law : Array (Option Value)} {oc_law kV_law dc_law pm_law cd_law ct_law : Value}
    {od_Office_init an_Office_init : Option Addr} {sl_Office_init : Array (Option Value)} {oc_Office_init kV_Office_init dc_Office_init pm_Office_init cd_Office_init ct_Office_init : Value}
    {t_MOST_DESKS : Tok}
    {t_MOST_WORKS : Tok}
    (X : K.In h) (G : h.Ns mainGlobals mg) (hfa : mg "law" = some (.ref fa))
    (a_is_integer : PySem.W.nsIn K mainGlobals "is_integer" = some (some (.ref f_is_integer)))
    (l_is_integer : K.lookup f_is_integer = some ⟨oc_is_integer, od_is_integer, .func (PySem.W.fnOf "is_integer" "is_integer" (defArgs s_is_integer) (defBody s_is_integer) (defScope s_is_integer) .none kV_is_integer dc_is_integer pm_is_integer an_is_integer cd_is_integer ct_is_integer), sl_is_integer⟩)
    (c_is_integer : PySem.W.codeIn K cd_is_integer "is_integer" = true)
    (k_is_integer : PySem.W.keepIn K (.ref f_is_integer) = true)
    (a_is_number : PySem.W.nsIn K mainGlobals "is_number" = some (some (.ref f_is_number)))
    (l_is_number : K.lookup f_is_number = some ⟨oc_is_number, od_is_number, .func (PySem.W.fnOf "is_number" "is_number" (defArgs s_is_number) (defBody s_is_number) (defScope s_is_number) .none kV_is_number dc_is_number pm_is_number an_is_number cd_is_number ct_is_number), sl_is_number⟩)
    (c_is_number : PySem.W.codeIn K cd_is_number "is_number" = true)
    (k_is_number : PySem.W.keepIn K (.ref f_is_number) = true)
    (a_is_below : PySem.W.nsIn K mainGlobals "is_below" = some (some (.ref f_is_below)))
    (l_is_below : K.lookup f_is_below = some ⟨oc_is_below, od_is_below, .func (PySem.W.fnOf "is_below" "is_below" (defArgs s_is_below) (defBody s_is_below) (defScope s_is_below) .none kV_is_below dc_is_below pm_is_below an_is_below cd_is_below ct_is_below), sl_is_below⟩)
    (c_is_below : PySem.W.codeIn K cd_is_below "is_below" = true)
    (k_is_below : PySem.W.keepIn K (.ref f_is_below) = true)
    (a_is_lot : PySem.W.nsIn K mainGlobals "is_lot" = some (some (.ref f_is_lot)))
    (l_is_lot : K.lookup f_is_lot = some ⟨oc_is_lot, od_is_lot, .func (PySem.W.fnOf "is_lot" "is_lot" (defArgs s_is_lot) (defBody s_is_lot) (defScope s_is_lot) .none kV_is_lot dc_is_lot pm_is_lot an_is_lot cd_is_lot ct_is_lot), sl_is_lot⟩)
    (c_is_lot : PySem.W.codeIn K cd_is_lot "is_lot" = true)
    (k_is_lot : PySem.W.keepIn K (.ref f_is_lot) = true)
    (a_are_works : PySem.W.nsIn K mainGlobals "are_works" = some (some (.ref f_are_works)))
    (l_are_works : K.lookup f_are_works = some ⟨oc_are_works, od_are_works, .func (PySem.W.fnOf "are_works" "are_works" (defArgs s_are_works) (defBody s_are_works) (defScope s_are_works) .none kV_are_works dc_are_works pm_are_works an_are_works cd_are_works ct_are_works), sl_are_works⟩)
    (c_are_works : PySem.W.codeIn K cd_are_works "are_works" = true)
    (k_are_works : PySem.W.keepIn K (.ref f_are_works) = true)
    (a_check_row : PySem.W.nsIn K mainGlobals "check_row" = some (some (.ref f_check_row)))
    (l_check_row : K.lookup f_check_row = some ⟨oc_check_row, od_check_row, .func (PySem.W.fnOf "check_row" "check_row" (defArgs s_check_row) (defBody s_check_row) (defScope s_check_row) .none kV_check_row dc_check_row pm_check_row an_check_row cd_check_row ct_check_row), sl_check_row⟩)
    (c_check_row : PySem.W.codeIn K cd_check_row "check_row" = true)
    (k_check_row : PySem.W.keepIn K (.ref f_check_row) = true)
    (a_are_office_works : PySem.W.nsIn K mainGlobals "are_office_works" = some (some (.ref f_are_office_works)))
    (l_are_office_works : K.lookup f_are_office_works = some ⟨oc_are_office_works, od_are_office_works, .func (PySem.W.fnOf "are_office_works" "are_office_works" (defArgs s_are_office_works) (defBody s_are_office_works) (defScope s_are_office_works) .none kV_are_office_works dc_are_office_works pm_are_office_works an_are_office_works cd_are_office_works ct_are_office_works), sl_are_office_works⟩)
    (c_are_office_works : PySem.W.codeIn K cd_are_office_works "are_office_works" = true)
    (k_are_office_works : PySem.W.keepIn K (.ref f_are_office_works) = true)
    (a_all_logs : PySem.W.nsIn K mainGlobals "all_logs" = some (some (.ref f_all_logs)))
    (l_all_logs : K.lookup f_all_logs = some ⟨oc_all_logs, od_all_logs, .func (PySem.W.fnOf "all_logs" "all_logs" (defArgs s_all_logs) (defBody s_all_logs) (defScope s_all_logs) .none kV_all_logs dc_all_logs pm_all_logs an_all_logs cd_all_logs ct_all_logs), sl_all_logs⟩)
    (c_all_logs : PySem.W.codeIn K cd_all_logs "all_logs" = true)
    (k_all_logs : PySem.W.keepIn K (.ref f_all_logs) = true)
    (a_first_ready : PySem.W.nsIn K mainGlobals "first_ready" = some (some (.ref f_first_ready)))
    (l_first_ready : K.lookup f_first_ready = some ⟨oc_first_ready, od_first_ready, .func (PySem.W.fnOf "first_ready" "first_ready" (defArgs s_first_ready) (defBody s_first_ready) (defScope s_first_ready) .none kV_first_ready dc_first_ready pm_first_ready an_first_ready cd_first_ready ct_first_ready), sl_first_ready⟩)
    (c_first_ready : PySem.W.codeIn K cd_first_ready "first_ready" = true)
    (k_first_ready : PySem.W.keepIn K (.ref f_first_ready) = true)
    (a_done_by_teams : PySem.W.nsIn K mainGlobals "done_by_teams" = some (some (.ref f_done_by_teams)))
    (l_done_by_teams : K.lookup f_done_by_teams = some ⟨oc_done_by_teams, od_done_by_teams, .func (PySem.W.fnOf "done_by_teams" "done_by_teams" (defArgs s_done_by_teams) (defBody s_done_by_teams) (defScope s_done_by_teams) .none kV_done_by_teams dc_done_by_teams pm_done_by_teams an_done_by_teams cd_done_by_teams ct_done_by_teams), sl_done_by_teams⟩)
    (c_done_by_teams : PySem.W.codeIn K cd_done_by_teams "done_by_teams" = true)
    (k_done_by_teams : PySem.W.keepIn K (.ref f_done_by_teams) = true)
    (a_done_by_logs : PySem.W.nsIn K mainGlobals "done_by_logs" = some (some (.ref f_done_by_logs)))
    (l_done_by_logs : K.lookup f_done_by_logs = some ⟨oc_done_by_logs, od_done_by_logs, .func (PySem.W.fnOf "done_by_logs" "done_by_logs" (defArgs s_done_by_logs) (defBody s_done_by_logs) (defScope s_done_by_logs) .none kV_done_by_logs dc_done_by_logs pm_done_by_logs an_done_by_logs cd_done_by_logs ct_done_by_logs), sl_done_by_logs⟩)
    (c_done_by_logs : PySem.W.codeIn K cd_done_by_logs "done_by_logs" = true)
    (k_done_by_logs : PySem.W.keepIn K (.ref f_done_by_logs) = true)
    (a_least_row : PySem.W.nsIn K mainGlobals "least_row" = some (some (.ref f_least_row)))
    (l_least_row : K.lookup f_least_row = some ⟨oc_least_row, od_least_row, .func (PySem.W.fnOf "least_row" "least_row" (defArgs s_least_row) (defBody s_least_row) (defScope s_least_row) .none kV_least_row dc_least_row pm_least_row an_least_row cd_least_row ct_least_row), sl_least_row⟩)
    (c_least_row : PySem.W.codeIn K cd_least_row "least_row" = true)
    (k_least_row : PySem.W.keepIn K (.ref f_least_row) = true)
    (a__law_dice : PySem.W.nsIn K mainGlobals "_law_dice" = some (some (.ref f__law_dice)))
    (l__law_dice : K.lookup f__law_dice = some ⟨oc__law_dice, od__law_dice, .func (PySem.W.fnOf "_law_dice" "_law_dice" (defArgs s__law_dice) (defBody s__law_dice) (defScope s__law_dice) .none kV__law_dice dc__law_dice pm__law_dice an__law_dice cd__law_dice ct__law_dice), sl__law_dice⟩)
    (c__law_dice : PySem.W.codeIn K cd__law_dice "_law_dice" = true)
    (k__law_dice : PySem.W.keepIn K (.ref f__law_dice) = true)
    (a__law_draw : PySem.W.nsIn K mainGlobals "_law_draw" = some (some (.ref f__law_draw)))
    (l__law_draw : K.lookup f__law_draw = some ⟨oc__law_draw, od__law_draw, .func (PySem.W.fnOf "_law_draw" "_law_draw" (defArgs s__law_draw) (defBody s__law_draw) (defScope s__law_draw) .none kV__law_draw dc__law_draw pm__law_draw an__law_draw cd__law_draw ct__law_draw), sl__law_draw⟩)
    (c__law_draw : PySem.W.codeIn K cd__law_draw "_law_draw" = true)
    (k__law_draw : PySem.W.keepIn K (.ref f__law_draw) = true)
    (a__law_parts : PySem.W.nsIn K mainGlobals "_law_parts" = some (some (.ref f__law_parts)))
    (l__law_parts : K.lookup f__law_parts = some ⟨oc__law_parts, od__law_parts, .func (PySem.W.fnOf "_law_parts" "_law_parts" (defArgs s__law_parts) (defBody s__law_parts) (defScope s__law_parts) .none kV__law_parts dc__law_parts pm__law_parts an__law_parts cd__law_parts ct__law_parts), sl__law_parts⟩)
    (c__law_parts : PySem.W.codeIn K cd__law_parts "_law_parts" = true)
    (k__law_parts : PySem.W.keepIn K (.ref f__law_parts) = true)
    (a__law_made : PySem.W.nsIn K mainGlobals "_law_made" = some (some (.ref f__law_made)))
    (l__law_made : K.lookup f__law_made = some ⟨oc__law_made, od__law_made, .func (PySem.W.fnOf "_law_made" "_law_made" (defArgs s__law_made) (defBody s__law_made) (defScope s__law_made) .none kV__law_made dc__law_made pm__law_made an__law_made cd__law_made ct__law_made), sl__law_made⟩)
    (c__law_made : PySem.W.codeIn K cd__law_made "_law_made" = true)
    (k__law_made : PySem.W.keepIn K (.ref f__law_made) = true)
    (a__law_some_parts : PySem.W.nsIn K mainGlobals "_law_some_parts" = some (some (.ref f__law_some_parts)))
    (l__law_some_parts : K.lookup f__law_some_parts = some ⟨oc__law_some_parts, od__law_some_parts, .func (PySem.W.fnOf "_law_some_parts" "_law_some_parts" (defArgs s__law_some_parts) (defBody s__law_some_parts) (defScope s__law_some_parts) .none kV__law_some_parts dc__law_some_parts pm__law_some_parts an__law_some_parts cd__law_some_parts ct__law_some_parts), sl__law_some_parts⟩)
    (c__law_some_parts : PySem.W.codeIn K cd__law_some_parts "_law_some_parts" = true)
    (k__law_some_parts : PySem.W.keepIn K (.ref f__law_some_parts) = true)
    (a__law_row : PySem.W.nsIn K mainGlobals "_law_row" = some (some (.ref f__law_row)))
    (l__law_row : K.lookup f__law_row = some ⟨oc__law_row, od__law_row, .func (PySem.W.fnOf "_law_row" "_law_row" (defArgs s__law_row) (defBody s__law_row) (defScope s__law_row) .none kV__law_row dc__law_row pm__law_row an__law_row cd__law_row ct__law_row), sl__law_row⟩)
    (c__law_row : PySem.W.codeIn K cd__law_row "_law_row" = true)
    (k__law_row : PySem.W.keepIn K (.ref f__law_row) = true)
    (a__law_meets : PySem.W.nsIn K mainGlobals "_law_meets" = some (some (.ref f__law_meets)))
    (l__law_meets : K.lookup f__law_meets = some ⟨oc__law_meets, od__law_meets, .func (PySem.W.fnOf "_law_meets" "_law_meets" (defArgs s__law_meets) (defBody s__law_meets) (defScope s__law_meets) .none kV__law_meets dc__law_meets pm__law_meets an__law_meets cd__law_meets ct__law_meets), sl__law_meets⟩)
    (c__law_meets : PySem.W.codeIn K cd__law_meets "_law_meets" = true)
    (k__law_meets : PySem.W.keepIn K (.ref f__law_meets) = true)
    (a__law_whole : PySem.W.nsIn K mainGlobals "_law_whole" = some (some (.ref f__law_whole)))
    (l__law_whole : K.lookup f__law_whole = some ⟨oc__law_whole, od__law_whole, .func (PySem.W.fnOf "_law_whole" "_law_whole" (defArgs s__law_whole) (defBody s__law_whole) (defScope s__law_whole) .none kV__law_whole dc__law_whole pm__law_whole an__law_whole cd__law_whole ct__law_whole), sl__law_whole⟩)
    (c__law_whole : PySem.W.codeIn K cd__law_whole "_law_whole" = true)
    (k__law_whole : PySem.W.keepIn K (.ref f__law_whole) = true)
    (a__law_same : PySem.W.nsIn K mainGlobals "_law_same" = some (some (.ref f__law_same)))
    (l__law_same : K.lookup f__law_same = some ⟨oc__law_same, od__law_same, .func (PySem.W.fnOf "_law_same" "_law_same" (defArgs s__law_same) (defBody s__law_same) (defScope s__law_same) .none kV__law_same dc__law_same pm__law_same an__law_same cd__law_same ct__law_same), sl__law_same⟩)
    (c__law_same : PySem.W.codeIn K cd__law_same "_law_same" = true)
    (k__law_same : PySem.W.keepIn K (.ref f__law_same) = true)
    (a__law_near : PySem.W.nsIn K mainGlobals "_law_near" = some (some (.ref f__law_near)))
    (l__law_near : K.lookup f__law_near = some ⟨oc__law_near, od__law_near, .func (PySem.W.fnOf "_law_near" "_law_near" (defArgs s__law_near) (defBody s__law_near) (defScope s__law_near) .none kV__law_near dc__law_near pm__law_near an__law_near cd__law_near ct__law_near), sl__law_near⟩)
    (c__law_near : PySem.W.codeIn K cd__law_near "_law_near" = true)
    (k__law_near : PySem.W.keepIn K (.ref f__law_near) = true)
    (a__law_exchanged : PySem.W.nsIn K mainGlobals "_law_exchanged" = some (some (.ref f__law_exchanged)))
    (l__law_exchanged : K.lookup f__law_exchanged = some ⟨oc__law_exchanged, od__law_exchanged, .func (PySem.W.fnOf "_law_exchanged" "_law_exchanged" (defArgs s__law_exchanged) (defBody s__law_exchanged) (defScope s__law_exchanged) .none kV__law_exchanged dc__law_exchanged pm__law_exchanged an__law_exchanged cd__law_exchanged ct__law_exchanged), sl__law_exchanged⟩)
    (c__law_exchanged : PySem.W.codeIn K cd__law_exchanged "_law_exchanged" = true)
    (k__law_exchanged : PySem.W.keepIn K (.ref f__law_exchanged) = true)
    (a__law_mixed : PySem.W.nsIn K mainGlobals "_law_mixed" = some (some (.ref f__law_mixed)))
    (l__law_mixed : K.lookup f__law_mixed = some ⟨oc__law_mixed, od__law_mixed, .func (PySem.W.fnOf "_law_mixed" "_law_mixed" (defArgs s__law_mixed) (defBody s__law_mixed) (defScope s__law_mixed) .none kV__law_mixed dc__law_mixed pm__law_mixed an__law_mixed cd__law_mixed ct__law_mixed), sl__law_mixed⟩)
    (c__law_mixed : PySem.W.codeIn K cd__law_mixed "_law_mixed" = true)
    (k__law_mixed : PySem.W.keepIn K (.ref f__law_mixed) = true)
    (a__law_changed : PySem.W.nsIn K mainGlobals "_law_changed" = some (some (.ref f__law_changed)))
    (l__law_changed : K.lookup f__law_changed = some ⟨oc__law_changed, od__law_changed, .func (PySem.W.fnOf "_law_changed" "_law_changed" (defArgs s__law_changed) (defBody s__law_changed) (defScope s__law_changed) .none kV__law_changed dc__law_changed pm__law_changed an__law_changed cd__law_changed ct__law_changed), sl__law_changed⟩)
    (c__law_changed : PySem.W.codeIn K cd__law_changed "_law_changed" = true)
    (k__law_changed : PySem.W.keepIn K (.ref f__law_changed) = true)
    (a__law_free_at : PySem.W.nsIn K mainGlobals "_law_free_at" = some (some (.ref f__law_free_at)))
    (l__law_free_at : K.lookup f__law_free_at = some ⟨oc__law_free_at, od__law_free_at, .func (PySem.W.fnOf "_law_free_at" "_law_free_at" (defArgs s__law_free_at) (defBody s__law_free_at) (defScope s__law_free_at) .none kV__law_free_at dc__law_free_at pm__law_free_at an__law_free_at cd__law_free_at ct__law_free_at), sl__law_free_at⟩)
    (c__law_free_at : PySem.W.codeIn K cd__law_free_at "_law_free_at" = true)
    (k__law_free_at : PySem.W.keepIn K (.ref f__law_free_at) = true)
    (a__law_least : PySem.W.nsIn K mainGlobals "_law_least" = some (some (.ref f__law_least)))
    (l__law_least : K.lookup f__law_least = some ⟨oc__law_least, od__law_least, .func (PySem.W.fnOf "_law_least" "_law_least" (defArgs s__law_least) (defBody s__law_least) (defScope s__law_least) .none kV__law_least dc__law_least pm__law_least an__law_least cd__law_least ct__law_least), sl__law_least⟩)
    (c__law_least : PySem.W.codeIn K cd__law_least "_law_least" = true)
    (k__law_least : PySem.W.keepIn K (.ref f__law_least) = true)
    (a_law : PySem.W.nsIn K mainGlobals "law" = some (some (.ref f_law)))
    (l_law : K.lookup f_law = some ⟨oc_law, od_law, .func (PySem.W.fnOf "law" "law" (defArgs s_law) (defBody s_law) (defScope s_law) .none kV_law dc_law pm_law an_law cd_law ct_law), sl_law⟩)
    (c_law : PySem.W.codeIn K cd_law "law" = true)
    (k_law : PySem.W.keepIn K (.ref f_law) = true)
    (a_Office : PySem.W.nsIn K mainGlobals "Office" = some (some (.ref C_Office)))
    (i_Office : PySem.W.findIn K (.ref C_Office) "__init__" = some (some (.ref f_Office_init)))
    (j_Office : PySem.W.isFn K (.ref f_Office_init) = true)
    (l_Office_init : K.lookup f_Office_init = some ⟨oc_Office_init, od_Office_init, .func (PySem.W.fnOf "__init__" "Office.__init__" (defArgs s_Office_init) (defBody s_Office_init) (defScope s_Office_init) .none kV_Office_init dc_Office_init pm_Office_init an_Office_init cd_Office_init ct_Office_init), sl_Office_init⟩)
    (c_Office_init : PySem.W.codeIn K cd_Office_init "Office.__init__" = true)
    (k_Office_init : PySem.W.keepIn K (.ref f_Office_init) = true)
    (pg_Office : PySem.W.plainGet K C_Office Str.empty = true)
    (hd_Office : PySem.W.hasDictIn K C_Office = true)
    (po_Office : PySem.W.plainOver K C_Office = true)
    (sa_Office : PySem.W.findIn K (.ref C_Office) "__setattr__" = some (some (.builtin "object.__setattr__")))
    (mk_Office : PySem.W.makesIn K C_Office = true)
    (kc_Office : PySem.W.keepIn K (.ref C_Office) = true)
    (na_Office_desks : PySem.W.findIn K (.ref C_Office) "desks" = some none)
    (na_Office_works : PySem.W.findIn K (.ref C_Office) "works" = some none)
    (n_abs : PySem.W.nsIn K mainGlobals "abs" = some none)
    (n_all : PySem.W.nsIn K mainGlobals "all" = some none)
    (n_any : PySem.W.nsIn K mainGlobals "any" = some none)
    (n_bool : PySem.W.nsIn K mainGlobals "bool" = some none)
    (n_enumerate : PySem.W.nsIn K mainGlobals "enumerate" = some none)
    (n_int : PySem.W.nsIn K mainGlobals "int" = some none)
    (n_isinstance : PySem.W.nsIn K mainGlobals "isinstance" = some none)
    (n_len : PySem.W.nsIn K mainGlobals "len" = some none)
    (n_list : PySem.W.nsIn K mainGlobals "list" = some none)
    (n_min : PySem.W.nsIn K mainGlobals "min" = some none)
    (n_range : PySem.W.nsIn K mainGlobals "range" = some none)
    (n_set : PySem.W.nsIn K mainGlobals "set" = some none)
    (n_sorted : PySem.W.nsIn K mainGlobals "sorted" = some none)
    (n_str : PySem.W.nsIn K mainGlobals "str" = some none)
    (n_tuple : PySem.W.nsIn K mainGlobals "tuple" = some none)
    (n_zip : PySem.W.nsIn K mainGlobals "zip" = some none)
    (a_MOST_DESKS : PySem.W.nsIn K mainGlobals "MOST_DESKS" = some (some (.int 6 t_MOST_DESKS)))
    (a_MOST_WORKS : PySem.W.nsIn K mainGlobals "MOST_WORKS" = some (some (.int 10 t_MOST_WORKS)))
    (hp : b_law_k06 lawEnds (List.replicate 12 none)) :
    ∃ fd : FuncData, (∀ (s : Shared) (v : Value), BindsTo s fd ⟨[v], []⟩ [("script", v)]) ∧ ∀ base : Heap, K.In base → base.Ns mainGlobals mg → FnOk l.prog w K mg base CX0 10 fa fd ["script"] (spLaw K) := by
  have e := hfa.symm.trans (PySem.W.mg_of X G a_law)
  cases e
  let T : Facts K mg := {
    f_is_integer := f_is_integer,
    fd_is_integer := PySem.W.fnOf "is_integer" "is_integer" (defArgs s_is_integer) (defBody s_is_integer) (defScope s_is_integer) .none kV_is_integer dc_is_integer pm_is_integer an_is_integer cd_is_integer ct_is_integer,
    F_is_integer := fun_mk (st := s_is_integer) l_is_integer c_is_integer k_is_integer,
    m_is_integer := PySem.W.mg_of X G a_is_integer,
    f_is_number := f_is_number,
    fd_is_number := PySem.W.fnOf "is_number" "is_number" (defArgs s_is_number) (defBody s_is_number) (defScope s_is_number) .none kV_is_number dc_is_number pm_is_number an_is_number cd_is_number ct_is_number,
    F_is_number := fun_mk (st := s_is_number) l_is_number c_is_number k_is_number,
    m_is_number := PySem.W.mg_of X G a_is_number,
    f_is_below := f_is_below,
    fd_is_below := PySem.W.fnOf "is_below" "is_below" (defArgs s_is_below) (defBody s_is_below) (defScope s_is_below) .none kV_is_below dc_is_below pm_is_below an_is_below cd_is_below ct_is_below,
    F_is_below := fun_mk (st := s_is_below) l_is_below c_is_below k_is_below,
    m_is_below := PySem.W.mg_of X G a_is_below,
    f_is_lot := f_is_lot,
    fd_is_lot := PySem.W.fnOf "is_lot" "is_lot" (defArgs s_is_lot) (defBody s_is_lot) (defScope s_is_lot) .none kV_is_lot dc_is_lot pm_is_lot an_is_lot cd_is_lot ct_is_lot,
    F_is_lot := fun_mk (st := s_is_lot) l_is_lot c_is_lot k_is_lot,
    m_is_lot := PySem.W.mg_of X G a_is_lot,
    f_are_works := f_are_works,
    fd_are_works := PySem.W.fnOf "are_works" "are_works" (defArgs s_are_works) (defBody s_are_works) (defScope s_are_works) .none kV_are_works dc_are_works pm_are_works an_are_works cd_are_works ct_are_works,
    F_are_works := fun_mk (st := s_are_works) l_are_works c_are_works k_are_works,
    m_are_works := PySem.W.mg_of X G a_are_works,
    f_check_row := f_check_row,
    fd_check_row := PySem.W.fnOf "check_row" "check_row" (defArgs s_check_row) (defBody s_check_row) (defScope s_check_row) .none kV_check_row dc_check_row pm_check_row an_check_row cd_check_row ct_check_row,
    F_check_row := fun_mk (st := s_check_row) l_check_row c_check_row k_check_row,
    m_check_row := PySem.W.mg_of X G a_check_row,
    f_are_office_works := f_are_office_works,
    fd_are_office_works := PySem.W.fnOf "are_office_works" "are_office_works" (defArgs s_are_office_works) (defBody s_are_office_works) (defScope s_are_office_works) .none kV_are_office_works dc_are_office_works pm_are_office_works an_are_office_works cd_are_office_works ct_are_office_works,
    F_are_office_works := fun_mk (st := s_are_office_works) l_are_office_works c_are_office_works k_are_office_works,
    m_are_office_works := PySem.W.mg_of X G a_are_office_works,
    f_all_logs := f_all_logs,
    fd_all_logs := PySem.W.fnOf "all_logs" "all_logs" (defArgs s_all_logs) (defBody s_all_logs) (defScope s_all_logs) .none kV_all_logs dc_all_logs pm_all_logs an_all_logs cd_all_logs ct_all_logs,
    F_all_logs := fun_mk (st := s_all_logs) l_all_logs c_all_logs k_all_logs,
    m_all_logs := PySem.W.mg_of X G a_all_logs,
    f_first_ready := f_first_ready,
    fd_first_ready := PySem.W.fnOf "first_ready" "first_ready" (defArgs s_first_ready) (defBody s_first_ready) (defScope s_first_ready) .none kV_first_ready dc_first_ready pm_first_ready an_first_ready cd_first_ready ct_first_ready,
    F_first_ready := fun_mk (st := s_first_ready) l_first_ready c_first_ready k_first_ready,
    m_first_ready := PySem.W.mg_of X G a_first_ready,
    f_done_by_teams := f_done_by_teams,
    fd_done_by_teams := PySem.W.fnOf "done_by_teams" "done_by_teams" (defArgs s_done_by_teams) (defBody s_done_by_teams) (defScope s_done_by_teams) .none kV_done_by_teams dc_done_by_teams pm_done_by_teams an_done_by_teams cd_done_by_teams ct_done_by_teams,
    F_done_by_teams := fun_mk (st := s_done_by_teams) l_done_by_teams c_done_by_teams k_done_by_teams,
    m_done_by_teams := PySem.W.mg_of X G a_done_by_teams,
    f_done_by_logs := f_done_by_logs,
    fd_done_by_logs := PySem.W.fnOf "done_by_logs" "done_by_logs" (defArgs s_done_by_logs) (defBody s_done_by_logs) (defScope s_done_by_logs) .none kV_done_by_logs dc_done_by_logs pm_done_by_logs an_done_by_logs cd_done_by_logs ct_done_by_logs,
    F_done_by_logs := fun_mk (st := s_done_by_logs) l_done_by_logs c_done_by_logs k_done_by_logs,
    m_done_by_logs := PySem.W.mg_of X G a_done_by_logs,
    f_least_row := f_least_row,
    fd_least_row := PySem.W.fnOf "least_row" "least_row" (defArgs s_least_row) (defBody s_least_row) (defScope s_least_row) .none kV_least_row dc_least_row pm_least_row an_least_row cd_least_row ct_least_row,
    F_least_row := fun_mk (st := s_least_row) l_least_row c_least_row k_least_row,
    m_least_row := PySem.W.mg_of X G a_least_row,
    f__law_dice := f__law_dice,
    fd__law_dice := PySem.W.fnOf "_law_dice" "_law_dice" (defArgs s__law_dice) (defBody s__law_dice) (defScope s__law_dice) .none kV__law_dice dc__law_dice pm__law_dice an__law_dice cd__law_dice ct__law_dice,
    F__law_dice := fun_mk (st := s__law_dice) l__law_dice c__law_dice k__law_dice,
    m__law_dice := PySem.W.mg_of X G a__law_dice,
    f__law_draw := f__law_draw,
    fd__law_draw := PySem.W.fnOf "_law_draw" "_law_draw" (defArgs s__law_draw) (defBody s__law_draw) (defScope s__law_draw) .none kV__law_draw dc__law_draw pm__law_draw an__law_draw cd__law_draw ct__law_draw,
    F__law_draw := fun_mk (st := s__law_draw) l__law_draw c__law_draw k__law_draw,
    m__law_draw := PySem.W.mg_of X G a__law_draw,
    f__law_parts := f__law_parts,
    fd__law_parts := PySem.W.fnOf "_law_parts" "_law_parts" (defArgs s__law_parts) (defBody s__law_parts) (defScope s__law_parts) .none kV__law_parts dc__law_parts pm__law_parts an__law_parts cd__law_parts ct__law_parts,
    F__law_parts := fun_mk (st := s__law_parts) l__law_parts c__law_parts k__law_parts,
    m__law_parts := PySem.W.mg_of X G a__law_parts,
    f__law_made := f__law_made,
    fd__law_made := PySem.W.fnOf "_law_made" "_law_made" (defArgs s__law_made) (defBody s__law_made) (defScope s__law_made) .none kV__law_made dc__law_made pm__law_made an__law_made cd__law_made ct__law_made,
    F__law_made := fun_mk (st := s__law_made) l__law_made c__law_made k__law_made,
    m__law_made := PySem.W.mg_of X G a__law_made,
    f__law_some_parts := f__law_some_parts,
    fd__law_some_parts := PySem.W.fnOf "_law_some_parts" "_law_some_parts" (defArgs s__law_some_parts) (defBody s__law_some_parts) (defScope s__law_some_parts) .none kV__law_some_parts dc__law_some_parts pm__law_some_parts an__law_some_parts cd__law_some_parts ct__law_some_parts,
    F__law_some_parts := fun_mk (st := s__law_some_parts) l__law_some_parts c__law_some_parts k__law_some_parts,
    m__law_some_parts := PySem.W.mg_of X G a__law_some_parts,
    f__law_row := f__law_row,
    fd__law_row := PySem.W.fnOf "_law_row" "_law_row" (defArgs s__law_row) (defBody s__law_row) (defScope s__law_row) .none kV__law_row dc__law_row pm__law_row an__law_row cd__law_row ct__law_row,
    F__law_row := fun_mk (st := s__law_row) l__law_row c__law_row k__law_row,
    m__law_row := PySem.W.mg_of X G a__law_row,
    f__law_meets := f__law_meets,
    fd__law_meets := PySem.W.fnOf "_law_meets" "_law_meets" (defArgs s__law_meets) (defBody s__law_meets) (defScope s__law_meets) .none kV__law_meets dc__law_meets pm__law_meets an__law_meets cd__law_meets ct__law_meets,
    F__law_meets := fun_mk (st := s__law_meets) l__law_meets c__law_meets k__law_meets,
    m__law_meets := PySem.W.mg_of X G a__law_meets,
    f__law_whole := f__law_whole,
    fd__law_whole := PySem.W.fnOf "_law_whole" "_law_whole" (defArgs s__law_whole) (defBody s__law_whole) (defScope s__law_whole) .none kV__law_whole dc__law_whole pm__law_whole an__law_whole cd__law_whole ct__law_whole,
    F__law_whole := fun_mk (st := s__law_whole) l__law_whole c__law_whole k__law_whole,
    m__law_whole := PySem.W.mg_of X G a__law_whole,
    f__law_same := f__law_same,
    fd__law_same := PySem.W.fnOf "_law_same" "_law_same" (defArgs s__law_same) (defBody s__law_same) (defScope s__law_same) .none kV__law_same dc__law_same pm__law_same an__law_same cd__law_same ct__law_same,
    F__law_same := fun_mk (st := s__law_same) l__law_same c__law_same k__law_same,
    m__law_same := PySem.W.mg_of X G a__law_same,
    f__law_near := f__law_near,
    fd__law_near := PySem.W.fnOf "_law_near" "_law_near" (defArgs s__law_near) (defBody s__law_near) (defScope s__law_near) .none kV__law_near dc__law_near pm__law_near an__law_near cd__law_near ct__law_near,
    F__law_near := fun_mk (st := s__law_near) l__law_near c__law_near k__law_near,
    m__law_near := PySem.W.mg_of X G a__law_near,
    f__law_exchanged := f__law_exchanged,
    fd__law_exchanged := PySem.W.fnOf "_law_exchanged" "_law_exchanged" (defArgs s__law_exchanged) (defBody s__law_exchanged) (defScope s__law_exchanged) .none kV__law_exchanged dc__law_exchanged pm__law_exchanged an__law_exchanged cd__law_exchanged ct__law_exchanged,
    F__law_exchanged := fun_mk (st := s__law_exchanged) l__law_exchanged c__law_exchanged k__law_exchanged,
    m__law_exchanged := PySem.W.mg_of X G a__law_exchanged,
    f__law_mixed := f__law_mixed,
    fd__law_mixed := PySem.W.fnOf "_law_mixed" "_law_mixed" (defArgs s__law_mixed) (defBody s__law_mixed) (defScope s__law_mixed) .none kV__law_mixed dc__law_mixed pm__law_mixed an__law_mixed cd__law_mixed ct__law_mixed,
    F__law_mixed := fun_mk (st := s__law_mixed) l__law_mixed c__law_mixed k__law_mixed,
    m__law_mixed := PySem.W.mg_of X G a__law_mixed,
    f__law_changed := f__law_changed,
    fd__law_changed := PySem.W.fnOf "_law_changed" "_law_changed" (defArgs s__law_changed) (defBody s__law_changed) (defScope s__law_changed) .none kV__law_changed dc__law_changed pm__law_changed an__law_changed cd__law_changed ct__law_changed,
    F__law_changed := fun_mk (st := s__law_changed) l__law_changed c__law_changed k__law_changed,
    m__law_changed := PySem.W.mg_of X G a__law_changed,
    f__law_free_at := f__law_free_at,
    fd__law_free_at := PySem.W.fnOf "_law_free_at" "_law_free_at" (defArgs s__law_free_at) (defBody s__law_free_at) (defScope s__law_free_at) .none kV__law_free_at dc__law_free_at pm__law_free_at an__law_free_at cd__law_free_at ct__law_free_at,
    F__law_free_at := fun_mk (st := s__law_free_at) l__law_free_at c__law_free_at k__law_free_at,
    m__law_free_at := PySem.W.mg_of X G a__law_free_at,
    f__law_least := f__law_least,
    fd__law_least := PySem.W.fnOf "_law_least" "_law_least" (defArgs s__law_least) (defBody s__law_least) (defScope s__law_least) .none kV__law_least dc__law_least pm__law_least an__law_least cd__law_least ct__law_least,
    F__law_least := fun_mk (st := s__law_least) l__law_least c__law_least k__law_least,
    m__law_least := PySem.W.mg_of X G a__law_least,
    f_law := fa,
    fd_law := PySem.W.fnOf "law" "law" (defArgs s_law) (defBody s_law) (defScope s_law) .none kV_law dc_law pm_law an_law cd_law ct_law,
    F_law := fun_mk (st := s_law) l_law c_law k_law,
    m_law := PySem.W.mg_of X G a_law,
    f_Office_init := f_Office_init,
    fd_Office_init := PySem.W.fnOf "__init__" "Office.__init__" (defArgs s_Office_init) (defBody s_Office_init) (defScope s_Office_init) .none kV_Office_init dc_Office_init pm_Office_init an_Office_init cd_Office_init ct_Office_init,
    F_Office_init := fun_mk (st := s_Office_init) l_Office_init c_Office_init k_Office_init,
    C_Office := C_Office,
    m_Office := PySem.W.mg_of X G a_Office,
    mk_Office := ⟨mk_Office, i_Office, j_Office, kc_Office⟩,
    cl_Office := ⟨pg_Office, hd_Office, po_Office, sa_Office⟩,
    na_Office_desks := na_Office_desks,
    na_Office_works := na_Office_works,
    n_abs := PySem.W.mg_none_of X G n_abs,
    n_all := PySem.W.mg_none_of X G n_all,
    n_any := PySem.W.mg_none_of X G n_any,
    n_bool := PySem.W.mg_none_of X G n_bool,
    n_enumerate := PySem.W.mg_none_of X G n_enumerate,
    n_int := PySem.W.mg_none_of X G n_int,
    n_isinstance := PySem.W.mg_none_of X G n_isinstance,
    n_len := PySem.W.mg_none_of X G n_len,
    n_list := PySem.W.mg_none_of X G n_list,
    n_min := PySem.W.mg_none_of X G n_min,
    n_range := PySem.W.mg_none_of X G n_range,
    n_set := PySem.W.mg_none_of X G n_set,
    n_sorted := PySem.W.mg_none_of X G n_sorted,
    n_str := PySem.W.mg_none_of X G n_str,
    n_tuple := PySem.W.mg_none_of X G n_tuple,
    n_zip := PySem.W.mg_none_of X G n_zip,
    t_MOST_DESKS := t_MOST_DESKS,
    m_MOST_DESKS := PySem.W.mg_of X G a_MOST_DESKS,
    t_MOST_WORKS := t_MOST_WORKS,
    m_MOST_WORKS := PySem.W.mg_of X G a_MOST_WORKS }
  exact ⟨T.fd_law, fun s v => .of_eq rfl, fun base _ _ => ok_law T hp⟩
end Pu

/-! file V04 -/
set_option Elab.async false
set_option linter.all false
set_option maxRecDepth 100000
namespace Pu
open PySem PySem.Spec PyProof.Rows L2
/-- the def returns d -/
abbrev FEv (mf : XF) (ds : List D) (d : D) : Prop := ∀ Q : D → Prop, Q d → mf ds Q
/-- the def returns something of P -/
abbrev FP (mf : XF) (ds : List D) (P : D → Prop) : Prop := ∀ Q : D → Prop, (∀ d, P d → Q d) → mf ds Q
theorem lc_ev {i : Nat} {mt : XB} {me : X1} {env : PEnv} (t : D → Bool) (e : D → D) : ∀ (ds acc : List D) (Q : List D → Prop), acc.length + ds.length ≤ sizeLine → (∀ d ∈ ds, ∀ Q, Q (t d) → mt (env.set i (some d)) Q) → (∀ d ∈ ds, t d = true → ∀ Q : D → Prop, Q (e d) → me (env.set i (some d)) Q) →
    Q (acc ++ (ds.filter t).map e) → lcLoop (bName i) mt me env ds acc Q
  | [], acc, Q, _, _, _, q => by simpa [lcLoop] using q
  | d :: ds, acc, Q, hl, ht, he, q => by
    simp at hl
    refine ht d List.mem_cons_self _ ?_
    cases h : t d with
    | true =>
      rw [if_pos rfl]
      refine he d List.mem_cons_self h _ ⟨by omega, lc_ev t e ds _ Q (by simp; omega) (fun x hx => ht x (List.mem_cons_of_mem _ hx)) (fun x hx => he x (List.mem_cons_of_mem _ hx)) ?_⟩
      rw [List.filter_cons_of_pos h, List.map_cons] at q
      simpa using q
    | false =>
      rw [if_neg Bool.false_ne_true]
      refine lc_ev t e ds _ Q (by omega) (fun x hx => ht x (List.mem_cons_of_mem _ hx)) (fun x hx => he x (List.mem_cons_of_mem _ hx)) ?_
      rwa [List.filter_cons_of_neg (by rw [h]; decide)] at q
theorem lc_map {i : Nat} {me : X1} {env : PEnv} (e : D → D) (ds : List D) (Q : List D → Prop) (hl : ds.length ≤ sizeLine) (he : ∀ d ∈ ds, ∀ Q : D → Prop, Q (e d) → me (env.set i (some d)) Q) (q : Q (ds.map e)) : lcLoop (bName i) bYes me env ds [] Q :=
  lc_ev (fun _ => true) e ds [] Q (by simpa using hl) (fun _ _ _ q => q) (fun d hd _ => he d hd) (by rw [List.filter_eq_self.mpr fun _ _ => rfl]; simpa using q)
/-- .. each item something of P -/
theorem lc_P {i : Nat} {me : X1} {env : PEnv} (P : D → Prop) : ∀ (ds acc : List D) (Q : List D → Prop), acc.length + ds.length ≤ sizeLine → (∀ d ∈ ds, ∀ Q : D → Prop, (∀ y, P y → Q y) → me (env.set i (some d)) Q) →
    (∀ ys : List D, ys.length = ds.length → (∀ y ∈ ys, P y) → Q (acc ++ ys)) → lcLoop (bName i) bYes me env ds acc Q
  | [], acc, Q, _, _, q => by simpa [lcLoop] using q [] rfl (fun _ h => nomatch h)
  | d :: ds, acc, Q, hl, he, q => by
    simp at hl
    refine he d List.mem_cons_self _ fun y hy => ⟨by omega, lc_P P ds _ Q (by simp; omega) (fun x hx => he x (List.mem_cons_of_mem _ hx)) fun ys hl hp => ?_⟩
    have := q (y :: ys) (by simp [hl]) fun z hz => by
      rcases List.mem_cons.mp hz with e | hz
      · rw [e]; exact hy
      · exact hp z hz
    simpa using this
/-- .. of those that an open test lets -/
theorem lc_F {i : Nat} {mt : XB} {me : X1} {env : PEnv} (e : D → D) : ∀ (ds acc : List D) (Q : List D → Prop), acc.length + ds.length ≤ sizeLine → (∀ d ∈ ds, ∀ Q : Bool → Prop, (∀ k, Q k) → mt (env.set i (some d)) Q) → (∀ d ∈ ds, ∀ Q : D → Prop, Q (e d) → me (env.set i (some d)) Q) →
    (∀ ys : List D, ys.Sublist ds → Q (acc ++ ys.map e)) → lcLoop (bName i) mt me env ds acc Q
  | [], acc, Q, _, _, _, q => by simpa [lcLoop] using q [] (List.Sublist.refl _)
  | d :: ds, acc, Q, hl, ht, he, q => by
    simp at hl
    refine ht d List.mem_cons_self _ fun k => ?_
    cases k with
    | true =>
      rw [if_pos rfl]
      refine he d List.mem_cons_self _ ⟨by omega, lc_F e ds _ Q (by simp; omega) (fun x hx => ht x (List.mem_cons_of_mem _ hx)) (fun x hx => he x (List.mem_cons_of_mem _ hx)) fun ys s => ?_⟩
      have := q (d :: ys) (s.cons_cons d)
      simpa using this
    | false =>
      rw [if_neg Bool.false_ne_true]
      exact lc_F e ds _ Q (by omega) (fun x hx => ht x (List.mem_cons_of_mem _ hx)) (fun x hx => he x (List.mem_cons_of_mem _ hx)) fun ys s => q ys (s.cons d)
/-- a for loop keeps W -/
theorem loop_ev {b : XG} {body : XS} {E : PEnds} (W : List D → PEnv → Prop) (hb : ∀ d ds env, W (d :: ds) env → b d env fun env1 => body { nx := W ds, rt := E.rt, bk := E.nx, ct := W ds } env1) (hm : ∀ d env Q Q', (∀ e, Q e → Q' e) → b d env Q → b d env Q') (hs : ∀ {E E' env}, PLe E E' → body E env → body E' env) :
    ∀ (ds : List D) (env : PEnv), W ds env → (∀ env, W [] env → E.nx env) → sLoop b body ds E env
  | [], env, w, q => q env w
  | d :: ds, env, w, q => hm _ _ _ _ (fun env1 h => hs (E := { nx := W ds, rt := E.rt, bk := E.nx, ct := W ds }) ⟨fun e we => loop_ev W hb hm hs ds e we q, fun _ z => z, fun _ z => z, fun e we => loop_ev W hb hm hs ds e we q⟩ h) (hb d ds env w)
section
variable {Q : D → Prop} {i n : Int} {ns ms : List Int}
theorem is_integer_ev : FEv m_is_integer [.int i] (.bl true) := fun Q q => q
theorem is_number_ev : FEv m_is_number [.int i] (.bl (decide (0 ≤ i))) := fun Q q => q
theorem is_below_ev (h0 : 0 ≤ i) (h1 : i < n) : FEv m_is_below [.int i, .int n] (.bl true) := fun Q q => by
  have e0 : decide (0 ≤ i) = true := decide_eq_true h0
  show (if decide (0 ≤ i) = true then Q (.bl (decide (i < n))) else _)
  rw [if_pos e0, decide_eq_true h1]
  exact q
def lotOk (n : Int) : List Int → Prop
  | [] => True
  | [x] => 0 ≤ x ∧ x < n
  | x :: y :: r => 0 ≤ x ∧ x < n ∧ x < y ∧ lotOk n (y :: r)
theorem lotOk_all : ∀ {l : List Int}, lotOk n l → ∀ x ∈ l, 0 ≤ x ∧ x < n
  | [], _, x, h => nomatch h
  | [y], h, x, hx => by rw [List.mem_singleton.mp hx]; exact h
  | y :: z :: r, h, x, hx => by
    rcases List.mem_cons.mp hx with e | hx
    · rw [e]; exact ⟨h.1, h.2.1⟩
    · exact lotOk_all h.2.2.2 x hx
end
end Pu

/-! file V04b -/
set_option Elab.async false
set_option linter.all false
set_option maxRecDepth 100000
namespace Pu
open PySem PySem.Spec PyProof.Rows L2
section
variable {Q : D → Prop} {i n : Int} {ns ms r : List Int} {ws : List (List Int)}
def rD (r : List Int) : D := .tup (dInts r)
def wD (ws : List (List Int)) : D := .tup (rowsD ws)
def oD (n : Int) (ws : List (List Int)) : D := .obj 3 [("desks", .int n), ("works", wD ws)]
theorem dInts_len : (dInts r).length = r.length := by simp [dInts]
theorem rowsD_len : (rowsD ws).length = ws.length := by simp [rowsD]
theorem mem_dInts {d : D} (h : d ∈ dInts r) : ∃ x, x ∈ r ∧ d = .int x := by
  obtain ⟨x, hx, e⟩ := List.mem_map.mp h
  exact ⟨x, hx, e.symm⟩
theorem all_bls {ds : List D} {f : D → D} (h : ∀ d ∈ ds, f d = .bl true) (q : Q (.bl true)) : oAny true (.lst (ds.map f)) Q := by
  refine ⟨List.replicate ds.length true, ?_, ?_⟩
  · rw [List.map_replicate]
    exact List.eq_replicate_iff.mpr ⟨by simp, fun b hb => by obtain ⟨d, hd, e⟩ := List.mem_map.mp hb; rw [← e]; exact h d hd⟩
  · rw [if_pos rfl]
    rw [show (List.replicate ds.length true).all id = true by rw [List.all_eq_true]; intro x hx; exact (List.mem_replicate.mp hx).2]
    exact q
theorem are_works_ev (hl : r.length ≤ sizeLine) (h : ∀ x ∈ r, 0 ≤ x ∧ x < (ws.length : Int)) : FEv m_are_works [oD n ws, rD r] (.bl true) := fun Q q => by
  refine ⟨rfl, .inl ?_⟩
  refine lc_map (fun _ => .bl true) _ _ (by rw [dInts_len]; exact hl) (fun d hd Q q => ?_) (all_bls (fun _ _ => rfl) q)
  obtain ⟨x, hx, e⟩ := mem_dInts hd
  subst e
  have h2 := h x hx
  exact is_below_ev h2.1 (by rw [rowsD_len]; exact h2.2) Q q
theorem check_row_ev (hl : r.length ≤ sizeLine) (h : ∀ x ∈ r, 0 ≤ x ∧ x < (ws.length : Int)) : FEv m_check_row [oD n ws, rD r] .non := fun Q q => are_works_ev hl h _ q
theorem pairs_lt : ∀ l : List Int, lotOk n l → ∀ d ∈ zpD (dInts l) (dInts (l.drop 1)), ∃ x y : Int, d = .tup [.int x, .int y] ∧ x < y
  | [], _, d, hd => by cases hd
  | [x], _, d, hd => by cases hd
  | x :: y :: l, h, d, hd => by
    rcases List.mem_cons.mp hd with e | hd
    · exact ⟨x, y, e, h.2.2.1⟩
    · exact pairs_lt (y :: l) h.2.2.2 d hd
theorem lc_mapB {b : XG} {me : X1} {env : PEnv} (e : D → D) : ∀ (ds acc : List D) (Q : List D → Prop), acc.length + ds.length ≤ sizeLine → (∀ d ∈ ds, ∀ R : D → Prop, R (e d) → b d env fun env1 => me env1 R) → Q (acc ++ ds.map e) → lcLoop b bYes me env ds acc Q
  | [], acc, Q, _, _, q => by simpa [lcLoop] using q
  | d :: ds, acc, Q, hl, he, q => by
    simp at hl
    refine he d List.mem_cons_self (fun y => acc.length < sizeLine ∧ lcLoop b bYes me env ds (acc ++ [y]) Q) ⟨by omega, lc_mapB e ds _ Q (by simp; omega) (fun x hx => he x (List.mem_cons_of_mem _ hx)) (by simpa using q)⟩
theorem immL_dInts : ∀ r : List Int, immL (dInts r) = true
  | [] => rfl
  | x :: r => immL_dInts r
theorem cut_drop {ds : List D} {k : Nat} : cutD ds (some (k : Int)) none = ds.drop k := by
  unfold cutD
  rw [HT.sIx_nat, HT.sIx_none]
  by_cases h : k ≤ ds.length
  · rw [Nat.min_eq_left h, List.take_of_length_le (by simp)]
  · rw [Nat.min_eq_right (by omega), List.drop_length, List.drop_eq_nil_of_le (by omega), List.take_nil]
theorem cut_take {ds : List D} {k : Nat} : cutD ds none (some (k : Int)) = ds.take k := by
  unfold cutD
  rw [HT.sIx_nat, HT.sIx_none, List.drop_zero, Nat.sub_zero]
  by_cases h : k ≤ ds.length
  · rw [Nat.min_eq_left h]
  · rw [Nat.min_eq_right (by omega), List.take_length, List.take_of_length_le (by omega)]
theorem dInts_drop (k : Nat) : (dInts r).drop k = dInts (r.drop k) := by simp [dInts, List.map_drop]
theorem dInts_take (k : Nat) : (dInts r).take k = dInts (r.take k) := by simp [dInts, List.map_take]
theorem is_lot_ev {l : List Int} (hl : l.length ≤ 100) (h : lotOk n l) : FEv m_is_lot [rD l, .int n] (.bl true) := fun Q q => by
  have h100 : 100 ≤ sizeLine := by decide
  refine lc_map (fun _ => .bl true) _ _ (by rw [dInts_len]; omega) (fun d hd Q q => ?_) (all_bls (fun _ _ => rfl) ?_)
  · obtain ⟨x, hx, e⟩ := mem_dInts hd
    subst e
    have h2 := lotOk_all h x hx
    exact is_below_ev h2.1 h2.2 Q q
  · refine ⟨immL_dInts l, ?_⟩
    dsimp only [xNil]
    rw [show cutD (dInts l) (some 1) none = (dInts l).drop 1 from cut_drop (k := 1), dInts_drop]
    refine lc_mapB (fun _ => .bl true) _ [] _ (by rw [zpD_len, dInts_len]; simp; omega) (fun d hd R hR => ?_) (by rw [List.nil_append]; exact all_bls (fun _ _ => rfl) q)
    obtain ⟨x, y, e, hxy⟩ := pairs_lt l h d hd
    subst e
    have e1 : decide (x < y) = true := decide_eq_true hxy
    refine ⟨rfl, ?_⟩
    show R (.bl (decide (x < y)))
    rw [e1]; exact hR
def rangeI (n : Int) : List Int := (List.range n.toNat).map fun k => Int.ofNat k
def WsOk (n : Int) (ws : List (List Int)) : Prop := 1 ≤ n ∧ n ≤ 6 ∧ 1 ≤ ws.length ∧ ws.length ≤ 10 ∧ ∀ l ∈ ws, lotOk n l ∧ l ≠ [] ∧ l.length ≤ 6
theorem mem_rowsD {d : D} (h : d ∈ rowsD ws) : ∃ l, l ∈ ws ∧ d = rD l := by
  obtain ⟨x, hx, e⟩ := List.mem_map.mp h
  exact ⟨x, hx, e.symm⟩
theorem are_office_works_ev (h : WsOk n ws) : FEv m_are_office_works [.int n, wD ws] (.bl true) := fun Q q => by
  obtain ⟨h1, h2, h3, h4, h5⟩ := h
  have h100 : 100 ≤ sizeLine := by decide
  refine .inl ?_
  have e1 : decide ((1 : Int) ≤ ((rowsD ws).length : Nat)) = true := decide_eq_true (by rw [rowsD_len]; omega)
  have e2 : decide ((((rowsD ws).length : Nat) : Int) ≤ 10) = true := decide_eq_true (by rw [rowsD_len]; omega)
  show (if decide ((1 : Int) ≤ ((rowsD ws).length : Nat)) = true then _ else _)
  rw [if_pos e1]
  show (if (!decide ((((rowsD ws).length : Nat) : Int) ≤ 10)) = true then _ else _)
  rw [e2, if_neg (by decide)]
  refine lc_map (fun _ => .bl true) _ _ (by rw [rowsD_len]; omega) (fun d hd Q q => ?_) (all_bls (fun _ _ => rfl) q)
  obtain ⟨l, hm, e⟩ := mem_rowsD hd
  subst e
  obtain ⟨g1, g2, g3⟩ := h5 l hm
  refine is_lot_ev (by omega) g1 _ ?_
  show (if true = true then _ else _)
  rw [if_pos rfl]
  refine .inl ?_
  have e3 : decide ((0 : Int) < ((dInts l).length : Nat)) = true := decide_eq_true (by
    rw [dInts_len]
    have := List.length_pos_iff.mpr g2
    omega)
  show Q (.bl (decide ((0 : Int) < ((dInts l).length : Nat))))
  rw [e3]; exact q
theorem imm_wD : ∀ ws : List (List Int), immL (rowsD ws) = true
  | [] => rfl
  | l :: ws => by
    show (D.imm (.tup (dInts l)) && immL (rowsD ws)) = true
    rw [imm_wD ws, show D.imm (.tup (dInts l)) = true from immL_dInts l]
    rfl
theorem made_ev (h : WsOk n ws) : FEv m__law_made [.tup [.int n, wD ws]] (oD n ws) := fun Q q => by
  obtain ⟨h1, h2, h3, h4, h5⟩ := id h
  refine ⟨rfl, imm_wD ws, rfl, ?_⟩
  have e1 : decide ((1 : Int) ≤ n) = true := decide_eq_true h1
  have e2 : decide (n ≤ 6) = true := decide_eq_true h2
  show (if decide ((1 : Int) ≤ n) = true then _ else _)
  rw [if_pos e1]
  show (if (!decide (n ≤ 6)) = true then _ else _)
  rw [e2, if_neg (by decide)]
  refine are_office_works_ev h _ ?_
  refine ⟨rfl, rfl, by simp, imm_wD ws, rfl, by simp [putFD], ?_⟩
  exact ⟨rfl, by simp [putFD]; split <;> simp, q⟩
/-- the works of a desk in a row -/
def logF (ws : List (List Int)) (r : List Int) (d : Int) : List Int := r.filter fun x => (ws.getD x.toNat []).contains d
theorem atD_some {xs : List D} {x : Int} {d : D} (h0 : 0 ≤ x) (h : xs[x.toNat]? = some d) (q : Q d) : atD xs x Q := by
  have hl := (List.getElem?_eq_some_iff.mp h).1
  unfold atD atI ixN
  rw [if_pos h0, if_pos (by omega)]
  show (match xs[x.toNat]? with | some x => Q x | none => False)
  rw [h]
  exact q
theorem rows_at {x : Int} (h0 : 0 ≤ x) (h1 : x < (ws.length : Int)) : (rowsD ws)[x.toNat]? = some (rD (ws.getD x.toNat [])) := by
  have hj : x.toNat < ws.length := by omega
  unfold rowsD
  rw [List.getElem?_map, List.getElem?_eq_getElem hj, List.getD_eq_getElem?_getD, List.getElem?_eq_getElem hj]
  rfl
theorem eqb_int {a b : Int} : D.eqb (.int a) (.int b) = decide (a = b) := by
  show PyData.eqv (.int a) (.int b) = _
  simp [PyData.eqv]
  by_cases h : a = b <;> simp [h]
theorem any_ints (l : List Int) (b : Int) : ((dInts l).any fun z => D.eqb z (.int b)) = l.contains b := by
  induction l with
  | nil => rfl
  | cons x l ih =>
    show (D.eqb (.int x) (.int b) || (dInts l).any fun z => D.eqb z (.int b)) = _
    rw [ih, eqb_int, List.contains_cons]
    congr 1
    rw [Bool.eq_iff_iff, decide_eq_true_iff, beq_iff_eq]
    exact eq_comm
theorem flat_ints : ∀ l : List Int, (dInts l).all D.flat = true
  | [] => rfl
  | x :: l => flat_ints l
theorem in_ints {b : Int} {l : List Int} (q : Q (.bl (l.contains b))) : oIn false (.int b) (rD l) Q := by
  refine ⟨rfl, flat_ints l, ?_⟩
  rw [any_ints, Bool.false_xor]
  exact q
def tLog (ws : List (List Int)) (k : Int) : D → Bool
  | .int x => (ws.getD x.toNat []).contains k
  | _ => false
theorem filter_ints {k : Int} : (dInts r).filter (tLog ws k) = dInts (logF ws r k) := by
  unfold logF dInts
  rw [List.filter_map]
  rfl
def eLog (ws : List (List Int)) (r : List Int) : D → D
  | .int k => rD (logF ws r k)
  | d => d
theorem rg_rows (f : Int → List Int) : (rgD 0 n.toNat).map (fun d => match d with | .int k => rD (f k) | d => d) = rowsD ((rangeI n).map f) := by
  unfold rgD rangeI rowsD
  rw [List.map_map, List.map_map, List.map_map]
  refine List.map_congr_left fun k _ => ?_
  show rD (f (0 + (k : Int))) = rD (f (Int.ofNat k))
  rw [Int.zero_add]
  rfl
theorem immL_rows : ∀ ws : List (List Int), immL (rowsD ws) = true := imm_wD
theorem all_logs_ev (h : WsOk n ws) (hl : r.length ≤ 100) (hr : ∀ x ∈ r, 0 ≤ x ∧ x < (ws.length : Int)) : FEv m_all_logs [oD n ws, rD r] (.tup (rowsD ((rangeI n).map (logF ws r)))) := fun Q q => by
  obtain ⟨h1, h2, _⟩ := h
  have h100 : 100 ≤ sizeLine := by decide
  refine ⟨rfl, ⟨by omega, by omega⟩, ?_⟩
  refine lc_map (fun d => match d with | .int k => rD (logF ws r k) | d => d) _ _ (by rw [rgD_len]; omega) (fun d hd R hR => ?_) ?_
  · obtain ⟨k, _, e⟩ := List.mem_map.mp hd
    subst e
    refine lc_ev (tLog ws (0 + (k : Int))) id _ [] _ (by rw [dInts_len]; simp; omega) (fun d hd T hT => ?_) (fun d hd _ T hT => ?_) ?_
    · obtain ⟨x, hx, e⟩ := mem_dInts hd
      subst e
      refine ⟨rfl, ?_⟩
      exact atD_some (hr x hx).1 (rows_at (hr x hx).1 (hr x hx).2) (in_ints hT)
    · obtain ⟨x, hx, e⟩ := mem_dInts hd
      subst e
      exact ⟨rfl, hT⟩
    · rw [List.map_id, List.nil_append, filter_ints]
      exact ⟨immL_dInts _, hR⟩
  · rw [rg_rows]
    exact ⟨immL_rows _, q⟩
theorem eqv_ints : ∀ a b : List Int, PyData.eqvAll (pyL (dInts a)) (pyL (dInts b)) = decide (a = b)
  | [], [] => rfl
  | [], _ :: _ => rfl
  | _ :: _, [] => rfl
  | x :: a, y :: b => by
    show (PyData.eqv (.int x) (.int y) && PyData.eqvAll (pyL (dInts a)) (pyL (dInts b))) = _
    rw [eqv_ints a b, show PyData.eqv (.int x) (.int y) = decide (x = y) from eqb_int, Bool.eq_iff_iff]
    simp
theorem eqv_rows : ∀ a b : List (List Int), PyData.eqvAll (pyL (rowsD a)) (pyL (rowsD b)) = decide (a = b)
  | [], [] => rfl
  | [], _ :: _ => rfl
  | _ :: _, [] => rfl
  | x :: a, y :: b => by
    show (PyData.eqv (.tuple (pyL (dInts x))) (.tuple (pyL (dInts y))) && PyData.eqvAll (pyL (rowsD a)) (pyL (rowsD b))) = _
    rw [eqv_rows a b, show PyData.eqv (.tuple (pyL (dInts x))) (.tuple (pyL (dInts y))) = decide (x = y) from eqv_ints x y, Bool.eq_iff_iff]
    simp
theorem lay_ints : ∀ a : List Int, PyData.canLayAll0 (pyL (dInts a)) = true
  | [] => rfl
  | x :: a => by
    show (true && PyData.canLayAll0 (pyL (dInts a))) = true
    rw [lay_ints a] <;> rfl
theorem lay_rows : ∀ a : List (List Int), PyData.canLayAll0 (pyL (rowsD a)) = true
  | [] => rfl
  | x :: a => by
    show (PyData.canLayAll0 (pyL (dInts x)) && PyData.canLayAll0 (pyL (rowsD a))) = true
    rw [lay_ints x, lay_rows a] <;> rfl
theorem dep_ints : ∀ a : List Int, PyData.depthAll (pyL (dInts a)) = 0
  | [] => rfl
  | x :: a => by
    show max 0 (PyData.depthAll (pyL (dInts a))) = 0
    rw [dep_ints a] <;> rfl
theorem dep_rows : ∀ a : List (List Int), PyData.depthAll (pyL (rowsD a)) ≤ 1
  | [] => by decide
  | x :: a => by
    show max (PyData.depthAll (pyL (dInts x)) + 1) (PyData.depthAll (pyL (rowsD a))) ≤ 1
    rw [dep_ints x]
    exact Nat.max_le.mpr ⟨Nat.le_refl _, dep_rows a⟩
theorem sh_rows (a : List (List Int)) : Sh (.tup (rowsD a)) := by
  show (PyData.canLayAll0 (pyL (rowsD a)) && decide (PyData.depthAll (pyL (rowsD a)) + 1 ≤ 64)) = true
  rw [lay_rows a, decide_eq_true (by have := dep_rows a; omega)]
  rfl
theorem sh_ints (a : List Int) : Sh (rD a) := by
  show (PyData.canLayAll0 (pyL (dInts a)) && decide (PyData.depthAll (pyL (dInts a)) + 1 ≤ 64)) = true
  rw [lay_ints a, dep_ints a] <;> rfl
def logsF (n : Int) (ws : List (List Int)) (r : List Int) : List (List Int) := (rangeI n).map (logF ws r)
def RowOk (ws : List (List Int)) (r : List Int) : Prop := r.length ≤ 100 ∧ ∀ x ∈ r, 0 ≤ x ∧ x < (ws.length : Int)
section
theorem alike_un {a b c : D} : m_alike [a, b, c] Q = m_check_row [a, b] fun _ => m_check_row [a, c] fun _ => m_all_logs [a, b] fun x => m_all_logs [a, c] fun y => oEq x y Q := rfl
end
theorem alike_ev {r s : List Int} (h : WsOk n ws) (hr : RowOk ws r) (hs : RowOk ws s) : FEv m_alike [oD n ws, rD r, rD s] (.bl (decide (logsF n ws r = logsF n ws s))) := fun Q q => by
  have h100 : 100 ≤ sizeLine := by decide
  rw [alike_un]
  refine check_row_ev (by have := hr.1; omega) hr.2 _ (check_row_ev (by have := hs.1; omega) hs.2 _ ?_)
  refine all_logs_ev h hr.1 hr.2 _ (all_logs_ev h hs.1 hs.2 _ ⟨sh_rows _, sh_rows _, ?_⟩)
  rw [show D.eqb (.tup (rowsD ((rangeI n).map (logF ws r)))) (.tup (rowsD ((rangeI n).map (logF ws s)))) = decide (logsF n ws r = logsF n ws s) from eqv_rows _ _]
  exact q
end
end Pu

/-! file V04c -/
set_option Elab.async false
set_option linter.all false
set_option maxRecDepth 100000
namespace Pu
open PySem PySem.Spec PyProof.Rows L2
section
variable {Q : D → Prop} {i n : Int} {ns ms r : List Int} {ws : List (List Int)}
theorem flag_ev {a b : Bool} : FEv m__law_flag [.bl a, .bl b] (.bl (a == b)) := fun Q q => ⟨rfl, rfl, by
  show Q (.bl (PyData.eqv (.bool a) (.bool b)))
  exact q⟩
def pD (n : Int) (ws : List (List Int)) : D := .tup [.int n, wD ws]
def W (ws : List (List Int)) (x : Int) : List Int := ws.getD x.toNat []
def meetsF (ws : List (List Int)) (x y : Int) : Bool := (W ws x).any fun d => (W ws y).contains d
def eIn (l : List Int) : D → D
  | .int d => .bl (l.contains d)
  | d => d
theorem any_in (a b : List Int) (q : Q (.bl (a.any fun d => b.contains d))) : oAny false (.lst ((dInts a).map (eIn b))) Q := by
  refine ⟨a.map fun d => b.contains d, ?_, ?_⟩
  · unfold dInts
    rw [List.map_map, List.map_map]
    rfl
  · rw [if_neg Bool.false_ne_true, List.any_map]
    exact q
def WsLen (ws : List (List Int)) : Prop := ∀ l ∈ ws, l.length ≤ 6
theorem w_len (h : WsLen ws) (x : Int) : (W ws x).length ≤ 6 := by
  unfold W
  rw [List.getD_eq_getElem?_getD]
  cases e : ws[x.toNat]? with
  | none => simp
  | some l => exact h l (List.mem_of_getElem? e)
theorem meets_ev {x y : Int} (h : WsLen ws) (hx : 0 ≤ x ∧ x < (ws.length : Int)) (hy : 0 ≤ y ∧ y < (ws.length : Int)) : FEv m__law_meets [pD n ws, .int x, .int y] (.bl (meetsF ws x y)) := fun Q q => by
  have h100 : 100 ≤ sizeLine := by decide
  have hw : ∀ (z : Int) (R : D → Prop), (0 ≤ z ∧ z < (ws.length : Int)) → R (rD (W ws z)) → atD (rowsD ws) z R := fun z R hz q => atD_some hz.1 (rows_at hz.1 hz.2) q
  refine hw x _ hx ?_
  refine lc_map (eIn (W ws y)) _ _ (by rw [dInts_len]; have := w_len h x; omega) (fun d hd R hR => ?_) (any_in _ _ q)
  obtain ⟨z, hz, e⟩ := mem_dInts hd
  subst e
  exact hw y _ hy (in_ints hR)
def nearF (ws : List (List Int)) : List (List Bool) := (rangeI ws.length).map fun x => (rangeI ws.length).map fun y => meetsF ws x y
def blD (l : List Bool) : D := .lst (l.map .bl)
def nD (near : List (List Bool)) : D := .lst (near.map blD)
section
theorem near_ev (h : WsLen ws) (hl : ws.length ≤ 10) : FEv m__law_near [pD n ws] (nD (nearF ws)) := fun Q q => by
  have h100 : 100 ≤ sizeLine := by decide
  refine .inl ⟨by rw [rowsD_len]; constructor <;> omega, ?_⟩
  have em : ∀ d, d ∈ rgD 0 ((((rowsD ws).length : Nat) : Int) - 0).toNat → ∃ k : Nat, k < ws.length ∧ d = .int (0 + (k : Int)) := fun d hd => by
    obtain ⟨k, hk, e⟩ := List.mem_map.mp hd
    refine ⟨k, ?_, e.symm⟩
    have := List.mem_range.mp hk
    rw [rowsD_len] at this
    omega
  have len : (rgD 0 ((((rowsD ws).length : Nat) : Int) - 0).toNat).length ≤ sizeLine := by rw [rgD_len, rowsD_len]; omega
  have conv : ∀ (f : Int → D) (g : D → D), (∀ k : Int, g (.int k) = f k) → (rgD 0 ((((rowsD ws).length : Nat) : Int) - 0).toNat).map g = (rangeI ws.length).map f := fun f g hg => by
    unfold rgD rangeI
    rw [List.map_map, List.map_map, rowsD_len, Int.sub_zero]
    simp only [Int.toNat_natCast]
    refine List.map_congr_left fun k _ => ?_
    show g (.int (0 + (k : Int))) = f (Int.ofNat k)
    rw [hg, Int.zero_add]
    rfl
  refine lc_map (fun d => match d with | .int x => blD ((rangeI ws.length).map fun y => meetsF ws x y) | d => d) _ _ len (fun d hd R hR => ?_) ?_
  · obtain ⟨k, hk, e⟩ := em d hd
    subst e
    refine lc_map (fun d => match d with | .int y => .bl (meetsF ws (0 + (k : Int)) y) | d => d) _ _ len (fun d2 hd2 T hT => ?_) ?_
    · obtain ⟨k2, hk2, e⟩ := em d2 hd2
      subst e
      exact meets_ev h ⟨by omega, by omega⟩ ⟨by omega, by omega⟩ T hT
    · rw [conv (fun y => .bl (meetsF ws (0 + (k : Int)) y)) _ fun _ => rfl]
      have hR : R (.lst (((rangeI ws.length).map fun y => meetsF ws (0 + (k : Int)) y).map .bl)) := hR
      rw [List.map_map] at hR
      exact hR
  · rw [conv (fun x => blD ((rangeI ws.length).map fun y => meetsF ws x y)) _ fun _ => rfl]
    unfold nD nearF at q
    rw [List.map_map] at q
    exact q
end
end
end Pu

/-! file V04d -/
set_option Elab.async false
set_option linter.all false
set_option maxRecDepth 100000
set_option synthInstance.maxHeartbeats 0
set_option synthInstance.maxSize 100000
namespace Pu
open PySem PySem.Spec PyProof.Rows L2
def bp_0 : XS := sSet 2 (x2 oAdd (xC (.int 1)) (xCall m__law_draw (xDice (xCons (xVar 1) xNil))))
def bp_1 : XS := sSet 3 (xCall m__law_draw (xDice (xCons (xC (.int 4)) xNil)))
def bp_2 : XS := sSet 4 (xLst xNil)
def bp_3 : XS := sIf (bAnd (bTest (x2 oEq (xVar 3) (xC (.int 1)))) (bTest (x2 (oI fun i j => .bl (decide (j < i))) (xVar 2) (xC (.int 2))))) (sSet 4 (xLc (mRng1 (xVar 2)) (bName 7) bYes (x1 oTup (x1 oSortA (xLst (xCons (xImm (xVar 7)) (xCons (x2 (oIc (fun _ j => j ≠ 0) fun i j => .int (i.fmod j)) (x1 oInt (x2 oAdd (xVar 7) (xC (.int 1)))) (xVar 2)) xNil))))))) sNext
def bp_4 : XS := sIf (bTest (x2 oEq (xVar 3) (xC (.int 2)))) (sSet 4 (xLc (mRng1 (xVar 2)) (bName 7) bYes (xTup (xCons (xImm (xVar 7)) xNil)))) sNext
def bp_5 : XS := sIf (bAnd (bTest (x2 oEq (xVar 3) (xC (.int 3)))) (bTest (x2 (oI fun i j => .bl (decide (j < i))) (xVar 2) (xC (.int 1))))) (sSet 4 (xLc (mRng2 (xC (.int 1)) (xVar 2)) (bName 7) bYes (xTup (xCons (xC (.int 0)) (xCons (xImm (xVar 7)) xNil))))) sNext
def bp_6 : XS := sFor (mRng1 (x2 oAdd (xC (.int 1)) (xCall m__law_draw (xDice (xCons (xC (.int 4)) xNil))))) (bName 5) (sSeq (sSet 6 (x1 oTup (xLc (mRng1 (xVar 2)) (bName 7) (bTest (x2 oEq (xCall m__law_draw (xDice (xCons (xC (.int 2)) xNil))) (xC (.int 0)))) (xImm (xVar 7))))) (sApp 4 (xIf (bTest (x2 (oI fun i j => .bl (decide (j < i))) (x1 oLenA (xVar 6)) (xC (.int 0)))) (xImm (xVar 6)) (xTup (xCons (xCall m__law_draw (xDice (xCons (xVar 2) xNil))) xNil)))))
def bp_7 : XS := sRet (xTup (xCons (xImm (xVar 2)) (xCons (x1 oTup (xSl (xVar 4) pNo (pYes (xC (.int 10))))) xNil)))
section
variable {Q : D → Prop} {i n : Int} {ns ms r : List Int} {ws : List (List Int)} {dd : D} {e5 e6 e7 : Option D}
def Good (n : Int) (l : List Int) : Prop := lotOk n l ∧ l ≠ [] ∧ l.length ≤ 6
theorem two_good {a b : Int} (p : ns.Perm [a, b]) (s : ns.Pairwise (· ≤ ·)) (ne : a ≠ b) (ha : 0 ≤ a ∧ a < n) (hb : 0 ≤ b ∧ b < n) : Good n ns := by
  have hl := p.length_eq
  match ns, hl, p, s with
  | [x, y], _, p, s =>
    have nd : [x, y].Nodup := p.nodup_iff.mpr (by simp [ne])
    have hx : x ∈ [a, b] := p.mem_iff.mp (by simp)
    have hy : y ∈ [a, b] := p.mem_iff.mp (by simp)
    simp at nd hx hy s
    refine ⟨⟨?_, ?_, ?_, ?_⟩, by simp, by simp⟩
    · rcases hx with e | e <;> omega
    · rcases hx with e | e <;> omega
    · omega
    · show 0 ≤ y ∧ y < n
      rcases hy with e | e <;> omega
def PG1 (n : Int) (d : D) : Prop := ∃ l, d = rD l ∧ Good n l
theorem of_P : ∀ {ys : List D}, (∀ y ∈ ys, PG1 n y) → ∃ L : List (List Int), ys = rowsD L ∧ ∀ l ∈ L, Good n l
  | [], _ => ⟨[], rfl, fun _ h => nomatch h⟩
  | y :: ys, h => by
    obtain ⟨L, e, g⟩ := of_P fun z hz => h z (List.mem_cons_of_mem _ hz)
    obtain ⟨l, e2, g2⟩ := h y List.mem_cons_self
    refine ⟨l :: L, by rw [e2, e] <;> rfl, fun z hz => ?_⟩
    rcases List.mem_cons.mp hz with z1 | z1
    · rw [z1]; exact g2
    · exact g z z1
def pEnv (dd : D) (most n kind : Int) (L : List (List Int)) (e5 e6 e7 : Option D) : PEnv := [some dd, some (.int most), some (.int n), some (.int kind), some (.lst (rowsD L)), e5, e6, e7]
def LG (n : Int) (L : List (List Int)) : Prop := L.length ≤ 6 ∧ ∀ l ∈ L, Good n l
theorem mem_rg {lo : Int} {k : Nat} {d : D} (h : d ∈ rgD lo k) : ∃ j : Nat, j < k ∧ d = .int (lo + (j : Int)) := by
  obtain ⟨j, hj, e⟩ := List.mem_map.mp h
  exact ⟨j, List.mem_range.mp hj, e.symm⟩
theorem bp3_ev {most kind : Int} {L : List (List Int)} {E : PEnds} (n1 : 1 ≤ n) (n6 : n ≤ 6) (hL : LG n L) (h : ∀ L, LG n L → E.nx (pEnv dd most n kind L e5 e6 e7)) : bp_3 E (pEnv dd most n kind L e5 e6 e7) := by
  have h100 : 100 ≤ sizeLine := by decide
  refine ⟨rfl, rfl, ?_⟩
  show (if _ = true then _ else _)
  split
  · show (if decide (2 < n) = true then _ else _)
    split
    · rename_i hn
      have hn := of_decide_eq_true hn
      refine ⟨⟨by omega, by omega⟩, ?_⟩
      refine lc_P (PG1 n) _ [] _ (by rw [rgD_len]; simp; omega) (fun d hd R hR => ?_) fun ys hl hy => ?_
      · obtain ⟨j, hj, e⟩ := mem_rg hd
        subst e
        have hf := fmod_lt (i := 0 + (j : Int) + 1) (j := n) (by omega)
        have ne : (0 + (j : Int)) ≠ (0 + (j : Int) + 1).fmod n := fun e => by
          rw [Int.fmod_eq_emod_of_nonneg _ (by omega)] at e
          by_cases hh : (0 + (j : Int) + 1) < n
          · rw [Int.emod_eq_of_lt (by omega) hh] at e
            omega
          · have e1 : (0 + (j : Int) + 1) = n := by omega
            rw [e1, Int.emod_self] at e
            omega
        refine ⟨rfl, by show n ≠ 0; omega, by show 2 ≤ sizeLine; decide, .inl ⟨[_, _], rfl, fun ns' p s => ⟨immL_dInts ns', hR _ ⟨ns', rfl, two_good p s ne ⟨by omega, by omega⟩ hf⟩⟩⟩⟩
      · obtain ⟨L', e, g⟩ := of_P hy
        rw [List.nil_append, e]
        exact h L' ⟨by rw [← rowsD_len, ← e, hl, rgD_len]; omega, g⟩
    · exact h L hL
  · exact h L hL
theorem bp4_ev {most kind : Int} {L : List (List Int)} {E : PEnds} (n1 : 1 ≤ n) (n6 : n ≤ 6) (hL : LG n L) (h : ∀ L, LG n L → E.nx (pEnv dd most n kind L e5 e6 e7)) : bp_4 E (pEnv dd most n kind L e5 e6 e7) := by
  have h100 : 100 ≤ sizeLine := by decide
  refine ⟨rfl, rfl, ?_⟩
  show (if _ = true then _ else _)
  split
  · refine ⟨⟨by omega, by omega⟩, ?_⟩
    refine lc_P (PG1 n) _ [] _ (by rw [rgD_len]; simp; omega) (fun d hd R hR => ?_) fun ys hl hy => ?_
    · obtain ⟨j, hj, e⟩ := mem_rg hd
      subst e
      exact ⟨rfl, by show 1 ≤ sizeLine; decide, hR _ ⟨[_], rfl, ⟨by omega, by omega⟩, by simp, by simp⟩⟩
    · obtain ⟨L', e, g⟩ := of_P hy
      rw [List.nil_append, e]
      exact h L' ⟨by rw [← rowsD_len, ← e, hl, rgD_len]; omega, g⟩
  · exact h L hL
theorem bp5_ev {most kind : Int} {L : List (List Int)} {E : PEnds} (n1 : 1 ≤ n) (n6 : n ≤ 6) (hL : LG n L) (h : ∀ L, LG n L → E.nx (pEnv dd most n kind L e5 e6 e7)) : bp_5 E (pEnv dd most n kind L e5 e6 e7) := by
  have h100 : 100 ≤ sizeLine := by decide
  refine ⟨rfl, rfl, ?_⟩
  show (if _ = true then _ else _)
  split
  · show (if decide (1 < n) = true then _ else _)
    split
    · rename_i hn
      have hn := of_decide_eq_true hn
      refine ⟨⟨by decide, by decide⟩, ⟨by omega, by omega⟩, ?_⟩
      refine lc_P (PG1 n) _ [] _ (by rw [rgD_len]; simp; omega) (fun d hd R hR => ?_) fun ys hl hy => ?_
      · obtain ⟨j, hj, e⟩ := mem_rg hd
        subst e
        exact ⟨rfl, by show 2 ≤ sizeLine; decide, hR _ ⟨[0, _], rfl, ⟨by omega, by omega, by omega, by omega, by omega⟩, by simp, by simp⟩⟩
      · obtain ⟨L', e, g⟩ := of_P hy
        rw [List.nil_append, e]
        exact h L' ⟨by rw [← rowsD_len, ← e, hl, rgD_len]; omega, g⟩
    · exact h L hL
  · exact h L hL
theorem lot_of : ∀ {l : List Int}, l.Pairwise (· < ·) → (∀ x ∈ l, 0 ≤ x ∧ x < n) → lotOk n l
  | [], _, _ => trivial
  | [x], _, h => h x List.mem_cons_self
  | x :: y :: r, p, h => ⟨(h x List.mem_cons_self).1, (h x List.mem_cons_self).2, (List.pairwise_cons.mp p).1 y List.mem_cons_self, lot_of (List.pairwise_cons.mp p).2 fun z hz => h z (List.mem_cons_of_mem _ hz)⟩
theorem rangeI_pw (n : Int) : (rangeI n).Pairwise (· < ·) := by
  unfold rangeI
  rw [List.pairwise_map]
  exact List.pairwise_lt_range.imp fun h => Int.ofNat_lt.mpr h
theorem rangeI_mem {x : Int} (h : x ∈ rangeI n) : 0 ≤ x ∧ x < n := by
  obtain ⟨k, hk, e⟩ := List.mem_map.mp h
  have := List.mem_range.mp hk
  have e : x = (k : Int) := e.symm
  omega
theorem sub_range {ys : List D} (s : ys.Sublist (rgD 0 n.toNat)) : ∃ l : List Int, ys = dInts l ∧ lotOk n l ∧ l.length ≤ n.toNat := by
  have e : rgD 0 n.toNat = (rangeI n).map D.int := by
    unfold rgD rangeI
    rw [List.map_map]
    refine List.map_congr_left fun k _ => ?_
    show D.int (0 + (k : Int)) = D.int (Int.ofNat k)
    rw [Int.zero_add]
    rfl
  have hl := s.length_le
  rw [rgD_len] at hl
  rw [e] at s
  obtain ⟨l, hs, e2⟩ := List.sublist_map_iff.mp s
  refine ⟨l, e2, lot_of ((rangeI_pw n).sublist hs) fun x hx => rangeI_mem (hs.mem hx), ?_⟩
  rw [e2, List.length_map] at hl
  exact hl
theorem rowsD_snoc (L : List (List Int)) (l : List Int) : rowsD L ++ [rD l] = rowsD (L ++ [l]) := by
  unfold rowsD
  rw [List.map_append]
  rfl
def bodyP : XS := sSeq (sSet 6 (x1 oTup (xLc (mRng1 (xVar 2)) (bName 7) (bTest (x2 oEq (xCall m__law_draw (xDice (xCons (xC (.int 2)) xNil))) (xC (.int 0)))) (xImm (xVar 7))))) (sApp 4 (xIf (bTest (x2 (oI fun i j => .bl (decide (j < i))) (x1 oLenA (xVar 6)) (xC (.int 0)))) (xImm (xVar 6)) (xTup (xCons (xCall m__law_draw (xDice (xCons (xVar 2) xNil))) xNil))))
instance : MS bodyP := by unfold bodyP; infer_instance
theorem bodyP_ev {most kind : Int} {L : List (List Int)} {E : PEnds} (n1 : 1 ≤ n) (n6 : n ≤ 6) (hL : L.length ≤ 9) (h : ∀ l e6, Good n l → E.nx (pEnv dd most n kind (L ++ [l]) e5 e6 e7)) : bodyP E (pEnv dd most n kind L e5 e6 e7) := by
  have h100 : 100 ≤ sizeLine := by decide
  refine ⟨⟨by omega, by omega⟩, ?_⟩
  refine lc_F id _ [] _ (by rw [rgD_len]; simp; omega) (fun d hd R hR => ⟨by decide, by decide, fun r _ _ => ⟨rfl, rfl, hR _⟩⟩) (fun d hd R hR => ?_) fun ys s => ?_
  · obtain ⟨j, hj, e⟩ := mem_rg hd
    subst e
    exact ⟨rfl, hR⟩
  · rw [List.map_id, List.nil_append]
    obtain ⟨l, e, g1, g2⟩ := sub_range s
    subst e
    refine ⟨immL_dInts l, .inl ?_⟩
    show (if decide ((0 : Int) < ((dInts l).length : Nat)) = true then _ else _)
    split
    · rename_i hh
      have hh := of_decide_eq_true hh
      rw [dInts_len] at hh
      refine ⟨immL_dInts l, by rw [rowsD_len]; omega, ?_⟩
      have hg : Good n l := ⟨g1, fun e => by subst e; simp at hh, by omega⟩
      have := h l (some (rD l)) hg
      unfold pEnv at this
      rw [← rowsD_snoc] at this
      exact this
    · refine ⟨by omega, by omega, fun r r0 r1 => ⟨by show 1 ≤ sizeLine; decide, by rw [rowsD_len]; omega, ?_⟩⟩
      have hg : Good n [r] := ⟨⟨r0, r1⟩, by simp, by simp⟩
      have := h [r] (some (rD l)) hg
      unfold pEnv at this
      rw [← rowsD_snoc] at this
      exact this
def WP (dd : D) (most n kind : Int) (e7 : Option D) (ds : List D) (env : PEnv) : Prop := ∃ L e5 e6, env = pEnv dd most n kind L e5 e6 e7 ∧ (∀ l ∈ L, Good n l) ∧ L.length + ds.length ≤ 10 ∧ 1 ≤ L.length + ds.length
theorem bp6_ev {most kind : Int} {L : List (List Int)} {E : PEnds} (n1 : 1 ≤ n) (n6 : n ≤ 6) (hL : LG n L) (h : ∀ L e5 e6, (∀ l ∈ L, Good n l) → 1 ≤ L.length → L.length ≤ 10 → E.nx (pEnv dd most n kind L e5 e6 e7)) : bp_6 E (pEnv dd most n kind L e5 e6 e7) := by
  refine ⟨by decide, by decide, fun r r0 r1 => ⟨⟨by omega, by omega⟩, ?_⟩⟩
  refine loop_ev (b := bName 5) (body := bodyP) (WP dd most n kind e7) ?_ (fun d env Q Q' k q => k _ q) (MS.all (m := bodyP) _ _ _) _ _ ⟨L, e5, e6, rfl, hL.2, ?_, ?_⟩ ?_
  · rintro d ds env ⟨L, e5, e6, rfl, g, l1, l2⟩
    simp at l1
    refine bodyP_ev (e5 := some d) n1 n6 (by omega) fun l e6 gl => ⟨L ++ [l], some d, e6, rfl, fun z hz => ?_, by simp; omega, by simp; omega⟩
    rcases List.mem_append.mp hz with z1 | z1
    · exact g z z1
    · rw [List.mem_singleton.mp z1]; exact gl
  · rw [rgD_len]; have := hL.1; omega
  · rw [rgD_len]; omega
  · rintro env ⟨L, e5, e6, rfl, g, l1, l2⟩
    exact h L e5 e6 g (by simpa using l2) (by simpa using l1)
theorem bp7_ev {most kind : Int} {L : List (List Int)} {E : PEnds} (hL : L.length ≤ 10) (h : E.rt (pD n L)) : bp_7 E (pEnv dd most n kind L e5 e6 e7) := by
  refine ⟨rfl, immL_rows L, ?_⟩
  have e : cutD (rowsD L) none (some 10) = rowsD L := by
    rw [show cutD (rowsD L) none (some 10) = (rowsD L).take 10 from cut_take (k := 10), List.take_of_length_le (by rw [rowsD_len]; exact hL)]
  dsimp only
  rw [e]
  exact ⟨immL_rows L, by show 2 ≤ sizeLine; decide, h⟩
theorem parts_ev {most : Int} (h1 : 1 ≤ most) (h6 : most ≤ 6) : FP m__law_parts [dd, .int most] (fun d => ∃ n ws, d = pD n ws ∧ WsOk n ws) := fun Q q => by
  refine ⟨by omega, by omega, fun r r0 r1 => ⟨by decide, by decide, fun kind k0 k1 => ⟨by show 0 ≤ sizeLine; decide, ?_⟩⟩⟩
  have n1 : 1 ≤ 1 + r := by omega
  have n6 : 1 + r ≤ 6 := by omega
  refine bp3_ev (L := []) n1 n6 ⟨by simp, fun _ h => nomatch h⟩ fun L hL => bp4_ev n1 n6 hL fun L hL => bp5_ev n1 n6 hL fun L hL => bp6_ev n1 n6 hL fun L e5 e6 g l1 l2 => bp7_ev l2 (q _ ⟨_, L, rfl, n1, n6, l1, l2, g⟩)
end
end Pu

/-! file V04e -/
set_option Elab.async false
set_option linter.all false
set_option maxRecDepth 100000
set_option synthInstance.maxHeartbeats 0
set_option synthInstance.maxSize 100000
namespace Pu
open PySem PySem.Spec PyProof.Rows L2
section
variable {Q : D → Prop} {i n : Int} {ns ms r : List Int} {ws : List (List Int)} {dd : D} {e5 e6 e7 : Option D}
section
theorem some_parts_ev : FP m__law_some_parts [dd] (fun d => ∃ n ws, d = pD n ws ∧ WsOk n ws) := fun Q q => by
  refine ⟨by decide, by decide, fun r _ _ => ⟨rfl, rfl, ?_⟩⟩
  show (if _ = true then _ else _)
  split
  · exact parts_ev (by decide) (by decide) Q q
  · exact parts_ev (by decide) (by decide) Q q
end
def InW (ws : List (List Int)) (r : List Int) : Prop := ∀ x ∈ r, 0 ≤ x ∧ x < (ws.length : Int)
def PW1 (m : Int) (d : D) : Prop := ∃ x, d = .int x ∧ 0 ≤ x ∧ x < m
theorem of_PW {m : Int} : ∀ {ys : List D}, (∀ y ∈ ys, PW1 m y) → ∃ r : List Int, ys = dInts r ∧ ∀ x ∈ r, 0 ≤ x ∧ x < m
  | [], _ => ⟨[], rfl, fun _ h => nomatch h⟩
  | y :: ys, h => by
    obtain ⟨L, e, g⟩ := of_PW fun z hz => h z (List.mem_cons_of_mem _ hz)
    obtain ⟨x, e2, g2⟩ := h y List.mem_cons_self
    refine ⟨x :: L, by rw [e2, e] <;> rfl, fun z hz => ?_⟩
    rcases List.mem_cons.mp hz with z1 | z1
    · rw [z1]; exact g2
    · exact g z z1
theorem row_ev {most : Int} (m0 : 0 ≤ most) (m1 : most ≤ 100) (w1 : 1 ≤ ws.length) (w2 : ws.length ≤ 10) : FP m__law_row [dd, pD n ws, .int most] (fun d => ∃ r : List Int, d = rD r ∧ (r.length : Int) ≤ most ∧ InW ws r) := fun Q q => by
  have h200 : 200 ≤ sizeLine := by decide
  refine ⟨by omega, by omega, fun k k0 k1 => ⟨⟨by omega, by omega⟩, ?_⟩⟩
  refine lc_P (PW1 (ws.length : Int)) _ [] _ (by rw [rgD_len]; simp; omega) (fun d hd R hR => .inl ?_) fun ys hl hy => ?_
  · refine ⟨by rw [rowsD_len]; omega, by rw [rowsD_len]; omega, fun r r0 r1 => hR _ ⟨r, rfl, r0, ?_⟩⟩
    rw [rowsD_len] at r1
    exact r1
  · obtain ⟨r, e, g⟩ := of_PW hy
    rw [List.nil_append]
    subst e
    refine ⟨immL_dInts r, q _ ⟨r, rfl, ?_, g⟩⟩
    rw [rgD_len, dInts_len] at hl
    omega
/-- near by its numbers -/
theorem atD_blD {near : List (List Bool)} {x : Int} (h0 : 0 ≤ x) (h1 : x < (near.length : Int)) (q : Q (blD (near.getD x.toNat []))) : atD (near.map blD) x Q := by
  have hj : x.toNat < near.length := by omega
  refine atD_some h0 ?_ q
  rw [List.getElem?_map, List.getElem?_eq_getElem hj, List.getD_eq_getElem?_getD, List.getElem?_eq_getElem hj]
  rfl
theorem atD_bl {l : List Bool} {x : Int} (h0 : 0 ≤ x) (h1 : x < (l.length : Int)) (q : Q (.bl (l.getD x.toNat false))) : atD (l.map .bl) x Q := by
  have hj : x.toNat < l.length := by omega
  refine atD_some h0 ?_ q
  rw [List.getElem?_map, List.getElem?_eq_getElem hj, List.getD_eq_getElem?_getD, List.getElem?_eq_getElem hj]
  rfl
theorem atD_int {l : List Int} {x : Int} (h0 : 0 ≤ x) (h1 : x < (l.length : Int)) (q : Q (.int (l.getD x.toNat 0))) : atD (dInts l) x Q := by
  have hj : x.toNat < l.length := by omega
  refine atD_some h0 ?_ q
  unfold dInts
  rw [List.getElem?_map, List.getElem?_eq_getElem hj, List.getD_eq_getElem?_getD, List.getElem?_eq_getElem hj]
  rfl
theorem range_getD {f : Int → α} {d : α} {m : Int} {x : Int} (h0 : 0 ≤ x) (h1 : x < m) : ((rangeI m).map f).getD x.toNat d = f x := by
  have hj : x.toNat < m.toNat := by omega
  rw [List.getD_eq_getElem?_getD]
  unfold rangeI
  rw [List.map_map, List.getElem?_map, List.getElem?_range hj]
  show f (Int.ofNat x.toNat) = f x
  congr 1
  exact Int.toNat_of_nonneg h0
theorem nearF_len : (nearF ws).length = ws.length := by unfold nearF rangeI; simp
theorem near_at {x y : Int} (hx : 0 ≤ x ∧ x < (ws.length : Int)) (hy : 0 ≤ y ∧ y < (ws.length : Int)) (q : Q (.bl (meetsF ws x y))) : oIx (nD (nearF ws)) (.int x) fun d => oIx d (.int y) Q := by
  refine atD_blD hx.1 (by rw [nearF_len]; exact hx.2) ?_
  unfold nearF
  rw [range_getD hx.1 hx.2]
  refine atD_bl hy.1 (by unfold rangeI; simp; exact hy.2) ?_
  rw [range_getD hy.1 hy.2]
  exact q
/-! ### rows changed by drawn doings -/
def swapAt (r : List Int) (k : Nat) : List Int := (r.set k (r.getD (k + 1) 0)).set (k + 1) (r.getD k 0)
theorem inW_set {k : Nat} {x : Int} (h : InW ws r) (hx : 0 ≤ x ∧ x < (ws.length : Int)) : InW ws (r.set k x) := fun y hy => by
  rcases List.mem_or_eq_of_mem_set hy with z | z
  · exact h y z
  · rw [z]; exact hx
theorem inW_getD {k : Nat} (h : InW ws r) (hk : k < r.length) : 0 ≤ r.getD k 0 ∧ r.getD k 0 < (ws.length : Int) := by
  rw [List.getD_eq_getElem?_getD, List.getElem?_eq_getElem hk]
  exact h _ (List.getElem_mem hk)
theorem inW_swap {k : Nat} (h : InW ws r) (hk : k + 1 < r.length) : InW ws (swapAt r k) := inW_set (inW_set h (inW_getD h hk)) (inW_getD h (by omega))
theorem swap_len {k : Nat} : (swapAt r k).length = r.length := by simp [swapAt]
theorem setD_int {l : List Int} {x y : Int} {k : D → Prop} (h0 : 0 ≤ x) (h1 : x < (l.length : Int)) (q : k (.lst (dInts (l.set x.toNat y)))) : setD (.lst (dInts l)) (.int x) (.int y) k := by
  show (match ixN (dInts l).length x with | some j => k (.lst ((dInts l).set j (.int y))) | none => False)
  rw [dInts_len]
  unfold ixN
  rw [if_pos h0, if_pos h1]
  show k (.lst ((dInts l).set x.toNat (.int y)))
  rw [show (dInts l).set x.toNat (.int y) = dInts (l.set x.toNat y) by unfold dInts; rw [List.map_set]]
  exact q
/-- xs[k], xs[k + 1] = xs[k + 1], xs[k], in slot i with the place in slot j -/
theorem swap_ev {a j : Nat} {E : PEnds} {env : PEnv} {k : Int} (ha : env[a]? = some (some (.lst (dInts r)))) (hj : env[j]? = some (some (.int k))) (ne : a ≠ j) (h0 : 0 ≤ k) (h1 : k + 1 < (r.length : Int))
    (h : E.nx (env.set a (some (.lst (dInts (swapAt r k.toNat)))))) :
    sSwap a (xTup (xCons (xImm (x2 oIx (xVar a) (x2 oAdd (xVar j) (xC (.int 1))))) (xCons (xImm (x2 oIx (xVar a) (xVar j))) xNil))) (xVar j) (x2 oAdd (xVar j) (xC (.int 1))) E env := by
  have v : ∀ (e : PEnv) (b : Nat) (d : D) (R : D → Prop), e[b]? = some (some d) → R d → xVar b e R := fun e b d R h q => by unfold xVar; rw [h]; exact q
  have hal : a < env.length := (List.getElem?_eq_some_iff.mp ha).1
  unfold sSwap
  refine v env a _ _ ha (v env j _ _ hj ?_)
  refine atD_int (by omega) h1 ⟨rfl, v env a _ _ ha (v env j _ _ hj (atD_int h0 (by omega) ⟨rfl, by show 2 ≤ sizeLine; decide, rfl, rfl, ?_⟩))⟩
  refine v env a _ _ ha (v env j _ _ hj (setD_int h0 (by omega) ?_))
  have ha2 : (env.set a (some (.lst (dInts (r.set k.toNat (r.getD (k + 1).toNat 0))))))[a]? = some (some (.lst (dInts (r.set k.toNat (r.getD (k + 1).toNat 0))))) := List.getElem?_set_self hal
  have hj2 : (env.set a (some (.lst (dInts (r.set k.toNat (r.getD (k + 1).toNat 0))))))[j]? = some (some (.int k)) := by rw [List.getElem?_set_ne ne]; exact hj
  refine v _ a _ _ ha2 (v _ j _ _ hj2 (show setD (.lst (dInts (r.set k.toNat (r.getD (k + 1).toNat 0)))) (.int (k + 1)) (.int (r.getD k.toNat 0)) (fun d' => E.nx ((env.set a (some (.lst (dInts (r.set k.toNat (r.getD (k + 1).toNat 0)))))).set a (some d'))) from setD_int (by omega) (by simpa using h1) ?_))
  rw [List.set_set]
  have e : (k + 1).toNat = k.toNat + 1 := by omega
  rw [e]
  exact h
end
end Pu

/-! file V04f -/
set_option Elab.async false
set_option linter.all false
set_option maxRecDepth 100000
set_option synthInstance.maxHeartbeats 0
set_option synthInstance.maxSize 100000
namespace Pu
open PySem PySem.Spec PyProof.Rows L2
def bc_0 : XS := sSet 3 (x1 oListA (xCall m__law_mixed (xDice (xCons (xVar 1) (xCons (xVar 2) (xCons (xC (.int 6)) xNil))))))
def bc_1 : XS := sSet 4 (xCall m__law_draw (xDice (xCons (xC (.int 6)) xNil)))
def bc_2 : XS := sSet 5 (xCall m__law_draw (xDice (xCons (x2 oAdd (x1 oLenA (xVar 3)) (xC (.int 1))) xNil)))
def bc_3 : XS := sIf (bTest (x2 oEq (xVar 4) (xC (.int 0)))) (sLm 3 uIns (xCons (xImm (xVar 5)) (xCons (xCall m__law_draw (xDice (xCons (x1 oLenA (xVar 1)) xNil))) xNil))) sNext
def bc_4 : XS := sIf (bAnd (bTest (x2 oEq (xVar 4) (xC (.int 1)))) (bTest (x2 (oI fun i j => .bl (decide (i < j))) (xVar 5) (x1 oLenA (xVar 3))))) (sLm 3 uPopAt (xCons (xImm (xVar 5)) xNil)) sNext
def bc_5 : XS := sIf (bAnd (bTest (x2 oEq (xVar 4) (xC (.int 2)))) (bTest (x2 (oI fun i j => .bl (decide (i < j))) (xVar 5) (x1 oLenA (xVar 3))))) (sPut 3 (xVar 5) (xCall m__law_draw (xDice (xCons (x1 oLenA (xVar 1)) xNil)))) sNext
def bc_6 : XS := sIf (bAnd (bTest (x2 oEq (xVar 4) (xC (.int 3)))) (bTest (x2 (oI fun i j => .bl (decide (i < j))) (x2 oAdd (xVar 5) (xC (.int 1))) (x1 oLenA (xVar 3))))) (sSwap 3 (xTup (xCons (xImm (x2 oIx (xVar 3) (x2 oAdd (xVar 5) (xC (.int 1))))) (xCons (xImm (x2 oIx (xVar 3) (xVar 5))) xNil))) (xVar 5) (x2 oAdd (xVar 5) (xC (.int 1)))) sNext
def bc_7 : XS := sRet (x1 oTup (xVar 3))
section
variable {Q : D → Prop} {i n : Int} {ns ms r s : List Int} {ws : List (List Int)} {dd : D} {e5 e6 e7 : Option D}
def bodyM : XS := sSeq (sSet 6 (xCall m__law_draw (xDice (xCons (x2 (oI fun i j => .int (i - j)) (x1 oLenA (xVar 4)) (xC (.int 1))) xNil)))) (sIf (bNot (bTest (x2 oIx (x2 oIx (xVar 1) (x2 oIx (xVar 4) (xVar 6))) (x2 oIx (xVar 4) (x2 oAdd (xVar 6) (xC (.int 1))))))) (sSwap 4 (xTup (xCons (xImm (x2 oIx (xVar 4) (x2 oAdd (xVar 6) (xC (.int 1))))) (xCons (xImm (x2 oIx (xVar 4) (xVar 6))) xNil))) (xVar 6) (x2 oAdd (xVar 6) (xC (.int 1)))) sNext)
instance : MS bodyM := by unfold bodyM; infer_instance
def mEnv (dd : D) (ws : List (List Int)) (r : List Int) (turns : Int) (s : List Int) (e5 e6 : Option D) : PEnv := [some dd, some (nD (nearF ws)), some (rD r), some (.int turns), some (.lst (dInts s)), e5, e6]
theorem bodyM_ev {turns : Int} {E : PEnds} (hs : InW ws s) (h2 : 1 < s.length) (hl : s.length ≤ 200) (h : ∀ s' e6, s'.length = s.length → InW ws s' → E.nx (mEnv dd ws r turns s' e5 e6)) : bodyM E (mEnv dd ws r turns s e5 e6) := by
  refine .inl ⟨by rw [dInts_len]; omega, by rw [dInts_len]; omega, fun k k0 k1 => ?_⟩
  rw [dInts_len] at k1
  have hk : k.toNat + 1 < s.length := by omega
  have i1 := inW_getD hs (show k.toNat < s.length by omega)
  have i2 := inW_getD hs hk
  have e : (k + 1).toNat = k.toNat + 1 := by omega
  refine atD_int k0 (by omega) ?_
  have q2 : oIx (nD (nearF ws)) (.int (s.getD k.toNat 0)) fun d => atD (dInts s) (k + 1) fun e => oIx d e fun d => match d with | .bl b => (if (!b) = true then sSwap 4 (xTup (xCons (xImm (x2 oIx (xVar 4) (x2 oAdd (xVar 6) (xC (.int 1))))) (xCons (xImm (x2 oIx (xVar 4) (xVar 6))) xNil))) (xVar 6) (x2 oAdd (xVar 6) (xC (.int 1))) E (mEnv dd ws r turns s e5 (some (.int k))) else sNext E (mEnv dd ws r turns s e5 (some (.int k)))) | _ => False := by
    refine atD_blD i1.1 (by rw [nearF_len]; exact i1.2) (atD_int (by omega) (by omega) ?_)
    rw [e]
    refine atD_bl i2.1 ?_ ?_
    · unfold nearF
      rw [range_getD i1.1 i1.2]
      unfold rangeI
      simp
      exact i2.2
    · show (if _ then _ else _)
      split
      · refine swap_ev (a := 4) (j := 6) (k := k) rfl rfl (by decide) k0 (by omega) ?_
        exact h _ _ swap_len (inW_swap hs hk)
      · exact h _ _ rfl hs
  exact q2
def WM (dd : D) (ws : List (List Int)) (r : List Int) (turns : Int) (ds : List D) (env : PEnv) : Prop := ∃ s e5 e6, env = mEnv dd ws r turns s e5 e6 ∧ s.length = r.length ∧ InW ws s ∧ (ds ≠ [] → 1 < r.length)
theorem mixed_ev {turns : Int} (t0 : 0 ≤ turns) (t1 : turns ≤ 1000) (hr : InW ws r) (hl : r.length ≤ 200) : FP m__law_mixed [dd, nD (nearF ws), rD r, .int turns] (fun d => ∃ s, d = rD s ∧ s.length = r.length ∧ InW ws s) := fun Q q => by
  refine .inl ⟨immL_dInts r, .inl ?_⟩
  have fin : ∀ ds : List D, (ds ≠ [] → 1 < r.length) → sLoop (bName 5) bodyM ds { nx := fun env => xVar 4 env fun d => oTup d Q, rt := Q, bk := fun _ => False, ct := fun _ => False } (mEnv dd ws r turns r none none) := fun ds hd => by
    refine loop_ev (b := bName 5) (body := bodyM) (WM dd ws r turns) ?_ (fun d env Q Q' k q => k _ q) (MS.all (m := bodyM) _ _ _) _ _ ⟨r, none, none, rfl, rfl, hr, hd⟩ ?_
    · rintro d ds env ⟨s, e5, e6, rfl, h1, h2, h3⟩
      have h3 := h3 (by simp)
      exact bodyM_ev (e5 := some d) h2 (by omega) (by omega) fun s' e6 g1 g2 => ⟨s', _, e6, rfl, g1.trans h1, g2, fun _ => h3⟩
    · rintro env ⟨s, e5, e6, rfl, h1, h2, h3⟩
      exact ⟨immL_dInts s, q _ ⟨s, rfl, h1, h2⟩⟩
  show (if decide ((1 : Int) < ((dInts r).length : Nat)) = true then _ else _)
  split
  · rename_i hh
    have hh := of_decide_eq_true hh
    rw [dInts_len] at hh
    exact ⟨rfl, ⟨by omega, by omega⟩, fin _ fun _ => by omega⟩
  · exact ⟨⟨by decide, by decide⟩, fin _ fun h => absurd rfl h⟩
def cEnv (dd : D) (ws : List (List Int)) (r here : List Int) (kind k : Int) : PEnv := [some dd, some (nD (nearF ws)), some (rD r), some (.lst (dInts here)), some (.int kind), some (.int k)]
theorem nD_len : ((nearF ws).map blD).length = ws.length := by rw [List.length_map, nearF_len]
/-- here may be this -/
def HG (ws : List (List Int)) (b : Nat) (s : List Int) : Prop := s.length ≤ b ∧ InW ws s
theorem dInts_ins (k : Nat) (x : Int) : (dInts s).take k ++ D.int x :: (dInts s).drop k = dInts (s.take k ++ x :: s.drop k) := by
  unfold dInts
  rw [List.map_append, List.map_cons, List.map_take, List.map_drop]
theorem inW_ins {k : Nat} {x : Int} (h : InW ws s) (hx : 0 ≤ x ∧ x < (ws.length : Int)) : InW ws (s.take k ++ x :: s.drop k) := fun y hy => by
  rcases List.mem_append.mp hy with z | z
  · exact h y (List.mem_of_mem_take z)
  · rcases List.mem_cons.mp z with z | z
    · rw [z]; exact hx
    · exact h y (List.mem_of_mem_drop z)
theorem bc3_ev {kind k : Int} {E : PEnds} (w1 : 1 ≤ ws.length) (w2 : ws.length ≤ 10) (hs : InW ws s) (hl : s.length ≤ 200) (k0 : 0 ≤ k) (k1 : k < (s.length : Int) + 1) (h0 : E.nx (cEnv dd ws r s kind k)) (h : ∀ s', s'.length = s.length + 1 → InW ws s' → kind = 0 → E.nx (cEnv dd ws r s' kind k)) : bc_3 E (cEnv dd ws r s kind k) := by
  have h200 : 200 < sizeLine := by decide
  refine ⟨rfl, rfl, ?_⟩
  show (if D.eqb (.int kind) (.int 0) = true then _ else _)
  split
  · rename_i hk
    rw [eqb_int] at hk
    have hk := of_decide_eq_true hk
    refine ⟨rfl, .inl ⟨by rw [nD_len]; omega, by rw [nD_len]; omega, fun x x0 x1 => ⟨by rw [dInts_len]; omega, k0, by omega, ?_⟩⟩⟩
    rw [nD_len] at x1
    rw [dInts_ins]
    exact h _ (by simp; omega) (inW_ins hs ⟨x0, x1⟩) hk
  · exact h0
theorem erase_ints : ∀ (s : List Int) (k : Nat), (dInts s).eraseIdx k = dInts (s.eraseIdx k)
  | [], _ => rfl
  | _ :: _, 0 => rfl
  | x :: s, k + 1 => by
    show D.int x :: (dInts s).eraseIdx k = D.int x :: dInts (s.eraseIdx k)
    rw [erase_ints s k]
theorem bc4_ev {kind k : Int} {E : PEnds} (hs : InW ws s) (hl : s.length ≤ 201) (k0 : 0 ≤ k) (h0 : E.nx (cEnv dd ws r s kind k)) (h : ∀ s', s'.length ≤ s.length → InW ws s' → kind = 1 → E.nx (cEnv dd ws r s' kind k)) : bc_4 E (cEnv dd ws r s kind k) := by
  refine ⟨rfl, rfl, ?_⟩
  show (if D.eqb (.int kind) (.int 1) = true then _ else _)
  split
  · rename_i hk
    rw [eqb_int] at hk
    have hk := of_decide_eq_true hk
    refine .inl ?_
    show (if decide (k < ((dInts s).length : Nat)) = true then _ else _)
    split
    · rename_i h2
      have h2 := of_decide_eq_true h2
      rw [dInts_len] at h2
      refine ⟨rfl, by omega, by omega, ?_⟩
      rw [PySem.seqIndex_of k0 (by rw [dInts_len]; exact h2)]
      refine ⟨by rw [dInts_len]; omega, ?_⟩
      rw [erase_ints]
      exact h _ (List.length_eraseIdx_le ..) (fun y hy => hs y (List.mem_of_mem_eraseIdx hy)) hk
    · exact h0
  · exact h0
theorem bc5_ev {kind k : Int} {E : PEnds} (w1 : 1 ≤ ws.length) (w2 : ws.length ≤ 10) (hs : InW ws s) (hl : s.length ≤ 201) (k0 : 0 ≤ k) (h : ∀ s', s'.length = s.length → InW ws s' → E.nx (cEnv dd ws r s' kind k)) : bc_5 E (cEnv dd ws r s kind k) := by
  refine ⟨rfl, rfl, ?_⟩
  show (if D.eqb (.int kind) (.int 2) = true then _ else _)
  split
  · refine .inl ?_
    show (if decide (k < ((dInts s).length : Nat)) = true then _ else _)
    split
    · rename_i h2
      have h2 := of_decide_eq_true h2
      rw [dInts_len] at h2
      refine .inl ⟨by rw [nD_len]; omega, by rw [nD_len]; omega, fun x x0 x1 => ?_⟩
      rw [nD_len] at x1
      show setD (.lst (dInts s)) (.int k) (.int x) (fun d' => E.nx ((cEnv dd ws r s kind k).set 3 (some d')))
      exact setD_int k0 h2 (h _ (by simp) (inW_set hs ⟨x0, x1⟩))
    · exact h s rfl hs
  · exact h s rfl hs
theorem bc6_ev {kind k : Int} {E : PEnds} (hs : InW ws s) (hl : s.length ≤ 201) (k0 : 0 ≤ k) (h : ∀ s', s'.length = s.length → InW ws s' → E.nx (cEnv dd ws r s' kind k)) : bc_6 E (cEnv dd ws r s kind k) := by
  refine ⟨rfl, rfl, ?_⟩
  show (if D.eqb (.int kind) (.int 3) = true then _ else _)
  split
  · refine .inl ?_
    show (if decide (k + 1 < ((dInts s).length : Nat)) = true then _ else _)
    split
    · rename_i h2
      have h2 := of_decide_eq_true h2
      rw [dInts_len] at h2
      refine swap_ev (a := 3) (j := 5) (k := k) rfl rfl (by decide) k0 (by omega) ?_
      exact h _ swap_len (inW_swap hs (by omega))
    · exact h s rfl hs
  · exact h s rfl hs
section
theorem changed_ev (w1 : 1 ≤ ws.length) (w2 : ws.length ≤ 10) (hr : InW ws r) (hl : r.length ≤ 200) : FP m__law_changed [dd, nD (nearF ws), rD r] (fun d => ∃ s, d = rD s ∧ s.length ≤ r.length + 1 ∧ InW ws s) := fun Q q => by
  have key : ∀ s : List Int, s.length = r.length → InW ws s → ∀ kind k : Int, 0 ≤ k → k < (s.length : Int) + 1 → bc_3 { nx := bc_4 { nx := bc_5 { nx := bc_6 { nx := bc_7 { nx := fun _ => Q .non, rt := Q, bk := fun _ => False, ct := fun _ => False }, rt := Q, bk := fun _ => False, ct := fun _ => False }, rt := Q, bk := fun _ => False, ct := fun _ => False }, rt := Q, bk := fun _ => False, ct := fun _ => False }, rt := Q, bk := fun _ => False, ct := fun _ => False } (cEnv dd ws r s kind k) := fun s hs hw kind k k0 k1 => by
    have t7 : ∀ s' : List Int, s'.length ≤ r.length + 1 → InW ws s' → bc_7 { nx := fun _ => Q .non, rt := Q, bk := fun _ => False, ct := fun _ => False } (cEnv dd ws r s' kind k) := fun s' l w => ⟨immL_dInts s', q _ ⟨s', rfl, l, w⟩⟩
    have t6 : ∀ s' : List Int, s'.length ≤ r.length + 1 → InW ws s' → bc_6 { nx := bc_7 { nx := fun _ => Q .non, rt := Q, bk := fun _ => False, ct := fun _ => False }, rt := Q, bk := fun _ => False, ct := fun _ => False } (cEnv dd ws r s' kind k) := fun s' l w => bc6_ev w (by omega) k0 fun s2 l2 w2 => t7 s2 (by omega) w2
    have t5 : ∀ s' : List Int, s'.length ≤ r.length + 1 → InW ws s' → bc_5 { nx := bc_6 { nx := bc_7 { nx := fun _ => Q .non, rt := Q, bk := fun _ => False, ct := fun _ => False }, rt := Q, bk := fun _ => False, ct := fun _ => False }, rt := Q, bk := fun _ => False, ct := fun _ => False } (cEnv dd ws r s' kind k) := fun s' l w => bc5_ev w1 w2 w (by omega) k0 fun s2 l2 w2 => t6 s2 (by omega) w2
    have t4 : ∀ s' : List Int, s'.length ≤ r.length + 1 → InW ws s' → bc_4 { nx := bc_5 { nx := bc_6 { nx := bc_7 { nx := fun _ => Q .non, rt := Q, bk := fun _ => False, ct := fun _ => False }, rt := Q, bk := fun _ => False, ct := fun _ => False }, rt := Q, bk := fun _ => False, ct := fun _ => False }, rt := Q, bk := fun _ => False, ct := fun _ => False } (cEnv dd ws r s' kind k) := fun s' l w => bc4_ev w (by omega) k0 (t5 s' l w) fun s2 l2 w2 _ => t5 s2 (by omega) w2
    exact bc3_ev w1 w2 hw (by omega) k0 k1 (t4 s (by omega) hw) fun s2 l2 w2 _ => t4 s2 (by omega) w2
  refine mixed_ev (by decide) (by decide) hr hl _ fun d ⟨s, e, hs, hw⟩ => ?_
  subst e
  refine .inl ⟨immL_dInts s, by decide, by decide, fun kind _ _ => .inl ⟨by rw [dInts_len]; omega, by rw [dInts_len]; omega, fun k k0 k1 => ?_⟩⟩
  rw [dInts_len] at k1
  exact key s hs hw kind k k0 k1
end
end
end Pu

/-! file V04g -/
set_option Elab.async false
set_option linter.all false
set_option maxRecDepth 100000
namespace Pu
/-! ### rows up to exchange (no Python here) -/
section
variable {ap : Int → Int → Prop}
inductive Rch (ap : Int → Int → Prop) : List Int → List Int → Prop
  | refl (r : List Int) : Rch ap r r
  | step {r A B : List Int} {x y : Int} : Rch ap r (A ++ x :: y :: B) → ap x y → Rch ap r (A ++ y :: x :: B)
theorem Rch.trans {r s t : List Int} (a : Rch ap r s) (b : Rch ap s t) : Rch ap r t := by
  induction b with
  | refl => exact a
  | step h e ih => exact .step ih e
theorem Rch.cons {r s : List Int} (z : Int) (a : Rch ap r s) : Rch ap (z :: r) (z :: s) := by
  induction a with
  | refl => exact .refl _
  | @step A B x y h e ih => exact .step (A := z :: A) ih e
theorem Rch.bubble {a : Int} {R : List Int} : ∀ P : List Int, (∀ x ∈ P, ap x a) → Rch ap (P ++ a :: R) (a :: (P ++ R))
  | [], _ => .refl _
  | x :: P, h => (Rch.cons x (Rch.bubble P fun z hz => h z (List.mem_cons_of_mem _ hz))).trans (.step (A := []) (.refl _) (h x List.mem_cons_self))
theorem Rch.len {r s : List Int} (a : Rch ap r s) : s.length = r.length := by
  induction a with
  | refl => rfl
  | step h e ih => rw [← ih]; simp
theorem Rch.mem {r s : List Int} (a : Rch ap r s) : ∀ x, x ∈ s ↔ x ∈ r := by
  induction a with
  | refl => exact fun x => Iff.rfl
  | step h e ih =>
    intro x
    rw [← ih x]
    simp only [List.mem_append, List.mem_cons]
    constructor
    · rintro (h | h | h | h)
      · exact .inl h
      · exact .inr (.inr (.inl h))
      · exact .inr (.inl h)
      · exact .inr (.inr (.inr h))
    · rintro (h | h | h | h)
      · exact .inl h
      · exact .inr (.inr (.inl h))
      · exact .inr (.inl h)
      · exact .inr (.inr (.inr h))
end
section
variable {ws : List (List Int)} {n : Int}
def apF (ws : List (List Int)) (x y : Int) : Prop := meetsF ws x y = false
theorem apF_no {x y d : Int} (h : apF ws x y) (hx : (W ws x).contains d = true) (hy : (W ws y).contains d = true) : False := by
  have : meetsF ws x y = true := List.any_eq_true.mpr ⟨d, by simpa using hx, hy⟩
  rw [show meetsF ws x y = false from h] at this
  cases this
theorem logF_cons {x d : Int} {r : List Int} : logF ws (x :: r) d = if (W ws x).contains d = true then x :: logF ws r d else logF ws r d := by
  unfold logF
  rw [List.filter_cons]
  rfl
theorem logF_app {d : Int} {r s : List Int} : logF ws (r ++ s) d = logF ws r d ++ logF ws s d := by
  unfold logF
  rw [List.filter_append]
/-- the first fact, one way -/
theorem Rch.logs {r s : List Int} (a : Rch (apF ws) r s) (d : Int) : logF ws s d = logF ws r d := by
  induction a with
  | refl => rfl
  | @step A B x y h e ih =>
    rw [← ih, logF_app, logF_app, logF_cons, logF_cons, logF_cons, logF_cons]
    by_cases hx : (W ws x).contains d = true
    · by_cases hy : (W ws y).contains d = true
      · exact (apF_no e hx hy).elim
      · rw [if_pos hx, if_neg hy, if_pos hx, if_neg hy]
    · by_cases hy : (W ws y).contains d = true
      · rw [if_neg hx, if_pos hy, if_neg hx]
      · rw [if_neg hx, if_neg hy, if_neg hx]
/-- each work of these has a desk below n -/
def Desks (ws : List (List Int)) (n : Int) (r : List Int) : Prop := ∀ x ∈ r, ∃ d, d ∈ rangeI n ∧ (W ws x).contains d = true
theorem first_at : ∀ {a : Int} {r : List Int}, a ∈ r → ∃ P R, r = P ++ a :: R ∧ a ∉ P
  | a, x :: r, h => by
    by_cases e : a = x
    · exact ⟨[], r, by rw [e] <;> rfl, by simp⟩
    · obtain ⟨P, R, e1, e2⟩ := first_at ((List.mem_cons.mp h).resolve_left e)
      exact ⟨x :: P, R, by rw [e1] <;> rfl, by simp [e, e2]⟩
theorem head_in {d a : Int} {l : List Int} : ∀ {P R : List Int}, logF ws (P ++ R) d = a :: l → (∃ x, x ∈ P ∧ (W ws x).contains d = true) → a ∈ P
  | [], _, _, ⟨x, h, _⟩ => by cases h
  | x :: P, R, e, ⟨y, h, hy⟩ => by
    rw [List.cons_append, logF_cons] at e
    by_cases hx : (W ws x).contains d = true
    · rw [if_pos hx] at e
      rw [(List.cons.inj e).1]
      exact List.mem_cons_self
    · rw [if_neg hx] at e
      refine List.mem_cons_of_mem _ (head_in e ⟨y, ?_, hy⟩)
      rcases List.mem_cons.mp h with z | z
      · subst z; exact absurd hy hx
      · exact z
/-- the first fact, the other way -/
theorem rch_of_logs (hW : ∀ x d, (W ws x).contains d = true → d ∈ rangeI n) : ∀ {s r : List Int}, Desks ws n r → Desks ws n s → (∀ d ∈ rangeI n, logF ws r d = logF ws s d) → Rch (apF ws) r s
  | [], r, hr, _, h => by
    cases r with
    | nil => exact .refl _
    | cons x r =>
      obtain ⟨d, hd, hx⟩ := hr x List.mem_cons_self
      have := h d hd
      rw [logF_cons, if_pos hx] at this
      cases this
  | a :: s, r, hr, hs, h => by
    obtain ⟨d0, hd0, ha0⟩ := hs a List.mem_cons_self
    have e0 := h d0 hd0
    rw [logF_cons (x := a), if_pos ha0] at e0
    have ham : a ∈ r := by
      have : a ∈ logF ws r d0 := by rw [e0]; exact List.mem_cons_self
      exact (List.mem_filter.mp this).1
    obtain ⟨P, R, e, hP⟩ := first_at ham
    subst e
    have hap : ∀ x ∈ P, apF ws x a := fun x hx => by
      show meetsF ws x a = false
      cases hm : meetsF ws x a with
      | false => rfl
      | true =>
        obtain ⟨d, hd1, hd2⟩ := List.any_eq_true.mp hm
        have hxd : (W ws x).contains d = true := by simpa using hd1
        have e3 := h d (hW x d hxd)
        rw [logF_cons (x := a), if_pos hd2] at e3
        exact absurd (head_in e3 ⟨x, hx, hxd⟩) hP
    have b := Rch.bubble (R := R) P hap
    refine b.trans (Rch.cons a (rch_of_logs hW ?_ (fun x hx => hs x (List.mem_cons_of_mem _ hx)) fun d hd => ?_))
    · intro x hx
      refine hr x ?_
      rcases List.mem_append.mp hx with z | z
      · exact List.mem_append_left _ z
      · exact List.mem_append_right _ (List.mem_cons_of_mem _ z)
    · have e1 := b.logs d
      rw [h d hd, logF_cons, logF_cons] at e1
      by_cases hx : (W ws a).contains d = true
      · rw [if_pos hx, if_pos hx] at e1
        exact (List.cons.inj e1).2
      · rw [if_neg hx, if_neg hx] at e1
        exact e1
end
end Pu

/-! file V04h -/
set_option Elab.async false
set_option linter.all false
set_option maxRecDepth 100000
set_option synthInstance.maxHeartbeats 0
set_option synthInstance.maxSize 100000
namespace Pu
open PySem PySem.Spec PyProof.Rows L2
section
variable {Q : D → Prop} {n : Int} {r s : List Int} {ws : List (List Int)} {e4 e5 e6 e7 : Option D} {K T : List (List Int)} {kvs : List (List Key × D)}
def kk (s : List Int) : List Key := s.map Sum.inl
theorem kk_inj : ∀ {a b : List Int}, kk a = kk b → a = b
  | [], [], _ => rfl
  | [], _ :: _, h => by simp [kk] at h
  | _ :: _, [], h => by simp [kk] at h
  | x :: a, y :: b, h => by
    simp only [kk, List.map_cons, List.cons.injEq, Sum.inl.injEq] at h
    rw [h.1, kk_inj (a := a) (b := b) h.2]
theorem tkey_rD : ∀ s : List Int, (rD s).tkey? = some (kk s)
  | [] => rfl
  | x :: s => by
    show (match (D.int x).key?, keys? (dInts s) with | some k, some ks => some (k :: ks) | _, _ => none) = _
    rw [show keys? (dInts s) = some (kk s) from tkey_rD s]
    rfl
/-- the dict kvs has the keys K, and ints as values -/
def Fd (K : List (List Int)) (kvs : List (List Key × D)) : Prop := kvs.map (·.1) = K.map kk ∧ ∀ kv ∈ kvs, ∃ z, kv.2 = .int z
theorem look_in : ∀ {K : List (List Int)} {kvs : List (List Key × D)}, Fd K kvs → (s ∈ K → ∃ z, lookD kvs (kk s) = some (.int z)) ∧ (s ∉ K → lookD kvs (kk s) = none)
  | [], [], _ => ⟨fun h => (by cases h), fun _ => rfl⟩
  | [], _ :: _, h => by simp [Fd] at h
  | _ :: _, [], h => by simp [Fd] at h
  | k :: K, p :: kvs, h => by
    obtain ⟨h1, h2⟩ := h
    simp only [List.map_cons, List.cons.injEq] at h1
    have ih := look_in (K := K) (kvs := kvs) ⟨h1.2, fun kv hk => h2 kv (List.mem_cons_of_mem _ hk)⟩
    by_cases e : k = s
    · subst e
      obtain ⟨z, hz⟩ := h2 p List.mem_cons_self
      have e1 : lookD (p :: kvs) (kk k) = some p.2 := by
        unfold lookD
        rw [List.find?_cons, decide_eq_true h1.1] <;> rfl
      exact ⟨fun _ => ⟨z, by rw [e1, hz]⟩, fun h => absurd List.mem_cons_self h⟩
    · have e1 : lookD (p :: kvs) (kk s) = lookD kvs (kk s) := by
        unfold lookD
        rw [List.find?_cons, decide_eq_false (fun q => e (kk_inj (h1.1.symm.trans q)))]
      rw [e1]
      refine ⟨fun h => ih.1 ?_, fun h => ih.2 fun q => h (List.mem_cons_of_mem _ q)⟩
      rcases List.mem_cons.mp h with q | q
      · exact absurd q.symm e
      · exact q
theorem fd_nodup (h : Fd K kvs) (nd : K.Nodup) : (kvs.map (·.1)).Nodup := by
  rw [h.1]
  exact (List.pairwise_map.mpr (nd.imp fun ne q => ne (kk_inj q)))
theorem fd_put {z : Int} (h : Fd K kvs) (hs : s ∉ K) : Fd (K ++ [s]) (putD kvs (kk s) (.int z)) := by
  have hn : kvs.any (fun kv => decide (kv.1 = kk s)) = false := by
    rw [List.any_eq_false]
    intro kv hk q
    have q := of_decide_eq_true q
    have : kv.1 ∈ kvs.map (·.1) := List.mem_map.mpr ⟨kv, hk, rfl⟩
    rw [h.1] at this
    obtain ⟨t, ht, e⟩ := List.mem_map.mp this
    exact hs (kk_inj (e.trans q) ▸ ht)
  unfold putD
  rw [hn, if_neg Bool.false_ne_true]
  refine ⟨by rw [List.map_append, List.map_append, h.1] <;> rfl, fun kv hk => ?_⟩
  rcases List.mem_append.mp hk with q | q
  · exact h.2 kv q
  · rw [List.mem_singleton.mp q]; exact ⟨z, rfl⟩
/-! words -/
def words (w : Nat) : Nat → List (List Int)
  | 0 => [[]]
  | m + 1 => (rangeI w).flatMap fun x => (words w m).map (x :: ·)
theorem words_len (w : Nat) : ∀ m, (words w m).length = w ^ m
  | 0 => rfl
  | m + 1 => by
    have e : ∀ l : List Int, (l.flatMap fun x => (words w m).map (x :: ·)).length = l.length * w ^ m := by
      intro l
      induction l with
      | nil => simp
      | cons x l ih => rw [List.flatMap_cons, List.length_append, ih, List.length_map, words_len w m, List.length_cons, Nat.succ_mul, Nat.add_comm]
    show ((rangeI w).flatMap _).length = _
    rw [e, Nat.pow_succ, Nat.mul_comm]
    congr 1
    simp [rangeI]
theorem words_mem {w : Nat} : ∀ {s : List Int}, (∀ x ∈ s, 0 ≤ x ∧ x < (w : Int)) → s ∈ words w s.length
  | [], _ => by simp [words]
  | x :: s, h => by
    show x :: s ∈ (rangeI w).flatMap _
    refine List.mem_flatMap.mpr ⟨x, ?_, List.mem_map.mpr ⟨s, words_mem fun y hy => h y (List.mem_cons_of_mem _ hy), rfl⟩⟩
    have hx := h x List.mem_cons_self
    refine List.mem_map.mpr ⟨x.toNat, List.mem_range.mpr (by omega), Int.toNat_of_nonneg hx.1⟩
theorem nodup_le {α : Type} [DecidableEq α] : ∀ {a b : List α}, a.Nodup → (∀ x ∈ a, x ∈ b) → a.length ≤ b.length
  | [], _, _, _ => Nat.zero_le _
  | x :: a, b, nd, h => by
    have hx := h x List.mem_cons_self
    have := nodup_le (a := a) (b := b.erase x) (List.nodup_cons.mp nd).2 fun y hy => (List.mem_erase_of_ne fun e : y = x => (List.nodup_cons.mp nd).1 (by rw [← e]; exact hy)).mpr (h y (List.mem_cons_of_mem _ hy))
    rw [List.length_erase_of_mem hx] at this
    have hp := List.length_pos_of_mem hx
    rw [List.length_cons]
    omega
end
end Pu

/-! file V04i -/
set_option Elab.async false
set_option linter.all false
set_option maxRecDepth 100000
set_option synthInstance.maxHeartbeats 0
set_option synthInstance.maxSize 100000
namespace Pu
open PySem PySem.Spec PyProof.Rows L2
section
variable {Q : D → Prop} {n : Int} {r s here row : List Int} {ws : List (List Int)} {e3 e4 e5 e6 e7 : Option D} {K T : List (List Int)} {kvs : List (List Key × D)}
def swapL (s : List Int) (k : Nat) : List Int := s.take k ++ [s.getD (k + 1) 0, s.getD k 0] ++ s.drop (k + 2)
theorem cut_eq {s : List Int} {k : Nat} (h : k + 1 < s.length) : s = s.take k ++ s.getD k 0 :: s.getD (k + 1) 0 :: s.drop (k + 2) := by
  have h1 : s.drop k = s.getD k 0 :: s.drop (k + 1) := by
    rw [List.drop_eq_getElem_cons (show k < s.length by omega), List.getD_eq_getElem?_getD, List.getElem?_eq_getElem (show k < s.length by omega)]
    rfl
  have h2 : s.drop (k + 1) = s.getD (k + 1) 0 :: s.drop (k + 2) := by
    rw [List.drop_eq_getElem_cons h, List.getD_eq_getElem?_getD, List.getElem?_eq_getElem h]
    rfl
  rw [← h2, ← h1, List.take_append_drop]
theorem rch_swap {k : Nat} (h : k + 1 < s.length) (a : apF ws (s.getD k 0) (s.getD (k + 1) 0)) (b : Rch (apF ws) r s) : Rch (apF ws) r (swapL s k) := by
  unfold swapL
  rw [List.append_assoc]
  refine .step (A := s.take k) (B := s.drop (k + 2)) (x := s.getD k 0) (y := s.getD (k + 1) 0) ?_ a
  rw [← cut_eq h]
  exact b
def xE (ws : List (List Int)) (row : List Int) (kvs : List (List Key × D)) (e3 : Option D) (T : List (List Int)) (here : List Int) (e6 e7 : Option D) : PEnv := [some (nD (nearF ws)), some (rD row), some (.dT kvs), e3, some (.lst (rowsD T)), some (rD here), e6, e7]
def bodyI : XS := sSeq (sSet 7 (x2 oAdd (x2 oAdd (xSl (xVar 5) pNo (pYes (xVar 6))) (xTup (xCons (xImm (x2 oIx (xVar 5) (x2 oAdd (xVar 6) (xC (.int 1))))) (xCons (xImm (x2 oIx (xVar 5) (xVar 6))) xNil)))) (xSl (xVar 5) (pYes (x2 oAdd (xVar 6) (xC (.int 2)))) pNo))) (sIf (bAnd (bNot (bTest (x2 oIx (x2 oIx (xVar 0) (x2 oIx (xVar 5) (xVar 6))) (x2 oIx (xVar 5) (x2 oAdd (xVar 6) (xC (.int 1))))))) (bTest (x2 (oIn true) (xVar 7) (xVar 2)))) (sSeq (sPut 2 (xVar 7) (x2 oAdd (x2 oIx (xVar 2) (xVar 5)) (xC (.int 1)))) (sApp 4 (xImm (xVar 7)))) sNext)
instance : MS bodyI := by unfold bodyI; infer_instance
theorem dInts_app (a b : List Int) : dInts a ++ dInts b = dInts (a ++ b) := by unfold dInts; rw [List.map_append]
theorem oIx_dT {s : List Int} {d : D} (h : lookD kvs (kk s) = some d) (q : Q d) : oIx (.dT kvs) (rD s) Q := by
  show (match (rD s).tkey? with | some k => (match lookD kvs k with | some x => Q x | none => False) | none => False)
  rw [tkey_rD]
  show (match lookD kvs (kk s) with | some x => Q x | none => False)
  rw [h]
  exact q
theorem setD_dT {s : List Int} {x : D} {k : D → Prop} (h : kvs.length < sizeLine) (nd : (kvs.map (·.1)).Nodup) (q : k (.dT (putD kvs (kk s) x))) : setD (.dT kvs) (rD s) x k := by
  show (match (rD s).tkey? with | some kx => kvs.length < sizeLine ∧ (kvs.map (·.1)).Nodup ∧ k (.dT (putD kvs kx x)) | none => False)
  rw [tkey_rD]
  exact ⟨h, nd, q⟩
theorem fd_len (h : Fd K kvs) : kvs.length = K.length := by
  have := congrArg List.length h.1
  simpa using this
theorem bodyI_ev {E : PEnds} {j : Nat} (hF : Fd K kvs) (nd : K.Nodup) (hin : here ∈ K) (hW : InW ws here) (hl : here.length ≤ 100) (hj : j + 1 < here.length) (hB : K.length < sizeLine) (hT : T.length < sizeLine)
    (h0 : (apF ws (here.getD j 0) (here.getD (j + 1) 0) → swapL here j ∈ K) → E.nx (xE ws row kvs e3 T here (some (.int (j : Int))) (some (rD (swapL here j)))))
    (h1 : apF ws (here.getD j 0) (here.getD (j + 1) 0) → swapL here j ∉ K → ∀ kvs', Fd (K ++ [swapL here j]) kvs' → E.nx (xE ws row kvs' e3 (T ++ [swapL here j]) here (some (.int (j : Int))) (some (rD (swapL here j))))) :
    bodyI E (xE ws row kvs e3 T here (some (.int (j : Int))) e7) := by
  have h200 : 200 < sizeLine := by decide
  have i1 := inW_getD hW (show j < here.length by omega)
  have i2 := inW_getD hW hj
  have ej : ((j : Int) + 1).toNat = j + 1 := by omega
  have ej0 : ((j : Int)).toNat = j := by omega
  -- the row with both exchanged
  have part2 : (sIf (bAnd (bNot (bTest (x2 oIx (x2 oIx (xVar 0) (x2 oIx (xVar 5) (xVar 6))) (x2 oIx (xVar 5) (x2 oAdd (xVar 6) (xC (.int 1))))))) (bTest (x2 (oIn true) (xVar 7) (xVar 2)))) (sSeq (sPut 2 (xVar 7) (x2 oAdd (x2 oIx (xVar 2) (xVar 5)) (xC (.int 1)))) (sApp 4 (xImm (xVar 7)))) sNext) E (xE ws row kvs e3 T here (some (.int (j : Int))) (some (rD (swapL here j)))) := by
    refine atD_int (by omega) (by omega) ?_
    rw [ej0]
    have q2 : oIx (nD (nearF ws)) (.int (here.getD j 0)) fun d => atD (dInts here) ((j : Int) + 1) fun e => oIx d e fun d => match d with | .bl b => (if (!b) = true then (match (rD (swapL here j)).tkey? with | some k => (if xor true (lookD kvs k).isSome = true then (sSeq (sPut 2 (xVar 7) (x2 oAdd (x2 oIx (xVar 2) (xVar 5)) (xC (.int 1)))) (sApp 4 (xImm (xVar 7)))) E (xE ws row kvs e3 T here (some (.int (j : Int))) (some (rD (swapL here j)))) else sNext E (xE ws row kvs e3 T here (some (.int (j : Int))) (some (rD (swapL here j))))) | none => False) else sNext E (xE ws row kvs e3 T here (some (.int (j : Int))) (some (rD (swapL here j))))) | _ => False := by
      refine atD_blD i1.1 (by rw [nearF_len]; exact i1.2) (atD_int (by omega) (by omega) ?_)
      rw [ej]
      have en : (nearF ws).getD (here.getD j 0).toNat [] = (rangeI ws.length).map fun y => meetsF ws (here.getD j 0) y := by
        unfold nearF
        rw [range_getD i1.1 i1.2]
      rw [en]
      refine atD_bl i2.1 (by unfold rangeI; simp; exact i2.2) ?_
      rw [range_getD i2.1 i2.2]
      show (if (!meetsF ws (here.getD j 0) (here.getD (j + 1) 0)) = true then _ else _)
      split
      · rename_i ha
        have ha : apF ws (here.getD j 0) (here.getD (j + 1) 0) := by
          show meetsF ws _ _ = false
          simpa using ha
        rw [tkey_rD]
        have lk := look_in (s := swapL here j) hF
        show (if xor true (lookD kvs (kk (swapL here j))).isSome = true then _ else _)
        by_cases hm : swapL here j ∈ K
        · obtain ⟨z, hz⟩ := lk.1 hm
          rw [hz, if_neg (by simp)]
          exact h0 fun _ => hm
        · rw [lk.2 hm, if_pos (by decide)]
          obtain ⟨z, hz⟩ := (look_in (s := here) hF).1 hin
          refine oIx_dT hz ?_
          show setD (.dT kvs) (rD (swapL here j)) (.int (z + 1)) (fun d' => sApp 4 (xImm (xVar 7)) E ((xE ws row kvs e3 T here (some (.int (j : Int))) (some (rD (swapL here j)))).set 2 (some d')))
          refine setD_dT (by rw [fd_len hF]; exact hB) (fd_nodup hF nd) ?_
          refine ⟨immL_dInts _, by rw [rowsD_len]; exact hT, ?_⟩
          have := h1 ha hm _ (fd_put (z := z + 1) hF hm)
          unfold xE at this
          rw [← rowsD_snoc] at this
          exact this
      · rename_i ha
        exact h0 fun a => absurd (by rw [show meetsF ws (here.getD j 0) (here.getD (j + 1) 0) = false from a]; rfl) ha
    exact q2
  have c1 : cutD (dInts here) none (some (j : Int)) = dInts (here.take j) := by rw [cut_take, dInts_take]
  have c2 : cutD (dInts here) (some ((j : Int) + 2)) none = dInts (here.drop (j + 2)) := by
    rw [show ((j : Int) + 2) = ((j + 2 : Nat) : Int) by omega, cut_drop, dInts_drop]
  refine ⟨immL_dInts here, atD_int (by omega) (by omega) ⟨rfl, atD_int (by omega) (by omega) ⟨rfl, by show 2 ≤ sizeLine; decide, ?_⟩⟩⟩
  rw [c1, ej, ej0]
  refine ⟨immL_dInts _, rfl, by simp [dInts]; omega, immL_dInts here, ?_⟩
  rw [c2]
  refine ⟨?_, immL_dInts _, by simp [dInts]; omega, ?_⟩
  · rw [show dInts (here.take j) ++ [D.int (here.getD (j + 1) 0), D.int (here.getD j 0)] = dInts (here.take j ++ [here.getD (j + 1) 0, here.getD j 0]) from dInts_app _ [_, _]]
    exact immL_dInts _
  · rw [show dInts (here.take j) ++ [D.int (here.getD (j + 1) 0), D.int (here.getD j 0)] = dInts (here.take j ++ [here.getD (j + 1) 0, here.getD j 0]) from dInts_app _ [_, _], dInts_app]
    exact part2
end
end Pu

/-! file V04j -/
set_option Elab.async false
set_option linter.all false
set_option maxRecDepth 100000
set_option synthInstance.maxHeartbeats 0
set_option synthInstance.maxSize 100000
namespace Pu
open PySem PySem.Spec PyProof.Rows L2
section
variable {Q : D → Prop} {n : Int} {r s here row : List Int} {ws : List (List Int)} {e3 e4 e5 e6 e7 : Option D} {K T K' T' L : List (List Int)} {kvs kvs' : List (List Key × D)}
structure IV (ws : List (List Int)) (row : List Int) (K T : List (List Int)) : Prop where
  nd : K.Nodup
  row_in : row ∈ K
  rch : ∀ s ∈ K, Rch (apF ws) row s
  sub : ∀ s ∈ T, s ∈ K
  tl : T.length ≤ K.length
def Dn (ws : List (List Int)) (K : List (List Int)) (s : List Int) : Prop := ∀ j, j + 1 < s.length → apF ws (s.getD j 0) (s.getD (j + 1) 0) → swapL s j ∈ K
theorem Dn.mono (h : Dn ws K s) (k : ∀ s ∈ K, s ∈ K') : Dn ws K' s := fun j hj a => k _ (h j hj a)
/-- K', T' come of K, T -/
structure Mo2 (K T K' T' : List (List Int)) : Prop where
  k : ∀ s ∈ K, s ∈ K'
  n : ∀ s ∈ K', s ∈ K ∨ s ∈ T'
  t : ∀ s ∈ T, s ∈ T'
  c : K'.length + T.length = K.length + T'.length
theorem Mo2.refl : Mo2 K T K T := ⟨fun _ h => h, fun _ h => .inl h, fun _ h => h, rfl⟩
theorem Mo2.trans {K2 T2 : List (List Int)} (a : Mo2 K T K' T') (b : Mo2 K' T' K2 T2) : Mo2 K T K2 T2 := ⟨fun s h => b.k s (a.k s h), fun s h => (b.n s h).elim (fun h => (a.n s h).imp id (b.t s)) .inr, fun s h => b.t s (a.t s h), by have := a.c; have := b.c; omega⟩
theorem IV.bound (I : IV ws row K T) (hr : InW ws row) (w : ws.length ≤ 10) (hl : row.length ≤ 7) : K.length ≤ 10 ^ 7 := by
  have h1 : K.length ≤ (words ws.length row.length).length := nodup_le I.nd fun s hs => by
    have e := (I.rch s hs).len
    have := words_mem (w := ws.length) (s := s) fun x hx => hr x (((I.rch s hs).mem x).mp hx)
    rw [e] at this
    exact this
  rw [words_len] at h1
  exact Nat.le_trans h1 (Nat.le_trans (Nat.pow_le_pow_left w _) (Nat.pow_le_pow_right (by decide) hl))
theorem IV.add (I : IV ws row K T) {x : List Int} (hx : x ∉ K) (hr : Rch (apF ws) row x) : IV ws row (K ++ [x]) (T ++ [x]) ∧ Mo2 K T (K ++ [x]) (T ++ [x]) := by
  refine ⟨⟨?_, List.mem_append_left _ I.row_in, fun s hs => ?_, fun s hs => ?_, by have := I.tl; simp; omega⟩, fun s h => List.mem_append_left _ h, fun s h => ?_, fun s h => List.mem_append_left _ h, by simp; omega⟩
  · refine List.nodup_append.mpr ⟨I.nd, by simp, fun a ha b hb => ?_⟩
    rw [List.mem_singleton.mp hb]
    exact fun e => hx (e ▸ ha)
  · rcases List.mem_append.mp hs with z | z
    · exact I.rch s z
    · rw [List.mem_singleton.mp z]; exact hr
  · rcases List.mem_append.mp hs with z | z
    · exact List.mem_append_left _ (I.sub s z)
    · exact List.mem_append_right _ z
  · rcases List.mem_append.mp h with z | z
    · exact .inl z
    · exact .inr (List.mem_append_right _ z)
theorem rgD_drop {m j : Nat} {d : D} {ds : List D} (e : d :: ds = (rgD 0 m).drop j) : j < m ∧ d = .int (j : Int) ∧ ds = (rgD 0 m).drop (j + 1) := by
  have hj : j < (rgD 0 m).length := by
    by_cases h : j < (rgD 0 m).length
    · exact h
    · rw [List.drop_eq_nil_of_le (by omega)] at e
      cases e
  rw [List.drop_eq_getElem_cons hj] at e
  obtain ⟨e1, e2⟩ := List.cons.inj e
  have hj2 : j < m := by rw [rgD_len] at hj; exact hj
  refine ⟨hj2, ?_, e2⟩
  have q : (rgD 0 m)[j]? = some (D.int (j : Int)) := by
    unfold rgD
    rw [List.getElem?_map, List.getElem?_range hj2]
    show some (D.int (0 + (j : Int))) = _
    rw [Int.zero_add]
  rw [List.getElem?_eq_getElem hj] at q
  rw [e1]
  exact Option.some.inj q
def forI : XS := sFor (mRng1 (x2 (oI fun i j => .int (i - j)) (x1 oLenA (xVar 5)) (xC (.int 1)))) (bName 6) bodyI
instance : MS forI := by unfold forI; infer_instance
theorem forI_ev {E : PEnds} (hr : InW ws row) (w : ws.length ≤ 10) (hl : row.length ≤ 7) (I : IV ws row K T) (hF : Fd K kvs) (hin : here ∈ K)
    (h : ∀ K' T' kvs' e6 e7, IV ws row K' T' → Fd K' kvs' → Mo2 K T K' T' → Dn ws K' here → E.nx (xE ws row kvs' e3 T' here e6 e7)) : forI E (xE ws row kvs e3 T here e6 e7) := by
  have hlen : here.length = row.length := (I.rch here hin).len
  have hW : InW ws here := fun x hx => hr x (((I.rch here hin).mem x).mp hx)
  have hsz : 10 ^ 7 < sizeLine := by decide
  refine .inl ⟨by rw [dInts_len]; constructor <;> omega, ?_⟩
  generalize hm : ((((dInts here).length : Nat) : Int) - 1).toNat = m
  have hm : m = here.length - 1 := by rw [← hm, dInts_len]; omega
  refine loop_ev (b := bName 6) (body := bodyI) (fun ds env => ∃ j K' T' kvs' e6 e7, ds = (rgD 0 m).drop j ∧ env = xE ws row kvs' e3 T' here e6 e7 ∧ IV ws row K' T' ∧ Fd K' kvs' ∧ Mo2 K T K' T' ∧ ∀ i, i < j → i + 1 < here.length → apF ws (here.getD i 0) (here.getD (i + 1) 0) → swapL here i ∈ K')
    ?_ (fun d env Q Q' k q => k _ q) (MS.all (m := bodyI) _ _ _) _ _ ⟨0, K, T, kvs, e6, e7, rfl, rfl, I, hF, .refl, fun i hi => absurd hi (Nat.not_lt_zero _)⟩ ?_
  · rintro d ds env ⟨j, K', T', kvs', e6, e7, e, rfl, I', F', M, dn⟩
    obtain ⟨hj, rfl, e2⟩ := rgD_drop e
    have hb := I'.bound hr w hl
    have ht := I'.tl
    have hin' := M.k _ hin
    refine bodyI_ev F' I'.nd hin' hW (by omega) (by omega) (by omega) (by omega) (fun a => ?_) fun a hx kvs2 F2 => ?_
    · refine ⟨j + 1, K', T', kvs', _, _, e2, rfl, I', F', M, fun i hi h1 h2 => ?_⟩
      by_cases q : i = j
      · subst q; exact a h2
      · exact dn i (by omega) h1 h2
    · obtain ⟨I2, M2⟩ := I'.add hx (rch_swap (by omega) a (I'.rch here hin'))
      refine ⟨j + 1, _, _, kvs2, _, _, e2, rfl, I2, F2, M.trans M2, fun i hi h1 h2 => ?_⟩
      by_cases q : i = j
      · subst q; exact List.mem_append_right _ List.mem_cons_self
      · exact M2.k _ (dn i (by omega) h1 h2)
  · rintro env ⟨j, K', T', kvs', e6, e7, e, rfl, I', F', M, dn⟩
    have hj : m ≤ j := by
      have := congrArg List.length e
      rw [List.length_drop, rgD_len] at this
      simp at this
      omega
    exact h K' T' kvs' _ _ I' F' M fun i h1 h2 => dn i (by omega) h1 h2
end
end Pu

/-! file V04k -/
set_option Elab.async false
set_option linter.all false
set_option maxRecDepth 100000
set_option synthInstance.maxHeartbeats 0
set_option synthInstance.maxSize 100000
namespace Pu
open PySem PySem.Spec PyProof.Rows L2
section
variable {Q : D → Prop} {n : Int} {r s here row : List Int} {ws : List (List Int)} {e2 e3 e4 e5 e6 e7 : Option D} {K T K' T' L : List (List Int)} {kvs kvs' : List (List Key × D)}
def yE (ws : List (List Int)) (row : List Int) (kvs : List (List Key × D)) (e3 : Option D) (T : List (List Int)) (e5 e6 e7 : Option D) : PEnv := [some (nD (nearF ws)), some (rD row), some (.dT kvs), e3, some (.lst (rowsD T)), e5, e6, e7]
def forL : XS := sFor (mSeq (xVar 3)) (bName 5) forI
instance : MS forL := by unfold forL; infer_instance
theorem rowsD_cons {d : D} {ds : List D} {P : List (List Int)} (e : d :: ds = rowsD P) : ∃ p P', P = p :: P' ∧ d = rD p ∧ ds = rowsD P' := by
  cases P with
  | nil => cases e
  | cons p P' =>
    obtain ⟨e1, e2⟩ := List.cons.inj (show d :: ds = rD p :: rowsD P' from e)
    exact ⟨p, P', rfl, e1, e2⟩
theorem forL_ev {E : PEnds} (hr : InW ws row) (w : ws.length ≤ 10) (hl : row.length ≤ 7) (I : IV ws row K []) (hF : Fd K kvs) (hL : ∀ s ∈ L, s ∈ K) (hD : ∀ s ∈ K, s ∈ L ∨ Dn ws K s)
    (h : ∀ K' T' kvs' e5 e6 e7, IV ws row K' T' → Fd K' kvs' → Mo2 K [] K' T' → (∀ s ∈ K', s ∈ T' ∨ Dn ws K' s) → E.nx (yE ws row kvs' (some (.lst (rowsD L))) T' e5 e6 e7)) : forL E (yE ws row kvs (some (.lst (rowsD L))) [] e5 e6 e7) := by
  show sLoop (bName 5) forI (rowsD L) E _
  refine loop_ev (b := bName 5) (body := forI) (fun ds env => ∃ P K' T' kvs' e5 e6 e7, ds = rowsD P ∧ env = yE ws row kvs' (some (.lst (rowsD L))) T' e5 e6 e7 ∧ IV ws row K' T' ∧ Fd K' kvs' ∧ Mo2 K [] K' T' ∧ (∀ s ∈ P, s ∈ K') ∧ ∀ s ∈ K', s ∈ T' ∨ s ∈ P ∨ Dn ws K' s)
    ?_ (fun d env Q Q' k q => k _ q) (MS.all (m := forI) _ _ _) _ _ ⟨L, K, [], kvs, e5, e6, e7, rfl, rfl, I, hF, .refl, hL, fun s hs => .inr (hD s hs)⟩ ?_
  · rintro d ds env ⟨P, K', T', kvs', e5, e6, e7, e, rfl, I', F', M, hP, hd⟩
    obtain ⟨p, P', rfl, rfl, rfl⟩ := rowsD_cons e
    refine forI_ev (here := p) hr w hl I' F' (hP p List.mem_cons_self) fun K2 T2 kvs2 e6 e7 I2 F2 M2 dn => ⟨P', K2, T2, kvs2, _, e6, e7, rfl, rfl, I2, F2, M.trans M2, fun s hs => M2.k s (hP s (List.mem_cons_of_mem _ hs)), fun s hs => ?_⟩
    rcases M2.n s hs with z | z
    · rcases hd s z with z | z | z
      · exact .inl (M2.t s z)
      · rcases List.mem_cons.mp z with z | z
        · rw [z]; exact .inr (.inr dn)
        · exact .inr (.inl z)
      · exact .inr (.inr (z.mono M2.k))
    · exact .inl z
  · rintro env ⟨P, K', T', kvs', e5, e6, e7, e, rfl, I', F', M, hP, hd⟩
    have eP : P = [] := by
      cases P with
      | nil => rfl
      | cons p P => cases e
    subst eP
    exact h K' T' kvs' _ _ _ I' F' M fun s hs => (hd s hs).elim .inl fun z => z.elim (fun z => nomatch z) .inr
def bodyO : XS := sSeq (sSet 4 (xLst xNil)) (sSeq forL (sSet 3 (xVar 4)))
def zE (ws : List (List Int)) (row : List Int) (kvs : List (List Key × D)) (L : List (List Int)) (e4 e5 e6 e7 : Option D) : PEnv := [some (nD (nearF ws)), some (rD row), some (.dT kvs), some (.lst (rowsD L)), e4, e5, e6, e7]
def whO : XS := sWhile (bTest (x2 (oI fun i j => .bl (decide (j < i))) (x1 oLenA (xVar 3)) (xC (.int 0)))) bodyO
def lay (L : List (List Int)) : Nat := if L = [] then 0 else 1
theorem whO_ev {E : PEnds} (hr : InW ws row) (w : ws.length ≤ 10) (hl : row.length ≤ 7)
    (h : ∀ K kvs e3 e4 e5 e6 e7, IV ws row K [] → Fd K kvs → (∀ s ∈ K, Dn ws K s) → E.nx [some (nD (nearF ws)), some (rD row), some (.dT kvs), e3, e4, e5, e6, e7]) : whO E (zE ws row [(kk row, .int 0)] [row] e4 e5 e6 e7) := by
  have hsz : 10 ^ 7 < sizeLine := by decide
  refine ⟨fun m env => ∃ K kvs L e4 e5 e6 e7, env = zE ws row kvs L e4 e5 e6 e7 ∧ IV ws row K L ∧ Fd K kvs ∧ (∀ s ∈ K, s ∈ L ∨ Dn ws K s) ∧ m = 2 * (10 ^ 7 - K.length) + lay L, ⟨_, [row], _, [row], _, _, _, _, rfl, ⟨by simp, by simp, fun s hs => ?_, fun s hs => hs, by simp⟩, ⟨rfl, fun kv hk => ?_⟩, fun s hs => .inl hs, rfl⟩, ?_⟩
  · rw [List.mem_singleton.mp hs]; exact .refl _
  · rw [List.mem_singleton.mp hk]; exact ⟨0, rfl⟩
  · rintro m env ⟨K, kvs, L, e4, e5, e6, e7, rfl, I, hF, hD, rfl⟩
    refine .inl ?_
    show (if decide ((0 : Int) < ((rowsD L).length : Nat)) = true then _ else _)
    split
    · rename_i hpos
      have hpos := of_decide_eq_true hpos
      rw [rowsD_len] at hpos
      have I0 : IV ws row K [] := ⟨I.nd, I.row_in, I.rch, fun s h => (nomatch h), Nat.zero_le _⟩
      refine ⟨by show 0 ≤ sizeLine; decide, ?_⟩
      refine forL_ev hr w hl I0 hF I.sub hD fun K' T' kvs' e5 e6 e7 I' F' M hd => ?_
      have b1 := I.bound hr w hl
      have b2 := I'.bound hr w hl
      have c := M.c
      refine ⟨_, ?_, K', kvs', T', _, e5, e6, e7, rfl, I', F', hd, rfl⟩
      have l1 : lay L = 1 := by unfold lay; rw [if_neg (fun e => by rw [e] at hpos; simp at hpos)]
      rw [l1]
      unfold lay
      simp only [List.length_nil, Nat.add_zero] at c
      split
      · rename_i e
        rw [e] at c
        simp at c
        omega
      · rename_i e
        have := List.length_pos_iff.mpr e
        omega
    · rename_i hpos
      have e : L = [] := by
        cases L with
        | nil => rfl
        | cons p L =>
          rw [rowsD_len] at hpos
          exact absurd (decide_eq_true (by simp)) hpos
      subst e
      exact h K kvs _ _ _ _ _ I hF fun s hs => (hD s hs).resolve_left fun z => nomatch z
theorem exch_ev (hr : InW ws row) (w : ws.length ≤ 10) (hl : row.length ≤ 7) : FP m__law_exchanged [nD (nearF ws), rD row] (fun d => ∃ K kvs, d = .dT kvs ∧ Fd K kvs ∧ IV ws row K [] ∧ ∀ s ∈ K, Dn ws K s) := fun Q q => by
  show (match (rD row).tkey? with | some k => _ | none => False)
  rw [tkey_rD]
  refine ⟨immL_dInts row, by show 1 ≤ sizeLine; decide, ?_⟩
  exact whO_ev hr w hl fun K kvs e3 e4 e5 e6 e7 I F D => q _ ⟨K, kvs, rfl, F, I, D⟩
theorem dn_closed (hD : ∀ s ∈ K, Dn ws K s) (h0 : row ∈ K) (a : Rch (apF ws) row s) : s ∈ K := by
  induction a with
  | refl => exact h0
  | @step A B x y h e ih =>
    have l1 : A.length + 1 < (A ++ x :: y :: B).length := by simp
    have g1 : (A ++ x :: y :: B).getD A.length 0 = x := by
      rw [List.getD_eq_getElem?_getD, List.getElem?_append_right (Nat.le_refl _)]
      simp
    have g2 : (A ++ x :: y :: B).getD (A.length + 1) 0 = y := by
      rw [List.getD_eq_getElem?_getD, List.getElem?_append_right (by omega)]
      simp
    have := hD _ ih A.length l1 (by rw [g1, g2]; exact e)
    unfold swapL at this
    rw [g1, g2] at this
    simpa using this
end
end Pu

/-! file V04m -/
set_option Elab.async false
set_option linter.all false
set_option maxRecDepth 100000
set_option synthInstance.maxHeartbeats 0
set_option synthInstance.maxSize 100000
namespace Pu
open PySem PySem.Spec PyProof.Rows L2
def bM_0 : XS := sSet 9 (xIf (bTest (x2 (oI fun i j => .bl (decide (j < i))) (xCall m__law_draw (xDice (xCons (xC (.int 4)) xNil))) (xC (.int 0)))) (xCall m__law_changed (xDice (xCons (xVar 5) (xCons (xVar 6) xNil)))) (xCall m__law_row (xDice (xCons (xVar 3) (xCons (xC (.int 5)) xNil)))))
def bM_1 : XS := sSet 10 (x2 (oIn false) (xVar 9) (xVar 7))
def bM_2 : XS := sIf (bOr (bNot (bTest (xCall m__law_flag (xCons (xCall m_alike (xCons (xVar 4) (xCons (xVar 6) (xCons (xVar 9) xNil)))) (xCons (xVar 10) xNil))))) (bNot (bTest (xCall m__law_flag (xCons (xCall m_alike (xCons (xVar 4) (xCons (xVar 9) (xCons (xVar 6) xNil)))) (xCons (xVar 10) xNil)))))) (sRet (xC (.bl false))) sNext
def bM_3 : XS := sSet 11 (xCall m__law_changed (xDice (xCons (xVar 5) (xCons (xVar 9) xNil))))
def bM_4 : XS := sIf (bAnd (bTest (xVar 10)) (bTest (x2 (oIsB false) (xCall m__law_flag (xCons (xCall m_alike (xCons (xVar 4) (xCons (xVar 9) (xCons (xVar 11) xNil)))) (xCons (x2 (oIn false) (xVar 11) (xVar 7)) xNil))) (xC (.bl false))))) (sRet (xC (.bl false))) sNext
def bM_5 : XS := sSet 12 (xCall m__law_row (xDice (xCons (xVar 3) (xCons (xC (.int 3)) xNil))))
def bM_6 : XS := sIf (bOr (bTest (x2 oNe (xCall m_alike (xCons (xVar 4) (xCons (x2 oAdd (xVar 6) (xVar 12)) (xCons (x2 oAdd (xVar 9) (xVar 12)) xNil)))) (xVar 10))) (bTest (x2 oNe (xCall m_alike (xCons (xVar 4) (xCons (x2 oAdd (xVar 12) (xVar 6)) (xCons (x2 oAdd (xVar 12) (xVar 9)) xNil)))) (xVar 10)))) (sRet (xC (.bl false))) sNext
def bM : XS := sSeq bM_0 (sSeq bM_1 (sSeq bM_2 (sSeq bM_3 (sSeq bM_4 (sSeq bM_5 (bM_6))))))
def bN : XS := sIf (bTest (x2 (oIsB true) (xCall m_alike (xCons (xVar 4) (xCons (xVar 6) (xCons (x2 oIx (xVar 13) (xVar 14)) xNil)))) (xC (.bl true)))) (sRet (xC (.bl false))) sNext
def bL_0 : XS := sSet 3 (xCall m__law_some_parts (xDice xNil))
def bL_1 : XS := sSet 4 (xCall m__law_made (xCons (xVar 3) xNil))
def bL_2 : XS := sSet 5 (xCall m__law_near (xCons (xVar 3) xNil))
def bL_3 : XS := sSet 6 (xCall m__law_row (xDice (xCons (xVar 3) (xCons (xIf (bTest (x2 oEq (xVar 2) (xC (.int 0)))) (xC (.int 7)) (xC (.int 5))) xNil))))
def bL_4 : XS := sSet 7 (xCall m__law_exchanged (xCons (xVar 5) (xCons (xVar 6) xNil)))
def bL_6 : XS := sSet 13 (x1 oSortA (x1 oListA (xVar 7)))
def bL_5 : XS := sFor (mRng1 (xC (.int 6))) (bName 8) bM
def bL_7 : XS := sFor (mSeq (xLst (xCons (xC (.int 0)) (xCons (x2 (oI fun i j => .int (i - j)) (x1 oLenA (xVar 13)) (xC (.int 1))) (xCons (xCall m__law_draw (xDice (xCons (x1 oLenA (xVar 13)) xNil))) xNil))))) (bName 14) bN
def bL : XS := sSeq bL_0 (sSeq bL_1 (sSeq bL_2 (sSeq bL_3 (sSeq bL_4 (sSeq bL_5 (sSeq bL_6 (bL_7)))))))
section
variable {Q : D → Prop} {n : Int} {r s o m row : List Int} {ws : List (List Int)} {e2 e3 e4 e5 e6 e7 e8 e9 e10 e11 e12 e13 e14 : Option D} {K T : List (List Int)} {kvs : List (List Key × D)}
theorem logs_iff : logsF n ws r = logsF n ws s ↔ ∀ d ∈ rangeI n, logF ws r d = logF ws s d := List.map_inj_left
theorem lot_in (h : WsOk n ws) (x d : Int) (hd : (W ws x).contains d = true) : d ∈ rangeI n := by
  have hm : d ∈ W ws x := by simpa using hd
  have hl : W ws x ∈ ws := by
    unfold W at hm ⊢
    rw [List.getD_eq_getElem?_getD] at hm ⊢
    cases e : ws[x.toNat]? with
    | none => rw [e] at hm; cases hm
    | some l => exact List.mem_of_getElem? e
  have := lotOk_all (h.2.2.2.2 _ hl).1 d hm
  exact List.mem_map.mpr ⟨d.toNat, List.mem_range.mpr (by omega), Int.toNat_of_nonneg this.1⟩
theorem desks_of (h : WsOk n ws) (hr : InW ws r) : Desks ws n r := fun x hx => by
  have h2 := hr x hx
  have hj : x.toNat < ws.length := by omega
  have hl : W ws x ∈ ws := by
    unfold W
    rw [List.getD_eq_getElem?_getD, List.getElem?_eq_getElem hj]
    exact List.getElem_mem hj
  obtain ⟨d, hd⟩ := List.exists_mem_of_ne_nil _ (h.2.2.2.2 _ hl).2.1
  have hc : (W ws x).contains d = true := by simpa using hd
  exact ⟨d, lot_in h x d hc, hc⟩
theorem known_iff (h : WsOk n ws) (hr : InW ws row) (ho : InW ws o) (I : IV ws row K []) (hD : ∀ s ∈ K, Dn ws K s) : o ∈ K ↔ logsF n ws row = logsF n ws o := by
  rw [logs_iff]
  constructor
  · intro hk d _
    exact ((I.rch o hk).logs d).symm
  · intro hh
    exact dn_closed hD I.row_in (rch_of_logs (lot_in h) (desks_of h hr) (desks_of h ho) hh)
theorem in_known (hF : Fd K kvs) (q : Q (.bl (decide (o ∈ K)))) : oIn false (rD o) (.dT kvs) Q := by
  show (match (rD o).tkey? with | some k => Q (.bl (xor false (lookD kvs k).isSome)) | none => False)
  rw [tkey_rD]
  have lk := look_in (s := o) hF
  show Q (.bl (xor false (lookD kvs (kk o)).isSome))
  by_cases hm : o ∈ K
  · obtain ⟨z, hz⟩ := lk.1 hm
    rw [hz]
    rw [decide_eq_true hm] at q
    exact q
  · rw [lk.2 hm]
    rw [decide_eq_false hm] at q
    exact q
/-- what stands in one turn of the law -/
structure Tn (n : Int) (ws : List (List Int)) (row : List Int) (K : List (List Int)) (kvs : List (List Key × D)) : Prop where
  w : WsOk n ws
  r : InW ws row
  l : row.length ≤ 7
  f : Fd K kvs
  i : IV ws row K []
  d : ∀ s ∈ K, Dn ws K s
def lE (n : Int) (ws : List (List Int)) (row : List Int) (kvs : List (List Key × D)) (e2 e8 e9 e10 e11 e12 e13 e14 : Option D) : PEnv := [none, none, e2, some (pD n ws), some (oD n ws), some (nD (nearF ws)), some (rD row), some (.dT kvs), e8, e9, e10, e11, e12, e13, e14]
theorem logs_app_r : logsF n ws (r ++ m) = logsF n ws (s ++ m) ↔ logsF n ws r = logsF n ws s := by
  rw [logs_iff, logs_iff]
  constructor
  · intro h d hd
    have := h d hd
    rw [logF_app, logF_app] at this
    exact List.append_cancel_right this
  · intro h d hd
    rw [logF_app, logF_app, h d hd]
theorem logs_app_l : logsF n ws (m ++ r) = logsF n ws (m ++ s) ↔ logsF n ws r = logsF n ws s := by
  rw [logs_iff, logs_iff]
  constructor
  · intro h d hd
    have := h d hd
    rw [logF_app, logF_app] at this
    exact List.append_cancel_left this
  · intro h d hd
    rw [logF_app, logF_app, h d hd]
theorem bM0_gen {f g : XF} {E : PEnds} (t : Tn n ws row K kvs) (hf : FP f [.non, nD (nearF ws), rD row] (fun d => ∃ s, d = rD s ∧ s.length ≤ row.length + 1 ∧ InW ws s)) (hg : FP g [.non, pD n ws, .int 5] (fun d => ∃ r : List Int, d = rD r ∧ (r.length : Int) ≤ 5 ∧ InW ws r))
    (h : ∀ o, InW ws o → o.length ≤ 8 → E.nx (lE n ws row kvs e2 e8 (some (rD o)) e10 e11 e12 e13 e14)) :
    (sSet 9 (xIf (bTest (x2 (oI fun i j => .bl (decide (j < i))) (xCall m__law_draw (xDice (xCons (xC (.int 4)) xNil))) (xC (.int 0)))) (xCall f (xDice (xCons (xVar 5) (xCons (xVar 6) xNil)))) (xCall g (xDice (xCons (xVar 3) (xCons (xC (.int 5)) xNil)))))) E (lE n ws row kvs e2 e8 e9 e10 e11 e12 e13 e14) := by
  refine ⟨by decide, by decide, fun k _ _ => ?_⟩
  show (if decide (0 < k) = true then _ else _)
  split
  · refine hf _ fun d ⟨s, e, hl, hw⟩ => ?_
    subst e
    exact h s hw (by have := t.l; omega)
  · refine hg _ fun d ⟨s, e, hl, hw⟩ => ?_
    subst e
    exact h s hw (by omega)
theorem bM0_ev {E : PEnds} (t : Tn n ws row K kvs) (h : ∀ o, InW ws o → o.length ≤ 8 → E.nx (lE n ws row kvs e2 e8 (some (rD o)) e10 e11 e12 e13 e14)) : bM_0 E (lE n ws row kvs e2 e8 e9 e10 e11 e12 e13 e14) := by
  obtain ⟨h1, h2, h3, h4, h5⟩ := id t.w
  unfold bM_0
  exact bM0_gen t (changed_ev h3 h4 t.r (by have := t.l; omega)) (row_ev (by decide) (by decide) h3 h4) h
theorem bM1_ev {E : PEnds} (t : Tn n ws row K kvs) (h : E.nx (lE n ws row kvs e2 e8 (some (rD o)) (some (.bl (decide (o ∈ K)))) e11 e12 e13 e14)) : bM_1 E (lE n ws row kvs e2 e8 (some (rD o)) e10 e11 e12 e13 e14) := by
  show oIn false (rD o) (.dT kvs) fun d => E.nx (lE n ws row kvs e2 e8 (some (rD o)) (some d) e11 e12 e13 e14)
  exact in_known t.f h
theorem bM3_gen {f : XF} {E : PEnds} (hf : FP f [.non, nD (nearF ws), rD o] (fun d => ∃ s, d = rD s ∧ s.length ≤ o.length + 1 ∧ InW ws s)) (hl : o.length ≤ 8) (h : ∀ s, InW ws s → s.length ≤ 9 → E.nx (lE n ws row kvs e2 e8 (some (rD o)) e10 (some (rD s)) e12 e13 e14)) :
    (sSet 11 (xCall f (xDice (xCons (xVar 5) (xCons (xVar 9) xNil))))) E (lE n ws row kvs e2 e8 (some (rD o)) e10 e11 e12 e13 e14) := by
  refine hf _ fun d ⟨s, e, hl2, hw⟩ => ?_
  subst e
  exact h s hw (by omega)
theorem bM3_ev {E : PEnds} (t : Tn n ws row K kvs) (ho : InW ws o) (hl : o.length ≤ 8) (h : ∀ s, InW ws s → s.length ≤ 9 → E.nx (lE n ws row kvs e2 e8 (some (rD o)) e10 (some (rD s)) e12 e13 e14)) : bM_3 E (lE n ws row kvs e2 e8 (some (rD o)) e10 e11 e12 e13 e14) := by
  obtain ⟨h1, h2, h3, h4, h5⟩ := id t.w
  unfold bM_3
  exact bM3_gen (changed_ev h3 h4 ho (by omega)) hl h
theorem bM2_gen {a f : XF} {E : PEnds} (ha : ∀ r s : List Int, RowOk ws r → RowOk ws s → FEv a [oD n ws, rD r, rD s] (.bl (decide (logsF n ws r = logsF n ws s)))) (hf : ∀ x y : Bool, FEv f [.bl x, .bl y] (.bl (x == y)))
    (t : Tn n ws row K kvs) (ho : InW ws o) (hl : o.length ≤ 8) (h : E.nx (lE n ws row kvs e2 e8 (some (rD o)) (some (.bl (decide (o ∈ K)))) e11 e12 e13 e14)) :
    (sIf (bOr (bNot (bTest (xCall f (xCons (xCall a (xCons (xVar 4) (xCons (xVar 6) (xCons (xVar 9) xNil)))) (xCons (xVar 10) xNil))))) (bNot (bTest (xCall f (xCons (xCall a (xCons (xVar 4) (xCons (xVar 9) (xCons (xVar 6) xNil)))) (xCons (xVar 10) xNil)))))) (sRet (xC (.bl false))) sNext) E (lE n ws row kvs e2 e8 (some (rD o)) (some (.bl (decide (o ∈ K)))) e11 e12 e13 e14) := by
  have hr : RowOk ws row := ⟨by have := t.l; omega, t.r⟩
  have ho2 : RowOk ws o := ⟨by omega, ho⟩
  have e1 : decide (logsF n ws row = logsF n ws o) = decide (o ∈ K) := by rw [Bool.eq_iff_iff, decide_eq_true_iff, decide_eq_true_iff, known_iff t.w t.r ho t.i t.d]
  have e2 : decide (logsF n ws o = logsF n ws row) = decide (o ∈ K) := by rw [← e1, Bool.eq_iff_iff, decide_eq_true_iff, decide_eq_true_iff]; exact eq_comm
  refine ha _ _ hr ho2 _ (hf _ _ _ ?_)
  rw [e1, beq_self_eq_true]
  refine ha _ _ ho2 hr _ (hf _ _ _ ?_)
  rw [e2, beq_self_eq_true]
  exact h
theorem bM2_ev {E : PEnds} (t : Tn n ws row K kvs) (ho : InW ws o) (hl : o.length ≤ 8) (h : E.nx (lE n ws row kvs e2 e8 (some (rD o)) (some (.bl (decide (o ∈ K)))) e11 e12 e13 e14)) : bM_2 E (lE n ws row kvs e2 e8 (some (rD o)) (some (.bl (decide (o ∈ K)))) e11 e12 e13 e14) := by
  unfold bM_2
  exact bM2_gen (fun r s hr hs => alike_ev t.w hr hs) (fun x y => flag_ev) t ho hl h
theorem bM5_gen {g : XF} {E : PEnds} (hg : FP g [.non, pD n ws, .int 3] (fun d => ∃ r : List Int, d = rD r ∧ (r.length : Int) ≤ 3 ∧ InW ws r)) (h : ∀ m, InW ws m → m.length ≤ 3 → E.nx (lE n ws row kvs e2 e8 e9 e10 e11 (some (rD m)) e13 e14)) :
    (sSet 12 (xCall g (xDice (xCons (xVar 3) (xCons (xC (.int 3)) xNil))))) E (lE n ws row kvs e2 e8 e9 e10 e11 e12 e13 e14) := by
  refine hg _ fun d ⟨s, e, hl, hw⟩ => ?_
  subst e
  exact h s hw (by omega)
theorem bM5_ev {E : PEnds} (t : Tn n ws row K kvs) (h : ∀ m, InW ws m → m.length ≤ 3 → E.nx (lE n ws row kvs e2 e8 e9 e10 e11 (some (rD m)) e13 e14)) : bM_5 E (lE n ws row kvs e2 e8 e9 e10 e11 e12 e13 e14) := by
  obtain ⟨h1, h2, h3, h4, h5⟩ := id t.w
  unfold bM_5
  exact bM5_gen (row_ev (by decide) (by decide) h3 h4) h
theorem bM4_gen {a f : XF} {E : PEnds} (ha : ∀ r s : List Int, RowOk ws r → RowOk ws s → FEv a [oD n ws, rD r, rD s] (.bl (decide (logsF n ws r = logsF n ws s)))) (hf : ∀ x y : Bool, FEv f [.bl x, .bl y] (.bl (x == y)))
    (t : Tn n ws row K kvs) (ho : InW ws o) (hl : o.length ≤ 8) (hs : InW ws s) (hl2 : s.length ≤ 9) (h : E.nx (lE n ws row kvs e2 e8 (some (rD o)) (some (.bl (decide (o ∈ K)))) (some (rD s)) e12 e13 e14)) :
    (sIf (bAnd (bTest (xVar 10)) (bTest (x2 (oIsB false) (xCall f (xCons (xCall a (xCons (xVar 4) (xCons (xVar 9) (xCons (xVar 11) xNil)))) (xCons (x2 (oIn false) (xVar 11) (xVar 7)) xNil))) (xC (.bl false))))) (sRet (xC (.bl false))) sNext) E (lE n ws row kvs e2 e8 (some (rD o)) (some (.bl (decide (o ∈ K)))) (some (rD s)) e12 e13 e14) := by
  have ho2 : RowOk ws o := ⟨by omega, ho⟩
  have hs2 : RowOk ws s := ⟨by omega, hs⟩
  show (if decide (o ∈ K) = true then _ else _)
  split
  · rename_i hk
    have hk := (known_iff t.w t.r ho t.i t.d).mp (of_decide_eq_true hk)
    have e1 : decide (logsF n ws o = logsF n ws s) = decide (s ∈ K) := by rw [Bool.eq_iff_iff, decide_eq_true_iff, decide_eq_true_iff, known_iff t.w t.r hs t.i t.d, hk]
    refine ha _ _ ho2 hs2 _ ?_
    show oIn false (rD s) (.dT kvs) (fun d => f [.bl (decide (logsF n ws o = logsF n ws s)), d] _)
    refine in_known t.f (hf _ _ _ ?_)
    rw [e1, beq_self_eq_true]
    exact h
  · exact h
theorem bM4_ev {E : PEnds} (t : Tn n ws row K kvs) (ho : InW ws o) (hl : o.length ≤ 8) (hs : InW ws s) (hl2 : s.length ≤ 9) (h : E.nx (lE n ws row kvs e2 e8 (some (rD o)) (some (.bl (decide (o ∈ K)))) (some (rD s)) e12 e13 e14)) : bM_4 E (lE n ws row kvs e2 e8 (some (rD o)) (some (.bl (decide (o ∈ K)))) (some (rD s)) e12 e13 e14) := by
  unfold bM_4
  exact bM4_gen (fun r s hr hs => alike_ev t.w hr hs) (fun x y => flag_ev) t ho hl hs hl2 h
theorem add_rD (hl : r.length + s.length ≤ 200) (q : Q (rD (r ++ s))) : oAdd (rD r) (rD s) Q := by
  have h200 : 200 < sizeLine := by decide
  refine ⟨immL_dInts r, immL_dInts s, by rw [dInts_len, dInts_len]; omega, ?_⟩
  rw [dInts_app]
  exact q
theorem ne_bl {x : Bool} (q : Q (.bl false)) : oNe (.bl x) (.bl x) Q := by
  refine ⟨rfl, rfl, ?_⟩
  show Q (.bl (!(x == x)))
  rw [beq_self_eq_true]
  exact q
end
end Pu

/-! file PuStep -/
set_option Elab.async false
set_option linter.all false
namespace Pu
open PySem PySem.Spec PyProof.Rows L2
section
variable {Q : D → Prop} {R : List D → Prop} {B : Bool → Prop} {N : PEnv → Prop} {env : PEnv} {d e : D} {o : Option D} {i : Nat} {E : PEnds} {m n : X1} {r : XL} {a b : XB} {s t : XS} {f : XF}
theorem u_var0 : xVar 0 (some d :: env) Q = Q d := rfl
theorem u_varS : xVar (i + 1) (o :: env) Q = xVar i env Q := rfl
theorem u_c : xC d env Q = Q d := rfl
theorem u_imm : xImm m env Q = m env fun d => d.imm = true ∧ Q d := rfl
theorem u_nil : xNil env R = R [] := rfl
theorem u_cons : xCons m r env R = m env fun d => r env fun ds => R (d :: ds) := rfl
theorem u_dice : xDice r env R = r env fun ds => R (.non :: ds) := rfl
theorem u_call : xCall f r env Q = r env fun ds => f ds Q := rfl
theorem u_x1 {o : O1} : x1 o m env Q = m env fun d => o d Q := rfl
theorem u_x2 {o : O2} : x2 o m n env Q = m env fun d => n env fun e => o d e Q := rfl
theorem u_tup : xTup r env Q = r env fun ds => ds.length ≤ sizeLine ∧ Q (.tup ds) := rfl
theorem u_lst : xLst r env Q = r env fun ds => ds.length ≤ sizeLine ∧ Q (.lst ds) := rfl
theorem u_if : xIf a m n env Q = a env fun k => if k = true then m env Q else n env Q := rfl
theorem u_and : bAnd a b env B = a env fun c => if c = true then b env B else B false := rfl
theorem u_or : bOr a b env B = a env fun c => if c = true then B true else b env B := rfl
theorem u_not : bNot a env B = a env fun c => B (!c) := rfl
def boo (d : D) (B : Bool → Prop) : Prop := match d with
  | .bl b => B b
  | _ => False
theorem boo_bl {k : Bool} : boo (.bl k) B = B k := rfl
theorem u_test : bTest m env B = m env fun d => boo d B := by
  unfold bTest boo; rfl
theorem u_seq : sSeq s t E env = s { nx := t E, rt := E.rt, bk := E.bk, ct := E.ct } env := rfl
theorem u_set : sSet i m E env = m env fun d => E.nx (env.set i (some d)) := rfl
theorem u_sif : sIf a s t E env = a env fun k => if k = true then s E env else t E env := rfl
theorem u_ret : sRet m E env = m env E.rt := rfl
theorem u_next : sNext E env = E.nx env := rfl
theorem u_set0 {x : Option D} : List.set (o :: env) 0 x = x :: env := rfl
theorem u_setS {x : Option D} : List.set (o :: env) (i + 1) x = o :: List.set env i x := rfl
theorem u_oI {g : Int → Int → D} {x y : Int} : oI g (.int x) (.int y) Q = Q (g x y) := rfl
theorem u_oIc {c : Int → Int → Prop} {g : Int → Int → D} {x y : Int} : oIc c g (.int x) (.int y) Q = (c x y ∧ Q (g x y)) := rfl
theorem u_len_lst {xs : List D} : oLenA (.lst xs) Q = Q (.int (xs.length : Nat)) := by simp [oLenA, oLen, oLenT, oLenK]
theorem u_len_tup {xs : List D} : oLenA (.tup xs) Q = Q (.int (xs.length : Nat)) := by simp [oLenA, oLen, oLenT, oLenK]
theorem u_len_dT {xs : List (List Key × D)} : oLenA (.dT xs) Q = Q (.int (xs.length : Nat)) := by simp [oLenA, oLen, oLenT, oLenK]
theorem u_len_dK {xs : List (Key × D)} : oLenA (.dK xs) Q = Q (.int (xs.length : Nat)) := by simp [oLenA, oLen, oLenT, oLenK]
theorem u_mseq {m : X1} {env : PEnv} {R : List D → Prop} : mSeq m env R = m env fun d => (match d with | .lst ds => R ds | .tup ds => R ds | _ => False) := rfl
theorem u_mrng {m : X1} {env : PEnv} {R : List D → Prop} : mRng1 m env R = m env fun d => (match d with | .int j => RgOk j ∧ R (rgD 0 j.toNat) | _ => False) := rfl
theorem u_for {mi : XL} {b : XG} {body : XS} {E : PEnds} {env : PEnv} : sFor mi b body E env = mi env fun ds => sLoop b body ds E env := rfl
end
end Pu

/-! file V04n -/
set_option Elab.async false
set_option linter.all false
set_option maxRecDepth 100000
set_option synthInstance.maxHeartbeats 0
set_option synthInstance.maxSize 100000
namespace Pu
open PySem PySem.Spec PyProof.Rows L2
def B_law (f__law_changed f__law_draw f__law_exchanged f__law_flag f__law_made f__law_near f__law_row f__law_some_parts f_alike : XF) : XS := sSeq (sFor (mRng1 (xC (.int 4))) (bName 2) (sSeq (sSet 3 (xCall f__law_some_parts (xDice xNil))) (sSeq (sSet 4 (xCall f__law_made (xCons (xVar 3) xNil))) (sSeq (sSet 5 (xCall f__law_near (xCons (xVar 3) xNil))) (sSeq (sSet 6 (xCall f__law_row (xDice (xCons (xVar 3) (xCons (xIf (bTest (x2 oEq (xVar 2) (xC (.int 0)))) (xC (.int 7)) (xC (.int 5))) xNil))))) (sSeq (sSet 7 (xCall f__law_exchanged (xCons (xVar 5) (xCons (xVar 6) xNil)))) (sSeq (sFor (mRng1 (xC (.int 6))) (bName 8) (sSeq (sSet 9 (xIf (bTest (x2 (oI fun i j => .bl (decide (j < i))) (xCall f__law_draw (xDice (xCons (xC (.int 4)) xNil))) (xC (.int 0)))) (xCall f__law_changed (xDice (xCons (xVar 5) (xCons (xVar 6) xNil)))) (xCall f__law_row (xDice (xCons (xVar 3) (xCons (xC (.int 5)) xNil)))))) (sSeq (sSet 10 (x2 (oIn false) (xVar 9) (xVar 7))) (sSeq (sIf (bOr (bNot (bTest (xCall f__law_flag (xCons (xCall f_alike (xCons (xVar 4) (xCons (xVar 6) (xCons (xVar 9) xNil)))) (xCons (xVar 10) xNil))))) (bNot (bTest (xCall f__law_flag (xCons (xCall f_alike (xCons (xVar 4) (xCons (xVar 9) (xCons (xVar 6) xNil)))) (xCons (xVar 10) xNil)))))) (sRet (xC (.bl false))) sNext) (sSeq (sSet 11 (xCall f__law_changed (xDice (xCons (xVar 5) (xCons (xVar 9) xNil))))) (sSeq (sIf (bAnd (bTest (xVar 10)) (bTest (x2 (oIsB false) (xCall f__law_flag (xCons (xCall f_alike (xCons (xVar 4) (xCons (xVar 9) (xCons (xVar 11) xNil)))) (xCons (x2 (oIn false) (xVar 11) (xVar 7)) xNil))) (xC (.bl false))))) (sRet (xC (.bl false))) sNext) (sSeq (sSet 12 (xCall f__law_row (xDice (xCons (xVar 3) (xCons (xC (.int 3)) xNil))))) (sIf (bOr (bTest (x2 oNe (xCall f_alike (xCons (xVar 4) (xCons (x2 oAdd (xVar 6) (xVar 12)) (xCons (x2 oAdd (xVar 9) (xVar 12)) xNil)))) (xVar 10))) (bTest (x2 oNe (xCall f_alike (xCons (xVar 4) (xCons (x2 oAdd (xVar 12) (xVar 6)) (xCons (x2 oAdd (xVar 12) (xVar 9)) xNil)))) (xVar 10)))) (sRet (xC (.bl false))) sNext)))))))) (sSeq (sSet 13 (x1 oSortA (x1 oListA (xVar 7)))) (sFor (mSeq (xLst (xCons (xC (.int 0)) (xCons (x2 (oI fun i j => .int (i - j)) (x1 oLenA (xVar 13)) (xC (.int 1))) (xCons (xCall f__law_draw (xDice (xCons (x1 oLenA (xVar 13)) xNil))) xNil))))) (bName 14) (sIf (bTest (x2 (oIsB true) (xCall f_alike (xCons (xVar 4) (xCons (xVar 6) (xCons (x2 oIx (xVar 13) (xVar 14)) xNil)))) (xC (.bl true)))) (sRet (xC (.bl false))) sNext)))))))))) (sRet (xC (.bl true)))
theorem B_law_eq : b_law_k04 = B_law m__law_changed m__law_draw m__law_exchanged m__law_flag m__law_made m__law_near m__law_row m__law_some_parts m_alike := rfl
section
variable {Q : D → Prop} {n : Int} {r s o m row : List Int} {ws : List (List Int)} {e0 e1 e2 e3 e4 e5 e6 e7 e8 e9 e10 e11 e12 e13 e14 : Option D} {K T : List (List Int)} {kvs : List (List Key × D)}
/-- what the callees promise -/
structure LS (fch fdr fex ffl fma fne fro fsp fal : XF) : Prop where
  ch : ∀ {ws : List (List Int)} {r : List Int}, 1 ≤ ws.length → ws.length ≤ 10 → InW ws r → r.length ≤ 200 → FP fch [.non, nD (nearF ws), rD r] (fun d => ∃ s, d = rD s ∧ s.length ≤ r.length + 1 ∧ InW ws s)
  dr : ∀ {k : Int}, 0 < k → k < 2 ^ 30 → FP fdr [.non, .int k] (fun d => ∃ z, d = .int z ∧ 0 ≤ z ∧ z < k)
  ex : ∀ {ws : List (List Int)} {row : List Int}, InW ws row → ws.length ≤ 10 → row.length ≤ 7 → FP fex [nD (nearF ws), rD row] (fun d => ∃ K kvs, d = .dT kvs ∧ Fd K kvs ∧ IV ws row K [] ∧ ∀ s ∈ K, Dn ws K s)
  fl : ∀ x y : Bool, FEv ffl [.bl x, .bl y] (.bl (x == y))
  ma : ∀ {n : Int} {ws : List (List Int)}, WsOk n ws → FEv fma [pD n ws] (oD n ws)
  ne : ∀ {n : Int} {ws : List (List Int)}, WsLen ws → ws.length ≤ 10 → FEv fne [pD n ws] (nD (nearF ws))
  ro : ∀ {n most : Int} {ws : List (List Int)}, 0 ≤ most → most ≤ 100 → 1 ≤ ws.length → ws.length ≤ 10 → FP fro [.non, pD n ws, .int most] (fun d => ∃ r : List Int, d = rD r ∧ (r.length : Int) ≤ most ∧ InW ws r)
  sp : FP fsp [.non] (fun d => ∃ n ws, d = pD n ws ∧ WsOk n ws)
  al : ∀ {n : Int} {ws : List (List Int)} {r s : List Int}, WsOk n ws → RowOk ws r → RowOk ws s → FEv fal [oD n ws, rD r, rD s] (.bl (decide (logsF n ws r = logsF n ws s)))
theorem ls_all : LS m__law_changed m__law_draw m__law_exchanged m__law_flag m__law_made m__law_near m__law_row m__law_some_parts m_alike where
  ch := changed_ev
  dr := fun h0 h1 Q q => ⟨h0, h1, fun r r0 r1 => q _ ⟨r, rfl, r0, r1⟩⟩
  ex := exch_ev
  fl := fun x y => flag_ev
  ma := made_ev
  ne := near_ev
  ro := row_ev
  sp := some_parts_ev
  al := alike_ev
theorem tkD_kk (s : List Int) : tkD (kk s) = rD s := by
  show D.tup ((s.map Sum.inl).map keyD) = .tup (s.map D.int)
  rw [List.map_map]
  rfl
theorem keys_rows : ∀ {K : List (List Int)} {kvs : List (List Key × D)}, kvs.map (·.1) = K.map kk → kvs.map (fun kv => tkD kv.1) = rowsD K
  | [], [], _ => rfl
  | s :: K, (k, z) :: kvs, h => by
    obtain ⟨h1, h2⟩ := List.cons.inj (show k :: kvs.map (·.1) = kk s :: K.map kk from h)
    show tkD k :: kvs.map (fun kv => tkD kv.1) = rD s :: rowsD K
    rw [keys_rows h2, h1, tkD_kk]
  | [], _ :: _, h => nomatch h
  | _ :: _, [], h => nomatch h
section
variable {fch fdr fex ffl fma fne fro fsp fal : XF} [MF fch] [MF fdr] [MF fex] [MF ffl] [MF fma] [MF fne] [MF fro] [MF fsp] [MF fal]
def lN (n : Int) (ws : List (List Int)) (row : List Int) (kvs : List (List Key × D)) (S : List (List Int)) (e2 e8 e9 e10 e11 e12 e14 : Option D) : PEnv := [none, none, e2, some (pD n ws), some (oD n ws), some (nD (nearF ws)), some (rD row), some (.dT kvs), e8, e9, e10, e11, e12, some (.lst (rowsD S)), e14]
def BN (fal : XF) : XS := sIf (bTest (x2 (oIsB true) (xCall fal (xCons (xVar 4) (xCons (xVar 6) (xCons (x2 oIx (xVar 13) (xVar 14)) xNil)))) (xC (.bl true)))) (sRet (xC (.bl false))) sNext
theorem bN_gen (L : LS fch fdr fex ffl fma fne fro fsp fal) {E : PEnds} {S : List (List Int)} {z : Int} (t : Tn n ws row K kvs) (hS : ∀ s ∈ S, s ∈ K) (z0 : 0 ≤ z) (z1 : z < (S.length : Int)) (h : E.nx (lN n ws row kvs S e2 e8 e9 e10 e11 e12 (some (.int z)))) : BN fal E (lN n ws row kvs S e2 e8 e9 e10 e11 e12 (some (.int z))) := by
  have hm : S.getD z.toNat [] ∈ K := hS _ (by rw [List.getD_eq_getElem?_getD, List.getElem?_eq_getElem (by omega)]; exact List.getElem_mem _)
  have hin : InW ws (S.getD z.toNat []) := fun x hx => t.r x (((t.i.rch _ hm).mem x).mp hx)
  have hlen := (t.i.rch _ hm).len
  have e := (known_iff t.w t.r hin t.i t.d).mp hm
  show atD (rowsD S) z fun d => fal [oD n ws, rD row, d] fun d => oIsB true d (.bl true) fun d => (match d with | .bl b => if b = true then _ else _ | _ => False)
  refine atD_some z0 (rows_at z0 z1) ?_
  refine L.al t.w ⟨by have := t.l; omega, t.r⟩ ⟨by have := t.l; rw [hlen]; omega, hin⟩ _ ?_
  rw [decide_eq_true e]
  exact h
def BM (fch fdr ffl fro fal : XF) : XS := sSeq (sSet 9 (xIf (bTest (x2 (oI fun i j => .bl (decide (j < i))) (xCall fdr (xDice (xCons (xC (.int 4)) xNil))) (xC (.int 0)))) (xCall fch (xDice (xCons (xVar 5) (xCons (xVar 6) xNil)))) (xCall fro (xDice (xCons (xVar 3) (xCons (xC (.int 5)) xNil)))))) (sSeq (sSet 10 (x2 (oIn false) (xVar 9) (xVar 7))) (sSeq (sIf (bOr (bNot (bTest (xCall ffl (xCons (xCall fal (xCons (xVar 4) (xCons (xVar 6) (xCons (xVar 9) xNil)))) (xCons (xVar 10) xNil))))) (bNot (bTest (xCall ffl (xCons (xCall fal (xCons (xVar 4) (xCons (xVar 9) (xCons (xVar 6) xNil)))) (xCons (xVar 10) xNil)))))) (sRet (xC (.bl false))) sNext) (sSeq (sSet 11 (xCall fch (xDice (xCons (xVar 5) (xCons (xVar 9) xNil))))) (sSeq (sIf (bAnd (bTest (xVar 10)) (bTest (x2 (oIsB false) (xCall ffl (xCons (xCall fal (xCons (xVar 4) (xCons (xVar 9) (xCons (xVar 11) xNil)))) (xCons (x2 (oIn false) (xVar 11) (xVar 7)) xNil))) (xC (.bl false))))) (sRet (xC (.bl false))) sNext) (sSeq (sSet 12 (xCall fro (xDice (xCons (xVar 3) (xCons (xC (.int 3)) xNil))))) (sIf (bOr (bTest (x2 oNe (xCall fal (xCons (xVar 4) (xCons (x2 oAdd (xVar 6) (xVar 12)) (xCons (x2 oAdd (xVar 9) (xVar 12)) xNil)))) (xVar 10))) (bTest (x2 oNe (xCall fal (xCons (xVar 4) (xCons (x2 oAdd (xVar 12) (xVar 6)) (xCons (x2 oAdd (xVar 12) (xVar 9)) xNil)))) (xVar 10)))) (sRet (xC (.bl false))) sNext))))))
theorem bM_gen (L : LS fch fdr fex ffl fma fne fro fsp fal) {E : PEnds} (t : Tn n ws row K kvs) (h : ∀ e9 e10 e11 e12, E.nx (lE n ws row kvs e2 e8 e9 e10 e11 e12 e13 e14)) : BM fch fdr ffl fro fal E (lE n ws row kvs e2 e8 e9 e10 e11 e12 e13 e14) := by
  obtain ⟨h1, h2, h3, h4, h5⟩ := id t.w
  have hr := t.r
  have hrl := t.l
  have ki := fun {o : List Int} (ho : InW ws o) => known_iff t.w t.r ho t.i t.d
  have app : ∀ {a b : List Int}, InW ws a → InW ws b → InW ws (a ++ b) := fun ha hb x hx => (List.mem_append.mp hx).elim (ha x) (hb x)
  have rest : ∀ o : List Int, InW ws o → o.length ≤ 8 → (oIn false (rD o) (.dT kvs) fun d => (sSeq (sIf (bOr (bNot (bTest (xCall ffl (xCons (xCall fal (xCons (xVar 4) (xCons (xVar 6) (xCons (xVar 9) xNil)))) (xCons (xVar 10) xNil))))) (bNot (bTest (xCall ffl (xCons (xCall fal (xCons (xVar 4) (xCons (xVar 9) (xCons (xVar 6) xNil)))) (xCons (xVar 10) xNil)))))) (sRet (xC (.bl false))) sNext) (sSeq (sSet 11 (xCall fch (xDice (xCons (xVar 5) (xCons (xVar 9) xNil))))) (sSeq (sIf (bAnd (bTest (xVar 10)) (bTest (x2 (oIsB false) (xCall ffl (xCons (xCall fal (xCons (xVar 4) (xCons (xVar 9) (xCons (xVar 11) xNil)))) (xCons (x2 (oIn false) (xVar 11) (xVar 7)) xNil))) (xC (.bl false))))) (sRet (xC (.bl false))) sNext) (sSeq (sSet 12 (xCall fro (xDice (xCons (xVar 3) (xCons (xC (.int 3)) xNil))))) (sIf (bOr (bTest (x2 oNe (xCall fal (xCons (xVar 4) (xCons (x2 oAdd (xVar 6) (xVar 12)) (xCons (x2 oAdd (xVar 9) (xVar 12)) xNil)))) (xVar 10))) (bTest (x2 oNe (xCall fal (xCons (xVar 4) (xCons (x2 oAdd (xVar 12) (xVar 6)) (xCons (x2 oAdd (xVar 12) (xVar 9)) xNil)))) (xVar 10)))) (sRet (xC (.bl false))) sNext))))) E (lE n ws row kvs e2 e8 (some (rD o)) (some d) e11 e12 e13 e14)) := fun o ho hl => by
    have ho2 : RowOk ws o := ⟨by omega, ho⟩
    have hr2 : RowOk ws row := ⟨by omega, hr⟩
    refine in_known t.f ?_
    have e1 : decide (logsF n ws row = logsF n ws o) = decide (o ∈ K) := by rw [Bool.eq_iff_iff, decide_eq_true_iff, decide_eq_true_iff, ki ho]
    have e2' : decide (logsF n ws o = logsF n ws row) = decide (o ∈ K) := by rw [← e1, Bool.eq_iff_iff, decide_eq_true_iff, decide_eq_true_iff]; exact eq_comm
    refine L.al t.w hr2 ho2 _ (L.fl _ _ _ ?_)
    rw [e1, beq_self_eq_true]
    refine L.al t.w ho2 hr2 _ (L.fl _ _ _ ?_)
    rw [e2', beq_self_eq_true]
    refine L.ch h3 h4 ho (by omega) _ fun d ⟨s, e, hl2, hs⟩ => ?_
    subst e
    have tail : ∀ e11, (sSeq (sSet 12 (xCall fro (xDice (xCons (xVar 3) (xCons (xC (.int 3)) xNil))))) (sIf (bOr (bTest (x2 oNe (xCall fal (xCons (xVar 4) (xCons (x2 oAdd (xVar 6) (xVar 12)) (xCons (x2 oAdd (xVar 9) (xVar 12)) xNil)))) (xVar 10))) (bTest (x2 oNe (xCall fal (xCons (xVar 4) (xCons (x2 oAdd (xVar 12) (xVar 6)) (xCons (x2 oAdd (xVar 12) (xVar 9)) xNil)))) (xVar 10)))) (sRet (xC (.bl false))) sNext)) E (lE n ws row kvs e2 e8 (some (rD o)) (some (.bl (decide (o ∈ K)))) e11 e12 e13 e14) := fun e11 => by
      refine L.ro (by decide) (by decide) h3 h4 _ fun d ⟨m, e, hl3, hm⟩ => ?_
      subst e
      have e3 : decide (logsF n ws (row ++ m) = logsF n ws (o ++ m)) = decide (o ∈ K) := by rw [Bool.eq_iff_iff, decide_eq_true_iff, decide_eq_true_iff, logs_app_r, ki ho]
      have e4 : decide (logsF n ws (m ++ row) = logsF n ws (m ++ o)) = decide (o ∈ K) := by rw [Bool.eq_iff_iff, decide_eq_true_iff, decide_eq_true_iff, logs_app_l, ki ho]
      simp only [u_var0, u_varS, u_c, u_imm, u_nil, u_cons, u_dice, u_call, u_x1, u_x2, u_tup, u_lst, u_if, u_and, u_or, u_not, u_test, boo_bl, u_seq, u_set, u_sif, u_ret, u_next, u_set0, u_setS, lE]
      refine add_rD (r := row) (s := m) (by omega) ?_
      refine add_rD (r := o) (s := m) (by omega) ?_
      refine L.al t.w ⟨by simp; omega, app hr hm⟩ ⟨by simp; omega, app ho hm⟩ _ ?_
      rw [e3]
      refine ne_bl ?_
      simp only [boo_bl, if_neg Bool.false_ne_true]
      refine add_rD (r := m) (s := row) (by omega) ?_
      refine add_rD (r := m) (s := o) (by omega) ?_
      refine L.al t.w ⟨by simp; omega, app hm hr⟩ ⟨by simp; omega, app hm ho⟩ _ ?_
      rw [e4]
      exact ne_bl (h _ _ _ _)
    show (if decide (o ∈ K) = true then _ else _)
    split
    · rename_i hk
      have hk := (ki ho).mp (of_decide_eq_true hk)
      have hs2 : RowOk ws s := ⟨by omega, hs⟩
      have e5 : decide (logsF n ws o = logsF n ws s) = decide (s ∈ K) := by rw [Bool.eq_iff_iff, decide_eq_true_iff, decide_eq_true_iff, ki hs, hk]
      refine L.al t.w ho2 hs2 _ ?_
      show oIn false (rD s) (.dT kvs) (fun d => ffl [.bl (decide (logsF n ws o = logsF n ws s)), d] _)
      refine in_known t.f (L.fl _ _ _ ?_)
      rw [e5, beq_self_eq_true]
      exact tail _
    · exact tail _
  refine L.dr (by decide) (by decide) _ fun d ⟨k, e, k0, k1⟩ => ?_
  subst e
  show (if decide (0 < k) = true then _ else _)
  split
  · refine L.ch h3 h4 hr (by omega) _ fun d ⟨s, e, hl, hw⟩ => ?_
    subst e
    exact rest s hw (by omega)
  · refine L.ro (by decide) (by decide) h3 h4 _ fun d ⟨s, e, hl, hw⟩ => ?_
    subst e
    exact rest s hw (by omega)
end
end
end Pu

/-! file V04o -/
set_option Elab.async false
set_option linter.all false
set_option maxRecDepth 100000
set_option synthInstance.maxHeartbeats 0
set_option synthInstance.maxSize 100000
namespace Pu
open PySem PySem.Spec PyProof.Rows L2
section
variable {Q : D → Prop} {n : Int} {r s o m row : List Int} {ws : List (List Int)} {e0 e1 e2 e3 e4 e5 e6 e7 e8 e9 e10 e11 e12 e13 e14 : Option D} {K T : List (List Int)} {kvs : List (List Key × D)}
variable {fch fdr fex ffl fma fne fro fsp fal : XF} [MF fch] [MF fdr] [MF fex] [MF ffl] [MF fma] [MF fne] [MF fro] [MF fsp] [MF fal]
instance : MS (BM fch fdr ffl fro fal) := by unfold BM; infer_instance
instance : MS (BN fal) := by unfold BN; infer_instance
theorem forM_gen (L : LS fch fdr fex ffl fma fne fro fsp fal) {E : PEnds} (t : Tn n ws row K kvs) (h : ∀ e8 e9 e10 e11 e12, E.nx (lE n ws row kvs e2 e8 e9 e10 e11 e12 e13 e14)) : sFor (mRng1 (xC (.int 6))) (bName 8) (BM fch fdr ffl fro fal) E (lE n ws row kvs e2 e8 e9 e10 e11 e12 e13 e14) := by
  refine ⟨⟨by decide, by decide⟩, ?_⟩
  refine loop_ev (b := bName 8) (body := BM fch fdr ffl fro fal) (fun ds env => ∃ e8 e9 e10 e11 e12, env = lE n ws row kvs e2 e8 e9 e10 e11 e12 e13 e14)
    ?_ (fun d env Q Q' k q => k _ q) (MS.all (m := BM fch fdr ffl fro fal) _ _ _) _ _ ⟨_, _, _, _, _, rfl⟩ ?_
  · rintro d ds env ⟨e8, e9, e10, e11, e12, rfl⟩
    exact bM_gen L t fun e9 e10 e11 e12 => ⟨_, _, _, _, _, rfl⟩
  · rintro env ⟨e8, e9, e10, e11, e12, rfl⟩
    exact h _ _ _ _ _
theorem forN_gen (L : LS fch fdr fex ffl fma fne fro fsp fal) {E : PEnds} {S : List (List Int)} (t : Tn n ws row K kvs) (hS : ∀ s ∈ S, s ∈ K) (zs : List Int) (hz : ∀ z ∈ zs, 0 ≤ z ∧ z < (S.length : Int)) (h : ∀ e14, E.nx (lN n ws row kvs S e2 e8 e9 e10 e11 e12 e14)) :
    sLoop (bName 14) (BN fal) (dInts zs) E (lN n ws row kvs S e2 e8 e9 e10 e11 e12 e14) := by
  refine loop_ev (b := bName 14) (body := BN fal) (fun ds env => ∃ zs e14, ds = dInts zs ∧ (∀ z ∈ zs, 0 ≤ z ∧ z < (S.length : Int)) ∧ env = lN n ws row kvs S e2 e8 e9 e10 e11 e12 e14)
    ?_ (fun d env Q Q' k q => k _ q) (MS.all (m := BN fal) _ _ _) _ _ ⟨zs, _, rfl, hz, rfl⟩ ?_
  · rintro d ds env ⟨zs, e14, e, hz, rfl⟩
    cases zs with
    | nil => cases e
    | cons z zs =>
      obtain ⟨e1, e2⟩ := List.cons.inj (show d :: ds = .int z :: dInts zs from e)
      subst e1 e2
      have := hz z List.mem_cons_self
      exact bN_gen L t hS this.1 this.2 ⟨zs, _, rfl, fun y hy => hz y (List.mem_cons_of_mem _ hy), rfl⟩
  · rintro env ⟨zs, e14, e, hz, rfl⟩
    exact h _
def BL (fch fdr fex ffl fma fne fro fsp fal : XF) : XS := sSeq (sSet 3 (xCall fsp (xDice xNil))) (sSeq (sSet 4 (xCall fma (xCons (xVar 3) xNil))) (sSeq (sSet 5 (xCall fne (xCons (xVar 3) xNil))) (sSeq (sSet 6 (xCall fro (xDice (xCons (xVar 3) (xCons (xIf (bTest (x2 oEq (xVar 2) (xC (.int 0)))) (xC (.int 7)) (xC (.int 5))) xNil))))) (sSeq (sSet 7 (xCall fex (xCons (xVar 5) (xCons (xVar 6) xNil)))) (sSeq (sFor (mRng1 (xC (.int 6))) (bName 8) (BM fch fdr ffl fro fal)) (sSeq (sSet 13 (x1 oSortA (x1 oListA (xVar 7)))) (sFor (mSeq (xLst (xCons (xC (.int 0)) (xCons (x2 (oI fun i j => .int (i - j)) (x1 oLenA (xVar 13)) (xC (.int 1))) (xCons (xCall fdr (xDice (xCons (x1 oLenA (xVar 13)) xNil))) xNil))))) (bName 14) (BN fal))))))))
instance : MS (BL fch fdr fex ffl fma fne fro fsp fal) := by unfold BL; infer_instance
theorem u_mseqL {r : XL} {env : PEnv} {R : List D → Prop} : mSeq (xLst r) env R = r env fun ds => ds.length ≤ sizeLine ∧ R ds := rfl
theorem bL_gen (L : LS fch fdr fex ffl fma fne fro fsp fal) {E : PEnds} {z2 : Int} (h : ∀ e3 e4 e5 e6 e7 e8 e9 e10 e11 e12 e13 e14, E.nx [none, none, some (.int z2), e3, e4, e5, e6, e7, e8, e9, e10, e11, e12, e13, e14]) : BL fch fdr fex ffl fma fne fro fsp fal E [none, none, some (.int z2), e3, e4, e5, e6, e7, e8, e9, e10, e11, e12, e13, e14] := by
  have hsz : 10 ^ 7 < sizeLine := by decide
  refine L.sp _ fun d ⟨n, ws, e, w⟩ => ?_
  subst e
  obtain ⟨h1, h2, h3, h4, h5⟩ := id w
  refine L.ma w _ (L.ne (fun l hl => (h5 l hl).2.2) h4 _ ?_)
  have go : ∀ most : Int, 0 ≤ most → most ≤ 7 → fro [.non, pD n ws, .int most] fun d => (sSeq (sSet 7 (xCall fex (xCons (xVar 5) (xCons (xVar 6) xNil)))) (sSeq (sFor (mRng1 (xC (.int 6))) (bName 8) (BM fch fdr ffl fro fal)) (sSeq (sSet 13 (x1 oSortA (x1 oListA (xVar 7)))) (sFor (mSeq (xLst (xCons (xC (.int 0)) (xCons (x2 (oI fun i j => .int (i - j)) (x1 oLenA (xVar 13)) (xC (.int 1))) (xCons (xCall fdr (xDice (xCons (x1 oLenA (xVar 13)) xNil))) xNil))))) (bName 14) (BN fal))))) E [none, none, some (.int z2), some (pD n ws), some (oD n ws), some (nD (nearF ws)), some d, e7, e8, e9, e10, e11, e12, e13, e14] := fun most m0 m1 => by
    refine L.ro m0 (by omega) h3 h4 _ fun d ⟨row, e, hl, hr⟩ => ?_
    subst e
    refine L.ex hr h4 (by omega) _ fun d ⟨K, kvs, e, hF, I, hD⟩ => ?_
    subst e
    have t : Tn n ws row K kvs := ⟨w, hr, by omega, hF, I, hD⟩
    refine forM_gen L t fun e8 e9 e10 e11 e12 => ?_
    have hb := I.bound hr h4 (by omega)
    simp only [u_var0, u_varS, u_c, u_imm, u_nil, u_cons, u_dice, u_call, u_x1, u_x2, u_tup, u_lst, u_if, u_and, u_or, u_not, u_test, boo_bl, u_seq, u_set, u_sif, u_ret, u_next, u_set0, u_setS, u_oI, u_oIc, u_len_lst, u_len_tup, u_len_dT, u_len_dK, u_for, lE, u_mseqL]
    refine .inr (.inl (.inr ⟨K, keys_rows hF.1, fun s hs => ?_, fun S hp _ => ?_⟩))
    · by_cases e : s = []
      · right
        subst e
        have e0 : row = [] := by
          have := (I.rch _ hs).len
          exact List.eq_nil_of_length_eq_zero (by simpa using this.symm)
        have hall : ∀ x ∈ K, x = ([] : List Int) := fun x hx => by
          have := (I.rch _ hx).len
          rw [e0] at this
          exact List.eq_nil_of_length_eq_zero this
        match K, I.nd, hall with
        | [], _, _ => exact (by simp)
        | [_], _, _ => exact (by simp)
        | x :: y :: _, nd, hall =>
          rw [hall x List.mem_cons_self, hall y (List.mem_cons_of_mem _ List.mem_cons_self)] at nd
          simp at nd
      · exact .inl e
    · have hlen := hp.length_eq
      have hpos : 0 < S.length := by
        have := List.length_pos_of_mem I.row_in
        omega
      have hmem : ∀ s ∈ S, s ∈ K := fun s hs => hp.mem_iff.mp hs
      simp only [u_var0, u_varS, u_c, u_imm, u_nil, u_cons, u_dice, u_call, u_x1, u_x2, u_tup, u_lst, u_if, u_and, u_or, u_not, u_test, boo_bl, u_seq, u_set, u_sif, u_ret, u_next, u_set0, u_setS, u_oI, u_oIc, u_len_lst, u_len_tup, u_len_dT, u_len_dK, u_for, rowsD_len]
      refine L.dr (by omega) (by omega) _ fun d ⟨z, e, z0, z1⟩ => ?_
      subst e
      refine ⟨by show 3 ≤ sizeLine; decide, ?_⟩
      refine forN_gen L t hmem [0, (S.length : Int) - 1, z] (fun y hy => ?_) fun e14 => h _ _ _ _ _ _ _ _ _ _ _ _
      rcases List.mem_cons.mp hy with e | hy
      · rw [e]; omega
      rcases List.mem_cons.mp hy with e | hy
      · rw [e]; omega
      rw [List.mem_singleton.mp hy]
      exact ⟨z0, z1⟩
  refine (show Sh (.int z2) ∧ Sh (.int 0) ∧ _ from ⟨rfl, rfl, ?_⟩)
  show (if D.eqb (.int z2) (.int 0) = true then _ else _)
  split
  · exact go 7 (by decide) (by decide)
  · exact go 5 (by decide) (by decide)
theorem law_gen (L : LS fch fdr fex ffl fma fne fro fsp fal) : B_law fch fdr fex ffl fma fne fro fsp fal lawEnds (List.replicate 15 none) := by
  refine ⟨⟨by decide, by decide⟩, ?_⟩
  refine loop_ev (b := bName 2) (body := BL fch fdr fex ffl fma fne fro fsp fal) (fun ds env => (∀ d ∈ ds, ∃ z : Int, d = .int z) ∧ ∃ e2 e3 e4 e5 e6 e7 e8 e9 e10 e11 e12 e13 e14, env = [none, none, e2, e3, e4, e5, e6, e7, e8, e9, e10, e11, e12, e13, e14])
    ?_ (fun d env Q Q' k q => k _ q) (MS.all (m := BL fch fdr fex ffl fma fne fro fsp fal) _ _ _) _ _ ⟨fun d hd => ?_, _, _, _, _, _, _, _, _, _, _, _, _, _, rfl⟩ ?_
  · rintro d ds env ⟨hd, e2, e3, e4, e5, e6, e7, e8, e9, e10, e11, e12, e13, e14, rfl⟩
    obtain ⟨z, e⟩ := hd d List.mem_cons_self
    subst e
    exact bL_gen L fun e3 e4 e5 e6 e7 e8 e9 e10 e11 e12 e13 e14 => ⟨fun x hx => hd x (List.mem_cons_of_mem _ hx), _, _, _, _, _, _, _, _, _, _, _, _, _, rfl⟩
  · obtain ⟨j, _, e⟩ := mem_rg hd
    exact ⟨_, e⟩
  · rintro env ⟨_, e2, e3, e4, e5, e6, e7, e8, e9, e10, e11, e12, e13, e14, rfl⟩
    exact rfl
end
theorem pure_law : b_law_k04 lawEnds (List.replicate 15 none) := by
  rw [B_law_eq]
  exact law_gen ls_all
end Pu

/-! file PuTy -/
set_option Elab.async false
set_option linter.all false
set_option maxRecDepth 100000
namespace Pu
open PySem PySem.Spec PyProof.Rows L2
/-! ### equations by which a pure term becomes plain steps (not by unfolding: each has a proof of its own) -/
section
variable {Q : D → Prop} {R : List D → Prop} {B : Bool → Prop} {env : PEnv} {d e x y : D} {o : Option D} {i j : Nat} {E : PEnds} {m n m1 m2 m3 : X1} {r : XL} {a b : XB} {s t : XS} {f : XF} {g : XG} {xs ds : List D} {k l : Bool} {O : O2} {P : O1}
theorem w_var0 : xVar 0 (some d :: env) Q = Q d := (rfl)
theorem w_varS : xVar (i + 1) (o :: env) Q = xVar i env Q := (rfl)
theorem w_c : xC d env Q = Q d := (rfl)
theorem w_imm : xImm m env Q = m env fun d => d.imm = true ∧ Q d := (rfl)
theorem w_nil : xNil env R = R [] := (rfl)
theorem w_cons : xCons m r env R = m env fun d => r env fun ds => R (d :: ds) := (rfl)
theorem w_dice : xDice r env R = r env fun ds => R (.non :: ds) := (rfl)
theorem w_call : xCall f r env Q = r env fun ds => f ds Q := (rfl)
theorem w_x1 : x1 P m env Q = m env fun d => P d Q := (rfl)
theorem w_x2 : x2 O m n env Q = m env fun d => n env fun e => O d e Q := (rfl)
theorem w_tup : xTup r env Q = r env fun ds => ds.length ≤ sizeLine ∧ Q (.tup ds) := (rfl)
theorem w_lst : xLst r env Q = r env fun ds => ds.length ≤ sizeLine ∧ Q (.lst ds) := (rfl)
theorem w_if : xIf a m n env Q = a env fun k => if k = true then m env Q else n env Q := (rfl)
theorem w_and : bAnd a b env B = a env fun c => if c = true then b env B else B false := (rfl)
theorem w_or : bOr a b env B = a env fun c => if c = true then B true else b env B := (rfl)
theorem w_not : bNot a env B = a env fun c => B (!c) := (rfl)
theorem w_yes : bYes env B = B true := (rfl)
theorem w_test : bTest m env B = m env fun d => boo d B := by unfold bTest boo; rfl
theorem w_boo : boo (.bl k) B = B k := (rfl)
def andQ (d : D) (N Q : D → Prop) (n : (D → Prop) → Prop) : Prop := True
theorem w_xand : xAnd m n env Q = m env fun d => boo d fun c => if c = true then n env Q else Q (.bl false) := by unfold xAnd boo; rfl
theorem w_xor : xOr m n env Q = m env fun d => boo d fun c => if c = true then Q (.bl true) else n env Q := by unfold xOr boo; rfl
theorem w_xnot : xNot m env Q = m env fun d => boo d fun c => Q (.bl (!c)) := by unfold xNot boo; rfl
theorem w_chain {O' : O2} : xChain O O' m1 m2 m3 env Q = m1 env fun x => m2 env fun y => O x y fun z => boo z fun k => if k = true then m3 env fun w => O' y w Q else Q (.bl false) := by unfold xChain boo; rfl
theorem w_seq : sSeq s t E env = s { nx := t E, rt := E.rt, bk := E.bk, ct := E.ct } env := (rfl)
theorem w_set : sSet i m E env = m env fun d => E.nx (env.set i (some d)) := (rfl)
theorem w_sif : sIf a s t E env = a env fun k => if k = true then s E env else t E env := (rfl)
theorem w_sifR : sIf a (sRet m) t E env = a env fun k => if k = true then m env E.rt else t E env := (rfl)
theorem w_sifRS : sIf a (sSeq s (sRet m)) t E env = a env fun k => if k = true then s { nx := sRet m E, rt := E.rt, bk := E.bk, ct := E.ct } env else t E env := (rfl)
theorem w_sifN : sIf a sNever t E env = a env fun k => if k = true then False else t E env := (rfl)
theorem w_sifB : sIf a sBreak t E env = a env fun k => if k = true then E.bk env else t E env := (rfl)
theorem w_sifC : sIf a sCont t E env = a env fun k => if k = true then E.ct env else t E env := (rfl)
theorem w_ret : sRet m E env = m env E.rt := (rfl)
theorem w_next : sNext E env = E.nx env := (rfl)
theorem w_break : sBreak E env = E.bk env := (rfl)
theorem w_cont : sCont E env = E.ct env := (rfl)
theorem w_never : sNever E env = False := (rfl)
theorem w_drop : sDrop m E env = m env fun _ => E.nx env := (rfl)
theorem w_set0 : List.set (o :: env) 0 (some d) = some d :: env := (rfl)
theorem w_setS : List.set (o :: env) (i + 1) (some d) = o :: List.set env i (some d) := (rfl)
theorem w_setn0 : List.set (o :: env) 0 none = none :: env := (rfl)
theorem w_setnS : List.set (o :: env) (i + 1) none = o :: List.set env i none := (rfl)
theorem w_bname : bName i d env = fun Q => Q (env.set i (some d)) := (rfl)
theorem w_mseqL : mSeq m env R = m env fun d => (match d with | .lst ds => R ds | .tup ds => R ds | _ => False) := (rfl)
def seqQ (d : D) (R : List D → Prop) : Prop := match d with
  | .lst ds => R ds
  | .tup ds => R ds
  | _ => False
theorem w_mseq : mSeq m env R = m env fun d => seqQ d R := by unfold mSeq seqQ; rfl
theorem w_seqL : seqQ (.lst ds) R = R ds := (rfl)
theorem w_seqT : seqQ (.tup ds) R = R ds := (rfl)
def rngQ (d : D) (R : List D → Prop) : Prop := match d with
  | .int j => RgOk j ∧ R (rgD 0 j.toNat)
  | _ => False
theorem w_mrng1 : mRng1 m env R = m env fun d => rngQ d R := by unfold mRng1 rngQ; rfl
def rng2Q (d e : D) (R : List D → Prop) : Prop := match d, e with
  | .int i, .int j => RgOk i ∧ RgOk j ∧ R (rgD i (j - i).toNat)
  | _, _ => False
theorem w_mrng2 : mRng2 m n env R = m env fun d => n env fun e => rng2Q d e R := by unfold mRng2 rng2Q; rfl
def enmQ (d : D) (R : List D → Prop) : Prop := match d with
  | .lst ds => R (enD 0 ds)
  | .tup ds => R (enD 0 ds)
  | _ => False
theorem w_enmU : mEnmU m env R = m env fun d => enmQ d R := by unfold mEnmU enmQ; rfl
theorem w_enmL : enmQ (.lst ds) R = R (enD 0 ds) := (rfl)
theorem w_enmT : enmQ (.tup ds) R = R (enD 0 ds) := (rfl)
theorem w_getL : oGet (.lst xs) e Q = oIx (.lst xs) e Q := (rfl)
theorem w_getK {kvs : List (Key × D)} : oGet (.dK kvs) e Q = oIx (.dK kvs) e Q := (rfl)
theorem w_getT {kvs : List (List Key × D)} : oGet (.dT kvs) e Q = oIx (.dT kvs) e Q := (rfl)
theorem w_for {mi : XL} : sFor mi g s E env = mi env fun ds => sLoop g s ds E env := (rfl)
theorem w_lc {mi : XL} : xLc mi g a m env Q = mi env fun ds => lcLoop g a m env ds [] fun acc => Q (.lst acc) := (rfl)
theorem w_loopN : sLoop g s [] E env = E.nx env := (rfl)
theorem w_app : sApp i m E env = xVar i env fun d => onL d fun xs => m env fun e => xs.length < sizeLine ∧ E.nx (env.set i (some (.lst (xs ++ [e])))) := (rfl)
theorem w_onL {k : List D → Prop} : onL (.lst xs) k = k xs := (rfl)
theorem w_put : sPut i m n E env = n env fun x => xVar i env fun d => m env fun e => setD d e x fun d' => E.nx (env.set i (some d')) := (rfl)
theorem w_aug : sAug i O m E env = xVar i env fun d => m env fun e => O d e fun x => E.nx (env.set i (some x)) := (rfl)
theorem w_augS : sAugS i m n E env = xVar i env fun d => m env fun e => oGet d e fun old => n env fun w => oAdd1 old w fun z => setD d e z fun d' => E.nx (env.set i (some d')) := (rfl)
theorem w_lm {u : UL} : sLm i u r E env = xVar i env fun d => onL d fun xs => r env fun es => u xs es fun ds => E.nx (env.set i (some (.lst ds))) := (rfl)
theorem w_setE {z : XE} : sSetE i z E env = z env fun d env' => E.nx (env'.set i (some d)) := (rfl)
theorem w_retE {z : XE} : sRetE z E env = z env fun d _ => E.rt d := (rfl)
theorem w_appE {z : XE} : sAppE' i z E env = (isL env[i]? ∧ z env fun e env' => xVar i env' fun d => onL d fun xs => xs.length < sizeLine ∧ E.nx (env'.set i (some (.lst (xs ++ [e]))))) := (rfl)
theorem w_pop {z : D → PEnv → Prop} : xPop i n env z = xVar i env fun d => onL d fun xs => n env fun e => popQ xs e fun x ys => z x (env.set i (some (.lst ys))) := (rfl)
theorem w_asgG : sAsgG g m E env = m env fun d => g d env E.nx := (rfl)
def slcQ (d : D) (lo hi : Option Int) (Q : D → Prop) : Prop := match d with
  | .tup xs => immL xs = true ∧ Q (.tup (cutD xs lo hi))
  | .lst xs => immL xs = true ∧ Q (.lst (cutD xs lo hi))
  | _ => False
theorem w_sl {lo hi : PEnv → (Option Int → Prop) → Prop} : xSl m lo hi env Q = m env fun d => lo env fun l => hi env fun h => slcQ d l h Q := by unfold xSl slcQ; rfl
def lrgQ (d : D) (Q : D → Prop) : Prop := match d with
  | .int j => L2.RgOk 0 j ∧ Q (.lst (rgD 0 (j - 0).toNat))
  | _ => False
theorem w_lrg1 : xLRg1 m env Q = m env fun d => lrgQ d Q := by unfold xLRg1 lrgQ; rfl
/-- slices: the ends -/
theorem w_pno {R : Option Int → Prop} : pNo env R = R none := (rfl)
def intQ (d : D) (R : Int → Prop) : Prop := match d with
  | .int i => R i
  | _ => False
theorem w_intQ {z : Int} {R : Int → Prop} : intQ (.int z) R = R z := (rfl)
theorem w_pyes {R : Option Int → Prop} : pYes m env R = m env fun d => intQ d fun i => R (some i) := by unfold pYes intQ; rfl
theorem w_btup {gs : XGs} {N : PEnv → Prop} {k : Nat} : bTup k gs (.tup ds) env N = (ds.length = k ∧ gs ds env N) := (rfl)
theorem w_bcons {gs : XGs} {N : PEnv → Prop} : bCons g gs (d :: ds) env N = g d env fun env1 => gs ds env1 N := (rfl)
theorem w_bnil {N : PEnv → Prop} : bNil [] env N = N env := (rfl)
/-! values -/
theorem w_oI {G : Int → Int → D} {a b : Int} : oI G (.int a) (.int b) Q = Q (G a b) := (rfl)
theorem w_oIc {c : Int → Int → Prop} {G : Int → Int → D} {a b : Int} : oIc c G (.int a) (.int b) Q = (c a b ∧ Q (G a b)) := (rfl)
theorem w_addI {a b : Int} : oAdd (.int a) (.int b) Q = Q (.int (a + b)) := (rfl)
theorem w_add1I {a b : Int} : oAdd1 (.int a) (.int b) Q = Q (.int (a + b)) := (rfl)
theorem w_intI {a : Int} : oInt (.int a) Q = Q (.int a) := (rfl)
theorem w_intB {k : Bool} : oInt (.bl k) Q = Q (.int (if k then 1 else 0)) := (rfl)
theorem w_lenL : oLenA (.lst xs) Q = Q (.int (xs.length : Nat)) := u_len_lst
theorem w_lenT : oLenA (.tup xs) Q = Q (.int (xs.length : Nat)) := u_len_tup
theorem w_lenDT {kvs : List (List Key × D)} : oLenA (.dT kvs) Q = Q (.int (kvs.length : Nat)) := u_len_dT
theorem w_lenDK {kvs : List (Key × D)} : oLenA (.dK kvs) Q = Q (.int (kvs.length : Nat)) := u_len_dK
theorem w_isN : oIsN d .non Q = Q (.bl d.isN) := by unfold oIsN; simp [D.isN]
theorem w_notN : oNotN d .non Q = Q (.bl (!d.isN)) := by unfold oNotN; simp [D.isN]
theorem w_isB {a b : Bool} {neg : Bool} : oIsB neg (.bl a) (.bl b) Q = Q (.bl (xor neg (decide (a = b)))) := by cases a <;> cases b <;> cases neg <;> rfl
theorem w_oTupL : oTup (.lst xs) Q = (immL xs = true ∧ Q (.tup xs)) := (rfl)
theorem w_oTupT : oTup (.tup xs) Q = (immL xs = true ∧ Q (.tup xs)) := (rfl)
end
end Pu

/-! file PuTy2 -/
set_option Elab.async false
set_option linter.all false
set_option maxRecDepth 100000
namespace Pu
open PySem PySem.Spec PyProof.Rows L2
/-! ### plain steps on ints, rows, rows of rows -/
section
variable {Q : D → Prop} {R : List D → Prop} {a b i n : Int} {r s l ns : List Int} {ws us : List (List Int)} {near : List (List Bool)} {bs : List Bool} {p q : Bool} {α β : Type} {e : α → D} {xs ys : List α}
theorem y_imm_int : D.imm (.int a) = true := (rfl)
theorem y_imm_bl : D.imm (.bl p) = true := (rfl)
theorem y_imm_non : D.imm .non = true := (rfl)
theorem y_imm_rD : D.imm (rD r) = true := immL_dInts r
theorem y_imm_wD : D.imm (wD ws) = true := imm_wD ws
theorem y_immL_nil : immL [] = true := (rfl)
theorem y_immL_cons {d : D} {ds : List D} : immL (d :: ds) = (D.imm d && immL ds) := (rfl)
theorem y_imm_tup {ds : List D} : D.imm (.tup ds) = immL ds := by simp [D.imm]
theorem y_mapI : List.map D.int r = dInts r := (rfl)
theorem y_mapR : List.map rD ws = rowsD ws := (rfl)
theorem y_immL_I : immL (dInts r) = true := immL_dInts r
theorem y_immL_R : immL (rowsD ws) = true := immL_rows ws
theorem y_W : ws.getD a.toNat [] = W ws a := (rfl)
theorem y_tup_dInts : D.tup (dInts r) = rD r := (rfl)
theorem y_tup_rows : D.tup (rowsD ws) = wD ws := (rfl)
theorem y_len_dInts : ((dInts r).length : Nat) = r.length := dInts_len
theorem y_len_rowsD : ((rowsD ws).length : Nat) = ws.length := rowsD_len
theorem y_len_rD : oLenA (rD r) Q = Q (.int (r.length : Nat)) := by unfold rD; rw [w_lenT, dInts_len]
theorem y_len_wD : oLenA (wD ws) Q = Q (.int (ws.length : Nat)) := by unfold wD; rw [w_lenT, rowsD_len]
theorem y_len_nD : oLenA (nD near) Q = Q (.int (near.length : Nat)) := by unfold nD; rw [w_lenL, List.length_map]
theorem sh_int : Sh (.int a) := (rfl)
theorem sh_bl : Sh (.bl p) := by cases p <;> rfl
theorem sh_non : Sh .non := (rfl)
theorem eqb_rD : D.eqb (rD r) (rD s) = decide (r = s) := eqv_ints r s
theorem eqb_wD : D.eqb (wD ws) (wD us) = decide (ws = us) := eqv_rows ws us
theorem eqb_bl : D.eqb (.bl p) (.bl q) = (p == q) := (rfl)
theorem y_eqI : oEq (.int a) (.int b) Q = Q (.bl (decide (a = b))) := by unfold oEq; rw [eqb_int]; simp [sh_int]
theorem y_neI : oNe (.int a) (.int b) Q = Q (.bl (!decide (a = b))) := by unfold oNe; rw [eqb_int]; simp [sh_int]
theorem y_eqR : oEq (rD r) (rD s) Q = Q (.bl (decide (r = s))) := by unfold oEq; rw [eqb_rD]; simp [sh_ints]
theorem y_neR : oNe (rD r) (rD s) Q = Q (.bl (!decide (r = s))) := by unfold oNe; rw [eqb_rD]; simp [sh_ints]
theorem sh_wD : Sh (wD ws) := sh_rows ws
theorem y_eqW : oEq (wD ws) (wD us) Q = Q (.bl (decide (ws = us))) := by unfold oEq; rw [eqb_wD]; simp [sh_wD]
theorem y_neW : oNe (wD ws) (wD us) Q = Q (.bl (!decide (ws = us))) := by unfold oNe; rw [eqb_wD]; simp [sh_wD]
theorem y_eqB : oEq (.bl p) (.bl q) Q = Q (.bl (p == q)) := by unfold oEq; rw [eqb_bl]; simp [sh_bl]
theorem y_neB : oNe (.bl p) (.bl q) Q = Q (.bl (!(p == q))) := by unfold oNe; rw [eqb_bl]; simp [sh_bl]
theorem y_inR : oIn false (.int b) (rD l) Q = Q (.bl (l.contains b)) := propext ⟨fun h => by
  obtain ⟨_, _, h⟩ := h
  rw [any_ints, Bool.false_xor] at h; exact h, in_ints⟩
theorem y_notInR : oIn true (.int b) (rD l) Q = Q (.bl (!l.contains b)) := propext ⟨fun h => by
  obtain ⟨_, _, h⟩ := h
  rw [any_ints, Bool.true_xor] at h; exact h, fun q => ⟨rfl, flat_ints l, by rw [any_ints, Bool.true_xor]; exact q⟩⟩
theorem y_fldW {c : Int} : atF 3 "works" (oD c ws) Q = Q (wD ws) := propext ⟨fun h => h.2, fun h => ⟨rfl, h⟩⟩
theorem y_fldD {c : Int} : atF 3 "desks" (oD c ws) Q = Q (.int c) := propext ⟨fun h => h.2, fun h => ⟨rfl, h⟩⟩
theorem y_p0 : oIx (pD n ws) (.int 0) Q = Q (.int n) := (rfl)
theorem y_p1 : oIx (pD n ws) (.int 1) Q = Q (wD ws) := (rfl)
theorem atD_map {x : α} (h0 : 0 ≤ i) (h : xs[i.toNat]? = some x) (q : Q (e x)) : atD (xs.map e) i Q := atD_some h0 (by rw [List.getElem?_map, h]; rfl) q
theorem y_ixR (h0 : 0 ≤ i) (h1 : i < (r.length : Int)) (q : Q (.int (r.getD i.toNat 0))) : oIx (rD r) (.int i) Q := atD_int h0 h1 q
theorem y_ixL (h0 : 0 ≤ i) (h1 : i < (r.length : Int)) (q : Q (.int (r.getD i.toNat 0))) : oIx (.lst (dInts r)) (.int i) Q := atD_int h0 h1 q
theorem y_ixW (h0 : 0 ≤ i) (h1 : i < (ws.length : Int)) (q : Q (rD (ws.getD i.toNat []))) : oIx (wD ws) (.int i) Q := atD_some h0 (rows_at h0 h1) q
theorem y_ixLW (h0 : 0 ≤ i) (h1 : i < (ws.length : Int)) (q : Q (rD (ws.getD i.toNat []))) : oIx (.lst (rowsD ws)) (.int i) Q := atD_some h0 (rows_at h0 h1) q
/-- near[x][y] -/
theorem y_near {x y : Int} (hx : 0 ≤ x ∧ x < (ws.length : Int)) (hy : 0 ≤ y ∧ y < (ws.length : Int)) (q : Q (.bl (meetsF ws x y))) : oIx (nD (nearF ws)) (.int x) fun d => oIx d (.int y) Q := by
  refine atD_blD hx.1 (by rw [nearF_len]; exact hx.2) ?_
  have en : (nearF ws).getD x.toNat [] = (rangeI ws.length).map fun y => meetsF ws x y := by
    unfold nearF
    rw [range_getD hx.1 hx.2]
  rw [en]
  refine atD_bl hy.1 (by unfold rangeI; simp; exact hy.2) ?_
  rw [range_getD hy.1 hy.2]
  exact q
theorem rgD_ints : rgD 0 n.toNat = dInts (rangeI n) := by
  unfold rgD rangeI dInts
  rw [List.map_map]
  refine List.map_congr_left fun k _ => ?_
  show D.int (0 + (k : Int)) = D.int (Int.ofNat k)
  rw [Int.zero_add]
  rfl
theorem y_rng (h0 : -(2 ^ 62) ≤ n) (h1 : n < 2 ^ 62) (q : R (dInts (rangeI n))) : rngQ (.int n) R := ⟨⟨h0, h1⟩, by rw [rgD_ints]; exact q⟩
theorem y_rngN {k : Nat} (h1 : k ≤ 1000000) (q : R (dInts (rangeI (k : Int)))) : rngQ (.int (k : Int)) R := y_rng (by omega) (by omega) q
theorem y_lrg (h0 : 0 ≤ n) (h1 : n ≤ 1000000) (q : Q (.lst (dInts (rangeI n)))) : lrgQ (.int n) Q := ⟨⟨by omega, by omega, by omega⟩, by rw [Int.sub_zero, rgD_ints]; exact q⟩
theorem y_rows_rD : enmQ (wD ws) R = R (enD 0 (rowsD ws)) := (rfl)
/-- the pairs (work, lot) -/
def enP (ws : List (List Int)) (x : Int) : D := .tup [.int x, rD (W ws x)]
theorem enD_rows_go : ∀ (us : List (List Int)) (k : Nat), enD k (rowsD us) = (List.range us.length).map fun j => D.tup [.int ((k + j : Nat) : Int), rD (us.getD j [])]
  | [], k => rfl
  | l :: us, k => by
    show D.tup [.int (k : Nat), rD l] :: enD (k + 1) (rowsD us) = _
    rw [enD_rows_go us (k + 1), List.length_cons, List.range_succ_eq_map, List.map_cons, List.map_map]
    congr 1
    refine List.map_congr_left fun j _ => ?_
    show D.tup [.int ((k + 1 + j : Nat) : Int), rD (us.getD j [])] = D.tup [.int ((k + (j + 1) : Nat) : Int), rD ((l :: us).getD (j + 1) [])]
    rw [show k + 1 + j = k + (j + 1) by omega, List.getD_cons_succ]
theorem enD_rows : enD 0 (rowsD ws) = (rangeI ws.length).map (enP ws) := by
  rw [enD_rows_go ws 0]
  unfold rangeI
  rw [List.map_map, Int.toNat_natCast]
  refine List.map_congr_left fun j _ => ?_
  show D.tup [.int ((0 + j : Nat) : Int), rD (ws.getD j [])] = D.tup [.int (j : Int), rD (ws.getD (j : Int).toNat [])]
  rw [Nat.zero_add, Int.toNat_natCast]
/-- r[c:c + 1] -/
theorem y_sl1 {c : Int} (h : 0 ≤ c) (q : Q (rD ((r.drop c.toNat).take 1))) : slcQ (rD r) (some c) (some (c + 1)) Q := by
  obtain ⟨k, rfl⟩ := Int.eq_ofNat_of_zero_le h
  refine ⟨immL_dInts r, ?_⟩
  rw [show cutD (dInts r) (some (k : Int)) (some ((k : Int) + 1)) = dInts ((r.drop k).take 1) by
    unfold cutD
    rw [show ((k : Int) + 1) = ((k + 1 : Nat) : Int) by omega, HT.sIx_nat, HT.sIx_nat, dInts_drop, dInts_take, dInts_len]
    by_cases hk : k < r.length
    · rw [Nat.min_eq_left (by omega), Nat.min_eq_left (by omega), Nat.add_sub_cancel_left]
    · rw [Nat.min_eq_right (by omega), Nat.min_eq_right (by omega), Nat.sub_self, List.take_zero, List.drop_eq_nil_of_le (show r.length ≤ k by omega), List.take_nil]]
  rw [Int.toNat_natCast] at q
  exact q
theorem y_logs : List.map (logF ws r) (rangeI n) = logsF n ws r := (rfl)
theorem draw_ev {k : Int} {o : D} (h0 : 0 < k) (h1 : k < 2 ^ 30) (q : ∀ z, 0 ≤ z → z < k → Q (.int z)) : mDraw [o, .int k] Q := ⟨h0, h1, fun r r0 r1 => q r r0 r1⟩
theorem rangeI_len : (rangeI n).length = n.toNat := by simp [rangeI]
theorem mem_rangeI {x : Int} : x ∈ rangeI n ↔ 0 ≤ x ∧ x < n := ⟨rangeI_mem, fun h => List.mem_map.mpr ⟨x.toNat, List.mem_range.mpr (by omega), Int.toNat_of_nonneg h.1⟩⟩
theorem y_addR (h : r.length + s.length ≤ sizeLine) (q : Q (rD (r ++ s))) : oAdd (rD r) (rD s) Q := ⟨immL_dInts r, immL_dInts s, by rw [dInts_len, dInts_len]; exact h, by rw [dInts_app]; exact q⟩
theorem y_slR_hi {k : Nat} (q : Q (rD (r.take k))) : slcQ (rD r) none (some (k : Int)) Q := ⟨immL_dInts r, by rw [cut_take, dInts_take]; exact q⟩
theorem y_slR_lo {k : Nat} (q : Q (rD (r.drop k))) : slcQ (rD r) (some (k : Int)) none Q := ⟨immL_dInts r, by rw [cut_drop, dInts_drop]; exact q⟩
theorem y_listT : oListA (rD r) Q = Q (.lst (dInts r)) := propext ⟨fun h => by
  rcases h with h | h | h
  · exact h.2
  · exact h.elim
  · exact h.elim, fun h => .inl ⟨immL_dInts r, h⟩⟩
/-! walks over typed lists -/
theorem lc_G {g : XG} {mt : XB} {me : X1} {env : PEnv} (t : α → Bool) (f : α → β) (e' : β → D) : ∀ (xs : List α) (acc : List D) (Z : List D → Prop), acc.length + xs.length ≤ sizeLine →
    (∀ x ∈ xs, ∀ (R : D → Prop) (N : Prop), (t x = true → R (e' (f x))) → (t x = false → N) → g (e x) env fun env1 => mt env1 fun k => if k = true then me env1 R else N) →
    Z (acc ++ ((xs.filter t).map f).map e') → lcLoop g mt me env (xs.map e) acc Z
  | [], acc, Z, _, _, q => by simpa [lcLoop] using q
  | x :: xs, acc, Z, hl, h, q => by
    simp at hl
    refine h x List.mem_cons_self _ _ (fun ht => ⟨by omega, ?_⟩) fun ht => ?_
    · refine lc_G t f e' xs _ Z (by simp; omega) (fun y hy => h y (List.mem_cons_of_mem _ hy)) ?_
      rw [List.filter_cons_of_pos ht, List.map_cons, List.map_cons] at q
      simpa using q
    · refine lc_G t f e' xs _ Z (by omega) (fun y hy => h y (List.mem_cons_of_mem _ hy)) ?_
      rwa [List.filter_cons_of_neg (by rw [ht]; decide)] at q
/-- [f(x) for x in xs if t(x)] -/
theorem lc_FT {g : XG} {mt : XB} {me : X1} {env : PEnv} {Z : List D → Prop} (t : α → Bool) (f : α → β) (e' : β → D) (hl : xs.length ≤ sizeLine)
    (h : ∀ x ∈ xs, ∀ (R : D → Prop) (N : Prop), (t x = true → R (e' (f x))) → (t x = false → N) → g (e x) env fun env1 => mt env1 fun k => if k = true then me env1 R else N)
    (q : Z (((xs.filter t).map f).map e')) : lcLoop g mt me env (xs.map e) [] Z := lc_G t f e' xs [] Z (by simpa using hl) h q
theorem lc_M {g : XG} {me : X1} {env : PEnv} {Z : List D → Prop} (f : α → β) (e' : β → D) (hl : xs.length ≤ sizeLine) (h : ∀ x ∈ xs, ∀ R : D → Prop, R (e' (f x)) → g (e x) env fun env1 => me env1 R)
    (q : Z ((xs.map f).map e')) : lcLoop g bYes me env (xs.map e) [] Z :=
  lc_FT (fun _ => true) f e' hl (fun x hx R N h1 _ => by have := h x hx R (h1 rfl); exact this) (by rw [List.filter_eq_self.mpr fun _ _ => rfl]; exact q)
/-- .. with something of P for each item -/
theorem lc_R {g : XG} {me : X1} {env : PEnv} (P : α → β → Prop) (e' : β → D) : ∀ (xs : List α) (acc : List D) (Z : List D → Prop), acc.length + xs.length ≤ sizeLine → (∀ x ∈ xs, ∀ R : D → Prop, (∀ y, P x y → R (e' y)) → g (e x) env fun env1 => me env1 R) →
    (∀ ys : List β, ys.length = xs.length → (∀ (j : Nat) (x : α) (y : β), xs[j]? = some x → ys[j]? = some y → P x y) → Z (acc ++ ys.map e')) → lcLoop g bYes me env (xs.map e) acc Z
  | [], acc, Z, _, _, q => by simpa [lcLoop] using q [] rfl (fun _ _ _ h => nomatch h)
  | x :: xs, acc, Z, hl, h, q => by
    simp at hl
    refine h x List.mem_cons_self _ fun y hy => ⟨by omega, lc_R P e' xs _ Z (by simp; omega) (fun z hz => h z (List.mem_cons_of_mem _ hz)) fun ys hl hp => ?_⟩
    have := q (y :: ys) (by simp [hl]) fun j a b h1 h2 => by
      cases j with
      | zero => simp at h1 h2; subst h1 h2; exact hy
      | succ j => exact hp j a b (by simpa using h1) (by simpa using h2)
    simpa using this
theorem loop_T {g : XG} {body : XS} [hs : MS body] [hg : MG g] {E : PEnds} {env : PEnv} (I : List α → List α → PEnv → Prop) (xs : List α) (h0 : I [] xs env)
    (hb : ∀ (p : List α) (x : α) (s : List α) (env : PEnv), p ++ x :: s = xs → I p (x :: s) env → g (e x) env fun env1 => body { nx := I (p ++ [x]) s, rt := E.rt, bk := E.nx, ct := I (p ++ [x]) s } env1)
    (hd : ∀ env, I xs [] env → E.nx env) : sLoop g body (xs.map e) E env := by
  refine loop_ev (b := g) (body := body) (fun ds env => ∃ p s, p ++ s = xs ∧ ds = s.map e ∧ I p s env) ?_ (fun d env Q Q' k q => hg.mono _ _ _ _ k q) (fun p q => hs.mono p q) _ _ ⟨[], xs, rfl, rfl, h0⟩ ?_
  · rintro d ds env ⟨p, s, e1, e2, h⟩
    cases s with
    | nil => cases e2
    | cons x s =>
      obtain ⟨rfl, rfl⟩ := List.cons.inj e2
      have up : ∀ z, I (p ++ [x]) s z → ∃ p' s', p' ++ s' = xs ∧ List.map e s = List.map e s' ∧ I p' s' z := fun z hz => ⟨p ++ [x], s, by simpa using e1, rfl, hz⟩
      exact hg.mono _ _ _ _ (fun env1 q => hs.mono (E := { nx := I (p ++ [x]) s, rt := E.rt, bk := E.nx, ct := I (p ++ [x]) s }) ⟨up, fun _ z => z, fun _ z => z, up⟩ q) (hb p x s env e1 h)
  · rintro env ⟨p, s, e1, e2, h⟩
    cases s with
    | nil => simp at e1; subst e1; exact hd env h
    | cons x s => cases e2
theorem loop_I {g : XG} {body : XS} [hs : MS body] [hg : MG g] {E : PEnds} {env : PEnv} (I : List Int → List Int → PEnv → Prop) (xs : List Int) (h0 : I [] xs env)
    (hb : ∀ (p : List Int) (x : Int) (s : List Int) (env : PEnv), p ++ x :: s = xs → I p (x :: s) env → g (.int x) env fun env1 => body { nx := I (p ++ [x]) s, rt := E.rt, bk := E.nx, ct := I (p ++ [x]) s } env1)
    (hd : ∀ env, I xs [] env → E.nx env) : sLoop g body (dInts xs) E env := loop_T I xs h0 hb hd
theorem map_bl_inj : ∀ {bs cs : List Bool}, bs.map D.bl = cs.map D.bl → bs = cs
  | [], [], _ => rfl
  | [], _ :: _, h => nomatch h
  | _ :: _, [], h => nomatch h
  | a :: bs, b :: cs, h => by
    obtain ⟨h1, h2⟩ := List.cons.inj (show D.bl a :: bs.map D.bl = D.bl b :: cs.map D.bl from h)
    cases h1
    rw [map_bl_inj h2]
theorem y_all : oAny true (.lst (bs.map D.bl)) Q = Q (.bl (bs.all id)) := propext ⟨fun ⟨cs, e, h⟩ => by
  have : bs = cs := map_bl_inj e
  rw [this]; simpa using h, fun h => ⟨bs, rfl, by simpa using h⟩⟩
theorem y_any : oAny false (.lst (bs.map D.bl)) Q = Q (.bl (bs.any id)) := propext ⟨fun ⟨cs, e, h⟩ => by
  have : bs = cs := map_bl_inj e
  rw [this]; simpa using h, fun h => ⟨bs, rfl, by simpa using h⟩⟩
/-! isinstance -/
def isAn (c : String) (d : D) : Bool := match d.ty with
  | some t => subB t c
  | none => false
theorem y_isA_int {c : String} : oIsA c (.int a) Q = Q (.bl (subB "int" c)) := (rfl)
theorem y_isA_bl {c : String} : oIsA c (.bl p) Q = Q (.bl (subB "bool" c)) := (rfl)
theorem y_isA_str {c : String} {z : Str} : oIsA c (.str z) Q = Q (.bl (subB "str" c)) := (rfl)
theorem y_isA_non {c : String} : oIsA c .non Q = Q (.bl (subB "NoneType" c)) := (rfl)
theorem y_isA_tup {c : String} {ds : List D} : oIsA c (.tup ds) Q = Q (.bl (subB "tuple" c)) := (rfl)
theorem y_isA_lst {c : String} {ds : List D} : oIsA c (.lst ds) Q = Q (.bl (subB "list" c)) := (rfl)
theorem y_isA_rD {c : String} : oIsA c (rD r) Q = Q (.bl (subB "tuple" c)) := (rfl)
theorem y_isA_wD {c : String} : oIsA c (wD ws) Q = Q (.bl (subB "tuple" c)) := (rfl)
theorem y_isT_int {cs : List String} : oIsAny cs (.int a) Q = Q (.bl (cs.any fun c => subB "int" c)) := (rfl)
theorem y_isT_bl {cs : List String} : oIsAny cs (.bl p) Q = Q (.bl (cs.any fun c => subB "bool" c)) := (rfl)
theorem y_isT_str {cs : List String} {z : Str} : oIsAny cs (.str z) Q = Q (.bl (cs.any fun c => subB "str" c)) := (rfl)
theorem y_isT_non {cs : List String} : oIsAny cs .non Q = Q (.bl (cs.any fun c => subB "NoneType" c)) := (rfl)
theorem y_isT_tup {cs : List String} {ds : List D} : oIsAny cs (.tup ds) Q = Q (.bl (cs.any fun c => subB "tuple" c)) := (rfl)
theorem y_isT_lst {cs : List String} {ds : List D} : oIsAny cs (.lst ds) Q = Q (.bl (cs.any fun c => subB "list" c)) := (rfl)
theorem sb1 : (["tuple", "list"].any fun c => subB "int" c) = false := by decide
theorem sb2 : (["tuple", "list"].any fun c => subB "bool" c) = false := by decide
theorem sb3 : (["tuple", "list"].any fun c => subB "str" c) = false := by decide
theorem sb4 : (["tuple", "list"].any fun c => subB "NoneType" c) = false := by decide
theorem sb5 : (["tuple", "list"].any fun c => subB "tuple" c) = true := by decide
theorem sb6 : (["tuple", "list"].any fun c => subB "list" c) = true := by decide
theorem sb7 : (["bool", "str"].any fun c => subB "bool" c) = true := by decide
theorem sb8 : (["bool", "str"].any fun c => subB "str" c) = true := by decide
theorem sb9 : subB "int" "bool" = false := by decide
theorem sb10 : subB "int" "str" = false := by decide
theorem sb11 : subB "int" "int" = true := by decide
theorem sb12 : subB "NoneType" "bool" = false := by decide
theorem sb13 : subB "NoneType" "str" = false := by decide
theorem sb14 : subB "bool" "bool" = true := by decide
theorem sb15 : subB "str" "bool" = false := by decide
theorem sb16 : subB "str" "str" = true := by decide
theorem sb17 : subB "tuple" "tuple" = true := by decide
theorem sb18 : subB "tuple" "list" = false := by decide
theorem sb19 : subB "list" "tuple" = false := by decide
theorem sb20 : subB "list" "list" = true := by decide
theorem sb21 : subB "bool" "int" = true := by decide
theorem y_isN_int : (D.int a).isN = false := (rfl)
theorem y_isN_non : D.non.isN = true := (rfl)
theorem y_isN_rD : (rD r).isN = false := (rfl)
end
end Pu

/-! file V09a -/
set_option Elab.async false
set_option linter.all false
set_option maxRecDepth 100000
set_option synthInstance.maxHeartbeats 0
set_option synthInstance.maxSize 100000
namespace Pu
open PySem PySem.Spec PyProof.Rows L2
section
variable {Q : D → Prop} {n : Int} {r s row left : List Int} {ws : List (List Int)}
def optD : Option Nat → D
  | none => .non
  | some k => .int (k : Int)
/-- where a work can come first -/
def freeAt (ws : List (List Int)) : List Int → Int → Option Nat
  | [], _ => none
  | y :: r, x => if y = x then some 0 else if meetsF ws y x = true then none else (freeAt ws r x).map (· + 1)
theorem range_split {p s : List Int} {x : Int} (e : p ++ x :: s = rangeI n) : x = (p.length : Int) ∧ (p.length : Int) < n := by
  have hl := congrArg List.length e
  rw [rangeI_len] at hl
  simp at hl
  have h1 : (rangeI n)[p.length]? = some x := by rw [← e]; simp
  unfold rangeI at h1
  rw [List.getElem?_map, List.getElem?_range (by omega)] at h1
  simp at h1
  exact ⟨h1.symm, by omega⟩
theorem free_ev {x : Int} (hl : left.length ≤ 200) (hw : InW ws left) (hx : 0 ≤ x ∧ x < (ws.length : Int)) : FEv m__law_free_at [nD (nearF ws), .lst (dInts left), .int x] (optD (freeAt ws left x)) := fun Q q => by
  unfold m__law_free_at fnM b__law_free_at
  simp only [env0, List.map_cons, List.map_nil, List.length_cons, List.length_nil, List.replicate_succ, List.replicate_zero, List.cons_append, List.nil_append, Nat.reduceSub, Nat.reduceAdd, Nat.zero_add, w_var0, w_varS, w_c, w_imm, w_nil, w_cons, w_dice, w_call, w_x1, w_x2, w_tup, w_lst, w_if, w_and, w_or, w_not, w_yes, w_test, w_boo, w_xand, w_xor, w_xnot, w_chain, w_seq, w_set, w_sifR, w_sifRS, w_sifN, w_sifB, w_sifC, w_ret, w_next, w_break, w_cont, w_never, w_drop, w_set0, w_setS, w_setn0, w_setnS, w_bname, w_mseq, w_seqL, w_seqT, w_mrng1, w_mrng2, w_for, w_lc, w_app, w_onL, w_put, w_aug, w_augS, w_lm, w_setE, w_retE, w_appE, w_pop, w_asgG, w_sl, w_lrg1, w_pno, w_pyes, w_intQ, w_btup, w_bcons, w_bnil, w_oI, w_oIc, w_addI, w_add1I, w_intI, w_intB, w_lenL, w_lenT, w_lenDT, w_lenDK, w_isN, w_notN, w_isB, w_oTupL, w_oTupT, y_mapI, y_mapR, y_immL_I, y_logs, y_immL_R, y_W, y_isA_int, y_isA_bl, y_isA_str, y_isA_non, y_isA_tup, y_isA_lst, y_isA_rD, y_isA_wD, y_isT_int, y_isT_bl, y_isT_str, y_isT_non, y_isT_tup, y_isT_lst, sb1, sb2, sb3, sb4, sb5, sb6, sb7, sb8, sb9, sb10, sb11, sb12, sb13, sb14, sb15, sb16, sb17, sb18, sb19, sb20, sb21, y_isN_int, y_isN_non, y_isN_rD, List.map_id, id_eq, BEq.rfl, bne_self_eq_false, y_imm_int, y_imm_bl, y_imm_non, y_imm_rD, y_imm_wD, y_immL_nil, y_immL_cons, y_imm_tup, y_tup_dInts, y_tup_rows, y_len_dInts, y_len_rowsD, y_len_rD, y_len_wD, y_len_nD, y_eqI, y_neI, y_eqR, y_neR, y_eqW, y_neW, y_eqB, y_neB, y_inR, y_notInR, y_fldW, y_fldD, y_p0, y_p1, y_listT, y_all, y_any, true_and, and_true, Bool.and_self, Bool.and_true, Bool.true_and, Bool.not_true, Bool.not_false, Bool.false_eq_true, if_false, if_true, ite_true, ite_false, decide_true, decide_false, reduceIte]
  refine y_rngN (by omega) ?_
  refine loop_I (fun p s env => ∃ e3, env = [some (nD (nearF ws)), some (D.lst (dInts left)), some (D.int x), e3] ∧ freeAt ws left x = (freeAt ws (left.drop p.length) x).map (· + p.length)) _ ⟨none, rfl, by simp⟩ ?_ ?_
  · rintro p i s env e ⟨e3, rfl, hf⟩
    obtain ⟨rfl, hi⟩ := range_split e
    have hd : left.drop p.length = left.getD p.length 0 :: left.drop (p.length + 1) := by
      rw [List.drop_eq_getElem_cons (by omega), List.getD_eq_getElem?_getD, List.getElem?_eq_getElem (by omega)] <;> rfl
    have hg := inW_getD hw (show p.length < left.length by omega)
    rw [hd] at hf
    simp only [w_var0, w_varS, w_c, w_imm, w_nil, w_cons, w_dice, w_call, w_x1, w_x2, w_tup, w_lst, w_if, w_and, w_or, w_not, w_yes, w_test, w_boo, w_xand, w_xor, w_xnot, w_chain, w_seq, w_set, w_sifR, w_sifRS, w_sifN, w_sifB, w_sifC, w_ret, w_next, w_break, w_cont, w_never, w_drop, w_set0, w_setS, w_setn0, w_setnS, w_bname, w_mseq, w_seqL, w_seqT, w_mrng1, w_mrng2, w_for, w_lc, w_app, w_onL, w_put, w_aug, w_augS, w_lm, w_setE, w_retE, w_appE, w_pop, w_asgG, w_sl, w_lrg1, w_pno, w_pyes, w_intQ, w_btup, w_bcons, w_bnil, w_oI, w_oIc, w_addI, w_add1I, w_intI, w_intB, w_lenL, w_lenT, w_lenDT, w_lenDK, w_isN, w_notN, w_isB, w_oTupL, w_oTupT, y_mapI, y_mapR, y_immL_I, y_logs, y_immL_R, y_W, y_isA_int, y_isA_bl, y_isA_str, y_isA_non, y_isA_tup, y_isA_lst, y_isA_rD, y_isA_wD, y_isT_int, y_isT_bl, y_isT_str, y_isT_non, y_isT_tup, y_isT_lst, sb1, sb2, sb3, sb4, sb5, sb6, sb7, sb8, sb9, sb10, sb11, sb12, sb13, sb14, sb15, sb16, sb17, sb18, sb19, sb20, sb21, y_isN_int, y_isN_non, y_isN_rD, List.map_id, id_eq, BEq.rfl, bne_self_eq_false, y_imm_int, y_imm_bl, y_imm_non, y_imm_rD, y_imm_wD, y_immL_nil, y_immL_cons, y_imm_tup, y_tup_dInts, y_tup_rows, y_len_dInts, y_len_rowsD, y_len_rD, y_len_wD, y_len_nD, y_eqI, y_neI, y_eqR, y_neR, y_eqW, y_neW, y_eqB, y_neB, y_inR, y_notInR, y_fldW, y_fldD, y_p0, y_p1, y_listT, y_all, y_any, true_and, and_true, Bool.and_self, Bool.and_true, Bool.true_and, Bool.not_true, Bool.not_false, Bool.false_eq_true, if_false, if_true, ite_true, ite_false, decide_true, decide_false, reduceIte]
    refine y_ixL (by omega) (by omega) ?_
    rw [Int.toNat_natCast]
    simp only [w_var0, w_varS, w_c, w_imm, w_nil, w_cons, w_dice, w_call, w_x1, w_x2, w_tup, w_lst, w_if, w_and, w_or, w_not, w_yes, w_test, w_boo, w_xand, w_xor, w_xnot, w_chain, w_seq, w_set, w_sifR, w_sifRS, w_sifN, w_sifB, w_sifC, w_ret, w_next, w_break, w_cont, w_never, w_drop, w_set0, w_setS, w_setn0, w_setnS, w_bname, w_mseq, w_seqL, w_seqT, w_mrng1, w_mrng2, w_for, w_lc, w_app, w_onL, w_put, w_aug, w_augS, w_lm, w_setE, w_retE, w_appE, w_pop, w_asgG, w_sl, w_lrg1, w_pno, w_pyes, w_intQ, w_btup, w_bcons, w_bnil, w_oI, w_oIc, w_addI, w_add1I, w_intI, w_intB, w_lenL, w_lenT, w_lenDT, w_lenDK, w_isN, w_notN, w_isB, w_oTupL, w_oTupT, y_mapI, y_mapR, y_immL_I, y_logs, y_immL_R, y_W, y_isA_int, y_isA_bl, y_isA_str, y_isA_non, y_isA_tup, y_isA_lst, y_isA_rD, y_isA_wD, y_isT_int, y_isT_bl, y_isT_str, y_isT_non, y_isT_tup, y_isT_lst, sb1, sb2, sb3, sb4, sb5, sb6, sb7, sb8, sb9, sb10, sb11, sb12, sb13, sb14, sb15, sb16, sb17, sb18, sb19, sb20, sb21, y_isN_int, y_isN_non, y_isN_rD, List.map_id, id_eq, BEq.rfl, bne_self_eq_false, y_imm_int, y_imm_bl, y_imm_non, y_imm_rD, y_imm_wD, y_immL_nil, y_immL_cons, y_imm_tup, y_tup_dInts, y_tup_rows, y_len_dInts, y_len_rowsD, y_len_rD, y_len_wD, y_len_nD, y_eqI, y_neI, y_eqR, y_neR, y_eqW, y_neW, y_eqB, y_neB, y_inR, y_notInR, y_fldW, y_fldD, y_p0, y_p1, y_listT, y_all, y_any, true_and, and_true, Bool.and_self, Bool.and_true, Bool.true_and, Bool.not_true, Bool.not_false, Bool.false_eq_true, if_false, if_true, ite_true, ite_false, decide_true, decide_false, reduceIte]
    split
    · rename_i h1
      have h1 := of_decide_eq_true h1
      rw [hf] at q
      unfold freeAt at q
      rw [if_pos h1] at q
      simpa [optD] using q
    · rename_i h1
      have h1 : ¬ left.getD p.length 0 = x := fun e => h1 (decide_eq_true e)
      refine y_ixL (by omega) (by omega) ?_
      rw [Int.toNat_natCast]
      refine y_near hg hx ?_
      simp only [w_var0, w_varS, w_c, w_imm, w_nil, w_cons, w_dice, w_call, w_x1, w_x2, w_tup, w_lst, w_if, w_and, w_or, w_not, w_yes, w_test, w_boo, w_xand, w_xor, w_xnot, w_chain, w_seq, w_set, w_sifR, w_sifRS, w_sifN, w_sifB, w_sifC, w_ret, w_next, w_break, w_cont, w_never, w_drop, w_set0, w_setS, w_setn0, w_setnS, w_bname, w_mseq, w_seqL, w_seqT, w_mrng1, w_mrng2, w_for, w_lc, w_app, w_onL, w_put, w_aug, w_augS, w_lm, w_setE, w_retE, w_appE, w_pop, w_asgG, w_sl, w_lrg1, w_pno, w_pyes, w_intQ, w_btup, w_bcons, w_bnil, w_oI, w_oIc, w_addI, w_add1I, w_intI, w_intB, w_lenL, w_lenT, w_lenDT, w_lenDK, w_isN, w_notN, w_isB, w_oTupL, w_oTupT, y_mapI, y_mapR, y_immL_I, y_logs, y_immL_R, y_W, y_isA_int, y_isA_bl, y_isA_str, y_isA_non, y_isA_tup, y_isA_lst, y_isA_rD, y_isA_wD, y_isT_int, y_isT_bl, y_isT_str, y_isT_non, y_isT_tup, y_isT_lst, sb1, sb2, sb3, sb4, sb5, sb6, sb7, sb8, sb9, sb10, sb11, sb12, sb13, sb14, sb15, sb16, sb17, sb18, sb19, sb20, sb21, y_isN_int, y_isN_non, y_isN_rD, List.map_id, id_eq, BEq.rfl, bne_self_eq_false, y_imm_int, y_imm_bl, y_imm_non, y_imm_rD, y_imm_wD, y_immL_nil, y_immL_cons, y_imm_tup, y_tup_dInts, y_tup_rows, y_len_dInts, y_len_rowsD, y_len_rD, y_len_wD, y_len_nD, y_eqI, y_neI, y_eqR, y_neR, y_eqW, y_neW, y_eqB, y_neB, y_inR, y_notInR, y_fldW, y_fldD, y_p0, y_p1, y_listT, y_all, y_any, true_and, and_true, Bool.and_self, Bool.and_true, Bool.true_and, Bool.not_true, Bool.not_false, Bool.false_eq_true, if_false, if_true, ite_true, ite_false, decide_true, decide_false, reduceIte]
      split
      · rename_i h2
        rw [hf] at q
        unfold freeAt at q
        rw [if_neg h1, if_pos h2] at q
        simpa [optD] using q
      · rename_i h2
        refine ⟨_, rfl, ?_⟩
        rw [hf]
        conv => lhs; unfold freeAt
        rw [if_neg h1, if_neg h2]
        rw [show (p ++ [(p.length : Int)]).length = p.length + 1 by simp]
        cases freeAt ws (left.drop (p.length + 1)) x with
        | none => simp
        | some k => simp [Nat.add_comm, Nat.add_left_comm]
  · rintro env ⟨e3, rfl, hf⟩
    rw [rangeI_len, Int.toNat_natCast, List.drop_length] at hf
    rw [hf] at q
    simp only [w_var0, w_varS, w_c, w_imm, w_nil, w_cons, w_dice, w_call, w_x1, w_x2, w_tup, w_lst, w_if, w_and, w_or, w_not, w_yes, w_test, w_boo, w_xand, w_xor, w_xnot, w_chain, w_seq, w_set, w_sifR, w_sifRS, w_sifN, w_sifB, w_sifC, w_ret, w_next, w_break, w_cont, w_never, w_drop, w_set0, w_setS, w_setn0, w_setnS, w_bname, w_mseq, w_seqL, w_seqT, w_mrng1, w_mrng2, w_for, w_lc, w_app, w_onL, w_put, w_aug, w_augS, w_lm, w_setE, w_retE, w_appE, w_pop, w_asgG, w_sl, w_lrg1, w_pno, w_pyes, w_intQ, w_btup, w_bcons, w_bnil, w_oI, w_oIc, w_addI, w_add1I, w_intI, w_intB, w_lenL, w_lenT, w_lenDT, w_lenDK, w_isN, w_notN, w_isB, w_oTupL, w_oTupT, y_mapI, y_mapR, y_immL_I, y_logs, y_immL_R, y_W, y_isA_int, y_isA_bl, y_isA_str, y_isA_non, y_isA_tup, y_isA_lst, y_isA_rD, y_isA_wD, y_isT_int, y_isT_bl, y_isT_str, y_isT_non, y_isT_tup, y_isT_lst, sb1, sb2, sb3, sb4, sb5, sb6, sb7, sb8, sb9, sb10, sb11, sb12, sb13, sb14, sb15, sb16, sb17, sb18, sb19, sb20, sb21, y_isN_int, y_isN_non, y_isN_rD, List.map_id, id_eq, BEq.rfl, bne_self_eq_false, y_imm_int, y_imm_bl, y_imm_non, y_imm_rD, y_imm_wD, y_immL_nil, y_immL_cons, y_imm_tup, y_tup_dInts, y_tup_rows, y_len_dInts, y_len_rowsD, y_len_rD, y_len_wD, y_len_nD, y_eqI, y_neI, y_eqR, y_neR, y_eqW, y_neW, y_eqB, y_neB, y_inR, y_notInR, y_fldW, y_fldD, y_p0, y_p1, y_listT, y_all, y_any, true_and, and_true, Bool.and_self, Bool.and_true, Bool.true_and, Bool.not_true, Bool.not_false, Bool.false_eq_true, if_false, if_true, ite_true, ite_false, decide_true, decide_false, reduceIte]
    simpa [freeAt, optD] using q
def Pick (ws : List (List Int)) (left : List Int) (x : Int) (k : Nat) : Prop := freeAt ws left x = some k ∧ ∀ y ∈ left, y < x → freeAt ws left y = none
/-- rest is the least row alike to left, by always taking the least work that can come first -/
inductive Lst (ws : List (List Int)) : List Int → List Int → Prop
  | nil : Lst ws [] []
  | cons {left rest : List Int} {x : Int} {k : Nat} : Pick ws left x k → Lst ws (left.eraseIdx k) rest → Lst ws left (x :: rest)
theorem free_at : ∀ {left : List Int} {x : Int} {k : Nat}, freeAt ws left x = some k → left[k]? = some x ∧ ∀ j < k, ∀ y, left[j]? = some y → meetsF ws y x = false
  | [], _, _, h => nomatch h
  | y :: r, x, k, h => by
    unfold freeAt at h
    split at h
    · rename_i e
      cases h
      exact ⟨by rw [e] <;> rfl, fun j hj => absurd hj (Nat.not_lt_zero _)⟩
    · split at h
      · cases h
      · rename_i h2
        cases e : freeAt ws r x with
        | none => rw [e] at h; cases h
        | some m =>
          rw [e] at h
          cases h
          obtain ⟨g1, g2⟩ := free_at e
          refine ⟨by simpa using g1, fun j hj z hz => ?_⟩
          cases j with
          | zero => simp at hz; subst hz; simpa using h2
          | succ j => exact g2 j (Nat.lt_of_succ_lt_succ hj) z (by simpa using hz)
theorem dInts_erase (k : Nat) : (dInts left).eraseIdx k = dInts (left.eraseIdx k) := erase_ints left k
theorem popQ_ints {k : Nat} {Z : D → List D → Prop} {x : Int} (hl : left.length ≤ 1000000) (h : left[k]? = some x) (q : Z (.int x) (dInts (left.eraseIdx k))) : popQ (dInts left) (.int (k : Int)) Z := by
  have hk := (List.getElem?_eq_some_iff.mp h).1
  refine ⟨by omega, by omega, ?_⟩
  rw [PySem.seqIndex_of (by omega) (by rw [dInts_len]; omega), Int.toNat_natCast]
  have : (dInts left)[k]? = some (.int x) := by unfold dInts; rw [List.getElem?_map, h] <;> rfl
  dsimp only
  rw [this, dInts_erase]
  exact q
theorem dInts_snoc (r : List Int) (x : Int) : dInts r ++ [D.int x] = dInts (r ++ [x]) := by unfold dInts; rw [List.map_append] <;> rfl
theorem least_ev (hl : row.length < 64) (hw : InW ws row) : FP m__law_least [nD (nearF ws), rD row] (fun d => ∃ a, d = rD a ∧ Lst ws row a) := fun Q q => by
  have hs : 100 ≤ sizeLine := by decide
  unfold m__law_least fnM b__law_least
  simp only [env0, List.map_cons, List.map_nil, List.length_cons, List.length_nil, List.replicate_succ, List.replicate_zero, List.cons_append, List.nil_append, Nat.reduceSub, Nat.reduceAdd, Nat.zero_add, w_var0, w_varS, w_c, w_imm, w_nil, w_cons, w_dice, w_call, w_x1, w_x2, w_tup, w_lst, w_if, w_and, w_or, w_not, w_yes, w_test, w_boo, w_xand, w_xor, w_xnot, w_chain, w_seq, w_set, w_sifR, w_sifRS, w_sifN, w_sifB, w_sifC, w_ret, w_next, w_break, w_cont, w_never, w_drop, w_set0, w_setS, w_setn0, w_setnS, w_bname, w_mseq, w_seqL, w_seqT, w_mrng1, w_mrng2, w_for, w_lc, w_app, w_onL, w_put, w_aug, w_augS, w_lm, w_setE, w_retE, w_appE, w_pop, w_asgG, w_sl, w_lrg1, w_pno, w_pyes, w_intQ, w_btup, w_bcons, w_bnil, w_oI, w_oIc, w_addI, w_add1I, w_intI, w_intB, w_lenL, w_lenT, w_lenDT, w_lenDK, w_isN, w_notN, w_isB, w_oTupL, w_oTupT, y_mapI, y_mapR, y_immL_I, y_logs, y_immL_R, y_W, y_isA_int, y_isA_bl, y_isA_str, y_isA_non, y_isA_tup, y_isA_lst, y_isA_rD, y_isA_wD, y_isT_int, y_isT_bl, y_isT_str, y_isT_non, y_isT_tup, y_isT_lst, sb1, sb2, sb3, sb4, sb5, sb6, sb7, sb8, sb9, sb10, sb11, sb12, sb13, sb14, sb15, sb16, sb17, sb18, sb19, sb20, sb21, y_isN_int, y_isN_non, y_isN_rD, List.map_id, id_eq, BEq.rfl, bne_self_eq_false, y_imm_int, y_imm_bl, y_imm_non, y_imm_rD, y_imm_wD, y_immL_nil, y_immL_cons, y_imm_tup, y_tup_dInts, y_tup_rows, y_len_dInts, y_len_rowsD, y_len_rD, y_len_wD, y_len_nD, y_eqI, y_neI, y_eqR, y_neR, y_eqW, y_neW, y_eqB, y_neB, y_inR, y_notInR, y_fldW, y_fldD, y_p0, y_p1, y_listT, y_all, y_any, true_and, and_true, Bool.and_self, Bool.and_true, Bool.true_and, Bool.not_true, Bool.not_false, Bool.false_eq_true, if_false, if_true, ite_true, ite_false, decide_true, decide_false, reduceIte]
  refine ⟨by decide, y_rngN (by omega) ?_⟩
  refine loop_I (fun p s env => ∃ left found e4 e5 e6, env = [some (nD (nearF ws)), some (rD row), some (D.lst (dInts left)), some (D.lst (dInts found)), e4, e5, e6] ∧ left.length + p.length = row.length ∧ found.length = p.length ∧ InW ws left ∧ ∀ rest, Lst ws left rest → Lst ws row (found ++ rest)) _ ⟨row, [], none, none, none, rfl, by simp, rfl, hw, fun rest h => h⟩ ?_ ?_
  · rintro p i s env e ⟨left, found, e4, e5, e6, rfl, h1, h2, h3, h4⟩
    obtain ⟨rfl, hi⟩ := range_split e
    simp only [w_var0, w_varS, w_c, w_imm, w_nil, w_cons, w_dice, w_call, w_x1, w_x2, w_tup, w_lst, w_if, w_and, w_or, w_not, w_yes, w_test, w_boo, w_xand, w_xor, w_xnot, w_chain, w_seq, w_set, w_sifR, w_sifRS, w_sifN, w_sifB, w_sifC, w_ret, w_next, w_break, w_cont, w_never, w_drop, w_set0, w_setS, w_setn0, w_setnS, w_bname, w_mseq, w_seqL, w_seqT, w_mrng1, w_mrng2, w_for, w_lc, w_app, w_onL, w_put, w_aug, w_augS, w_lm, w_setE, w_retE, w_appE, w_pop, w_asgG, w_sl, w_lrg1, w_pno, w_pyes, w_intQ, w_btup, w_bcons, w_bnil, w_oI, w_oIc, w_addI, w_add1I, w_intI, w_intB, w_lenL, w_lenT, w_lenDT, w_lenDK, w_isN, w_notN, w_isB, w_oTupL, w_oTupT, y_mapI, y_mapR, y_immL_I, y_logs, y_immL_R, y_W, y_isA_int, y_isA_bl, y_isA_str, y_isA_non, y_isA_tup, y_isA_lst, y_isA_rD, y_isA_wD, y_isT_int, y_isT_bl, y_isT_str, y_isT_non, y_isT_tup, y_isT_lst, sb1, sb2, sb3, sb4, sb5, sb6, sb7, sb8, sb9, sb10, sb11, sb12, sb13, sb14, sb15, sb16, sb17, sb18, sb19, sb20, sb21, y_isN_int, y_isN_non, y_isN_rD, List.map_id, id_eq, BEq.rfl, bne_self_eq_false, y_imm_int, y_imm_bl, y_imm_non, y_imm_rD, y_imm_wD, y_immL_nil, y_immL_cons, y_imm_tup, y_tup_dInts, y_tup_rows, y_len_dInts, y_len_rowsD, y_len_rD, y_len_wD, y_len_nD, y_eqI, y_neI, y_eqR, y_neR, y_eqW, y_neW, y_eqB, y_neB, y_inR, y_notInR, y_fldW, y_fldD, y_p0, y_p1, y_listT, y_all, y_any, true_and, and_true, Bool.and_self, Bool.and_true, Bool.true_and, Bool.not_true, Bool.not_false, Bool.false_eq_true, if_false, if_true, ite_true, ite_false, decide_true, decide_false, reduceIte]
    refine ⟨left, rfl, by omega, fun ms pw hm => ?_⟩
    simp only [w_var0, w_varS, w_c, w_imm, w_nil, w_cons, w_dice, w_call, w_x1, w_x2, w_tup, w_lst, w_if, w_and, w_or, w_not, w_yes, w_test, w_boo, w_xand, w_xor, w_xnot, w_chain, w_seq, w_set, w_sifR, w_sifRS, w_sifN, w_sifB, w_sifC, w_ret, w_next, w_break, w_cont, w_never, w_drop, w_set0, w_setS, w_setn0, w_setnS, w_bname, w_mseq, w_seqL, w_seqT, w_mrng1, w_mrng2, w_for, w_lc, w_app, w_onL, w_put, w_aug, w_augS, w_lm, w_setE, w_retE, w_appE, w_pop, w_asgG, w_sl, w_lrg1, w_pno, w_pyes, w_intQ, w_btup, w_bcons, w_bnil, w_oI, w_oIc, w_addI, w_add1I, w_intI, w_intB, w_lenL, w_lenT, w_lenDT, w_lenDK, w_isN, w_notN, w_isB, w_oTupL, w_oTupT, y_mapI, y_mapR, y_immL_I, y_logs, y_immL_R, y_W, y_isA_int, y_isA_bl, y_isA_str, y_isA_non, y_isA_tup, y_isA_lst, y_isA_rD, y_isA_wD, y_isT_int, y_isT_bl, y_isT_str, y_isT_non, y_isT_tup, y_isT_lst, sb1, sb2, sb3, sb4, sb5, sb6, sb7, sb8, sb9, sb10, sb11, sb12, sb13, sb14, sb15, sb16, sb17, sb18, sb19, sb20, sb21, y_isN_int, y_isN_non, y_isN_rD, List.map_id, id_eq, BEq.rfl, bne_self_eq_false, y_imm_int, y_imm_bl, y_imm_non, y_imm_rD, y_imm_wD, y_immL_nil, y_immL_cons, y_imm_tup, y_tup_dInts, y_tup_rows, y_len_dInts, y_len_rowsD, y_len_rD, y_len_wD, y_len_nD, y_eqI, y_neI, y_eqR, y_neR, y_eqW, y_neW, y_eqB, y_neB, y_inR, y_notInR, y_fldW, y_fldD, y_p0, y_p1, y_listT, y_all, y_any, true_and, and_true, Bool.and_self, Bool.and_true, Bool.true_and, Bool.not_true, Bool.not_false, Bool.false_eq_true, if_false, if_true, ite_true, ite_false, decide_true, decide_false, reduceIte]
    refine loop_I (fun p s env => ∃ e5 e6, env = [some (nD (nearF ws)), some (rD row), some (D.lst (dInts left)), some (D.lst (dInts found)), some (D.int _), e5, e6] ∧ ∀ y ∈ p, freeAt ws left y = none) ms ⟨e5, e6, rfl, fun _ h => nomatch h⟩ ?_ ?_
    · rintro p2 x s2 env e2 ⟨e5, e6, rfl, h5⟩
      have hx := h3 x ((hm x).mp (by rw [← e2]; simp))
      simp only [w_var0, w_varS, w_c, w_imm, w_nil, w_cons, w_dice, w_call, w_x1, w_x2, w_tup, w_lst, w_if, w_and, w_or, w_not, w_yes, w_test, w_boo, w_xand, w_xor, w_xnot, w_chain, w_seq, w_set, w_sifR, w_sifRS, w_sifN, w_sifB, w_sifC, w_ret, w_next, w_break, w_cont, w_never, w_drop, w_set0, w_setS, w_setn0, w_setnS, w_bname, w_mseq, w_seqL, w_seqT, w_mrng1, w_mrng2, w_for, w_lc, w_app, w_onL, w_put, w_aug, w_augS, w_lm, w_setE, w_retE, w_appE, w_pop, w_asgG, w_sl, w_lrg1, w_pno, w_pyes, w_intQ, w_btup, w_bcons, w_bnil, w_oI, w_oIc, w_addI, w_add1I, w_intI, w_intB, w_lenL, w_lenT, w_lenDT, w_lenDK, w_isN, w_notN, w_isB, w_oTupL, w_oTupT, y_mapI, y_mapR, y_immL_I, y_logs, y_immL_R, y_W, y_isA_int, y_isA_bl, y_isA_str, y_isA_non, y_isA_tup, y_isA_lst, y_isA_rD, y_isA_wD, y_isT_int, y_isT_bl, y_isT_str, y_isT_non, y_isT_tup, y_isT_lst, sb1, sb2, sb3, sb4, sb5, sb6, sb7, sb8, sb9, sb10, sb11, sb12, sb13, sb14, sb15, sb16, sb17, sb18, sb19, sb20, sb21, y_isN_int, y_isN_non, y_isN_rD, List.map_id, id_eq, BEq.rfl, bne_self_eq_false, y_imm_int, y_imm_bl, y_imm_non, y_imm_rD, y_imm_wD, y_immL_nil, y_immL_cons, y_imm_tup, y_tup_dInts, y_tup_rows, y_len_dInts, y_len_rowsD, y_len_rD, y_len_wD, y_len_nD, y_eqI, y_neI, y_eqR, y_neR, y_eqW, y_neW, y_eqB, y_neB, y_inR, y_notInR, y_fldW, y_fldD, y_p0, y_p1, y_listT, y_all, y_any, true_and, and_true, Bool.and_self, Bool.and_true, Bool.true_and, Bool.not_true, Bool.not_false, Bool.false_eq_true, if_false, if_true, ite_true, ite_false, decide_true, decide_false, reduceIte]
      refine free_ev (by omega) h3 hx _ ?_
      rw [w_sif]
      simp only [w_var0, w_varS, w_c, w_imm, w_nil, w_cons, w_dice, w_call, w_x1, w_x2, w_tup, w_lst, w_if, w_and, w_or, w_not, w_yes, w_test, w_boo, w_xand, w_xor, w_xnot, w_chain, w_seq, w_set, w_sifR, w_sifRS, w_sifN, w_sifB, w_sifC, w_ret, w_next, w_break, w_cont, w_never, w_drop, w_set0, w_setS, w_setn0, w_setnS, w_bname, w_mseq, w_seqL, w_seqT, w_mrng1, w_mrng2, w_for, w_lc, w_app, w_onL, w_put, w_aug, w_augS, w_lm, w_setE, w_retE, w_appE, w_pop, w_asgG, w_sl, w_lrg1, w_pno, w_pyes, w_intQ, w_btup, w_bcons, w_bnil, w_oI, w_oIc, w_addI, w_add1I, w_intI, w_intB, w_lenL, w_lenT, w_lenDT, w_lenDK, w_isN, w_notN, w_isB, w_oTupL, w_oTupT, y_mapI, y_mapR, y_immL_I, y_logs, y_immL_R, y_W, y_isA_int, y_isA_bl, y_isA_str, y_isA_non, y_isA_tup, y_isA_lst, y_isA_rD, y_isA_wD, y_isT_int, y_isT_bl, y_isT_str, y_isT_non, y_isT_tup, y_isT_lst, sb1, sb2, sb3, sb4, sb5, sb6, sb7, sb8, sb9, sb10, sb11, sb12, sb13, sb14, sb15, sb16, sb17, sb18, sb19, sb20, sb21, y_isN_int, y_isN_non, y_isN_rD, List.map_id, id_eq, BEq.rfl, bne_self_eq_false, y_imm_int, y_imm_bl, y_imm_non, y_imm_rD, y_imm_wD, y_immL_nil, y_immL_cons, y_imm_tup, y_tup_dInts, y_tup_rows, y_len_dInts, y_len_rowsD, y_len_rD, y_len_wD, y_len_nD, y_eqI, y_neI, y_eqR, y_neR, y_eqW, y_neW, y_eqB, y_neB, y_inR, y_notInR, y_fldW, y_fldD, y_p0, y_p1, y_listT, y_all, y_any, true_and, and_true, Bool.and_self, Bool.and_true, Bool.true_and, Bool.not_true, Bool.not_false, Bool.false_eq_true, if_false, if_true, ite_true, ite_false, decide_true, decide_false, reduceIte]
      cases hf : freeAt ws left x with
      | none =>
        simp only [optD, D.isN, y_mapI, y_mapR, y_immL_I, y_logs, y_immL_R, y_W, y_isA_int, y_isA_bl, y_isA_str, y_isA_non, y_isA_tup, y_isA_lst, y_isA_rD, y_isA_wD, y_isT_int, y_isT_bl, y_isT_str, y_isT_non, y_isT_tup, y_isT_lst, sb1, sb2, sb3, sb4, sb5, sb6, sb7, sb8, sb9, sb10, sb11, sb12, sb13, sb14, sb15, sb16, sb17, sb18, sb19, sb20, sb21, y_isN_int, y_isN_non, y_isN_rD, List.map_id, id_eq, BEq.rfl, bne_self_eq_false, y_imm_int, y_imm_bl, y_imm_non, y_imm_rD, y_imm_wD, y_immL_nil, y_immL_cons, y_imm_tup, y_tup_dInts, y_tup_rows, y_len_dInts, y_len_rowsD, y_len_rD, y_len_wD, y_len_nD, y_eqI, y_neI, y_eqR, y_neR, y_eqW, y_neW, y_eqB, y_neB, y_inR, y_notInR, y_fldW, y_fldD, y_p0, y_p1, y_listT, y_all, y_any, true_and, and_true, Bool.and_self, Bool.and_true, Bool.true_and, Bool.not_true, Bool.not_false, Bool.false_eq_true, if_false, if_true, ite_true, ite_false, decide_true, decide_false, reduceIte]
        refine ⟨_, _, rfl, fun y hy => ?_⟩
        rcases List.mem_append.mp hy with h | h
        · exact h5 y h
        · rw [List.mem_singleton.mp h]; exact hf
      | some k =>
        obtain ⟨g1, g2⟩ := free_at hf
        have hk := (List.getElem?_eq_some_iff.mp g1).1
        simp only [optD, D.isN, y_mapI, y_mapR, y_immL_I, y_logs, y_immL_R, y_W, y_isA_int, y_isA_bl, y_isA_str, y_isA_non, y_isA_tup, y_isA_lst, y_isA_rD, y_isA_wD, y_isT_int, y_isT_bl, y_isT_str, y_isT_non, y_isT_tup, y_isT_lst, sb1, sb2, sb3, sb4, sb5, sb6, sb7, sb8, sb9, sb10, sb11, sb12, sb13, sb14, sb15, sb16, sb17, sb18, sb19, sb20, sb21, y_isN_int, y_isN_non, y_isN_rD, List.map_id, id_eq, BEq.rfl, bne_self_eq_false, y_imm_int, y_imm_bl, y_imm_non, y_imm_rD, y_imm_wD, y_immL_nil, y_immL_cons, y_imm_tup, y_tup_dInts, y_tup_rows, y_len_dInts, y_len_rowsD, y_len_rD, y_len_wD, y_len_nD, y_eqI, y_neI, y_eqR, y_neR, y_eqW, y_neW, y_eqB, y_neB, y_inR, y_notInR, y_fldW, y_fldD, y_p0, y_p1, y_listT, y_all, y_any, true_and, and_true, Bool.and_self, Bool.and_true, Bool.true_and, Bool.not_true, Bool.not_false, Bool.false_eq_true, if_false, if_true, ite_true, ite_false, decide_true, decide_false, reduceIte]
        refine ⟨trivial, popQ_ints (by omega) g1 ⟨by omega, left.eraseIdx k, found ++ [x], _, _, _, by rw [dInts_snoc], ?_, ?_, ?_, fun rest h => ?_⟩⟩
        · rw [List.length_eraseIdx_of_lt hk]; simp; omega
        · simp; exact h2
        · exact fun y hy => h3 y (List.mem_of_mem_eraseIdx hy)
        · rw [List.append_assoc]
          refine h4 _ (.cons ⟨hf, fun y hy hlt => h5 y ?_⟩ h)
          have hy2 := (hm y).mpr hy
          rw [← e2] at hy2 pw
          rcases List.mem_append.mp hy2 with h | h
          · exact h
          · rcases List.mem_cons.mp h with h | h
            · omega
            · have := (List.pairwise_cons.mp (List.pairwise_append.mp pw).2.1).1 y h
              omega
    · rintro env ⟨e5, e6, rfl, h5⟩
      exfalso
      cases left with
      | nil => simp at h1; omega
      | cons y r =>
        have := h5 y ((hm y).mpr List.mem_cons_self)
        unfold freeAt at this
        rw [if_pos rfl] at this
        cases this
  · rintro env ⟨left, found, e4, e5, e6, rfl, h1, h2, h3, h4⟩
    rw [rangeI_len, Int.toNat_natCast] at h1
    have e : left = [] := List.eq_nil_of_length_eq_zero (by omega)
    subst e
    simp only [w_var0, w_varS, w_c, w_imm, w_nil, w_cons, w_dice, w_call, w_x1, w_x2, w_tup, w_lst, w_if, w_and, w_or, w_not, w_yes, w_test, w_boo, w_xand, w_xor, w_xnot, w_chain, w_seq, w_set, w_sifR, w_sifRS, w_sifN, w_sifB, w_sifC, w_ret, w_next, w_break, w_cont, w_never, w_drop, w_set0, w_setS, w_setn0, w_setnS, w_bname, w_mseq, w_seqL, w_seqT, w_mrng1, w_mrng2, w_for, w_lc, w_app, w_onL, w_put, w_aug, w_augS, w_lm, w_setE, w_retE, w_appE, w_pop, w_asgG, w_sl, w_lrg1, w_pno, w_pyes, w_intQ, w_btup, w_bcons, w_bnil, w_oI, w_oIc, w_addI, w_add1I, w_intI, w_intB, w_lenL, w_lenT, w_lenDT, w_lenDK, w_isN, w_notN, w_isB, w_oTupL, w_oTupT, y_mapI, y_mapR, y_immL_I, y_logs, y_immL_R, y_W, y_isA_int, y_isA_bl, y_isA_str, y_isA_non, y_isA_tup, y_isA_lst, y_isA_rD, y_isA_wD, y_isT_int, y_isT_bl, y_isT_str, y_isT_non, y_isT_tup, y_isT_lst, sb1, sb2, sb3, sb4, sb5, sb6, sb7, sb8, sb9, sb10, sb11, sb12, sb13, sb14, sb15, sb16, sb17, sb18, sb19, sb20, sb21, y_isN_int, y_isN_non, y_isN_rD, List.map_id, id_eq, BEq.rfl, bne_self_eq_false, y_imm_int, y_imm_bl, y_imm_non, y_imm_rD, y_imm_wD, y_immL_nil, y_immL_cons, y_imm_tup, y_tup_dInts, y_tup_rows, y_len_dInts, y_len_rowsD, y_len_rD, y_len_wD, y_len_nD, y_eqI, y_neI, y_eqR, y_neR, y_eqW, y_neW, y_eqB, y_neB, y_inR, y_notInR, y_fldW, y_fldD, y_p0, y_p1, y_listT, y_all, y_any, true_and, and_true, Bool.and_self, Bool.and_true, Bool.true_and, Bool.not_true, Bool.not_false, Bool.false_eq_true, if_false, if_true, ite_true, ite_false, decide_true, decide_false, reduceIte]
    have := h4 [] .nil
    rw [List.append_nil] at this
    exact q _ ⟨found, rfl, this⟩
end
section
variable {n : Int} {r s a b row left : List Int} {ws : List (List Int)} {x z : Int}
theorem free_cut : ∀ {left : List Int} {x : Int} {k : Nat}, freeAt ws left x = some k → ∃ P R, left = P ++ x :: R ∧ P.length = k ∧ left.eraseIdx k = P ++ R ∧ ∀ y ∈ P, apF ws y x
  | [], _, _, h => nomatch h
  | y :: r, x, k, h => by
    unfold freeAt at h
    split at h
    · rename_i e
      cases h
      exact ⟨[], r, by rw [e] <;> rfl, rfl, rfl, fun _ h => nomatch h⟩
    · split at h
      · cases h
      · rename_i h2
        cases e : freeAt ws r x with
        | none => rw [e] at h; cases h
        | some m =>
          rw [e] at h
          cases h
          obtain ⟨P, R, g1, g2, g3, g4⟩ := free_cut e
          refine ⟨y :: P, R, by rw [g1] <;> rfl, by simp [g2], by simpa using g3, fun z hz => ?_⟩
          rcases List.mem_cons.mp hz with q | q
          · rw [q]; show meetsF ws y x = false; simpa using h2
          · exact g4 z q
theorem lst_rch (h : Lst ws row a) : Rch (apF ws) row a := by
  induction h with
  | nil => exact .refl _
  | @cons left rest x k p _ ih =>
    obtain ⟨P, R, e1, e2, e3, e4⟩ := free_cut p.1
    rw [e3] at ih
    rw [e1]
    exact (Rch.bubble P e4).trans (Rch.cons x ih)
theorem logF_none {P : List Int} {x d : Int} (hd : (W ws x).contains d = true) (h : ∀ y ∈ P, apF ws y x) : logF ws P d = [] := by
  unfold logF
  rw [List.filter_eq_nil_iff]
  intro y hy hc
  exact apF_no (h y hy) hc hd
theorem free_head {k : Nat} (h : freeAt ws r z = some k) {d : Int} (hd : (W ws z).contains d = true) : (logF ws r d).head? = some z := by
  obtain ⟨P, R, e1, _, _, e4⟩ := free_cut h
  rw [e1, logF_app, logF_none hd e4, List.nil_append, logF_cons, if_pos hd]
  rfl
theorem head_free : ∀ {r : List Int} {z : Int}, W ws z ≠ [] → (∀ d, (W ws z).contains d = true → (logF ws r d).head? = some z) → ∃ k, freeAt ws r z = some k
  | [], z, hz, h => by
    obtain ⟨d, hd⟩ := List.exists_mem_of_ne_nil _ hz
    have := h d (by simpa using hd)
    cases this
  | y :: r, z, hz, h => by
    unfold freeAt
    by_cases e : y = z
    · rw [if_pos e]; exact ⟨_, rfl⟩
    · rw [if_neg e]
      cases hm : meetsF ws y z with
      | true =>
        obtain ⟨d, hd1, hd2⟩ := List.any_eq_true.mp hm
        have hy : (W ws y).contains d = true := by simpa using hd1
        have := h d hd2
        rw [logF_cons, if_pos hy] at this
        exact absurd (Option.some.inj this) e
      | false =>
        obtain ⟨k, hk⟩ := head_free (r := r) hz fun d hd => by
          have := h d hd
          have hn : ¬ (W ws y).contains d = true := fun hy => apF_no (ws := ws) hm hy hd
          rwa [logF_cons, if_neg hn] at this
        rw [if_neg (by decide), hk]
        exact ⟨_, rfl⟩
def SameLogs (ws : List (List Int)) (r s : List Int) : Prop := ∀ d, logF ws r d = logF ws s d
def NoEmpty (ws : List (List Int)) (r : List Int) : Prop := ∀ x ∈ r, W ws x ≠ []
theorem same_nil (h : SameLogs ws [] s) (hs : NoEmpty ws s) : s = [] := by
  cases s with
  | nil => rfl
  | cons y s =>
    obtain ⟨d, hd⟩ := List.exists_mem_of_ne_nil _ (hs y List.mem_cons_self)
    have hc : (W ws y).contains d = true := by simpa using hd
    have := h d
    rw [logF_cons, if_pos hc] at this
    cases this
theorem same_mem (h : SameLogs ws r s) (hr : NoEmpty ws r) (hx : x ∈ r) : x ∈ s := by
  obtain ⟨d, hd⟩ := List.exists_mem_of_ne_nil _ (hr x hx)
  have hc : (W ws x).contains d = true := by simpa using hd
  have h1 : x ∈ logF ws r d := List.mem_filter.mpr ⟨hx, hc⟩
  rw [h d] at h1
  exact (List.mem_filter.mp h1).1
theorem lst_nil (h : Lst ws [] a) : a = [] := by
  cases h with
  | nil => rfl
  | cons p _ => cases p.1
theorem lst_same (h1 : Lst ws r a) : ∀ {s b : List Int}, Lst ws s b → SameLogs ws r s → NoEmpty ws r → NoEmpty ws s → a = b := by
  induction h1 with
  | nil =>
    intro s b h2 hs _ n2
    rw [same_nil hs n2] at h2
    exact (lst_nil h2).symm
  | @cons left rest x k p h1 ih =>
    intro s b h2 hs n1 n2
    have xl : x ∈ left := List.mem_of_getElem? (free_at p.1).1
    have xs := same_mem hs n1 xl
    cases h2 with
    | nil => cases xs
    | @cons _ rest2 y k2 p2 h2 =>
      have yl : y ∈ s := List.mem_of_getElem? (free_at p2.1).1
      have ys : y ∈ left := same_mem (fun d => (hs d).symm) n2 yl
      have e : x = y := by
        obtain ⟨k3, f3⟩ := head_free (r := s) (z := x) (n1 x xl) fun d hd => by rw [← hs d]; exact free_head p.1 hd
        obtain ⟨k4, f4⟩ := head_free (r := left) (z := y) (n2 y yl) fun d hd => by rw [hs d]; exact free_head p2.1 hd
        by_cases q : x < y
        · have := p2.2 x xs q; rw [f3] at this; cases this
        · by_cases q2 : y < x
          · have := p.2 y ys q2; rw [f4] at this; cases this
          · omega
      subst e
      congr 1
      obtain ⟨P, R, e1, _, e3, e4⟩ := free_cut p.1
      obtain ⟨P2, R2, g1, _, g3, g4⟩ := free_cut p2.1
      refine ih h2 (fun d => ?_) (fun z hz => n1 z (List.mem_of_mem_eraseIdx hz)) (fun z hz => n2 z (List.mem_of_mem_eraseIdx hz))
      have l1 := (Rch.bubble (R := R) P e4).logs d
      have l2 := (Rch.bubble (R := R2) P2 g4).logs d
      rw [← e1, ← e3, logF_cons] at l1
      rw [← g1, ← g3, logF_cons, ← hs d, ← l1] at l2
      split at l2
      · exact (List.cons.inj l2).2.symm
      · exact l2.symm
/-- alike exactly if the least rows are one -/
theorem lst_iff (h : WsOk n ws) (hr : InW ws r) (hs : InW ws s) (h1 : Lst ws r a) (h2 : Lst ws s b) : logsF n ws r = logsF n ws s ↔ a = b := by
  have ne : ∀ {t : List Int}, InW ws t → NoEmpty ws t := fun ht x hx e => by
    obtain ⟨d, _, hd⟩ := desks_of h ht x hx
    rw [e] at hd; cases hd
  constructor
  · intro e
    refine lst_same h1 h2 (fun d => ?_) (ne hr) (ne hs)
    by_cases hd : d ∈ rangeI n
    · exact logs_iff.mp e d hd
    · have out : ∀ t : List Int, logF ws t d = [] := fun t => by
        unfold logF
        rw [List.filter_eq_nil_iff]
        intro y _ hc
        exact hd (lot_in h y d hc)
      rw [out, out]
  · rintro rfl
    exact logs_iff.mpr fun d _ => ((lst_rch h1).logs d).symm.trans ((lst_rch h2).logs d)
end
end Pu

/-! file V09b -/
set_option Elab.async false
set_option linter.all false
set_option maxRecDepth 100000
set_option synthInstance.maxHeartbeats 0
set_option synthInstance.maxSize 100000
namespace Pu
open PySem PySem.Spec PyProof.Rows L2
section
variable {Q : D → Prop} {n i : Int} {r s row left : List Int} {ws us : List (List Int)}
theorem check_desk_ev (h0 : 0 ≤ i) (h1 : i < n) : FEv m_check_desk [oD n ws, .int i] .non := fun Q q => by
  unfold m_check_desk fnM b_check_desk
  simp only [env0, List.map_cons, List.map_nil, List.length_cons, List.length_nil, List.replicate_succ, List.replicate_zero, List.cons_append, List.nil_append, Nat.reduceSub, Nat.reduceAdd, Nat.zero_add, w_var0, w_varS, w_c, w_imm, w_nil, w_cons, w_dice, w_call, w_x1, w_x2, w_tup, w_lst, w_if, w_and, w_or, w_not, w_yes, w_test, w_boo, w_xand, w_xor, w_xnot, w_chain, w_seq, w_set, w_sifR, w_sifRS, w_sifN, w_sifB, w_sifC, w_ret, w_next, w_break, w_cont, w_never, w_drop, w_set0, w_setS, w_setn0, w_setnS, w_bname, w_mseq, w_seqL, w_seqT, w_mrng1, w_mrng2, w_for, w_lc, w_app, w_onL, w_put, w_aug, w_augS, w_lm, w_setE, w_retE, w_appE, w_pop, w_asgG, w_sl, w_lrg1, w_pno, w_pyes, w_intQ, w_btup, w_bcons, w_bnil, w_oI, w_oIc, w_addI, w_add1I, w_intI, w_intB, w_lenL, w_lenT, w_lenDT, w_lenDK, w_isN, w_notN, w_isB, w_oTupL, w_oTupT, y_mapI, y_mapR, y_immL_I, y_logs, y_immL_R, y_W, y_isA_int, y_isA_bl, y_isA_str, y_isA_non, y_isA_tup, y_isA_lst, y_isA_rD, y_isA_wD, y_isT_int, y_isT_bl, y_isT_str, y_isT_non, y_isT_tup, y_isT_lst, sb1, sb2, sb3, sb4, sb5, sb6, sb7, sb8, sb9, sb10, sb11, sb12, sb13, sb14, sb15, sb16, sb17, sb18, sb19, sb20, sb21, y_isN_int, y_isN_non, y_isN_rD, List.map_id, id_eq, BEq.rfl, bne_self_eq_false, y_imm_int, y_imm_bl, y_imm_non, y_imm_rD, y_imm_wD, y_immL_nil, y_immL_cons, y_imm_tup, y_tup_dInts, y_tup_rows, y_len_dInts, y_len_rowsD, y_len_rD, y_len_wD, y_len_nD, y_eqI, y_neI, y_eqR, y_neR, y_eqW, y_neW, y_eqB, y_neB, y_inR, y_notInR, y_fldW, y_fldD, y_p0, y_p1, y_listT, y_all, y_any, true_and, and_true, Bool.and_self, Bool.and_true, Bool.true_and, Bool.not_true, Bool.not_false, Bool.false_eq_true, if_false, if_true, ite_true, ite_false, decide_true, decide_false, reduceIte]
  refine is_below_ev h0 h1 _ ?_
  simp only [w_var0, w_varS, w_c, w_imm, w_nil, w_cons, w_dice, w_call, w_x1, w_x2, w_tup, w_lst, w_if, w_and, w_or, w_not, w_yes, w_test, w_boo, w_xand, w_xor, w_xnot, w_chain, w_seq, w_set, w_sifR, w_sifRS, w_sifN, w_sifB, w_sifC, w_ret, w_next, w_break, w_cont, w_never, w_drop, w_set0, w_setS, w_setn0, w_setnS, w_bname, w_mseq, w_seqL, w_seqT, w_mrng1, w_mrng2, w_for, w_lc, w_app, w_onL, w_put, w_aug, w_augS, w_lm, w_setE, w_retE, w_appE, w_pop, w_asgG, w_sl, w_lrg1, w_pno, w_pyes, w_intQ, w_btup, w_bcons, w_bnil, w_oI, w_oIc, w_addI, w_add1I, w_intI, w_intB, w_lenL, w_lenT, w_lenDT, w_lenDK, w_isN, w_notN, w_isB, w_oTupL, w_oTupT, y_mapI, y_mapR, y_immL_I, y_logs, y_immL_R, y_W, y_isA_int, y_isA_bl, y_isA_str, y_isA_non, y_isA_tup, y_isA_lst, y_isA_rD, y_isA_wD, y_isT_int, y_isT_bl, y_isT_str, y_isT_non, y_isT_tup, y_isT_lst, sb1, sb2, sb3, sb4, sb5, sb6, sb7, sb8, sb9, sb10, sb11, sb12, sb13, sb14, sb15, sb16, sb17, sb18, sb19, sb20, sb21, y_isN_int, y_isN_non, y_isN_rD, List.map_id, id_eq, BEq.rfl, bne_self_eq_false, y_imm_int, y_imm_bl, y_imm_non, y_imm_rD, y_imm_wD, y_immL_nil, y_immL_cons, y_imm_tup, y_tup_dInts, y_tup_rows, y_len_dInts, y_len_rowsD, y_len_rD, y_len_wD, y_len_nD, y_eqI, y_neI, y_eqR, y_neR, y_eqW, y_neW, y_eqB, y_neB, y_inR, y_notInR, y_fldW, y_fldD, y_p0, y_p1, y_listT, y_all, y_any, true_and, and_true, Bool.and_self, Bool.and_true, Bool.true_and, Bool.not_true, Bool.not_false, Bool.false_eq_true, if_false, if_true, ite_true, ite_false, decide_true, decide_false, reduceIte]
  exact q
theorem range_get (h0 : 0 ≤ i) (h1 : i < n) : (rangeI n)[i.toNat]? = some i := by
  unfold rangeI
  rw [List.getElem?_map, List.getElem?_range (by omega)]
  simp; omega
theorem log_ev (h : WsOk n ws) (hr : RowOk ws r) (h0 : 0 ≤ i) (h1 : i < n) : FEv m_log [oD n ws, rD r, .int i] (rD (logF ws r i)) := fun Q q => by
  have h100 : 100 ≤ sizeLine := by decide
  unfold m_log fnM b_log
  simp only [env0, List.map_cons, List.map_nil, List.length_cons, List.length_nil, List.replicate_succ, List.replicate_zero, List.cons_append, List.nil_append, Nat.reduceSub, Nat.reduceAdd, Nat.zero_add, w_var0, w_varS, w_c, w_imm, w_nil, w_cons, w_dice, w_call, w_x1, w_x2, w_tup, w_lst, w_if, w_and, w_or, w_not, w_yes, w_test, w_boo, w_xand, w_xor, w_xnot, w_chain, w_seq, w_set, w_sifR, w_sifRS, w_sifN, w_sifB, w_sifC, w_ret, w_next, w_break, w_cont, w_never, w_drop, w_set0, w_setS, w_setn0, w_setnS, w_bname, w_mseq, w_seqL, w_seqT, w_mrng1, w_mrng2, w_for, w_lc, w_app, w_onL, w_put, w_aug, w_augS, w_lm, w_setE, w_retE, w_appE, w_pop, w_asgG, w_sl, w_lrg1, w_pno, w_pyes, w_intQ, w_btup, w_bcons, w_bnil, w_oI, w_oIc, w_addI, w_add1I, w_intI, w_intB, w_lenL, w_lenT, w_lenDT, w_lenDK, w_isN, w_notN, w_isB, w_oTupL, w_oTupT, y_mapI, y_mapR, y_immL_I, y_logs, y_immL_R, y_W, y_isA_int, y_isA_bl, y_isA_str, y_isA_non, y_isA_tup, y_isA_lst, y_isA_rD, y_isA_wD, y_isT_int, y_isT_bl, y_isT_str, y_isT_non, y_isT_tup, y_isT_lst, sb1, sb2, sb3, sb4, sb5, sb6, sb7, sb8, sb9, sb10, sb11, sb12, sb13, sb14, sb15, sb16, sb17, sb18, sb19, sb20, sb21, y_isN_int, y_isN_non, y_isN_rD, List.map_id, id_eq, BEq.rfl, bne_self_eq_false, y_imm_int, y_imm_bl, y_imm_non, y_imm_rD, y_imm_wD, y_immL_nil, y_immL_cons, y_imm_tup, y_tup_dInts, y_tup_rows, y_len_dInts, y_len_rowsD, y_len_rD, y_len_wD, y_len_nD, y_eqI, y_neI, y_eqR, y_neR, y_eqW, y_neW, y_eqB, y_neB, y_inR, y_notInR, y_fldW, y_fldD, y_p0, y_p1, y_listT, y_all, y_any, true_and, and_true, Bool.and_self, Bool.and_true, Bool.true_and, Bool.not_true, Bool.not_false, Bool.false_eq_true, if_false, if_true, ite_true, ite_false, decide_true, decide_false, reduceIte]
  refine check_row_ev (by have := hr.1; omega) hr.2 _ (check_desk_ev h0 h1 _ (all_logs_ev h hr.1 hr.2 _ ?_))
  refine y_ixW h0 (by simp [rangeI_len]; omega) ?_
  rw [List.getD_eq_getElem?_getD, List.getElem?_map, range_get h0 h1]
  exact q
theorem lawlogs_ev (h : WsOk n ws) (hr : RowOk ws r) : FEv m__law_logs [pD n ws, rD r] (wD (logsF n ws r)) := fun Q q => by
  have hs : 100 ≤ sizeLine := by decide
  obtain ⟨h1, h2, h3, h4, h5⟩ := h
  unfold m__law_logs fnM b__law_logs
  simp only [env0, List.map_cons, List.map_nil, List.length_cons, List.length_nil, List.replicate_succ, List.replicate_zero, List.cons_append, List.nil_append, Nat.reduceSub, Nat.reduceAdd, Nat.zero_add, w_var0, w_varS, w_c, w_imm, w_nil, w_cons, w_dice, w_call, w_x1, w_x2, w_tup, w_lst, w_if, w_and, w_or, w_not, w_yes, w_test, w_boo, w_xand, w_xor, w_xnot, w_chain, w_seq, w_set, w_sifR, w_sifRS, w_sifN, w_sifB, w_sifC, w_ret, w_next, w_break, w_cont, w_never, w_drop, w_set0, w_setS, w_setn0, w_setnS, w_bname, w_mseq, w_seqL, w_seqT, w_mrng1, w_mrng2, w_for, w_lc, w_app, w_onL, w_put, w_aug, w_augS, w_lm, w_setE, w_retE, w_appE, w_pop, w_asgG, w_sl, w_lrg1, w_pno, w_pyes, w_intQ, w_btup, w_bcons, w_bnil, w_oI, w_oIc, w_addI, w_add1I, w_intI, w_intB, w_lenL, w_lenT, w_lenDT, w_lenDK, w_isN, w_notN, w_isB, w_oTupL, w_oTupT, y_mapI, y_mapR, y_immL_I, y_logs, y_immL_R, y_W, y_isA_int, y_isA_bl, y_isA_str, y_isA_non, y_isA_tup, y_isA_lst, y_isA_rD, y_isA_wD, y_isT_int, y_isT_bl, y_isT_str, y_isT_non, y_isT_tup, y_isT_lst, sb1, sb2, sb3, sb4, sb5, sb6, sb7, sb8, sb9, sb10, sb11, sb12, sb13, sb14, sb15, sb16, sb17, sb18, sb19, sb20, sb21, y_isN_int, y_isN_non, y_isN_rD, List.map_id, id_eq, BEq.rfl, bne_self_eq_false, y_imm_int, y_imm_bl, y_imm_non, y_imm_rD, y_imm_wD, y_immL_nil, y_immL_cons, y_imm_tup, y_tup_dInts, y_tup_rows, y_len_dInts, y_len_rowsD, y_len_rD, y_len_wD, y_len_nD, y_eqI, y_neI, y_eqR, y_neR, y_eqW, y_neW, y_eqB, y_neB, y_inR, y_notInR, y_fldW, y_fldD, y_p0, y_p1, y_listT, y_all, y_any, true_and, and_true, Bool.and_self, Bool.and_true, Bool.true_and, Bool.not_true, Bool.not_false, Bool.false_eq_true, if_false, if_true, ite_true, ite_false, decide_true, decide_false, reduceIte]
  refine y_rng (by omega) (by omega) ?_
  refine lc_M (fun d => logF ws r d) rD (by rw [rangeI_len]; omega) (fun d hd R hR => ?_) ?_
  · simp only [w_var0, w_varS, w_c, w_imm, w_nil, w_cons, w_dice, w_call, w_x1, w_x2, w_tup, w_lst, w_if, w_and, w_or, w_not, w_yes, w_test, w_boo, w_xand, w_xor, w_xnot, w_chain, w_seq, w_set, w_sifR, w_sifRS, w_sifN, w_sifB, w_sifC, w_ret, w_next, w_break, w_cont, w_never, w_drop, w_set0, w_setS, w_setn0, w_setnS, w_bname, w_mseq, w_seqL, w_seqT, w_mrng1, w_mrng2, w_for, w_lc, w_app, w_onL, w_put, w_aug, w_augS, w_lm, w_setE, w_retE, w_appE, w_pop, w_asgG, w_sl, w_lrg1, w_pno, w_pyes, w_intQ, w_btup, w_bcons, w_bnil, w_oI, w_oIc, w_addI, w_add1I, w_intI, w_intB, w_lenL, w_lenT, w_lenDT, w_lenDK, w_isN, w_notN, w_isB, w_oTupL, w_oTupT, y_mapI, y_mapR, y_immL_I, y_logs, y_immL_R, y_W, y_isA_int, y_isA_bl, y_isA_str, y_isA_non, y_isA_tup, y_isA_lst, y_isA_rD, y_isA_wD, y_isT_int, y_isT_bl, y_isT_str, y_isT_non, y_isT_tup, y_isT_lst, sb1, sb2, sb3, sb4, sb5, sb6, sb7, sb8, sb9, sb10, sb11, sb12, sb13, sb14, sb15, sb16, sb17, sb18, sb19, sb20, sb21, y_isN_int, y_isN_non, y_isN_rD, List.map_id, id_eq, BEq.rfl, bne_self_eq_false, y_imm_int, y_imm_bl, y_imm_non, y_imm_rD, y_imm_wD, y_immL_nil, y_immL_cons, y_imm_tup, y_tup_dInts, y_tup_rows, y_len_dInts, y_len_rowsD, y_len_rD, y_len_wD, y_len_nD, y_eqI, y_neI, y_eqR, y_neR, y_eqW, y_neW, y_eqB, y_neB, y_inR, y_notInR, y_fldW, y_fldD, y_p0, y_p1, y_listT, y_all, y_any, true_and, and_true, Bool.and_self, Bool.and_true, Bool.true_and, Bool.not_true, Bool.not_false, Bool.false_eq_true, if_false, if_true, ite_true, ite_false, decide_true, decide_false, reduceIte]
    refine lc_FT (fun x => (W ws x).contains d) id D.int (by have := hr.1; omega) (fun x hx R N k1 k2 => ?_) ?_
    · simp only [w_var0, w_varS, w_c, w_imm, w_nil, w_cons, w_dice, w_call, w_x1, w_x2, w_tup, w_lst, w_if, w_and, w_or, w_not, w_yes, w_test, w_boo, w_xand, w_xor, w_xnot, w_chain, w_seq, w_set, w_sifR, w_sifRS, w_sifN, w_sifB, w_sifC, w_ret, w_next, w_break, w_cont, w_never, w_drop, w_set0, w_setS, w_setn0, w_setnS, w_bname, w_mseq, w_seqL, w_seqT, w_mrng1, w_mrng2, w_for, w_lc, w_app, w_onL, w_put, w_aug, w_augS, w_lm, w_setE, w_retE, w_appE, w_pop, w_asgG, w_sl, w_lrg1, w_pno, w_pyes, w_intQ, w_btup, w_bcons, w_bnil, w_oI, w_oIc, w_addI, w_add1I, w_intI, w_intB, w_lenL, w_lenT, w_lenDT, w_lenDK, w_isN, w_notN, w_isB, w_oTupL, w_oTupT, y_mapI, y_mapR, y_immL_I, y_logs, y_immL_R, y_W, y_isA_int, y_isA_bl, y_isA_str, y_isA_non, y_isA_tup, y_isA_lst, y_isA_rD, y_isA_wD, y_isT_int, y_isT_bl, y_isT_str, y_isT_non, y_isT_tup, y_isT_lst, sb1, sb2, sb3, sb4, sb5, sb6, sb7, sb8, sb9, sb10, sb11, sb12, sb13, sb14, sb15, sb16, sb17, sb18, sb19, sb20, sb21, y_isN_int, y_isN_non, y_isN_rD, List.map_id, id_eq, BEq.rfl, bne_self_eq_false, y_imm_int, y_imm_bl, y_imm_non, y_imm_rD, y_imm_wD, y_immL_nil, y_immL_cons, y_imm_tup, y_tup_dInts, y_tup_rows, y_len_dInts, y_len_rowsD, y_len_rD, y_len_wD, y_len_nD, y_eqI, y_neI, y_eqR, y_neR, y_eqW, y_neW, y_eqB, y_neB, y_inR, y_notInR, y_fldW, y_fldD, y_p0, y_p1, y_listT, y_all, y_any, true_and, and_true, Bool.and_self, Bool.and_true, Bool.true_and, Bool.not_true, Bool.not_false, Bool.false_eq_true, if_false, if_true, ite_true, ite_false, decide_true, decide_false, reduceIte]
      refine y_ixW (hr.2 x hx).1 (hr.2 x hx).2 ?_
      simp only [w_var0, w_varS, w_c, w_imm, w_nil, w_cons, w_dice, w_call, w_x1, w_x2, w_tup, w_lst, w_if, w_and, w_or, w_not, w_yes, w_test, w_boo, w_xand, w_xor, w_xnot, w_chain, w_seq, w_set, w_sifR, w_sifRS, w_sifN, w_sifB, w_sifC, w_ret, w_next, w_break, w_cont, w_never, w_drop, w_set0, w_setS, w_setn0, w_setnS, w_bname, w_mseq, w_seqL, w_seqT, w_mrng1, w_mrng2, w_for, w_lc, w_app, w_onL, w_put, w_aug, w_augS, w_lm, w_setE, w_retE, w_appE, w_pop, w_asgG, w_sl, w_lrg1, w_pno, w_pyes, w_intQ, w_btup, w_bcons, w_bnil, w_oI, w_oIc, w_addI, w_add1I, w_intI, w_intB, w_lenL, w_lenT, w_lenDT, w_lenDK, w_isN, w_notN, w_isB, w_oTupL, w_oTupT, y_mapI, y_mapR, y_immL_I, y_logs, y_immL_R, y_W, y_isA_int, y_isA_bl, y_isA_str, y_isA_non, y_isA_tup, y_isA_lst, y_isA_rD, y_isA_wD, y_isT_int, y_isT_bl, y_isT_str, y_isT_non, y_isT_tup, y_isT_lst, sb1, sb2, sb3, sb4, sb5, sb6, sb7, sb8, sb9, sb10, sb11, sb12, sb13, sb14, sb15, sb16, sb17, sb18, sb19, sb20, sb21, y_isN_int, y_isN_non, y_isN_rD, List.map_id, id_eq, BEq.rfl, bne_self_eq_false, y_imm_int, y_imm_bl, y_imm_non, y_imm_rD, y_imm_wD, y_immL_nil, y_immL_cons, y_imm_tup, y_tup_dInts, y_tup_rows, y_len_dInts, y_len_rowsD, y_len_rD, y_len_wD, y_len_nD, y_eqI, y_neI, y_eqR, y_neR, y_eqW, y_neW, y_eqB, y_neB, y_inR, y_notInR, y_fldW, y_fldD, y_p0, y_p1, y_listT, y_all, y_any, true_and, and_true, Bool.and_self, Bool.and_true, Bool.true_and, Bool.not_true, Bool.not_false, Bool.false_eq_true, if_false, if_true, ite_true, ite_false, decide_true, decide_false, reduceIte]
      split
      · rename_i hh; exact k1 hh
      · rename_i hh; exact k2 (by simpa using hh)
    · simp only [w_var0, w_varS, w_c, w_imm, w_nil, w_cons, w_dice, w_call, w_x1, w_x2, w_tup, w_lst, w_if, w_and, w_or, w_not, w_yes, w_test, w_boo, w_xand, w_xor, w_xnot, w_chain, w_seq, w_set, w_sifR, w_sifRS, w_sifN, w_sifB, w_sifC, w_ret, w_next, w_break, w_cont, w_never, w_drop, w_set0, w_setS, w_setn0, w_setnS, w_bname, w_mseq, w_seqL, w_seqT, w_mrng1, w_mrng2, w_for, w_lc, w_app, w_onL, w_put, w_aug, w_augS, w_lm, w_setE, w_retE, w_appE, w_pop, w_asgG, w_sl, w_lrg1, w_pno, w_pyes, w_intQ, w_btup, w_bcons, w_bnil, w_oI, w_oIc, w_addI, w_add1I, w_intI, w_intB, w_lenL, w_lenT, w_lenDT, w_lenDK, w_isN, w_notN, w_isB, w_oTupL, w_oTupT, y_mapI, y_mapR, y_immL_I, y_logs, y_immL_R, y_W, y_isA_int, y_isA_bl, y_isA_str, y_isA_non, y_isA_tup, y_isA_lst, y_isA_rD, y_isA_wD, y_isT_int, y_isT_bl, y_isT_str, y_isT_non, y_isT_tup, y_isT_lst, sb1, sb2, sb3, sb4, sb5, sb6, sb7, sb8, sb9, sb10, sb11, sb12, sb13, sb14, sb15, sb16, sb17, sb18, sb19, sb20, sb21, y_isN_int, y_isN_non, y_isN_rD, List.map_id, id_eq, BEq.rfl, bne_self_eq_false, y_imm_int, y_imm_bl, y_imm_non, y_imm_rD, y_imm_wD, y_immL_nil, y_immL_cons, y_imm_tup, y_tup_dInts, y_tup_rows, y_len_dInts, y_len_rowsD, y_len_rD, y_len_wD, y_len_nD, y_eqI, y_neI, y_eqR, y_neR, y_eqW, y_neW, y_eqB, y_neB, y_inR, y_notInR, y_fldW, y_fldD, y_p0, y_p1, y_listT, y_all, y_any, true_and, and_true, Bool.and_self, Bool.and_true, Bool.true_and, Bool.not_true, Bool.not_false, Bool.false_eq_true, if_false, if_true, ite_true, ite_false, decide_true, decide_false, reduceIte]
      exact hR
  · simp only [w_var0, w_varS, w_c, w_imm, w_nil, w_cons, w_dice, w_call, w_x1, w_x2, w_tup, w_lst, w_if, w_and, w_or, w_not, w_yes, w_test, w_boo, w_xand, w_xor, w_xnot, w_chain, w_seq, w_set, w_sifR, w_sifRS, w_sifN, w_sifB, w_sifC, w_ret, w_next, w_break, w_cont, w_never, w_drop, w_set0, w_setS, w_setn0, w_setnS, w_bname, w_mseq, w_seqL, w_seqT, w_mrng1, w_mrng2, w_for, w_lc, w_app, w_onL, w_put, w_aug, w_augS, w_lm, w_setE, w_retE, w_appE, w_pop, w_asgG, w_sl, w_lrg1, w_pno, w_pyes, w_intQ, w_btup, w_bcons, w_bnil, w_oI, w_oIc, w_addI, w_add1I, w_intI, w_intB, w_lenL, w_lenT, w_lenDT, w_lenDK, w_isN, w_notN, w_isB, w_oTupL, w_oTupT, y_mapI, y_mapR, y_immL_I, y_logs, y_immL_R, y_W, y_isA_int, y_isA_bl, y_isA_str, y_isA_non, y_isA_tup, y_isA_lst, y_isA_rD, y_isA_wD, y_isT_int, y_isT_bl, y_isT_str, y_isT_non, y_isT_tup, y_isT_lst, sb1, sb2, sb3, sb4, sb5, sb6, sb7, sb8, sb9, sb10, sb11, sb12, sb13, sb14, sb15, sb16, sb17, sb18, sb19, sb20, sb21, y_isN_int, y_isN_non, y_isN_rD, List.map_id, id_eq, BEq.rfl, bne_self_eq_false, y_imm_int, y_imm_bl, y_imm_non, y_imm_rD, y_imm_wD, y_immL_nil, y_immL_cons, y_imm_tup, y_tup_dInts, y_tup_rows, y_len_dInts, y_len_rowsD, y_len_rD, y_len_wD, y_len_nD, y_eqI, y_neI, y_eqR, y_neR, y_eqW, y_neW, y_eqB, y_neB, y_inR, y_notInR, y_fldW, y_fldD, y_p0, y_p1, y_listT, y_all, y_any, true_and, and_true, Bool.and_self, Bool.and_true, Bool.true_and, Bool.not_true, Bool.not_false, Bool.false_eq_true, if_false, if_true, ite_true, ite_false, decide_true, decide_false, reduceIte]
    exact q
/-! what is told as it is due -/
inductive Pl : Nat → D → Prop
  | int {k : Nat} (a : Int) : Pl k (.int a)
  | bl {k : Nat} (b : Bool) : Pl k (.bl b)
  | non {k : Nat} : Pl k .non
  | tup {k : Nat} {ds : List D} (h : ∀ d ∈ ds, Pl k d) (l : ds.length ≤ 1000000) : Pl (k + 1) (.tup ds)
  | lst {k : Nat} {ds : List D} (h : ∀ d ∈ ds, Pl k d) (l : ds.length ≤ 1000000) : Pl (k + 1) (.lst ds)
theorem pl_rD (l : r.length ≤ 1000000) : Pl 1 (rD r) := .tup (fun d hd => by obtain ⟨x, _, rfl⟩ := mem_dInts hd; exact .int x) (by rw [dInts_len]; exact l)
theorem pl_wD (l : ws.length ≤ 1000000) (h : ∀ r ∈ ws, r.length ≤ 1000000) : Pl 2 (wD ws) := .tup (fun d hd => by obtain ⟨x, hx, rfl⟩ := mem_rowsD hd; exact pl_rD (h x hx)) (by rw [rowsD_len]; exact l)
theorem whole_refl {a : Int} : FEv m__law_whole [.int a, .int a] (.bl true) := fun Q q => by
  unfold m__law_whole fnM b__law_whole
  simp only [env0, List.map_cons, List.map_nil, List.length_cons, List.length_nil, List.replicate_succ, List.replicate_zero, List.cons_append, List.nil_append, Nat.reduceSub, Nat.reduceAdd, Nat.zero_add, w_var0, w_varS, w_c, w_imm, w_nil, w_cons, w_dice, w_call, w_x1, w_x2, w_tup, w_lst, w_if, w_and, w_or, w_not, w_yes, w_test, w_boo, w_xand, w_xor, w_xnot, w_chain, w_seq, w_set, w_sifR, w_sifRS, w_sifN, w_sifB, w_sifC, w_ret, w_next, w_break, w_cont, w_never, w_drop, w_set0, w_setS, w_setn0, w_setnS, w_bname, w_mseq, w_seqL, w_seqT, w_mrng1, w_mrng2, w_for, w_lc, w_app, w_onL, w_put, w_aug, w_augS, w_lm, w_setE, w_retE, w_appE, w_pop, w_asgG, w_sl, w_lrg1, w_pno, w_pyes, w_intQ, w_btup, w_bcons, w_bnil, w_oI, w_oIc, w_addI, w_add1I, w_intI, w_intB, w_lenL, w_lenT, w_lenDT, w_lenDK, w_isN, w_notN, w_isB, w_oTupL, w_oTupT, y_mapI, y_mapR, y_immL_I, y_logs, y_immL_R, y_W, y_isA_int, y_isA_bl, y_isA_str, y_isA_non, y_isA_tup, y_isA_lst, y_isA_rD, y_isA_wD, y_isT_int, y_isT_bl, y_isT_str, y_isT_non, y_isT_tup, y_isT_lst, sb1, sb2, sb3, sb4, sb5, sb6, sb7, sb8, sb9, sb10, sb11, sb12, sb13, sb14, sb15, sb16, sb17, sb18, sb19, sb20, sb21, y_isN_int, y_isN_non, y_isN_rD, List.map_id, id_eq, BEq.rfl, bne_self_eq_false, y_imm_int, y_imm_bl, y_imm_non, y_imm_rD, y_imm_wD, y_immL_nil, y_immL_cons, y_imm_tup, y_tup_dInts, y_tup_rows, y_len_dInts, y_len_rowsD, y_len_rD, y_len_wD, y_len_nD, y_eqI, y_neI, y_eqR, y_neR, y_eqW, y_neW, y_eqB, y_neB, y_inR, y_notInR, y_fldW, y_fldD, y_p0, y_p1, y_listT, y_all, y_any, true_and, and_true, Bool.and_self, Bool.and_true, Bool.true_and, Bool.not_true, Bool.not_false, Bool.false_eq_true, if_false, if_true, ite_true, ite_false, decide_true, decide_false, reduceIte]
  exact q
theorem whole_non : FEv m__law_whole [.non, .non] (.bl true) := fun Q q => by
  unfold m__law_whole fnM b__law_whole
  simp only [env0, List.map_cons, List.map_nil, List.length_cons, List.length_nil, List.replicate_succ, List.replicate_zero, List.cons_append, List.nil_append, Nat.reduceSub, Nat.reduceAdd, Nat.zero_add, w_var0, w_varS, w_c, w_imm, w_nil, w_cons, w_dice, w_call, w_x1, w_x2, w_tup, w_lst, w_if, w_and, w_or, w_not, w_yes, w_test, w_boo, w_xand, w_xor, w_xnot, w_chain, w_seq, w_set, w_sifR, w_sifRS, w_sifN, w_sifB, w_sifC, w_ret, w_next, w_break, w_cont, w_never, w_drop, w_set0, w_setS, w_setn0, w_setnS, w_bname, w_mseq, w_seqL, w_seqT, w_mrng1, w_mrng2, w_for, w_lc, w_app, w_onL, w_put, w_aug, w_augS, w_lm, w_setE, w_retE, w_appE, w_pop, w_asgG, w_sl, w_lrg1, w_pno, w_pyes, w_intQ, w_btup, w_bcons, w_bnil, w_oI, w_oIc, w_addI, w_add1I, w_intI, w_intB, w_lenL, w_lenT, w_lenDT, w_lenDK, w_isN, w_notN, w_isB, w_oTupL, w_oTupT, y_mapI, y_mapR, y_immL_I, y_logs, y_immL_R, y_W, y_isA_int, y_isA_bl, y_isA_str, y_isA_non, y_isA_tup, y_isA_lst, y_isA_rD, y_isA_wD, y_isT_int, y_isT_bl, y_isT_str, y_isT_non, y_isT_tup, y_isT_lst, sb1, sb2, sb3, sb4, sb5, sb6, sb7, sb8, sb9, sb10, sb11, sb12, sb13, sb14, sb15, sb16, sb17, sb18, sb19, sb20, sb21, y_isN_int, y_isN_non, y_isN_rD, List.map_id, id_eq, BEq.rfl, bne_self_eq_false, y_imm_int, y_imm_bl, y_imm_non, y_imm_rD, y_imm_wD, y_immL_nil, y_immL_cons, y_imm_tup, y_tup_dInts, y_tup_rows, y_len_dInts, y_len_rowsD, y_len_rD, y_len_wD, y_len_nD, y_eqI, y_neI, y_eqR, y_neR, y_eqW, y_neW, y_eqB, y_neB, y_inR, y_notInR, y_fldW, y_fldD, y_p0, y_p1, y_listT, y_all, y_any, true_and, and_true, Bool.and_self, Bool.and_true, Bool.true_and, Bool.not_true, Bool.not_false, Bool.false_eq_true, if_false, if_true, ite_true, ite_false, decide_true, decide_false, reduceIte]
  exact q
theorem items_refl {me : X1} {env : PEnv} {ds : List D} (l : ds.length ≤ 1000000) (h : ∀ (i : Nat) (d : D), ds[i]? = some d → ∀ R : D → Prop, R (.bl true) → me (env.set 2 (some (.int (i : Int)))) R) (q : Q (.bl true)) :
    rngQ (.int (ds.length : Nat)) fun xs => lcLoop (bName 2) bYes me env xs [] fun acc => oAny true (.lst acc) Q := by
  have hs : 1000000 ≤ sizeLine := by decide
  refine y_rngN l (lc_M (fun _ => true) D.bl (by rw [rangeI_len]; omega) (fun x hx R hR => ?_) ?_)
  · have hx := mem_rangeI.mp hx
    have hj : x.toNat < ds.length := by omega
    have := h x.toNat ds[x.toNat] (List.getElem?_eq_getElem hj) R hR
    rw [Int.toNat_of_nonneg hx.1] at this
    exact this
  · rw [y_all]
    rw [show ((rangeI (ds.length : Nat)).map fun _ => true).all id = true by rw [List.all_eq_true]; intro b hb; obtain ⟨_, _, rfl⟩ := List.mem_map.mp hb; rfl]
    exact q
theorem same_refl {k : Nat} {d : D} (h : Pl k d) : FEv (m__law_same_n (k + 1)) [d, d] (.bl true) := by
  induction h with
  | int a =>
    intro Q q
    unfold m__law_same_n fnM b__law_same
    simp only [env0, List.map_cons, List.map_nil, List.length_cons, List.length_nil, List.replicate_succ, List.replicate_zero, List.cons_append, List.nil_append, Nat.reduceSub, Nat.reduceAdd, Nat.zero_add, w_var0, w_varS, w_c, w_imm, w_nil, w_cons, w_dice, w_call, w_x1, w_x2, w_tup, w_lst, w_if, w_and, w_or, w_not, w_yes, w_test, w_boo, w_xand, w_xor, w_xnot, w_chain, w_seq, w_set, w_sifR, w_sifRS, w_sifN, w_sifB, w_sifC, w_ret, w_next, w_break, w_cont, w_never, w_drop, w_set0, w_setS, w_setn0, w_setnS, w_bname, w_mseq, w_seqL, w_seqT, w_mrng1, w_mrng2, w_for, w_lc, w_app, w_onL, w_put, w_aug, w_augS, w_lm, w_setE, w_retE, w_appE, w_pop, w_asgG, w_sl, w_lrg1, w_pno, w_pyes, w_intQ, w_btup, w_bcons, w_bnil, w_oI, w_oIc, w_addI, w_add1I, w_intI, w_intB, w_lenL, w_lenT, w_lenDT, w_lenDK, w_isN, w_notN, w_isB, w_oTupL, w_oTupT, y_mapI, y_mapR, y_immL_I, y_logs, y_immL_R, y_W, y_isA_int, y_isA_bl, y_isA_str, y_isA_non, y_isA_tup, y_isA_lst, y_isA_rD, y_isA_wD, y_isT_int, y_isT_bl, y_isT_str, y_isT_non, y_isT_tup, y_isT_lst, sb1, sb2, sb3, sb4, sb5, sb6, sb7, sb8, sb9, sb10, sb11, sb12, sb13, sb14, sb15, sb16, sb17, sb18, sb19, sb20, sb21, y_isN_int, y_isN_non, y_isN_rD, List.map_id, id_eq, BEq.rfl, bne_self_eq_false, y_imm_int, y_imm_bl, y_imm_non, y_imm_rD, y_imm_wD, y_immL_nil, y_immL_cons, y_imm_tup, y_tup_dInts, y_tup_rows, y_len_dInts, y_len_rowsD, y_len_rD, y_len_wD, y_len_nD, y_eqI, y_neI, y_eqR, y_neR, y_eqW, y_neW, y_eqB, y_neB, y_inR, y_notInR, y_fldW, y_fldD, y_p0, y_p1, y_listT, y_all, y_any, true_and, and_true, Bool.and_self, Bool.and_true, Bool.true_and, Bool.not_true, Bool.not_false, Bool.false_eq_true, if_false, if_true, ite_true, ite_false, decide_true, decide_false, reduceIte]
    (rw [w_sif]; simp only [w_var0, w_varS, w_c, w_imm, w_nil, w_cons, w_dice, w_call, w_x1, w_x2, w_tup, w_lst, w_if, w_and, w_or, w_not, w_yes, w_test, w_boo, w_xand, w_xor, w_xnot, w_chain, w_seq, w_set, w_sifR, w_sifRS, w_sifN, w_sifB, w_sifC, w_ret, w_next, w_break, w_cont, w_never, w_drop, w_set0, w_setS, w_setn0, w_setnS, w_bname, w_mseq, w_seqL, w_seqT, w_mrng1, w_mrng2, w_for, w_lc, w_app, w_onL, w_put, w_aug, w_augS, w_lm, w_setE, w_retE, w_appE, w_pop, w_asgG, w_sl, w_lrg1, w_pno, w_pyes, w_intQ, w_btup, w_bcons, w_bnil, w_oI, w_oIc, w_addI, w_add1I, w_intI, w_intB, w_lenL, w_lenT, w_lenDT, w_lenDK, w_isN, w_notN, w_isB, w_oTupL, w_oTupT, y_mapI, y_mapR, y_immL_I, y_logs, y_immL_R, y_W, y_isA_int, y_isA_bl, y_isA_str, y_isA_non, y_isA_tup, y_isA_lst, y_isA_rD, y_isA_wD, y_isT_int, y_isT_bl, y_isT_str, y_isT_non, y_isT_tup, y_isT_lst, sb1, sb2, sb3, sb4, sb5, sb6, sb7, sb8, sb9, sb10, sb11, sb12, sb13, sb14, sb15, sb16, sb17, sb18, sb19, sb20, sb21, y_isN_int, y_isN_non, y_isN_rD, List.map_id, id_eq, BEq.rfl, bne_self_eq_false, y_imm_int, y_imm_bl, y_imm_non, y_imm_rD, y_imm_wD, y_immL_nil, y_immL_cons, y_imm_tup, y_tup_dInts, y_tup_rows, y_len_dInts, y_len_rowsD, y_len_rD, y_len_wD, y_len_nD, y_eqI, y_neI, y_eqR, y_neR, y_eqW, y_neW, y_eqB, y_neB, y_inR, y_notInR, y_fldW, y_fldD, y_p0, y_p1, y_listT, y_all, y_any, true_and, and_true, Bool.and_self, Bool.and_true, Bool.true_and, Bool.not_true, Bool.not_false, Bool.false_eq_true, if_false, if_true, ite_true, ite_false, decide_true, decide_false, reduceIte])
    exact whole_refl _ q
  | bl b =>
    intro Q q
    unfold m__law_same_n fnM b__law_same
    simp only [env0, List.map_cons, List.map_nil, List.length_cons, List.length_nil, List.replicate_succ, List.replicate_zero, List.cons_append, List.nil_append, Nat.reduceSub, Nat.reduceAdd, Nat.zero_add, w_var0, w_varS, w_c, w_imm, w_nil, w_cons, w_dice, w_call, w_x1, w_x2, w_tup, w_lst, w_if, w_and, w_or, w_not, w_yes, w_test, w_boo, w_xand, w_xor, w_xnot, w_chain, w_seq, w_set, w_sifR, w_sifRS, w_sifN, w_sifB, w_sifC, w_ret, w_next, w_break, w_cont, w_never, w_drop, w_set0, w_setS, w_setn0, w_setnS, w_bname, w_mseq, w_seqL, w_seqT, w_mrng1, w_mrng2, w_for, w_lc, w_app, w_onL, w_put, w_aug, w_augS, w_lm, w_setE, w_retE, w_appE, w_pop, w_asgG, w_sl, w_lrg1, w_pno, w_pyes, w_intQ, w_btup, w_bcons, w_bnil, w_oI, w_oIc, w_addI, w_add1I, w_intI, w_intB, w_lenL, w_lenT, w_lenDT, w_lenDK, w_isN, w_notN, w_isB, w_oTupL, w_oTupT, y_mapI, y_mapR, y_immL_I, y_logs, y_immL_R, y_W, y_isA_int, y_isA_bl, y_isA_str, y_isA_non, y_isA_tup, y_isA_lst, y_isA_rD, y_isA_wD, y_isT_int, y_isT_bl, y_isT_str, y_isT_non, y_isT_tup, y_isT_lst, sb1, sb2, sb3, sb4, sb5, sb6, sb7, sb8, sb9, sb10, sb11, sb12, sb13, sb14, sb15, sb16, sb17, sb18, sb19, sb20, sb21, y_isN_int, y_isN_non, y_isN_rD, List.map_id, id_eq, BEq.rfl, bne_self_eq_false, y_imm_int, y_imm_bl, y_imm_non, y_imm_rD, y_imm_wD, y_immL_nil, y_immL_cons, y_imm_tup, y_tup_dInts, y_tup_rows, y_len_dInts, y_len_rowsD, y_len_rD, y_len_wD, y_len_nD, y_eqI, y_neI, y_eqR, y_neR, y_eqW, y_neW, y_eqB, y_neB, y_inR, y_notInR, y_fldW, y_fldD, y_p0, y_p1, y_listT, y_all, y_any, true_and, and_true, Bool.and_self, Bool.and_true, Bool.true_and, Bool.not_true, Bool.not_false, Bool.false_eq_true, if_false, if_true, ite_true, ite_false, decide_true, decide_false, reduceIte]
    (rw [w_sif]; simp only [w_var0, w_varS, w_c, w_imm, w_nil, w_cons, w_dice, w_call, w_x1, w_x2, w_tup, w_lst, w_if, w_and, w_or, w_not, w_yes, w_test, w_boo, w_xand, w_xor, w_xnot, w_chain, w_seq, w_set, w_sifR, w_sifRS, w_sifN, w_sifB, w_sifC, w_ret, w_next, w_break, w_cont, w_never, w_drop, w_set0, w_setS, w_setn0, w_setnS, w_bname, w_mseq, w_seqL, w_seqT, w_mrng1, w_mrng2, w_for, w_lc, w_app, w_onL, w_put, w_aug, w_augS, w_lm, w_setE, w_retE, w_appE, w_pop, w_asgG, w_sl, w_lrg1, w_pno, w_pyes, w_intQ, w_btup, w_bcons, w_bnil, w_oI, w_oIc, w_addI, w_add1I, w_intI, w_intB, w_lenL, w_lenT, w_lenDT, w_lenDK, w_isN, w_notN, w_isB, w_oTupL, w_oTupT, y_mapI, y_mapR, y_immL_I, y_logs, y_immL_R, y_W, y_isA_int, y_isA_bl, y_isA_str, y_isA_non, y_isA_tup, y_isA_lst, y_isA_rD, y_isA_wD, y_isT_int, y_isT_bl, y_isT_str, y_isT_non, y_isT_tup, y_isT_lst, sb1, sb2, sb3, sb4, sb5, sb6, sb7, sb8, sb9, sb10, sb11, sb12, sb13, sb14, sb15, sb16, sb17, sb18, sb19, sb20, sb21, y_isN_int, y_isN_non, y_isN_rD, List.map_id, id_eq, BEq.rfl, bne_self_eq_false, y_imm_int, y_imm_bl, y_imm_non, y_imm_rD, y_imm_wD, y_immL_nil, y_immL_cons, y_imm_tup, y_tup_dInts, y_tup_rows, y_len_dInts, y_len_rowsD, y_len_rD, y_len_wD, y_len_nD, y_eqI, y_neI, y_eqR, y_neR, y_eqW, y_neW, y_eqB, y_neB, y_inR, y_notInR, y_fldW, y_fldD, y_p0, y_p1, y_listT, y_all, y_any, true_and, and_true, Bool.and_self, Bool.and_true, Bool.true_and, Bool.not_true, Bool.not_false, Bool.false_eq_true, if_false, if_true, ite_true, ite_false, decide_true, decide_false, reduceIte])
    exact q
  | non =>
    intro Q q
    unfold m__law_same_n fnM b__law_same
    simp only [env0, List.map_cons, List.map_nil, List.length_cons, List.length_nil, List.replicate_succ, List.replicate_zero, List.cons_append, List.nil_append, Nat.reduceSub, Nat.reduceAdd, Nat.zero_add, w_var0, w_varS, w_c, w_imm, w_nil, w_cons, w_dice, w_call, w_x1, w_x2, w_tup, w_lst, w_if, w_and, w_or, w_not, w_yes, w_test, w_boo, w_xand, w_xor, w_xnot, w_chain, w_seq, w_set, w_sifR, w_sifRS, w_sifN, w_sifB, w_sifC, w_ret, w_next, w_break, w_cont, w_never, w_drop, w_set0, w_setS, w_setn0, w_setnS, w_bname, w_mseq, w_seqL, w_seqT, w_mrng1, w_mrng2, w_for, w_lc, w_app, w_onL, w_put, w_aug, w_augS, w_lm, w_setE, w_retE, w_appE, w_pop, w_asgG, w_sl, w_lrg1, w_pno, w_pyes, w_intQ, w_btup, w_bcons, w_bnil, w_oI, w_oIc, w_addI, w_add1I, w_intI, w_intB, w_lenL, w_lenT, w_lenDT, w_lenDK, w_isN, w_notN, w_isB, w_oTupL, w_oTupT, y_mapI, y_mapR, y_immL_I, y_logs, y_immL_R, y_W, y_isA_int, y_isA_bl, y_isA_str, y_isA_non, y_isA_tup, y_isA_lst, y_isA_rD, y_isA_wD, y_isT_int, y_isT_bl, y_isT_str, y_isT_non, y_isT_tup, y_isT_lst, sb1, sb2, sb3, sb4, sb5, sb6, sb7, sb8, sb9, sb10, sb11, sb12, sb13, sb14, sb15, sb16, sb17, sb18, sb19, sb20, sb21, y_isN_int, y_isN_non, y_isN_rD, List.map_id, id_eq, BEq.rfl, bne_self_eq_false, y_imm_int, y_imm_bl, y_imm_non, y_imm_rD, y_imm_wD, y_immL_nil, y_immL_cons, y_imm_tup, y_tup_dInts, y_tup_rows, y_len_dInts, y_len_rowsD, y_len_rD, y_len_wD, y_len_nD, y_eqI, y_neI, y_eqR, y_neR, y_eqW, y_neW, y_eqB, y_neB, y_inR, y_notInR, y_fldW, y_fldD, y_p0, y_p1, y_listT, y_all, y_any, true_and, and_true, Bool.and_self, Bool.and_true, Bool.true_and, Bool.not_true, Bool.not_false, Bool.false_eq_true, if_false, if_true, ite_true, ite_false, decide_true, decide_false, reduceIte]
    (rw [w_sif]; simp only [w_var0, w_varS, w_c, w_imm, w_nil, w_cons, w_dice, w_call, w_x1, w_x2, w_tup, w_lst, w_if, w_and, w_or, w_not, w_yes, w_test, w_boo, w_xand, w_xor, w_xnot, w_chain, w_seq, w_set, w_sifR, w_sifRS, w_sifN, w_sifB, w_sifC, w_ret, w_next, w_break, w_cont, w_never, w_drop, w_set0, w_setS, w_setn0, w_setnS, w_bname, w_mseq, w_seqL, w_seqT, w_mrng1, w_mrng2, w_for, w_lc, w_app, w_onL, w_put, w_aug, w_augS, w_lm, w_setE, w_retE, w_appE, w_pop, w_asgG, w_sl, w_lrg1, w_pno, w_pyes, w_intQ, w_btup, w_bcons, w_bnil, w_oI, w_oIc, w_addI, w_add1I, w_intI, w_intB, w_lenL, w_lenT, w_lenDT, w_lenDK, w_isN, w_notN, w_isB, w_oTupL, w_oTupT, y_mapI, y_mapR, y_immL_I, y_logs, y_immL_R, y_W, y_isA_int, y_isA_bl, y_isA_str, y_isA_non, y_isA_tup, y_isA_lst, y_isA_rD, y_isA_wD, y_isT_int, y_isT_bl, y_isT_str, y_isT_non, y_isT_tup, y_isT_lst, sb1, sb2, sb3, sb4, sb5, sb6, sb7, sb8, sb9, sb10, sb11, sb12, sb13, sb14, sb15, sb16, sb17, sb18, sb19, sb20, sb21, y_isN_int, y_isN_non, y_isN_rD, List.map_id, id_eq, BEq.rfl, bne_self_eq_false, y_imm_int, y_imm_bl, y_imm_non, y_imm_rD, y_imm_wD, y_immL_nil, y_immL_cons, y_imm_tup, y_tup_dInts, y_tup_rows, y_len_dInts, y_len_rowsD, y_len_rD, y_len_wD, y_len_nD, y_eqI, y_neI, y_eqR, y_neR, y_eqW, y_neW, y_eqB, y_neB, y_inR, y_notInR, y_fldW, y_fldD, y_p0, y_p1, y_listT, y_all, y_any, true_and, and_true, Bool.and_self, Bool.and_true, Bool.true_and, Bool.not_true, Bool.not_false, Bool.false_eq_true, if_false, if_true, ite_true, ite_false, decide_true, decide_false, reduceIte])
    exact whole_non _ q
  | @tup k ds h l ih =>
    intro Q q
    unfold m__law_same_n fnM b__law_same
    simp only [env0, List.map_cons, List.map_nil, List.length_cons, List.length_nil, List.replicate_succ, List.replicate_zero, List.cons_append, List.nil_append, Nat.reduceSub, Nat.reduceAdd, Nat.zero_add, w_var0, w_varS, w_c, w_imm, w_nil, w_cons, w_dice, w_call, w_x1, w_x2, w_tup, w_lst, w_if, w_and, w_or, w_not, w_yes, w_test, w_boo, w_xand, w_xor, w_xnot, w_chain, w_seq, w_set, w_sifR, w_sifRS, w_sifN, w_sifB, w_sifC, w_ret, w_next, w_break, w_cont, w_never, w_drop, w_set0, w_setS, w_setn0, w_setnS, w_bname, w_mseq, w_seqL, w_seqT, w_mrng1, w_mrng2, w_for, w_lc, w_app, w_onL, w_put, w_aug, w_augS, w_lm, w_setE, w_retE, w_appE, w_pop, w_asgG, w_sl, w_lrg1, w_pno, w_pyes, w_intQ, w_btup, w_bcons, w_bnil, w_oI, w_oIc, w_addI, w_add1I, w_intI, w_intB, w_lenL, w_lenT, w_lenDT, w_lenDK, w_isN, w_notN, w_isB, w_oTupL, w_oTupT, y_mapI, y_mapR, y_immL_I, y_logs, y_immL_R, y_W, y_isA_int, y_isA_bl, y_isA_str, y_isA_non, y_isA_tup, y_isA_lst, y_isA_rD, y_isA_wD, y_isT_int, y_isT_bl, y_isT_str, y_isT_non, y_isT_tup, y_isT_lst, sb1, sb2, sb3, sb4, sb5, sb6, sb7, sb8, sb9, sb10, sb11, sb12, sb13, sb14, sb15, sb16, sb17, sb18, sb19, sb20, sb21, y_isN_int, y_isN_non, y_isN_rD, List.map_id, id_eq, BEq.rfl, bne_self_eq_false, y_imm_int, y_imm_bl, y_imm_non, y_imm_rD, y_imm_wD, y_immL_nil, y_immL_cons, y_imm_tup, y_tup_dInts, y_tup_rows, y_len_dInts, y_len_rowsD, y_len_rD, y_len_wD, y_len_nD, y_eqI, y_neI, y_eqR, y_neR, y_eqW, y_neW, y_eqB, y_neB, y_inR, y_notInR, y_fldW, y_fldD, y_p0, y_p1, y_listT, y_all, y_any, true_and, and_true, Bool.and_self, Bool.and_true, Bool.true_and, Bool.not_true, Bool.not_false, Bool.false_eq_true, if_false, if_true, ite_true, ite_false, decide_true, decide_false, reduceIte]
    (rw [w_sif]; simp only [w_var0, w_varS, w_c, w_imm, w_nil, w_cons, w_dice, w_call, w_x1, w_x2, w_tup, w_lst, w_if, w_and, w_or, w_not, w_yes, w_test, w_boo, w_xand, w_xor, w_xnot, w_chain, w_seq, w_set, w_sifR, w_sifRS, w_sifN, w_sifB, w_sifC, w_ret, w_next, w_break, w_cont, w_never, w_drop, w_set0, w_setS, w_setn0, w_setnS, w_bname, w_mseq, w_seqL, w_seqT, w_mrng1, w_mrng2, w_for, w_lc, w_app, w_onL, w_put, w_aug, w_augS, w_lm, w_setE, w_retE, w_appE, w_pop, w_asgG, w_sl, w_lrg1, w_pno, w_pyes, w_intQ, w_btup, w_bcons, w_bnil, w_oI, w_oIc, w_addI, w_add1I, w_intI, w_intB, w_lenL, w_lenT, w_lenDT, w_lenDK, w_isN, w_notN, w_isB, w_oTupL, w_oTupT, y_mapI, y_mapR, y_immL_I, y_logs, y_immL_R, y_W, y_isA_int, y_isA_bl, y_isA_str, y_isA_non, y_isA_tup, y_isA_lst, y_isA_rD, y_isA_wD, y_isT_int, y_isT_bl, y_isT_str, y_isT_non, y_isT_tup, y_isT_lst, sb1, sb2, sb3, sb4, sb5, sb6, sb7, sb8, sb9, sb10, sb11, sb12, sb13, sb14, sb15, sb16, sb17, sb18, sb19, sb20, sb21, y_isN_int, y_isN_non, y_isN_rD, List.map_id, id_eq, BEq.rfl, bne_self_eq_false, y_imm_int, y_imm_bl, y_imm_non, y_imm_rD, y_imm_wD, y_immL_nil, y_immL_cons, y_imm_tup, y_tup_dInts, y_tup_rows, y_len_dInts, y_len_rowsD, y_len_rD, y_len_wD, y_len_nD, y_eqI, y_neI, y_eqR, y_neR, y_eqW, y_neW, y_eqB, y_neB, y_inR, y_notInR, y_fldW, y_fldD, y_p0, y_p1, y_listT, y_all, y_any, true_and, and_true, Bool.and_self, Bool.and_true, Bool.true_and, Bool.not_true, Bool.not_false, Bool.false_eq_true, if_false, if_true, ite_true, ite_false, decide_true, decide_false, reduceIte])
    refine items_refl l (fun i d e R hR => ?_) q
    simp only [w_var0, w_varS, w_c, w_imm, w_nil, w_cons, w_dice, w_call, w_x1, w_x2, w_tup, w_lst, w_if, w_and, w_or, w_not, w_yes, w_test, w_boo, w_xand, w_xor, w_xnot, w_chain, w_seq, w_set, w_sifR, w_sifRS, w_sifN, w_sifB, w_sifC, w_ret, w_next, w_break, w_cont, w_never, w_drop, w_set0, w_setS, w_setn0, w_setnS, w_bname, w_mseq, w_seqL, w_seqT, w_mrng1, w_mrng2, w_for, w_lc, w_app, w_onL, w_put, w_aug, w_augS, w_lm, w_setE, w_retE, w_appE, w_pop, w_asgG, w_sl, w_lrg1, w_pno, w_pyes, w_intQ, w_btup, w_bcons, w_bnil, w_oI, w_oIc, w_addI, w_add1I, w_intI, w_intB, w_lenL, w_lenT, w_lenDT, w_lenDK, w_isN, w_notN, w_isB, w_oTupL, w_oTupT, y_mapI, y_mapR, y_immL_I, y_logs, y_immL_R, y_W, y_isA_int, y_isA_bl, y_isA_str, y_isA_non, y_isA_tup, y_isA_lst, y_isA_rD, y_isA_wD, y_isT_int, y_isT_bl, y_isT_str, y_isT_non, y_isT_tup, y_isT_lst, sb1, sb2, sb3, sb4, sb5, sb6, sb7, sb8, sb9, sb10, sb11, sb12, sb13, sb14, sb15, sb16, sb17, sb18, sb19, sb20, sb21, y_isN_int, y_isN_non, y_isN_rD, List.map_id, id_eq, BEq.rfl, bne_self_eq_false, y_imm_int, y_imm_bl, y_imm_non, y_imm_rD, y_imm_wD, y_immL_nil, y_immL_cons, y_imm_tup, y_tup_dInts, y_tup_rows, y_len_dInts, y_len_rowsD, y_len_rD, y_len_wD, y_len_nD, y_eqI, y_neI, y_eqR, y_neR, y_eqW, y_neW, y_eqB, y_neB, y_inR, y_notInR, y_fldW, y_fldD, y_p0, y_p1, y_listT, y_all, y_any, true_and, and_true, Bool.and_self, Bool.and_true, Bool.true_and, Bool.not_true, Bool.not_false, Bool.false_eq_true, if_false, if_true, ite_true, ite_false, decide_true, decide_false, reduceIte]
    refine atD_some (by omega) (by rw [Int.toNat_natCast]; exact e) (atD_some (by omega) (by rw [Int.toNat_natCast]; exact e) ?_)
    exact ih d (List.mem_of_getElem? e) _ hR
  | @lst k ds h l ih =>
    intro Q q
    unfold m__law_same_n fnM b__law_same
    simp only [env0, List.map_cons, List.map_nil, List.length_cons, List.length_nil, List.replicate_succ, List.replicate_zero, List.cons_append, List.nil_append, Nat.reduceSub, Nat.reduceAdd, Nat.zero_add, w_var0, w_varS, w_c, w_imm, w_nil, w_cons, w_dice, w_call, w_x1, w_x2, w_tup, w_lst, w_if, w_and, w_or, w_not, w_yes, w_test, w_boo, w_xand, w_xor, w_xnot, w_chain, w_seq, w_set, w_sifR, w_sifRS, w_sifN, w_sifB, w_sifC, w_ret, w_next, w_break, w_cont, w_never, w_drop, w_set0, w_setS, w_setn0, w_setnS, w_bname, w_mseq, w_seqL, w_seqT, w_mrng1, w_mrng2, w_for, w_lc, w_app, w_onL, w_put, w_aug, w_augS, w_lm, w_setE, w_retE, w_appE, w_pop, w_asgG, w_sl, w_lrg1, w_pno, w_pyes, w_intQ, w_btup, w_bcons, w_bnil, w_oI, w_oIc, w_addI, w_add1I, w_intI, w_intB, w_lenL, w_lenT, w_lenDT, w_lenDK, w_isN, w_notN, w_isB, w_oTupL, w_oTupT, y_mapI, y_mapR, y_immL_I, y_logs, y_immL_R, y_W, y_isA_int, y_isA_bl, y_isA_str, y_isA_non, y_isA_tup, y_isA_lst, y_isA_rD, y_isA_wD, y_isT_int, y_isT_bl, y_isT_str, y_isT_non, y_isT_tup, y_isT_lst, sb1, sb2, sb3, sb4, sb5, sb6, sb7, sb8, sb9, sb10, sb11, sb12, sb13, sb14, sb15, sb16, sb17, sb18, sb19, sb20, sb21, y_isN_int, y_isN_non, y_isN_rD, List.map_id, id_eq, BEq.rfl, bne_self_eq_false, y_imm_int, y_imm_bl, y_imm_non, y_imm_rD, y_imm_wD, y_immL_nil, y_immL_cons, y_imm_tup, y_tup_dInts, y_tup_rows, y_len_dInts, y_len_rowsD, y_len_rD, y_len_wD, y_len_nD, y_eqI, y_neI, y_eqR, y_neR, y_eqW, y_neW, y_eqB, y_neB, y_inR, y_notInR, y_fldW, y_fldD, y_p0, y_p1, y_listT, y_all, y_any, true_and, and_true, Bool.and_self, Bool.and_true, Bool.true_and, Bool.not_true, Bool.not_false, Bool.false_eq_true, if_false, if_true, ite_true, ite_false, decide_true, decide_false, reduceIte]
    (rw [w_sif]; simp only [w_var0, w_varS, w_c, w_imm, w_nil, w_cons, w_dice, w_call, w_x1, w_x2, w_tup, w_lst, w_if, w_and, w_or, w_not, w_yes, w_test, w_boo, w_xand, w_xor, w_xnot, w_chain, w_seq, w_set, w_sifR, w_sifRS, w_sifN, w_sifB, w_sifC, w_ret, w_next, w_break, w_cont, w_never, w_drop, w_set0, w_setS, w_setn0, w_setnS, w_bname, w_mseq, w_seqL, w_seqT, w_mrng1, w_mrng2, w_for, w_lc, w_app, w_onL, w_put, w_aug, w_augS, w_lm, w_setE, w_retE, w_appE, w_pop, w_asgG, w_sl, w_lrg1, w_pno, w_pyes, w_intQ, w_btup, w_bcons, w_bnil, w_oI, w_oIc, w_addI, w_add1I, w_intI, w_intB, w_lenL, w_lenT, w_lenDT, w_lenDK, w_isN, w_notN, w_isB, w_oTupL, w_oTupT, y_mapI, y_mapR, y_immL_I, y_logs, y_immL_R, y_W, y_isA_int, y_isA_bl, y_isA_str, y_isA_non, y_isA_tup, y_isA_lst, y_isA_rD, y_isA_wD, y_isT_int, y_isT_bl, y_isT_str, y_isT_non, y_isT_tup, y_isT_lst, sb1, sb2, sb3, sb4, sb5, sb6, sb7, sb8, sb9, sb10, sb11, sb12, sb13, sb14, sb15, sb16, sb17, sb18, sb19, sb20, sb21, y_isN_int, y_isN_non, y_isN_rD, List.map_id, id_eq, BEq.rfl, bne_self_eq_false, y_imm_int, y_imm_bl, y_imm_non, y_imm_rD, y_imm_wD, y_immL_nil, y_immL_cons, y_imm_tup, y_tup_dInts, y_tup_rows, y_len_dInts, y_len_rowsD, y_len_rD, y_len_wD, y_len_nD, y_eqI, y_neI, y_eqR, y_neR, y_eqW, y_neW, y_eqB, y_neB, y_inR, y_notInR, y_fldW, y_fldD, y_p0, y_p1, y_listT, y_all, y_any, true_and, and_true, Bool.and_self, Bool.and_true, Bool.true_and, Bool.not_true, Bool.not_false, Bool.false_eq_true, if_false, if_true, ite_true, ite_false, decide_true, decide_false, reduceIte])
    refine items_refl l (fun i d e R hR => ?_) q
    simp only [w_var0, w_varS, w_c, w_imm, w_nil, w_cons, w_dice, w_call, w_x1, w_x2, w_tup, w_lst, w_if, w_and, w_or, w_not, w_yes, w_test, w_boo, w_xand, w_xor, w_xnot, w_chain, w_seq, w_set, w_sifR, w_sifRS, w_sifN, w_sifB, w_sifC, w_ret, w_next, w_break, w_cont, w_never, w_drop, w_set0, w_setS, w_setn0, w_setnS, w_bname, w_mseq, w_seqL, w_seqT, w_mrng1, w_mrng2, w_for, w_lc, w_app, w_onL, w_put, w_aug, w_augS, w_lm, w_setE, w_retE, w_appE, w_pop, w_asgG, w_sl, w_lrg1, w_pno, w_pyes, w_intQ, w_btup, w_bcons, w_bnil, w_oI, w_oIc, w_addI, w_add1I, w_intI, w_intB, w_lenL, w_lenT, w_lenDT, w_lenDK, w_isN, w_notN, w_isB, w_oTupL, w_oTupT, y_mapI, y_mapR, y_immL_I, y_logs, y_immL_R, y_W, y_isA_int, y_isA_bl, y_isA_str, y_isA_non, y_isA_tup, y_isA_lst, y_isA_rD, y_isA_wD, y_isT_int, y_isT_bl, y_isT_str, y_isT_non, y_isT_tup, y_isT_lst, sb1, sb2, sb3, sb4, sb5, sb6, sb7, sb8, sb9, sb10, sb11, sb12, sb13, sb14, sb15, sb16, sb17, sb18, sb19, sb20, sb21, y_isN_int, y_isN_non, y_isN_rD, List.map_id, id_eq, BEq.rfl, bne_self_eq_false, y_imm_int, y_imm_bl, y_imm_non, y_imm_rD, y_imm_wD, y_immL_nil, y_immL_cons, y_imm_tup, y_tup_dInts, y_tup_rows, y_len_dInts, y_len_rowsD, y_len_rD, y_len_wD, y_len_nD, y_eqI, y_neI, y_eqR, y_neR, y_eqW, y_neW, y_eqB, y_neB, y_inR, y_notInR, y_fldW, y_fldD, y_p0, y_p1, y_listT, y_all, y_any, true_and, and_true, Bool.and_self, Bool.and_true, Bool.true_and, Bool.not_true, Bool.not_false, Bool.false_eq_true, if_false, if_true, ite_true, ite_false, decide_true, decide_false, reduceIte]
    refine atD_some (by omega) (by rw [Int.toNat_natCast]; exact e) (atD_some (by omega) (by rw [Int.toNat_natCast]; exact e) ?_)
    exact ih d (List.mem_of_getElem? e) _ hR
theorem pl_up {k : Nat} {d : D} (h : Pl k d) : Pl (k + 1) d := by
  induction h with
  | int a => exact .int a
  | bl b => exact .bl b
  | non => exact .non
  | tup _ l ih => exact .tup ih l
  | lst _ l ih => exact .lst ih l
theorem pl_le {k j : Nat} {d : D} (h : Pl k d) (l : k ≤ j) : Pl j d := by
  induction l with
  | refl => exact h
  | step _ ih => exact pl_up ih
theorem same_ev {d : D} (h : Pl 7 d) : FEv m__law_same [d, d] (.bl true) := same_refl h
end
end Pu

/-! file V_k09 -/
set_option Elab.async false
set_option linter.all false
set_option maxRecDepth 100000
set_option synthInstance.maxHeartbeats 0
set_option synthInstance.maxSize 100000
namespace Pu
open PySem PySem.Spec PyProof.Rows L2
section
variable {Q : D → Prop} {n i : Int} {r s row left : List Int} {ws us : List (List Int)}
theorem logF_len {d : Int} : (logF ws r d).length ≤ r.length := List.length_filter_le ..
theorem logs_len : (logsF n ws r).length = n.toNat := by unfold logsF; rw [List.length_map, rangeI_len]
theorem logs_at {d : Int} (h0 : 0 ≤ d) (h1 : d < n) : (logsF n ws r).getD d.toNat [] = logF ws r d := by
  unfold logsF
  rw [List.getD_eq_getElem?_getD, List.getElem?_map, range_get h0 h1] <;> rfl
theorem pl_logs (h : n ≤ 6) (hr : r.length ≤ 100) : Pl 7 (wD (logsF n ws r)) := pl_le (pl_wD (by rw [logs_len]; omega) fun l hl => by
  obtain ⟨d, _, rfl⟩ := List.mem_map.mp hl
  have := logF_len (ws := ws) (r := r) (d := d)
  omega) (by decide)
theorem pl_log {d : Int} (hr : r.length ≤ 100) : Pl 7 (rD (logF ws r d)) := pl_le (pl_rD (by have := logF_len (ws := ws) (r := r) (d := d); omega)) (by decide)
theorem inW_take {k : Nat} (h : InW ws r) : InW ws (r.take k) := fun x hx => h x (List.mem_of_mem_take hx)
theorem inW_app (h : InW ws r) (h2 : InW ws s) : InW ws (r ++ s) := fun x hx => (List.mem_append.mp hx).elim (h x) (h2 x)
theorem pure_law_k09 : b_law_k09 lawEnds (List.replicate 17 none) := by
  have hs : 100 ≤ sizeLine := by decide
  unfold b_law_k09
  simp only [env0, List.map_cons, List.map_nil, List.length_cons, List.length_nil, List.replicate_succ, List.replicate_zero, List.cons_append, List.nil_append, Nat.reduceSub, Nat.reduceAdd, Nat.zero_add, w_var0, w_varS, w_c, w_imm, w_nil, w_cons, w_dice, w_call, w_x1, w_x2, w_tup, w_lst, w_if, w_and, w_or, w_not, w_yes, w_test, w_boo, w_xand, w_xor, w_xnot, w_chain, w_seq, w_set, w_sifR, w_sifRS, w_sifN, w_sifB, w_sifC, w_ret, w_next, w_break, w_cont, w_never, w_drop, w_set0, w_setS, w_setn0, w_setnS, w_bname, w_mseq, w_seqL, w_seqT, w_mrng1, w_mrng2, w_for, w_lc, w_app, w_onL, w_put, w_aug, w_augS, w_lm, w_setE, w_retE, w_appE, w_pop, w_asgG, w_sl, w_lrg1, w_pno, w_pyes, w_intQ, w_btup, w_bcons, w_bnil, w_oI, w_oIc, w_addI, w_add1I, w_intI, w_intB, w_lenL, w_lenT, w_lenDT, w_lenDK, w_isN, w_notN, w_isB, w_oTupL, w_oTupT, y_mapI, y_mapR, y_immL_I, y_logs, y_immL_R, y_W, y_isA_int, y_isA_bl, y_isA_str, y_isA_non, y_isA_tup, y_isA_lst, y_isA_rD, y_isA_wD, y_isT_int, y_isT_bl, y_isT_str, y_isT_non, y_isT_tup, y_isT_lst, sb1, sb2, sb3, sb4, sb5, sb6, sb7, sb8, sb9, sb10, sb11, sb12, sb13, sb14, sb15, sb16, sb17, sb18, sb19, sb20, sb21, y_isN_int, y_isN_non, y_isN_rD, List.map_id, id_eq, BEq.rfl, bne_self_eq_false, y_imm_int, y_imm_bl, y_imm_non, y_imm_rD, y_imm_wD, y_immL_nil, y_immL_cons, y_imm_tup, y_tup_dInts, y_tup_rows, y_len_dInts, y_len_rowsD, y_len_rD, y_len_wD, y_len_nD, y_eqI, y_neI, y_eqR, y_neR, y_eqW, y_neW, y_eqB, y_neB, y_inR, y_notInR, y_fldW, y_fldD, y_p0, y_p1, y_listT, y_all, y_any, true_and, and_true, Bool.and_self, Bool.and_true, Bool.true_and, Bool.not_true, Bool.not_false, Bool.false_eq_true, if_false, if_true, ite_true, ite_false, decide_true, decide_false, reduceIte]
  refine y_rng (by decide) (by decide) ?_
  refine loop_I (fun p s env => ∃ e2 e3 e4 e5 e6 e7 e8 e9 e10 e11 e12 e13 e14 e15 e16, env = [none, none, e2, e3, e4, e5, e6, e7, e8, e9, e10, e11, e12, e13, e14, e15, e16]) _ ⟨_, _, _, _, _, _, _, _, _, _, _, _, _, _, _, rfl⟩ ?_ ?_
  · rintro p i s env e ⟨e2, e3, e4, e5, e6, e7, e8, e9, e10, e11, e12, e13, e14, e15, e16, rfl⟩
    (try simp only [w_var0, w_varS, w_c, w_imm, w_nil, w_cons, w_dice, w_call, w_x1, w_x2, w_tup, w_lst, w_if, w_and, w_or, w_not, w_yes, w_test, w_boo, w_xand, w_xor, w_xnot, w_chain, w_seq, w_set, w_sifR, w_sifRS, w_sifN, w_sifB, w_sifC, w_ret, w_next, w_break, w_cont, w_never, w_drop, w_set0, w_setS, w_setn0, w_setnS, w_bname, w_mseq, w_seqL, w_seqT, w_mrng1, w_mrng2, w_for, w_lc, w_app, w_onL, w_put, w_aug, w_augS, w_lm, w_setE, w_retE, w_appE, w_pop, w_asgG, w_sl, w_lrg1, w_pno, w_pyes, w_intQ, w_btup, w_bcons, w_bnil, w_oI, w_oIc, w_addI, w_add1I, w_intI, w_intB, w_lenL, w_lenT, w_lenDT, w_lenDK, w_isN, w_notN, w_isB, w_oTupL, w_oTupT, y_mapI, y_mapR, y_immL_I, y_logs, y_immL_R, y_W, y_isA_int, y_isA_bl, y_isA_str, y_isA_non, y_isA_tup, y_isA_lst, y_isA_rD, y_isA_wD, y_isT_int, y_isT_bl, y_isT_str, y_isT_non, y_isT_tup, y_isT_lst, sb1, sb2, sb3, sb4, sb5, sb6, sb7, sb8, sb9, sb10, sb11, sb12, sb13, sb14, sb15, sb16, sb17, sb18, sb19, sb20, sb21, y_isN_int, y_isN_non, y_isN_rD, List.map_id, id_eq, BEq.rfl, bne_self_eq_false, y_imm_int, y_imm_bl, y_imm_non, y_imm_rD, y_imm_wD, y_immL_nil, y_immL_cons, y_imm_tup, y_tup_dInts, y_tup_rows, y_len_dInts, y_len_rowsD, y_len_rD, y_len_wD, y_len_nD, y_eqI, y_neI, y_eqR, y_neR, y_eqW, y_neW, y_eqB, y_neB, y_inR, y_notInR, y_fldW, y_fldD, y_p0, y_p1, y_listT, y_all, y_any, true_and, and_true, Bool.and_self, Bool.and_true, Bool.true_and, Bool.not_true, Bool.not_false, Bool.false_eq_true, if_false, if_true, ite_true, ite_false, decide_true, decide_false, reduceIte])
    refine some_parts_ev _ fun d ⟨n, ws, e, h⟩ => ?_
    subst e
    refine made_ev h _ ?_
    obtain ⟨h1, h2, h3, h4, h5⟩ := id h
    have wl : WsLen ws := fun l hl => (h5 l hl).2.2
    refine near_ev wl h4 _ ?_
    (try simp only [w_var0, w_varS, w_c, w_imm, w_nil, w_cons, w_dice, w_call, w_x1, w_x2, w_tup, w_lst, w_if, w_and, w_or, w_not, w_yes, w_test, w_boo, w_xand, w_xor, w_xnot, w_chain, w_seq, w_set, w_sifR, w_sifRS, w_sifN, w_sifB, w_sifC, w_ret, w_next, w_break, w_cont, w_never, w_drop, w_set0, w_setS, w_setn0, w_setnS, w_bname, w_mseq, w_seqL, w_seqT, w_mrng1, w_mrng2, w_for, w_lc, w_app, w_onL, w_put, w_aug, w_augS, w_lm, w_setE, w_retE, w_appE, w_pop, w_asgG, w_sl, w_lrg1, w_pno, w_pyes, w_intQ, w_btup, w_bcons, w_bnil, w_oI, w_oIc, w_addI, w_add1I, w_intI, w_intB, w_lenL, w_lenT, w_lenDT, w_lenDK, w_isN, w_notN, w_isB, w_oTupL, w_oTupT, y_mapI, y_mapR, y_immL_I, y_logs, y_immL_R, y_W, y_isA_int, y_isA_bl, y_isA_str, y_isA_non, y_isA_tup, y_isA_lst, y_isA_rD, y_isA_wD, y_isT_int, y_isT_bl, y_isT_str, y_isT_non, y_isT_tup, y_isT_lst, sb1, sb2, sb3, sb4, sb5, sb6, sb7, sb8, sb9, sb10, sb11, sb12, sb13, sb14, sb15, sb16, sb17, sb18, sb19, sb20, sb21, y_isN_int, y_isN_non, y_isN_rD, List.map_id, id_eq, BEq.rfl, bne_self_eq_false, y_imm_int, y_imm_bl, y_imm_non, y_imm_rD, y_imm_wD, y_immL_nil, y_immL_cons, y_imm_tup, y_tup_dInts, y_tup_rows, y_len_dInts, y_len_rowsD, y_len_rD, y_len_wD, y_len_nD, y_eqI, y_neI, y_eqR, y_neR, y_eqW, y_neW, y_eqB, y_neB, y_inR, y_notInR, y_fldW, y_fldD, y_p0, y_p1, y_listT, y_all, y_any, true_and, and_true, Bool.and_self, Bool.and_true, Bool.true_and, Bool.not_true, Bool.not_false, Bool.false_eq_true, if_false, if_true, ite_true, ite_false, decide_true, decide_false, reduceIte])
    refine y_lrg (by omega) (by omega) ?_
    refine row_ev (by decide) (by decide) h3 h4 _ fun d ⟨row, e, hl, hw⟩ => ?_
    subst e
    refine exch_ev hw h4 (by omega) _ fun d ⟨K, kvs, e, F, I, Dn⟩ => ?_
    subst e
    (try simp only [w_var0, w_varS, w_c, w_imm, w_nil, w_cons, w_dice, w_call, w_x1, w_x2, w_tup, w_lst, w_if, w_and, w_or, w_not, w_yes, w_test, w_boo, w_xand, w_xor, w_xnot, w_chain, w_seq, w_set, w_sifR, w_sifRS, w_sifN, w_sifB, w_sifC, w_ret, w_next, w_break, w_cont, w_never, w_drop, w_set0, w_setS, w_setn0, w_setnS, w_bname, w_mseq, w_seqL, w_seqT, w_mrng1, w_mrng2, w_for, w_lc, w_app, w_onL, w_put, w_aug, w_augS, w_lm, w_setE, w_retE, w_appE, w_pop, w_asgG, w_sl, w_lrg1, w_pno, w_pyes, w_intQ, w_btup, w_bcons, w_bnil, w_oI, w_oIc, w_addI, w_add1I, w_intI, w_intB, w_lenL, w_lenT, w_lenDT, w_lenDK, w_isN, w_notN, w_isB, w_oTupL, w_oTupT, y_mapI, y_mapR, y_immL_I, y_logs, y_immL_R, y_W, y_isA_int, y_isA_bl, y_isA_str, y_isA_non, y_isA_tup, y_isA_lst, y_isA_rD, y_isA_wD, y_isT_int, y_isT_bl, y_isT_str, y_isT_non, y_isT_tup, y_isT_lst, sb1, sb2, sb3, sb4, sb5, sb6, sb7, sb8, sb9, sb10, sb11, sb12, sb13, sb14, sb15, sb16, sb17, sb18, sb19, sb20, sb21, y_isN_int, y_isN_non, y_isN_rD, List.map_id, id_eq, BEq.rfl, bne_self_eq_false, y_imm_int, y_imm_bl, y_imm_non, y_imm_rD, y_imm_wD, y_immL_nil, y_immL_cons, y_imm_tup, y_tup_dInts, y_tup_rows, y_len_dInts, y_len_rowsD, y_len_rD, y_len_wD, y_len_nD, y_eqI, y_neI, y_eqR, y_neR, y_eqW, y_neW, y_eqB, y_neB, y_inR, y_notInR, y_fldW, y_fldD, y_p0, y_p1, y_listT, y_all, y_any, true_and, and_true, Bool.and_self, Bool.and_true, Bool.true_and, Bool.not_true, Bool.not_false, Bool.false_eq_true, if_false, if_true, ite_true, ite_false, decide_true, decide_false, reduceIte])
    have rok : RowOk ws row := ⟨by omega, hw⟩
    refine lc_M (fun d => logF ws row d) rD (by rw [rangeI_len]; omega) (fun d hd R hR => ?_) ?_
    · (try simp only [w_var0, w_varS, w_c, w_imm, w_nil, w_cons, w_dice, w_call, w_x1, w_x2, w_tup, w_lst, w_if, w_and, w_or, w_not, w_yes, w_test, w_boo, w_xand, w_xor, w_xnot, w_chain, w_seq, w_set, w_sifR, w_sifRS, w_sifN, w_sifB, w_sifC, w_ret, w_next, w_break, w_cont, w_never, w_drop, w_set0, w_setS, w_setn0, w_setnS, w_bname, w_mseq, w_seqL, w_seqT, w_mrng1, w_mrng2, w_for, w_lc, w_app, w_onL, w_put, w_aug, w_augS, w_lm, w_setE, w_retE, w_appE, w_pop, w_asgG, w_sl, w_lrg1, w_pno, w_pyes, w_intQ, w_btup, w_bcons, w_bnil, w_oI, w_oIc, w_addI, w_add1I, w_intI, w_intB, w_lenL, w_lenT, w_lenDT, w_lenDK, w_isN, w_notN, w_isB, w_oTupL, w_oTupT, y_mapI, y_mapR, y_immL_I, y_logs, y_immL_R, y_W, y_isA_int, y_isA_bl, y_isA_str, y_isA_non, y_isA_tup, y_isA_lst, y_isA_rD, y_isA_wD, y_isT_int, y_isT_bl, y_isT_str, y_isT_non, y_isT_tup, y_isT_lst, sb1, sb2, sb3, sb4, sb5, sb6, sb7, sb8, sb9, sb10, sb11, sb12, sb13, sb14, sb15, sb16, sb17, sb18, sb19, sb20, sb21, y_isN_int, y_isN_non, y_isN_rD, List.map_id, id_eq, BEq.rfl, bne_self_eq_false, y_imm_int, y_imm_bl, y_imm_non, y_imm_rD, y_imm_wD, y_immL_nil, y_immL_cons, y_imm_tup, y_tup_dInts, y_tup_rows, y_len_dInts, y_len_rowsD, y_len_rD, y_len_wD, y_len_nD, y_eqI, y_neI, y_eqR, y_neR, y_eqW, y_neW, y_eqB, y_neB, y_inR, y_notInR, y_fldW, y_fldD, y_p0, y_p1, y_listT, y_all, y_any, true_and, and_true, Bool.and_self, Bool.and_true, Bool.true_and, Bool.not_true, Bool.not_false, Bool.false_eq_true, if_false, if_true, ite_true, ite_false, decide_true, decide_false, reduceIte])
      exact log_ev h rok (mem_rangeI.mp hd).1 (mem_rangeI.mp hd).2 _ hR
    (try simp only [w_var0, w_varS, w_c, w_imm, w_nil, w_cons, w_dice, w_call, w_x1, w_x2, w_tup, w_lst, w_if, w_and, w_or, w_not, w_yes, w_test, w_boo, w_xand, w_xor, w_xnot, w_chain, w_seq, w_set, w_sifR, w_sifRS, w_sifN, w_sifB, w_sifC, w_ret, w_next, w_break, w_cont, w_never, w_drop, w_set0, w_setS, w_setn0, w_setnS, w_bname, w_mseq, w_seqL, w_seqT, w_mrng1, w_mrng2, w_for, w_lc, w_app, w_onL, w_put, w_aug, w_augS, w_lm, w_setE, w_retE, w_appE, w_pop, w_asgG, w_sl, w_lrg1, w_pno, w_pyes, w_intQ, w_btup, w_bcons, w_bnil, w_oI, w_oIc, w_addI, w_add1I, w_intI, w_intB, w_lenL, w_lenT, w_lenDT, w_lenDK, w_isN, w_notN, w_isB, w_oTupL, w_oTupT, y_mapI, y_mapR, y_immL_I, y_logs, y_immL_R, y_W, y_isA_int, y_isA_bl, y_isA_str, y_isA_non, y_isA_tup, y_isA_lst, y_isA_rD, y_isA_wD, y_isT_int, y_isT_bl, y_isT_str, y_isT_non, y_isT_tup, y_isT_lst, sb1, sb2, sb3, sb4, sb5, sb6, sb7, sb8, sb9, sb10, sb11, sb12, sb13, sb14, sb15, sb16, sb17, sb18, sb19, sb20, sb21, y_isN_int, y_isN_non, y_isN_rD, List.map_id, id_eq, BEq.rfl, bne_self_eq_false, y_imm_int, y_imm_bl, y_imm_non, y_imm_rD, y_imm_wD, y_immL_nil, y_immL_cons, y_imm_tup, y_tup_dInts, y_tup_rows, y_len_dInts, y_len_rowsD, y_len_rD, y_len_wD, y_len_nD, y_eqI, y_neI, y_eqR, y_neR, y_eqW, y_neW, y_eqB, y_neB, y_inR, y_notInR, y_fldW, y_fldD, y_p0, y_p1, y_listT, y_all, y_any, true_and, and_true, Bool.and_self, Bool.and_true, Bool.true_and, Bool.not_true, Bool.not_false, Bool.false_eq_true, if_false, if_true, ite_true, ite_false, decide_true, decide_false, reduceIte])
    refine lawlogs_ev h rok _ (same_ev (pl_logs h2 rok.1) _ ?_)
    (try simp only [w_var0, w_varS, w_c, w_imm, w_nil, w_cons, w_dice, w_call, w_x1, w_x2, w_tup, w_lst, w_if, w_and, w_or, w_not, w_yes, w_test, w_boo, w_xand, w_xor, w_xnot, w_chain, w_seq, w_set, w_sifR, w_sifRS, w_sifN, w_sifB, w_sifC, w_ret, w_next, w_break, w_cont, w_never, w_drop, w_set0, w_setS, w_setn0, w_setnS, w_bname, w_mseq, w_seqL, w_seqT, w_mrng1, w_mrng2, w_for, w_lc, w_app, w_onL, w_put, w_aug, w_augS, w_lm, w_setE, w_retE, w_appE, w_pop, w_asgG, w_sl, w_lrg1, w_pno, w_pyes, w_intQ, w_btup, w_bcons, w_bnil, w_oI, w_oIc, w_addI, w_add1I, w_intI, w_intB, w_lenL, w_lenT, w_lenDT, w_lenDK, w_isN, w_notN, w_isB, w_oTupL, w_oTupT, y_mapI, y_mapR, y_immL_I, y_logs, y_immL_R, y_W, y_isA_int, y_isA_bl, y_isA_str, y_isA_non, y_isA_tup, y_isA_lst, y_isA_rD, y_isA_wD, y_isT_int, y_isT_bl, y_isT_str, y_isT_non, y_isT_tup, y_isT_lst, sb1, sb2, sb3, sb4, sb5, sb6, sb7, sb8, sb9, sb10, sb11, sb12, sb13, sb14, sb15, sb16, sb17, sb18, sb19, sb20, sb21, y_isN_int, y_isN_non, y_isN_rD, List.map_id, id_eq, BEq.rfl, bne_self_eq_false, y_imm_int, y_imm_bl, y_imm_non, y_imm_rD, y_imm_wD, y_immL_nil, y_immL_cons, y_imm_tup, y_tup_dInts, y_tup_rows, y_len_dInts, y_len_rowsD, y_len_rD, y_len_wD, y_len_nD, y_eqI, y_neI, y_eqR, y_neR, y_eqW, y_neW, y_eqB, y_neB, y_inR, y_notInR, y_fldW, y_fldD, y_p0, y_p1, y_listT, y_all, y_any, true_and, and_true, Bool.and_self, Bool.and_true, Bool.true_and, Bool.not_true, Bool.not_false, Bool.false_eq_true, if_false, if_true, ite_true, ite_false, decide_true, decide_false, reduceIte])
    refine y_rng (by decide) (by decide) ?_
    refine loop_I (fun p s env => ∃ e10 e11 e12, env = [none, none, some (.int i), some (pD n ws), some (oD n ws), some (nD (nearF ws)), some (.lst (dInts (rangeI n))), some (rD row), some (.dT kvs), some (wD (logsF n ws row)), e10, e11, e12, e13, e14, e15, e16]) _ ⟨_, _, _, rfl⟩ ?_ ?_
    · rintro p2 i2 s2 env e2 ⟨e10, e11, e12, rfl⟩
      (try simp only [w_var0, w_varS, w_c, w_imm, w_nil, w_cons, w_dice, w_call, w_x1, w_x2, w_tup, w_lst, w_if, w_and, w_or, w_not, w_yes, w_test, w_boo, w_xand, w_xor, w_xnot, w_chain, w_seq, w_set, w_sifR, w_sifRS, w_sifN, w_sifB, w_sifC, w_ret, w_next, w_break, w_cont, w_never, w_drop, w_set0, w_setS, w_setn0, w_setnS, w_bname, w_mseq, w_seqL, w_seqT, w_mrng1, w_mrng2, w_for, w_lc, w_app, w_onL, w_put, w_aug, w_augS, w_lm, w_setE, w_retE, w_appE, w_pop, w_asgG, w_sl, w_lrg1, w_pno, w_pyes, w_intQ, w_btup, w_bcons, w_bnil, w_oI, w_oIc, w_addI, w_add1I, w_intI, w_intB, w_lenL, w_lenT, w_lenDT, w_lenDK, w_isN, w_notN, w_isB, w_oTupL, w_oTupT, y_mapI, y_mapR, y_immL_I, y_logs, y_immL_R, y_W, y_isA_int, y_isA_bl, y_isA_str, y_isA_non, y_isA_tup, y_isA_lst, y_isA_rD, y_isA_wD, y_isT_int, y_isT_bl, y_isT_str, y_isT_non, y_isT_tup, y_isT_lst, sb1, sb2, sb3, sb4, sb5, sb6, sb7, sb8, sb9, sb10, sb11, sb12, sb13, sb14, sb15, sb16, sb17, sb18, sb19, sb20, sb21, y_isN_int, y_isN_non, y_isN_rD, List.map_id, id_eq, BEq.rfl, bne_self_eq_false, y_imm_int, y_imm_bl, y_imm_non, y_imm_rD, y_imm_wD, y_immL_nil, y_immL_cons, y_imm_tup, y_tup_dInts, y_tup_rows, y_len_dInts, y_len_rowsD, y_len_rD, y_len_wD, y_len_nD, y_eqI, y_neI, y_eqR, y_neR, y_eqW, y_neW, y_eqB, y_neB, y_inR, y_notInR, y_fldW, y_fldD, y_p0, y_p1, y_listT, y_all, y_any, true_and, and_true, Bool.and_self, Bool.and_true, Bool.true_and, Bool.not_true, Bool.not_false, Bool.false_eq_true, if_false, if_true, ite_true, ite_false, decide_true, decide_false, reduceIte])
      refine changed_ev h3 h4 hw (by omega) _ fun d ⟨o, e, hl2, ho⟩ => ?_
      subst e
      have ook : RowOk ws o := ⟨by omega, ho⟩
      (try simp only [w_var0, w_varS, w_c, w_imm, w_nil, w_cons, w_dice, w_call, w_x1, w_x2, w_tup, w_lst, w_if, w_and, w_or, w_not, w_yes, w_test, w_boo, w_xand, w_xor, w_xnot, w_chain, w_seq, w_set, w_sifR, w_sifRS, w_sifN, w_sifB, w_sifC, w_ret, w_next, w_break, w_cont, w_never, w_drop, w_set0, w_setS, w_setn0, w_setnS, w_bname, w_mseq, w_seqL, w_seqT, w_mrng1, w_mrng2, w_for, w_lc, w_app, w_onL, w_put, w_aug, w_augS, w_lm, w_setE, w_retE, w_appE, w_pop, w_asgG, w_sl, w_lrg1, w_pno, w_pyes, w_intQ, w_btup, w_bcons, w_bnil, w_oI, w_oIc, w_addI, w_add1I, w_intI, w_intB, w_lenL, w_lenT, w_lenDT, w_lenDK, w_isN, w_notN, w_isB, w_oTupL, w_oTupT, y_mapI, y_mapR, y_immL_I, y_logs, y_immL_R, y_W, y_isA_int, y_isA_bl, y_isA_str, y_isA_non, y_isA_tup, y_isA_lst, y_isA_rD, y_isA_wD, y_isT_int, y_isT_bl, y_isT_str, y_isT_non, y_isT_tup, y_isT_lst, sb1, sb2, sb3, sb4, sb5, sb6, sb7, sb8, sb9, sb10, sb11, sb12, sb13, sb14, sb15, sb16, sb17, sb18, sb19, sb20, sb21, y_isN_int, y_isN_non, y_isN_rD, List.map_id, id_eq, BEq.rfl, bne_self_eq_false, y_imm_int, y_imm_bl, y_imm_non, y_imm_rD, y_imm_wD, y_immL_nil, y_immL_cons, y_imm_tup, y_tup_dInts, y_tup_rows, y_len_dInts, y_len_rowsD, y_len_rD, y_len_wD, y_len_nD, y_eqI, y_neI, y_eqR, y_neR, y_eqW, y_neW, y_eqB, y_neB, y_inR, y_notInR, y_fldW, y_fldD, y_p0, y_p1, y_listT, y_all, y_any, true_and, and_true, Bool.and_self, Bool.and_true, Bool.true_and, Bool.not_true, Bool.not_false, Bool.false_eq_true, if_false, if_true, ite_true, ite_false, decide_true, decide_false, reduceIte])
      refine lc_M (fun d => logF ws o d) rD (by rw [rangeI_len]; omega) (fun d hd R hR => ?_) ?_
      · (try simp only [w_var0, w_varS, w_c, w_imm, w_nil, w_cons, w_dice, w_call, w_x1, w_x2, w_tup, w_lst, w_if, w_and, w_or, w_not, w_yes, w_test, w_boo, w_xand, w_xor, w_xnot, w_chain, w_seq, w_set, w_sifR, w_sifRS, w_sifN, w_sifB, w_sifC, w_ret, w_next, w_break, w_cont, w_never, w_drop, w_set0, w_setS, w_setn0, w_setnS, w_bname, w_mseq, w_seqL, w_seqT, w_mrng1, w_mrng2, w_for, w_lc, w_app, w_onL, w_put, w_aug, w_augS, w_lm, w_setE, w_retE, w_appE, w_pop, w_asgG, w_sl, w_lrg1, w_pno, w_pyes, w_intQ, w_btup, w_bcons, w_bnil, w_oI, w_oIc, w_addI, w_add1I, w_intI, w_intB, w_lenL, w_lenT, w_lenDT, w_lenDK, w_isN, w_notN, w_isB, w_oTupL, w_oTupT, y_mapI, y_mapR, y_immL_I, y_logs, y_immL_R, y_W, y_isA_int, y_isA_bl, y_isA_str, y_isA_non, y_isA_tup, y_isA_lst, y_isA_rD, y_isA_wD, y_isT_int, y_isT_bl, y_isT_str, y_isT_non, y_isT_tup, y_isT_lst, sb1, sb2, sb3, sb4, sb5, sb6, sb7, sb8, sb9, sb10, sb11, sb12, sb13, sb14, sb15, sb16, sb17, sb18, sb19, sb20, sb21, y_isN_int, y_isN_non, y_isN_rD, List.map_id, id_eq, BEq.rfl, bne_self_eq_false, y_imm_int, y_imm_bl, y_imm_non, y_imm_rD, y_imm_wD, y_immL_nil, y_immL_cons, y_imm_tup, y_tup_dInts, y_tup_rows, y_len_dInts, y_len_rowsD, y_len_rD, y_len_wD, y_len_nD, y_eqI, y_neI, y_eqR, y_neR, y_eqW, y_neW, y_eqB, y_neB, y_inR, y_notInR, y_fldW, y_fldD, y_p0, y_p1, y_listT, y_all, y_any, true_and, and_true, Bool.and_self, Bool.and_true, Bool.true_and, Bool.not_true, Bool.not_false, Bool.false_eq_true, if_false, if_true, ite_true, ite_false, decide_true, decide_false, reduceIte])
        exact log_ev h ook (mem_rangeI.mp hd).1 (mem_rangeI.mp hd).2 _ hR
      (try simp only [w_var0, w_varS, w_c, w_imm, w_nil, w_cons, w_dice, w_call, w_x1, w_x2, w_tup, w_lst, w_if, w_and, w_or, w_not, w_yes, w_test, w_boo, w_xand, w_xor, w_xnot, w_chain, w_seq, w_set, w_sifR, w_sifRS, w_sifN, w_sifB, w_sifC, w_ret, w_next, w_break, w_cont, w_never, w_drop, w_set0, w_setS, w_setn0, w_setnS, w_bname, w_mseq, w_seqL, w_seqT, w_mrng1, w_mrng2, w_for, w_lc, w_app, w_onL, w_put, w_aug, w_augS, w_lm, w_setE, w_retE, w_appE, w_pop, w_asgG, w_sl, w_lrg1, w_pno, w_pyes, w_intQ, w_btup, w_bcons, w_bnil, w_oI, w_oIc, w_addI, w_add1I, w_intI, w_intB, w_lenL, w_lenT, w_lenDT, w_lenDK, w_isN, w_notN, w_isB, w_oTupL, w_oTupT, y_mapI, y_mapR, y_immL_I, y_logs, y_immL_R, y_W, y_isA_int, y_isA_bl, y_isA_str, y_isA_non, y_isA_tup, y_isA_lst, y_isA_rD, y_isA_wD, y_isT_int, y_isT_bl, y_isT_str, y_isT_non, y_isT_tup, y_isT_lst, sb1, sb2, sb3, sb4, sb5, sb6, sb7, sb8, sb9, sb10, sb11, sb12, sb13, sb14, sb15, sb16, sb17, sb18, sb19, sb20, sb21, y_isN_int, y_isN_non, y_isN_rD, List.map_id, id_eq, BEq.rfl, bne_self_eq_false, y_imm_int, y_imm_bl, y_imm_non, y_imm_rD, y_imm_wD, y_immL_nil, y_immL_cons, y_imm_tup, y_tup_dInts, y_tup_rows, y_len_dInts, y_len_rowsD, y_len_rD, y_len_wD, y_len_nD, y_eqI, y_neI, y_eqR, y_neR, y_eqW, y_neW, y_eqB, y_neB, y_inR, y_notInR, y_fldW, y_fldD, y_p0, y_p1, y_listT, y_all, y_any, true_and, and_true, Bool.and_self, Bool.and_true, Bool.true_and, Bool.not_true, Bool.not_false, Bool.false_eq_true, if_false, if_true, ite_true, ite_false, decide_true, decide_false, reduceIte])
      refine in_known F ?_
      (try simp only [w_var0, w_varS, w_c, w_imm, w_nil, w_cons, w_dice, w_call, w_x1, w_x2, w_tup, w_lst, w_if, w_and, w_or, w_not, w_yes, w_test, w_boo, w_xand, w_xor, w_xnot, w_chain, w_seq, w_set, w_sifR, w_sifRS, w_sifN, w_sifB, w_sifC, w_ret, w_next, w_break, w_cont, w_never, w_drop, w_set0, w_setS, w_setn0, w_setnS, w_bname, w_mseq, w_seqL, w_seqT, w_mrng1, w_mrng2, w_for, w_lc, w_app, w_onL, w_put, w_aug, w_augS, w_lm, w_setE, w_retE, w_appE, w_pop, w_asgG, w_sl, w_lrg1, w_pno, w_pyes, w_intQ, w_btup, w_bcons, w_bnil, w_oI, w_oIc, w_addI, w_add1I, w_intI, w_intB, w_lenL, w_lenT, w_lenDT, w_lenDK, w_isN, w_notN, w_isB, w_oTupL, w_oTupT, y_mapI, y_mapR, y_immL_I, y_logs, y_immL_R, y_W, y_isA_int, y_isA_bl, y_isA_str, y_isA_non, y_isA_tup, y_isA_lst, y_isA_rD, y_isA_wD, y_isT_int, y_isT_bl, y_isT_str, y_isT_non, y_isT_tup, y_isT_lst, sb1, sb2, sb3, sb4, sb5, sb6, sb7, sb8, sb9, sb10, sb11, sb12, sb13, sb14, sb15, sb16, sb17, sb18, sb19, sb20, sb21, y_isN_int, y_isN_non, y_isN_rD, List.map_id, id_eq, BEq.rfl, bne_self_eq_false, y_imm_int, y_imm_bl, y_imm_non, y_imm_rD, y_imm_wD, y_immL_nil, y_immL_cons, y_imm_tup, y_tup_dInts, y_tup_rows, y_len_dInts, y_len_rowsD, y_len_rD, y_len_wD, y_len_nD, y_eqI, y_neI, y_eqR, y_neR, y_eqW, y_neW, y_eqB, y_neB, y_inR, y_notInR, y_fldW, y_fldD, y_p0, y_p1, y_listT, y_all, y_any, true_and, and_true, Bool.and_self, Bool.and_true, Bool.true_and, Bool.not_true, Bool.not_false, Bool.false_eq_true, if_false, if_true, ite_true, ite_false, decide_true, decide_false, reduceIte])
      have ki := known_iff h hw ho I Dn
      rw [show decide (logsF n ws o = logsF n ws row) = decide (o ∈ K) by rw [decide_eq_decide, ki]; exact eq_comm]
      (try simp only [w_var0, w_varS, w_c, w_imm, w_nil, w_cons, w_dice, w_call, w_x1, w_x2, w_tup, w_lst, w_if, w_and, w_or, w_not, w_yes, w_test, w_boo, w_xand, w_xor, w_xnot, w_chain, w_seq, w_set, w_sifR, w_sifRS, w_sifN, w_sifB, w_sifC, w_ret, w_next, w_break, w_cont, w_never, w_drop, w_set0, w_setS, w_setn0, w_setnS, w_bname, w_mseq, w_seqL, w_seqT, w_mrng1, w_mrng2, w_for, w_lc, w_app, w_onL, w_put, w_aug, w_augS, w_lm, w_setE, w_retE, w_appE, w_pop, w_asgG, w_sl, w_lrg1, w_pno, w_pyes, w_intQ, w_btup, w_bcons, w_bnil, w_oI, w_oIc, w_addI, w_add1I, w_intI, w_intB, w_lenL, w_lenT, w_lenDT, w_lenDK, w_isN, w_notN, w_isB, w_oTupL, w_oTupT, y_mapI, y_mapR, y_immL_I, y_logs, y_immL_R, y_W, y_isA_int, y_isA_bl, y_isA_str, y_isA_non, y_isA_tup, y_isA_lst, y_isA_rD, y_isA_wD, y_isT_int, y_isT_bl, y_isT_str, y_isT_non, y_isT_tup, y_isT_lst, sb1, sb2, sb3, sb4, sb5, sb6, sb7, sb8, sb9, sb10, sb11, sb12, sb13, sb14, sb15, sb16, sb17, sb18, sb19, sb20, sb21, y_isN_int, y_isN_non, y_isN_rD, List.map_id, id_eq, BEq.rfl, bne_self_eq_false, y_imm_int, y_imm_bl, y_imm_non, y_imm_rD, y_imm_wD, y_immL_nil, y_immL_cons, y_imm_tup, y_tup_dInts, y_tup_rows, y_len_dInts, y_len_rowsD, y_len_rD, y_len_wD, y_len_nD, y_eqI, y_neI, y_eqR, y_neR, y_eqW, y_neW, y_eqB, y_neB, y_inR, y_notInR, y_fldW, y_fldD, y_p0, y_p1, y_listT, y_all, y_any, true_and, and_true, Bool.and_self, Bool.and_true, Bool.true_and, Bool.not_true, Bool.not_false, Bool.false_eq_true, if_false, if_true, ite_true, ite_false, decide_true, decide_false, reduceIte])
      refine alike_ev h rok ook _ ?_
      (try simp only [w_var0, w_varS, w_c, w_imm, w_nil, w_cons, w_dice, w_call, w_x1, w_x2, w_tup, w_lst, w_if, w_and, w_or, w_not, w_yes, w_test, w_boo, w_xand, w_xor, w_xnot, w_chain, w_seq, w_set, w_sifR, w_sifRS, w_sifN, w_sifB, w_sifC, w_ret, w_next, w_break, w_cont, w_never, w_drop, w_set0, w_setS, w_setn0, w_setnS, w_bname, w_mseq, w_seqL, w_seqT, w_mrng1, w_mrng2, w_for, w_lc, w_app, w_onL, w_put, w_aug, w_augS, w_lm, w_setE, w_retE, w_appE, w_pop, w_asgG, w_sl, w_lrg1, w_pno, w_pyes, w_intQ, w_btup, w_bcons, w_bnil, w_oI, w_oIc, w_addI, w_add1I, w_intI, w_intB, w_lenL, w_lenT, w_lenDT, w_lenDK, w_isN, w_notN, w_isB, w_oTupL, w_oTupT, y_mapI, y_mapR, y_immL_I, y_logs, y_immL_R, y_W, y_isA_int, y_isA_bl, y_isA_str, y_isA_non, y_isA_tup, y_isA_lst, y_isA_rD, y_isA_wD, y_isT_int, y_isT_bl, y_isT_str, y_isT_non, y_isT_tup, y_isT_lst, sb1, sb2, sb3, sb4, sb5, sb6, sb7, sb8, sb9, sb10, sb11, sb12, sb13, sb14, sb15, sb16, sb17, sb18, sb19, sb20, sb21, y_isN_int, y_isN_non, y_isN_rD, List.map_id, id_eq, BEq.rfl, bne_self_eq_false, y_imm_int, y_imm_bl, y_imm_non, y_imm_rD, y_imm_wD, y_immL_nil, y_immL_cons, y_imm_tup, y_tup_dInts, y_tup_rows, y_len_dInts, y_len_rowsD, y_len_rD, y_len_wD, y_len_nD, y_eqI, y_neI, y_eqR, y_neR, y_eqW, y_neW, y_eqB, y_neB, y_inR, y_notInR, y_fldW, y_fldD, y_p0, y_p1, y_listT, y_all, y_any, true_and, and_true, Bool.and_self, Bool.and_true, Bool.true_and, Bool.not_true, Bool.not_false, Bool.false_eq_true, if_false, if_true, ite_true, ite_false, decide_true, decide_false, reduceIte])
      rw [show decide (logsF n ws row = logsF n ws o) = decide (o ∈ K) by rw [decide_eq_decide, ki]]
      (try simp only [w_var0, w_varS, w_c, w_imm, w_nil, w_cons, w_dice, w_call, w_x1, w_x2, w_tup, w_lst, w_if, w_and, w_or, w_not, w_yes, w_test, w_boo, w_xand, w_xor, w_xnot, w_chain, w_seq, w_set, w_sifR, w_sifRS, w_sifN, w_sifB, w_sifC, w_ret, w_next, w_break, w_cont, w_never, w_drop, w_set0, w_setS, w_setn0, w_setnS, w_bname, w_mseq, w_seqL, w_seqT, w_mrng1, w_mrng2, w_for, w_lc, w_app, w_onL, w_put, w_aug, w_augS, w_lm, w_setE, w_retE, w_appE, w_pop, w_asgG, w_sl, w_lrg1, w_pno, w_pyes, w_intQ, w_btup, w_bcons, w_bnil, w_oI, w_oIc, w_addI, w_add1I, w_intI, w_intB, w_lenL, w_lenT, w_lenDT, w_lenDK, w_isN, w_notN, w_isB, w_oTupL, w_oTupT, y_mapI, y_mapR, y_immL_I, y_logs, y_immL_R, y_W, y_isA_int, y_isA_bl, y_isA_str, y_isA_non, y_isA_tup, y_isA_lst, y_isA_rD, y_isA_wD, y_isT_int, y_isT_bl, y_isT_str, y_isT_non, y_isT_tup, y_isT_lst, sb1, sb2, sb3, sb4, sb5, sb6, sb7, sb8, sb9, sb10, sb11, sb12, sb13, sb14, sb15, sb16, sb17, sb18, sb19, sb20, sb21, y_isN_int, y_isN_non, y_isN_rD, List.map_id, id_eq, BEq.rfl, bne_self_eq_false, y_imm_int, y_imm_bl, y_imm_non, y_imm_rD, y_imm_wD, y_immL_nil, y_immL_cons, y_imm_tup, y_tup_dInts, y_tup_rows, y_len_dInts, y_len_rowsD, y_len_rD, y_len_wD, y_len_nD, y_eqI, y_neI, y_eqR, y_neR, y_eqW, y_neW, y_eqB, y_neB, y_inR, y_notInR, y_fldW, y_fldD, y_p0, y_p1, y_listT, y_all, y_any, true_and, and_true, Bool.and_self, Bool.and_true, Bool.true_and, Bool.not_true, Bool.not_false, Bool.false_eq_true, if_false, if_true, ite_true, ite_false, decide_true, decide_false, reduceIte])
      exact ⟨_, _, _, rfl⟩
    · rintro env ⟨e10, e11, e12, rfl⟩
      (try simp only [w_var0, w_varS, w_c, w_imm, w_nil, w_cons, w_dice, w_call, w_x1, w_x2, w_tup, w_lst, w_if, w_and, w_or, w_not, w_yes, w_test, w_boo, w_xand, w_xor, w_xnot, w_chain, w_seq, w_set, w_sifR, w_sifRS, w_sifN, w_sifB, w_sifC, w_ret, w_next, w_break, w_cont, w_never, w_drop, w_set0, w_setS, w_setn0, w_setnS, w_bname, w_mseq, w_seqL, w_seqT, w_mrng1, w_mrng2, w_for, w_lc, w_app, w_onL, w_put, w_aug, w_augS, w_lm, w_setE, w_retE, w_appE, w_pop, w_asgG, w_sl, w_lrg1, w_pno, w_pyes, w_intQ, w_btup, w_bcons, w_bnil, w_oI, w_oIc, w_addI, w_add1I, w_intI, w_intB, w_lenL, w_lenT, w_lenDT, w_lenDK, w_isN, w_notN, w_isB, w_oTupL, w_oTupT, y_mapI, y_mapR, y_immL_I, y_logs, y_immL_R, y_W, y_isA_int, y_isA_bl, y_isA_str, y_isA_non, y_isA_tup, y_isA_lst, y_isA_rD, y_isA_wD, y_isT_int, y_isT_bl, y_isT_str, y_isT_non, y_isT_tup, y_isT_lst, sb1, sb2, sb3, sb4, sb5, sb6, sb7, sb8, sb9, sb10, sb11, sb12, sb13, sb14, sb15, sb16, sb17, sb18, sb19, sb20, sb21, y_isN_int, y_isN_non, y_isN_rD, List.map_id, id_eq, BEq.rfl, bne_self_eq_false, y_imm_int, y_imm_bl, y_imm_non, y_imm_rD, y_imm_wD, y_immL_nil, y_immL_cons, y_imm_tup, y_tup_dInts, y_tup_rows, y_len_dInts, y_len_rowsD, y_len_rD, y_len_wD, y_len_nD, y_eqI, y_neI, y_eqR, y_neR, y_eqW, y_neW, y_eqB, y_neB, y_inR, y_notInR, y_fldW, y_fldD, y_p0, y_p1, y_listT, y_all, y_any, true_and, and_true, Bool.and_self, Bool.and_true, Bool.true_and, Bool.not_true, Bool.not_false, Bool.false_eq_true, if_false, if_true, ite_true, ite_false, decide_true, decide_false, reduceIte])
      refine row_ev (by decide) (by decide) h3 h4 _ fun d ⟨row, e, hl, hw⟩ => ?_
      subst e
      have rok : RowOk ws row := ⟨by omega, hw⟩
      refine mixed_ev (by decide) (by decide) hw (by omega) _ fun d ⟨o1, e, l1, w1⟩ => ?_
      subst e
      refine changed_ev h3 h4 hw (by omega) _ fun d ⟨o2, e, l2, w2⟩ => ?_
      subst e
      refine y_slR_hi (k := 60) ?_
      (try simp only [w_var0, w_varS, w_c, w_imm, w_nil, w_cons, w_dice, w_call, w_x1, w_x2, w_tup, w_lst, w_if, w_and, w_or, w_not, w_yes, w_test, w_boo, w_xand, w_xor, w_xnot, w_chain, w_seq, w_set, w_sifR, w_sifRS, w_sifN, w_sifB, w_sifC, w_ret, w_next, w_break, w_cont, w_never, w_drop, w_set0, w_setS, w_setn0, w_setnS, w_bname, w_mseq, w_seqL, w_seqT, w_mrng1, w_mrng2, w_for, w_lc, w_app, w_onL, w_put, w_aug, w_augS, w_lm, w_setE, w_retE, w_appE, w_pop, w_asgG, w_sl, w_lrg1, w_pno, w_pyes, w_intQ, w_btup, w_bcons, w_bnil, w_oI, w_oIc, w_addI, w_add1I, w_intI, w_intB, w_lenL, w_lenT, w_lenDT, w_lenDK, w_isN, w_notN, w_isB, w_oTupL, w_oTupT, y_mapI, y_mapR, y_immL_I, y_logs, y_immL_R, y_W, y_isA_int, y_isA_bl, y_isA_str, y_isA_non, y_isA_tup, y_isA_lst, y_isA_rD, y_isA_wD, y_isT_int, y_isT_bl, y_isT_str, y_isT_non, y_isT_tup, y_isT_lst, sb1, sb2, sb3, sb4, sb5, sb6, sb7, sb8, sb9, sb10, sb11, sb12, sb13, sb14, sb15, sb16, sb17, sb18, sb19, sb20, sb21, y_isN_int, y_isN_non, y_isN_rD, List.map_id, id_eq, BEq.rfl, bne_self_eq_false, y_imm_int, y_imm_bl, y_imm_non, y_imm_rD, y_imm_wD, y_immL_nil, y_immL_cons, y_imm_tup, y_tup_dInts, y_tup_rows, y_len_dInts, y_len_rowsD, y_len_rD, y_len_wD, y_len_nD, y_eqI, y_neI, y_eqR, y_neR, y_eqW, y_neW, y_eqB, y_neB, y_inR, y_notInR, y_fldW, y_fldD, y_p0, y_p1, y_listT, y_all, y_any, true_and, and_true, Bool.and_self, Bool.and_true, Bool.true_and, Bool.not_true, Bool.not_false, Bool.false_eq_true, if_false, if_true, ite_true, ite_false, decide_true, decide_false, reduceIte])
      refine ⟨by show 2 ≤ sizeLine; decide, ?_⟩
      show sLoop _ _ (List.map rD [o1, o2.take 60]) _ _
      refine loop_T (fun p s env => ∃ e11 e12 e15, (∀ o ∈ s, InW ws o ∧ o.length ≤ 60) ∧ env = [none, none, some (.int i), some (pD n ws), some (oD n ws), some (nD (nearF ws)), some (.lst (dInts (rangeI n))), some (rD row), some (.dT kvs), some (wD (logsF n ws _)), e10, e11, e12, e13, e14, e15, e16]) _ ⟨_, _, _, ?_, rfl⟩ ?_ ?_
      · intro o hm
        simp only [List.mem_cons, List.not_mem_nil, or_false] at hm
        rcases hm with rfl | rfl
        · exact ⟨w1, by omega⟩
        · exact ⟨inW_take w2, by rw [List.length_take]; omega⟩
      · rintro p2 o s2 env e2 ⟨e11, e12, e15, hm, rfl⟩
        obtain ⟨ho, hlo⟩ := hm o List.mem_cons_self
        have ook : RowOk ws o := ⟨by omega, ho⟩
        (try simp only [w_var0, w_varS, w_c, w_imm, w_nil, w_cons, w_dice, w_call, w_x1, w_x2, w_tup, w_lst, w_if, w_and, w_or, w_not, w_yes, w_test, w_boo, w_xand, w_xor, w_xnot, w_chain, w_seq, w_set, w_sifR, w_sifRS, w_sifN, w_sifB, w_sifC, w_ret, w_next, w_break, w_cont, w_never, w_drop, w_set0, w_setS, w_setn0, w_setnS, w_bname, w_mseq, w_seqL, w_seqT, w_mrng1, w_mrng2, w_for, w_lc, w_app, w_onL, w_put, w_aug, w_augS, w_lm, w_setE, w_retE, w_appE, w_pop, w_asgG, w_sl, w_lrg1, w_pno, w_pyes, w_intQ, w_btup, w_bcons, w_bnil, w_oI, w_oIc, w_addI, w_add1I, w_intI, w_intB, w_lenL, w_lenT, w_lenDT, w_lenDK, w_isN, w_notN, w_isB, w_oTupL, w_oTupT, y_mapI, y_mapR, y_immL_I, y_logs, y_immL_R, y_W, y_isA_int, y_isA_bl, y_isA_str, y_isA_non, y_isA_tup, y_isA_lst, y_isA_rD, y_isA_wD, y_isT_int, y_isT_bl, y_isT_str, y_isT_non, y_isT_tup, y_isT_lst, sb1, sb2, sb3, sb4, sb5, sb6, sb7, sb8, sb9, sb10, sb11, sb12, sb13, sb14, sb15, sb16, sb17, sb18, sb19, sb20, sb21, y_isN_int, y_isN_non, y_isN_rD, List.map_id, id_eq, BEq.rfl, bne_self_eq_false, y_imm_int, y_imm_bl, y_imm_non, y_imm_rD, y_imm_wD, y_immL_nil, y_immL_cons, y_imm_tup, y_tup_dInts, y_tup_rows, y_len_dInts, y_len_rowsD, y_len_rD, y_len_wD, y_len_nD, y_eqI, y_neI, y_eqR, y_neR, y_eqW, y_neW, y_eqB, y_neB, y_inR, y_notInR, y_fldW, y_fldD, y_p0, y_p1, y_listT, y_all, y_any, true_and, and_true, Bool.and_self, Bool.and_true, Bool.true_and, Bool.not_true, Bool.not_false, Bool.false_eq_true, if_false, if_true, ite_true, ite_false, decide_true, decide_false, reduceIte])
        refine lc_M (fun _ => true) D.bl (by rw [rangeI_len]; omega) (fun d hd R hR => ?_) ?_
        · have hd := mem_rangeI.mp hd
          (try simp only [w_var0, w_varS, w_c, w_imm, w_nil, w_cons, w_dice, w_call, w_x1, w_x2, w_tup, w_lst, w_if, w_and, w_or, w_not, w_yes, w_test, w_boo, w_xand, w_xor, w_xnot, w_chain, w_seq, w_set, w_sifR, w_sifRS, w_sifN, w_sifB, w_sifC, w_ret, w_next, w_break, w_cont, w_never, w_drop, w_set0, w_setS, w_setn0, w_setnS, w_bname, w_mseq, w_seqL, w_seqT, w_mrng1, w_mrng2, w_for, w_lc, w_app, w_onL, w_put, w_aug, w_augS, w_lm, w_setE, w_retE, w_appE, w_pop, w_asgG, w_sl, w_lrg1, w_pno, w_pyes, w_intQ, w_btup, w_bcons, w_bnil, w_oI, w_oIc, w_addI, w_add1I, w_intI, w_intB, w_lenL, w_lenT, w_lenDT, w_lenDK, w_isN, w_notN, w_isB, w_oTupL, w_oTupT, y_mapI, y_mapR, y_immL_I, y_logs, y_immL_R, y_W, y_isA_int, y_isA_bl, y_isA_str, y_isA_non, y_isA_tup, y_isA_lst, y_isA_rD, y_isA_wD, y_isT_int, y_isT_bl, y_isT_str, y_isT_non, y_isT_tup, y_isT_lst, sb1, sb2, sb3, sb4, sb5, sb6, sb7, sb8, sb9, sb10, sb11, sb12, sb13, sb14, sb15, sb16, sb17, sb18, sb19, sb20, sb21, y_isN_int, y_isN_non, y_isN_rD, List.map_id, id_eq, BEq.rfl, bne_self_eq_false, y_imm_int, y_imm_bl, y_imm_non, y_imm_rD, y_imm_wD, y_immL_nil, y_immL_cons, y_imm_tup, y_tup_dInts, y_tup_rows, y_len_dInts, y_len_rowsD, y_len_rD, y_len_wD, y_len_nD, y_eqI, y_neI, y_eqR, y_neR, y_eqW, y_neW, y_eqB, y_neB, y_inR, y_notInR, y_fldW, y_fldD, y_p0, y_p1, y_listT, y_all, y_any, true_and, and_true, Bool.and_self, Bool.and_true, Bool.true_and, Bool.not_true, Bool.not_false, Bool.false_eq_true, if_false, if_true, ite_true, ite_false, decide_true, decide_false, reduceIte])
          refine log_ev h ook hd.1 hd.2 _ (lawlogs_ev h ook _ (y_ixW hd.1 (by rw [logs_len]; omega) ?_))
          rw [logs_at hd.1 hd.2]
          exact same_ev (pl_log ook.1) _ hR
        (try simp only [w_var0, w_varS, w_c, w_imm, w_nil, w_cons, w_dice, w_call, w_x1, w_x2, w_tup, w_lst, w_if, w_and, w_or, w_not, w_yes, w_test, w_boo, w_xand, w_xor, w_xnot, w_chain, w_seq, w_set, w_sifR, w_sifRS, w_sifN, w_sifB, w_sifC, w_ret, w_next, w_break, w_cont, w_never, w_drop, w_set0, w_setS, w_setn0, w_setnS, w_bname, w_mseq, w_seqL, w_seqT, w_mrng1, w_mrng2, w_for, w_lc, w_app, w_onL, w_put, w_aug, w_augS, w_lm, w_setE, w_retE, w_appE, w_pop, w_asgG, w_sl, w_lrg1, w_pno, w_pyes, w_intQ, w_btup, w_bcons, w_bnil, w_oI, w_oIc, w_addI, w_add1I, w_intI, w_intB, w_lenL, w_lenT, w_lenDT, w_lenDK, w_isN, w_notN, w_isB, w_oTupL, w_oTupT, y_mapI, y_mapR, y_immL_I, y_logs, y_immL_R, y_W, y_isA_int, y_isA_bl, y_isA_str, y_isA_non, y_isA_tup, y_isA_lst, y_isA_rD, y_isA_wD, y_isT_int, y_isT_bl, y_isT_str, y_isT_non, y_isT_tup, y_isT_lst, sb1, sb2, sb3, sb4, sb5, sb6, sb7, sb8, sb9, sb10, sb11, sb12, sb13, sb14, sb15, sb16, sb17, sb18, sb19, sb20, sb21, y_isN_int, y_isN_non, y_isN_rD, List.map_id, id_eq, BEq.rfl, bne_self_eq_false, y_imm_int, y_imm_bl, y_imm_non, y_imm_rD, y_imm_wD, y_immL_nil, y_immL_cons, y_imm_tup, y_tup_dInts, y_tup_rows, y_len_dInts, y_len_rowsD, y_len_rD, y_len_wD, y_len_nD, y_eqI, y_neI, y_eqR, y_neR, y_eqW, y_neW, y_eqB, y_neB, y_inR, y_notInR, y_fldW, y_fldD, y_p0, y_p1, y_listT, y_all, y_any, true_and, and_true, Bool.and_self, Bool.and_true, Bool.true_and, Bool.not_true, Bool.not_false, Bool.false_eq_true, if_false, if_true, ite_true, ite_false, decide_true, decide_false, reduceIte])
        rw [show ((rangeI n).map fun _ => true).all id = true by rw [List.all_eq_true]; intro b hb; obtain ⟨_, _, rfl⟩ := List.mem_map.mp hb; rfl]
        (try simp only [w_var0, w_varS, w_c, w_imm, w_nil, w_cons, w_dice, w_call, w_x1, w_x2, w_tup, w_lst, w_if, w_and, w_or, w_not, w_yes, w_test, w_boo, w_xand, w_xor, w_xnot, w_chain, w_seq, w_set, w_sifR, w_sifRS, w_sifN, w_sifB, w_sifC, w_ret, w_next, w_break, w_cont, w_never, w_drop, w_set0, w_setS, w_setn0, w_setnS, w_bname, w_mseq, w_seqL, w_seqT, w_mrng1, w_mrng2, w_for, w_lc, w_app, w_onL, w_put, w_aug, w_augS, w_lm, w_setE, w_retE, w_appE, w_pop, w_asgG, w_sl, w_lrg1, w_pno, w_pyes, w_intQ, w_btup, w_bcons, w_bnil, w_oI, w_oIc, w_addI, w_add1I, w_intI, w_intB, w_lenL, w_lenT, w_lenDT, w_lenDK, w_isN, w_notN, w_isB, w_oTupL, w_oTupT, y_mapI, y_mapR, y_immL_I, y_logs, y_immL_R, y_W, y_isA_int, y_isA_bl, y_isA_str, y_isA_non, y_isA_tup, y_isA_lst, y_isA_rD, y_isA_wD, y_isT_int, y_isT_bl, y_isT_str, y_isT_non, y_isT_tup, y_isT_lst, sb1, sb2, sb3, sb4, sb5, sb6, sb7, sb8, sb9, sb10, sb11, sb12, sb13, sb14, sb15, sb16, sb17, sb18, sb19, sb20, sb21, y_isN_int, y_isN_non, y_isN_rD, List.map_id, id_eq, BEq.rfl, bne_self_eq_false, y_imm_int, y_imm_bl, y_imm_non, y_imm_rD, y_imm_wD, y_immL_nil, y_immL_cons, y_imm_tup, y_tup_dInts, y_tup_rows, y_len_dInts, y_len_rowsD, y_len_rD, y_len_wD, y_len_nD, y_eqI, y_neI, y_eqR, y_neR, y_eqW, y_neW, y_eqB, y_neB, y_inR, y_notInR, y_fldW, y_fldD, y_p0, y_p1, y_listT, y_all, y_any, true_and, and_true, Bool.and_self, Bool.and_true, Bool.true_and, Bool.not_true, Bool.not_false, Bool.false_eq_true, if_false, if_true, ite_true, ite_false, decide_true, decide_false, reduceIte])
        refine lawlogs_ev h ook _ (lawlogs_ev h rok _ ?_)
        (try simp only [w_var0, w_varS, w_c, w_imm, w_nil, w_cons, w_dice, w_call, w_x1, w_x2, w_tup, w_lst, w_if, w_and, w_or, w_not, w_yes, w_test, w_boo, w_xand, w_xor, w_xnot, w_chain, w_seq, w_set, w_sifR, w_sifRS, w_sifN, w_sifB, w_sifC, w_ret, w_next, w_break, w_cont, w_never, w_drop, w_set0, w_setS, w_setn0, w_setnS, w_bname, w_mseq, w_seqL, w_seqT, w_mrng1, w_mrng2, w_for, w_lc, w_app, w_onL, w_put, w_aug, w_augS, w_lm, w_setE, w_retE, w_appE, w_pop, w_asgG, w_sl, w_lrg1, w_pno, w_pyes, w_intQ, w_btup, w_bcons, w_bnil, w_oI, w_oIc, w_addI, w_add1I, w_intI, w_intB, w_lenL, w_lenT, w_lenDT, w_lenDK, w_isN, w_notN, w_isB, w_oTupL, w_oTupT, y_mapI, y_mapR, y_immL_I, y_logs, y_immL_R, y_W, y_isA_int, y_isA_bl, y_isA_str, y_isA_non, y_isA_tup, y_isA_lst, y_isA_rD, y_isA_wD, y_isT_int, y_isT_bl, y_isT_str, y_isT_non, y_isT_tup, y_isT_lst, sb1, sb2, sb3, sb4, sb5, sb6, sb7, sb8, sb9, sb10, sb11, sb12, sb13, sb14, sb15, sb16, sb17, sb18, sb19, sb20, sb21, y_isN_int, y_isN_non, y_isN_rD, List.map_id, id_eq, BEq.rfl, bne_self_eq_false, y_imm_int, y_imm_bl, y_imm_non, y_imm_rD, y_imm_wD, y_immL_nil, y_immL_cons, y_imm_tup, y_tup_dInts, y_tup_rows, y_len_dInts, y_len_rowsD, y_len_rD, y_len_wD, y_len_nD, y_eqI, y_neI, y_eqR, y_neR, y_eqW, y_neW, y_eqB, y_neB, y_inR, y_notInR, y_fldW, y_fldD, y_p0, y_p1, y_listT, y_all, y_any, true_and, and_true, Bool.and_self, Bool.and_true, Bool.true_and, Bool.not_true, Bool.not_false, Bool.false_eq_true, if_false, if_true, ite_true, ite_false, decide_true, decide_false, reduceIte])
        refine least_ev (by omega) hw _ fun d ⟨a, e, la⟩ => ?_
        subst e
        refine least_ev (by omega) ho _ fun d ⟨b, e, lb⟩ => ?_
        subst e
        (try simp only [w_var0, w_varS, w_c, w_imm, w_nil, w_cons, w_dice, w_call, w_x1, w_x2, w_tup, w_lst, w_if, w_and, w_or, w_not, w_yes, w_test, w_boo, w_xand, w_xor, w_xnot, w_chain, w_seq, w_set, w_sifR, w_sifRS, w_sifN, w_sifB, w_sifC, w_ret, w_next, w_break, w_cont, w_never, w_drop, w_set0, w_setS, w_setn0, w_setnS, w_bname, w_mseq, w_seqL, w_seqT, w_mrng1, w_mrng2, w_for, w_lc, w_app, w_onL, w_put, w_aug, w_augS, w_lm, w_setE, w_retE, w_appE, w_pop, w_asgG, w_sl, w_lrg1, w_pno, w_pyes, w_intQ, w_btup, w_bcons, w_bnil, w_oI, w_oIc, w_addI, w_add1I, w_intI, w_intB, w_lenL, w_lenT, w_lenDT, w_lenDK, w_isN, w_notN, w_isB, w_oTupL, w_oTupT, y_mapI, y_mapR, y_immL_I, y_logs, y_immL_R, y_W, y_isA_int, y_isA_bl, y_isA_str, y_isA_non, y_isA_tup, y_isA_lst, y_isA_rD, y_isA_wD, y_isT_int, y_isT_bl, y_isT_str, y_isT_non, y_isT_tup, y_isT_lst, sb1, sb2, sb3, sb4, sb5, sb6, sb7, sb8, sb9, sb10, sb11, sb12, sb13, sb14, sb15, sb16, sb17, sb18, sb19, sb20, sb21, y_isN_int, y_isN_non, y_isN_rD, List.map_id, id_eq, BEq.rfl, bne_self_eq_false, y_imm_int, y_imm_bl, y_imm_non, y_imm_rD, y_imm_wD, y_immL_nil, y_immL_cons, y_imm_tup, y_tup_dInts, y_tup_rows, y_len_dInts, y_len_rowsD, y_len_rD, y_len_wD, y_len_nD, y_eqI, y_neI, y_eqR, y_neR, y_eqW, y_neW, y_eqB, y_neB, y_inR, y_notInR, y_fldW, y_fldD, y_p0, y_p1, y_listT, y_all, y_any, true_and, and_true, Bool.and_self, Bool.and_true, Bool.true_and, Bool.not_true, Bool.not_false, Bool.false_eq_true, if_false, if_true, ite_true, ite_false, decide_true, decide_false, reduceIte])
        have li := lst_iff h hw ho la lb
        rw [show decide (logsF n ws o = logsF n ws row) = decide (a = b) by rw [decide_eq_decide, ← li]; exact eq_comm]
        (try simp only [w_var0, w_varS, w_c, w_imm, w_nil, w_cons, w_dice, w_call, w_x1, w_x2, w_tup, w_lst, w_if, w_and, w_or, w_not, w_yes, w_test, w_boo, w_xand, w_xor, w_xnot, w_chain, w_seq, w_set, w_sifR, w_sifRS, w_sifN, w_sifB, w_sifC, w_ret, w_next, w_break, w_cont, w_never, w_drop, w_set0, w_setS, w_setn0, w_setnS, w_bname, w_mseq, w_seqL, w_seqT, w_mrng1, w_mrng2, w_for, w_lc, w_app, w_onL, w_put, w_aug, w_augS, w_lm, w_setE, w_retE, w_appE, w_pop, w_asgG, w_sl, w_lrg1, w_pno, w_pyes, w_intQ, w_btup, w_bcons, w_bnil, w_oI, w_oIc, w_addI, w_add1I, w_intI, w_intB, w_lenL, w_lenT, w_lenDT, w_lenDK, w_isN, w_notN, w_isB, w_oTupL, w_oTupT, y_mapI, y_mapR, y_immL_I, y_logs, y_immL_R, y_W, y_isA_int, y_isA_bl, y_isA_str, y_isA_non, y_isA_tup, y_isA_lst, y_isA_rD, y_isA_wD, y_isT_int, y_isT_bl, y_isT_str, y_isT_non, y_isT_tup, y_isT_lst, sb1, sb2, sb3, sb4, sb5, sb6, sb7, sb8, sb9, sb10, sb11, sb12, sb13, sb14, sb15, sb16, sb17, sb18, sb19, sb20, sb21, y_isN_int, y_isN_non, y_isN_rD, List.map_id, id_eq, BEq.rfl, bne_self_eq_false, y_imm_int, y_imm_bl, y_imm_non, y_imm_rD, y_imm_wD, y_immL_nil, y_immL_cons, y_imm_tup, y_tup_dInts, y_tup_rows, y_len_dInts, y_len_rowsD, y_len_rD, y_len_wD, y_len_nD, y_eqI, y_neI, y_eqR, y_neR, y_eqW, y_neW, y_eqB, y_neB, y_inR, y_notInR, y_fldW, y_fldD, y_p0, y_p1, y_listT, y_all, y_any, true_and, and_true, Bool.and_self, Bool.and_true, Bool.true_and, Bool.not_true, Bool.not_false, Bool.false_eq_true, if_false, if_true, ite_true, ite_false, decide_true, decide_false, reduceIte])
        refine alike_ev h rok ook _ ?_
        (try simp only [w_var0, w_varS, w_c, w_imm, w_nil, w_cons, w_dice, w_call, w_x1, w_x2, w_tup, w_lst, w_if, w_and, w_or, w_not, w_yes, w_test, w_boo, w_xand, w_xor, w_xnot, w_chain, w_seq, w_set, w_sifR, w_sifRS, w_sifN, w_sifB, w_sifC, w_ret, w_next, w_break, w_cont, w_never, w_drop, w_set0, w_setS, w_setn0, w_setnS, w_bname, w_mseq, w_seqL, w_seqT, w_mrng1, w_mrng2, w_for, w_lc, w_app, w_onL, w_put, w_aug, w_augS, w_lm, w_setE, w_retE, w_appE, w_pop, w_asgG, w_sl, w_lrg1, w_pno, w_pyes, w_intQ, w_btup, w_bcons, w_bnil, w_oI, w_oIc, w_addI, w_add1I, w_intI, w_intB, w_lenL, w_lenT, w_lenDT, w_lenDK, w_isN, w_notN, w_isB, w_oTupL, w_oTupT, y_mapI, y_mapR, y_immL_I, y_logs, y_immL_R, y_W, y_isA_int, y_isA_bl, y_isA_str, y_isA_non, y_isA_tup, y_isA_lst, y_isA_rD, y_isA_wD, y_isT_int, y_isT_bl, y_isT_str, y_isT_non, y_isT_tup, y_isT_lst, sb1, sb2, sb3, sb4, sb5, sb6, sb7, sb8, sb9, sb10, sb11, sb12, sb13, sb14, sb15, sb16, sb17, sb18, sb19, sb20, sb21, y_isN_int, y_isN_non, y_isN_rD, List.map_id, id_eq, BEq.rfl, bne_self_eq_false, y_imm_int, y_imm_bl, y_imm_non, y_imm_rD, y_imm_wD, y_immL_nil, y_immL_cons, y_imm_tup, y_tup_dInts, y_tup_rows, y_len_dInts, y_len_rowsD, y_len_rD, y_len_wD, y_len_nD, y_eqI, y_neI, y_eqR, y_neR, y_eqW, y_neW, y_eqB, y_neB, y_inR, y_notInR, y_fldW, y_fldD, y_p0, y_p1, y_listT, y_all, y_any, true_and, and_true, Bool.and_self, Bool.and_true, Bool.true_and, Bool.not_true, Bool.not_false, Bool.false_eq_true, if_false, if_true, ite_true, ite_false, decide_true, decide_false, reduceIte])
        rw [show decide (logsF n ws row = logsF n ws o) = decide (a = b) by rw [decide_eq_decide, li]]
        (try simp only [w_var0, w_varS, w_c, w_imm, w_nil, w_cons, w_dice, w_call, w_x1, w_x2, w_tup, w_lst, w_if, w_and, w_or, w_not, w_yes, w_test, w_boo, w_xand, w_xor, w_xnot, w_chain, w_seq, w_set, w_sifR, w_sifRS, w_sifN, w_sifB, w_sifC, w_ret, w_next, w_break, w_cont, w_never, w_drop, w_set0, w_setS, w_setn0, w_setnS, w_bname, w_mseq, w_seqL, w_seqT, w_mrng1, w_mrng2, w_for, w_lc, w_app, w_onL, w_put, w_aug, w_augS, w_lm, w_setE, w_retE, w_appE, w_pop, w_asgG, w_sl, w_lrg1, w_pno, w_pyes, w_intQ, w_btup, w_bcons, w_bnil, w_oI, w_oIc, w_addI, w_add1I, w_intI, w_intB, w_lenL, w_lenT, w_lenDT, w_lenDK, w_isN, w_notN, w_isB, w_oTupL, w_oTupT, y_mapI, y_mapR, y_immL_I, y_logs, y_immL_R, y_W, y_isA_int, y_isA_bl, y_isA_str, y_isA_non, y_isA_tup, y_isA_lst, y_isA_rD, y_isA_wD, y_isT_int, y_isT_bl, y_isT_str, y_isT_non, y_isT_tup, y_isT_lst, sb1, sb2, sb3, sb4, sb5, sb6, sb7, sb8, sb9, sb10, sb11, sb12, sb13, sb14, sb15, sb16, sb17, sb18, sb19, sb20, sb21, y_isN_int, y_isN_non, y_isN_rD, List.map_id, id_eq, BEq.rfl, bne_self_eq_false, y_imm_int, y_imm_bl, y_imm_non, y_imm_rD, y_imm_wD, y_immL_nil, y_immL_cons, y_imm_tup, y_tup_dInts, y_tup_rows, y_len_dInts, y_len_rowsD, y_len_rD, y_len_wD, y_len_nD, y_eqI, y_neI, y_eqR, y_neR, y_eqW, y_neW, y_eqB, y_neB, y_inR, y_notInR, y_fldW, y_fldD, y_p0, y_p1, y_listT, y_all, y_any, true_and, and_true, Bool.and_self, Bool.and_true, Bool.true_and, Bool.not_true, Bool.not_false, Bool.false_eq_true, if_false, if_true, ite_true, ite_false, decide_true, decide_false, reduceIte])
        exact ⟨_, _, _, fun o ho => hm o (List.mem_cons_of_mem _ ho), rfl⟩
      · rintro env ⟨e11, e12, e15, hm, rfl⟩
        (try simp only [w_var0, w_varS, w_c, w_imm, w_nil, w_cons, w_dice, w_call, w_x1, w_x2, w_tup, w_lst, w_if, w_and, w_or, w_not, w_yes, w_test, w_boo, w_xand, w_xor, w_xnot, w_chain, w_seq, w_set, w_sifR, w_sifRS, w_sifN, w_sifB, w_sifC, w_ret, w_next, w_break, w_cont, w_never, w_drop, w_set0, w_setS, w_setn0, w_setnS, w_bname, w_mseq, w_seqL, w_seqT, w_mrng1, w_mrng2, w_for, w_lc, w_app, w_onL, w_put, w_aug, w_augS, w_lm, w_setE, w_retE, w_appE, w_pop, w_asgG, w_sl, w_lrg1, w_pno, w_pyes, w_intQ, w_btup, w_bcons, w_bnil, w_oI, w_oIc, w_addI, w_add1I, w_intI, w_intB, w_lenL, w_lenT, w_lenDT, w_lenDK, w_isN, w_notN, w_isB, w_oTupL, w_oTupT, y_mapI, y_mapR, y_immL_I, y_logs, y_immL_R, y_W, y_isA_int, y_isA_bl, y_isA_str, y_isA_non, y_isA_tup, y_isA_lst, y_isA_rD, y_isA_wD, y_isT_int, y_isT_bl, y_isT_str, y_isT_non, y_isT_tup, y_isT_lst, sb1, sb2, sb3, sb4, sb5, sb6, sb7, sb8, sb9, sb10, sb11, sb12, sb13, sb14, sb15, sb16, sb17, sb18, sb19, sb20, sb21, y_isN_int, y_isN_non, y_isN_rD, List.map_id, id_eq, BEq.rfl, bne_self_eq_false, y_imm_int, y_imm_bl, y_imm_non, y_imm_rD, y_imm_wD, y_immL_nil, y_immL_cons, y_imm_tup, y_tup_dInts, y_tup_rows, y_len_dInts, y_len_rowsD, y_len_rD, y_len_wD, y_len_nD, y_eqI, y_neI, y_eqR, y_neR, y_eqW, y_neW, y_eqB, y_neB, y_inR, y_notInR, y_fldW, y_fldD, y_p0, y_p1, y_listT, y_all, y_any, true_and, and_true, Bool.and_self, Bool.and_true, Bool.true_and, Bool.not_true, Bool.not_false, Bool.false_eq_true, if_false, if_true, ite_true, ite_false, decide_true, decide_false, reduceIte])
        refine row_ev (by decide) (by decide) h3 h4 _ fun d ⟨more, e, hl3, hw3⟩ => ?_
        subst e
        refine y_slR_hi (k := 50) ?_
        have tk : (row.take 50).length ≤ 50 := by rw [List.length_take]; omega
        refine y_addR (by omega) ?_
        refine draw_ev (by omega) (by omega) fun z z0 z1 => ?_
        have tok : RowOk ws (row.take 50) := ⟨by omega, inW_take hw⟩
        have mok : RowOk ws more := ⟨by omega, hw3⟩
        refine y_slR_hi (k := 50) ?_
        refine log_ev h tok z0 z1 _ ?_
        (try simp only [w_var0, w_varS, w_c, w_imm, w_nil, w_cons, w_dice, w_call, w_x1, w_x2, w_tup, w_lst, w_if, w_and, w_or, w_not, w_yes, w_test, w_boo, w_xand, w_xor, w_xnot, w_chain, w_seq, w_set, w_sifR, w_sifRS, w_sifN, w_sifB, w_sifC, w_ret, w_next, w_break, w_cont, w_never, w_drop, w_set0, w_setS, w_setn0, w_setnS, w_bname, w_mseq, w_seqL, w_seqT, w_mrng1, w_mrng2, w_for, w_lc, w_app, w_onL, w_put, w_aug, w_augS, w_lm, w_setE, w_retE, w_appE, w_pop, w_asgG, w_sl, w_lrg1, w_pno, w_pyes, w_intQ, w_btup, w_bcons, w_bnil, w_oI, w_oIc, w_addI, w_add1I, w_intI, w_intB, w_lenL, w_lenT, w_lenDT, w_lenDK, w_isN, w_notN, w_isB, w_oTupL, w_oTupT, y_mapI, y_mapR, y_immL_I, y_logs, y_immL_R, y_W, y_isA_int, y_isA_bl, y_isA_str, y_isA_non, y_isA_tup, y_isA_lst, y_isA_rD, y_isA_wD, y_isT_int, y_isT_bl, y_isT_str, y_isT_non, y_isT_tup, y_isT_lst, sb1, sb2, sb3, sb4, sb5, sb6, sb7, sb8, sb9, sb10, sb11, sb12, sb13, sb14, sb15, sb16, sb17, sb18, sb19, sb20, sb21, y_isN_int, y_isN_non, y_isN_rD, List.map_id, id_eq, BEq.rfl, bne_self_eq_false, y_imm_int, y_imm_bl, y_imm_non, y_imm_rD, y_imm_wD, y_immL_nil, y_immL_cons, y_imm_tup, y_tup_dInts, y_tup_rows, y_len_dInts, y_len_rowsD, y_len_rD, y_len_wD, y_len_nD, y_eqI, y_neI, y_eqR, y_neR, y_eqW, y_neW, y_eqB, y_neB, y_inR, y_notInR, y_fldW, y_fldD, y_p0, y_p1, y_listT, y_all, y_any, true_and, and_true, Bool.and_self, Bool.and_true, Bool.true_and, Bool.not_true, Bool.not_false, Bool.false_eq_true, if_false, if_true, ite_true, ite_false, decide_true, decide_false, reduceIte])
        refine log_ev h ⟨by rw [List.length_append]; omega, inW_app tok.2 hw3⟩ z0 z1 _ (log_ev h mok z0 z1 _ ?_)
        have l1 := logF_len (ws := ws) (r := row.take 50) (d := z)
        have l2 := logF_len (ws := ws) (r := more) (d := z)
        refine y_addR (by omega) ?_
        (try simp only [w_var0, w_varS, w_c, w_imm, w_nil, w_cons, w_dice, w_call, w_x1, w_x2, w_tup, w_lst, w_if, w_and, w_or, w_not, w_yes, w_test, w_boo, w_xand, w_xor, w_xnot, w_chain, w_seq, w_set, w_sifR, w_sifRS, w_sifN, w_sifB, w_sifC, w_ret, w_next, w_break, w_cont, w_never, w_drop, w_set0, w_setS, w_setn0, w_setnS, w_bname, w_mseq, w_seqL, w_seqT, w_mrng1, w_mrng2, w_for, w_lc, w_app, w_onL, w_put, w_aug, w_augS, w_lm, w_setE, w_retE, w_appE, w_pop, w_asgG, w_sl, w_lrg1, w_pno, w_pyes, w_intQ, w_btup, w_bcons, w_bnil, w_oI, w_oIc, w_addI, w_add1I, w_intI, w_intB, w_lenL, w_lenT, w_lenDT, w_lenDK, w_isN, w_notN, w_isB, w_oTupL, w_oTupT, y_mapI, y_mapR, y_immL_I, y_logs, y_immL_R, y_W, y_isA_int, y_isA_bl, y_isA_str, y_isA_non, y_isA_tup, y_isA_lst, y_isA_rD, y_isA_wD, y_isT_int, y_isT_bl, y_isT_str, y_isT_non, y_isT_tup, y_isT_lst, sb1, sb2, sb3, sb4, sb5, sb6, sb7, sb8, sb9, sb10, sb11, sb12, sb13, sb14, sb15, sb16, sb17, sb18, sb19, sb20, sb21, y_isN_int, y_isN_non, y_isN_rD, List.map_id, id_eq, BEq.rfl, bne_self_eq_false, y_imm_int, y_imm_bl, y_imm_non, y_imm_rD, y_imm_wD, y_immL_nil, y_immL_cons, y_imm_tup, y_tup_dInts, y_tup_rows, y_len_dInts, y_len_rowsD, y_len_rD, y_len_wD, y_len_nD, y_eqI, y_neI, y_eqR, y_neR, y_eqW, y_neW, y_eqB, y_neB, y_inR, y_notInR, y_fldW, y_fldD, y_p0, y_p1, y_listT, y_all, y_any, true_and, and_true, Bool.and_self, Bool.and_true, Bool.true_and, Bool.not_true, Bool.not_false, Bool.false_eq_true, if_false, if_true, ite_true, ite_false, decide_true, decide_false, reduceIte])
        rw [logF_app]
        (try simp only [w_var0, w_varS, w_c, w_imm, w_nil, w_cons, w_dice, w_call, w_x1, w_x2, w_tup, w_lst, w_if, w_and, w_or, w_not, w_yes, w_test, w_boo, w_xand, w_xor, w_xnot, w_chain, w_seq, w_set, w_sifR, w_sifRS, w_sifN, w_sifB, w_sifC, w_ret, w_next, w_break, w_cont, w_never, w_drop, w_set0, w_setS, w_setn0, w_setnS, w_bname, w_mseq, w_seqL, w_seqT, w_mrng1, w_mrng2, w_for, w_lc, w_app, w_onL, w_put, w_aug, w_augS, w_lm, w_setE, w_retE, w_appE, w_pop, w_asgG, w_sl, w_lrg1, w_pno, w_pyes, w_intQ, w_btup, w_bcons, w_bnil, w_oI, w_oIc, w_addI, w_add1I, w_intI, w_intB, w_lenL, w_lenT, w_lenDT, w_lenDK, w_isN, w_notN, w_isB, w_oTupL, w_oTupT, y_mapI, y_mapR, y_immL_I, y_logs, y_immL_R, y_W, y_isA_int, y_isA_bl, y_isA_str, y_isA_non, y_isA_tup, y_isA_lst, y_isA_rD, y_isA_wD, y_isT_int, y_isT_bl, y_isT_str, y_isT_non, y_isT_tup, y_isT_lst, sb1, sb2, sb3, sb4, sb5, sb6, sb7, sb8, sb9, sb10, sb11, sb12, sb13, sb14, sb15, sb16, sb17, sb18, sb19, sb20, sb21, y_isN_int, y_isN_non, y_isN_rD, List.map_id, id_eq, BEq.rfl, bne_self_eq_false, y_imm_int, y_imm_bl, y_imm_non, y_imm_rD, y_imm_wD, y_immL_nil, y_immL_cons, y_imm_tup, y_tup_dInts, y_tup_rows, y_len_dInts, y_len_rowsD, y_len_rD, y_len_wD, y_len_nD, y_eqI, y_neI, y_eqR, y_neR, y_eqW, y_neW, y_eqB, y_neB, y_inR, y_notInR, y_fldW, y_fldD, y_p0, y_p1, y_listT, y_all, y_any, true_and, and_true, Bool.and_self, Bool.and_true, Bool.true_and, Bool.not_true, Bool.not_false, Bool.false_eq_true, if_false, if_true, ite_true, ite_false, decide_true, decide_false, reduceIte])
        exact ⟨_, _, _, _, _, _, _, _, _, _, _, _, _, _, _, rfl⟩
  · rintro env ⟨e2, e3, e4, e5, e6, e7, e8, e9, e10, e11, e12, e13, e14, e15, e16, rfl⟩
    (try simp only [w_var0, w_varS, w_c, w_imm, w_nil, w_cons, w_dice, w_call, w_x1, w_x2, w_tup, w_lst, w_if, w_and, w_or, w_not, w_yes, w_test, w_boo, w_xand, w_xor, w_xnot, w_chain, w_seq, w_set, w_sifR, w_sifRS, w_sifN, w_sifB, w_sifC, w_ret, w_next, w_break, w_cont, w_never, w_drop, w_set0, w_setS, w_setn0, w_setnS, w_bname, w_mseq, w_seqL, w_seqT, w_mrng1, w_mrng2, w_for, w_lc, w_app, w_onL, w_put, w_aug, w_augS, w_lm, w_setE, w_retE, w_appE, w_pop, w_asgG, w_sl, w_lrg1, w_pno, w_pyes, w_intQ, w_btup, w_bcons, w_bnil, w_oI, w_oIc, w_addI, w_add1I, w_intI, w_intB, w_lenL, w_lenT, w_lenDT, w_lenDK, w_isN, w_notN, w_isB, w_oTupL, w_oTupT, y_mapI, y_mapR, y_immL_I, y_logs, y_immL_R, y_W, y_isA_int, y_isA_bl, y_isA_str, y_isA_non, y_isA_tup, y_isA_lst, y_isA_rD, y_isA_wD, y_isT_int, y_isT_bl, y_isT_str, y_isT_non, y_isT_tup, y_isT_lst, sb1, sb2, sb3, sb4, sb5, sb6, sb7, sb8, sb9, sb10, sb11, sb12, sb13, sb14, sb15, sb16, sb17, sb18, sb19, sb20, sb21, y_isN_int, y_isN_non, y_isN_rD, List.map_id, id_eq, BEq.rfl, bne_self_eq_false, y_imm_int, y_imm_bl, y_imm_non, y_imm_rD, y_imm_wD, y_immL_nil, y_immL_cons, y_imm_tup, y_tup_dInts, y_tup_rows, y_len_dInts, y_len_rowsD, y_len_rD, y_len_wD, y_len_nD, y_eqI, y_neI, y_eqR, y_neR, y_eqW, y_neW, y_eqB, y_neB, y_inR, y_notInR, y_fldW, y_fldD, y_p0, y_p1, y_listT, y_all, y_any, true_and, and_true, Bool.and_self, Bool.and_true, Bool.true_and, Bool.not_true, Bool.not_false, Bool.false_eq_true, if_false, if_true, ite_true, ite_false, decide_true, decide_false, reduceIte])
    rfl
end
end Pu

/-! file V06a -/
set_option Elab.async false
set_option linter.all false
set_option maxRecDepth 100000
set_option synthInstance.maxHeartbeats 0
set_option synthInstance.maxSize 100000
namespace Pu
open PySem PySem.Spec PyProof.Rows L2
section
variable {Q : D → Prop} {n i : Int} {r s row left : List Int} {ws us L : List (List Int)} {C : List Int}
/-- what is left of the logs at counts -/
def Rem (L : List (List Int)) (C : List Int) (d : Int) : List Int := if 0 ≤ d ∧ d < (L.length : Int) then (L.getD d.toNat []).drop (C.getD d.toNat 0).toNat else []
def Ready (ws : List (List Int)) (R : Int → List Int) (x : Int) : Prop := W ws x ≠ [] ∧ ∀ d ∈ W ws x, (R d).head? = some x
instance {ws : List (List Int)} {R : Int → List Int} {x : Int} : Decidable (Ready ws R x) := by unfold Ready; infer_instance
def firstR (ws : List (List Int)) (R : Int → List Int) : Option Int := (rangeI ws.length).find? fun x => decide (Ready ws R x)
def optI : Option Int → D
  | none => .non
  | some x => .int x
/-- each count within its log -/
def COk : List (List Int) → List Int → Prop
  | [], [] => True
  | l :: L, c :: C => 0 ≤ c ∧ c ≤ (l.length : Int) ∧ COk L C
  | _, _ => False
theorem COk.len : ∀ {L : List (List Int)} {C : List Int}, COk L C → C.length = L.length
  | [], [], _ => rfl
  | l :: L, c :: C, h => by simp [COk.len h.2.2]
  | [], _ :: _, h => h.elim
  | _ :: _, [], h => h.elim
theorem COk.at : ∀ {L : List (List Int)} {C : List Int} (k : Nat), COk L C → 0 ≤ C.getD k 0 ∧ C.getD k 0 ≤ ((L.getD k []).length : Int)
  | [], [], k, _ => by simp
  | l :: L, c :: C, 0, h => by simpa using ⟨h.1, h.2.1⟩
  | l :: L, c :: C, k + 1, h => by simpa using COk.at k h.2.2
  | [], _ :: _, _, h => h.elim
  | _ :: _, [], _, h => h.elim
theorem COk.set : ∀ {L : List (List Int)} {C : List Int} (k : Nat) {c : Int}, COk L C → 0 ≤ c → c ≤ ((L.getD k []).length : Int) → COk L (C.set k c)
  | [], [], k, c, _, _, _ => by simp [COk]
  | l :: L, c0 :: C, 0, c, h, h1, h2 => ⟨h1, by simpa using h2, h.2.2⟩
  | l :: L, c0 :: C, k + 1, c, h, h1, h2 => ⟨h.1, h.2.1, COk.set k h.2.2 h1 (by simpa using h2)⟩
  | [], _ :: _, _, _, h, _, _ => h.elim
  | _ :: _, [], _, _, h, _, _ => h.elim
def tot (L : List (List Int)) : Int := (L.map fun l => (l.length : Int)).sum
theorem COk.sum : ∀ {L : List (List Int)} {C : List Int}, COk L C → 0 ≤ C.sum ∧ C.sum ≤ tot L
  | [], [], _ => by simp [tot]
  | l :: L, c :: C, h => by
    have := COk.sum h.2.2
    have h1 := h.1
    have h2 := h.2.1
    simp only [tot, List.map_cons, List.sum_cons] at this ⊢
    omega
  | [], _ :: _, h => h.elim
  | _ :: _, [], h => h.elim
theorem COk.zero : ∀ L : List (List Int), COk L (List.replicate L.length 0)
  | [] => trivial
  | l :: L => ⟨Int.le_refl _, by omega, COk.zero L⟩
theorem sum_set : ∀ {C : List Int} {k : Nat} (c : Int), k < C.length → (C.set k c).sum = C.sum - C.getD k 0 + c
  | [], _, _, h => by simp at h
  | x :: C, 0, c, _ => by simp; omega
  | x :: C, k + 1, c, h => by
    have := sum_set (C := C) (k := k) c (by simpa using h)
    simp at this ⊢
    omega
theorem getD_set {C : List Int} {k j : Nat} {c : Int} (h : k < C.length) : (C.set k c).getD j 0 = if j = k then c else C.getD j 0 := by
  rw [List.getD_eq_getElem?_getD, List.getD_eq_getElem?_getD, List.getElem?_set]
  by_cases e : k = j
  · subst e; simp [h]
  · rw [if_neg e, if_neg (Ne.symm e)]
/-- teams of desks below n, each desk once -/
def TOk (n : Int) (ws : List (List Int)) : Prop := ws.length ≤ 10 ∧ ∀ l ∈ ws, (∀ d ∈ l, 0 ≤ d ∧ d < n) ∧ l.Nodup ∧ l.length ≤ 6
theorem lotOk_pw : ∀ {l : List Int}, lotOk n l → l.Pairwise (· < ·)
  | [], _ => .nil
  | [x], _ => by simp
  | x :: y :: r, h => by
    have ih := lotOk_pw h.2.2.2
    refine List.pairwise_cons.mpr ⟨fun z hz => ?_, ih⟩
    rcases List.mem_cons.mp hz with e | hz
    · rw [e]; exact h.2.2.1
    · have := (List.pairwise_cons.mp ih).1 z hz
      have := h.2.2.1
      omega
theorem tok_of (h : WsOk n ws) : TOk n ws := ⟨h.2.2.2.1, fun l hl => ⟨lotOk_all (h.2.2.2.2 l hl).1, (lotOk_pw (h.2.2.2.2 l hl).1).imp fun h => by omega, (h.2.2.2.2 l hl).2.2⟩⟩
theorem w_mem {x : Int} (hx : 0 ≤ x ∧ x < (ws.length : Int)) : W ws x ∈ ws := by
  unfold W
  rw [List.getD_eq_getElem?_getD, List.getElem?_eq_getElem (show x.toNat < ws.length by omega)]
  exact List.getElem_mem _
theorem head_take (l : List Int) (x : Int) : decide (l.take 1 = [x]) = decide (l.head? = some x) := by
  cases l <;> simp
theorem first_ready_ev (t : TOk n ws) (hn : (L.length : Int) = n) (c : COk L C) : FEv m_first_ready [wD ws, wD L, .lst (dInts C)] (optI (firstR ws (Rem L C))) := fun Q q => by
  have hs : 100 ≤ sizeLine := by decide
  have hc := c.len
  unfold m_first_ready fnM b_first_ready
  simp only [env0, List.map_cons, List.map_nil, List.length_cons, List.length_nil, List.replicate_succ, List.replicate_zero, List.cons_append, List.nil_append, Nat.reduceSub, Nat.reduceAdd, Nat.zero_add, w_var0, w_varS, w_c, w_imm, w_nil, w_cons, w_dice, w_call, w_x1, w_x2, w_tup, w_lst, w_if, w_and, w_or, w_not, w_yes, w_test, w_boo, w_xand, w_xor, w_xnot, w_chain, w_seq, w_set, w_sifR, w_sifRS, w_sifN, w_sifB, w_sifC, w_ret, w_next, w_break, w_cont, w_never, w_drop, w_set0, w_setS, w_setn0, w_setnS, w_bname, w_mseq, w_seqL, w_seqT, w_mrng1, w_mrng2, w_enmU, w_enmL, w_enmT, w_getL, w_getK, w_getT, w_for, w_lc, w_app, w_onL, w_put, w_aug, w_augS, w_lm, w_setE, w_retE, w_appE, w_pop, w_asgG, w_sl, w_lrg1, w_pno, w_pyes, w_intQ, w_btup, w_bcons, w_bnil, w_oI, w_oIc, w_addI, w_add1I, w_intI, w_intB, w_lenL, w_lenT, w_lenDT, w_lenDK, w_isN, w_notN, w_isB, w_oTupL, w_oTupT, y_mapI, y_mapR, List.length_cons, List.length_nil, Nat.reduceAdd, Nat.zero_add, y_rows_rD, y_immL_I, y_logs, y_immL_R, y_W, y_isA_int, y_isA_bl, y_isA_str, y_isA_non, y_isA_tup, y_isA_lst, y_isA_rD, y_isA_wD, y_isT_int, y_isT_bl, y_isT_str, y_isT_non, y_isT_tup, y_isT_lst, sb1, sb2, sb3, sb4, sb5, sb6, sb7, sb8, sb9, sb10, sb11, sb12, sb13, sb14, sb15, sb16, sb17, sb18, sb19, sb20, sb21, y_isN_int, y_isN_non, y_isN_rD, List.map_id, id_eq, BEq.rfl, bne_self_eq_false, y_imm_int, y_imm_bl, y_imm_non, y_imm_rD, y_imm_wD, y_immL_nil, y_immL_cons, y_imm_tup, y_tup_dInts, y_tup_rows, y_len_dInts, y_len_rowsD, y_len_rD, y_len_wD, y_len_nD, y_eqI, y_neI, y_eqR, y_neR, y_eqW, y_neW, y_eqB, y_neB, y_inR, y_notInR, y_fldW, y_fldD, y_p0, y_p1, y_listT, y_all, y_any, true_and, and_true, Bool.and_self, Bool.and_true, Bool.true_and, Bool.not_true, Bool.not_false, Bool.false_eq_true, if_false, if_true, ite_true, ite_false, decide_true, decide_false, reduceIte]
  rw [enD_rows]
  refine loop_T (e := enP ws) (fun p s env => ∃ e3 e4 e5, env = [some (wD ws), some (wD L), some (.lst (dInts C)), e3, e4, e5] ∧ firstR ws (Rem L C) = s.find? fun x => decide (Ready ws (Rem L C) x)) _ ⟨_, _, _, rfl, rfl⟩ ?_ ?_
  · rintro p x s env e ⟨e3, e4, e5, rfl, hf⟩
    have hx : 0 ≤ x ∧ x < (ws.length : Int) := mem_rangeI.mp (by rw [← e]; simp)
    obtain ⟨hd, nd, wl⟩ := t.2 _ (w_mem hx)
    unfold enP
    (try simp only [w_var0, w_varS, w_c, w_imm, w_nil, w_cons, w_dice, w_call, w_x1, w_x2, w_tup, w_lst, w_if, w_and, w_or, w_not, w_yes, w_test, w_boo, w_xand, w_xor, w_xnot, w_chain, w_seq, w_set, w_sifR, w_sifRS, w_sifN, w_sifB, w_sifC, w_ret, w_next, w_break, w_cont, w_never, w_drop, w_set0, w_setS, w_setn0, w_setnS, w_bname, w_mseq, w_seqL, w_seqT, w_mrng1, w_mrng2, w_enmU, w_enmL, w_enmT, w_getL, w_getK, w_getT, w_for, w_lc, w_app, w_onL, w_put, w_aug, w_augS, w_lm, w_setE, w_retE, w_appE, w_pop, w_asgG, w_sl, w_lrg1, w_pno, w_pyes, w_intQ, w_btup, w_bcons, w_bnil, w_oI, w_oIc, w_addI, w_add1I, w_intI, w_intB, w_lenL, w_lenT, w_lenDT, w_lenDK, w_isN, w_notN, w_isB, w_oTupL, w_oTupT, y_mapI, y_mapR, List.length_cons, List.length_nil, Nat.reduceAdd, Nat.zero_add, y_rows_rD, y_immL_I, y_logs, y_immL_R, y_W, y_isA_int, y_isA_bl, y_isA_str, y_isA_non, y_isA_tup, y_isA_lst, y_isA_rD, y_isA_wD, y_isT_int, y_isT_bl, y_isT_str, y_isT_non, y_isT_tup, y_isT_lst, sb1, sb2, sb3, sb4, sb5, sb6, sb7, sb8, sb9, sb10, sb11, sb12, sb13, sb14, sb15, sb16, sb17, sb18, sb19, sb20, sb21, y_isN_int, y_isN_non, y_isN_rD, List.map_id, id_eq, BEq.rfl, bne_self_eq_false, y_imm_int, y_imm_bl, y_imm_non, y_imm_rD, y_imm_wD, y_immL_nil, y_immL_cons, y_imm_tup, y_tup_dInts, y_tup_rows, y_len_dInts, y_len_rowsD, y_len_rD, y_len_wD, y_len_nD, y_eqI, y_neI, y_eqR, y_neR, y_eqW, y_neW, y_eqB, y_neB, y_inR, y_notInR, y_fldW, y_fldD, y_p0, y_p1, y_listT, y_all, y_any, true_and, and_true, Bool.and_self, Bool.and_true, Bool.true_and, Bool.not_true, Bool.not_false, Bool.false_eq_true, if_false, if_true, ite_true, ite_false, decide_true, decide_false, reduceIte])
    have key : ∀ N : Prop, (Ready ws (Rem L C) x → Q (.int x)) → (¬ Ready ws (Rem L C) x → N) → (if decide (0 < ((W ws x).length : Int)) = true then lcLoop (bName 5) bYes (x2 oEq (xSl (x2 oIx (xVar 1) (xVar 5)) (pYes (x2 oIx (xVar 2) (xVar 5))) (pYes (x2 oAdd (x2 oIx (xVar 2) (xVar 5)) (xC (D.int 1))))) (xTup (xCons (xImm (xVar 3)) xNil))) [some (wD ws), some (wD L), some (.lst (dInts C)), some (.int x), some (rD (W ws x)), e5] (dInts (W ws x)) [] fun acc => oAny true (.lst acc) fun d => boo d fun k => if k = true then Q (.int x) else N else N) := fun N k1 k2 => by
      split
      · rename_i h0
        have h0 := of_decide_eq_true h0
        refine lc_M (fun d => decide ((Rem L C d).take 1 = [x])) D.bl (by omega) (fun d hdm R hR => ?_) ?_
        · have hd := hd d hdm
          have cd := c.at d.toNat
          (try simp only [w_var0, w_varS, w_c, w_imm, w_nil, w_cons, w_dice, w_call, w_x1, w_x2, w_tup, w_lst, w_if, w_and, w_or, w_not, w_yes, w_test, w_boo, w_xand, w_xor, w_xnot, w_chain, w_seq, w_set, w_sifR, w_sifRS, w_sifN, w_sifB, w_sifC, w_ret, w_next, w_break, w_cont, w_never, w_drop, w_set0, w_setS, w_setn0, w_setnS, w_bname, w_mseq, w_seqL, w_seqT, w_mrng1, w_mrng2, w_enmU, w_enmL, w_enmT, w_getL, w_getK, w_getT, w_for, w_lc, w_app, w_onL, w_put, w_aug, w_augS, w_lm, w_setE, w_retE, w_appE, w_pop, w_asgG, w_sl, w_lrg1, w_pno, w_pyes, w_intQ, w_btup, w_bcons, w_bnil, w_oI, w_oIc, w_addI, w_add1I, w_intI, w_intB, w_lenL, w_lenT, w_lenDT, w_lenDK, w_isN, w_notN, w_isB, w_oTupL, w_oTupT, y_mapI, y_mapR, List.length_cons, List.length_nil, Nat.reduceAdd, Nat.zero_add, y_rows_rD, y_immL_I, y_logs, y_immL_R, y_W, y_isA_int, y_isA_bl, y_isA_str, y_isA_non, y_isA_tup, y_isA_lst, y_isA_rD, y_isA_wD, y_isT_int, y_isT_bl, y_isT_str, y_isT_non, y_isT_tup, y_isT_lst, sb1, sb2, sb3, sb4, sb5, sb6, sb7, sb8, sb9, sb10, sb11, sb12, sb13, sb14, sb15, sb16, sb17, sb18, sb19, sb20, sb21, y_isN_int, y_isN_non, y_isN_rD, List.map_id, id_eq, BEq.rfl, bne_self_eq_false, y_imm_int, y_imm_bl, y_imm_non, y_imm_rD, y_imm_wD, y_immL_nil, y_immL_cons, y_imm_tup, y_tup_dInts, y_tup_rows, y_len_dInts, y_len_rowsD, y_len_rD, y_len_wD, y_len_nD, y_eqI, y_neI, y_eqR, y_neR, y_eqW, y_neW, y_eqB, y_neB, y_inR, y_notInR, y_fldW, y_fldD, y_p0, y_p1, y_listT, y_all, y_any, true_and, and_true, Bool.and_self, Bool.and_true, Bool.true_and, Bool.not_true, Bool.not_false, Bool.false_eq_true, if_false, if_true, ite_true, ite_false, decide_true, decide_false, reduceIte])
          refine y_ixW hd.1 (by omega) (y_ixL hd.1 (by omega) (y_ixL hd.1 (by omega) ?_))
          (try simp only [w_var0, w_varS, w_c, w_imm, w_nil, w_cons, w_dice, w_call, w_x1, w_x2, w_tup, w_lst, w_if, w_and, w_or, w_not, w_yes, w_test, w_boo, w_xand, w_xor, w_xnot, w_chain, w_seq, w_set, w_sifR, w_sifRS, w_sifN, w_sifB, w_sifC, w_ret, w_next, w_break, w_cont, w_never, w_drop, w_set0, w_setS, w_setn0, w_setnS, w_bname, w_mseq, w_seqL, w_seqT, w_mrng1, w_mrng2, w_enmU, w_enmL, w_enmT, w_getL, w_getK, w_getT, w_for, w_lc, w_app, w_onL, w_put, w_aug, w_augS, w_lm, w_setE, w_retE, w_appE, w_pop, w_asgG, w_sl, w_lrg1, w_pno, w_pyes, w_intQ, w_btup, w_bcons, w_bnil, w_oI, w_oIc, w_addI, w_add1I, w_intI, w_intB, w_lenL, w_lenT, w_lenDT, w_lenDK, w_isN, w_notN, w_isB, w_oTupL, w_oTupT, y_mapI, y_mapR, List.length_cons, List.length_nil, Nat.reduceAdd, Nat.zero_add, y_rows_rD, y_immL_I, y_logs, y_immL_R, y_W, y_isA_int, y_isA_bl, y_isA_str, y_isA_non, y_isA_tup, y_isA_lst, y_isA_rD, y_isA_wD, y_isT_int, y_isT_bl, y_isT_str, y_isT_non, y_isT_tup, y_isT_lst, sb1, sb2, sb3, sb4, sb5, sb6, sb7, sb8, sb9, sb10, sb11, sb12, sb13, sb14, sb15, sb16, sb17, sb18, sb19, sb20, sb21, y_isN_int, y_isN_non, y_isN_rD, List.map_id, id_eq, BEq.rfl, bne_self_eq_false, y_imm_int, y_imm_bl, y_imm_non, y_imm_rD, y_imm_wD, y_immL_nil, y_immL_cons, y_imm_tup, y_tup_dInts, y_tup_rows, y_len_dInts, y_len_rowsD, y_len_rD, y_len_wD, y_len_nD, y_eqI, y_neI, y_eqR, y_neR, y_eqW, y_neW, y_eqB, y_neB, y_inR, y_notInR, y_fldW, y_fldD, y_p0, y_p1, y_listT, y_all, y_any, true_and, and_true, Bool.and_self, Bool.and_true, Bool.true_and, Bool.not_true, Bool.not_false, Bool.false_eq_true, if_false, if_true, ite_true, ite_false, decide_true, decide_false, reduceIte])
          refine y_sl1 cd.1 ⟨by show 1 ≤ sizeLine; omega, ?_⟩
          rw [show D.tup [D.int x] = rD [x] from rfl, y_eqR]
          unfold Rem at hR
          rw [if_pos (by omega)] at hR
          exact hR
        · (try simp only [w_var0, w_varS, w_c, w_imm, w_nil, w_cons, w_dice, w_call, w_x1, w_x2, w_tup, w_lst, w_if, w_and, w_or, w_not, w_yes, w_test, w_boo, w_xand, w_xor, w_xnot, w_chain, w_seq, w_set, w_sifR, w_sifRS, w_sifN, w_sifB, w_sifC, w_ret, w_next, w_break, w_cont, w_never, w_drop, w_set0, w_setS, w_setn0, w_setnS, w_bname, w_mseq, w_seqL, w_seqT, w_mrng1, w_mrng2, w_enmU, w_enmL, w_enmT, w_getL, w_getK, w_getT, w_for, w_lc, w_app, w_onL, w_put, w_aug, w_augS, w_lm, w_setE, w_retE, w_appE, w_pop, w_asgG, w_sl, w_lrg1, w_pno, w_pyes, w_intQ, w_btup, w_bcons, w_bnil, w_oI, w_oIc, w_addI, w_add1I, w_intI, w_intB, w_lenL, w_lenT, w_lenDT, w_lenDK, w_isN, w_notN, w_isB, w_oTupL, w_oTupT, y_mapI, y_mapR, List.length_cons, List.length_nil, Nat.reduceAdd, Nat.zero_add, y_rows_rD, y_immL_I, y_logs, y_immL_R, y_W, y_isA_int, y_isA_bl, y_isA_str, y_isA_non, y_isA_tup, y_isA_lst, y_isA_rD, y_isA_wD, y_isT_int, y_isT_bl, y_isT_str, y_isT_non, y_isT_tup, y_isT_lst, sb1, sb2, sb3, sb4, sb5, sb6, sb7, sb8, sb9, sb10, sb11, sb12, sb13, sb14, sb15, sb16, sb17, sb18, sb19, sb20, sb21, y_isN_int, y_isN_non, y_isN_rD, List.map_id, id_eq, BEq.rfl, bne_self_eq_false, y_imm_int, y_imm_bl, y_imm_non, y_imm_rD, y_imm_wD, y_immL_nil, y_immL_cons, y_imm_tup, y_tup_dInts, y_tup_rows, y_len_dInts, y_len_rowsD, y_len_rD, y_len_wD, y_len_nD, y_eqI, y_neI, y_eqR, y_neR, y_eqW, y_neW, y_eqB, y_neB, y_inR, y_notInR, y_fldW, y_fldD, y_p0, y_p1, y_listT, y_all, y_any, true_and, and_true, Bool.and_self, Bool.and_true, Bool.true_and, Bool.not_true, Bool.not_false, Bool.false_eq_true, if_false, if_true, ite_true, ite_false, decide_true, decide_false, reduceIte])
          split
          · rename_i h1
            refine k1 ⟨fun e => by rw [e] at h0; simp at h0, fun d hdm => ?_⟩
            have := List.all_eq_true.mp h1 _ (List.mem_map.mpr ⟨d, hdm, rfl⟩)
            rw [head_take] at this
            exact of_decide_eq_true this
          · rename_i h1
            refine k2 fun rd => h1 ?_
            rw [List.all_eq_true]
            intro b hb
            obtain ⟨d, hdm, rfl⟩ := List.mem_map.mp hb
            show decide _ = true
            rw [head_take]
            exact decide_eq_true (rd.2 d hdm)
      · rename_i h0
        refine k2 fun rd => h0 (decide_eq_true ?_)
        have := List.length_pos_iff.mpr rd.1
        omega
    refine key _ (fun rd => ?_) fun nr => ?_
    · rw [hf, List.find?_cons, decide_eq_true rd] at q
      exact q
    · refine ⟨_, _, _, rfl, ?_⟩
      rw [hf, List.find?_cons, decide_eq_false nr]
  · rintro env ⟨e3, e4, e5, rfl, hf⟩
    (try simp only [w_var0, w_varS, w_c, w_imm, w_nil, w_cons, w_dice, w_call, w_x1, w_x2, w_tup, w_lst, w_if, w_and, w_or, w_not, w_yes, w_test, w_boo, w_xand, w_xor, w_xnot, w_chain, w_seq, w_set, w_sifR, w_sifRS, w_sifN, w_sifB, w_sifC, w_ret, w_next, w_break, w_cont, w_never, w_drop, w_set0, w_setS, w_setn0, w_setnS, w_bname, w_mseq, w_seqL, w_seqT, w_mrng1, w_mrng2, w_enmU, w_enmL, w_enmT, w_getL, w_getK, w_getT, w_for, w_lc, w_app, w_onL, w_put, w_aug, w_augS, w_lm, w_setE, w_retE, w_appE, w_pop, w_asgG, w_sl, w_lrg1, w_pno, w_pyes, w_intQ, w_btup, w_bcons, w_bnil, w_oI, w_oIc, w_addI, w_add1I, w_intI, w_intB, w_lenL, w_lenT, w_lenDT, w_lenDK, w_isN, w_notN, w_isB, w_oTupL, w_oTupT, y_mapI, y_mapR, List.length_cons, List.length_nil, Nat.reduceAdd, Nat.zero_add, y_rows_rD, y_immL_I, y_logs, y_immL_R, y_W, y_isA_int, y_isA_bl, y_isA_str, y_isA_non, y_isA_tup, y_isA_lst, y_isA_rD, y_isA_wD, y_isT_int, y_isT_bl, y_isT_str, y_isT_non, y_isT_tup, y_isT_lst, sb1, sb2, sb3, sb4, sb5, sb6, sb7, sb8, sb9, sb10, sb11, sb12, sb13, sb14, sb15, sb16, sb17, sb18, sb19, sb20, sb21, y_isN_int, y_isN_non, y_isN_rD, List.map_id, id_eq, BEq.rfl, bne_self_eq_false, y_imm_int, y_imm_bl, y_imm_non, y_imm_rD, y_imm_wD, y_immL_nil, y_immL_cons, y_imm_tup, y_tup_dInts, y_tup_rows, y_len_dInts, y_len_rowsD, y_len_rD, y_len_wD, y_len_nD, y_eqI, y_neI, y_eqR, y_neR, y_eqW, y_neW, y_eqB, y_neB, y_inR, y_notInR, y_fldW, y_fldD, y_p0, y_p1, y_listT, y_all, y_any, true_and, and_true, Bool.and_self, Bool.and_true, Bool.true_and, Bool.not_true, Bool.not_false, Bool.false_eq_true, if_false, if_true, ite_true, ite_false, decide_true, decide_false, reduceIte])
    rw [hf] at q
    exact q
end
end Pu

/-! file V06b -/
set_option Elab.async false
set_option linter.all false
set_option maxRecDepth 100000
set_option synthInstance.maxHeartbeats 0
set_option synthInstance.maxSize 100000
namespace Pu
open PySem PySem.Spec PyProof.Rows L2
section
variable {Q : D → Prop} {n i : Int} {r s row left : List Int} {ws us L : List (List Int)} {C : List Int}
/-- the events done one after another, always the least work that stands next in all its logs -/
inductive Run (ws : List (List Int)) : (Int → List Int) → List Int → (Int → List Int) → Prop
  | stop {R : Int → List Int} : firstR ws R = none → Run ws R [] R
  | step {R R' : Int → List Int} {x : Int} {row : List Int} : firstR ws R = some x → Run ws (fun d => if d ∈ W ws x then (R d).tail else R d) row R' → Run ws R (x :: row) R'
def bump (C : List Int) (ds : List Int) : List Int := ds.foldl (fun C d => C.set d.toNat (C.getD d.toNat 0 + 1)) C
theorem bump_snoc {C ds : List Int} {d : Int} : bump C (ds ++ [d]) = (bump C ds).set d.toNat ((bump C ds).getD d.toNat 0 + 1) := by simp [bump]
theorem bump_len {C : List Int} : ∀ ds : List Int, (bump C ds).length = C.length := by
  intro ds
  induction ds generalizing C with
  | nil => rfl
  | cons d ds ih =>
    show (bump (C.set d.toNat (C.getD d.toNat 0 + 1)) ds).length = _
    rw [ih, List.length_set]
theorem bump_at : ∀ {ds C : List Int} {j : Int}, ds.Nodup → (∀ d ∈ ds, 0 ≤ d ∧ d < (C.length : Int)) → 0 ≤ j → (bump C ds).getD j.toNat 0 = C.getD j.toNat 0 + if j ∈ ds then 1 else 0
  | [], C, j, _, _, _ => by simp [bump]
  | d :: ds, C, j, nd, h, hj => by
    have hd := h d List.mem_cons_self
    have nd2 := List.nodup_cons.mp nd
    show (bump (C.set d.toNat (C.getD d.toNat 0 + 1)) ds).getD j.toNat 0 = _
    rw [bump_at (C := C.set d.toNat (C.getD d.toNat 0 + 1)) nd2.2 (fun z hz => by rw [List.length_set]; exact h z (List.mem_cons_of_mem _ hz)) hj, getD_set (by omega)]
    by_cases e : j = d
    · subst e
      rw [if_pos rfl, if_neg nd2.1, if_pos List.mem_cons_self]
      omega
    · rw [if_neg (by omega)]
      simp [e]
theorem bump_sum : ∀ {ds C : List Int}, (∀ d ∈ ds, 0 ≤ d ∧ d < (C.length : Int)) → (bump C ds).sum = C.sum + (ds.length : Int)
  | [], C, _ => by simp [bump]
  | d :: ds, C, h => by
    have hd := h d List.mem_cons_self
    show (bump (C.set d.toNat (C.getD d.toNat 0 + 1)) ds).sum = _
    rw [bump_sum (C := C.set d.toNat (C.getD d.toNat 0 + 1)) (fun z hz => by rw [List.length_set]; exact h z (List.mem_cons_of_mem _ hz)), sum_set _ (by omega)]
    simp
    omega
theorem cok_iff : ∀ {L : List (List Int)} {C : List Int}, C.length = L.length → (∀ k : Nat, k < L.length → 0 ≤ C.getD k 0 ∧ C.getD k 0 ≤ ((L.getD k []).length : Int)) → COk L C
  | [], [], _, _ => trivial
  | l :: L, c :: C, e, h => ⟨(by simpa using (h 0 (by simp)).1), (by simpa using (h 0 (by simp)).2), cok_iff (by simpa using e) fun k hk => by simpa using h (k + 1) (by simpa using hk)⟩
  | [], _ :: _, e, _ => by simp at e
  | _ :: _, [], e, _ => by simp at e
theorem first_some {R : Int → List Int} {x : Int} (h : firstR ws R = some x) : (0 ≤ x ∧ x < (ws.length : Int)) ∧ Ready ws R x := by
  unfold firstR at h
  refine ⟨mem_rangeI.mp (List.mem_of_find?_eq_some h), ?_⟩
  have := List.find?_some h
  exact of_decide_eq_true this
theorem rem_bump (t : TOk n ws) (hn : (L.length : Int) = n) (c : COk L C) {x : Int} (h : firstR ws (Rem L C) = some x) : COk L (bump C (W ws x)) ∧ Rem L (bump C (W ws x)) = fun d => if d ∈ W ws x then (Rem L C d).tail else Rem L C d := by
  obtain ⟨hx, hr⟩ := first_some h
  obtain ⟨hd, nd, wl⟩ := t.2 _ (w_mem hx)
  have hc := c.len
  have hdC : ∀ d ∈ W ws x, 0 ≤ d ∧ d < (C.length : Int) := fun d hm => by have := hd d hm; omega
  have room : ∀ d ∈ W ws x, C.getD d.toNat 0 < ((L.getD d.toNat []).length : Int) := fun d hm => by
    have h1 := hr.2 d hm
    have h2 := hd d hm
    have h3 := c.at d.toNat
    unfold Rem at h1
    rw [if_pos (by omega)] at h1
    by_cases e : C.getD d.toNat 0 < ((L.getD d.toNat []).length : Int)
    · exact e
    · rw [List.drop_eq_nil_of_le (by omega)] at h1
      cases h1
  refine ⟨cok_iff (by rw [bump_len, hc]) fun k hk => ?_, funext fun d => ?_⟩
  · have b := bump_at (j := (k : Int)) nd hdC (by omega)
    rw [Int.toNat_natCast] at b
    rw [b]
    have := c.at k
    by_cases e : (k : Int) ∈ W ws x
    · rw [if_pos e]
      have := room _ e
      rw [Int.toNat_natCast] at this
      omega
    · rw [if_neg e]; omega
  · unfold Rem
    by_cases e : 0 ≤ d ∧ d < (L.length : Int)
    · rw [if_pos e, if_pos e, bump_at nd hdC e.1]
      have := c.at d.toNat
      by_cases m : d ∈ W ws x
      · rw [if_pos m, if_pos m, List.tail_drop]
        congr 1
        omega
      · rw [if_neg m, if_neg m, Int.add_zero]
    · rw [if_neg e, if_neg e]
      by_cases m : d ∈ W ws x
      · rw [if_pos m]; rfl
      · rw [if_neg m]
def zeros (k : Nat) : List Int := List.replicate k 0
theorem rep_zeros (k : Nat) : (List.replicate ((k : Int)).toNat [D.int 0]).flatten = dInts (zeros k) := by
  rw [Int.toNat_natCast]
  induction k with
  | zero => rfl
  | succ k ih =>
    rw [List.replicate_succ, List.flatten_cons, ih]
    rfl
theorem done_ev (t : TOk n ws) (hn : (L.length : Int) = n) (n6 : n ≤ 6) (ht : tot L ≤ 1000) : FP m_done_by_teams [wD ws, wD L] (fun d => ∃ row C, d = .tup [rD row, rD C] ∧ COk L C ∧ Run ws (Rem L (zeros L.length)) row (Rem L C) ∧ (row.length : Int) ≤ C.sum) := fun Q q => by
  have hs : 10000 ≤ sizeLine := by decide
  unfold m_done_by_teams fnM b_done_by_teams
  simp only [env0, List.map_cons, List.map_nil, List.length_cons, List.length_nil, List.replicate_succ, List.replicate_zero, List.cons_append, List.nil_append, Nat.reduceSub, Nat.reduceAdd, Nat.zero_add, w_var0, w_varS, w_c, w_imm, w_nil, w_cons, w_dice, w_call, w_x1, w_x2, w_tup, w_lst, w_if, w_and, w_or, w_not, w_yes, w_test, w_boo, w_xand, w_xor, w_xnot, w_chain, w_seq, w_set, w_sifR, w_sifRS, w_sifN, w_sifB, w_sifC, w_ret, w_next, w_break, w_cont, w_never, w_drop, w_set0, w_setS, w_setn0, w_setnS, w_bname, w_mseq, w_seqL, w_seqT, w_mrng1, w_mrng2, w_enmU, w_enmL, w_enmT, w_getL, w_getK, w_getT, w_for, w_lc, w_app, w_onL, w_put, w_aug, w_augS, w_lm, w_setE, w_retE, w_appE, w_pop, w_asgG, w_sl, w_lrg1, w_pno, w_pyes, w_intQ, w_btup, w_bcons, w_bnil, w_oI, w_oIc, w_addI, w_add1I, w_intI, w_intB, w_lenL, w_lenT, w_lenDT, w_lenDK, w_isN, w_notN, w_isB, w_oTupL, w_oTupT, y_mapI, y_mapR, List.length_cons, List.length_nil, Nat.reduceAdd, Nat.zero_add, y_rows_rD, y_immL_I, y_logs, y_immL_R, y_W, y_isA_int, y_isA_bl, y_isA_str, y_isA_non, y_isA_tup, y_isA_lst, y_isA_rD, y_isA_wD, y_isT_int, y_isT_bl, y_isT_str, y_isT_non, y_isT_tup, y_isT_lst, sb1, sb2, sb3, sb4, sb5, sb6, sb7, sb8, sb9, sb10, sb11, sb12, sb13, sb14, sb15, sb16, sb17, sb18, sb19, sb20, sb21, y_isN_int, y_isN_non, y_isN_rD, List.map_id, id_eq, BEq.rfl, bne_self_eq_false, y_imm_int, y_imm_bl, y_imm_non, y_imm_rD, y_imm_wD, y_immL_nil, y_immL_cons, y_imm_tup, y_tup_dInts, y_tup_rows, y_len_dInts, y_len_rowsD, y_len_rD, y_len_wD, y_len_nD, y_eqI, y_neI, y_eqR, y_neR, y_eqW, y_neW, y_eqB, y_neB, y_inR, y_notInR, y_fldW, y_fldD, y_p0, y_p1, y_listT, y_all, y_any, true_and, and_true, Bool.and_self, Bool.and_true, Bool.true_and, Bool.not_true, Bool.not_false, Bool.false_eq_true, if_false, if_true, ite_true, ite_false, decide_true, decide_false, reduceIte]
  refine ⟨by show 1 ≤ sizeLine; omega, rfl, by omega, by omega, by simp; omega, by show 0 ≤ sizeLine; omega, ?_⟩
  rw [rep_zeros]
  refine first_ready_ev t hn (COk.zero L) _ ?_
  refine ⟨fun m env => ∃ C row e5, env = [some (wD ws), some (wD L), some (.lst (dInts C)), some (.lst (dInts row)), some (optI (firstR ws (Rem L C))), e5] ∧ COk L C ∧ (∀ rest R', Run ws (Rem L C) rest R' → Run ws (Rem L (zeros L.length)) (row ++ rest) R') ∧ (row.length : Int) ≤ C.sum ∧ m = (tot L - C.sum).toNat, ⟨_, zeros L.length, [], none, rfl, COk.zero L, fun rest R' h => h, (COk.zero L).sum.1, rfl⟩, ?_⟩
  rintro m env ⟨C, row, e5, rfl, c, hr, hl, rfl⟩
  have hc := c.len
  have hsum := c.sum
  (try simp only [w_var0, w_varS, w_c, w_imm, w_nil, w_cons, w_dice, w_call, w_x1, w_x2, w_tup, w_lst, w_if, w_and, w_or, w_not, w_yes, w_test, w_boo, w_xand, w_xor, w_xnot, w_chain, w_seq, w_set, w_sifR, w_sifRS, w_sifN, w_sifB, w_sifC, w_ret, w_next, w_break, w_cont, w_never, w_drop, w_set0, w_setS, w_setn0, w_setnS, w_bname, w_mseq, w_seqL, w_seqT, w_mrng1, w_mrng2, w_enmU, w_enmL, w_enmT, w_getL, w_getK, w_getT, w_for, w_lc, w_app, w_onL, w_put, w_aug, w_augS, w_lm, w_setE, w_retE, w_appE, w_pop, w_asgG, w_sl, w_lrg1, w_pno, w_pyes, w_intQ, w_btup, w_bcons, w_bnil, w_oI, w_oIc, w_addI, w_add1I, w_intI, w_intB, w_lenL, w_lenT, w_lenDT, w_lenDK, w_isN, w_notN, w_isB, w_oTupL, w_oTupT, y_mapI, y_mapR, List.length_cons, List.length_nil, Nat.reduceAdd, Nat.zero_add, y_rows_rD, y_immL_I, y_logs, y_immL_R, y_W, y_isA_int, y_isA_bl, y_isA_str, y_isA_non, y_isA_tup, y_isA_lst, y_isA_rD, y_isA_wD, y_isT_int, y_isT_bl, y_isT_str, y_isT_non, y_isT_tup, y_isT_lst, sb1, sb2, sb3, sb4, sb5, sb6, sb7, sb8, sb9, sb10, sb11, sb12, sb13, sb14, sb15, sb16, sb17, sb18, sb19, sb20, sb21, y_isN_int, y_isN_non, y_isN_rD, List.map_id, id_eq, BEq.rfl, bne_self_eq_false, y_imm_int, y_imm_bl, y_imm_non, y_imm_rD, y_imm_wD, y_immL_nil, y_immL_cons, y_imm_tup, y_tup_dInts, y_tup_rows, y_len_dInts, y_len_rowsD, y_len_rD, y_len_wD, y_len_nD, y_eqI, y_neI, y_eqR, y_neR, y_eqW, y_neW, y_eqB, y_neB, y_inR, y_notInR, y_fldW, y_fldD, y_p0, y_p1, y_listT, y_all, y_any, true_and, and_true, Bool.and_self, Bool.and_true, Bool.true_and, Bool.not_true, Bool.not_false, Bool.false_eq_true, if_false, if_true, ite_true, ite_false, decide_true, decide_false, reduceIte])
  cases hf : firstR ws (Rem L C) with
  | none =>
    simp only [optI, D.isN, y_mapI, y_mapR, List.length_cons, List.length_nil, Nat.reduceAdd, Nat.zero_add, y_rows_rD, y_immL_I, y_logs, y_immL_R, y_W, y_isA_int, y_isA_bl, y_isA_str, y_isA_non, y_isA_tup, y_isA_lst, y_isA_rD, y_isA_wD, y_isT_int, y_isT_bl, y_isT_str, y_isT_non, y_isT_tup, y_isT_lst, sb1, sb2, sb3, sb4, sb5, sb6, sb7, sb8, sb9, sb10, sb11, sb12, sb13, sb14, sb15, sb16, sb17, sb18, sb19, sb20, sb21, y_isN_int, y_isN_non, y_isN_rD, List.map_id, id_eq, BEq.rfl, bne_self_eq_false, y_imm_int, y_imm_bl, y_imm_non, y_imm_rD, y_imm_wD, y_immL_nil, y_immL_cons, y_imm_tup, y_tup_dInts, y_tup_rows, y_len_dInts, y_len_rowsD, y_len_rD, y_len_wD, y_len_nD, y_eqI, y_neI, y_eqR, y_neR, y_eqW, y_neW, y_eqB, y_neB, y_inR, y_notInR, y_fldW, y_fldD, y_p0, y_p1, y_listT, y_all, y_any, true_and, and_true, Bool.and_self, Bool.and_true, Bool.true_and, Bool.not_true, Bool.not_false, Bool.false_eq_true, if_false, if_true, ite_true, ite_false, decide_true, decide_false, reduceIte]
    (try simp only [w_var0, w_varS, w_c, w_imm, w_nil, w_cons, w_dice, w_call, w_x1, w_x2, w_tup, w_lst, w_if, w_and, w_or, w_not, w_yes, w_test, w_boo, w_xand, w_xor, w_xnot, w_chain, w_seq, w_set, w_sifR, w_sifRS, w_sifN, w_sifB, w_sifC, w_ret, w_next, w_break, w_cont, w_never, w_drop, w_set0, w_setS, w_setn0, w_setnS, w_bname, w_mseq, w_seqL, w_seqT, w_mrng1, w_mrng2, w_enmU, w_enmL, w_enmT, w_getL, w_getK, w_getT, w_for, w_lc, w_app, w_onL, w_put, w_aug, w_augS, w_lm, w_setE, w_retE, w_appE, w_pop, w_asgG, w_sl, w_lrg1, w_pno, w_pyes, w_intQ, w_btup, w_bcons, w_bnil, w_oI, w_oIc, w_addI, w_add1I, w_intI, w_intB, w_lenL, w_lenT, w_lenDT, w_lenDK, w_isN, w_notN, w_isB, w_oTupL, w_oTupT, y_mapI, y_mapR, List.length_cons, List.length_nil, Nat.reduceAdd, Nat.zero_add, y_rows_rD, y_immL_I, y_logs, y_immL_R, y_W, y_isA_int, y_isA_bl, y_isA_str, y_isA_non, y_isA_tup, y_isA_lst, y_isA_rD, y_isA_wD, y_isT_int, y_isT_bl, y_isT_str, y_isT_non, y_isT_tup, y_isT_lst, sb1, sb2, sb3, sb4, sb5, sb6, sb7, sb8, sb9, sb10, sb11, sb12, sb13, sb14, sb15, sb16, sb17, sb18, sb19, sb20, sb21, y_isN_int, y_isN_non, y_isN_rD, List.map_id, id_eq, BEq.rfl, bne_self_eq_false, y_imm_int, y_imm_bl, y_imm_non, y_imm_rD, y_imm_wD, y_immL_nil, y_immL_cons, y_imm_tup, y_tup_dInts, y_tup_rows, y_len_dInts, y_len_rowsD, y_len_rD, y_len_wD, y_len_nD, y_eqI, y_neI, y_eqR, y_neR, y_eqW, y_neW, y_eqB, y_neB, y_inR, y_notInR, y_fldW, y_fldD, y_p0, y_p1, y_listT, y_all, y_any, true_and, and_true, Bool.and_self, Bool.and_true, Bool.true_and, Bool.not_true, Bool.not_false, Bool.false_eq_true, if_false, if_true, ite_true, ite_false, decide_true, decide_false, reduceIte])
    refine ⟨by show 2 ≤ sizeLine; omega, q _ ⟨row, C, rfl, c, ?_, hl⟩⟩
    have := hr [] _ (.stop hf)
    rwa [List.append_nil] at this
  | some x =>
    simp only [optI, D.isN, y_mapI, y_mapR, List.length_cons, List.length_nil, Nat.reduceAdd, Nat.zero_add, y_rows_rD, y_immL_I, y_logs, y_immL_R, y_W, y_isA_int, y_isA_bl, y_isA_str, y_isA_non, y_isA_tup, y_isA_lst, y_isA_rD, y_isA_wD, y_isT_int, y_isT_bl, y_isT_str, y_isT_non, y_isT_tup, y_isT_lst, sb1, sb2, sb3, sb4, sb5, sb6, sb7, sb8, sb9, sb10, sb11, sb12, sb13, sb14, sb15, sb16, sb17, sb18, sb19, sb20, sb21, y_isN_int, y_isN_non, y_isN_rD, List.map_id, id_eq, BEq.rfl, bne_self_eq_false, y_imm_int, y_imm_bl, y_imm_non, y_imm_rD, y_imm_wD, y_immL_nil, y_immL_cons, y_imm_tup, y_tup_dInts, y_tup_rows, y_len_dInts, y_len_rowsD, y_len_rD, y_len_wD, y_len_nD, y_eqI, y_neI, y_eqR, y_neR, y_eqW, y_neW, y_eqB, y_neB, y_inR, y_notInR, y_fldW, y_fldD, y_p0, y_p1, y_listT, y_all, y_any, true_and, and_true, Bool.and_self, Bool.and_true, Bool.true_and, Bool.not_true, Bool.not_false, Bool.false_eq_true, if_false, if_true, ite_true, ite_false, decide_true, decide_false, reduceIte]
    (try simp only [w_var0, w_varS, w_c, w_imm, w_nil, w_cons, w_dice, w_call, w_x1, w_x2, w_tup, w_lst, w_if, w_and, w_or, w_not, w_yes, w_test, w_boo, w_xand, w_xor, w_xnot, w_chain, w_seq, w_set, w_sifR, w_sifRS, w_sifN, w_sifB, w_sifC, w_ret, w_next, w_break, w_cont, w_never, w_drop, w_set0, w_setS, w_setn0, w_setnS, w_bname, w_mseq, w_seqL, w_seqT, w_mrng1, w_mrng2, w_enmU, w_enmL, w_enmT, w_getL, w_getK, w_getT, w_for, w_lc, w_app, w_onL, w_put, w_aug, w_augS, w_lm, w_setE, w_retE, w_appE, w_pop, w_asgG, w_sl, w_lrg1, w_pno, w_pyes, w_intQ, w_btup, w_bcons, w_bnil, w_oI, w_oIc, w_addI, w_add1I, w_intI, w_intB, w_lenL, w_lenT, w_lenDT, w_lenDK, w_isN, w_notN, w_isB, w_oTupL, w_oTupT, y_mapI, y_mapR, List.length_cons, List.length_nil, Nat.reduceAdd, Nat.zero_add, y_rows_rD, y_immL_I, y_logs, y_immL_R, y_W, y_isA_int, y_isA_bl, y_isA_str, y_isA_non, y_isA_tup, y_isA_lst, y_isA_rD, y_isA_wD, y_isT_int, y_isT_bl, y_isT_str, y_isT_non, y_isT_tup, y_isT_lst, sb1, sb2, sb3, sb4, sb5, sb6, sb7, sb8, sb9, sb10, sb11, sb12, sb13, sb14, sb15, sb16, sb17, sb18, sb19, sb20, sb21, y_isN_int, y_isN_non, y_isN_rD, List.map_id, id_eq, BEq.rfl, bne_self_eq_false, y_imm_int, y_imm_bl, y_imm_non, y_imm_rD, y_imm_wD, y_immL_nil, y_immL_cons, y_imm_tup, y_tup_dInts, y_tup_rows, y_len_dInts, y_len_rowsD, y_len_rD, y_len_wD, y_len_nD, y_eqI, y_neI, y_eqR, y_neR, y_eqW, y_neW, y_eqB, y_neB, y_inR, y_notInR, y_fldW, y_fldD, y_p0, y_p1, y_listT, y_all, y_any, true_and, and_true, Bool.and_self, Bool.and_true, Bool.true_and, Bool.not_true, Bool.not_false, Bool.false_eq_true, if_false, if_true, ite_true, ite_false, decide_true, decide_false, reduceIte])
    obtain ⟨hx, rd⟩ := first_some hf
    obtain ⟨hd, nd, wl⟩ := t.2 _ (w_mem hx)
    obtain ⟨c2, r2⟩ := rem_bump t hn c hf
    have hdC : ∀ d ∈ W ws x, 0 ≤ d ∧ d < (C.length : Int) := fun d hm => by have := hd d hm; omega
    have bs := bump_sum hdC
    have wp := List.length_pos_iff.mpr rd.1
    have hsum2 := c2.sum
    refine ⟨by omega, ?_⟩
    rw [dInts_snoc]
    refine y_ixW hx.1 hx.2 ?_
    (try simp only [w_var0, w_varS, w_c, w_imm, w_nil, w_cons, w_dice, w_call, w_x1, w_x2, w_tup, w_lst, w_if, w_and, w_or, w_not, w_yes, w_test, w_boo, w_xand, w_xor, w_xnot, w_chain, w_seq, w_set, w_sifR, w_sifRS, w_sifN, w_sifB, w_sifC, w_ret, w_next, w_break, w_cont, w_never, w_drop, w_set0, w_setS, w_setn0, w_setnS, w_bname, w_mseq, w_seqL, w_seqT, w_mrng1, w_mrng2, w_enmU, w_enmL, w_enmT, w_getL, w_getK, w_getT, w_for, w_lc, w_app, w_onL, w_put, w_aug, w_augS, w_lm, w_setE, w_retE, w_appE, w_pop, w_asgG, w_sl, w_lrg1, w_pno, w_pyes, w_intQ, w_btup, w_bcons, w_bnil, w_oI, w_oIc, w_addI, w_add1I, w_intI, w_intB, w_lenL, w_lenT, w_lenDT, w_lenDK, w_isN, w_notN, w_isB, w_oTupL, w_oTupT, y_mapI, y_mapR, List.length_cons, List.length_nil, Nat.reduceAdd, Nat.zero_add, y_rows_rD, y_immL_I, y_logs, y_immL_R, y_W, y_isA_int, y_isA_bl, y_isA_str, y_isA_non, y_isA_tup, y_isA_lst, y_isA_rD, y_isA_wD, y_isT_int, y_isT_bl, y_isT_str, y_isT_non, y_isT_tup, y_isT_lst, sb1, sb2, sb3, sb4, sb5, sb6, sb7, sb8, sb9, sb10, sb11, sb12, sb13, sb14, sb15, sb16, sb17, sb18, sb19, sb20, sb21, y_isN_int, y_isN_non, y_isN_rD, List.map_id, id_eq, BEq.rfl, bne_self_eq_false, y_imm_int, y_imm_bl, y_imm_non, y_imm_rD, y_imm_wD, y_immL_nil, y_immL_cons, y_imm_tup, y_tup_dInts, y_tup_rows, y_len_dInts, y_len_rowsD, y_len_rD, y_len_wD, y_len_nD, y_eqI, y_neI, y_eqR, y_neR, y_eqW, y_neW, y_eqB, y_neB, y_inR, y_notInR, y_fldW, y_fldD, y_p0, y_p1, y_listT, y_all, y_any, true_and, and_true, Bool.and_self, Bool.and_true, Bool.true_and, Bool.not_true, Bool.not_false, Bool.false_eq_true, if_false, if_true, ite_true, ite_false, decide_true, decide_false, reduceIte])
    refine loop_I (fun p s env => ∃ e5, env = [some (wD ws), some (wD L), some (.lst (dInts (bump C p))), some (.lst (dInts (row ++ [x]))), some (.int x), e5]) (W ws x) ⟨_, rfl⟩ ?_ ?_
    · rintro p d s env e ⟨e5, rfl⟩
      have hd2 := hdC d (by rw [← e]; simp)
      (try simp only [w_var0, w_varS, w_c, w_imm, w_nil, w_cons, w_dice, w_call, w_x1, w_x2, w_tup, w_lst, w_if, w_and, w_or, w_not, w_yes, w_test, w_boo, w_xand, w_xor, w_xnot, w_chain, w_seq, w_set, w_sifR, w_sifRS, w_sifN, w_sifB, w_sifC, w_ret, w_next, w_break, w_cont, w_never, w_drop, w_set0, w_setS, w_setn0, w_setnS, w_bname, w_mseq, w_seqL, w_seqT, w_mrng1, w_mrng2, w_enmU, w_enmL, w_enmT, w_getL, w_getK, w_getT, w_for, w_lc, w_app, w_onL, w_put, w_aug, w_augS, w_lm, w_setE, w_retE, w_appE, w_pop, w_asgG, w_sl, w_lrg1, w_pno, w_pyes, w_intQ, w_btup, w_bcons, w_bnil, w_oI, w_oIc, w_addI, w_add1I, w_intI, w_intB, w_lenL, w_lenT, w_lenDT, w_lenDK, w_isN, w_notN, w_isB, w_oTupL, w_oTupT, y_mapI, y_mapR, List.length_cons, List.length_nil, Nat.reduceAdd, Nat.zero_add, y_rows_rD, y_immL_I, y_logs, y_immL_R, y_W, y_isA_int, y_isA_bl, y_isA_str, y_isA_non, y_isA_tup, y_isA_lst, y_isA_rD, y_isA_wD, y_isT_int, y_isT_bl, y_isT_str, y_isT_non, y_isT_tup, y_isT_lst, sb1, sb2, sb3, sb4, sb5, sb6, sb7, sb8, sb9, sb10, sb11, sb12, sb13, sb14, sb15, sb16, sb17, sb18, sb19, sb20, sb21, y_isN_int, y_isN_non, y_isN_rD, List.map_id, id_eq, BEq.rfl, bne_self_eq_false, y_imm_int, y_imm_bl, y_imm_non, y_imm_rD, y_imm_wD, y_immL_nil, y_immL_cons, y_imm_tup, y_tup_dInts, y_tup_rows, y_len_dInts, y_len_rowsD, y_len_rD, y_len_wD, y_len_nD, y_eqI, y_neI, y_eqR, y_neR, y_eqW, y_neW, y_eqB, y_neB, y_inR, y_notInR, y_fldW, y_fldD, y_p0, y_p1, y_listT, y_all, y_any, true_and, and_true, Bool.and_self, Bool.and_true, Bool.true_and, Bool.not_true, Bool.not_false, Bool.false_eq_true, if_false, if_true, ite_true, ite_false, decide_true, decide_false, reduceIte])
      refine y_ixL hd2.1 (by rw [bump_len]; exact hd2.2) ?_
      (try simp only [w_var0, w_varS, w_c, w_imm, w_nil, w_cons, w_dice, w_call, w_x1, w_x2, w_tup, w_lst, w_if, w_and, w_or, w_not, w_yes, w_test, w_boo, w_xand, w_xor, w_xnot, w_chain, w_seq, w_set, w_sifR, w_sifRS, w_sifN, w_sifB, w_sifC, w_ret, w_next, w_break, w_cont, w_never, w_drop, w_set0, w_setS, w_setn0, w_setnS, w_bname, w_mseq, w_seqL, w_seqT, w_mrng1, w_mrng2, w_enmU, w_enmL, w_enmT, w_getL, w_getK, w_getT, w_for, w_lc, w_app, w_onL, w_put, w_aug, w_augS, w_lm, w_setE, w_retE, w_appE, w_pop, w_asgG, w_sl, w_lrg1, w_pno, w_pyes, w_intQ, w_btup, w_bcons, w_bnil, w_oI, w_oIc, w_addI, w_add1I, w_intI, w_intB, w_lenL, w_lenT, w_lenDT, w_lenDK, w_isN, w_notN, w_isB, w_oTupL, w_oTupT, y_mapI, y_mapR, List.length_cons, List.length_nil, Nat.reduceAdd, Nat.zero_add, y_rows_rD, y_immL_I, y_logs, y_immL_R, y_W, y_isA_int, y_isA_bl, y_isA_str, y_isA_non, y_isA_tup, y_isA_lst, y_isA_rD, y_isA_wD, y_isT_int, y_isT_bl, y_isT_str, y_isT_non, y_isT_tup, y_isT_lst, sb1, sb2, sb3, sb4, sb5, sb6, sb7, sb8, sb9, sb10, sb11, sb12, sb13, sb14, sb15, sb16, sb17, sb18, sb19, sb20, sb21, y_isN_int, y_isN_non, y_isN_rD, List.map_id, id_eq, BEq.rfl, bne_self_eq_false, y_imm_int, y_imm_bl, y_imm_non, y_imm_rD, y_imm_wD, y_immL_nil, y_immL_cons, y_imm_tup, y_tup_dInts, y_tup_rows, y_len_dInts, y_len_rowsD, y_len_rD, y_len_wD, y_len_nD, y_eqI, y_neI, y_eqR, y_neR, y_eqW, y_neW, y_eqB, y_neB, y_inR, y_notInR, y_fldW, y_fldD, y_p0, y_p1, y_listT, y_all, y_any, true_and, and_true, Bool.and_self, Bool.and_true, Bool.true_and, Bool.not_true, Bool.not_false, Bool.false_eq_true, if_false, if_true, ite_true, ite_false, decide_true, decide_false, reduceIte])
      exact setD_int hd2.1 (by rw [bump_len]; exact hd2.2) ⟨some (.int d), by rw [bump_snoc]⟩
    · rintro env ⟨e5, rfl⟩
      (try simp only [w_var0, w_varS, w_c, w_imm, w_nil, w_cons, w_dice, w_call, w_x1, w_x2, w_tup, w_lst, w_if, w_and, w_or, w_not, w_yes, w_test, w_boo, w_xand, w_xor, w_xnot, w_chain, w_seq, w_set, w_sifR, w_sifRS, w_sifN, w_sifB, w_sifC, w_ret, w_next, w_break, w_cont, w_never, w_drop, w_set0, w_setS, w_setn0, w_setnS, w_bname, w_mseq, w_seqL, w_seqT, w_mrng1, w_mrng2, w_enmU, w_enmL, w_enmT, w_getL, w_getK, w_getT, w_for, w_lc, w_app, w_onL, w_put, w_aug, w_augS, w_lm, w_setE, w_retE, w_appE, w_pop, w_asgG, w_sl, w_lrg1, w_pno, w_pyes, w_intQ, w_btup, w_bcons, w_bnil, w_oI, w_oIc, w_addI, w_add1I, w_intI, w_intB, w_lenL, w_lenT, w_lenDT, w_lenDK, w_isN, w_notN, w_isB, w_oTupL, w_oTupT, y_mapI, y_mapR, List.length_cons, List.length_nil, Nat.reduceAdd, Nat.zero_add, y_rows_rD, y_immL_I, y_logs, y_immL_R, y_W, y_isA_int, y_isA_bl, y_isA_str, y_isA_non, y_isA_tup, y_isA_lst, y_isA_rD, y_isA_wD, y_isT_int, y_isT_bl, y_isT_str, y_isT_non, y_isT_tup, y_isT_lst, sb1, sb2, sb3, sb4, sb5, sb6, sb7, sb8, sb9, sb10, sb11, sb12, sb13, sb14, sb15, sb16, sb17, sb18, sb19, sb20, sb21, y_isN_int, y_isN_non, y_isN_rD, List.map_id, id_eq, BEq.rfl, bne_self_eq_false, y_imm_int, y_imm_bl, y_imm_non, y_imm_rD, y_imm_wD, y_immL_nil, y_immL_cons, y_imm_tup, y_tup_dInts, y_tup_rows, y_len_dInts, y_len_rowsD, y_len_rD, y_len_wD, y_len_nD, y_eqI, y_neI, y_eqR, y_neR, y_eqW, y_neW, y_eqB, y_neB, y_inR, y_notInR, y_fldW, y_fldD, y_p0, y_p1, y_listT, y_all, y_any, true_and, and_true, Bool.and_self, Bool.and_true, Bool.true_and, Bool.not_true, Bool.not_false, Bool.false_eq_true, if_false, if_true, ite_true, ite_false, decide_true, decide_false, reduceIte])
      refine first_ready_ev t hn c2 _ ⟨_, ?_, _, _, _, rfl, c2, fun rest R' h => ?_, ?_, rfl⟩
      · omega
      · rw [List.append_assoc]
        refine hr _ _ (.step hf ?_)
        rw [← r2]
        exact h
      · simp
        omega
end
end Pu

/-! file V06c -/
set_option Elab.async false
set_option linter.all false
set_option maxRecDepth 100000
set_option synthInstance.maxHeartbeats 0
set_option synthInstance.maxSize 100000
namespace Pu
open PySem PySem.Spec PyProof.Rows L2
section
variable {Q : D → Prop} {n i : Int} {r s row left a b : List Int} {ws us L : List (List Int)} {C : List Int}
theorem out_logs (h : WsOk n ws) {d : Int} (hd : d ∉ rangeI n) (t : List Int) : logF ws t d = [] := by
  unfold logF
  rw [List.filter_eq_nil_iff]
  intro y _ hc
  exact hd (lot_in h y d hc)
theorem ne_of_wsok (h : WsOk n ws) {t : List Int} (ht : InW ws t) : NoEmpty ws t := fun x hx e => by
  obtain ⟨d, _, hd⟩ := desks_of h ht x hx
  rw [e] at hd; cases hd
theorem rem_logs (h : WsOk n ws) : Rem (logsF n ws row) (zeros (logsF n ws row).length) = logF ws row := funext fun d => by
  have hl : ((logsF n ws row).length : Int) = n := by rw [logs_len]; have := h.1; omega
  unfold Rem
  by_cases e : 0 ≤ d ∧ d < ((logsF n ws row).length : Int)
  · rw [if_pos e, logs_at e.1 (by omega)]
    have : (zeros (logsF n ws row).length).getD d.toNat 0 = 0 := by
      unfold zeros
      rw [List.getD_eq_getElem?_getD, List.getElem?_replicate]
      split <;> rfl
    rw [this]
    rfl
  · rw [if_neg e, out_logs h (fun m => e (by have := mem_rangeI.mp m; omega))]
theorem ready_free (h : WsOk n ws) (hw : InW ws left) {x : Int} (hx : 0 ≤ x ∧ x < (ws.length : Int)) : Ready ws (logF ws left) x ↔ ∃ k, freeAt ws left x = some k := by
  constructor
  · rintro ⟨h1, h2⟩
    exact head_free h1 fun d hd => h2 d (by simpa using hd)
  · rintro ⟨k, hk⟩
    refine ⟨fun e => ?_, fun d hd => free_head hk (by simpa using hd)⟩
    have := (h.2.2.2.2 _ (w_mem hx)).2.1
    exact this e
theorem first_none {R : Int → List Int} (h : firstR ws R = none) {x : Int} (hx : 0 ≤ x ∧ x < (ws.length : Int)) : ¬ Ready ws R x := fun rd => by
  have := List.find?_eq_none.mp h x (mem_rangeI.mpr hx)
  exact this (decide_eq_true rd)
theorem first_min : ∀ {l : List Int} {p : Int → Bool} {x : Int}, l.Pairwise (· < ·) → l.find? p = some x → ∀ y ∈ l, y < x → p y = false
  | [], _, _, _, h, _, _, _ => nomatch h
  | z :: l, p, x, pw, h, y, hy, hlt => by
    rw [List.find?_cons] at h
    cases e : p z with
    | true =>
      rw [e] at h
      cases h
      rcases List.mem_cons.mp hy with q | q
      · omega
      · have := (List.pairwise_cons.mp pw).1 y q; omega
    | false =>
      rw [e] at h
      rcases List.mem_cons.mp hy with q | q
      · rw [q]; exact e
      · exact first_min (List.pairwise_cons.mp pw).2 h y q hlt
theorem first_least {R : Int → List Int} {x : Int} (h : firstR ws R = some x) {y : Int} (hy : 0 ≤ y) (hlt : y < x) : ¬ Ready ws R y := fun rd => by
  have hx := (first_some h).1
  have := first_min (rangeI_pw ws.length) h y (mem_rangeI.mpr ⟨hy, by omega⟩) hlt
  exact of_decide_eq_false this rd
/-- the greedy doing of a row's own logs -/
theorem run_lst (h : WsOk n ws) {R R' : Int → List Int} {a : List Int} (hr : Run ws R a R') : ∀ {left : List Int}, R = logF ws left → InW ws left → Lst ws left a ∧ R' = fun _ => [] := by
  induction hr with
  | @stop R hf =>
    intro left e hw
    subst e
    cases left with
    | nil => exact ⟨.nil, rfl⟩
    | cons y l =>
      have hy := hw y List.mem_cons_self
      refine absurd ((ready_free h hw hy).mpr ⟨0, ?_⟩) (first_none hf hy)
      unfold freeAt
      rw [if_pos rfl]
  | @step R R' x row hf _ ih =>
    intro left e hw
    subst e
    obtain ⟨hx, rd⟩ := first_some hf
    obtain ⟨k, hk⟩ := (ready_free h hw hx).mp rd
    obtain ⟨P, T, e1, _, e3, e4⟩ := free_cut hk
    have hw2 : InW ws (left.eraseIdx k) := fun z hz => hw z (List.mem_of_mem_eraseIdx hz)
    obtain ⟨i1, i2⟩ := ih (left := left.eraseIdx k) (funext fun d => by
      have l1 := (Rch.bubble (R := T) P e4).logs d
      rw [← e1, ← e3, logF_cons] at l1
      by_cases m : d ∈ W ws x
      · rw [if_pos m, ← l1, if_pos (by simpa using m)]; rfl
      · rw [if_neg m, ← l1, if_neg (by simpa using m)]) hw2
    refine ⟨.cons ⟨hk, fun y hy hlt => ?_⟩ i1, i2⟩
    have hy2 := hw y hy
    cases e : freeAt ws left y with
    | none => rfl
    | some j => exact absurd ((ready_free h hw hy2).mpr ⟨j, e⟩) (first_least hf hy2.1 hlt)
theorem tot_le : ∀ {L : List (List Int)} {m : Nat}, (∀ l ∈ L, l.length ≤ m) → tot L ≤ (L.length * m : Nat)
  | [], m, _ => by simp [tot]
  | l :: L, m, h => by
    have := tot_le (L := L) (m := m) fun x hx => h x (List.mem_cons_of_mem _ hx)
    have := h l List.mem_cons_self
    simp only [tot, List.map_cons, List.sum_cons, List.length_cons, Nat.succ_mul] at *
    omega
theorem tot_logs (h : WsOk n ws) (hr : r.length ≤ 100) : tot (logsF n ws r) ≤ 600 := by
  have := tot_le (L := logsF n ws r) (m := 100) fun l hl => by
    obtain ⟨d, _, rfl⟩ := List.mem_map.mp hl
    have := logF_len (ws := ws) (r := r) (d := d)
    omega
  rw [logs_len] at this
  have := h.2.1
  have := h.1
  omega
theorem done_logs_ev (t : TOk n ws) (hn : (L.length : Int) = n) (n6 : n ≤ 6) (ht : tot L ≤ 1000) : FP m_done_by_logs [oD n ws, wD L] (fun d => ∃ row C, d = .tup [rD row, rD C] ∧ COk L C ∧ Run ws (Rem L (zeros L.length)) row (Rem L C) ∧ (row.length : Int) ≤ C.sum) := fun Q q => by
  unfold m_done_by_logs fnM b_done_by_logs
  simp only [env0, List.map_cons, List.map_nil, List.length_cons, List.length_nil, List.replicate_succ, List.replicate_zero, List.cons_append, List.nil_append, Nat.reduceSub, Nat.reduceAdd, Nat.zero_add, w_var0, w_varS, w_c, w_imm, w_nil, w_cons, w_dice, w_call, w_x1, w_x2, w_tup, w_lst, w_if, w_and, w_or, w_not, w_yes, w_test, w_boo, w_xand, w_xor, w_xnot, w_chain, w_seq, w_set, w_sifR, w_sifRS, w_sifN, w_sifB, w_sifC, w_ret, w_next, w_break, w_cont, w_never, w_drop, w_set0, w_setS, w_setn0, w_setnS, w_bname, w_mseq, w_seqL, w_seqT, w_mrng1, w_mrng2, w_enmU, w_enmL, w_enmT, w_getL, w_getK, w_getT, w_for, w_lc, w_app, w_onL, w_put, w_aug, w_augS, w_lm, w_setE, w_retE, w_appE, w_pop, w_asgG, w_sl, w_lrg1, w_pno, w_pyes, w_intQ, w_btup, w_bcons, w_bnil, w_oI, w_oIc, w_addI, w_add1I, w_intI, w_intB, w_lenL, w_lenT, w_lenDT, w_lenDK, w_isN, w_notN, w_isB, w_oTupL, w_oTupT, y_mapI, y_mapR, List.length_cons, List.length_nil, Nat.reduceAdd, Nat.zero_add, y_rows_rD, y_immL_I, y_logs, y_immL_R, y_W, y_isA_int, y_isA_bl, y_isA_str, y_isA_non, y_isA_tup, y_isA_lst, y_isA_rD, y_isA_wD, y_isT_int, y_isT_bl, y_isT_str, y_isT_non, y_isT_tup, y_isT_lst, sb1, sb2, sb3, sb4, sb5, sb6, sb7, sb8, sb9, sb10, sb11, sb12, sb13, sb14, sb15, sb16, sb17, sb18, sb19, sb20, sb21, y_isN_int, y_isN_non, y_isN_rD, List.map_id, id_eq, BEq.rfl, bne_self_eq_false, y_imm_int, y_imm_bl, y_imm_non, y_imm_rD, y_imm_wD, y_immL_nil, y_immL_cons, y_imm_tup, y_tup_dInts, y_tup_rows, y_len_dInts, y_len_rowsD, y_len_rD, y_len_wD, y_len_nD, y_eqI, y_neI, y_eqR, y_neR, y_eqW, y_neW, y_eqB, y_neB, y_inR, y_notInR, y_fldW, y_fldD, y_p0, y_p1, y_listT, y_all, y_any, true_and, and_true, Bool.and_self, Bool.and_true, Bool.true_and, Bool.not_true, Bool.not_false, Bool.false_eq_true, if_false, if_true, ite_true, ite_false, decide_true, decide_false, reduceIte]
  exact done_ev t hn n6 ht Q q
theorem least_row_ev (h : WsOk n ws) (hr : RowOk ws r) : FP m_least_row [oD n ws, rD r] (fun d => ∃ a, d = rD a ∧ Lst ws r a) := fun Q q => by
  have h100 : 100 ≤ sizeLine := by decide
  have hl : ((logsF n ws r).length : Int) = n := by rw [logs_len]; have := h.1; omega
  unfold m_least_row fnM b_least_row
  simp only [env0, List.map_cons, List.map_nil, List.length_cons, List.length_nil, List.replicate_succ, List.replicate_zero, List.cons_append, List.nil_append, Nat.reduceSub, Nat.reduceAdd, Nat.zero_add, w_var0, w_varS, w_c, w_imm, w_nil, w_cons, w_dice, w_call, w_x1, w_x2, w_tup, w_lst, w_if, w_and, w_or, w_not, w_yes, w_test, w_boo, w_xand, w_xor, w_xnot, w_chain, w_seq, w_set, w_sifR, w_sifRS, w_sifN, w_sifB, w_sifC, w_ret, w_next, w_break, w_cont, w_never, w_drop, w_set0, w_setS, w_setn0, w_setnS, w_bname, w_mseq, w_seqL, w_seqT, w_mrng1, w_mrng2, w_enmU, w_enmL, w_enmT, w_getL, w_getK, w_getT, w_for, w_lc, w_app, w_onL, w_put, w_aug, w_augS, w_lm, w_setE, w_retE, w_appE, w_pop, w_asgG, w_sl, w_lrg1, w_pno, w_pyes, w_intQ, w_btup, w_bcons, w_bnil, w_oI, w_oIc, w_addI, w_add1I, w_intI, w_intB, w_lenL, w_lenT, w_lenDT, w_lenDK, w_isN, w_notN, w_isB, w_oTupL, w_oTupT, y_mapI, y_mapR, List.length_cons, List.length_nil, Nat.reduceAdd, Nat.zero_add, y_rows_rD, y_immL_I, y_logs, y_immL_R, y_W, y_isA_int, y_isA_bl, y_isA_str, y_isA_non, y_isA_tup, y_isA_lst, y_isA_rD, y_isA_wD, y_isT_int, y_isT_bl, y_isT_str, y_isT_non, y_isT_tup, y_isT_lst, sb1, sb2, sb3, sb4, sb5, sb6, sb7, sb8, sb9, sb10, sb11, sb12, sb13, sb14, sb15, sb16, sb17, sb18, sb19, sb20, sb21, y_isN_int, y_isN_non, y_isN_rD, List.map_id, id_eq, BEq.rfl, bne_self_eq_false, y_imm_int, y_imm_bl, y_imm_non, y_imm_rD, y_imm_wD, y_immL_nil, y_immL_cons, y_imm_tup, y_tup_dInts, y_tup_rows, y_len_dInts, y_len_rowsD, y_len_rD, y_len_wD, y_len_nD, y_eqI, y_neI, y_eqR, y_neR, y_eqW, y_neW, y_eqB, y_neB, y_inR, y_notInR, y_fldW, y_fldD, y_p0, y_p1, y_listT, y_all, y_any, true_and, and_true, Bool.and_self, Bool.and_true, Bool.true_and, Bool.not_true, Bool.not_false, Bool.false_eq_true, if_false, if_true, ite_true, ite_false, decide_true, decide_false, reduceIte]
  refine check_row_ev (by have := hr.1; omega) hr.2 _ (all_logs_ev h hr.1 hr.2 _ ?_)
  (try simp only [w_var0, w_varS, w_c, w_imm, w_nil, w_cons, w_dice, w_call, w_x1, w_x2, w_tup, w_lst, w_if, w_and, w_or, w_not, w_yes, w_test, w_boo, w_xand, w_xor, w_xnot, w_chain, w_seq, w_set, w_sifR, w_sifRS, w_sifN, w_sifB, w_sifC, w_ret, w_next, w_break, w_cont, w_never, w_drop, w_set0, w_setS, w_setn0, w_setnS, w_bname, w_mseq, w_seqL, w_seqT, w_mrng1, w_mrng2, w_enmU, w_enmL, w_enmT, w_getL, w_getK, w_getT, w_for, w_lc, w_app, w_onL, w_put, w_aug, w_augS, w_lm, w_setE, w_retE, w_appE, w_pop, w_asgG, w_sl, w_lrg1, w_pno, w_pyes, w_intQ, w_btup, w_bcons, w_bnil, w_oI, w_oIc, w_addI, w_add1I, w_intI, w_intB, w_lenL, w_lenT, w_lenDT, w_lenDK, w_isN, w_notN, w_isB, w_oTupL, w_oTupT, y_mapI, y_mapR, List.length_cons, List.length_nil, Nat.reduceAdd, Nat.zero_add, y_rows_rD, y_immL_I, y_logs, y_immL_R, y_W, y_isA_int, y_isA_bl, y_isA_str, y_isA_non, y_isA_tup, y_isA_lst, y_isA_rD, y_isA_wD, y_isT_int, y_isT_bl, y_isT_str, y_isT_non, y_isT_tup, y_isT_lst, sb1, sb2, sb3, sb4, sb5, sb6, sb7, sb8, sb9, sb10, sb11, sb12, sb13, sb14, sb15, sb16, sb17, sb18, sb19, sb20, sb21, y_isN_int, y_isN_non, y_isN_rD, List.map_id, id_eq, BEq.rfl, bne_self_eq_false, y_imm_int, y_imm_bl, y_imm_non, y_imm_rD, y_imm_wD, y_immL_nil, y_immL_cons, y_imm_tup, y_tup_dInts, y_tup_rows, y_len_dInts, y_len_rowsD, y_len_rD, y_len_wD, y_len_nD, y_eqI, y_neI, y_eqR, y_neR, y_eqW, y_neW, y_eqB, y_neB, y_inR, y_notInR, y_fldW, y_fldD, y_p0, y_p1, y_listT, y_all, y_any, true_and, and_true, Bool.and_self, Bool.and_true, Bool.true_and, Bool.not_true, Bool.not_false, Bool.false_eq_true, if_false, if_true, ite_true, ite_false, decide_true, decide_false, reduceIte])
  refine done_logs_ev (tok_of h) hl h.2.1 (by have := tot_logs h hr.1; omega) _ fun d ⟨a, C, e, c, run, _⟩ => ?_
  subst e
  rw [rem_logs h] at run
  (try simp only [w_var0, w_varS, w_c, w_imm, w_nil, w_cons, w_dice, w_call, w_x1, w_x2, w_tup, w_lst, w_if, w_and, w_or, w_not, w_yes, w_test, w_boo, w_xand, w_xor, w_xnot, w_chain, w_seq, w_set, w_sifR, w_sifRS, w_sifN, w_sifB, w_sifC, w_ret, w_next, w_break, w_cont, w_never, w_drop, w_set0, w_setS, w_setn0, w_setnS, w_bname, w_mseq, w_seqL, w_seqT, w_mrng1, w_mrng2, w_enmU, w_enmL, w_enmT, w_getL, w_getK, w_getT, w_for, w_lc, w_app, w_onL, w_put, w_aug, w_augS, w_lm, w_setE, w_retE, w_appE, w_pop, w_asgG, w_sl, w_lrg1, w_pno, w_pyes, w_intQ, w_btup, w_bcons, w_bnil, w_oI, w_oIc, w_addI, w_add1I, w_intI, w_intB, w_lenL, w_lenT, w_lenDT, w_lenDK, w_isN, w_notN, w_isB, w_oTupL, w_oTupT, y_mapI, y_mapR, List.length_cons, List.length_nil, Nat.reduceAdd, Nat.zero_add, y_rows_rD, y_immL_I, y_logs, y_immL_R, y_W, y_isA_int, y_isA_bl, y_isA_str, y_isA_non, y_isA_tup, y_isA_lst, y_isA_rD, y_isA_wD, y_isT_int, y_isT_bl, y_isT_str, y_isT_non, y_isT_tup, y_isT_lst, sb1, sb2, sb3, sb4, sb5, sb6, sb7, sb8, sb9, sb10, sb11, sb12, sb13, sb14, sb15, sb16, sb17, sb18, sb19, sb20, sb21, y_isN_int, y_isN_non, y_isN_rD, List.map_id, id_eq, BEq.rfl, bne_self_eq_false, y_imm_int, y_imm_bl, y_imm_non, y_imm_rD, y_imm_wD, y_immL_nil, y_immL_cons, y_imm_tup, y_tup_dInts, y_tup_rows, y_len_dInts, y_len_rowsD, y_len_rD, y_len_wD, y_len_nD, y_eqI, y_neI, y_eqR, y_neR, y_eqW, y_neW, y_eqB, y_neB, y_inR, y_notInR, y_fldW, y_fldD, y_p0, y_p1, y_listT, y_all, y_any, true_and, and_true, Bool.and_self, Bool.and_true, Bool.true_and, Bool.not_true, Bool.not_false, Bool.false_eq_true, if_false, if_true, ite_true, ite_false, decide_true, decide_false, reduceIte])
  exact q _ ⟨a, rfl, (run_lst h run rfl hr.2).1⟩
end
end Pu

/-! file V06d -/
set_option Elab.async false
set_option linter.all false
set_option maxRecDepth 100000
set_option synthInstance.maxHeartbeats 0
set_option synthInstance.maxSize 100000
namespace Pu
open PySem PySem.Spec PyProof.Rows L2
section
variable {Q : D → Prop} {n i : Int} {r s row left a b : List Int} {ws us L K : List (List Int)} {C : List Int} {kvs : List (List Key × D)} {dd : D}
def nearRow (ws : List (List Int)) (x : Int) : List Bool := (rangeI ws.length).map fun y => meetsF ws x y
theorem y_nearR {x : Int} (hx : 0 ≤ x ∧ x < (ws.length : Int)) (q : Q (blD (nearRow ws x))) : oIx (nD (nearF ws)) (.int x) Q := by
  refine atD_blD hx.1 (by rw [nearF_len]; exact hx.2) ?_
  unfold nearF
  rw [range_getD hx.1 hx.2]
  exact q
theorem y_nearA {x y : Int} (hy : 0 ≤ y ∧ y < (ws.length : Int)) (q : Q (.bl (meetsF ws x y))) : oIx (blD (nearRow ws x)) (.int y) Q := by
  refine atD_bl hy.1 (by unfold nearRow rangeI; simp; exact hy.2) ?_
  unfold nearRow
  rw [range_getD hy.1 hy.2]
  exact q
theorem y_listDT (F : Fd K kvs) (q : Q (.lst (rowsD K))) : oListA (.dT kvs) Q := by
  refine .inr (.inl ?_)
  show Q (.lst (kvs.map fun kv => tkD kv.1))
  rw [keys_rows F.1]
  exact q
theorem swapAt_eq {k : Nat} (h : k + 1 < s.length) : swapAt s k = swapL s k := by
  unfold swapAt swapL
  apply List.ext_getElem?
  intro j
  simp only [List.getElem?_set, List.length_set, List.getD_eq_getElem?_getD]
  by_cases h1 : j < k
  · rw [if_neg (by omega), if_neg (by omega), List.append_assoc, List.getElem?_append_left (by simp; omega), List.getElem?_take]
    simp [h1]
  · by_cases h2 : j = k
    · subst h2
      rw [if_neg (by omega), if_pos rfl, List.append_assoc, List.getElem?_append_right (by simp; omega)]
      simp [show j < s.length by omega]
      rw [Nat.min_eq_left (by omega), Nat.sub_self]
      simp
    · by_cases h3 : j = k + 1
      · subst h3
        rw [if_pos rfl, if_pos h, List.append_assoc, List.getElem?_append_right (by simp; omega)]
        simp
        rw [Nat.min_eq_left (by omega), show k + 1 - k = 1 by omega]
        simp
      · rw [if_neg (by omega), if_neg (by omega), List.getElem?_append_right (by simp; omega)]
        simp
        rw [Nat.min_eq_left (by omega)]
        congr 1
        omega
theorem mixed_rch {turns : Int} (t0 : 0 ≤ turns) (t1 : turns ≤ 1000) (hr : InW ws r) (hl : r.length ≤ 200) : FP m__law_mixed [dd, nD (nearF ws), rD r, .int turns] (fun d => ∃ s, d = rD s ∧ Rch (apF ws) r s) := fun Q q => by
  have hs : 200 ≤ sizeLine := by decide
  unfold m__law_mixed fnM b__law_mixed
  simp only [env0, List.map_cons, List.map_nil, List.length_cons, List.length_nil, List.replicate_succ, List.replicate_zero, List.cons_append, List.nil_append, Nat.reduceSub, Nat.reduceAdd, Nat.zero_add, w_var0, w_varS, w_c, w_imm, w_nil, w_cons, w_dice, w_call, w_x1, w_x2, w_tup, w_lst, w_if, w_and, w_or, w_not, w_yes, w_test, w_boo, w_xand, w_xor, w_xnot, w_chain, w_seq, w_set, w_sifR, w_sifRS, w_sifN, w_sifB, w_sifC, w_ret, w_next, w_break, w_cont, w_never, w_drop, w_set0, w_setS, w_setn0, w_setnS, w_bname, w_mseq, w_seqL, w_seqT, w_mrng1, w_mrng2, w_enmU, w_enmL, w_enmT, w_getL, w_getK, w_getT, w_for, w_lc, w_app, w_onL, w_put, w_aug, w_augS, w_lm, w_setE, w_retE, w_appE, w_pop, w_asgG, w_sl, w_lrg1, w_pno, w_pyes, w_intQ, w_btup, w_bcons, w_bnil, w_oI, w_oIc, w_addI, w_add1I, w_intI, w_intB, w_lenL, w_lenT, w_lenDT, w_lenDK, w_isN, w_notN, w_isB, w_oTupL, w_oTupT, y_mapI, y_mapR, List.length_cons, List.length_nil, Nat.reduceAdd, Nat.zero_add, y_rows_rD, y_immL_I, y_logs, y_immL_R, y_W, y_isA_int, y_isA_bl, y_isA_str, y_isA_non, y_isA_tup, y_isA_lst, y_isA_rD, y_isA_wD, y_isT_int, y_isT_bl, y_isT_str, y_isT_non, y_isT_tup, y_isT_lst, sb1, sb2, sb3, sb4, sb5, sb6, sb7, sb8, sb9, sb10, sb11, sb12, sb13, sb14, sb15, sb16, sb17, sb18, sb19, sb20, sb21, y_isN_int, y_isN_non, y_isN_rD, List.map_id, id_eq, BEq.rfl, bne_self_eq_false, y_imm_int, y_imm_bl, y_imm_non, y_imm_rD, y_imm_wD, y_immL_nil, y_immL_cons, y_imm_tup, y_tup_dInts, y_tup_rows, y_len_dInts, y_len_rowsD, y_len_rD, y_len_wD, y_len_nD, y_eqI, y_neI, y_eqR, y_neR, y_eqW, y_neW, y_eqB, y_neB, y_inR, y_notInR, y_fldW, y_fldD, y_p0, y_p1, y_listT, y_all, y_any, true_and, and_true, Bool.and_self, Bool.and_true, Bool.true_and, Bool.not_true, Bool.not_false, Bool.false_eq_true, if_false, if_true, ite_true, ite_false, decide_true, decide_false, reduceIte]
  have fin : ∀ (z : Int) (c : 0 ≤ z ∧ z ≤ 1000 ∧ (0 < z → 1 < r.length)), rngQ (.int z) fun ds => sLoop (bName 5) bodyM ds { nx := sRet (x1 oTup (xVar 4)) { nx := fun _ => Q .non, rt := Q }, rt := Q } [some dd, some (nD (nearF ws)), some (rD r), some (.int turns), some (.lst (dInts r)), none, none] := fun z c => by
    refine y_rng (by omega) (by omega) ?_
    refine loop_I (fun p s env => ∃ h e5 e6, env = [some dd, some (nD (nearF ws)), some (rD r), some (.int turns), some (.lst (dInts h)), e5, e6] ∧ Rch (apF ws) r h) _ ⟨r, _, _, rfl, .refl _⟩ ?_ ?_
    · rintro p x s env e ⟨h, e5, e6, rfl, rc⟩
      have h2 : 1 < r.length := c.2.2 (by have := range_split e; omega)
      have hlen := rc.len
      have hw : InW ws h := fun x hx => hr x ((rc.mem x).mp hx)
      unfold bodyM
      (try simp only [w_var0, w_varS, w_c, w_imm, w_nil, w_cons, w_dice, w_call, w_x1, w_x2, w_tup, w_lst, w_if, w_and, w_or, w_not, w_yes, w_test, w_boo, w_xand, w_xor, w_xnot, w_chain, w_seq, w_set, w_sifR, w_sifRS, w_sifN, w_sifB, w_sifC, w_ret, w_next, w_break, w_cont, w_never, w_drop, w_set0, w_setS, w_setn0, w_setnS, w_bname, w_mseq, w_seqL, w_seqT, w_mrng1, w_mrng2, w_enmU, w_enmL, w_enmT, w_getL, w_getK, w_getT, w_for, w_lc, w_app, w_onL, w_put, w_aug, w_augS, w_lm, w_setE, w_retE, w_appE, w_pop, w_asgG, w_sl, w_lrg1, w_pno, w_pyes, w_intQ, w_btup, w_bcons, w_bnil, w_oI, w_oIc, w_addI, w_add1I, w_intI, w_intB, w_lenL, w_lenT, w_lenDT, w_lenDK, w_isN, w_notN, w_isB, w_oTupL, w_oTupT, y_mapI, y_mapR, List.length_cons, List.length_nil, Nat.reduceAdd, Nat.zero_add, y_rows_rD, y_immL_I, y_logs, y_immL_R, y_W, y_isA_int, y_isA_bl, y_isA_str, y_isA_non, y_isA_tup, y_isA_lst, y_isA_rD, y_isA_wD, y_isT_int, y_isT_bl, y_isT_str, y_isT_non, y_isT_tup, y_isT_lst, sb1, sb2, sb3, sb4, sb5, sb6, sb7, sb8, sb9, sb10, sb11, sb12, sb13, sb14, sb15, sb16, sb17, sb18, sb19, sb20, sb21, y_isN_int, y_isN_non, y_isN_rD, List.map_id, id_eq, BEq.rfl, bne_self_eq_false, y_imm_int, y_imm_bl, y_imm_non, y_imm_rD, y_imm_wD, y_immL_nil, y_immL_cons, y_imm_tup, y_tup_dInts, y_tup_rows, y_len_dInts, y_len_rowsD, y_len_rD, y_len_wD, y_len_nD, y_eqI, y_neI, y_eqR, y_neR, y_eqW, y_neW, y_eqB, y_neB, y_inR, y_notInR, y_fldW, y_fldD, y_p0, y_p1, y_listT, y_all, y_any, true_and, and_true, Bool.and_self, Bool.and_true, Bool.true_and, Bool.not_true, Bool.not_false, Bool.false_eq_true, if_false, if_true, ite_true, ite_false, decide_true, decide_false, reduceIte])
      refine draw_ev (by omega) (by omega) fun k k0 k1 => ?_
      have i1 := inW_getD hw (show k.toNat < h.length by omega)
      have i2 := inW_getD hw (show k.toNat + 1 < h.length by omega)
      have ek : (k + 1).toNat = k.toNat + 1 := by omega
      rw [w_sif]
      (try simp only [w_var0, w_varS, w_c, w_imm, w_nil, w_cons, w_dice, w_call, w_x1, w_x2, w_tup, w_lst, w_if, w_and, w_or, w_not, w_yes, w_test, w_boo, w_xand, w_xor, w_xnot, w_chain, w_seq, w_set, w_sifR, w_sifRS, w_sifN, w_sifB, w_sifC, w_ret, w_next, w_break, w_cont, w_never, w_drop, w_set0, w_setS, w_setn0, w_setnS, w_bname, w_mseq, w_seqL, w_seqT, w_mrng1, w_mrng2, w_enmU, w_enmL, w_enmT, w_getL, w_getK, w_getT, w_for, w_lc, w_app, w_onL, w_put, w_aug, w_augS, w_lm, w_setE, w_retE, w_appE, w_pop, w_asgG, w_sl, w_lrg1, w_pno, w_pyes, w_intQ, w_btup, w_bcons, w_bnil, w_oI, w_oIc, w_addI, w_add1I, w_intI, w_intB, w_lenL, w_lenT, w_lenDT, w_lenDK, w_isN, w_notN, w_isB, w_oTupL, w_oTupT, y_mapI, y_mapR, List.length_cons, List.length_nil, Nat.reduceAdd, Nat.zero_add, y_rows_rD, y_immL_I, y_logs, y_immL_R, y_W, y_isA_int, y_isA_bl, y_isA_str, y_isA_non, y_isA_tup, y_isA_lst, y_isA_rD, y_isA_wD, y_isT_int, y_isT_bl, y_isT_str, y_isT_non, y_isT_tup, y_isT_lst, sb1, sb2, sb3, sb4, sb5, sb6, sb7, sb8, sb9, sb10, sb11, sb12, sb13, sb14, sb15, sb16, sb17, sb18, sb19, sb20, sb21, y_isN_int, y_isN_non, y_isN_rD, List.map_id, id_eq, BEq.rfl, bne_self_eq_false, y_imm_int, y_imm_bl, y_imm_non, y_imm_rD, y_imm_wD, y_immL_nil, y_immL_cons, y_imm_tup, y_tup_dInts, y_tup_rows, y_len_dInts, y_len_rowsD, y_len_rD, y_len_wD, y_len_nD, y_eqI, y_neI, y_eqR, y_neR, y_eqW, y_neW, y_eqB, y_neB, y_inR, y_notInR, y_fldW, y_fldD, y_p0, y_p1, y_listT, y_all, y_any, true_and, and_true, Bool.and_self, Bool.and_true, Bool.true_and, Bool.not_true, Bool.not_false, Bool.false_eq_true, if_false, if_true, ite_true, ite_false, decide_true, decide_false, reduceIte])
      refine y_ixL k0 (by omega) (y_nearR i1 (y_ixL (by omega) (by omega) ?_))
      rw [ek]
      refine y_nearA i2 ?_
      (try simp only [w_var0, w_varS, w_c, w_imm, w_nil, w_cons, w_dice, w_call, w_x1, w_x2, w_tup, w_lst, w_if, w_and, w_or, w_not, w_yes, w_test, w_boo, w_xand, w_xor, w_xnot, w_chain, w_seq, w_set, w_sifR, w_sifRS, w_sifN, w_sifB, w_sifC, w_ret, w_next, w_break, w_cont, w_never, w_drop, w_set0, w_setS, w_setn0, w_setnS, w_bname, w_mseq, w_seqL, w_seqT, w_mrng1, w_mrng2, w_enmU, w_enmL, w_enmT, w_getL, w_getK, w_getT, w_for, w_lc, w_app, w_onL, w_put, w_aug, w_augS, w_lm, w_setE, w_retE, w_appE, w_pop, w_asgG, w_sl, w_lrg1, w_pno, w_pyes, w_intQ, w_btup, w_bcons, w_bnil, w_oI, w_oIc, w_addI, w_add1I, w_intI, w_intB, w_lenL, w_lenT, w_lenDT, w_lenDK, w_isN, w_notN, w_isB, w_oTupL, w_oTupT, y_mapI, y_mapR, List.length_cons, List.length_nil, Nat.reduceAdd, Nat.zero_add, y_rows_rD, y_immL_I, y_logs, y_immL_R, y_W, y_isA_int, y_isA_bl, y_isA_str, y_isA_non, y_isA_tup, y_isA_lst, y_isA_rD, y_isA_wD, y_isT_int, y_isT_bl, y_isT_str, y_isT_non, y_isT_tup, y_isT_lst, sb1, sb2, sb3, sb4, sb5, sb6, sb7, sb8, sb9, sb10, sb11, sb12, sb13, sb14, sb15, sb16, sb17, sb18, sb19, sb20, sb21, y_isN_int, y_isN_non, y_isN_rD, List.map_id, id_eq, BEq.rfl, bne_self_eq_false, y_imm_int, y_imm_bl, y_imm_non, y_imm_rD, y_imm_wD, y_immL_nil, y_immL_cons, y_imm_tup, y_tup_dInts, y_tup_rows, y_len_dInts, y_len_rowsD, y_len_rD, y_len_wD, y_len_nD, y_eqI, y_neI, y_eqR, y_neR, y_eqW, y_neW, y_eqB, y_neB, y_inR, y_notInR, y_fldW, y_fldD, y_p0, y_p1, y_listT, y_all, y_any, true_and, and_true, Bool.and_self, Bool.and_true, Bool.true_and, Bool.not_true, Bool.not_false, Bool.false_eq_true, if_false, if_true, ite_true, ite_false, decide_true, decide_false, reduceIte])
      split
      · rename_i hm
        have hm : apF ws (h.getD k.toNat 0) (h.getD (k.toNat + 1) 0) := by
          show meetsF ws _ _ = false
          simpa using hm
        refine swap_ev (a := 4) (j := 6) (k := k) rfl rfl (by decide) k0 (by omega) ?_
        refine ⟨swapAt h k.toNat, _, _, rfl, ?_⟩
        rw [swapAt_eq (by omega)]
        exact rch_swap (by omega) hm rc
      · exact ⟨h, _, _, rfl, rc⟩
    · rintro env ⟨h, e5, e6, rfl, rc⟩
      (try simp only [w_var0, w_varS, w_c, w_imm, w_nil, w_cons, w_dice, w_call, w_x1, w_x2, w_tup, w_lst, w_if, w_and, w_or, w_not, w_yes, w_test, w_boo, w_xand, w_xor, w_xnot, w_chain, w_seq, w_set, w_sifR, w_sifRS, w_sifN, w_sifB, w_sifC, w_ret, w_next, w_break, w_cont, w_never, w_drop, w_set0, w_setS, w_setn0, w_setnS, w_bname, w_mseq, w_seqL, w_seqT, w_mrng1, w_mrng2, w_enmU, w_enmL, w_enmT, w_getL, w_getK, w_getT, w_for, w_lc, w_app, w_onL, w_put, w_aug, w_augS, w_lm, w_setE, w_retE, w_appE, w_pop, w_asgG, w_sl, w_lrg1, w_pno, w_pyes, w_intQ, w_btup, w_bcons, w_bnil, w_oI, w_oIc, w_addI, w_add1I, w_intI, w_intB, w_lenL, w_lenT, w_lenDT, w_lenDK, w_isN, w_notN, w_isB, w_oTupL, w_oTupT, y_mapI, y_mapR, List.length_cons, List.length_nil, Nat.reduceAdd, Nat.zero_add, y_rows_rD, y_immL_I, y_logs, y_immL_R, y_W, y_isA_int, y_isA_bl, y_isA_str, y_isA_non, y_isA_tup, y_isA_lst, y_isA_rD, y_isA_wD, y_isT_int, y_isT_bl, y_isT_str, y_isT_non, y_isT_tup, y_isT_lst, sb1, sb2, sb3, sb4, sb5, sb6, sb7, sb8, sb9, sb10, sb11, sb12, sb13, sb14, sb15, sb16, sb17, sb18, sb19, sb20, sb21, y_isN_int, y_isN_non, y_isN_rD, List.map_id, id_eq, BEq.rfl, bne_self_eq_false, y_imm_int, y_imm_bl, y_imm_non, y_imm_rD, y_imm_wD, y_immL_nil, y_immL_cons, y_imm_tup, y_tup_dInts, y_tup_rows, y_len_dInts, y_len_rowsD, y_len_rD, y_len_wD, y_len_nD, y_eqI, y_neI, y_eqR, y_neR, y_eqW, y_neW, y_eqB, y_neB, y_inR, y_notInR, y_fldW, y_fldD, y_p0, y_p1, y_listT, y_all, y_any, true_and, and_true, Bool.and_self, Bool.and_true, Bool.true_and, Bool.not_true, Bool.not_false, Bool.false_eq_true, if_false, if_true, ite_true, ite_false, decide_true, decide_false, reduceIte])
      exact q _ ⟨h, rfl, rc⟩
  split
  · rename_i h
    have h := of_decide_eq_true h
    exact fin turns ⟨t0, t1, fun _ => by omega⟩
  · exact fin 0 ⟨by omega, by omega, fun h => by omega⟩
/-! the least row is the least of all alike -/
theorem lex_tri : ∀ {a b : List Int}, HT.lexLt a b = false → HT.lexLt b a = false → a = b
  | [], [], _, _ => rfl
  | [], _ :: _, h, _ => by simp [HT.lexLt] at h
  | _ :: _, [], _, h => by simp [HT.lexLt] at h
  | x :: a, y :: b, h1, h2 => by
    unfold HT.lexLt at h1 h2
    by_cases e : x = y
    · subst e
      rw [if_pos rfl] at h1 h2
      rw [lex_tri h1 h2]
    · rw [if_neg e] at h1
      rw [if_neg (Ne.symm e)] at h2
      have h1 := of_decide_eq_false h1
      have h2 := of_decide_eq_false h2
      omega
theorem lst_min (h1 : Lst ws r a) : ∀ {s : List Int}, SameLogs ws r s → NoEmpty ws r → NoEmpty ws s → HT.lexLt s a = false := by
  induction h1 with
  | nil => intro s hs _ n2; rw [same_nil hs n2]; rfl
  | @cons left rest x k p _ ih =>
    intro s hs n1 n2
    have xl : x ∈ left := List.mem_of_getElem? (free_at p.1).1
    cases s with
    | nil => exact nomatch same_mem hs n1 xl
    | cons y s =>
      have ys : y ∈ left := same_mem (fun d => (hs d).symm) n2 List.mem_cons_self
      obtain ⟨j, fj⟩ := head_free (r := left) (z := y) (n1 y ys) fun d hd => by rw [hs d, logF_cons, if_pos hd]; rfl
      have hxy : x ≤ y := by
        by_cases q : y < x
        · have := p.2 y ys q; rw [fj] at this; cases this
        · omega
      unfold HT.lexLt
      by_cases e : y = x
      · subst e
        rw [if_pos rfl]
        obtain ⟨P, T, e1, _, e3, e4⟩ := free_cut p.1
        refine ih (fun d => ?_) (fun z hz => n1 z (List.mem_of_mem_eraseIdx hz)) (fun z hz => n2 z (List.mem_cons_of_mem _ hz))
        have l1 := (Rch.bubble (R := T) P e4).logs d
        rw [← e1, ← e3, hs d, logF_cons, logF_cons] at l1
        split at l1
        · exact (List.cons.inj l1).2
        · exact l1
      · rw [if_neg e, decide_eq_false (by omega)]
theorem free_head0 {x : Int} {l : List Int} : freeAt ws (x :: l) x = some 0 := by unfold freeAt; rw [if_pos rfl]
theorem free_prefix : ∀ {P S : List Int} {y : Int} {k : Nat}, freeAt ws P y = some k → freeAt ws (P ++ S) y = some k
  | [], _, _, _, h => nomatch h
  | z :: P, S, y, k, h => by
    unfold freeAt at h
    show freeAt ws (z :: (P ++ S)) y = some k
    unfold freeAt
    split at h
    · rename_i e; rw [if_pos e]; exact h
    · rename_i e
      rw [if_neg e]
      split at h
      · cases h
      · rename_i e2
        rw [if_neg e2]
        cases e3 : freeAt ws P y with
        | none => rw [e3] at h; cases h
        | some m => rw [e3] at h; rw [free_prefix e3]; exact h
theorem lst_own_cons {x : Int} {l : List Int} : Lst ws (x :: l) (x :: l) ↔ (∀ y ∈ x :: l, y < x → freeAt ws (x :: l) y = none) ∧ Lst ws l l := by
  constructor
  · intro h
    cases h with
    | cons p h2 =>
      have e := p.1
      rw [free_head0] at e
      cases e
      exact ⟨p.2, h2⟩
  · rintro ⟨h1, h2⟩
    exact .cons ⟨free_head0, h1⟩ h2
theorem lst_own_app : ∀ {P S : List Int}, Lst ws (P ++ S) (P ++ S) → Lst ws P P ∧ Lst ws S S
  | [], S, h => ⟨.nil, h⟩
  | x :: P, S, h => by
    have h : Lst ws (x :: (P ++ S)) (x :: (P ++ S)) := h
    obtain ⟨h1, h2⟩ := lst_own_cons.mp h
    obtain ⟨i1, i2⟩ := lst_own_app h2
    refine ⟨lst_own_cons.mpr ⟨fun y hy hlt => ?_, i1⟩, i2⟩
    have := h1 y (List.mem_append_left (as := x :: P) S hy) hlt
    cases e : freeAt ws (x :: P) y with
    | none => rfl
    | some k =>
      have e2 := free_prefix (S := S) e
      rw [List.cons_append, this] at e2
      cases e2
theorem lst_own (h1 : Lst ws r a) : NoEmpty ws r → Lst ws a a := by
  induction h1 with
  | nil => exact fun _ => .nil
  | @cons left rest x k p h2 ih =>
    intro n1
    have n2 : NoEmpty ws (left.eraseIdx k) := fun z hz => n1 z (List.mem_of_mem_eraseIdx hz)
    have rc := lst_rch (.cons p h2)
    refine lst_own_cons.mpr ⟨fun y hy hlt => ?_, ih n2⟩
    have yl := (rc.mem y).mp hy
    cases e : freeAt ws (x :: rest) y with
    | none => rfl
    | some j =>
      obtain ⟨j2, e2⟩ := head_free (r := left) (z := y) (n1 y yl) fun d hd => by rw [← rc.logs d]; exact free_head e hd
      rw [p.2 y yl hlt] at e2
      cases e2
theorem lst_len (h : Lst ws r a) : a.length = r.length := (lst_rch h).len
theorem lst_inW (h : Lst ws r a) (hr : InW ws r) : InW ws a := fun x hx => hr x (((lst_rch h).mem x).mp hx)
/-- the least row of a least row -/
theorem lst_again (h : WsOk n ws) (hr : InW ws r) (h1 : Lst ws r a) (h2 : Lst ws a b) : b = a := (lst_same h1 h2 (fun d => ((lst_rch h1).logs d).symm) (ne_of_wsok h hr) (ne_of_wsok h (lst_inW h1 hr))).symm
theorem lst_one (h : WsOk n ws) (hr : InW ws r) (h1 : Lst ws r a) (h2 : Lst ws r b) : a = b := lst_same h1 h2 (fun _ => rfl) (ne_of_wsok h hr) (ne_of_wsok h hr)
theorem lst_alike (h : WsOk n ws) (hr : InW ws r) (hs : InW ws s) (e : Rch (apF ws) r s) (h1 : Lst ws r a) (h2 : Lst ws s b) : a = b := lst_same h1 h2 (fun d => (e.logs d).symm) (ne_of_wsok h hr) (ne_of_wsok h hs)
end
end Pu

/-! file V_k06 -/
set_option Elab.async false
set_option linter.all false
set_option maxRecDepth 100000
set_option synthInstance.maxHeartbeats 0
set_option synthInstance.maxSize 100000
namespace Pu
open PySem PySem.Spec PyProof.Rows L2
section
variable {Q : D → Prop} {n i : Int} {r s row left a b : List Int} {ws us L K : List (List Int)} {C : List Int} {kvs : List (List Key × D)} {dd : D}
theorem y_slR_lo' {z : Int} (h : 0 ≤ z) (q : Q (rD (r.drop z.toNat))) : slcQ (rD r) (some z) none Q := by
  have := y_slR_lo (r := r) (k := z.toNat) q
  rwa [Int.toNat_of_nonneg h] at this
theorem y_slR_hi' {z : Int} (h : 0 ≤ z) (q : Q (rD (r.take z.toNat))) : slcQ (rD r) none (some z) Q := by
  have := y_slR_hi (r := r) (k := z.toNat) q
  rwa [Int.toNat_of_nonneg h] at this
theorem inW_drop {k : Nat} (h : InW ws r) : InW ws (r.drop k) := fun x hx => h x (List.mem_of_mem_drop hx)
theorem pl_row (hr : r.length ≤ 1000000) : Pl 7 (rD r) := pl_le (pl_rD hr) (by decide)
theorem if_row {c : Bool} {K : D → Prop} {x y : Int} {dd : D} (h3 : 1 ≤ ws.length) (h4 : ws.length ≤ 10) (hx0 : 0 ≤ x) (hx : x ≤ 7) (hy0 : 0 ≤ y) (hy : y ≤ 7) (h : ∀ row : List Int, row.length ≤ 7 → InW ws row → K (rD row)) : if c = true then m__law_row [dd, pD n ws, .int x] K else m__law_row [dd, pD n ws, .int y] K := by
  split
  · refine row_ev hx0 (by omega) h3 h4 _ fun d ⟨row, e, hl, hw⟩ => ?_
    subst e
    exact h row (by omega) hw
  · refine row_ev hy0 (by omega) h3 h4 _ fun d ⟨row, e, hl, hw⟩ => ?_
    subst e
    exact h row (by omega) hw
theorem pure_law_k06 : b_law_k06 lawEnds (List.replicate 12 none) := by
  have hs : 100 ≤ sizeLine := by decide
  unfold b_law_k06
  simp only [env0, List.map_cons, List.map_nil, List.length_cons, List.length_nil, List.replicate_succ, List.replicate_zero, List.cons_append, List.nil_append, Nat.reduceSub, Nat.reduceAdd, Nat.zero_add, w_var0, w_varS, w_c, w_imm, w_nil, w_cons, w_dice, w_call, w_x1, w_x2, w_tup, w_lst, w_if, w_and, w_or, w_not, w_yes, w_test, w_boo, w_xand, w_xor, w_xnot, w_chain, w_seq, w_set, w_sifR, w_sifRS, w_sifN, w_sifB, w_sifC, w_ret, w_next, w_break, w_cont, w_never, w_drop, w_set0, w_setS, w_setn0, w_setnS, w_bname, w_mseq, w_seqL, w_seqT, w_mrng1, w_mrng2, w_enmU, w_enmL, w_enmT, w_getL, w_getK, w_getT, w_for, w_lc, w_app, w_onL, w_put, w_aug, w_augS, w_lm, w_setE, w_retE, w_appE, w_pop, w_asgG, w_sl, w_lrg1, w_pno, w_pyes, w_intQ, w_btup, w_bcons, w_bnil, w_oI, w_oIc, w_addI, w_add1I, w_intI, w_intB, w_lenL, w_lenT, w_lenDT, w_lenDK, w_isN, w_notN, w_isB, w_oTupL, w_oTupT, y_mapI, y_mapR, List.length_cons, List.length_nil, Nat.reduceAdd, Nat.zero_add, y_rows_rD, y_immL_I, y_logs, y_immL_R, y_W, y_isA_int, y_isA_bl, y_isA_str, y_isA_non, y_isA_tup, y_isA_lst, y_isA_rD, y_isA_wD, y_isT_int, y_isT_bl, y_isT_str, y_isT_non, y_isT_tup, y_isT_lst, sb1, sb2, sb3, sb4, sb5, sb6, sb7, sb8, sb9, sb10, sb11, sb12, sb13, sb14, sb15, sb16, sb17, sb18, sb19, sb20, sb21, y_isN_int, y_isN_non, y_isN_rD, List.map_id, id_eq, BEq.rfl, bne_self_eq_false, y_imm_int, y_imm_bl, y_imm_non, y_imm_rD, y_imm_wD, y_immL_nil, y_immL_cons, y_imm_tup, y_tup_dInts, y_tup_rows, y_len_dInts, y_len_rowsD, y_len_rD, y_len_wD, y_len_nD, y_eqI, y_neI, y_eqR, y_neR, y_eqW, y_neW, y_eqB, y_neB, y_inR, y_notInR, y_fldW, y_fldD, y_p0, y_p1, y_listT, y_all, y_any, true_and, and_true, Bool.and_self, Bool.and_true, Bool.true_and, Bool.not_true, Bool.not_false, Bool.false_eq_true, if_false, if_true, ite_true, ite_false, decide_true, decide_false, reduceIte]
  refine y_rng (by decide) (by decide) ?_
  refine loop_I (fun p s env => ∃ e2 e3 e4 e5 e6 e7 e8 e9 e10 e11, env = [none, none, e2, e3, e4, e5, e6, e7, e8, e9, e10, e11]) _ ⟨_, _, _, _, _, _, _, _, _, _, rfl⟩ ?_ ?_
  · rintro p i s env e ⟨e2, e3, e4, e5, e6, e7, e8, e9, e10, e11, rfl⟩
    (try simp only [w_var0, w_varS, w_c, w_imm, w_nil, w_cons, w_dice, w_call, w_x1, w_x2, w_tup, w_lst, w_if, w_and, w_or, w_not, w_yes, w_test, w_boo, w_xand, w_xor, w_xnot, w_chain, w_seq, w_set, w_sifR, w_sifRS, w_sifN, w_sifB, w_sifC, w_ret, w_next, w_break, w_cont, w_never, w_drop, w_set0, w_setS, w_setn0, w_setnS, w_bname, w_mseq, w_seqL, w_seqT, w_mrng1, w_mrng2, w_enmU, w_enmL, w_enmT, w_getL, w_getK, w_getT, w_for, w_lc, w_app, w_onL, w_put, w_aug, w_augS, w_lm, w_setE, w_retE, w_appE, w_pop, w_asgG, w_sl, w_lrg1, w_pno, w_pyes, w_intQ, w_btup, w_bcons, w_bnil, w_oI, w_oIc, w_addI, w_add1I, w_intI, w_intB, w_lenL, w_lenT, w_lenDT, w_lenDK, w_isN, w_notN, w_isB, w_oTupL, w_oTupT, y_mapI, y_mapR, List.length_cons, List.length_nil, Nat.reduceAdd, Nat.zero_add, y_rows_rD, y_immL_I, y_logs, y_immL_R, y_W, y_isA_int, y_isA_bl, y_isA_str, y_isA_non, y_isA_tup, y_isA_lst, y_isA_rD, y_isA_wD, y_isT_int, y_isT_bl, y_isT_str, y_isT_non, y_isT_tup, y_isT_lst, sb1, sb2, sb3, sb4, sb5, sb6, sb7, sb8, sb9, sb10, sb11, sb12, sb13, sb14, sb15, sb16, sb17, sb18, sb19, sb20, sb21, y_isN_int, y_isN_non, y_isN_rD, List.map_id, id_eq, BEq.rfl, bne_self_eq_false, y_imm_int, y_imm_bl, y_imm_non, y_imm_rD, y_imm_wD, y_immL_nil, y_immL_cons, y_imm_tup, y_tup_dInts, y_tup_rows, y_len_dInts, y_len_rowsD, y_len_rD, y_len_wD, y_len_nD, y_eqI, y_neI, y_eqR, y_neR, y_eqW, y_neW, y_eqB, y_neB, y_inR, y_notInR, y_fldW, y_fldD, y_p0, y_p1, y_listT, y_all, y_any, true_and, and_true, Bool.and_self, Bool.and_true, Bool.true_and, Bool.not_true, Bool.not_false, Bool.false_eq_true, if_false, if_true, ite_true, ite_false, decide_true, decide_false, reduceIte])
    refine some_parts_ev _ fun d ⟨n, ws, e, h⟩ => ?_
    subst e
    refine made_ev h _ ?_
    obtain ⟨h1, h2, h3, h4, h5⟩ := id h
    have wl : WsLen ws := fun l hl => (h5 l hl).2.2
    refine near_ev wl h4 _ ?_
    (try simp only [w_var0, w_varS, w_c, w_imm, w_nil, w_cons, w_dice, w_call, w_x1, w_x2, w_tup, w_lst, w_if, w_and, w_or, w_not, w_yes, w_test, w_boo, w_xand, w_xor, w_xnot, w_chain, w_seq, w_set, w_sifR, w_sifRS, w_sifN, w_sifB, w_sifC, w_ret, w_next, w_break, w_cont, w_never, w_drop, w_set0, w_setS, w_setn0, w_setnS, w_bname, w_mseq, w_seqL, w_seqT, w_mrng1, w_mrng2, w_enmU, w_enmL, w_enmT, w_getL, w_getK, w_getT, w_for, w_lc, w_app, w_onL, w_put, w_aug, w_augS, w_lm, w_setE, w_retE, w_appE, w_pop, w_asgG, w_sl, w_lrg1, w_pno, w_pyes, w_intQ, w_btup, w_bcons, w_bnil, w_oI, w_oIc, w_addI, w_add1I, w_intI, w_intB, w_lenL, w_lenT, w_lenDT, w_lenDK, w_isN, w_notN, w_isB, w_oTupL, w_oTupT, y_mapI, y_mapR, List.length_cons, List.length_nil, Nat.reduceAdd, Nat.zero_add, y_rows_rD, y_immL_I, y_logs, y_immL_R, y_W, y_isA_int, y_isA_bl, y_isA_str, y_isA_non, y_isA_tup, y_isA_lst, y_isA_rD, y_isA_wD, y_isT_int, y_isT_bl, y_isT_str, y_isT_non, y_isT_tup, y_isT_lst, sb1, sb2, sb3, sb4, sb5, sb6, sb7, sb8, sb9, sb10, sb11, sb12, sb13, sb14, sb15, sb16, sb17, sb18, sb19, sb20, sb21, y_isN_int, y_isN_non, y_isN_rD, List.map_id, id_eq, BEq.rfl, bne_self_eq_false, y_imm_int, y_imm_bl, y_imm_non, y_imm_rD, y_imm_wD, y_immL_nil, y_immL_cons, y_imm_tup, y_tup_dInts, y_tup_rows, y_len_dInts, y_len_rowsD, y_len_rD, y_len_wD, y_len_nD, y_eqI, y_neI, y_eqR, y_neR, y_eqW, y_neW, y_eqB, y_neB, y_inR, y_notInR, y_fldW, y_fldD, y_p0, y_p1, y_listT, y_all, y_any, true_and, and_true, Bool.and_self, Bool.and_true, Bool.true_and, Bool.not_true, Bool.not_false, Bool.false_eq_true, if_false, if_true, ite_true, ite_false, decide_true, decide_false, reduceIte])
    refine if_row h3 h4 (by decide) (by decide) (by decide) (by decide) fun row hl hw => ?_
    refine exch_ev hw h4 hl _ fun d ⟨K, kvs, e, F, I, Dn⟩ => ?_
    subst e
    have rok : RowOk ws row := ⟨by omega, hw⟩
    refine least_row_ev h rok _ fun d ⟨a, e, la⟩ => ?_
    subst e
    have al := lst_len la
    have aw := lst_inW la hw
    have aok : RowOk ws a := ⟨by omega, aw⟩
    (try simp only [w_var0, w_varS, w_c, w_imm, w_nil, w_cons, w_dice, w_call, w_x1, w_x2, w_tup, w_lst, w_if, w_and, w_or, w_not, w_yes, w_test, w_boo, w_xand, w_xor, w_xnot, w_chain, w_seq, w_set, w_sifR, w_sifRS, w_sifN, w_sifB, w_sifC, w_ret, w_next, w_break, w_cont, w_never, w_drop, w_set0, w_setS, w_setn0, w_setnS, w_bname, w_mseq, w_seqL, w_seqT, w_mrng1, w_mrng2, w_enmU, w_enmL, w_enmT, w_getL, w_getK, w_getT, w_for, w_lc, w_app, w_onL, w_put, w_aug, w_augS, w_lm, w_setE, w_retE, w_appE, w_pop, w_asgG, w_sl, w_lrg1, w_pno, w_pyes, w_intQ, w_btup, w_bcons, w_bnil, w_oI, w_oIc, w_addI, w_add1I, w_intI, w_intB, w_lenL, w_lenT, w_lenDT, w_lenDK, w_isN, w_notN, w_isB, w_oTupL, w_oTupT, y_mapI, y_mapR, List.length_cons, List.length_nil, Nat.reduceAdd, Nat.zero_add, y_rows_rD, y_immL_I, y_logs, y_immL_R, y_W, y_isA_int, y_isA_bl, y_isA_str, y_isA_non, y_isA_tup, y_isA_lst, y_isA_rD, y_isA_wD, y_isT_int, y_isT_bl, y_isT_str, y_isT_non, y_isT_tup, y_isT_lst, sb1, sb2, sb3, sb4, sb5, sb6, sb7, sb8, sb9, sb10, sb11, sb12, sb13, sb14, sb15, sb16, sb17, sb18, sb19, sb20, sb21, y_isN_int, y_isN_non, y_isN_rD, List.map_id, id_eq, BEq.rfl, bne_self_eq_false, y_imm_int, y_imm_bl, y_imm_non, y_imm_rD, y_imm_wD, y_immL_nil, y_immL_cons, y_imm_tup, y_tup_dInts, y_tup_rows, y_len_dInts, y_len_rowsD, y_len_rD, y_len_wD, y_len_nD, y_eqI, y_neI, y_eqR, y_neR, y_eqW, y_neW, y_eqB, y_neB, y_inR, y_notInR, y_fldW, y_fldD, y_p0, y_p1, y_listT, y_all, y_any, true_and, and_true, Bool.and_self, Bool.and_true, Bool.true_and, Bool.not_true, Bool.not_false, Bool.false_eq_true, if_false, if_true, ite_true, ite_false, decide_true, decide_false, reduceIte])
    refine y_listDT F ⟨K, rfl, (fun e => by have := I.row_in; rw [e] at this; cases this), fun r hr hm => ?_⟩
    have era : r = a := by
      have h1 := hm a (dn_closed Dn I.row_in (lst_rch la))
      have h2 := lst_min la (s := r) (fun d => ((I.rch r hr).logs d).symm) (ne_of_wsok h hw) (ne_of_wsok h fun x hx => hw x (((I.rch r hr).mem x).mp hx))
      exact (lex_tri h1 h2).symm
    subst era
    (try simp only [w_var0, w_varS, w_c, w_imm, w_nil, w_cons, w_dice, w_call, w_x1, w_x2, w_tup, w_lst, w_if, w_and, w_or, w_not, w_yes, w_test, w_boo, w_xand, w_xor, w_xnot, w_chain, w_seq, w_set, w_sifR, w_sifRS, w_sifN, w_sifB, w_sifC, w_ret, w_next, w_break, w_cont, w_never, w_drop, w_set0, w_setS, w_setn0, w_setnS, w_bname, w_mseq, w_seqL, w_seqT, w_mrng1, w_mrng2, w_enmU, w_enmL, w_enmT, w_getL, w_getK, w_getT, w_for, w_lc, w_app, w_onL, w_put, w_aug, w_augS, w_lm, w_setE, w_retE, w_appE, w_pop, w_asgG, w_sl, w_lrg1, w_pno, w_pyes, w_intQ, w_btup, w_bcons, w_bnil, w_oI, w_oIc, w_addI, w_add1I, w_intI, w_intB, w_lenL, w_lenT, w_lenDT, w_lenDK, w_isN, w_notN, w_isB, w_oTupL, w_oTupT, y_mapI, y_mapR, List.length_cons, List.length_nil, Nat.reduceAdd, Nat.zero_add, y_rows_rD, y_immL_I, y_logs, y_immL_R, y_W, y_isA_int, y_isA_bl, y_isA_str, y_isA_non, y_isA_tup, y_isA_lst, y_isA_rD, y_isA_wD, y_isT_int, y_isT_bl, y_isT_str, y_isT_non, y_isT_tup, y_isT_lst, sb1, sb2, sb3, sb4, sb5, sb6, sb7, sb8, sb9, sb10, sb11, sb12, sb13, sb14, sb15, sb16, sb17, sb18, sb19, sb20, sb21, y_isN_int, y_isN_non, y_isN_rD, List.map_id, id_eq, BEq.rfl, bne_self_eq_false, y_imm_int, y_imm_bl, y_imm_non, y_imm_rD, y_imm_wD, y_immL_nil, y_immL_cons, y_imm_tup, y_tup_dInts, y_tup_rows, y_len_dInts, y_len_rowsD, y_len_rD, y_len_wD, y_len_nD, y_eqI, y_neI, y_eqR, y_neR, y_eqW, y_neW, y_eqB, y_neB, y_inR, y_notInR, y_fldW, y_fldD, y_p0, y_p1, y_listT, y_all, y_any, true_and, and_true, Bool.and_self, Bool.and_true, Bool.true_and, Bool.not_true, Bool.not_false, Bool.false_eq_true, if_false, if_true, ite_true, ite_false, decide_true, decide_false, reduceIte])
    refine same_ev (pl_row (by omega)) _ ?_
    (try simp only [w_var0, w_varS, w_c, w_imm, w_nil, w_cons, w_dice, w_call, w_x1, w_x2, w_tup, w_lst, w_if, w_and, w_or, w_not, w_yes, w_test, w_boo, w_xand, w_xor, w_xnot, w_chain, w_seq, w_set, w_sifR, w_sifRS, w_sifN, w_sifB, w_sifC, w_ret, w_next, w_break, w_cont, w_never, w_drop, w_set0, w_setS, w_setn0, w_setnS, w_bname, w_mseq, w_seqL, w_seqT, w_mrng1, w_mrng2, w_enmU, w_enmL, w_enmT, w_getL, w_getK, w_getT, w_for, w_lc, w_app, w_onL, w_put, w_aug, w_augS, w_lm, w_setE, w_retE, w_appE, w_pop, w_asgG, w_sl, w_lrg1, w_pno, w_pyes, w_intQ, w_btup, w_bcons, w_bnil, w_oI, w_oIc, w_addI, w_add1I, w_intI, w_intB, w_lenL, w_lenT, w_lenDT, w_lenDK, w_isN, w_notN, w_isB, w_oTupL, w_oTupT, y_mapI, y_mapR, List.length_cons, List.length_nil, Nat.reduceAdd, Nat.zero_add, y_rows_rD, y_immL_I, y_logs, y_immL_R, y_W, y_isA_int, y_isA_bl, y_isA_str, y_isA_non, y_isA_tup, y_isA_lst, y_isA_rD, y_isA_wD, y_isT_int, y_isT_bl, y_isT_str, y_isT_non, y_isT_tup, y_isT_lst, sb1, sb2, sb3, sb4, sb5, sb6, sb7, sb8, sb9, sb10, sb11, sb12, sb13, sb14, sb15, sb16, sb17, sb18, sb19, sb20, sb21, y_isN_int, y_isN_non, y_isN_rD, List.map_id, id_eq, BEq.rfl, bne_self_eq_false, y_imm_int, y_imm_bl, y_imm_non, y_imm_rD, y_imm_wD, y_immL_nil, y_immL_cons, y_imm_tup, y_tup_dInts, y_tup_rows, y_len_dInts, y_len_rowsD, y_len_rD, y_len_wD, y_len_nD, y_eqI, y_neI, y_eqR, y_neR, y_eqW, y_neW, y_eqB, y_neB, y_inR, y_notInR, y_fldW, y_fldD, y_p0, y_p1, y_listT, y_all, y_any, true_and, and_true, Bool.and_self, Bool.and_true, Bool.true_and, Bool.not_true, Bool.not_false, Bool.false_eq_true, if_false, if_true, ite_true, ite_false, decide_true, decide_false, reduceIte])
    refine least_ev (by omega) hw _ fun d ⟨b, e, lb⟩ => ?_
    subst e
    have eb := lst_one h hw la lb
    subst eb
    (try simp only [w_var0, w_varS, w_c, w_imm, w_nil, w_cons, w_dice, w_call, w_x1, w_x2, w_tup, w_lst, w_if, w_and, w_or, w_not, w_yes, w_test, w_boo, w_xand, w_xor, w_xnot, w_chain, w_seq, w_set, w_sifR, w_sifRS, w_sifN, w_sifB, w_sifC, w_ret, w_next, w_break, w_cont, w_never, w_drop, w_set0, w_setS, w_setn0, w_setnS, w_bname, w_mseq, w_seqL, w_seqT, w_mrng1, w_mrng2, w_enmU, w_enmL, w_enmT, w_getL, w_getK, w_getT, w_for, w_lc, w_app, w_onL, w_put, w_aug, w_augS, w_lm, w_setE, w_retE, w_appE, w_pop, w_asgG, w_sl, w_lrg1, w_pno, w_pyes, w_intQ, w_btup, w_bcons, w_bnil, w_oI, w_oIc, w_addI, w_add1I, w_intI, w_intB, w_lenL, w_lenT, w_lenDT, w_lenDK, w_isN, w_notN, w_isB, w_oTupL, w_oTupT, y_mapI, y_mapR, List.length_cons, List.length_nil, Nat.reduceAdd, Nat.zero_add, y_rows_rD, y_immL_I, y_logs, y_immL_R, y_W, y_isA_int, y_isA_bl, y_isA_str, y_isA_non, y_isA_tup, y_isA_lst, y_isA_rD, y_isA_wD, y_isT_int, y_isT_bl, y_isT_str, y_isT_non, y_isT_tup, y_isT_lst, sb1, sb2, sb3, sb4, sb5, sb6, sb7, sb8, sb9, sb10, sb11, sb12, sb13, sb14, sb15, sb16, sb17, sb18, sb19, sb20, sb21, y_isN_int, y_isN_non, y_isN_rD, List.map_id, id_eq, BEq.rfl, bne_self_eq_false, y_imm_int, y_imm_bl, y_imm_non, y_imm_rD, y_imm_wD, y_immL_nil, y_immL_cons, y_imm_tup, y_tup_dInts, y_tup_rows, y_len_dInts, y_len_rowsD, y_len_rD, y_len_wD, y_len_nD, y_eqI, y_neI, y_eqR, y_neR, y_eqW, y_neW, y_eqB, y_neB, y_inR, y_notInR, y_fldW, y_fldD, y_p0, y_p1, y_listT, y_all, y_any, true_and, and_true, Bool.and_self, Bool.and_true, Bool.true_and, Bool.not_true, Bool.not_false, Bool.false_eq_true, if_false, if_true, ite_true, ite_false, decide_true, decide_false, reduceIte])
    refine least_row_ev h aok _ fun d ⟨b, e, lb⟩ => ?_
    subst e
    have eb := lst_again h hw la lb
    subst eb
    (try simp only [w_var0, w_varS, w_c, w_imm, w_nil, w_cons, w_dice, w_call, w_x1, w_x2, w_tup, w_lst, w_if, w_and, w_or, w_not, w_yes, w_test, w_boo, w_xand, w_xor, w_xnot, w_chain, w_seq, w_set, w_sifR, w_sifRS, w_sifN, w_sifB, w_sifC, w_ret, w_next, w_break, w_cont, w_never, w_drop, w_set0, w_setS, w_setn0, w_setnS, w_bname, w_mseq, w_seqL, w_seqT, w_mrng1, w_mrng2, w_enmU, w_enmL, w_enmT, w_getL, w_getK, w_getT, w_for, w_lc, w_app, w_onL, w_put, w_aug, w_augS, w_lm, w_setE, w_retE, w_appE, w_pop, w_asgG, w_sl, w_lrg1, w_pno, w_pyes, w_intQ, w_btup, w_bcons, w_bnil, w_oI, w_oIc, w_addI, w_add1I, w_intI, w_intB, w_lenL, w_lenT, w_lenDT, w_lenDK, w_isN, w_notN, w_isB, w_oTupL, w_oTupT, y_mapI, y_mapR, List.length_cons, List.length_nil, Nat.reduceAdd, Nat.zero_add, y_rows_rD, y_immL_I, y_logs, y_immL_R, y_W, y_isA_int, y_isA_bl, y_isA_str, y_isA_non, y_isA_tup, y_isA_lst, y_isA_rD, y_isA_wD, y_isT_int, y_isT_bl, y_isT_str, y_isT_non, y_isT_tup, y_isT_lst, sb1, sb2, sb3, sb4, sb5, sb6, sb7, sb8, sb9, sb10, sb11, sb12, sb13, sb14, sb15, sb16, sb17, sb18, sb19, sb20, sb21, y_isN_int, y_isN_non, y_isN_rD, List.map_id, id_eq, BEq.rfl, bne_self_eq_false, y_imm_int, y_imm_bl, y_imm_non, y_imm_rD, y_imm_wD, y_immL_nil, y_immL_cons, y_imm_tup, y_tup_dInts, y_tup_rows, y_len_dInts, y_len_rowsD, y_len_rD, y_len_wD, y_len_nD, y_eqI, y_neI, y_eqR, y_neR, y_eqW, y_neW, y_eqB, y_neB, y_inR, y_notInR, y_fldW, y_fldD, y_p0, y_p1, y_listT, y_all, y_any, true_and, and_true, Bool.and_self, Bool.and_true, Bool.true_and, Bool.not_true, Bool.not_false, Bool.false_eq_true, if_false, if_true, ite_true, ite_false, decide_true, decide_false, reduceIte])
    refine y_rng (by decide) (by decide) ?_
    refine loop_I (fun p s env => ∃ e9 e10, env = [none, none, some (.int i), some (pD n ws), some (oD n ws), some (nD (nearF ws)), some (rD row), some (.dT kvs), some (rD _), e9, e10, e11]) _ ⟨_, _, rfl⟩ ?_ ?_
    · rintro p2 i2 s2 env e2 ⟨e9, e10, rfl⟩
      (try simp only [w_var0, w_varS, w_c, w_imm, w_nil, w_cons, w_dice, w_call, w_x1, w_x2, w_tup, w_lst, w_if, w_and, w_or, w_not, w_yes, w_test, w_boo, w_xand, w_xor, w_xnot, w_chain, w_seq, w_set, w_sifR, w_sifRS, w_sifN, w_sifB, w_sifC, w_ret, w_next, w_break, w_cont, w_never, w_drop, w_set0, w_setS, w_setn0, w_setnS, w_bname, w_mseq, w_seqL, w_seqT, w_mrng1, w_mrng2, w_enmU, w_enmL, w_enmT, w_getL, w_getK, w_getT, w_for, w_lc, w_app, w_onL, w_put, w_aug, w_augS, w_lm, w_setE, w_retE, w_appE, w_pop, w_asgG, w_sl, w_lrg1, w_pno, w_pyes, w_intQ, w_btup, w_bcons, w_bnil, w_oI, w_oIc, w_addI, w_add1I, w_intI, w_intB, w_lenL, w_lenT, w_lenDT, w_lenDK, w_isN, w_notN, w_isB, w_oTupL, w_oTupT, y_mapI, y_mapR, List.length_cons, List.length_nil, Nat.reduceAdd, Nat.zero_add, y_rows_rD, y_immL_I, y_logs, y_immL_R, y_W, y_isA_int, y_isA_bl, y_isA_str, y_isA_non, y_isA_tup, y_isA_lst, y_isA_rD, y_isA_wD, y_isT_int, y_isT_bl, y_isT_str, y_isT_non, y_isT_tup, y_isT_lst, sb1, sb2, sb3, sb4, sb5, sb6, sb7, sb8, sb9, sb10, sb11, sb12, sb13, sb14, sb15, sb16, sb17, sb18, sb19, sb20, sb21, y_isN_int, y_isN_non, y_isN_rD, List.map_id, id_eq, BEq.rfl, bne_self_eq_false, y_imm_int, y_imm_bl, y_imm_non, y_imm_rD, y_imm_wD, y_immL_nil, y_immL_cons, y_imm_tup, y_tup_dInts, y_tup_rows, y_len_dInts, y_len_rowsD, y_len_rD, y_len_wD, y_len_nD, y_eqI, y_neI, y_eqR, y_neR, y_eqW, y_neW, y_eqB, y_neB, y_inR, y_notInR, y_fldW, y_fldD, y_p0, y_p1, y_listT, y_all, y_any, true_and, and_true, Bool.and_self, Bool.and_true, Bool.true_and, Bool.not_true, Bool.not_false, Bool.false_eq_true, if_false, if_true, ite_true, ite_false, decide_true, decide_false, reduceIte])
      refine changed_ev h3 h4 hw (by omega) _ fun d ⟨o, e, hl2, ho⟩ => ?_
      subst e
      have ook : RowOk ws o := ⟨by omega, ho⟩
      (try simp only [w_var0, w_varS, w_c, w_imm, w_nil, w_cons, w_dice, w_call, w_x1, w_x2, w_tup, w_lst, w_if, w_and, w_or, w_not, w_yes, w_test, w_boo, w_xand, w_xor, w_xnot, w_chain, w_seq, w_set, w_sifR, w_sifRS, w_sifN, w_sifB, w_sifC, w_ret, w_next, w_break, w_cont, w_never, w_drop, w_set0, w_setS, w_setn0, w_setnS, w_bname, w_mseq, w_seqL, w_seqT, w_mrng1, w_mrng2, w_enmU, w_enmL, w_enmT, w_getL, w_getK, w_getT, w_for, w_lc, w_app, w_onL, w_put, w_aug, w_augS, w_lm, w_setE, w_retE, w_appE, w_pop, w_asgG, w_sl, w_lrg1, w_pno, w_pyes, w_intQ, w_btup, w_bcons, w_bnil, w_oI, w_oIc, w_addI, w_add1I, w_intI, w_intB, w_lenL, w_lenT, w_lenDT, w_lenDK, w_isN, w_notN, w_isB, w_oTupL, w_oTupT, y_mapI, y_mapR, List.length_cons, List.length_nil, Nat.reduceAdd, Nat.zero_add, y_rows_rD, y_immL_I, y_logs, y_immL_R, y_W, y_isA_int, y_isA_bl, y_isA_str, y_isA_non, y_isA_tup, y_isA_lst, y_isA_rD, y_isA_wD, y_isT_int, y_isT_bl, y_isT_str, y_isT_non, y_isT_tup, y_isT_lst, sb1, sb2, sb3, sb4, sb5, sb6, sb7, sb8, sb9, sb10, sb11, sb12, sb13, sb14, sb15, sb16, sb17, sb18, sb19, sb20, sb21, y_isN_int, y_isN_non, y_isN_rD, List.map_id, id_eq, BEq.rfl, bne_self_eq_false, y_imm_int, y_imm_bl, y_imm_non, y_imm_rD, y_imm_wD, y_immL_nil, y_immL_cons, y_imm_tup, y_tup_dInts, y_tup_rows, y_len_dInts, y_len_rowsD, y_len_rD, y_len_wD, y_len_nD, y_eqI, y_neI, y_eqR, y_neR, y_eqW, y_neW, y_eqB, y_neB, y_inR, y_notInR, y_fldW, y_fldD, y_p0, y_p1, y_listT, y_all, y_any, true_and, and_true, Bool.and_self, Bool.and_true, Bool.true_and, Bool.not_true, Bool.not_false, Bool.false_eq_true, if_false, if_true, ite_true, ite_false, decide_true, decide_false, reduceIte])
      refine least_row_ev h ook _ fun d ⟨c, e, lc⟩ => ?_
      subst e
      (try simp only [w_var0, w_varS, w_c, w_imm, w_nil, w_cons, w_dice, w_call, w_x1, w_x2, w_tup, w_lst, w_if, w_and, w_or, w_not, w_yes, w_test, w_boo, w_xand, w_xor, w_xnot, w_chain, w_seq, w_set, w_sifR, w_sifRS, w_sifN, w_sifB, w_sifC, w_ret, w_next, w_break, w_cont, w_never, w_drop, w_set0, w_setS, w_setn0, w_setnS, w_bname, w_mseq, w_seqL, w_seqT, w_mrng1, w_mrng2, w_enmU, w_enmL, w_enmT, w_getL, w_getK, w_getT, w_for, w_lc, w_app, w_onL, w_put, w_aug, w_augS, w_lm, w_setE, w_retE, w_appE, w_pop, w_asgG, w_sl, w_lrg1, w_pno, w_pyes, w_intQ, w_btup, w_bcons, w_bnil, w_oI, w_oIc, w_addI, w_add1I, w_intI, w_intB, w_lenL, w_lenT, w_lenDT, w_lenDK, w_isN, w_notN, w_isB, w_oTupL, w_oTupT, y_mapI, y_mapR, List.length_cons, List.length_nil, Nat.reduceAdd, Nat.zero_add, y_rows_rD, y_immL_I, y_logs, y_immL_R, y_W, y_isA_int, y_isA_bl, y_isA_str, y_isA_non, y_isA_tup, y_isA_lst, y_isA_rD, y_isA_wD, y_isT_int, y_isT_bl, y_isT_str, y_isT_non, y_isT_tup, y_isT_lst, sb1, sb2, sb3, sb4, sb5, sb6, sb7, sb8, sb9, sb10, sb11, sb12, sb13, sb14, sb15, sb16, sb17, sb18, sb19, sb20, sb21, y_isN_int, y_isN_non, y_isN_rD, List.map_id, id_eq, BEq.rfl, bne_self_eq_false, y_imm_int, y_imm_bl, y_imm_non, y_imm_rD, y_imm_wD, y_immL_nil, y_immL_cons, y_imm_tup, y_tup_dInts, y_tup_rows, y_len_dInts, y_len_rowsD, y_len_rD, y_len_wD, y_len_nD, y_eqI, y_neI, y_eqR, y_neR, y_eqW, y_neW, y_eqB, y_neB, y_inR, y_notInR, y_fldW, y_fldD, y_p0, y_p1, y_listT, y_all, y_any, true_and, and_true, Bool.and_self, Bool.and_true, Bool.true_and, Bool.not_true, Bool.not_false, Bool.false_eq_true, if_false, if_true, ite_true, ite_false, decide_true, decide_false, reduceIte])
      refine in_known F ?_
      have ki := known_iff h hw ho I Dn
      have li := lst_iff h hw ho la lc
      rw [show decide (o ∈ K) = decide (c = _) from decide_eq_decide.mpr ((ki.trans li).trans eq_comm)]
      (try simp only [w_var0, w_varS, w_c, w_imm, w_nil, w_cons, w_dice, w_call, w_x1, w_x2, w_tup, w_lst, w_if, w_and, w_or, w_not, w_yes, w_test, w_boo, w_xand, w_xor, w_xnot, w_chain, w_seq, w_set, w_sifR, w_sifRS, w_sifN, w_sifB, w_sifC, w_ret, w_next, w_break, w_cont, w_never, w_drop, w_set0, w_setS, w_setn0, w_setnS, w_bname, w_mseq, w_seqL, w_seqT, w_mrng1, w_mrng2, w_enmU, w_enmL, w_enmT, w_getL, w_getK, w_getT, w_for, w_lc, w_app, w_onL, w_put, w_aug, w_augS, w_lm, w_setE, w_retE, w_appE, w_pop, w_asgG, w_sl, w_lrg1, w_pno, w_pyes, w_intQ, w_btup, w_bcons, w_bnil, w_oI, w_oIc, w_addI, w_add1I, w_intI, w_intB, w_lenL, w_lenT, w_lenDT, w_lenDK, w_isN, w_notN, w_isB, w_oTupL, w_oTupT, y_mapI, y_mapR, List.length_cons, List.length_nil, Nat.reduceAdd, Nat.zero_add, y_rows_rD, y_immL_I, y_logs, y_immL_R, y_W, y_isA_int, y_isA_bl, y_isA_str, y_isA_non, y_isA_tup, y_isA_lst, y_isA_rD, y_isA_wD, y_isT_int, y_isT_bl, y_isT_str, y_isT_non, y_isT_tup, y_isT_lst, sb1, sb2, sb3, sb4, sb5, sb6, sb7, sb8, sb9, sb10, sb11, sb12, sb13, sb14, sb15, sb16, sb17, sb18, sb19, sb20, sb21, y_isN_int, y_isN_non, y_isN_rD, List.map_id, id_eq, BEq.rfl, bne_self_eq_false, y_imm_int, y_imm_bl, y_imm_non, y_imm_rD, y_imm_wD, y_immL_nil, y_immL_cons, y_imm_tup, y_tup_dInts, y_tup_rows, y_len_dInts, y_len_rowsD, y_len_rD, y_len_wD, y_len_nD, y_eqI, y_neI, y_eqR, y_neR, y_eqW, y_neW, y_eqB, y_neB, y_inR, y_notInR, y_fldW, y_fldD, y_p0, y_p1, y_listT, y_all, y_any, true_and, and_true, Bool.and_self, Bool.and_true, Bool.true_and, Bool.not_true, Bool.not_false, Bool.false_eq_true, if_false, if_true, ite_true, ite_false, decide_true, decide_false, reduceIte])
      exact ⟨_, _, rfl⟩
    · rintro env ⟨e9, e10, rfl⟩
      (try simp only [w_var0, w_varS, w_c, w_imm, w_nil, w_cons, w_dice, w_call, w_x1, w_x2, w_tup, w_lst, w_if, w_and, w_or, w_not, w_yes, w_test, w_boo, w_xand, w_xor, w_xnot, w_chain, w_seq, w_set, w_sifR, w_sifRS, w_sifN, w_sifB, w_sifC, w_ret, w_next, w_break, w_cont, w_never, w_drop, w_set0, w_setS, w_setn0, w_setnS, w_bname, w_mseq, w_seqL, w_seqT, w_mrng1, w_mrng2, w_enmU, w_enmL, w_enmT, w_getL, w_getK, w_getT, w_for, w_lc, w_app, w_onL, w_put, w_aug, w_augS, w_lm, w_setE, w_retE, w_appE, w_pop, w_asgG, w_sl, w_lrg1, w_pno, w_pyes, w_intQ, w_btup, w_bcons, w_bnil, w_oI, w_oIc, w_addI, w_add1I, w_intI, w_intB, w_lenL, w_lenT, w_lenDT, w_lenDK, w_isN, w_notN, w_isB, w_oTupL, w_oTupT, y_mapI, y_mapR, List.length_cons, List.length_nil, Nat.reduceAdd, Nat.zero_add, y_rows_rD, y_immL_I, y_logs, y_immL_R, y_W, y_isA_int, y_isA_bl, y_isA_str, y_isA_non, y_isA_tup, y_isA_lst, y_isA_rD, y_isA_wD, y_isT_int, y_isT_bl, y_isT_str, y_isT_non, y_isT_tup, y_isT_lst, sb1, sb2, sb3, sb4, sb5, sb6, sb7, sb8, sb9, sb10, sb11, sb12, sb13, sb14, sb15, sb16, sb17, sb18, sb19, sb20, sb21, y_isN_int, y_isN_non, y_isN_rD, List.map_id, id_eq, BEq.rfl, bne_self_eq_false, y_imm_int, y_imm_bl, y_imm_non, y_imm_rD, y_imm_wD, y_immL_nil, y_immL_cons, y_imm_tup, y_tup_dInts, y_tup_rows, y_len_dInts, y_len_rowsD, y_len_rD, y_len_wD, y_len_nD, y_eqI, y_neI, y_eqR, y_neR, y_eqW, y_neW, y_eqB, y_neB, y_inR, y_notInR, y_fldW, y_fldD, y_p0, y_p1, y_listT, y_all, y_any, true_and, and_true, Bool.and_self, Bool.and_true, Bool.true_and, Bool.not_true, Bool.not_false, Bool.false_eq_true, if_false, if_true, ite_true, ite_false, decide_true, decide_false, reduceIte])
      refine row_ev (by decide) (by decide) h3 h4 _ fun d ⟨row, e, hl, hw⟩ => ?_
      subst e
      have rok : RowOk ws row := ⟨by omega, hw⟩
      refine least_row_ev h rok _ fun d ⟨a, e, la⟩ => ?_
      subst e
      have al := lst_len la
      have aw := lst_inW la hw
      have aok : RowOk ws a := ⟨by omega, aw⟩
      refine least_ev (by omega) hw _ fun d ⟨b, e, lb⟩ => ?_
      subst e
      have eb := lst_one h hw la lb
      subst eb
      refine same_ev (pl_row (by omega)) _ ?_
      (try simp only [w_var0, w_varS, w_c, w_imm, w_nil, w_cons, w_dice, w_call, w_x1, w_x2, w_tup, w_lst, w_if, w_and, w_or, w_not, w_yes, w_test, w_boo, w_xand, w_xor, w_xnot, w_chain, w_seq, w_set, w_sifR, w_sifRS, w_sifN, w_sifB, w_sifC, w_ret, w_next, w_break, w_cont, w_never, w_drop, w_set0, w_setS, w_setn0, w_setnS, w_bname, w_mseq, w_seqL, w_seqT, w_mrng1, w_mrng2, w_enmU, w_enmL, w_enmT, w_getL, w_getK, w_getT, w_for, w_lc, w_app, w_onL, w_put, w_aug, w_augS, w_lm, w_setE, w_retE, w_appE, w_pop, w_asgG, w_sl, w_lrg1, w_pno, w_pyes, w_intQ, w_btup, w_bcons, w_bnil, w_oI, w_oIc, w_addI, w_add1I, w_intI, w_intB, w_lenL, w_lenT, w_lenDT, w_lenDK, w_isN, w_notN, w_isB, w_oTupL, w_oTupT, y_mapI, y_mapR, List.length_cons, List.length_nil, Nat.reduceAdd, Nat.zero_add, y_rows_rD, y_immL_I, y_logs, y_immL_R, y_W, y_isA_int, y_isA_bl, y_isA_str, y_isA_non, y_isA_tup, y_isA_lst, y_isA_rD, y_isA_wD, y_isT_int, y_isT_bl, y_isT_str, y_isT_non, y_isT_tup, y_isT_lst, sb1, sb2, sb3, sb4, sb5, sb6, sb7, sb8, sb9, sb10, sb11, sb12, sb13, sb14, sb15, sb16, sb17, sb18, sb19, sb20, sb21, y_isN_int, y_isN_non, y_isN_rD, List.map_id, id_eq, BEq.rfl, bne_self_eq_false, y_imm_int, y_imm_bl, y_imm_non, y_imm_rD, y_imm_wD, y_immL_nil, y_immL_cons, y_imm_tup, y_tup_dInts, y_tup_rows, y_len_dInts, y_len_rowsD, y_len_rD, y_len_wD, y_len_nD, y_eqI, y_neI, y_eqR, y_neR, y_eqW, y_neW, y_eqB, y_neB, y_inR, y_notInR, y_fldW, y_fldD, y_p0, y_p1, y_listT, y_all, y_any, true_and, and_true, Bool.and_self, Bool.and_true, Bool.true_and, Bool.not_true, Bool.not_false, Bool.false_eq_true, if_false, if_true, ite_true, ite_false, decide_true, decide_false, reduceIte])
      refine mixed_rch (by decide) (by decide) hw (by omega) _ fun d ⟨o, e, rc⟩ => ?_
      subst e
      have ow : InW ws o := fun x hx => hw x ((rc.mem x).mp hx)
      refine least_row_ev h ⟨by rw [rc.len]; omega, ow⟩ _ fun d ⟨b, e, lb⟩ => ?_
      subst e
      have eb := lst_alike h hw ow rc la lb
      subst eb
      (try simp only [w_var0, w_varS, w_c, w_imm, w_nil, w_cons, w_dice, w_call, w_x1, w_x2, w_tup, w_lst, w_if, w_and, w_or, w_not, w_yes, w_test, w_boo, w_xand, w_xor, w_xnot, w_chain, w_seq, w_set, w_sifR, w_sifRS, w_sifN, w_sifB, w_sifC, w_ret, w_next, w_break, w_cont, w_never, w_drop, w_set0, w_setS, w_setn0, w_setnS, w_bname, w_mseq, w_seqL, w_seqT, w_mrng1, w_mrng2, w_enmU, w_enmL, w_enmT, w_getL, w_getK, w_getT, w_for, w_lc, w_app, w_onL, w_put, w_aug, w_augS, w_lm, w_setE, w_retE, w_appE, w_pop, w_asgG, w_sl, w_lrg1, w_pno, w_pyes, w_intQ, w_btup, w_bcons, w_bnil, w_oI, w_oIc, w_addI, w_add1I, w_intI, w_intB, w_lenL, w_lenT, w_lenDT, w_lenDK, w_isN, w_notN, w_isB, w_oTupL, w_oTupT, y_mapI, y_mapR, List.length_cons, List.length_nil, Nat.reduceAdd, Nat.zero_add, y_rows_rD, y_immL_I, y_logs, y_immL_R, y_W, y_isA_int, y_isA_bl, y_isA_str, y_isA_non, y_isA_tup, y_isA_lst, y_isA_rD, y_isA_wD, y_isT_int, y_isT_bl, y_isT_str, y_isT_non, y_isT_tup, y_isT_lst, sb1, sb2, sb3, sb4, sb5, sb6, sb7, sb8, sb9, sb10, sb11, sb12, sb13, sb14, sb15, sb16, sb17, sb18, sb19, sb20, sb21, y_isN_int, y_isN_non, y_isN_rD, List.map_id, id_eq, BEq.rfl, bne_self_eq_false, y_imm_int, y_imm_bl, y_imm_non, y_imm_rD, y_imm_wD, y_immL_nil, y_immL_cons, y_imm_tup, y_tup_dInts, y_tup_rows, y_len_dInts, y_len_rowsD, y_len_rD, y_len_wD, y_len_nD, y_eqI, y_neI, y_eqR, y_neR, y_eqW, y_neW, y_eqB, y_neB, y_inR, y_notInR, y_fldW, y_fldD, y_p0, y_p1, y_listT, y_all, y_any, true_and, and_true, Bool.and_self, Bool.and_true, Bool.true_and, Bool.not_true, Bool.not_false, Bool.false_eq_true, if_false, if_true, ite_true, ite_false, decide_true, decide_false, reduceIte])
      refine draw_ev (by omega) (by omega) fun z z0 z1 => ?_
      have own := lst_own la (ne_of_wsok h hw)
      rw [← List.take_append_drop z.toNat a] at own
      obtain ⟨o1, o2⟩ := lst_own_app own
      have tl : (a.take z.toNat).length ≤ 100 := by rw [List.length_take]; omega
      have dl : (a.drop z.toNat).length ≤ 100 := by rw [List.length_drop]; omega
      (try simp only [w_var0, w_varS, w_c, w_imm, w_nil, w_cons, w_dice, w_call, w_x1, w_x2, w_tup, w_lst, w_if, w_and, w_or, w_not, w_yes, w_test, w_boo, w_xand, w_xor, w_xnot, w_chain, w_seq, w_set, w_sifR, w_sifRS, w_sifN, w_sifB, w_sifC, w_ret, w_next, w_break, w_cont, w_never, w_drop, w_set0, w_setS, w_setn0, w_setnS, w_bname, w_mseq, w_seqL, w_seqT, w_mrng1, w_mrng2, w_enmU, w_enmL, w_enmT, w_getL, w_getK, w_getT, w_for, w_lc, w_app, w_onL, w_put, w_aug, w_augS, w_lm, w_setE, w_retE, w_appE, w_pop, w_asgG, w_sl, w_lrg1, w_pno, w_pyes, w_intQ, w_btup, w_bcons, w_bnil, w_oI, w_oIc, w_addI, w_add1I, w_intI, w_intB, w_lenL, w_lenT, w_lenDT, w_lenDK, w_isN, w_notN, w_isB, w_oTupL, w_oTupT, y_mapI, y_mapR, List.length_cons, List.length_nil, Nat.reduceAdd, Nat.zero_add, y_rows_rD, y_immL_I, y_logs, y_immL_R, y_W, y_isA_int, y_isA_bl, y_isA_str, y_isA_non, y_isA_tup, y_isA_lst, y_isA_rD, y_isA_wD, y_isT_int, y_isT_bl, y_isT_str, y_isT_non, y_isT_tup, y_isT_lst, sb1, sb2, sb3, sb4, sb5, sb6, sb7, sb8, sb9, sb10, sb11, sb12, sb13, sb14, sb15, sb16, sb17, sb18, sb19, sb20, sb21, y_isN_int, y_isN_non, y_isN_rD, List.map_id, id_eq, BEq.rfl, bne_self_eq_false, y_imm_int, y_imm_bl, y_imm_non, y_imm_rD, y_imm_wD, y_immL_nil, y_immL_cons, y_imm_tup, y_tup_dInts, y_tup_rows, y_len_dInts, y_len_rowsD, y_len_rD, y_len_wD, y_len_nD, y_eqI, y_neI, y_eqR, y_neR, y_eqW, y_neW, y_eqB, y_neB, y_inR, y_notInR, y_fldW, y_fldD, y_p0, y_p1, y_listT, y_all, y_any, true_and, and_true, Bool.and_self, Bool.and_true, Bool.true_and, Bool.not_true, Bool.not_false, Bool.false_eq_true, if_false, if_true, ite_true, ite_false, decide_true, decide_false, reduceIte])
      refine y_slR_hi' z0 ?_
      refine least_row_ev h ⟨tl, inW_take aw⟩ _ fun d ⟨b, e, lb⟩ => ?_
      subst e
      have eb := lst_one h (inW_take aw) o1 lb
      rw [← eb]
      refine y_slR_hi' z0 ?_
      (try simp only [w_var0, w_varS, w_c, w_imm, w_nil, w_cons, w_dice, w_call, w_x1, w_x2, w_tup, w_lst, w_if, w_and, w_or, w_not, w_yes, w_test, w_boo, w_xand, w_xor, w_xnot, w_chain, w_seq, w_set, w_sifR, w_sifRS, w_sifN, w_sifB, w_sifC, w_ret, w_next, w_break, w_cont, w_never, w_drop, w_set0, w_setS, w_setn0, w_setnS, w_bname, w_mseq, w_seqL, w_seqT, w_mrng1, w_mrng2, w_enmU, w_enmL, w_enmT, w_getL, w_getK, w_getT, w_for, w_lc, w_app, w_onL, w_put, w_aug, w_augS, w_lm, w_setE, w_retE, w_appE, w_pop, w_asgG, w_sl, w_lrg1, w_pno, w_pyes, w_intQ, w_btup, w_bcons, w_bnil, w_oI, w_oIc, w_addI, w_add1I, w_intI, w_intB, w_lenL, w_lenT, w_lenDT, w_lenDK, w_isN, w_notN, w_isB, w_oTupL, w_oTupT, y_mapI, y_mapR, List.length_cons, List.length_nil, Nat.reduceAdd, Nat.zero_add, y_rows_rD, y_immL_I, y_logs, y_immL_R, y_W, y_isA_int, y_isA_bl, y_isA_str, y_isA_non, y_isA_tup, y_isA_lst, y_isA_rD, y_isA_wD, y_isT_int, y_isT_bl, y_isT_str, y_isT_non, y_isT_tup, y_isT_lst, sb1, sb2, sb3, sb4, sb5, sb6, sb7, sb8, sb9, sb10, sb11, sb12, sb13, sb14, sb15, sb16, sb17, sb18, sb19, sb20, sb21, y_isN_int, y_isN_non, y_isN_rD, List.map_id, id_eq, BEq.rfl, bne_self_eq_false, y_imm_int, y_imm_bl, y_imm_non, y_imm_rD, y_imm_wD, y_immL_nil, y_immL_cons, y_imm_tup, y_tup_dInts, y_tup_rows, y_len_dInts, y_len_rowsD, y_len_rD, y_len_wD, y_len_nD, y_eqI, y_neI, y_eqR, y_neR, y_eqW, y_neW, y_eqB, y_neB, y_inR, y_notInR, y_fldW, y_fldD, y_p0, y_p1, y_listT, y_all, y_any, true_and, and_true, Bool.and_self, Bool.and_true, Bool.true_and, Bool.not_true, Bool.not_false, Bool.false_eq_true, if_false, if_true, ite_true, ite_false, decide_true, decide_false, reduceIte])
      refine y_slR_lo' z0 ?_
      refine least_row_ev h ⟨dl, inW_drop aw⟩ _ fun d ⟨b, e, lb⟩ => ?_
      subst e
      have eb := lst_one h (inW_drop aw) o2 lb
      rw [← eb]
      refine y_slR_lo' z0 ?_
      (try simp only [w_var0, w_varS, w_c, w_imm, w_nil, w_cons, w_dice, w_call, w_x1, w_x2, w_tup, w_lst, w_if, w_and, w_or, w_not, w_yes, w_test, w_boo, w_xand, w_xor, w_xnot, w_chain, w_seq, w_set, w_sifR, w_sifRS, w_sifN, w_sifB, w_sifC, w_ret, w_next, w_break, w_cont, w_never, w_drop, w_set0, w_setS, w_setn0, w_setnS, w_bname, w_mseq, w_seqL, w_seqT, w_mrng1, w_mrng2, w_enmU, w_enmL, w_enmT, w_getL, w_getK, w_getT, w_for, w_lc, w_app, w_onL, w_put, w_aug, w_augS, w_lm, w_setE, w_retE, w_appE, w_pop, w_asgG, w_sl, w_lrg1, w_pno, w_pyes, w_intQ, w_btup, w_bcons, w_bnil, w_oI, w_oIc, w_addI, w_add1I, w_intI, w_intB, w_lenL, w_lenT, w_lenDT, w_lenDK, w_isN, w_notN, w_isB, w_oTupL, w_oTupT, y_mapI, y_mapR, List.length_cons, List.length_nil, Nat.reduceAdd, Nat.zero_add, y_rows_rD, y_immL_I, y_logs, y_immL_R, y_W, y_isA_int, y_isA_bl, y_isA_str, y_isA_non, y_isA_tup, y_isA_lst, y_isA_rD, y_isA_wD, y_isT_int, y_isT_bl, y_isT_str, y_isT_non, y_isT_tup, y_isT_lst, sb1, sb2, sb3, sb4, sb5, sb6, sb7, sb8, sb9, sb10, sb11, sb12, sb13, sb14, sb15, sb16, sb17, sb18, sb19, sb20, sb21, y_isN_int, y_isN_non, y_isN_rD, List.map_id, id_eq, BEq.rfl, bne_self_eq_false, y_imm_int, y_imm_bl, y_imm_non, y_imm_rD, y_imm_wD, y_immL_nil, y_immL_cons, y_imm_tup, y_tup_dInts, y_tup_rows, y_len_dInts, y_len_rowsD, y_len_rD, y_len_wD, y_len_nD, y_eqI, y_neI, y_eqR, y_neR, y_eqW, y_neW, y_eqB, y_neB, y_inR, y_notInR, y_fldW, y_fldD, y_p0, y_p1, y_listT, y_all, y_any, true_and, and_true, Bool.and_self, Bool.and_true, Bool.true_and, Bool.not_true, Bool.not_false, Bool.false_eq_true, if_false, if_true, ite_true, ite_false, decide_true, decide_false, reduceIte])
      exact ⟨_, _, _, _, _, _, _, _, _, _, rfl⟩
  · rintro env ⟨e2, e3, e4, e5, e6, e7, e8, e9, e10, e11, rfl⟩
    (try simp only [w_var0, w_varS, w_c, w_imm, w_nil, w_cons, w_dice, w_call, w_x1, w_x2, w_tup, w_lst, w_if, w_and, w_or, w_not, w_yes, w_test, w_boo, w_xand, w_xor, w_xnot, w_chain, w_seq, w_set, w_sifR, w_sifRS, w_sifN, w_sifB, w_sifC, w_ret, w_next, w_break, w_cont, w_never, w_drop, w_set0, w_setS, w_setn0, w_setnS, w_bname, w_mseq, w_seqL, w_seqT, w_mrng1, w_mrng2, w_enmU, w_enmL, w_enmT, w_getL, w_getK, w_getT, w_for, w_lc, w_app, w_onL, w_put, w_aug, w_augS, w_lm, w_setE, w_retE, w_appE, w_pop, w_asgG, w_sl, w_lrg1, w_pno, w_pyes, w_intQ, w_btup, w_bcons, w_bnil, w_oI, w_oIc, w_addI, w_add1I, w_intI, w_intB, w_lenL, w_lenT, w_lenDT, w_lenDK, w_isN, w_notN, w_isB, w_oTupL, w_oTupT, y_mapI, y_mapR, List.length_cons, List.length_nil, Nat.reduceAdd, Nat.zero_add, y_rows_rD, y_immL_I, y_logs, y_immL_R, y_W, y_isA_int, y_isA_bl, y_isA_str, y_isA_non, y_isA_tup, y_isA_lst, y_isA_rD, y_isA_wD, y_isT_int, y_isT_bl, y_isT_str, y_isT_non, y_isT_tup, y_isT_lst, sb1, sb2, sb3, sb4, sb5, sb6, sb7, sb8, sb9, sb10, sb11, sb12, sb13, sb14, sb15, sb16, sb17, sb18, sb19, sb20, sb21, y_isN_int, y_isN_non, y_isN_rD, List.map_id, id_eq, BEq.rfl, bne_self_eq_false, y_imm_int, y_imm_bl, y_imm_non, y_imm_rD, y_imm_wD, y_immL_nil, y_immL_cons, y_imm_tup, y_tup_dInts, y_tup_rows, y_len_dInts, y_len_rowsD, y_len_rD, y_len_wD, y_len_nD, y_eqI, y_neI, y_eqR, y_neR, y_eqW, y_neW, y_eqB, y_neB, y_inR, y_notInR, y_fldW, y_fldD, y_p0, y_p1, y_listT, y_all, y_any, true_and, and_true, Bool.and_self, Bool.and_true, Bool.true_and, Bool.not_true, Bool.not_false, Bool.false_eq_true, if_false, if_true, ite_true, ite_false, decide_true, decide_false, reduceIte])
    rfl
end
end Pu

/-! file E_k06 -/
set_option Elab.async false
set_option linter.all false
set_option maxRecDepth 100000
set_option synthInstance.maxHeartbeats 0
set_option synthInstance.maxSize 100000
namespace Pu
open PySem PySem.Spec PyProof.Rows L2
end Pu
open PySem PySem.W PyProof.Rows
set_option maxHeartbeats 0 in
theorem PySem.Challenge.cw_latestword_k06_whole_least_rows_holds : PySem.Challenge.rw_latestword_k06_whole_least_rows.Holds := by
  w_on; o_law; k_head; (case hw => w_witness2)
  k_fill
  refine L2.walk_of (l := PySem.Challenge.rw_latestword_k06_whole_least_rows) (n := 63) (k := 10) (x := "script") (CX := fun _ => L2.CX0) (sp := fun w => Pu.spLaw _) rfl (by decide) rfl ⟨rfl, by decide, by decide⟩ (fun w h Y => PySem.W.kIn_of Y) ?F (fun _ _ a ns hl _ hS => ⟨a, ns, rfl, hS, hl, fun _ => rfl⟩) (fun _ _ _ _ _ h => h)
  case F =>
    intro w mg fa h KX G hmg
    refine' Pu.all_mk KX G hmg ?a_is_integer ?l_is_integer ?c_is_integer ?k_is_integer ?a_is_number ?l_is_number ?c_is_number ?k_is_number ?a_is_below ?l_is_below ?c_is_below ?k_is_below ?a_is_lot ?l_is_lot ?c_is_lot ?k_is_lot ?a_are_works ?l_are_works ?c_are_works ?k_are_works ?a_check_row ?l_check_row ?c_check_row ?k_check_row ?a_are_office_works ?l_are_office_works ?c_are_office_works ?k_are_office_works ?a_all_logs ?l_all_logs ?c_all_logs ?k_all_logs ?a_first_ready ?l_first_ready ?c_first_ready ?k_first_ready ?a_done_by_teams ?l_done_by_teams ?c_done_by_teams ?k_done_by_teams ?a_done_by_logs ?l_done_by_logs ?c_done_by_logs ?k_done_by_logs ?a_least_row ?l_least_row ?c_least_row ?k_least_row ?a__law_dice ?l__law_dice ?c__law_dice ?k__law_dice ?a__law_draw ?l__law_draw ?c__law_draw ?k__law_draw ?a__law_parts ?l__law_parts ?c__law_parts ?k__law_parts ?a__law_made ?l__law_made ?c__law_made ?k__law_made ?a__law_some_parts ?l__law_some_parts ?c__law_some_parts ?k__law_some_parts ?a__law_row ?l__law_row ?c__law_row ?k__law_row ?a__law_meets ?l__law_meets ?c__law_meets ?k__law_meets ?a__law_whole ?l__law_whole ?c__law_whole ?k__law_whole ?a__law_same ?l__law_same ?c__law_same ?k__law_same ?a__law_near ?l__law_near ?c__law_near ?k__law_near ?a__law_exchanged ?l__law_exchanged ?c__law_exchanged ?k__law_exchanged ?a__law_mixed ?l__law_mixed ?c__law_mixed ?k__law_mixed ?a__law_changed ?l__law_changed ?c__law_changed ?k__law_changed ?a__law_free_at ?l__law_free_at ?c__law_free_at ?k__law_free_at ?a__law_least ?l__law_least ?c__law_least ?k__law_least ?a_law ?l_law ?c_law ?k_law ?a_Office ?i_Office ?j_Office ?l_Office_init ?c_Office_init ?k_Office_init ?pg_Office ?hd_Office ?po_Office ?sa_Office ?mk_Office ?kc_Office ?na_Office_desks ?na_Office_works ?n_abs ?n_all ?n_any ?n_bool ?n_enumerate ?n_int ?n_isinstance ?n_len ?n_list ?n_min ?n_range ?n_set ?n_sorted ?n_str ?n_tuple ?n_zip ?a_MOST_DESKS ?a_MOST_WORKS Pu.pure_law_k06
    (case a_is_integer => k_is)
    (case l_is_integer => k_is)
    (case c_is_integer => k_is)
    (case k_is_integer => k_is)
    (case a_is_number => k_is)
    (case l_is_number => k_is)
    (case c_is_number => k_is)
    (case k_is_number => k_is)
    (case a_is_below => k_is)
    (case l_is_below => k_is)
    (case c_is_below => k_is)
    (case k_is_below => k_is)
    (case a_is_lot => k_is)
    (case l_is_lot => k_is)
    (case c_is_lot => k_is)
    (case k_is_lot => k_is)
    (case a_are_works => k_is)
    (case l_are_works => k_is)
    (case c_are_works => k_is)
    (case k_are_works => k_is)
    (case a_check_row => k_is)
    (case l_check_row => k_is)
    (case c_check_row => k_is)
    (case k_check_row => k_is)
    (case a_are_office_works => k_is)
    (case l_are_office_works => k_is)
    (case c_are_office_works => k_is)
    (case k_are_office_works => k_is)
    (case a_all_logs => k_is)
    (case l_all_logs => k_is)
    (case c_all_logs => k_is)
    (case k_all_logs => k_is)
    (case a_first_ready => k_is)
    (case l_first_ready => k_is)
    (case c_first_ready => k_is)
    (case k_first_ready => k_is)
    (case a_done_by_teams => k_is)
    (case l_done_by_teams => k_is)
    (case c_done_by_teams => k_is)
    (case k_done_by_teams => k_is)
    (case a_done_by_logs => k_is)
    (case l_done_by_logs => k_is)
    (case c_done_by_logs => k_is)
    (case k_done_by_logs => k_is)
    (case a_least_row => k_is)
    (case l_least_row => k_is)
    (case c_least_row => k_is)
    (case k_least_row => k_is)
    (case a__law_dice => k_is)
    (case l__law_dice => k_is)
    (case c__law_dice => k_is)
    (case k__law_dice => k_is)
    (case a__law_draw => k_is)
    (case l__law_draw => k_is)
    (case c__law_draw => k_is)
    (case k__law_draw => k_is)
    (case a__law_parts => k_is)
    (case l__law_parts => k_is)
    (case c__law_parts => k_is)
    (case k__law_parts => k_is)
    (case a__law_made => k_is)
    (case l__law_made => k_is)
    (case c__law_made => k_is)
    (case k__law_made => k_is)
    (case a__law_some_parts => k_is)
    (case l__law_some_parts => k_is)
    (case c__law_some_parts => k_is)
    (case k__law_some_parts => k_is)
    (case a__law_row => k_is)
    (case l__law_row => k_is)
    (case c__law_row => k_is)
    (case k__law_row => k_is)
    (case a__law_meets => k_is)
    (case l__law_meets => k_is)
    (case c__law_meets => k_is)
    (case k__law_meets => k_is)
    (case a__law_whole => k_is)
    (case l__law_whole => k_is)
    (case c__law_whole => k_is)
    (case k__law_whole => k_is)
    (case a__law_same => k_is)
    (case l__law_same => k_is)
    (case c__law_same => k_is)
    (case k__law_same => k_is)
    (case a__law_near => k_is)
    (case l__law_near => k_is)
    (case c__law_near => k_is)
    (case k__law_near => k_is)
    (case a__law_exchanged => k_is)
    (case l__law_exchanged => k_is)
    (case c__law_exchanged => k_is)
    (case k__law_exchanged => k_is)
    (case a__law_mixed => k_is)
    (case l__law_mixed => k_is)
    (case c__law_mixed => k_is)
    (case k__law_mixed => k_is)
    (case a__law_changed => k_is)
    (case l__law_changed => k_is)
    (case c__law_changed => k_is)
    (case k__law_changed => k_is)
    (case a__law_free_at => k_is)
    (case l__law_free_at => k_is)
    (case c__law_free_at => k_is)
    (case k__law_free_at => k_is)
    (case a__law_least => k_is)
    (case l__law_least => k_is)
    (case c__law_least => k_is)
    (case k__law_least => k_is)
    (case a_law => k_is)
    (case l_law => k_is)
    (case c_law => k_is)
    (case k_law => k_is)
    (case a_Office => k_is)
    (case i_Office => k_is)
    (case j_Office => k_is)
    (case l_Office_init => k_is)
    (case c_Office_init => k_is)
    (case k_Office_init => k_is)
    (case pg_Office => k_is)
    (case hd_Office => k_is)
    (case po_Office => k_is)
    (case sa_Office => k_is)
    (case mk_Office => k_is)
    (case kc_Office => k_is)
    (case na_Office_desks => k_is)
    (case na_Office_works => k_is)
    (case n_abs => k_is)
    (case n_all => k_is)
    (case n_any => k_is)
    (case n_bool => k_is)
    (case n_enumerate => k_is)
    (case n_int => k_is)
    (case n_isinstance => k_is)
    (case n_len => k_is)
    (case n_list => k_is)
    (case n_min => k_is)
    (case n_range => k_is)
    (case n_set => k_is)
    (case n_sorted => k_is)
    (case n_str => k_is)
    (case n_tuple => k_is)
    (case n_zip => k_is)
    (case a_MOST_DESKS => k_is)
    (case a_MOST_WORKS => k_is)
