import PyProof.Rows.All
import Wide.All
import OpenK.AllK
import Wide.FinOn
import HandS.ForMost
import HandS.Exc
import HandS.IsInst
import HandS.TupAny
import HandS.TupMul
import HandS.Deep
import KE.KExcSuper
import KE.KSuper
import HandS.Base
import HandS.Call
import HandS.ExcSuper
import HandS.ExcInit
import KE.KExcIs
import HandS.ExcIs
import HandS.ExcField
import HandS.ExcValue
import HandS.TupLe
import HandS.CallSlots
import HandS.ExcOwn
import HandS.Defaults
import HandS.Style
import HandS.TryMany
import HandS.Head0
import HandS.Head1
import HandS.Head2
import HandS.HeadEnd
import HandS.HeadHook1
import HandS.HeadHook2
import HandS.HeadHook3
import HandS.HeadHook4
import KE.KStateDown
import Lean
import PySem.Challenge.RW_dutyweeks_k01_errors
set_option Elab.async false
set_option linter.all false
section
set_option maxRecDepth 100000
set_option maxHeartbeats 2000000
namespace Ev
open PySem PySem.Spec PyProof.Rows L2

/-- plain data: lists by value -/
inductive D where
  | non | bl (b : Bool) | int (i : Int) | str (x : Str)
  | tup (xs : List D) | lst (xs : List D)
  | ins (C : Nat) (fs : List (Str × D))
  /-- the law's argument -/
  | scr (ns : List Int)
  /-- an error held as a value -/
  | err (C : Nat) (fs : List (Str × D))
  deriving Inhabited

/-- no instance within -/
def D.pl : D → Bool
  | .non | .bl _ | .int _ => true
  | .str x => PyData.strOk x
  | .tup xs => go xs
  | .lst xs => go xs
  | .ins _ _ | .scr _ | .err _ _ => false
where go : List D → Bool
  | [] => true
  | x :: xs => x.pl && go xs

/-- how deep it is nested -/
def D.dep : D → Nat
  | .non | .bl _ | .int _ | .str _ => 0
  | .tup xs => go xs + 1
  | .lst xs => go xs + 1
  | .ins _ _ | .scr _ | .err _ _ => 0
where go : List D → Nat
  | [] => 0
  | x :: xs => max x.dep (go xs)

/-- Python's == of data without instances -/
def D.eqv : D → D → Bool
  | .non, .non => true
  | .bl a, .bl b => a == b
  | .bl a, .int j => (if a then 1 else 0) == j
  | .int i, .bl b => i == (if b then 1 else 0)
  | .int i, .int j => i == j
  | .str x, .str y => x == y
  | .lst xs, .lst ys => go xs ys
  | .tup xs, .tup ys => go xs ys
  | _, _ => false
where go : List D → List D → Bool
  | [], [] => true
  | x :: xs, y :: ys => x.eqv y && go xs ys
  | _, _ => false

/-- as the library's data (an instance: none) -/
def D.py : D → PyData
  | .non => .none
  | .bl b => .bool b
  | .int i => .int i
  | .str x => .str x
  | .tup xs => .tuple (go xs)
  | .lst xs => .list (go xs)
  | .ins _ _ | .scr _ | .err _ _ => .none
where go : List D → List PyData
  | [] => []
  | x :: xs => x.py :: go xs

theorem D.py_go (xs : List D) : D.py.go xs = xs.map D.py := by
  induction xs with
  | nil => rfl
  | cons x xs ih => simp [D.py.go, ih]

mutual
theorem D.depth_py : ∀ d : D, d.pl = true → d.py.depth = d.dep
  | .non, _ | .bl _, _ | .int _, _ | .str _, _ => by simp [D.py, D.dep, PyData.depth]
  | .tup xs, h => by
    simp only [D.py, D.dep, PyData.depth]
    rw [D.depthAll_py xs (by simpa [D.pl] using h)]
  | .lst xs, h => by
    simp only [D.py, D.dep, PyData.depth]
    rw [D.depthAll_py xs (by simpa [D.pl] using h)]
  | .ins _ _, h => by simp [D.pl] at h
  | .scr _, h => by simp [D.pl] at h
  | .err _ _, h => by simp [D.pl] at h
theorem D.depthAll_py : ∀ xs : List D, D.pl.go xs = true → PyData.depthAll (D.py.go xs) = D.dep.go xs
  | [], _ => by simp [D.py.go, D.dep.go, PyData.depthAll]
  | x :: xs, h => by
    simp only [D.pl.go, Bool.and_eq_true] at h
    simp only [D.py.go, D.dep.go, PyData.depthAll]
    rw [D.depth_py x h.1, D.depthAll_py xs h.2]
end
mutual
theorem D.can_py : ∀ d : D, d.pl = true → d.py.canLay0 = true
  | .non, _ | .bl _, _ | .int _, _ => by simp [D.py, PyData.canLay0]
  | .str x, h => by simpa [D.py, PyData.canLay0, D.pl] using h
  | .tup xs, h => by simp only [D.py, PyData.canLay0]; exact D.canAll_py xs (by simpa [D.pl] using h)
  | .lst xs, h => by simp only [D.py, PyData.canLay0]; exact D.canAll_py xs (by simpa [D.pl] using h)
  | .ins _ _, h => by simp [D.pl] at h
  | .scr _, h => by simp [D.pl] at h
  | .err _ _, h => by simp [D.pl] at h
theorem D.canAll_py : ∀ xs : List D, D.pl.go xs = true → PyData.canLayAll0 (D.py.go xs) = true
  | [], _ => by simp [D.py.go, PyData.canLayAll0]
  | x :: xs, h => by
    simp only [D.pl.go, Bool.and_eq_true] at h
    simp [D.py.go, PyData.canLayAll0, D.can_py x h.1, D.canAll_py xs h.2]
end
mutual
theorem D.eqv_py : ∀ a b : D, a.pl = true → b.pl = true → PyData.eqv a.py b.py = D.eqv a b
  | .tup xs, .tup ys, h, h' => by
    simp only [D.py, D.eqv, PyData.eqv]
    exact D.eqvAll_py xs ys (by simpa [D.pl] using h) (by simpa [D.pl] using h')
  | .lst xs, .lst ys, h, h' => by
    simp only [D.py, D.eqv, PyData.eqv]
    exact D.eqvAll_py xs ys (by simpa [D.pl] using h) (by simpa [D.pl] using h')
  | .ins _ _, _, h, _ => by simp [D.pl] at h
  | _, .ins _ _, _, h => by simp [D.pl] at h
  | .scr _, _, h, _ => by simp [D.pl] at h
  | _, .scr _, _, h => by simp [D.pl] at h
  | .err _ _, _, h, _ => by simp [D.pl] at h
  | _, .err _ _, _, h => by simp [D.pl] at h
  | .non, .non, _, _ | .non, .bl _, _, _ | .non, .int _, _, _ | .non, .str _, _, _ | .non, .tup _, _, _ | .non, .lst _, _, _ => by simp [D.py, D.eqv, PyData.eqv]
  | .bl _, .non, _, _ | .bl _, .bl _, _, _ | .bl _, .int _, _, _ | .bl _, .str _, _, _ | .bl _, .tup _, _, _ | .bl _, .lst _, _, _ => by simp [D.py, D.eqv, PyData.eqv]
  | .int _, .non, _, _ | .int _, .bl _, _, _ | .int _, .int _, _, _ | .int _, .str _, _, _ | .int _, .tup _, _, _ | .int _, .lst _, _, _ => by simp [D.py, D.eqv, PyData.eqv]
  | .str _, .non, _, _ | .str _, .bl _, _, _ | .str _, .int _, _, _ | .str _, .str _, _, _ | .str _, .tup _, _, _ | .str _, .lst _, _, _ => by simp [D.py, D.eqv, PyData.eqv]
  | .tup _, .non, _, _ | .tup _, .bl _, _, _ | .tup _, .int _, _, _ | .tup _, .str _, _, _ | .tup _, .lst _, _, _ => by simp [D.py, D.eqv, PyData.eqv]
  | .lst _, .non, _, _ | .lst _, .bl _, _, _ | .lst _, .int _, _, _ | .lst _, .str _, _, _ | .lst _, .tup _, _, _ => by simp [D.py, D.eqv, PyData.eqv]
theorem D.eqvAll_py : ∀ xs ys : List D, D.pl.go xs = true → D.pl.go ys = true → PyData.eqvAll (D.py.go xs) (D.py.go ys) = D.eqv.go xs ys
  | [], [], _, _ => by simp [D.py.go, D.eqv.go, PyData.eqvAll]
  | [], _ :: _, _, _ => by simp [D.py.go, D.eqv.go, PyData.eqvAll]
  | _ :: _, [], _, _ => by simp [D.py.go, D.eqv.go, PyData.eqvAll]
  | x :: xs, y :: ys, h, h' => by
    simp only [D.pl.go, Bool.and_eq_true] at h h'
    simp only [D.py.go, D.eqv.go, PyData.eqvAll]
    rw [D.eqv_py x y h.1 h'.1, D.eqvAll_py xs ys h.2 h'.2]
end
/-- fit for a comparison -/
def D.shp (d : D) : Bool := d.pl && decide (d.dep ≤ 64)
theorem D.shp_py {d : D} (h : d.shp = true) : SeqAt.shaped d.py = true := by
  simp only [D.shp, Bool.and_eq_true, decide_eq_true_eq] at h
  simp only [SeqAt.shaped, Bool.and_eq_true, decide_eq_true_eq]
  exact ⟨D.can_py d h.1, by rw [D.depth_py d h.1]; exact h.2⟩

/-! ### how data lie in the heap; M: what may change, nothing known leans on it -/
/-- written parts of the module -/
def KT (K : PySem.W.Frag) (a : Addr) (xs : List V) : Prop :=
  ∃ (o : Obj) (its : Array Value) (n : Nat), K.lookup a = some o ∧ o.cls = .type "tuple" ∧ o.data = .seq its n ∧ its.size ≤ sizeLine ∧ Vals xs its.toList
abbrev Mset := Addr → Prop
/-- an error of the class at C, its dict at d -/
def ErrO (C a d : Addr) : HO := .ext fun h => ∃ t1 : Addr, h.get? a = some { cls := .ref C, dict := some d, data := .fields #[.ref t1, .none, .none, .none, .bool false, .none] }
def RL (M : Mset) (H : Hp) (a : Addr) (xs : List V) : Prop := H a = some (.lst xs) ∧ ¬ M a
def RS (K : PySem.W.Frag) (M : Mset) (H : Hp) (a : Addr) (xs : List V) : Prop := (Rd H a (.lst xs) ∧ ¬ M a) ∨
    ∃ (o : Obj) (its : Array Value) (n : Nat), K.lookup a = some o ∧ o.cls = .type "list" ∧ o.dict = none ∧ o.data = .seq its n ∧ its.size ≤ sizeLine ∧ Vals xs its.toList
def RT (K : PySem.W.Frag) (M : Mset) (H : Hp) (a : Addr) (xs : List V) : Prop := (Rd H a (.tup xs) ∧ ¬ M a) ∨ KT K a xs
theorem RL.sq {K : PySem.W.Frag} {M : Mset} {H : Hp} {a : Addr} {xs : List V} (h : RL M H a xs) : SqL K H a xs := .of h.1
theorem RT.sq {K : PySem.W.Frag} {M : Mset} {H : Hp} {a : Addr} {xs : List V} (h : RT K M H a xs) : SqT K H a xs := h.elim (fun h => .inl h.1) .inr

mutual
inductive Dp (K : PySem.W.Frag) (ca : Nat → Addr) (M : Mset) (H : Hp) : V → D → Prop
  | non : Dp K ca M H .non .non
  | bl (b : Bool) : Dp K ca M H (.bl b) (.bl b)
  | int (i : Int) : Dp K ca M H (.int i) (.int i)
  | str (x : Str) : Dp K ca M H (.str x) (.str x)
  | tup {a : Addr} {xs : List V} {ds : List D} : RT K M H a xs → Dps K ca M H xs ds → Dp K ca M H (.ref a) (.tup ds)
  | lst {a : Addr} {xs : List V} {ds : List D} : RL M H a xs → Dps K ca M H xs ds → Dp K ca M H (.ref a) (.lst ds)
  | ins {a dx : Addr} {C : Nat} {gs : List (Str × V)} {fs : List (Str × D)} : H a = some (.ins (ca C) dx gs) → ¬ M a → Dpf K ca M H gs fs → Dp K ca M H (.ref a) (.ins C fs)
  | scr {a : Addr} {ns : List Int} : RS K M H a (ns.map V.int) → Dp K ca M H (.ref a) (.scr ns)
  | err {a dx : Addr} {C : Nat} {gs : List (Str × V)} {fs : List (Str × D)} : H a = some (ErrO (ca C) a dx) → ¬ M a → H dx = some (.xd gs) → ¬ M dx → Dpf K ca M H gs fs → Dp K ca M H (.ref a) (.err C fs)
inductive Dps (K : PySem.W.Frag) (ca : Nat → Addr) (M : Mset) (H : Hp) : List V → List D → Prop
  | nil : Dps K ca M H [] []
  | cons {v : V} {vs : List V} {d : D} {ds : List D} : Dp K ca M H v d → Dps K ca M H vs ds → Dps K ca M H (v :: vs) (d :: ds)
inductive Dpf (K : PySem.W.Frag) (ca : Nat → Addr) (M : Mset) (H : Hp) : List (Str × V) → List (Str × D) → Prop
  | nil : Dpf K ca M H [] []
  | cons {f : Str} {v : V} {vs : List (Str × V)} {d : D} {ds : List (Str × D)} : Dp K ca M H v d → Dpf K ca M H vs ds → Dpf K ca M H ((f, v) :: vs) ((f, d) :: ds)
end
section
variable {K : PySem.W.Frag} {ca : Nat → Addr} {M M' : Mset} {H H' : Hp}

/-- a step of the heap: what is tracked and may not change stands; what may change is old, or new -/
structure Stp (M : Mset) (H : Hp) (M' : Mset) (H' : Hp) : Prop where
  pres : ∀ a o, H a = some o → ¬ M a → H' a = some o
  grow : ∀ a, M' a → M a ∨ H a = none
theorem Stp.refl : Stp M H M H := ⟨fun _ _ h _ => h, fun _ h => .inl h⟩
theorem Rd.step {a : Addr} {u : HO} (h : Rd H a u) (n : ¬ M a) (s : Stp M H M' H') : Rd H' a u ∧ ¬ M' a := by
  rcases h with h | ⟨o, h⟩
  · exact ⟨.inl (s.pres a _ h n), fun z => (s.grow a z).elim n fun e => by rw [h] at e; cases e⟩
  · exact ⟨.inr ⟨o, s.pres a _ h n⟩, fun z => (s.grow a z).elim n fun e => by rw [h] at e; cases e⟩
theorem RT.step {a : Addr} {xs : List V} (h : RT K M H a xs) (s : Stp M H M' H') : RT K M' H' a xs := h.elim (fun h => .inl (Rd.step h.1 h.2 s)) .inr
theorem RS.step {a : Addr} {xs : List V} (h : RS K M H a xs) (s : Stp M H M' H') : RS K M' H' a xs := h.elim (fun h => .inl (Rd.step h.1 h.2 s)) .inr
theorem RL.step {a : Addr} {xs : List V} (h : RL M H a xs) (s : Stp M H M' H') : RL M' H' a xs := ⟨s.pres _ _ h.1 h.2, fun z => (s.grow a z).elim h.2 fun e => by rw [h.1] at e; cases e⟩
mutual
theorem Dp.step (s : Stp M H M' H') : ∀ {v : V} {d : D}, Dp K ca M H v d → Dp K ca M' H' v d
  | _, _, .non => .non
  | _, _, .bl b => .bl b
  | _, _, .int i => .int i
  | _, _, .str x => .str x
  | _, _, .tup h hs => .tup (h.step s) (Dps.step s hs)
  | _, _, .lst h hs => .lst (h.step s) (Dps.step s hs)
  | _, _, .ins h n hs => .ins (s.pres _ _ h n) (fun z => (s.grow _ z).elim n fun e => by rw [h] at e; cases e) (Dpf.step s hs)
  | _, _, .scr h => .scr (h.step s)
  | _, _, .err h n h2 n2 hs => .err (s.pres _ _ h n) (fun z => (s.grow _ z).elim n fun e => by rw [h] at e; cases e) (s.pres _ _ h2 n2) (fun z => (s.grow _ z).elim n2 fun e => by rw [h2] at e; cases e) (Dpf.step s hs)
theorem Dps.step (s : Stp M H M' H') : ∀ {v : List V} {d : List D}, Dps K ca M H v d → Dps K ca M' H' v d
  | _, _, .nil => .nil
  | _, _, .cons h hs => .cons (Dp.step s h) (Dps.step s hs)
theorem Dpf.step (s : Stp M H M' H') : ∀ {v : List (Str × V)} {d : List (Str × D)}, Dpf K ca M H v d → Dpf K ca M' H' v d
  | _, _, .nil => .nil
  | _, _, .cons h hs => .cons (Dp.step s h) (Dpf.step s hs)
end
theorem Stp.trans {M1 M2 M3 : Mset} {H1 H2 H3 : Hp} (a : Stp M1 H1 M2 H2) (b : Stp M2 H2 M3 H3) : Stp M1 H1 M3 H3 where
  pres := fun c o h n => b.pres c o (a.pres c o h n) fun z => (a.grow c z).elim n fun e => by rw [h] at e; cases e
  grow := fun c z => by
    rcases b.grow c z with z | e
    · exact a.grow c z
    · cases q : H1 c with
      | none => exact .inr rfl
      | some o =>
        by_cases n : M1 c
        · exact .inl n
        · have := a.pres c o q n
          rw [this] at e; cases e
/-- fewer may change -/
theorem Stp.less (h : ∀ a, M' a → M a) : Stp M H M' H := ⟨fun _ _ h _ => h, fun a z => .inl (h a z)⟩
/-- a new thing is laid -/
theorem Stp.laid {p : Addr} {o : HO} (hp : H p = none) : Stp M H M (upd H p o) := ⟨fun a u h _ => by rw [upd_ne (ne_of_none h hp)]; exact h, fun _ h => .inl h⟩
theorem Stp.laidM {p : Addr} {o : HO} (hp : H p = none) : Stp M H (fun a => M a ∨ a = p) (upd H p o) :=
  ⟨fun a u h _ => by rw [upd_ne (ne_of_none h hp)]; exact h, fun a h => h.elim .inl fun e => .inr (by rw [e]; exact hp)⟩
/-- what may change is changed -/
theorem Stp.write {p : Addr} {o : HO} (hp : M p) : Stp M H M (upd H p o) := ⟨fun a u h n => by rw [upd_ne (fun e => n (by rw [e]; exact hp))]; exact h, fun _ h => .inl h⟩

theorem Dps.length : ∀ {vs : List V} {ds : List D}, Dps K ca M H vs ds → vs.length = ds.length
  | _, _, .nil => rfl
  | _, _, .cons _ h => by simp [Dps.length h]
theorem Dps.get : ∀ {vs : List V} {ds : List D} {i : Nat} {d : D}, Dps K ca M H vs ds → ds[i]? = some d → ∃ v, vs[i]? = some v ∧ Dp K ca M H v d
  | _, _, _, _, .nil, e => by simp at e
  | _, _, 0, _, .cons h _, e => by simp at e; subst e; exact ⟨_, rfl, h⟩
  | _, _, i + 1, _, .cons _ h, e => by simpa using Dps.get (i := i) h (by simpa using e)
theorem Dps.getV : ∀ {vs : List V} {ds : List D} {i : Nat} {v : V}, Dps K ca M H vs ds → vs[i]? = some v → ∃ d, ds[i]? = some d ∧ Dp K ca M H v d
  | _, _, _, _, .nil, e => by simp at e
  | _, _, 0, _, .cons h _, e => by simp at e; subst e; exact ⟨_, rfl, h⟩
  | _, _, i + 1, _, .cons _ h, e => by simpa using Dps.getV (i := i) h (by simpa using e)
theorem Dps.append : ∀ {vs ws : List V} {ds es : List D}, Dps K ca M H vs ds → Dps K ca M H ws es → Dps K ca M H (vs ++ ws) (ds ++ es)
  | _, _, _, _, .nil, h => h
  | _, _, _, _, .cons a t, h => .cons a (Dps.append t h)
theorem Dps.take : ∀ {vs : List V} {ds : List D} (n : Nat), Dps K ca M H vs ds → Dps K ca M H (vs.take n) (ds.take n)
  | _, _, 0, _ => by simp; exact .nil
  | _, _, _ + 1, .nil => .nil
  | _, _, n + 1, .cons a t => .cons a (Dps.take n t)
theorem Dps.drop : ∀ {vs : List V} {ds : List D} (n : Nat), Dps K ca M H vs ds → Dps K ca M H (vs.drop n) (ds.drop n)
  | _, _, 0, h => h
  | _, _, _ + 1, .nil => .nil
  | _, _, n + 1, .cons a t => Dps.drop n t
theorem Dps.set : ∀ {vs : List V} {ds : List D} (n : Nat) {v : V} {d : D}, Dps K ca M H vs ds → Dp K ca M H v d → Dps K ca M H (vs.set n v) (ds.set n d)
  | _, _, _, _, _, .nil, _ => .nil
  | _, _, 0, _, _, .cons _ t, h => .cons h t
  | _, _, n + 1, _, _, .cons a t, h => .cons a (Dps.set n t h)
theorem Dps.rep {vs : List V} {ds : List D} (h : Dps K ca M H vs ds) : ∀ k : Nat, Dps K ca M H (List.replicate k vs).flatten (List.replicate k ds).flatten
  | 0 => .nil
  | k + 1 => by simp only [List.replicate_succ, List.flatten_cons]; exact h.append (Dps.rep h k)
theorem Dps.nil_iff {vs : List V} {ds : List D} (h : Dps K ca M H vs ds) : vs = [] ↔ ds = [] := by
  cases h <;> simp
theorem Dps.ints : ∀ {vs : List V} {ns : List Int}, Dps K ca M H vs (ns.map D.int) → vs = ns.map V.int
  | _, [], .nil => rfl
  | _, n :: ns, .cons (.int _) t => by simp [Dps.ints t]
theorem Dps.ofInts : ∀ (ns : List Int), Dps K ca M H (ns.map V.int) (ns.map D.int)
  | [] => .nil
  | n :: ns => .cons (.int n) (Dps.ofInts ns)
theorem Dps.bools : ∀ {vs : List V} {ns : List Bool}, Dps K ca M H vs (ns.map D.bl) → vs = ns.map V.bl
  | _, [], .nil => rfl
  | _, n :: ns, .cons (.bl _) t => by simp [Dps.bools t]
theorem Dps.dropLast {vs : List V} {ds : List D} (h : Dps K ca M H vs ds) : Dps K ca M H vs.dropLast ds.dropLast := by
  rw [List.dropLast_eq_take, List.dropLast_eq_take, h.length]; exact h.take _
theorem Dps.reverse {vs : List V} {ds : List D} (h : Dps K ca M H vs ds) : Dps K ca M H vs.reverse ds.reverse := by
  have key : ∀ {vs : List V} {ds : List D}, Dps K ca M H vs ds → ∀ {ws : List V} {es : List D}, Dps K ca M H ws es → Dps K ca M H (vs.reverseAux ws) (ds.reverseAux es) := by
    intro vs
    induction vs with
    | nil => intro ds h ws es h'; cases h; exact h'
    | cons v vs ih =>
      intro ds h ws es h'
      cases h with
      | cons a t => exact ih t (.cons a h')
  exact key h .nil

/-- what may be read: the top itself may be one that changes -/
inductive Dr (K : PySem.W.Frag) (ca : Nat → Addr) (M : Mset) (H : Hp) : V → D → Prop
  | dp {v : V} {d : D} : Dp K ca M H v d → Dr K ca M H v d
  | lst {a : Addr} {xs : List V} {ds : List D} : H a = some (.lst xs) → Dps K ca M H xs ds → Dr K ca M H (.ref a) (.lst ds)
  | ins {a dx : Addr} {C : Nat} {gs : List (Str × V)} {fs : List (Str × D)} : H a = some (.ins (ca C) dx gs) → Dpf K ca M H gs fs → Dr K ca M H (.ref a) (.ins C fs)
theorem Dr.tupI {v : V} {ds : List D} (h : Dr K ca M H v (.tup ds)) : ∃ a xs, v = .ref a ∧ RT K M H a xs ∧ Dps K ca M H xs ds := by
  cases h with
  | dp h => cases h with | tup a b => exact ⟨_, _, rfl, a, b⟩
theorem Dr.lstI {v : V} {ds : List D} (h : Dr K ca M H v (.lst ds)) : ∃ a xs, v = .ref a ∧ H a = some (.lst xs) ∧ Dps K ca M H xs ds := by
  cases h with
  | dp h => cases h with | lst a b => exact ⟨_, _, rfl, a.1, b⟩
  | lst a b => exact ⟨_, _, rfl, a, b⟩
theorem Dr.scrI {v : V} {ns : List Int} (h : Dr K ca M H v (.scr ns)) : ∃ a, v = .ref a ∧ SqL K H a (ns.map V.int) := by
  cases h with | dp h => cases h with | scr a => exact ⟨_, rfl, a.elim (fun z => .inl z.1) .inr⟩
theorem Dr.insI {v : V} {C : Nat} {fs : List (Str × D)} (h : Dr K ca M H v (.ins C fs)) : ∃ a dx gs, v = .ref a ∧ H a = some (.ins (ca C) dx gs) ∧ Dpf K ca M H gs fs := by
  cases h with
  | dp h => cases h with | ins a b c => exact ⟨_, _, _, rfl, a, c⟩
  | ins a b => exact ⟨_, _, _, rfl, a, b⟩
theorem Dr.errI {v : V} {C : Nat} {fs : List (Str × D)} (h : Dr K ca M H v (.err C fs)) : ∃ a dx gs, v = .ref a ∧ H a = some (ErrO (ca C) a dx) ∧ H dx = some (.xd gs) ∧ Dpf K ca M H gs fs := by
  cases h with
  | dp h => cases h with | err a b c d e => exact ⟨_, _, _, rfl, a, c, e⟩
theorem Dr.intI {v : V} {i : Int} (h : Dr K ca M H v (.int i)) : v = .int i := by
  cases h with | dp h => cases h; rfl
theorem Dr.blI {v : V} {i : Bool} (h : Dr K ca M H v (.bl i)) : v = .bl i := by
  cases h with | dp h => cases h; rfl
theorem Dr.strI {v : V} {i : Str} (h : Dr K ca M H v (.str i)) : v = .str i := by
  cases h with | dp h => cases h; rfl
theorem Dr.nonI {v : V} (h : Dr K ca M H v .non) : v = .non := by
  cases h with | dp h => cases h; rfl
/-! towards the library's relation -/
mutual
theorem Dp.lib : ∀ {v : V} {d : D}, Dp K ca M H v d → d.pl = true → L2.Dp K H v d.py
  | _, _, .non, _ => .non
  | _, _, .bl b, _ => .bl b
  | _, _, .int i, _ => .int i
  | _, _, .str x, _ => .str x
  | _, _, .tup h hs, p => .tup h.sq (Dps.lib hs (by simpa [D.pl] using p))
  | _, _, .lst h hs, p => .lst h.sq (Dps.lib hs (by simpa [D.pl] using p))
  | _, _, .ins _ _ _, p => by simp [D.pl] at p
  | _, _, .scr _, p => by simp [D.pl] at p
  | _, _, .err _ _ _ _ _, p => by simp [D.pl] at p
theorem Dps.lib : ∀ {v : List V} {d : List D}, Dps K ca M H v d → D.pl.go d = true → L2.DpAll K H v (D.py.go d)
  | _, _, .nil, _ => .nil
  | _, _, .cons h hs, p => by
    simp only [D.pl.go, Bool.and_eq_true] at p
    exact .cons (Dp.lib h p.1) (Dps.lib hs p.2)
end
theorem Dr.lib {v : V} {d : D} (h : Dr K ca M H v d) (p : d.pl = true) : L2.Dp K H v d.py := by
  cases h with
  | dp h => exact h.lib p
  | lst a b => exact .lst (.of a) (b.lib (by simpa [D.pl] using p))
  | ins _ _ => simp [D.pl] at p
end
end Ev
end

section
set_option maxRecDepth 100000
set_option maxHeartbeats 4000000
namespace Ev
open PySem PySem.W PySem.Calls PyProof.Rows PySem.HandSPX
/-- its frame at the entry, the last name first -/
def bindsE (f : Str) (x : Addr) (v : Value) : List (Str × Value) := [(f, v), (("self" : Str), .ref x)]
/-- the suite of such an __init__ -/
def errB (f msg : Str) (j : Nat) (p0 p1 p2 p3 p4 p5 q1 q2 q3 q4 : Pos) : List Stmt :=
  [.Expr (.Call (.Attribute (.Call (.Name "super" p0) [] [] p1) "__init__" p2) [.Constant (.str msg) j p3] [] p4) p5,
   .Assign [.Attribute (.Name "self" q1) f q2] (.Name f q3) q4]
def errA (f : Str) (p1 p2 : Pos) : Arguments := { posonlyargs := [], args := [{ arg := "self", annotation := none, pos := p1 }, { arg := f, annotation := none, pos := p2 }], vararg := none, kwonlyargs := [], kw_defaults := [], kwarg := none, defaults := [] }
/-- what is written of the class C, of its __init__ at fI, of its field f -/
structure ErrTxt (P : Program) (K : Frag) (mg : Str → Option Value) (C fI : Addr) (f : Str) : Prop where
  cls : ∃ nm q N bs bm sn sub ab col dd k0 k1 k2 k3 k5, K.lookup C = some (excClassObj nm q C N bs bm true sn sub ab col dd k0 k1 k2 k3 k5 "ValueError.__new__") ∧ refsVE bm = true ∧ alongIn K "__init__" bm = some (some (.builtin "ValueError.__init__"))
  sa : findIn K (.ref C) "__setattr__" = some (some (.builtin "object.__setattr__"))
  noN : findIn K (.ref C) f = some none
  iC : findIn K (.ref C) "__init__" = some (some (.ref fI))
  tC : typeIn K (.ref fI) = some (.type "function")
  kC : keepIn K (.ref C) = true
  exC : subIn K (.ref C) (.type "BaseException") = some true
  veC : subIn K (.ref C) (.type "ValueError") = some true
  tyC : typeIn K (.ref C) = some (.type "type")
  hdC : hasDictIn K C = true
  opq : nsIn K cStatics "thirdparty.any" = some none
  mC : mroIn K C (.ref C) = some true
  noS : mg "super" = none
  top : (P.main.scope.names.lookup ("super" : Str)).isSome = false
  fn : ∃ (oc : Value) (od : Option Addr) (nm qn : Str) (sc : Scope) (dV kV doc pm : Value) (an : Option Addr) (ct : Value) (osl : Array (Option Value)) (a1 a2 p0 p1 p2 p3 p4 p5 q1 q2 q3 q4 : Pos) (msg : Str) (j : Nat) (cda cc : Addr)
      (ccl : Value) (cdd : Option Addr) (vs : Array Value) (ccs : Array (Option Value)) (file : Str) (tf : Tok) (cl : Value) (cld : Option Addr) (csl : Array (Option Value)),
    K.lookup fI = some ⟨oc, od, .func (ksFn nm qn (errA f a1 a2) (errB f msg j p0 p1 p2 p3 p4 p5 q1 q2 q3 q4) sc dV kV doc pm an (.ref cda) ct cc), osl⟩ ∧ codeIn K (.ref cda) qn = true ∧
    K.lookup cda = some ⟨ccl, cdd, .fields vs, ccs⟩ ∧ vs[2]? = some (.str file tf) ∧ ((P.main.file : Str) == file) = true ∧
    K.lookup cc = some ⟨cl, cld, .cell (some (.ref C)), csl⟩ ∧
    (∀ (s : Shared) (x v : Value), BindsTo s (ksFn nm qn (errA f a1 a2) (errB f msg j p0 p1 p2 p3 p4 p5 q1 q2 q3 q4) sc dV kV doc pm an (.ref cda) ct cc) ⟨[x, v], []⟩ [("self", x), (f, v)]) ∧
    sc.names.lookup ("super" : Str) = some .globalImplicit ∧ sc.names.lookup ("__class__" : Str) = some .free ∧ sc.names.lookup ("self" : Str) = some .local ∧ sc.names.lookup f = some .local ∧
    (p2.endLine == p4.line) = true ∧ (∀ y ∈ sc.names, y.2 ≠ .cell) ∧ sc.isCoroutine = false ∧ sc.isGenerator = false ∧ sc.kind = .function
  fne : f ≠ "self"
  fdb : (f == ("__debug__" : Str)) = false
section
variable {prog : Program} {w : World} {A : Around} {E : Value → Shared → Prop} {h : Heap} {g : Array GenState} {d : Drawn} {t : Nat} {os : OsState}
variable {nm q : Str} {C N : Addr} {bs bm : List Value} {hdct : Bool} {sn : List Str} {sub : List Value} {ab : Bool} {col : Option Bool} {dd : Option Addr} {k0 k1 k2 k3 k5 : Option Value}
/-- the bound ValueError.__init__ called -/
theorem call_mw {u e t0 : Addr} {rest : List Value} {Q : Value → Shared → Prop}
    (hC : h.get? C = some (excClassObj nm q C N bs bm hdct sn sub ab col dd k0 k1 k2 k3 k5 "ValueError.__new__")) (he : h.get? e = some (PySem.HandSPX.excO C t0)) (hu : h.get? u = some (kxs_mw "ValueError.__init__" e)) (hz : rest.length ≤ sizeLine)
    (hq : ∀ h' t1, (∀ b o, b ≠ e → h.get? b = some o → h'.get? b = some o) → h'.get? e = some (PySem.HandSPX.excO C t1) → Q .none ⟨h', g, d, t, os⟩) : wpAny (model prog w) A (call (.ref u) rest) Q E ⟨h, g, d, t, os⟩ := by
  have FB := PySem.F.excBase_ValueError
  refine wpAny_call (codeAny_of_tree ?_)
  show wpAny (model prog w) A.in1 (callAny (.ref u) ⟨rest, []⟩) _ _ _
  simp only [callAny]
  refine wpAny_bind (wpAny_load hu ?_)
  simp only [kxs_mw, show (Value.type "method-wrapper" == Value.type "method" || Value.type "method-wrapper" == Value.type "builtin_function_or_method" || Value.type "method-wrapper" == Value.type "method-wrapper") = true from by decide, if_true]
  refine PySem.W.KFB.if_so (by decide) (wpAny_bind (check_bound_init FB.toExcCallFacts hC he rfl ?_))
  refine wpAny_bind (wpAny_pure (wpAny_pure ⟨plainId_quiet FB.init.plain _, codeAny_builtin FB.initEntry ?_⟩))
  exact exc_init_tree (cls := .ref C) (t0 := t0) (dv := none) (c2 := .none) (c3 := .none) (b4 := .bool false) he hz fun h' k e' _ => hq h' _ k e'
end
theorem intr_no {env : Env} (h : env.scope.kind = .function) : interactive env = false := by
  unfold interactive
  first
    | (rw [h]; rfl)
    | simp [h]
theorem sup_call {p0 p1 p2 p3 p4 : Pos} {msg : Str} {j : Nat} {env : Env} (hl : (p2.endLine == p4.line) = true) : eval (.Call (.Attribute (.Call (.Name "super" p0) [] [] p1) "__init__" p2) [.Constant (.str msg) j p3] [] p4) env = (do
      let ov ← attributeBase (.Call (.Name "super" p0) [] [] p1) "__init__" env (eval (.Call (.Name "super" p0) [] [] p1) env)
      standAt p2.atName
      let (f, first) ← holding [ov] (getMethod ov "__init__" (do return (← importBound (.Call (.Name "super" p0) [] [] p1) env).getD true))
      callWith p4 f first (backTo p4 (starEach [.Constant (.str msg) j p3] env)) []) := by
  have hp : methodCallPos true (.Call (.Name "super" p0) [] [] p1) env p2 p4 = pure p4 := by unfold methodCallPos; simp [hl]
  rw [arm_eval_Call]
  unfold methodCall
  rw [show methodCallForm ([Expr.Constant (.str msg) j p3].length + ([] : List Keyword).length) (backTo p4 (starEach [.Constant (.str msg) j p3] env)) (backToKw p4 (keywordEach [] env)) = true from rfl, hp]
  simp only [pure_bind]
  rfl
/-- what such an __init__ leaves of a fresh error at x -/
structure ErrEnd (h h' : Heap) (x C dx t1 : Addr) (f : Str) (v : Value) : Prop where
  keep : ∀ b o, b ≠ x → h.get? b = some o → h'.get? b = some o
  obj : h'.get? x = some { cls := .ref C, dict := some dx, data := .fields #[.ref t1, .none, .none, .none, .bool false, .none] }
  dbig : h.objs.size ≤ dx
  dne : dx ≠ x
  ns : h'.Ns1 dx (fun y => if y = f then some v else none)
section
variable {P : Program} {w : World} {A : Around} {R : Result → Shared → Prop} {s : Shared} {K : Frag} {mg : Str → Option Value} {C fI : Addr} {f : Str} {base : Heap}
theorem err_init (T : ErrTxt P K mg C fI f) (Md : L2.Mod K mg base) (bk : ∀ b o, base.get? b = some o → s.heap.get? b = some o) {x t0 : Addr} {v : Value} (hlim : s.heap.NoLimit) (hx : s.heap.get? x = some (PySem.HandSPX.excO C t0)) (hnx : K.lookup x = none) (hroom : A.depth < recursionLimit)
    (hq : ∀ h' tk dx t1, ErrEnd s.heap h' x C dx t1 f v → R (.ok (.ret .none)) { s with heap := h', toks := tk }) :
    codeAny (model P w) A (.call (.ref fI) ⟨[.ref x, v], []⟩) R s := by
  obtain ⟨oc, od, nm, qn, sc, dV, kV, doc, pm, an, ct, osl, a1, a2, p0, p1, p2, p3, p4, p5, q1, q2, q3, q4, msg, j, cda, cc, ccl, cdd, vs, ccs, file, tf, cl, cld, csl, ho, hcd, hco, hvs, hfile, hcell, hbi, hks, hkc, hka, hkf, hln, hnc, hcr, hgn, hkd⟩ := T.fn
  obtain ⟨cnm, cq, N, bs, bm, sn, sub, ab, col, dd, k0, k1, k2, k3, k5, hC, hbm, hal⟩ := T.cls
  have hcl : clsIn K C = some { name := cnm, bases := bs, mro := .ref C :: bm, ns := N, qualname := cq, hasDict := true, slotNames := sn, subclasses := sub, abstract := ab, collection := col, hasDel := false } := by unfold clsIn; rw [hC] <;> rfl
  have X : K.In s.heap := Md.kin.keeps bk
  obtain ⟨mb, hb1, hb2⟩ := Md.blt
  have hxC : x ≠ C := fun z => by
    have y := X _ _ hC
    rw [← z, hx] at y
    cases y
  refine ks_codeAny_call_defAt hroom (X _ _ ho) rfl hlim (codeRec_of X hcd) rfl (hbi s (.ref x) v) hnc (fun y hy => ?_) (fun h1 hns kp1 => ?_) hcr hgn hkd
  · rcases List.mem_cons.mp hy with rfl | hy
    · exact hka
    rcases List.mem_cons.mp hy with rfl | hy
    · exact hkf
    cases hy
  have b1 : ∀ b o, base.get? b = some o → h1.get? b = some o := fun b o e => kp1 b o (bk b o e)
  have X1 : K.In h1 := Md.kin.keeps b1
  have hx1 := kp1 _ _ hx
  have lself : (bindsE f x v).lookup ("self" : Str) = some (.ref x) := by
    have z : (("self" : Str) == f) = false := by simpa using fun e => T.fne e.symm
    simp [bindsE, List.lookup, z]
  have lf : (bindsE f x v).lookup f = some v := by
    simp [bindsE, List.lookup]
  show _root_.PySem.wpAt _ _ _ (execs (errB f msg j p0 p1 p2 p3 p4 p5 q1 q2 q3 q4) _) _ _ _
  refine ks_wpAt_execs_cons (ks_wpAt_Expr_any (ks_wpAt_MethodCall (pl := (do return (← importBound (.Call (.Name "super" p0) [] [] p1) (ksEnv qn sc s.heap.objs.size fI (.ref cda) cc)).getD true)) ?_ (sup_call hln)) (intr_no hkd))
  · refine ks_wpAt_super_base (env := ksEnv qn sc s.heap.objs.size fI (.ref cda) cc) hks hkc rfl rfl (X1 _ _ ho) rfl (ar := { arg := "self", annotation := none, pos := a1 }) rfl rfl (X1 _ _ hco) rfl hvs hfile T.top ?_
    refine ks_loadName_global hkd hks (loadGlobal_builtin (env := ksEnv qn sc s.heap.objs.size fI (.ref cda) cc) (Md.glob.keeps b1) T.noS (hb1.keeps b1) ((hb2 _ (by decide)).trans PyProof.Rows.Boot.«super») ⟨rfl, ?_⟩)
    refine wpAny_loadName_free hkd hkc rfl ⟨_, X1 _ _ hcell, rfl⟩ ?_
    refine wpAny_loadName_local hkd hka hns lself ?_
    refine ks_wpAny_isType_cls (X1 _ _ hC) rfl ⟨rfl, ?_⟩
    refine ks_wpAny_call_super (X1 _ _ hC) rfl hx1 rfl (fun c e => by cases e) (looks_mroIn X1 T.mC) (fun h2 e2 kp2 => ?_)
    have b2 : ∀ b o, base.get? b = some o → h2.get? b = some o := fun b o e => kp2 b o (b1 b o e)
    have X2 : K.In h2 := Md.kin.keeps b2
    have hx2 := kp2 _ _ hx1
    have I2 : InstAt h2 x (PySem.HandSPX.excO C t0) C none := ⟨hx2, rfl, rfl, trivial⟩
    refine kxs_getMethod kxs_ValueError e2 (looks_opaque X2 T.opq) (l₀ := .ref C :: bm) (l := bm) (fun A Q E s k q => wpAny_bind ((looks_clsIn X2 hcl) A _ E s k (wpAny_pure q))) (PySem.ESX.drop_own C bm) X2 hal (I2.type.andThen (looks_subIn X2 T.veC)) hxC rfl ?_
    have b3 : ∀ b o, h2.get? b = some o → (h2.push (kxs_mw "ValueError.__init__" x)).get? b = some o := fun b o e => Heap.get?_push_of_some _ e
    have hu : (h2.push (kxs_mw "ValueError.__init__" x)).get? h2.objs.size = some (kxs_mw "ValueError.__init__" x) := Heap.get?_push_at rfl rfl
    refine kxs_callWith (i := "ValueError.__init__") (x := x) rfl (evalArgs_plain (spliced_cons (wpAny_Constant_str (k := j) (pos := p3) (spliced_nil ⟨hu, ?_⟩))))
    refine call_mw (b3 _ _ (X2 _ _ hC)) (b3 _ _ hx2) hu (by rw [sizeLine_eq]; exact (by decide : 1 ≤ 16777216)) fun h4 t4 kp4 hx4 => ?_
    have k4 : ∀ b o, b ≠ x → h1.get? b = some o → h4.get? b = some o := fun b o hb e => kp4 b o hb (b3 b o (kp2 b o e))
    have hn4 : h4.Ns s.heap.objs.size (fun y => (bindsE f x v).lookup y) := hns.at fun o e => k4 _ o (Nat.ne_of_gt (Heap.lt_size hx)) e
    have X4 : K.In h4 := fun b o e => k4 b o (fun z => by rw [z, hnx] at e; cases e) (X1 b o e)
    show _root_.PySem.wpAt _ _ _ (execs [.Assign [.Attribute (.Name "self" q1) f q2] (.Name f q3) q4] _) _ _ _
    refine wpAt_of_wpAny (wpAny_execs_cons (plainObj_wpAny_Assign_Attribute ?_))
    refine wpAny_Name (wpAny_loadName_local hkd hkf hn4 lf ?_) T.fdb
    refine wpAny_Name (wpAny_loadName_local hkd hka hn4 lself ?_) (by decide)
    refine set_plain X4 (ox := PySem.HandSPX.excO C t4) (od := none) ⟨hx4, rfl, rfl, trivial⟩ T.sa ?_
    refine exc_osa X4 hx4 hcl (show refsVE (.ref C :: bm) = true from hbm) rfl T.noN (fun h5 tk5 dx kp5 dn dne hx5 hn5 => ?_)
    show wpAny _ _ (execs [] _) _ _ _
    exact wpAny_execs_nil (hq h5 tk5 dx t4 ⟨fun b o hb e => kp5 b o hb (k4 b o hb (kp1 b o e)), hx5, Nat.le_of_lt (Nat.lt_of_lt_of_le hn4.lt dn), dne, hn5⟩)
end
end Ev
end

section
set_option maxRecDepth 100000
set_option maxHeartbeats 4000000
namespace Ev
open PySem PySem.W PySem.Calls
/-- a made error at e, its dict at dx -/
structure ErrMade (h h' : Heap) (e C dx t1 : Addr) (f : Str) (v : Value) : Prop where
  keep : ∀ b o, h.get? b = some o → h'.get? b = some o
  big : h.objs.size ≤ e
  obj : h'.get? e = some { cls := .ref C, dict := some dx, data := .fields #[.ref t1, .none, .none, .none, .bool false, .none] }
  dbig : h.objs.size ≤ dx
  dne : dx ≠ e
  ns : h'.Ns1 dx (fun y => if y = f then some v else none)
section
variable {P : Program} {w : World} {A : Around} {R : Result → Shared → Prop} {s : Shared} {K : Frag} {mg : Str → Option Value} {C fI : Addr} {f : Str} {base : Heap}
theorem err_made (T : ErrTxt P K mg C fI f) (Md : L2.Mod K mg base) (bk : ∀ b o, base.get? b = some o → s.heap.get? b = some o) {v : Value} (hlim : s.heap.NoLimit) (hroom : A.depth + 1 < recursionLimit)
    (hq : ∀ h' tk e dx t1, ErrMade s.heap h' e C dx t1 f v → R (.ok (.ret (.ref e))) { s with heap := h', toks := tk }) : codeAny (model P w) A (.call (.ref C) ⟨[v], []⟩) R s := by
  obtain ⟨nm, q, N, bs, bm, sn, sub, ab, col, dd, k0, k1, k2, k3, k5, hC, hbm, _⟩ := T.cls
  obtain ⟨hp, g, dr, tk, os⟩ := s
  have X : K.In hp := Md.kin.keeps bk
  have up : ∀ b o, hp.get? b = some o → ((hp.push (kdv_tup [v])).push (PySem.HandSPX.excO C hp.objs.size)).get? b = some o := fun b o e => Heap.get?_push_of_some _ (Heap.get?_push_of_some _ e)
  have new : ((hp.push (kdv_tup [v])).push (PySem.HandSPX.excO C hp.objs.size)).get? (hp.objs.size + 1) = some (PySem.HandSPX.excO C hp.objs.size) := by heap_get
  have out : K.lookup (hp.objs.size + 1) = none := by
    cases e : K.lookup (hp.objs.size + 1) with
    | none => rfl
    | some o =>
      have z := Heap.lt_size (show hp.get? (hp.objs.size + 1) = some o from X _ _ e)
      exact absurd z Nat.not_succ_lt_self
  refine PySem.HandSPX.call_own PySem.F.excBase_ValueError (fun Y => PySem.HandSPX.refsVE_contains Y bm hbm) (X _ _ hC) (looks_findIn X T.iC) (fun self => bind_fn X self T.tC) (by rw [sizeLine_eq]; exact (by decide : 1 ≤ 16777216)) ?_
  refine err_init (s := ⟨(hp.push (kdv_tup [v])).push (PySem.HandSPX.excO C hp.objs.size), g, dr, tk, os⟩) T Md (fun b o e => up b o (bk b o e)) (hlim.keeps up) new out (by show A.depth + 1 < _; exact hroom) fun h' tk' dx t1 Z => ?_
  have sz : ((hp.push (kdv_tup [v])).push (PySem.HandSPX.excO C hp.objs.size)).objs.size = hp.objs.size + 1 + 1 := by rw [Heap.size_push, Heap.size_push]
  have hd : hp.objs.size + 1 + 1 ≤ dx := by rw [← sz]; exact Z.dbig
  exact ⟨rfl, hq h' tk' (hp.objs.size + 1) dx t1 ⟨fun b o e => Z.keep b o (Nat.ne_of_lt (Nat.lt_succ_of_lt (Heap.lt_size e))) (up b o e), Nat.le_succ _, Z.obj, Nat.le_of_succ_le (Nat.le_of_succ_le hd), Z.dne, Z.ns⟩⟩
end
open L2 PyProof.Rows
theorem relO_one {f : Str} {v : V} {u : Value} (r : RelV v u) (y : Str) : RelO (List.lookup y [(f, v)]) (if y = f then some u else none) := by
  by_cases e : y = f
  · rw [if_pos e, e]
    have : List.lookup f [(f, v)] = some v := by simp [List.lookup]
    rw [this]; exact r
  · rw [if_neg e]
    have z : (y == f) = false := by simpa using e
    have : List.lookup y [(f, v)] = none := by simp [List.lookup, z]
    rw [this]; trivial
section
variable {X : Cx} {C fI : Addr} {f : Str}
/-- C(e) -/
def tMkErr (C : Addr) (f : Str) (ta : TA) : L2.St → Hp → XK → Prop := fun σ H Q => ta σ H fun vs H1 => ∃ v, vs = [v] ∧ ∀ d, H1 d = none → Q (.ref C) (some d) (upd H1 d (.xd [(f, v)]))
theorem pmk_err {a : Expr} {ta : TA} {x : Str} {p pos : Pos} {k : Nat} (T : ErrTxt X.prog X.K X.mg C fI f) (hr : Room k X.A) (ha : PA X [a] ta) (hg : Gl X x) (hm : X.mg x = some (.ref C)) (hdb : (x == ("__debug__" : Str)) = false)
    (he : starEach (a :: []) X.env = (false, eval a X.env) :: starEach [] X.env) (hpl : (backTo pos (starEach [] X.env)).any (·.1) = false := by rfl) : PMk X (.Call (.Name x p) [a] [] pos) (tMkErr C f ta) := by
  intro pins s σ H Q I h
  refine wpAny_Call_Name_kw (ld_glob I hg hm ?_ hdb)
  refine PySem.W.callWith_K (h₀ := X.base) I.ok.mod.kin T.kC (thn (ha.run pos pins s σ H _ I h) fun us s1 ⟨vs, H1, I1, r1, v, ev, q1⟩ => ⟨I1.kIn, ?_⟩) he hpl
  subst ev
  cases r1 with
  | @cons _ u _ us' rv rn =>
    cases rn
    show wpAny _ _ (call (.ref C) [u]) _ _ _
    have lim := I1.nolimit
    have bk1 := I1.bk
    have md := I1.mod
    obtain ⟨hp, g, dr, tk, os⟩ := s1
    refine wpAny_call (err_made T md bk1 lim (by have := hr.dp; omega) fun h' tk' e d t1 Z => ?_)
    obtain ⟨G, gk, gn⟩ := restrict h' fun b => decide (b ≠ e)
    have same : ∀ b, b ≠ e → G.get? b = h'.get? b := fun b hb => gk b (decide_eq_true hb)
    have gone : G.get? e = none := gn e (by simp)
    have old : ∀ b o, hp.get? b = some o → G.get? b = some o := fun b o z => by
      rw [same b (Nat.ne_of_lt (Nat.lt_of_lt_of_le (Heap.lt_size z) Z.big))]
      exact Z.keep b o z
    have ob : ObjOk X.prog X.w (upd H1 d (.xd [(f, v)])) G d (.xd [(f, v)]) := ⟨_, Z.ns.at (fun o z => (same d Z.dne).trans z), relO_one rv⟩
    have J : Inv X pins σ (upd H1 d (.xd [(f, v)])) ⟨G, g, dr, tk', os⟩ := I1.laid (t' := tk') old Z.dbig ob
    refine ⟨e, _, _, ⟨G, g, dr, tk', os⟩, _, .ref C, some d, rfl, J, fun b o z => ?_, gone, Z.obj, ⟨rfl, rfl⟩, rfl, rfl, ?_, rfl, I1.bare, raises_own T.exC T.tyC, q1 d (I1.hok.fresh Z.dbig)⟩
    · by_cases hb : b = e
      · subst hb
        have z' : G.get? b = some o := z
        rw [gone] at z'; cases z'
      · exact (same b hb).symm.trans z
    · rw [upd_ne (Ne.symm Z.dne)]
      exact I1.hok.fresh Z.big
end
end Ev
end

section
set_option maxRecDepth 100000
set_option maxHeartbeats 4000000
namespace Ev
open PySem PySem.W PySem.Calls
open L2 PyProof.Rows
section
variable {X : Cx} {C fI : Addr} {f : Str}
theorem errO_ok {P : Program} {w : World} {H : Hp} {h : Heap} {a d t1 : Addr} (e : h.get? a = some { cls := .ref C, dict := some d, data := .fields #[.ref t1, .none, .none, .none, .bool false, .none] }) : ObjOk P w H h a (ErrO C a d) :=
  ⟨⟨t1, e⟩, ⟨_, e⟩, fun _ _ ⟨t, q⟩ k => ⟨t, k _ q⟩⟩
theorem Un.laid2 {fs ex : List Addr} {H : Hp} {h h' : Heap} {a d : Addr} {o u : HO} (k : ∀ b v, h.get? b = some v → h'.get? b = some v) (hpa : h.get? a = none) (hpd : h.get? d = none) (ha : H a = none) (hd : H d = none) : Un fs ex H (upd (upd H d u) a o) h h' where
  keep := fun b v q _ _ _ => k b v q
  slot := fun b v q _ _ _ => ⟨v.slots, k b v q⟩
  free := fun b v q n _ => by rw [upd_ne (fun z => by rw [z, hpa] at q; cases q), upd_ne (fun z => by rw [z, hpd] at q; cases q)]; exact n
  there := fun b v q _ => ⟨v, k b v q⟩
  tups := fun b xs q => by rw [upd_ne (ne_of_none q ha), upd_ne (ne_of_none q hd)]; exact q
  frzs := fun b v xs q => by rw [upd_ne (ne_of_none q ha), upd_ne (ne_of_none q hd)]; exact q
  tbls := fun b ps q => ⟨#[], by rw [upd_ne (ne_of_none q ha), upd_ne (ne_of_none q hd), q]; simp⟩
/-- C(e) as a value -/
def tErrV (C : Addr) (f : Str) (te : TE) : TE := fun σ H Q => te σ H fun v H1 => ∀ a d, H1 a = none → H1 d = none → a ≠ d → Q (.ref a) (upd (upd H1 d (.xd [(f, v)])) a (ErrO C a d))
theorem pe_mkE {a : Expr} {te : TE} {x : Str} {p pos : Pos} {k : Nat} (T : ErrTxt X.prog X.K X.mg C fI f) (hr : Room k X.A) (ha : PE X a te) (hg : Gl X x) (hm : X.mg x = some (.ref C)) (hdb : (x == ("__debug__" : Str)) = false)
    (he : starEach (a :: []) X.env = (false, eval a X.env) :: starEach [] X.env) (hpl : (backTo pos (starEach [] X.env)).any (·.1) = false := by rfl) : PE X (.Call (.Name x p) [a] [] pos) (tErrV C f te) := by
  refine ⟨fun pins s σ H Q I h => ?_⟩
  refine wpAny_Call_Name_kw (ld_glob I hg hm ?_ hdb)
  refine PySem.W.callWith_K (h₀ := X.base) I.ok.mod.kin T.kC ?_ he hpl
  rw [he]
  show wpAny _ _ (spliced ((false, eval a X.env) :: backTo pos (starEach [] X.env))) _ _ s
  refine Calls.spliced_cons (thn (ha.run pins s σ H _ I h) fun u s1 ⟨v, H1, I1, r1, q1⟩ => ?_)
  refine Calls.spliced_nil ⟨I1.kIn, ?_⟩
  show wpAny _ _ (call (.ref C) [u]) _ _ _
  have lim := I1.nolimit
  have bk1 := I1.bk
  have md := I1.mod
  obtain ⟨hp, g, dr, tk, os⟩ := s1
  refine wpAny_call (err_made T md bk1 lim (by have := hr.dp; omega) fun h' tk' e d t1 Z => ?_)
  have he0 : H1 e = none := I1.hok.fresh Z.big
  have hd0 : H1 d = none := I1.hok.fresh Z.dbig
  have ob : ObjOk X.prog X.w (upd H1 d (.xd [(f, v)])) h' d (.xd [(f, v)]) := ⟨_, Z.ns, relO_one r1⟩
  have he1 : upd H1 d (.xd [(f, v)]) e = none := by rw [upd_ne (Ne.symm Z.dne)]; exact he0
  have big : ∀ {b : Addr}, hp.objs.size ≤ b → hp.get? b = none := fun {b} hb => by
    cases q : hp.get? b with
    | none => rfl
    | some o => exact absurd (Nat.lt_of_lt_of_le (Heap.lt_size q) hb) (Nat.lt_irrefl _)
  have K1 : HOk X.prog X.w (upd H1 d (.xd [(f, v)])) h' := I1.hok.laidN Z.keep hd0 ob
  have K2 : HOk X.prog X.w (upd (upd H1 d (.xd [(f, v)])) e (ErrO C e d)) h' := K1.laidN (fun _ _ q => q) he1 (errO_ok Z.obj)
  exact ⟨.ref e, _, I1.un (Un.laid2 Z.keep (big Z.big) (big Z.dbig) he0 hd0) K2, rfl, q1 e d he0 hd0 (Ne.symm Z.dne)⟩
/-- e.f of such a value -/
def tErrF (te : TE) (K : PySem.W.Frag) (n : Str) : TE := fun σ H Q => te σ H fun x H1 => ∃ (a d C : Addr) (fs : List (Str × V)) (v : V), x = .ref a ∧ H1 a = some (ErrO C a d) ∧ H1 d = some (.xd fs) ∧ XfC K C ∧ PySem.W.findIn K (.ref C) n = some none ∧ fs.lookup n = some v ∧ Q v H1
theorem pe_fldE {e : Expr} {te : TE} {pos : Pos} {n : Str} (he : PE X e te) (hb : attributeBase e n X.env (eval e X.env) = eval e X.env) : PE X (.Attribute e n pos) (tErrF te X.K n) := by
  refine ⟨fun pins s σ H Q I h => ?_⟩
  refine attr_of hb (thn (he.run pins s σ H _ I h) fun u s1 hh => ?_)
  obtain ⟨x, H1, I1, rx, a, d, C, fs, v, rfl, h1, h2, T, hno, l, q⟩ := hh
  obtain rfl : u = Value.ref a := rx
  obtain ⟨⟨t1, ho⟩, _, _⟩ := I1.hok a _ h1
  have hx : ObjOk X.prog X.w H1 s1.heap d (.xd fs) := I1.hok d _ h2
  obtain ⟨mA, hns, hr⟩ := hx
  obtain ⟨od, hod, hl⟩ := lookIn_ns hns
  obtain ⟨u, hu, ru⟩ := RelO.some_of (v := v) (o := mA n) (by rw [← l]; exact hr n)
  have J : PySem.W.InstAt s1.heap a { cls := .ref C, dict := some d, data := .fields #[.ref t1, .none, .none, .none, .bool false, .none] } C (some od) := ⟨ho, rfl, rfl, hod⟩
  exact HandSPX.exc_get I1.kIn J T.ga T.gg T.exC (PySem.W.findObj_own T.hdC hno rfl (by rw [hl, hu])) (handed_of ru) ⟨v, H1, I1.tok _, ru, q⟩
/-- isinstance of such a value -/
def rIsErr (K : PySem.W.Frag) : List V → Hp → VK → Prop := fun xs H Q => ∃ (a d C : Addr) (fs : List (Str × V)) (c : V) (cv : Value) (b : Bool), xs = [.ref a, c] ∧ H a = some (ErrO C a d) ∧ H d = some (.xd fs) ∧ ExcC K C ∧ (∀ u, RelV c u → u = cv) ∧ PySem.W.kitOne K (.ref C) cv = some b ∧ Q (.bl b) H
theorem call_isErr {X : Cx} : CallR X (.builtin "isinstance") (rIsErr X.K) := by
  intro pins s σ H xs us Q I r h
  obtain ⟨a, d, C, fs, c, cv, b, rfl, h1, h2, E, hcv, e, q⟩ := h
  cases r with
  | cons rx rr =>
    cases rr with
    | cons rt rr =>
      cases rr
      cases rx
      have ec := hcv _ rt
      subst ec
      obtain ⟨⟨t1, ho⟩, _, _⟩ := I.hok a _ h1
      have hx : ObjOk X.prog X.w H s.heap d (.xd fs) := I.hok d _ h2
      obtain ⟨mA, hns, hr⟩ := hx
      obtain ⟨od, hod, hl⟩ := lookIn_ns hns
      have J : PySem.W.InstAt s.heap a { cls := .ref C, dict := some d, data := .fields #[.ref t1, .none, .none, .none, .bool false, .none] } C (some od) := ⟨ho, rfl, rfl, hod⟩
      obtain ⟨cd, hcl, _⟩ := any_some E.hd
      exact PySem.W.kia_one (PySem.W.kitx_exc (by rw [hcl]; rfl) E.hg E.hk E.hs E.ha E.hn E.ht E.hm) I.kIn J e (fun z => nomatch z) fun tk => ⟨.bl b, H, I.kept (t' := tk) fun _ _ z => z, rfl, q⟩
end
end Ev
end

section
set_option maxRecDepth 100000
set_option maxHeartbeats 2000000
namespace Ev
open PySem L2

/-- a raised error: its class, its fields -/
structure Err where
  C : Nat
  fs : List (Str × D)

/-- a slot of a frame: unset; a value that is never changed; a list or object of one's own; one that is walked; a caught error -/
inductive Slot where
  | no | fz (d : D) | ow (d : D) | hd (d : D) | ex (C : Nat) (fs : List (Str × D))
  deriving Inhabited
abbrev Fr := List Slot
def Fr.at (S : Fr) (i : Nat) : Slot := (S[i]?).getD .no

abbrev M (α : Type) := Fr → Option (Except Err α × Fr)
def ret {α : Type} (a : α) : M α := fun S => some (.ok a, S)
def stuck {α : Type} : M α := fun _ => none
def bnd {α β : Type} (x : M α) (f : α → M β) : M β := fun S => match x S with
  | none => none
  | some (.error e, S') => some (.error e, S')
  | some (.ok a, S') => f a S'
def opt {α : Type} : Option α → M α
  | none => stuck
  | some a => ret a
/-- no error may leave -/
def sure {α : Type} (x : M α) : M α := fun S => match x S with
  | some (.ok a, S') => some (.ok a, S')
  | _ => none

inductive Blt where
  | len | abs | max2 | min2 | int | str | list | tuple | sum | max | min | all | any | sorted | listr
  deriving DecidableEq
inductive Ty where
  | ty (n : String) | own (C : Nat)
  deriving DecidableEq
inductive CT where
  | nm (i : Nat) | tp (ts : List CT)
/-- what is walked: a sequence; range(n); range(a, b) -/
inductive IK where
  | seq | rng1 | rng2
  deriving DecidableEq

inductive CE where
  | var (i : Nat) | lit (d : D) | con (x : Nat)
  | bin (op : Operator) (a b : CE)
  | neg (a : CE) | not (a : CE)
  | cmp (op : CmpOp) (a b : CE) | cmp2 (op op' : CmpOp) (a b c : CE)
  | and (a b : CE) | or (a b : CE) | ite (c a b : CE)
  | tup (es : List CE) | lst (es : List CE)
  | idx (a b : CE) | sl (a : CE) (lo hi : Option CE)
  | att (a : CE) (f : Str)
  /-- a caught error's field -/
  | exv (i : Nat) (f : Str)
  | call (f : Nat) (es : List CE)
  | make (C : Nat) (es : List CE)
  | meth (o : CE) (m : Str) (es : List CE)
  | blt (b : Blt) (es : List CE)
  | isi (a : CE) (t : Ty)
  /-- an error made, its field, its kind -/
  | mkE (C : Nat) (e : CE) | attE (a : CE) (f : Str) | isiE (a : CE) (t : Ty)
  | index (o a : CE)
  /-- == and len by an own def -/
  | oeq (a b : CE) | olen (a : CE)
  | comp (e : CE) (t : CT) (k : IK) (it : List CE) (ifs : List CE) (own : List Nat)

inductive CS where
  | asg (t : CT) (e : CE)
  | seti (i : Nat) (k v : CE)
  | setf (i : Nat) (f : Str) (e : CE)
  | ex (e : CE)
  | app (i : Nat) (e : CE)
  | ret (e : CE) | retN | pass | brk | cont
  | ite (c : CE) (a b : List CS)
  | for (t : CT) (k : IK) (it : List CE) (body : List CS)
  | whl (c : CE) (body : List CS)
  | rse (C : Nat) (es : List CE)
  /-- x, y = a, b -/
  | par (is : List Nat) (es : List CE)
  | try (body : List CS) (hs : List (Nat × Nat × List CS))

structure Sg where
  /-- which of a def's parameters it may change -/
  io : Nat → List Bool
  /-- __init__ of a class, its methods by name -/
  init : Nat → Option Nat
  mth : Nat → Str → Option Nat
  /-- the one field of an error's class -/
  exf : Nat → Option Str
  /-- the attributes of a class's objects -/
  flds : Nat → List Str
  /-- own classes whose objects may be asked for by isinstance, or read -/
  ids : List Nat
  /-- whether an error of a class is of a kind -/
  ekit : Nat → Ty → Option Bool
/-! ### operations on values -/
/-- lists and tuples at most so long -/
abbrev most : Nat := 16777216
def opBin : Operator → D → D → Option (D × Bool)
  | .Add, .int i, .int j => some (.int (i + j), false)
  | .Add, .tup xs, .tup ys => if xs.length + ys.length ≤ most then some (.tup (xs ++ ys), false) else none
  | .Add, .lst xs, .lst ys => if xs.length + ys.length ≤ most then some (.lst (xs ++ ys), true) else none
  | .Add, .str x, .str y => if x.length + y.length ≤ most then some (.str (x ++ y), false) else none
  | .Sub, .int i, .int j => some (.int (i - j), false)
  | .Mult, .int i, .int j => if (-(2 ^ 64) < i ∧ i < 2 ^ 64) ∨ (-(2 ^ 64) < j ∧ j < 2 ^ 64) then some (.int (i * j), false) else none
  | .Mult, .tup xs, .int k => if xs.length ≤ 1000 ∧ k ≤ 1000 ∧ xs ≠ [] ∧ 1 ≤ k then some (.tup (List.replicate k.toNat xs).flatten, false) else none
  | .Mult, .lst xs, .int k => if -(2 ^ 63) ≤ k ∧ k < 2 ^ 63 ∧ xs.length * k.toNat ≤ most then some (.lst (List.replicate k.toNat xs).flatten, true) else none
  | .Mod, .int i, .int j => if 0 < j then some (.int (i % j), false) else none
  | .FloorDiv, .int i, .int j => if 0 < j ∧ j < 1073741824 then some (.int (i / j), false) else none
  | .Pow, .int i, .int j => if 0 ≤ j ∧ j ≤ 1000000 ∧ i.natAbs < 2 ^ 64 then some (.int (i ^ j.toNat), false) else none
  | _, _, _ => none
def eqD (a b : D) : Option Bool := if a.shp && b.shp then some (a.eqv b) else none
def isD : D → D → Option Bool
  | .non, .non => some true
  | _, .non => some false
  | .bl a, .bl b => some (a == b)
  | _, _ => none
def inD (x : D) (ys : List D) : Option Bool := if x.shp && (D.lst ys).shp then some (ys.any fun z => z.eqv x) else none
def opCmp : CmpOp → D → D → Option Bool
  | .Eq, a, b => eqD a b
  | .NotEq, a, b => (eqD a b).map (!·)
  | .Lt, .int i, .int j => some (decide (i < j))
  | .LtE, .int i, .int j => some (decide (i ≤ j))
  | .Gt, .int i, .int j => some (decide (j < i))
  | .GtE, .int i, .int j => some (decide (j ≤ i))
  | .In, x, .lst ys => inD x ys
  | .In, x, .tup ys => inD x ys
  | .NotIn, x, .lst ys => (inD x ys).map (!·)
  | .NotIn, x, .tup ys => (inD x ys).map (!·)
  | .Is, a, b => isD a b
  | .IsNot, a, b => (isD a b).map (!·)
  | _, _, _ => none
def opIdx : D → D → Option D
  | .tup xs, .int i => atI xs i
  | .lst xs, .int i => atI xs i
  | .scr ns, .int i => (atI ns i).map .int
  | _, _ => none
def cutD (xs : List D) (lo hi : Option Int) : List D := (xs.drop (HT.sIx xs.length 0 lo)).take (HT.sIx xs.length xs.length hi - HT.sIx xs.length 0 lo)
def opSl : D → Option Int → Option Int → Option (D × Bool)
  | .tup xs, lo, hi => some (.tup (cutD xs lo hi), false)
  | .lst xs, lo, hi => some (.lst (cutD xs lo hi), true)
  | _, _, _ => none
def opAtt (g : Sg) : D → Str → Option D
  | .ins C fs, f => if C ∈ g.ids ∧ f ∈ g.flds C then fs.lookup f else none
  | _, _ => none
def unInts : List D → Option (List Int)
  | [] => some []
  | .int i :: r => (unInts r).map (i :: ·)
  | _ => none
def unBls : List D → Option (List Bool)
  | [] => some []
  | .bl i :: r => (unBls r).map (i :: ·)
  | _ => none
def maxInt : List Int → Option Int
  | [] => none
  | x :: xs => some (xs.foldl max x)
def minInt : List Int → Option Int
  | [] => none
  | x :: xs => some (xs.foldl min x)
def opBlt : Blt → List D → Option (D × Bool)
  | .len, [.lst xs] => some (.int xs.length, false)
  | .len, [.tup xs] => some (.int xs.length, false)
  | .len, [.scr xs] => some (.int xs.length, false)
  | .len, [.str x] => if x.length ≤ most then some (.int x.length, false) else none
  | .abs, [.int i] => some (.int (if i < 0 then -i else i), false)
  | .max2, [.int i, .int j] => some (.int (if j > i then j else i), false)
  | .min2, [.int i, .int j] => some (.int (if j < i then j else i), false)
  | .int, [.int i] => some (.int i, false)
  | .int, [.bl k] => some (.int (if k then 1 else 0), false)
  | .str, [.int i] => if i.natAbs.log2 < 1920 then some (.str (toString i), false) else none
  | .list, [.lst xs] => some (.lst xs, true)
  | .list, [.tup xs] => some (.lst xs, true)
  | .tuple, [.lst xs] => some (.tup xs, false)
  | .tuple, [.tup xs] => some (.tup xs, false)
  | .sum, [.lst xs] => (unInts xs).map fun ns => (.int ns.sum, false)
  | .max, [.lst xs] => ((unInts xs).bind maxInt).map fun m => (.int m, false)
  | .min, [.lst xs] => ((unInts xs).bind minInt).map fun m => (.int m, false)
  | .all, [.lst xs] => (unBls xs).map fun ns => (.bl (ns.all id), false)
  | .any, [.lst xs] => (unBls xs).map fun ns => (.bl (ns.any id), false)
  | _, _ => none
/-- whether a plain value is of a built-in type -/
def isTy : String → D → Option Bool
  | "int", .int _ => some true
  | "int", .bl _ => some true
  | "int", _ => some false
  | "bool", .bl _ => some true
  | "bool", _ => some false
  | "str", .str _ => some true
  | "str", _ => some false
  | "tuple", .tup _ => some true
  | "tuple", _ => some false
  | "list", .lst _ => some true
  | "list", _ => some false
  | _, _ => none
def opIsi (g : Sg) (t : Ty) (d : D) : Option Bool := match d with
  | .scr _ | .err _ _ => none
  | .ins C' _ => if C' ∈ g.ids then
      match t with
      | .ty n => isTy n d
      | .own C => if C ∈ g.ids then some (C == C') else none
    else none
  | d => match t with
    | .ty n => isTy n d
    | .own C => if C ∈ g.ids then some false else none
def opAttE (g : Sg) : D → Str → Option D
  | .err C fs, f => if g.exf C = some f then fs.lookup f else none
  | _, _ => none
def opIsiE (g : Sg) (t : Ty) : D → Option Bool
  | .err C _ => g.ekit C t
  | _ => none
def opIndex (xs : List D) (y : D) : Option Int :=
  if y.shp && (D.lst xs).shp then
    match xs.findIdx? (fun z => z.eqv y) with
    | some j => some (j : Int)
    | none => none
  else none
def putD (f : Str) (d : D) : List (Str × D) → List (Str × D)
  | [] => [(f, d)]
  | (g, e) :: r => if g = f then (g, d) :: r else (g, e) :: putD f d r

/-! ### what the text's defs give -/
abbrev FnR := List D → Option (List D × Except Err (D × Bool))
structure Gam extends Sg where
  /-- a def by its number: from the arguments, what the arguments that it may change hold behind it, and what it hands back -/
  Phi : Nat → FnR
  con : Nat → Option D
  fuel : Nat

/-! ### frames -/
/-- an operand: a value, or the name of a slot (read when it is used) -/
inductive Op where
  | val (d : D) | ref (i : Nat)
def Slot.rd : Slot → Option D
  | .fz d | .ow d | .hd d => some d
  | _ => none
def Op.rd (S : Fr) : Op → Option D
  | .val d => some d
  | .ref i => (S.at i).rd
/-- a name's value, to be kept: a list of one's own is never changed from here on -/
def getV (i : Nat) : M D := fun S => match S.at i with
  | .fz d => some (.ok d, S)
  | .ow d => some (.ok d, S.set i (.fz d))
  | _ => none
def rds (S : Fr) : List Op → Option (List D)
  | [] => some []
  | o :: r => match o.rd S, rds S r with
    | some d, some ds => some (d :: ds)
    | _, _ => none
def useOs {α : Type} (os : List Op) (f : List D → Option α) : M α := fun S => match rds S os with
  | none => none
  | some ds => match f ds with
    | none => none
    | some a => some (.ok a, S)
/-- an argument: a value; a slot of one's own; a new list -/
inductive Ag where
  | v (d : D) | io (i : Nat) | tmp (d : D)
def Ag.rd (S : Fr) : Ag → Option D
  | .v d => some d
  | .tmp d => some d
  | .io i => match S.at i with
    | .ow d => some d
    | _ => none
def agRds (S : Fr) : List Ag → Option (List D)
  | [] => some []
  | o :: r => match o.rd S, agRds S r with
    | some d, some ds => some (d :: ds)
    | _, _ => none
/-- the slots that are lent -/
def agIos : List Ag → List Nat
  | [] => []
  | .io i :: r => i :: agIos r
  | _ :: r => agIos r
/-- behind the call: outs, one for each argument that may be changed -/
def agBack : List Ag → List D → Fr → Option Fr
  | [], [], S => some S
  | .v _ :: r, outs, S => agBack r outs S
  | .tmp _ :: r, _ :: outs, S => agBack r outs S
  | .io i :: r, d :: outs, S => agBack r outs (S.set i (.ow d))
  | _, _, _ => none
def callF (Phi : FnR) (ags : List Ag) : M (D × Bool) := fun S => match agRds S ags with
  | none => none
  | some ds => if (agIos ags).Nodup then
      match Phi ds with
      | none => none
      | some (outs, r) => match agBack ags outs S with
        | none => none
        | some S' => some (r, S')
    else none
/-- C(..): __init__ changes the new object alone -/
def makeF (Phi : FnR) (C : Nat) (ags : List Ag) : M (D × Bool) := fun S => match agRds S ags with
  | none => none
  | some ds => if (agIos ags).Nodup then
      match Phi (.ins C [] :: ds) with
      | some (o :: outs, .ok (.non, _)) => match agBack ags outs S with
        | none => none
        | some S' => some (.ok (o, true), S')
      | some (_ :: outs, .error e) => match agBack ags outs S with
        | none => none
        | some S' => some (.error e, S')
      | _ => none
    else none
def asgT : CT → D → Fr → Option Fr
  | .nm i, d, S => if i < S.length then some (S.set i (.fz d)) else none
  | .tp ts, .tup ds, S => go ts ds S
  | _, _, _ => none
where go : List CT → List D → Fr → Option Fr
  | [], [], S => some S
  | t :: ts, d :: ds, S => match asgT t d S with
    | none => none
    | some S' => go ts ds S'
  | _, _, _ => none
def wipeS (S : Fr) : List Nat → Fr
  | [] => S
  | v :: vs => (wipeS S vs).set v .no
/-- slots that a comprehension may take for its own -/
def freeS (S : Fr) (own : List Nat) : Bool := own.all fun i => match S.at i with
  | .no | .fz _ => true
  | _ => false
def restS (S0 S : Fr) : List Nat → Fr
  | [] => S
  | v :: vs => (restS S0 S vs).set v (S0.at v)

def rangeD (lo : Int) (n : Nat) : List D := (List.range n).map fun (k : Nat) => D.int (lo + (k : Int))
/-- what is walked; a slot that is hidden meanwhile -/
def itemsOf (k : IK) (os : List Op) : M (List D × Option Nat) := fun S => match k, os with
  | .seq, [o] => match o with
    | .val (.lst ds) => some (.ok (ds, none), S)
    | .val (.tup ds) => some (.ok (ds, none), S)
    | .ref i => match S.at i with
      | .fz (.lst ds) => some (.ok (ds, none), S)
      | .fz (.tup ds) => some (.ok (ds, none), S)
      | .hd (.lst ds) => some (.ok (ds, none), S)
      | .ow (.lst ds) => some (.ok (ds, some i), S.set i (.hd (.lst ds)))
      | _ => none
    | _ => none
  | .rng1, [o] => match o.rd S with
    | some (.int n) => if -(2 ^ 62) ≤ n ∧ n < 2 ^ 62 then some (.ok (rangeD 0 n.toNat, none), S) else none
    | _ => none
  | .rng2, [o, o'] => match o.rd S, o'.rd S with
    | some (.int a), some (.int b) => if -(2 ^ 62) ≤ a ∧ a < 2 ^ 62 ∧ -(2 ^ 62) ≤ b ∧ b < 2 ^ 62 then some (.ok (rangeD a (b - a).toNat, none), S) else none
    | _, _ => none
  | _, _ => none
def unhide : Option Nat → Fr → Fr
  | none, S => S
  | some i, S => match S.at i with
    | .hd d => S.set i (.ow d)
    | _ => S
def compLoop (asg : D → Fr → Option Fr) (test : M Bool) (elt : M D) : List D → M (List D)
  | [] => ret []
  | d :: ds => fun S => match asg d S with
    | none => none
    | some S1 => bnd test (fun b => if b then bnd elt (fun y => bnd (compLoop asg test elt ds) fun ys => if ys.length < 1000000 then ret (y :: ys) else stuck) else compLoop asg test elt ds) S1
/-- an operand, of its form and its value -/
def opd (e : CE) (r : M (D × Bool)) : M Op := match e with
  | .var i => fun S => match S.at i with
      | .no => none
      | _ => some (.ok (.ref i), S)
  | _ => bnd r fun p => ret (.val p.1)
/-- an argument, of whether it may be changed, its form and its value -/
def agd (fl : Bool) (e : CE) (r : M (D × Bool)) : M Ag := if fl then
    match e with
    | .var i => fun S => match S.at i with
      | .ow _ => some (.ok (.io i), S)
      | _ => none
    | _ => bnd r fun p => if p.2 then ret (.tmp p.1) else stuck
  else bnd r fun p => ret (.v p.1)
def asBl : D × Bool → M Bool
  | (.bl b, _) => ret b
  | _ => stuck
def asInt : D × Bool → M Int
  | (.int b, _) => ret b
  | _ => stuck

/-- the method of an object -/
def recv (G : Gam) (m : Str) (x : Op) : M Nat := fun S => match x.rd S with
  | some (.ins C fs) => if fs.lookup m = none then
      match G.mth C m with
      | some f => some (.ok f, S)
      | none => none
    else none
  | _ => none
def recvO (G : Gam) (m : Str) (y x : Op) : M Nat := fun S => match x.rd S, y.rd S with
  | some (.ins C _), some d => match G.mth C m with
    | some f => if (opIsi G.toSg (.own C) d).isSome then some (.ok f, S) else none
    | none => none
  | _, _ => none
def frz : Op → M D
  | .val d => ret d
  | .ref i => getV i
def eqC (G : Gam) (f : Nat) (x y : Op) : M (D × Bool) := if (G.io f).all (fun b => !b) then bnd (frz x) fun dx => bnd (frz y) fun dy => bnd (sure (callF (G.Phi f) [.v dx, .v dy])) fun p => bnd (asBl p) fun k => ret (.bl k, false) else stuck
def lenC (G : Gam) (f : Nat) (x : Op) : M (D × Bool) := if (G.io f).all (fun b => !b) then bnd (frz x) fun dx => bnd (sure (callF (G.Phi f) [.v dx])) fun p => bnd (asInt p) fun n => if 0 ≤ n ∧ n < 2 ^ 63 then ret (.int n, false) else stuck else stuck
def methC (G : Gam) (f : Nat) (x : Op) (ags : List Ag) : M (D × Bool) := match x with
  | .ref i => if (G.io f).headD false then callF (G.Phi f) (.io i :: ags) else bnd (getV i) fun d => callF (G.Phi f) (.v d :: ags)
  | .val d => if (G.io f).headD false then stuck else callF (G.Phi f) (.v d :: ags)
def op2 {α : Type} (f : D → D → Option α) : List D → Option α
  | [u, v] => f u v
  | _ => none
def op1 {α : Type} (f : D → Option α) : List D → Option α
  | [u] => f u
  | _ => none
def plainR {α : Type} (g : α → D) (x : Option α) : Option (D × Bool) := x.map fun a => (g a, false)
def isLst (x : Op) : M Unit := fun S => match x.rd S with
  | some (.lst _) => some (.ok (), S)
  | _ => none
def indexD : D → D → Option Int
  | .lst xs, v => opIndex xs v
  | _, _ => none
def compF (t : CT) (own : List Nat) (test : M Bool) (elt : M (D × Bool)) (p : List D × Option Nat) : M (D × Bool) := fun S =>
  if freeS S own then
    match compLoop (fun d S => asgT t d (wipeS S own)) (sure test) (sure (bnd elt fun q => ret q.1)) p.1 S with
    | some (.ok ys, S') => some (.ok (.lst ys, true), unhide p.2 (restS S S' own))
    | _ => none
  else none

mutual
def evE (G : Gam) : CE → M (D × Bool)
  | .var i => bnd (getV i) fun d => ret (d, false)
  | .lit d => ret (d, false)
  | .con x => bnd (opt (G.con x)) fun d => ret (d, false)
  | .bin op a b => bnd (opd a (evE G a)) fun x => bnd (opd b (evE G b)) fun y => useOs [x, y] (op2 (opBin op))
  | .neg a => bnd (evE G a) fun p => bnd (asInt p) fun i => ret (.int (-i), false)
  | .not a => bnd (evE G a) fun p => bnd (asBl p) fun b => ret (.bl (!b), false)
  | .cmp op a b => bnd (opd a (evE G a)) fun x => bnd (opd b (evE G b)) fun y => useOs [x, y] (op2 fun u v => plainR .bl (opCmp op u v))
  | .cmp2 op op' a b c => bnd (opd a (evE G a)) fun x => bnd (opd b (evE G b)) fun y => bnd (useOs [x, y] (op2 (opCmp op))) fun k =>
      if k then bnd (opd c (evE G c)) fun z => useOs [y, z] (op2 fun u v => plainR .bl (opCmp op' u v)) else ret (.bl false, false)
  | .and a b => bnd (evE G a) fun p => bnd (asBl p) fun k => if k then bnd (evE G b) fun q => bnd (asBl q) fun k => ret (.bl k, false) else ret (.bl false, false)
  | .or a b => bnd (evE G a) fun p => bnd (asBl p) fun k => if k then ret (.bl true, false) else bnd (evE G b) fun q => bnd (asBl q) fun k => ret (.bl k, false)
  | .ite c a b => bnd (evE G c) fun p => bnd (asBl p) fun k => if k then evE G a else evE G b
  | .tup es => bnd (evVs G es) fun ds => if ds.length ≤ most then ret (.tup ds, false) else stuck
  | .lst es => bnd (evVs G es) fun ds => if ds.length ≤ most then ret (.lst ds, true) else stuck
  | .idx a b => bnd (opd a (evE G a)) fun x => bnd (opd b (evE G b)) fun y => useOs [x, y] (op2 fun u v => plainR id (opIdx u v))
  | .sl a lo hi => bnd (opd a (evE G a)) fun x => bnd (evP G lo) fun l => bnd (evP G hi) fun h => useOs [x] (op1 fun u => opSl u l h)
  | .att a f => bnd (opd a (evE G a)) fun x => useOs [x] (op1 fun u => plainR id (opAtt G.toSg u f))
  | .exv i f => fun S => match S.at i with
    | .ex C fs => if G.exf C = some f then
        match fs.lookup f with
        | some d => some (.ok (d, false), S)
        | none => none
      else none
    | _ => none
  | .call f es => bnd (evAs G (G.io f) es) fun ags => callF (G.Phi f) ags
  | .make C es => match G.init C with
      | none => stuck
      | some f => bnd (evAs G (G.io f).tail es) fun ags => makeF (G.Phi f) C ags
  | .meth o m es => bnd (opd o (evE G o)) fun x => bnd (recv G m x) fun f => bnd (evAs G [] es) fun ags => methC G f x ags
  | .blt b es => bnd (evOs G es) fun os => useOs os (opBlt b)
  | .isi a t => bnd (opd a (evE G a)) fun x => useOs [x] (op1 fun u => plainR .bl (opIsi G.toSg t u))
  | .mkE C e => bnd (evE G e) fun p => match G.exf C with
      | some f => ret (.err C [(f, p.1)], false)
      | none => stuck
  | .attE a f => bnd (opd a (evE G a)) fun x => useOs [x] (op1 fun u => plainR id (opAttE G.toSg u f))
  | .isiE a t => bnd (opd a (evE G a)) fun x => useOs [x] (op1 fun u => plainR .bl (opIsiE G.toSg t u))
  | .index o a => bnd (opd o (evE G o)) fun x => bnd (isLst x) fun _ => bnd (opd a (evE G a)) fun y => useOs [x, y] (op2 fun u v => plainR .int (indexD u v))
  | .oeq a b => bnd (opd a (evE G a)) fun x => bnd (opd b (evE G b)) fun y => bnd (recvO G "__eq__" y x) fun f => eqC G f x y
  | .olen a => bnd (opd a (evE G a)) fun x => bnd (recv G "__len__" x) fun f => lenC G f x
  | .comp e t k it ifs own => bnd (evOs G it) fun os => bnd (itemsOf k os) fun p => compF t own (evT G ifs) (evE G e) p
def evOs (G : Gam) : List CE → M (List Op)
  | [] => ret []
  | e :: es => bnd (opd e (evE G e)) fun x => bnd (evOs G es) fun xs => ret (x :: xs)
def evVs (G : Gam) : List CE → M (List D)
  | [] => ret []
  | e :: es => bnd (evE G e) fun x => bnd (evVs G es) fun xs => ret (x.1 :: xs)
def evP (G : Gam) : Option CE → M (Option Int)
  | none => ret none
  | some e => bnd (evE G e) fun p => bnd (asInt p) fun i => ret (some i)
def evT (G : Gam) : List CE → M Bool
  | [] => ret true
  | e :: es => bnd (evE G e) fun p => bnd (asBl p) fun k => if k then evT G es else ret false
def evAs (G : Gam) : List Bool → List CE → M (List Ag)
  | _, [] => ret []
  | fl, e :: es => bnd (agd (fl.headD false) e (evE G e)) fun x => bnd (evAs G fl.tail es) fun xs => ret (x :: xs)
end
/-- an operand -/
abbrev evO (G : Gam) (e : CE) : M Op := opd e (evE G e)

/-! ### statements -/
inductive Flw where
  | nx | rt (d : D) (fresh : Bool) | bk | ct
def forLoop (asg : D → Fr → Option Fr) (body : M Flw) : List D → M Flw
  | [] => ret .nx
  | d :: ds => fun S => match asg d S with
    | none => none
    | some S1 => bnd body (fun
      | .nx => forLoop asg body ds
      | .ct => forLoop asg body ds
      | .bk => ret .nx
      | .rt d f => ret (.rt d f)) S1
/-- the loop; the slot that was hidden is back -/
def forF (t : CT) (body : M Flw) (p : List D × Option Nat) : M Flw := fun S => match forLoop (asgT t) body p.1 S with
  | none => none
  | some (r, S') => some (r, unhide p.2 S')
def whileLoop (test : M Bool) (body : M Flw) : Nat → M Flw
  | 0 => stuck
  | n + 1 => bnd test fun b => if b then bnd body (fun
      | .nx => whileLoop test body n
      | .ct => whileLoop test body n
      | .bk => ret .nx
      | .rt d f => ret (.rt d f)) else ret .nx
/-- x = e: a new list or object is the frame's own -/
def setV (i : Nat) (p : D × Bool) : M Flw := fun S => if i < S.length then
    some (.ok .nx, S.set i (if p.2 then .ow p.1 else .fz p.1)) else none
def asgS (t : CT) (p : D × Bool) : M Flw := match t with
  | .nm i => setV i p
  | t => fun S => match asgT t p.1 S with
    | none => none
    | some S' => some (.ok .nx, S')
/-- slot i has a list of one's own -/
def ownS (i : Nat) : M Unit := fun S => match S.at i with
  | .ow (.lst _) => some (.ok (), S)
  | _ => none
def setiS (i : Nat) (v : D) (k : Int) : M Flw := fun S => match S.at i with
  | .ow (.lst xs) => match ixN xs.length k with
    | some j => some (.ok .nx, S.set i (.ow (.lst (xs.set j v))))
    | none => none
  | _ => none
def setfS (g : Sg) (i : Nat) (f : Str) (v : D) : M Flw := fun S => match S.at i with
  | .ow (.ins C fs) => if fs.length < 1000 ∧ C ∈ g.ids ∧ f ∈ g.flds C then some (.ok .nx, S.set i (.ow (.ins C (putD f v fs)))) else none
  | _ => none
def appS (i : Nat) (v : D) : M Flw := fun S => match S.at i with
  | .ow (.lst xs) => if xs.length < most then some (.ok .nx, S.set i (.ow (.lst (xs ++ [v])))) else none
  | _ => none
def retS (e : CE) (r : M (D × Bool)) : M Flw := match e with
  | .var i => fun S => match S.at i with
    | .ow d => some (.ok (.rt d true), S.set i .no)
    | .fz d => some (.ok (.rt d false), S)
    | _ => none
  | _ => bnd r fun p => ret (.rt p.1 p.2)
def raiseS (G : Gam) (C : Nat) (ds : List D) : M Flw := fun S => match G.exf C, ds with
  | some f, [d] => some (.error ⟨C, [(f, d)]⟩, S)
  | _, _ => none
def parS : List Nat → List D → M Flw
  | [], [] => ret .nx
  | i :: is, d :: ds => fun S => if i < S.length then parS is ds (S.set i (.fz d)) else none
  | _, _ => stuck
def seqS (a b : M Flw) : M Flw := bnd a fun
  | .nx => b
  | f => ret f
/-- behind an except suite -/
def Slot.calm : Slot → Slot
  | .ex _ _ => .no
  | s => s
def offX (i : Nat) (S : Fr) : Fr := (S.map Slot.calm).set i .no
mutual
def evS (G : Gam) : CS → M Flw
  | .asg t e => bnd (evE G e) (asgS t)
  | .seti i k v => bnd (evE G v) fun p => bnd (ownS i) fun _ => bnd (evE G k) fun q => bnd (asInt q) fun j => setiS i p.1 j
  | .setf i f e => bnd (evE G e) fun p => setfS G.toSg i f p.1
  | .ex e => bnd (evE G e) fun _ => ret .nx
  | .app i e => bnd (ownS i) fun _ => bnd (evE G e) fun p => appS i p.1
  | .ret e => retS e (evE G e)
  | .retN => ret (.rt .non false)
  | .pass => ret .nx
  | .brk => ret .bk
  | .cont => ret .ct
  | .ite c a b => bnd (evE G c) fun p => bnd (asBl p) fun k => if k then evB G a else evB G b
  | .for t k it body => bnd (evOs G it) fun os => bnd (itemsOf k os) fun p => forF t (evB G body) p
  | .whl c body => whileLoop (bnd (evE G c) asBl) (evB G body) G.fuel
  | .rse C es => bnd (evVs G es) fun ds => raiseS G C ds
  | .par is es => bnd (evVs G es) fun ds => parS is ds
  | .try body hs => fun S => match evB G body S with
    | some (.error e, S') => evH G e hs S'
    | r => r
def evB (G : Gam) : List CS → M Flw
  | [] => ret .nx
  | s :: r => seqS (evS G s) (evB G r)
def evH (G : Gam) (e : Err) : List (Nat × Nat × List CS) → M Flw
  | [] => fun S => some (.error e, S)
  | ⟨C, i, b⟩ :: r => if (G.exf e.C).isSome then if C = e.C then fun S => if i < S.length then
      match evB G b (S.set i (.ex e.C e.fs)) with
      | some (.ok f, S') => some (.ok f, offX i S')
      | _ => none
    else none else evH G e r else stuck
end
/-- a call's frame: its parameters, then the other names -/
def startS (io : List Bool) (n : Nat) (ds : List D) : Fr :=
  (List.zipWith (fun b d => if b then Slot.ow d else Slot.fz d) (io ++ List.replicate (ds.length - io.length) false) ds) ++ List.replicate (n - ds.length) Slot.no
/-- what the parameters that may be changed hold behind it -/
def outsS : List Bool → Nat → Fr → Option (List D)
  | [], _, _ => some []
  | false :: r, i, S => outsS r (i + 1) S
  | true :: r, i, S => match S.at i, outsS r (i + 1) S with
    | .ow d, some ds => some (d :: ds)
    | _, _ => none
/-- a def's body run: n names, io the parameters that it may change -/
def runF (G : Gam) (io : List Bool) (n : Nat) (body : List CS) : FnR := fun ds => match evB G body (startS io n ds) with
  | some (.ok .nx, S) => (outsS io 0 S).map fun o => (o, .ok (.non, false))
  | some (.ok (.rt d f), S) => (outsS io 0 S).map fun o => (o, .ok (d, f))
  | some (.error e, S) => (outsS io 0 S).map fun o => (o, .error e)
  | _ => none
end Ev
end

section
set_option maxRecDepth 100000
set_option maxHeartbeats 4000000
namespace Ev
open PySem
theorem bnd_some {α β : Type} {x : M α} {f : α → M β} {S S1 : Fr} {a : α} (h : x S = some (.ok a, S1)) : bnd x f S = f a S1 := by unfold bnd; rw [h]
theorem sure_ok {α : Type} {x : M α} {S S1 : Fr} {a : α} (h : x S = some (.ok a, S1)) : sure x S = some (.ok a, S1) := by unfold sure; rw [h]
/-- a comprehension over one name whose element is a plain function -/
theorem compLoop_map {i : Nat} {elt : M D} {S : Fr} {f : D → D} (hi : i < S.length) : ∀ (ds : List D) (s : Slot), ds.length ≤ 1000000 → (∀ d ∈ ds, elt (S.set i (.fz d)) = some (.ok (f d), S.set i (.fz d))) →
    ∃ s', compLoop (fun d S => asgT (.nm i) d (wipeS S [i])) (sure (ret true)) (sure elt) ds (S.set i s) = some (.ok (ds.map f), S.set i s')
  | [], s, _, _ => ⟨s, rfl⟩
  | d :: ds, s, hl, h => by
    have hl' : ds.length + 1 ≤ 1000000 := hl
    obtain ⟨s', ih⟩ := compLoop_map hi ds (.fz d) (by omega) fun x hx => h x (List.mem_cons_of_mem _ hx)
    refine ⟨s', ?_⟩
    have e1 : asgT (.nm i) d (wipeS (S.set i s) [i]) = some (S.set i (.fz d)) := by
      show (if i < ((S.set i s).set i .no).length then some (((S.set i s).set i .no).set i (.fz d)) else none) = _
      rw [if_pos (by simpa using hi)]
      simp [List.set_set]
    show (match asgT (.nm i) d (wipeS (S.set i s) [i]) with | none => none | some S1 => _) = _
    rw [e1]
    show bnd (sure (ret true)) _ (S.set i (.fz d)) = _
    rw [bnd_some (x := sure (ret true)) (sure_ok (x := ret true) rfl), if_pos rfl, bnd_some (sure_ok (h d List.mem_cons_self)), bnd_some ih]
    rw [if_pos (by rw [List.length_map]; omega)]
    rfl
theorem compF_map {i : Nat} {elt : M (D × Bool)} {S : Fr} {f : D → D} {g : D → Bool} {ds : List D} (hi : i < S.length) (hf : S.at i = .no ∨ ∃ d, S.at i = .fz d) (hl : ds.length ≤ 1000000) (h : ∀ d ∈ ds, elt (S.set i (.fz d)) = some (.ok (f d, g d), S.set i (.fz d))) :
    compF (.nm i) [i] (ret true) elt (ds, none) S = some (.ok (.lst (ds.map f), true), S) := by
  have fr : freeS S [i] = true := by
    unfold freeS
    simp only [List.all_cons, List.all_nil, Bool.and_true]
    rcases hf with e | ⟨d, e⟩ <;> rw [e]
  have self : S.set i (S.at i) = S := by
    apply List.ext_getElem?
    intro j
    rw [List.getElem?_set]
    split
    · rename_i e
      subst e
      unfold Fr.at
      first
        | (rw [if_pos hi, List.getElem?_eq_getElem hi]; rfl)
        | (rw [List.getElem?_eq_getElem hi]; rfl)
    · rfl
  obtain ⟨s', e⟩ := compLoop_map (elt := bnd elt fun q => ret q.1) hi ds (S.at i) hl fun d hd => by rw [bnd_some (h d hd)]; rfl
  rw [self] at e
  unfold compF
  rw [if_pos fr]
  dsimp only
  rw [e]
  show some (Except.ok (D.lst (ds.map f), true), unhide none (restS S (S.set i s') [i])) = _
  have : restS S (S.set i s') [i] = S := by
    show (S.set i s').set i (S.at i) = S
    rw [List.set_set]; exact self
  rw [this]
  rfl
section
variable {G : Gam}
theorem evE_var {i : Nat} : evE G (.var i) = bnd (getV i) fun d => ret (d, false) := rfl
theorem evE_lit {d : D} : evE G (.lit d) = ret (d, false) := rfl
theorem evE_con {x : Nat} : evE G (.con x) = bnd (opt (G.con x)) fun d => ret (d, false) := rfl
theorem evE_bin {op : Operator} {a b : CE} : evE G (.bin op a b) = bnd (opd a (evE G a)) fun x => bnd (opd b (evE G b)) fun y => useOs [x, y] (op2 (opBin op)) := rfl
theorem evE_neg {a : CE} : evE G (.neg a) = bnd (evE G a) fun p => bnd (asInt p) fun i => ret (.int (-i), false) := rfl
theorem evE_not {a : CE} : evE G (.not a) = bnd (evE G a) fun p => bnd (asBl p) fun b => ret (.bl (!b), false) := rfl
theorem evE_cmp {op : CmpOp} {a b : CE} : evE G (.cmp op a b) = bnd (opd a (evE G a)) fun x => bnd (opd b (evE G b)) fun y => useOs [x, y] (op2 fun u v => plainR .bl (opCmp op u v)) := rfl
theorem evE_cmp2 {op op' : CmpOp} {a b c : CE} : evE G (.cmp2 op op' a b c) = bnd (opd a (evE G a)) fun x => bnd (opd b (evE G b)) fun y => bnd (useOs [x, y] (op2 (opCmp op))) fun k =>
      if k then bnd (opd c (evE G c)) fun z => useOs [y, z] (op2 fun u v => plainR .bl (opCmp op' u v)) else ret (.bl false, false) := rfl
theorem evE_and {a b : CE} : evE G (.and a b) = bnd (evE G a) fun p => bnd (asBl p) fun k => if k then bnd (evE G b) fun q => bnd (asBl q) fun k => ret (.bl k, false) else ret (.bl false, false) := rfl
theorem evE_or {a b : CE} : evE G (.or a b) = bnd (evE G a) fun p => bnd (asBl p) fun k => if k then ret (.bl true, false) else bnd (evE G b) fun q => bnd (asBl q) fun k => ret (.bl k, false) := rfl
theorem evE_ite {c a b : CE} : evE G (.ite c a b) = bnd (evE G c) fun p => bnd (asBl p) fun k => if k then evE G a else evE G b := rfl
theorem evE_tup {es : List CE} : evE G (.tup es) = bnd (evVs G es) fun ds => if ds.length ≤ most then ret (.tup ds, false) else stuck := rfl
theorem evE_lst {es : List CE} : evE G (.lst es) = bnd (evVs G es) fun ds => if ds.length ≤ most then ret (.lst ds, true) else stuck := rfl
theorem evE_idx {a b : CE} : evE G (.idx a b) = bnd (opd a (evE G a)) fun x => bnd (opd b (evE G b)) fun y => useOs [x, y] (op2 fun u v => plainR id (opIdx u v)) := rfl
theorem evE_sl {a : CE} {lo hi : Option CE} : evE G (.sl a lo hi) = bnd (opd a (evE G a)) fun x => bnd (evP G lo) fun l => bnd (evP G hi) fun h => useOs [x] (op1 fun u => opSl u l h) := rfl
theorem evE_att {a : CE} {f : Str} : evE G (.att a f) = bnd (opd a (evE G a)) fun x => useOs [x] (op1 fun u => plainR id (opAtt G.toSg u f)) := rfl
theorem evE_call {f : Nat} {es : List CE} : evE G (.call f es) = bnd (evAs G (G.io f) es) fun ags => callF (G.Phi f) ags := rfl
theorem evE_make {C : Nat} {es : List CE} : evE G (.make C es) = match G.init C with
      | none => stuck
      | some f => bnd (evAs G (G.io f).tail es) fun ags => makeF (G.Phi f) C ags := rfl
theorem evE_meth {o : CE} {m : Str} {es : List CE} : evE G (.meth o m es) = bnd (opd o (evE G o)) fun x => bnd (recv G m x) fun f => bnd (evAs G [] es) fun ags => methC G f x ags := rfl
theorem evE_blt {b : Blt} {es : List CE} : evE G (.blt b es) = bnd (evOs G es) fun os => useOs os (opBlt b) := rfl
theorem evE_isi {a : CE} {t : Ty} : evE G (.isi a t) = bnd (opd a (evE G a)) fun x => useOs [x] (op1 fun u => plainR .bl (opIsi G.toSg t u)) := rfl
theorem evE_oeq {a b : CE} : evE G (.oeq a b) = bnd (opd a (evE G a)) fun x => bnd (opd b (evE G b)) fun y => bnd (recvO G "__eq__" y x) fun f => eqC G f x y := rfl
theorem evE_olen {a : CE} : evE G (.olen a) = bnd (opd a (evE G a)) fun x => bnd (recv G "__len__" x) fun f => lenC G f x := rfl
/-- [e for i in j], j a tuple or a list that is never changed -/
theorem comp_seq {e : CE} {i j : Nat} {S : Fr} {f : D → D} {g : D → Bool} {ds : List D} (hj : S.at j = .fz (.tup ds) ∨ S.at j = .fz (.lst ds)) (hi : i < S.length) (hf : S.at i = .no ∨ ∃ d, S.at i = .fz d) (hl : ds.length ≤ 1000000)
    (h : ∀ d ∈ ds, evE G e (S.set i (.fz d)) = some (.ok (f d, g d), S.set i (.fz d))) : evE G (.comp e (.nm i) .seq [.var j] [] [i]) S = some (.ok (.lst (ds.map f), true), S) := by
  show bnd (evOs G [.var j]) (fun os => bnd (itemsOf .seq os) fun p => compF (.nm i) [i] (evT G []) (evE G e) p) S = _
  have e1 : evOs G [.var j] S = some (.ok [.ref j], S) := by
    show bnd (opd (.var j) (evE G (.var j))) (fun x => bnd (ret []) fun xs => ret (x :: xs)) S = _
    have : opd (.var j) (evE G (.var j)) S = some (.ok (.ref j), S) := by
      unfold opd
      dsimp only
      rcases hj with z | z <;> rw [z]
    rw [bnd_some this]; rfl
  rw [bnd_some e1]
  have e2 : itemsOf .seq [.ref j] S = some (.ok (ds, none), S) := by
    unfold itemsOf
    dsimp only
    rcases hj with z | z <;> rw [z]
  rw [bnd_some e2]
  exact compF_map (g := g) hi hf hl h
end
end Ev
end

section
set_option maxRecDepth 100000
set_option maxHeartbeats 2000000
namespace Ev
open PySem PySem.Spec PyProof.Rows L2

/-- the ground of a run: the heap at its start, what may be written, what is hidden, the caught errors (address, class, own dict) -/
structure Bs where
  H0 : Hp
  Wr : Addr → Prop
  Hd : Nat → Option Addr
  Ex : Addr → Nat → Addr → Prop
  /-- what others may change -/
  Mc : Addr → Prop
structure Bs.Ok (B : Bs) : Prop where
  fresh : ∀ p, B.H0 p = none → B.Wr p
  mc : ∀ a, B.Mc a → ¬ B.Wr a
  hid : ∀ i a, B.Hd i = some a → ¬ B.Wr a

section
variable (K : PySem.W.Frag) (ca : Nat → Addr)
inductive Cont (M : Mset) (H : Hp) (a : Addr) : D → Prop
  | lst {xs : List V} {ds : List D} : H a = some (.lst xs) → Dps K ca M H xs ds → Cont M H a (.lst ds)
  | ins {dx : Addr} {C : Nat} {gs : List (Str × V)} {fs : List (Str × D)} : H a = some (.ins (ca C) dx gs) → Dpf K ca M H gs fs → Cont M H a (.ins C fs)
def SlotOk (B : Bs) (M : Mset) (H : Hp) (i : Nat) (x : Option (Option V)) : Slot → Prop
  | .no => True
  | .fz d => ∃ v, x = some (some v) ∧ Dp K ca M H v d
  | .ow d => ∃ a, x = some (some (.ref a)) ∧ M a ∧ B.Wr a ∧ Cont K ca M H a d
  | .hd d => ∃ a, x = some (some (.ref a)) ∧ M a ∧ B.Hd i = some a ∧ Cont K ca M H a d
  | .ex C fs => ∃ a dd gs, x = some (some (.ref a)) ∧ B.Ex a C dd ∧ H dd = some (.xd gs) ∧ ¬ M dd ∧ Dpf K ca M H gs fs
def Slot.own : Slot → Bool
  | .ow _ | .hd _ => true
  | _ => false
structure Rep (B : Bs) (M : Mset) (H : Hp) (σ : L2.St) (S : Fr) : Prop where
  len : S.length = σ.length
  slot : ∀ i, SlotOk K ca B M H i σ[i]? (S.at i)
  dist : ∀ i j a, i ≠ j → (S.at i).own = true → (S.at j).own = true → σ[i]? = some (some (.ref a)) → σ[j]? = some (some (.ref a)) → False
  pres : ∀ a o, B.H0 a = some o → ¬ B.Wr a → H a = some o
  keep : ∀ a, H a = none → B.H0 a = none
  mt : ∀ a, M a → H a ≠ none
  mc : ∀ a, B.Mc a → M a
/-- a raised error's class and own dict -/
def ErrOk (M : Mset) (H : Hp) (e : Err) (cls : Value) (dd : Option Addr) : Prop :=
  cls = .ref (ca e.C) ∧ ∃ a gs, dd = some a ∧ H a = some (.xd gs) ∧ ¬ M a ∧ Dpf K ca M H gs e.fs
/-- what is handed back -/
def ResOk (B : Bs) (σ : L2.St) (S : Fr) (M : Mset) (H : Hp) (r : D × Bool) (v : V) : Prop :=
  if r.2 then ∃ p, v = .ref p ∧ M p ∧ B.Wr p ∧ Cont K ca M H p r.1 ∧ ∀ i, (S.at i).own = true → σ[i]? ≠ some (some (.ref p)) else Dp K ca M H v r.1
def OpOk (B : Bs) (σ : L2.St) (S : Fr) (M : Mset) (H : Hp) (o : Op) (v : V) : Prop := match o with
  | .val d => Dp K ca M H v d
  | .ref i => σ[i]? = some (some v)
abbrev Ok (α β : Type) := Bs → L2.St → Fr → Mset → Hp → α → β → Prop
variable {α β γ δ : Type}
def Run (ok : Ok α β) (W : WX) (m : M α) (B : Bs) (M : Mset) (S : Fr) (σ : L2.St) (H : Hp) (Q : β → Hp → Prop) : Prop :=
  B.Ok ∧ Rep K ca B M H σ S ∧ match m S with
    | none => False
    | some (.ok a, S') => ∀ b M' H', Rep K ca B M' H' σ S' → Stp M H M' H' → ok B σ S' M' H' a b → Q b H'
    | some (.error e, S') => ∀ M' H' cls dd, Rep K ca B M' H' σ S' → Stp M H M' H' → ErrOk K ca M' H' e cls dd → W cls dd σ H'
def rdG (Ex : Addr → Nat → Addr → Prop) (ok : Ok α β) (W : WX) (m : M α) : L2.St → Hp → (β → Hp → Prop) → Prop := fun σ H Q => ∃ B M S, B.Ex = Ex ∧ Run K ca ok W m B M S σ H Q
end

section
variable {K : PySem.W.Frag} {ca : Nat → Addr} {B : Bs} {M M' : Mset} {H H' : Hp} {σ : L2.St} {S S' : Fr}

def Al (H H' : Hp) : Prop := ∀ a o, H a = some o → H' a = some o
theorem Al.refl : Al H H := fun _ _ h => h
theorem Al.upd {p : Addr} {o : HO} (hp : H p = none) : Al H (upd H p o) := fun a u h => by rw [upd_ne (ne_of_none h hp)]; exact h
theorem Al.stp (h : Al H H') : Stp M H M H' := ⟨fun a o e _ => h a o e, fun _ z => .inl z⟩
theorem Cont.dr {a : Addr} {d : D} (h : Cont K ca M H a d) : Dr K ca M H (.ref a) d := by
  cases h with
  | lst a b => exact .lst a b
  | ins a b => exact .ins a b
theorem Cont.al {a : Addr} {d : D} (h : Cont K ca M H a d) (al : Al H H') (st : Stp M H M' H') : Cont K ca M' H' a d := by
  cases h with
  | lst a b => exact .lst (al _ _ a) (b.step st)
  | ins a b => exact .ins (al _ _ a) (b.step st)
theorem Cont.there {a : Addr} {d : D} (h : Cont K ca M H a d) : ∃ o, H a = some o := by
  cases h with
  | lst a b => exact ⟨_, a⟩
  | ins a b => exact ⟨_, a⟩
theorem Cont.dp {a : Addr} {d : D} (h : Cont K ca M H a d) (st : Stp M H M' H) (n : ¬ M' a) : Dp K ca M' H (.ref a) d := by
  cases h with
  | lst a b => exact .lst ⟨a, n⟩ (b.step st)
  | ins a b => exact .ins a n (b.step st)

theorem at_set (S : Fr) (i j : Nat) (s : Slot) : Fr.at (S.set i s) j = if j = i ∧ i < S.length then s else S.at j := by
  unfold Fr.at
  rw [List.getElem?_set]
  by_cases h : i = j
  · subst h
    by_cases hl : i < S.length
    · simp [hl]
    · simp [hl]
  · have h' : ¬ j = i := fun e => h e.symm
    simp [h, h']
theorem at_set_ne {S : Fr} {i j : Nat} {s : Slot} (h : j ≠ i) : Fr.at (S.set i s) j = S.at j := by
  rw [at_set]; simp [h]
theorem at_set_self {S : Fr} {i : Nat} {s : Slot} (h : i < S.length) : Fr.at (S.set i s) i = s := by
  rw [at_set]; simp [h]
theorem at_lt {S : Fr} {i : Nat} (h : S.at i ≠ .no) : i < S.length := by
  unfold Fr.at at h
  by_cases hl : i < S.length
  · exact hl
  · rw [List.getElem?_eq_none (by omega)] at h; exact absurd rfl h

/-- what a slot that is walked or owned says -/
theorem Rep.ownAt (R : Rep K ca B M H σ S) {i : Nat} (h : (S.at i).own = true) : ∃ a d, (S.at i).rd = some d ∧ σ[i]? = some (some (.ref a)) ∧ M a ∧ Cont K ca M H a d := by
  have q := R.slot i
  cases e : S.at i with
  | no => rw [e] at h; cases h
  | fz d => rw [e] at h; cases h
  | ex C fs => rw [e] at h; cases h
  | ow d => rw [e] at q; obtain ⟨a, x, m, _, c⟩ := q; exact ⟨a, d, rfl, x, m, c⟩
  | hd d => rw [e] at q; obtain ⟨a, x, m, _, c⟩ := q; exact ⟨a, d, rfl, x, m, c⟩
/-- the heap grows, more may change -/
theorem SlotOk.al {i : Nat} {x : Option (Option V)} {s : Slot} (h : SlotOk K ca B M H i x s) (al : Al H H') (st : Stp M H M' H') (m : ∀ a, x = some (some (.ref a)) → s.own = true → M a → M' a) : SlotOk K ca B M' H' i x s := by
  cases s with
  | no => trivial
  | fz d => obtain ⟨v, e, q⟩ := h; exact ⟨v, e, q.step st⟩
  | ow d => obtain ⟨a, e, q, w, c⟩ := h; exact ⟨a, e, m a e rfl q, w, c.al al st⟩
  | hd d => obtain ⟨a, e, q, w, c⟩ := h; exact ⟨a, e, m a e rfl q, w, c.al al st⟩
  | ex C fs =>
    obtain ⟨a, dd, gs, e, q, h1, n, c⟩ := h
    exact ⟨a, dd, gs, e, q, al _ _ h1, fun z => (st.grow _ z).elim n (fun e => by rw [h1] at e; cases e), c.step st⟩
theorem Rep.al (R : Rep K ca B M H σ S) (al : Al H H') (st : Stp M H M' H') (m : ∀ i a, (S.at i).own = true → σ[i]? = some (some (.ref a)) → M a → M' a) (mt : ∀ a, M' a → H' a ≠ none) (mc : ∀ a, B.Mc a → M' a) : Rep K ca B M' H' σ S where
  mt := mt
  mc := mc
  len := R.len
  slot := fun i => (R.slot i).al al st fun a e o => m i a o e
  dist := R.dist
  pres := fun a o h n => al a o (R.pres a o h n)
  keep := fun a h => R.keep a (by
    cases e : H a with
    | none => rfl
    | some o => rw [al a o e] at h; cases h)
theorem Al.mt (al : Al H H') (mt : ∀ a, M a → H a ≠ none) : ∀ a, M a → H' a ≠ none := fun a z e => by
  cases q : H a with
  | none => exact mt a z q
  | some o => rw [al a o q] at e; cases e
theorem Rep.al0 (R : Rep K ca B M H σ S) (al : Al H H') : Rep K ca B M H' σ S := R.al al al.stp (fun _ _ _ _ z => z) (al.mt R.mt) R.mc
theorem Rep.wr (R : Rep K ca B M H σ S) (b : B.Ok) {p : Addr} (h : H p = none) : B.Wr p := b.fresh p (R.keep p h)
/-- a fresh thing is never changed from here on -/
theorem ResOk.val (b : B.Ok) (R : Rep K ca B M H σ S) {r : D × Bool} {v : V} (h : ResOk K ca B σ S M H r v) : ∃ M', Rep K ca B M' H σ S ∧ Stp M H M' H ∧ Dp K ca M' H v r.1 := by
  unfold ResOk at h
  split at h
  · obtain ⟨p, rfl, hm, hw, c, hn⟩ := h
    have st : Stp M H (fun a => M a ∧ a ≠ p) H := Stp.less fun a z => z.1
    refine ⟨fun a => M a ∧ a ≠ p, R.al .refl st (fun i a ho e z => ⟨z, fun y => hn i ho (by rw [e, y])⟩) (fun a z => R.mt a z.1) (fun a z => ⟨R.mc a z, fun y => b.mc a z (by rw [y]; exact hw)⟩), st, c.dp st fun z => z.2 rfl⟩
  · exact ⟨M, R, Stp.refl, h⟩

variable {α β γ δ : Type} {ok : Ok α β} {okx : Ok γ δ} {W : WX} {Q : β → Hp → Prop}
theorem Run.bind {x : Ev.M γ} {f : γ → Ev.M α} {Q1 : δ → Hp → Prop} (h : Run K ca ok W (bnd x f) B M S σ H Q)
    (k : ∀ a S1 b M1 H1, Rep K ca B M1 H1 σ S1 → Stp M H M1 H1 → okx B σ S1 M1 H1 a b → Run K ca ok W (f a) B M1 S1 σ H1 Q → Q1 b H1) : Run K ca okx W x B M S σ H Q1 := by
  obtain ⟨b, R, q⟩ := h
  refine ⟨b, R, ?_⟩
  unfold bnd at q
  cases e : x S with
  | none => rw [e] at q; exact q
  | some p =>
    obtain ⟨r, S1⟩ := p
    rw [e] at q
    cases r with
    | error er => exact q
    | ok a =>
      refine fun y M1 H1 R1 s1 o1 => k a S1 y M1 H1 R1 s1 o1 ⟨b, R1, ?_⟩
      dsimp only at q
      cases e2 : f a S1 with
      | none => rw [e2] at q; exact q
      | some p2 =>
        obtain ⟨r2, S2⟩ := p2
        rw [e2] at q
        cases r2 with
        | error er => exact fun M' H' cls dd R' s' => q M' H' cls dd R' (s1.trans s')
        | ok c => exact fun b' M' H' R' s' => q b' M' H' R' (s1.trans s')
theorem Run.ret {a : α} (h : Run K ca ok W (ret a) B M S σ H Q) {b : β} {M' : Mset} {H' : Hp} (R : Rep K ca B M' H' σ S) (st : Stp M H M' H') (o : ok B σ S M' H' a b) : Q b H' := h.2.2 b M' H' R st o
theorem Run.shift {m : Ev.M α} (h : Run K ca ok W m B M S σ H Q) {H' : Hp} (R : Rep K ca B M' H' σ S) (st : Stp M H M' H') : Run K ca ok W m B M' S σ H' Q := by
  obtain ⟨b, _, q⟩ := h
  refine ⟨b, R, ?_⟩
  cases e : m S with
  | none => rw [e] at q; exact q
  | some p =>
    obtain ⟨r, S1⟩ := p
    rw [e] at q
    cases r with
    | error er => exact fun M' H' cls dd R' s' => q M' H' cls dd R' (st.trans s')
    | ok a => exact fun b M' H' R' s' => q b M' H' R' (st.trans s')
theorem Run.opt {x : Option α} (h : Run K ca ok W (opt x) B M S σ H Q) : ∃ a, x = some a ∧ Run K ca ok W (Ev.ret a) B M S σ H Q := by
  cases x with
  | none => exact absurd h.2.2 (fun z => z)
  | some a => exact ⟨a, rfl, h⟩
theorem Run.stuck (h : Run K ca ok W Ev.stuck B M S σ H Q) : False := h.2.2

/-- what a rule of an operation gives: nothing changes, at most new things are laid -/
def Prim (K : PySem.W.Frag) (ca : Nat → Addr) (M : Mset) (H : Hp) (r : D × Bool) (Q : VK) : Prop :=
  (∀ a, M a → H a ≠ none) ∧ ∀ w H', Al H H' → (if r.2 then ∃ p, w = .ref p ∧ H p = none ∧ Cont K ca (fun a => M a ∨ a = p) H' p r.1 else Dp K ca M H' w r.1) → Q w H'
/-- the operands' data -/
inductive Drs (K : PySem.W.Frag) (ca : Nat → Addr) (M : Mset) (H : Hp) : List V → List D → Prop
  | nil : Drs K ca M H [] []
  | cons {v : V} {vs : List V} {d : D} {ds : List D} : Dr K ca M H v d → Drs K ca M H vs ds → Drs K ca M H (v :: vs) (d :: ds)
inductive OpsOk (K : PySem.W.Frag) (ca : Nat → Addr) (B : Bs) (σ : L2.St) (S : Fr) (M : Mset) (H : Hp) : List Op → List V → Prop
  | nil : OpsOk K ca B σ S M H [] []
  | cons {o : Op} {os : List Op} {v : V} {vs : List V} : OpOk K ca B σ S M H o v → OpsOk K ca B σ S M H os vs → OpsOk K ca B σ S M H (o :: os) (v :: vs)
theorem OpOk.step {o : Op} {v : V} {S' : Fr} (h : OpOk K ca B σ S M H o v) (st : Stp M H M' H') : OpOk K ca B σ S' M' H' o v := by
  cases o with
  | val d => exact Dp.step st h
  | ref i => exact h
theorem OpsOk.step {S' : Fr} (st : Stp M H M' H') : ∀ {os : List Op} {vs : List V}, OpsOk K ca B σ S M H os vs → OpsOk K ca B σ S' M' H' os vs
  | _, _, .nil => .nil
  | _, _, .cons a b => .cons (a.step st) (OpsOk.step st b)
theorem OpOk.dr (R : Rep K ca B M H σ S) {o : Op} {v : V} {d : D} (h : OpOk K ca B σ S M H o v) (e : o.rd S = some d) : Dr K ca M H v d := by
  cases o with
  | val d' => cases e; exact .dp h
  | ref i =>
    have q := R.slot i
    have hs : σ[i]? = some (some v) := h
    have e' : (S.at i).rd = some d := e
    cases e2 : S.at i with
    | no => rw [e2] at e'; cases e'
    | ex C fs => rw [e2] at e'; cases e'
    | fz d' =>
      rw [e2] at e' q; cases e'
      obtain ⟨w, x, c⟩ := q
      rw [hs] at x; cases x
      exact .dp c
    | ow d' =>
      rw [e2] at e' q; cases e'
      obtain ⟨w, x, _, _, c⟩ := q
      rw [hs] at x; cases x
      exact c.dr
    | hd d' =>
      rw [e2] at e' q; cases e'
      obtain ⟨w, x, _, _, c⟩ := q
      rw [hs] at x; cases x
      exact c.dr
theorem OpsOk.drs (R : Rep K ca B M H σ S) : ∀ {os : List Op} {vs : List V} {ds : List D}, OpsOk K ca B σ S M H os vs → rds S os = some ds → Drs K ca M H vs ds
  | _, _, _, .nil, e => by simp only [rds, Option.some.injEq] at e; subst e; exact .nil
  | o :: os, v :: vs, ds, .cons a b, e => by
    simp only [rds] at e
    cases e1 : o.rd S with
    | none => rw [e1] at e; cases e
    | some d =>
      cases e2 : rds S os with
      | none => rw [e1, e2] at e; cases e
      | some ds' =>
        rw [e1, e2] at e
        simp only [Option.some.injEq] at e
        subst e
        exact .cons (a.dr R e1) (OpsOk.drs R b e2)
theorem Run.useOs {os : List Op} {f : List D → Option (D × Bool)} {Q : VK} (h : Run K ca (ResOk K ca) W (useOs os f) B M S σ H Q) {vs : List V} (o : OpsOk K ca B σ S M H os vs) :
    ∃ ds r, f ds = some r ∧ Drs K ca M H vs ds ∧ Prim K ca M H r Q := by
  obtain ⟨b, R, q⟩ := h
  unfold Ev.useOs at q
  cases e : rds S os with
  | none => rw [e] at q; exact q.elim
  | some ds =>
    rw [e] at q
    dsimp only at q
    cases e2 : f ds with
    | none => rw [e2] at q; exact q.elim
    | some r =>
      rw [e2] at q
      dsimp only at q
      refine ⟨ds, r, e2, o.drs R e, R.mt, fun w H' al hr => ?_⟩
      split at hr
      · rename_i hf
        obtain ⟨p, rfl, hp, c⟩ := hr
        have st : Stp M H (fun a => M a ∨ a = p) H' := ⟨fun a u z _ => al a u z, fun a z => z.elim .inl fun y => .inr (by rw [y]; exact hp)⟩
        have R' : Rep K ca B (fun a => M a ∨ a = p) H' σ S := R.al al st (fun _ _ _ _ z => .inl z) (fun a z => z.elim (al.mt R.mt a) fun y => by rw [y]; obtain ⟨o, ho⟩ := c.there; rw [ho]; exact fun z => nomatch z) (fun a z => .inl (R.mc a z))
        refine q _ _ H' R' st ?_
        unfold ResOk
        rw [if_pos hf]
        refine ⟨p, rfl, .inr rfl, R.wr b hp, c, fun i ho x => ?_⟩
        obtain ⟨a, d, _, ea, _, cc⟩ := R.ownAt ho
        rw [x] at ea
        cases ea
        obtain ⟨u, hu⟩ := cc.there
        rw [hp] at hu; cases hu
      · rename_i hf
        refine q _ M H' (R.al0 al) al.stp ?_
        unfold ResOk
        rw [if_neg hf]
        exact hr
end
end Ev
end

section
set_option maxRecDepth 100000
set_option maxHeartbeats 4000000
namespace PySem
open PySem.Spec PyProof.Rows L2
theorem tuple_mul1 (l : Addr) (items : Array Value) (n : Nat) (dd : Option Addr) (sl : Array (Option Value)) (u : Tok) :
    Meets (Builtin.«tuple.__mul__» ⟨[.ref l, .int 1 u], []⟩) (fun _ R s => s.heap.get? l = some { cls := .type "tuple", dict := dd, data := .seq items n, slots := sl } ∧ R (.ok (.ret (Value.ref l))) s) :=
  .of_wp fun prog w A R s h => by
    obtain ⟨hp, g, d, tk, os⟩ := s
    obtain ⟨hl, h⟩ := h
    have f1 := AutoSeq1.idx_int
    wp_walk using wpAny_loadPart' hl
    repeat (first
      | (refine wpAny_ite_false (decide_eq_false (by decide)) ?_; wp_walk using wpAny_loadPart' hl)
      | (refine wpAny_ite_true (decide_eq_true (by simp)) ?_; wp_walk using wpAny_loadPart' hl))
    exact ⟨_, rfl, h⟩
end PySem
namespace Ev
open PySem PySem.Spec PyProof.Rows L2
section
variable {X : Cx} {ca : Nat → Addr}
theorem most_line : most = sizeLine := by rw [sizeLine_eq]
theorem Prim.val {K : PySem.W.Frag} {M : Mset} {H : Hp} {d : D} {Q : VK} (h : Prim K ca M H (d, false) Q) {v : V} (c : Dp K ca M H v d) : Q v H :=
  h.2 v H Al.refl (by simpa using c)
theorem Prim.tup {K : PySem.W.Frag} {M : Mset} {H : Hp} {ds : List D} {Q : VK} (h : Prim K ca M H (.tup ds, false) Q) {vs : List V} (c : Dps K ca M H vs ds) (p : Addr) (hp : H p = none) : Q (.ref p) (upd H p (.tup vs)) :=
  h.2 _ _ (Al.upd hp) (by
    simp only [Bool.false_eq_true, if_false]
    exact .tup (.inl ⟨.inl upd_same, fun z => h.1 p z hp⟩) (c.step (Stp.laid hp)))
theorem Prim.lst {K : PySem.W.Frag} {M : Mset} {H : Hp} {ds : List D} {Q : VK} (h : Prim K ca M H (.lst ds, true) Q) {vs : List V} (c : Dps K ca M H vs ds) (p : Addr) (hp : H p = none) : Q (.ref p) (upd H p (.lst vs)) :=
  h.2 _ _ (Al.upd hp) (by
    simp only [if_true]
    exact ⟨p, rfl, hp, .lst upd_same (c.step (Stp.laidM hp))⟩)
/-! ### operators -/
def rBin (K : PySem.W.Frag) (ca : Nat → Addr) (op : Operator) : R2 := fun x y H Q => ∃ M u v r, Dr K ca M H x u ∧ Dr K ca M H y v ∧ opBin op u v = some r ∧ Prim K ca M H r Q
theorem op_repT1 : OpR X (binaryOp .Mult) (fun x y H Q => ∃ l xs, x = .ref l ∧ y = .int 1 ∧ SqT X.K H l xs ∧ Q (.ref l) H) := by
  intro pins s σ H x y v u Q I rx ry h
  obtain ⟨l, xs, rfl, rfl, hT, q⟩ := h
  cases rx
  obtain ⟨t, rfl⟩ := ry
  obtain ⟨its, r, ⟨⟨cls, dd, data, sl⟩, ho, hc, n, hd⟩, hs⟩ := I.tuple hT
  simp only at hc hd
  subst hc hd
  exact wpAny_binaryOp_repeat_ref (T := "tuple") (U := "int") (by decide) ⟨_, ho, rfl⟩ (fun s' => typeIs_int s' 1 t) noFill_tuple_mul F.fills_int_mul F.slot_int_rmul repeat_tuple F.slot_int_index.lookup
    (call_meets F.slot_int_rmul (typeIs_int s 1 t) F.entry_int_rmul (F.args_int_rmul_2 _ _) (int_rmul_tuple 1 t l its.toArray n dd sl)
      ⟨ho, rfl, ⟨_, ho, rfl⟩, call_meets F.slot_tuple_mul ⟨_, ho, rfl⟩ F.entry_tuple_mul (F.args_tuple_mul_2 _ _) (tuple_mul1 l its.toArray n dd sl t) ⟨ho, ⟨.ref l, H, I, rfl, q⟩⟩⟩)
theorem op_bin {op : Operator} : OpR X (binaryOp op) (rBin X.K ca op) := by
  intro pins s σ H x y v u Q I rx ry ⟨M, d, e, r, hd, he, ho, pr⟩
  unfold opBin at ho
  split at ho
  · cases ho
    exact op_add pins s σ H x y v u Q I rx ry ⟨_, _, hd.intI, he.intI, pr.val (.int _)⟩
  · split at ho
    · rename_i hz
      cases ho
      obtain ⟨a, xs, ea, ra, ca'⟩ := hd.tupI
      obtain ⟨b, ys, eb, rb, cb⟩ := he.tupI
      refine op_catA pins s σ H x y v u Q I rx ry ⟨a, b, xs, ys, ea, eb, ra.sq, rb.sq, by rw [ca'.length, cb.length, ← most_line]; exact hz, fun e0 => ?_, fun e0 e1 => ?_, fun e0 e1 p hp => ?_⟩
      · have := ca'.nil_iff.mp e0
        subst this
        exact pr.val (.tup rb cb)
      · have := cb.nil_iff.mp e1
        subst this
        rw [List.append_nil] at pr
        exact pr.val (.tup ra ca')
      · exact pr.tup (ca'.append cb) p hp
    · cases ho
  · split at ho
    · rename_i hz
      cases ho
      obtain ⟨a, xs, ea, ra, ca'⟩ := hd.lstI
      obtain ⟨b, ys, eb, rb, cb⟩ := he.lstI
      exact op_cat pins s σ H x y v u Q I rx ry ⟨a, b, xs, ys, ea, eb, ra, rb, by rw [ca'.length, cb.length, ← most_line]; exact hz, fun p hp => pr.lst (ca'.append cb) p hp⟩
    · cases ho
  · split at ho
    · rename_i hz
      cases ho
      exact op_add_str pins s σ H x y v u Q I rx ry ⟨_, _, hd.strI, he.strI, by rw [← most_line]; exact hz, pr.val (.str _)⟩
    · cases ho
  · cases ho
    exact op_sub pins s σ H x y v u Q I rx ry ⟨_, _, hd.intI, he.intI, pr.val (.int _)⟩
  · split at ho
    · rename_i hz
      cases ho
      exact op_mul pins s σ H x y v u Q I rx ry ⟨_, _, hd.intI, he.intI, hz, pr.val (.int _)⟩
    · cases ho
  · split at ho
    · rename_i k hz
      cases ho
      obtain ⟨a, xs, ea, ra, ca'⟩ := hd.tupI
      by_cases h1 : k = 1
      · subst h1
        have e1 : (List.replicate (1 : Int).toNat ‹List D›).flatten = ‹List D› := by simp
        rw [e1] at pr
        exact op_repT1 pins s σ H x y v u Q I rx ry ⟨a, xs, ea, he.intI, ra.sq, pr.val (.tup ra ca')⟩
      · exact op_repT pins s σ H x y v u Q I rx ry ⟨a, k, xs, ea, he.intI, ra.sq, fun z => hz.2.2.1 (ca'.nil_iff.mp z), by omega, by omega, by rw [ca'.length]; exact hz.1, fun p hp => pr.tup (ca'.rep _) p hp⟩
    · cases ho
  · split at ho
    · rename_i k hz
      cases ho
      obtain ⟨a, xs, ea, ra, ca'⟩ := hd.lstI
      exact op_rep pins s σ H x y v u Q I rx ry ⟨a, k, xs, ea, he.intI, ra, hz.1, hz.2.1, by rw [ca'.length, ← most_line]; exact hz.2.2, fun p hp => pr.lst (ca'.rep _) p hp⟩
    · cases ho
  · split at ho
    · rename_i hz
      cases ho
      exact op_mod pins s σ H x y v u Q I rx ry ⟨_, _, hd.intI, he.intI, hz, pr.val (.int _)⟩
    · cases ho
  · split at ho
    · rename_i hz
      cases ho
      exact op_fdiv pins s σ H x y v u Q I rx ry ⟨_, _, hd.intI, he.intI, hz, pr.val (.int _)⟩
    · cases ho
  · split at ho
    · rename_i hz
      cases ho
      exact op_pow pins s σ H x y v u Q I rx ry ⟨_, _, hd.intI, he.intI, hz, pr.val (.int _)⟩
    · cases ho
  · cases ho
/-! ### comparisons -/
def rCmp (K : PySem.W.Frag) (ca : Nat → Addr) (op : CmpOp) : R2 := fun x y H Q => ∃ M u v k, Dr K ca M H x u ∧ Dr K ca M H y v ∧ opCmp op u v = some k ∧ Q (.bl k) H
theorem D.pl_lst {ys : List D} : (D.lst ys).pl = D.pl.go ys := by simp [D.pl]
theorem eqD_some {d e : D} {k : Bool} (h : eqD d e = some k) : d.shp = true ∧ e.shp = true ∧ k = d.eqv e := by
  unfold eqD at h
  split at h
  · rename_i q
    rw [Bool.and_eq_true] at q
    exact ⟨q.1, q.2, (Option.some.inj h).symm⟩
  · cases h
theorem shp_pl {d : D} (h : d.shp = true) : d.pl = true := by
  unfold D.shp at h
  rw [Bool.and_eq_true] at h
  exact h.1
theorem any_py {d : D} (p : d.pl = true) : ∀ ys : List D, D.pl.go ys = true → ((D.py.go ys).any fun z => PyData.eqv z d.py) = ys.any fun z => z.eqv d
  | [], _ => rfl
  | y :: ys, h => by
    simp only [D.pl.go, Bool.and_eq_true] at h
    simp only [D.py.go, List.any_cons]
    rw [D.eqv_py y d h.1 p, any_py p ys h.2]
theorem inD_some {d : D} {ys : List D} {k : Bool} (h : inD d ys = some k) : d.shp = true ∧ (D.lst ys).shp = true ∧ k = (D.py.go ys).any fun z => PyData.eqv z d.py := by
  unfold inD at h
  split at h
  · rename_i q
    rw [Bool.and_eq_true] at q
    refine ⟨q.1, q.2, ?_⟩
    rw [any_py (shp_pl q.1) ys (by have := shp_pl q.2; rwa [D.pl_lst] at this)]
    exact (Option.some.inj h).symm
  · cases h
theorem isD_is {K : PySem.W.Frag} {M : Mset} {H : Hp} {x y : V} {d e : D} {k : Bool} (hd : Dr K ca M H x d) (he : Dr K ca M H y e) (h : isD d e = some k) :
    (y = .non ∧ k = decide (x = .non)) ∨ ∃ a b, x = .bl a ∧ y = .bl b ∧ k = decide (a = b) := by
  unfold isD at h
  split at h
  · cases h
    cases hd.nonI; cases he.nonI
    exact .inl ⟨rfl, by simp⟩
  · rename_i n
    cases h
    refine .inl ⟨he.nonI, (decide_eq_false ?_).symm⟩
    rintro rfl
    cases hd with
    | dp z => cases z; exact n rfl
  · rename_i a b
    cases h
    exact .inr ⟨a, b, hd.blI, he.blI, by rw [Bool.beq_eq_decide_eq]⟩
  · cases h
theorem op_cmp (hu : X.A.units + 65 < cLine) {op : CmpOp} : OpR X (compareOp op) (rCmp X.K ca op) := by
  intro pins s σ H x y v u Q I rx ry ⟨M, d, e, k, hd, he, ho, pr⟩
  have hu' : X.A.units + 64 < cLine := by omega
  unfold opCmp at ho
  split at ho
  · obtain ⟨h1, h2, rfl⟩ := eqD_some ho
    refine op_eqD hu' pins s σ H x y v u Q I rx ry ⟨_, _, hd.lib (shp_pl h1), he.lib (shp_pl h2), D.shp_py h1, D.shp_py h2, ?_⟩
    rw [D.eqv_py _ _ (shp_pl h1) (shp_pl h2)]; exact pr
  · obtain ⟨k', ho', rfl⟩ := Option.map_eq_some_iff.mp ho; clear ho
    obtain ⟨h1, h2, rfl⟩ := eqD_some ho'
    refine op_neD hu' pins s σ H x y v u Q I rx ry ⟨_, _, hd.lib (shp_pl h1), he.lib (shp_pl h2), D.shp_py h1, D.shp_py h2, ?_⟩
    rw [D.eqv_py _ _ (shp_pl h1) (shp_pl h2)]; exact pr
  · cases ho; exact op_lt pins s σ H x y v u Q I rx ry ⟨_, _, hd.intI, he.intI, pr⟩
  · cases ho; exact op_le pins s σ H x y v u Q I rx ry ⟨_, _, hd.intI, he.intI, pr⟩
  · cases ho; exact op_gt pins s σ H x y v u Q I rx ry ⟨_, _, hd.intI, he.intI, pr⟩
  · cases ho; exact op_ge pins s σ H x y v u Q I rx ry ⟨_, _, hd.intI, he.intI, pr⟩
  · obtain ⟨h1, h2, rfl⟩ := inD_some ho
    exact op_inD hu pins s σ H x y v u Q I rx ry ⟨_, _, hd.lib (shp_pl h1), he.lib (shp_pl h2), D.shp_py h1, D.shp_py h2, pr⟩
  · obtain ⟨h1, h2, rfl⟩ := inD_some ho
    obtain ⟨as, r1⟩ := Dp.reads I d.py x v (hd.lib (shp_pl h1)) rx
    obtain ⟨bs, r2⟩ := Dp.reads I (D.tup _).py y u (he.lib (shp_pl h2)) ry
    exact SeqAt.in_tuple_reads r2 r1 (SeqAt.canLay_of_shaped (D.shp_py h2)) (SeqAt.canLay_of_shaped (D.shp_py h1)) (room_in_shaped (D.shp_py h1) hu) ⟨.bl _, H, I, rfl, pr⟩
  · obtain ⟨k', ho', rfl⟩ := Option.map_eq_some_iff.mp ho; clear ho
    obtain ⟨h1, h2, rfl⟩ := inD_some ho'
    exact op_notInD hu pins s σ H x y v u Q I rx ry ⟨_, _, hd.lib (shp_pl h1), he.lib (shp_pl h2), D.shp_py h1, D.shp_py h2, pr⟩
  · obtain ⟨k', ho', rfl⟩ := Option.map_eq_some_iff.mp ho; clear ho
    obtain ⟨h1, h2, rfl⟩ := inD_some ho'
    obtain ⟨as, r1⟩ := Dp.reads I d.py x v (hd.lib (shp_pl h1)) rx
    obtain ⟨bs, r2⟩ := Dp.reads I (D.tup _).py y u (he.lib (shp_pl h2)) ry
    exact SeqAt.notIn_tuple_reads r2 r1 (SeqAt.canLay_of_shaped (D.shp_py h2)) (SeqAt.canLay_of_shaped (D.shp_py h1)) (room_in_shaped (D.shp_py h1) hu) ⟨.bl _, H, I, rfl, pr⟩
  · rcases isD_is hd he ho with ⟨e1, rfl⟩ | ⟨a, b, e1, e2, rfl⟩
    · exact op_isN pins s σ H x y v u Q I rx ry ⟨e1, pr⟩
    · exact op_is_bl pins s σ H x y v u Q I rx ry ⟨a, b, e1, e2, pr⟩
  · obtain ⟨k', ho', rfl⟩ := Option.map_eq_some_iff.mp ho; clear ho
    rcases isD_is hd he ho' with ⟨e1, rfl⟩ | ⟨a, b, e1, e2, rfl⟩
    · exact op_notN pins s σ H x y v u Q I rx ry ⟨e1, pr⟩
    · exact op_isnot_bl pins s σ H x y v u Q I rx ry ⟨a, b, e1, e2, pr⟩
  · cases ho
/-! ### items, slices -/
def rIdx (K : PySem.W.Frag) (ca : Nat → Addr) : R2 := fun x y H Q => ∃ M u v d, Dr K ca M H x u ∧ Dr K ca M H y v ∧ opIdx u v = some d ∧ ∀ w, Dp K ca M H w d → Q w H
theorem atI_map {α β : Type} (f : α → β) (xs : List α) (i : Int) : atI (xs.map f) i = (atI xs i).map f := by
  unfold atI
  rw [List.length_map]
  cases ixN xs.length i <;> simp
theorem Dps.atI {K : PySem.W.Frag} {M : Mset} {H : Hp} {vs : List V} {ds : List D} {i : Int} {d : D} (h : Dps K ca M H vs ds) (e : L2.atI ds i = some d) : ∃ v, L2.atI vs i = some v ∧ Dp K ca M H v d := by
  unfold L2.atI at e ⊢
  rw [h.length]
  cases e2 : ixN ds.length i with
  | none => rw [e2] at e; cases e
  | some j => rw [e2] at e; exact h.get e
theorem ix_any : IxR X (rIdx X.K ca) := by
  intro value slice pins s σ H x y v u Q I rx ry h hss
  obtain ⟨M, d, e, r, hd, he, ho, pr⟩ := h
  unfold opIdx at ho
  split at ho
  · obtain ⟨a, xs, ea, ra, c⟩ := hd.tupI
    obtain ⟨w, hw, cw⟩ := c.atI ho
    exact ix_tup value slice pins s σ H x y v u Q I rx ry ⟨a, xs, _, w, ea, he.intI, ra.sq, hw, pr w cw⟩ hss
  · obtain ⟨a, xs, ea, ra, c⟩ := hd.lstI
    obtain ⟨w, hw, cw⟩ := c.atI ho
    exact ix_list value slice pins s σ H x y v u Q I rx ry ⟨a, xs, _, w, ea, he.intI, .of ra, hw, pr w cw⟩ hss
  · obtain ⟨a, ea, ra⟩ := hd.scrI
    obtain ⟨n, hn, rfl⟩ := Option.map_eq_some_iff.mp ho
    exact ix_list value slice pins s σ H x y v u Q I rx ry ⟨a, _, _, .int n, ea, he.intI, ra, by rw [atI_map, hn]; rfl, pr _ (.int n)⟩ hss
  · cases ho
def rSlc (K : PySem.W.Frag) (ca : Nat → Addr) : V → Option Int → Option Int → Hp → VK → Prop := fun x lo hi H Q => ∃ M u r, Dr K ca M H x u ∧ opSl u lo hi = some r ∧ Prim K ca M H r Q
theorem Dps.cut {K : PySem.W.Frag} {M : Mset} {H : Hp} {vs : List V} {ds : List D} (h : Dps K ca M H vs ds) (lo hi : Option Int) : Dps K ca M H (cutV vs lo hi) (cutD ds lo hi) := by
  unfold cutV cutD
  rw [h.length]
  exact (h.drop _).take _
theorem sl_any : SlR X (rSlc X.K ca) := by
  intro pins s σ H x v vl vu lo hi sl Q I rx hs pl pu h
  obtain ⟨M, d, r, hd, ho, pr⟩ := h
  unfold opSl at ho
  split at ho
  · obtain ⟨a, xs, ea, ra, c⟩ := hd.tupI
    cases ho
    refine sl_tupA pins s σ H x v vl vu lo hi sl Q I rx hs pl pu ⟨a, xs, ea, ra.sq, fun z => ?_, fun _ p hp => pr.tup (c.cut lo hi) p hp⟩
    have e : cutD ‹List D› lo hi = ‹List D› := by
      unfold cutD
      rw [← c.length, z.1, z.2]
      simp [c.length]
    rw [e] at pr
    exact pr.val (.tup ra c)
  · obtain ⟨a, xs, ea, ra, c⟩ := hd.lstI
    cases ho
    exact sl_list pins s σ H x v vl vu lo hi sl Q I rx hs pl pu ⟨a, xs, ea, .of ra, fun p hp => pr.lst (c.cut lo hi) p hp⟩
  · cases ho
/-! ### built-in functions -/
def Blt.id : Blt → Value
  | .len => .builtin "len" | .abs => .builtin "abs" | .max2 | .max => .builtin "max" | .min2 | .min => .builtin "min"
  | .int => .type "int" | .str => .type "str" | .list | .listr => .type "list" | .tuple => .type "tuple"
  | .sum => .builtin "sum" | .all => .builtin "all" | .any => .builtin "any" | .sorted => .builtin "sorted"
def rBlt (K : PySem.W.Frag) (ca : Nat → Addr) (b : Blt) : List V → Hp → VK → Prop := fun vs H Q => ∃ M ds r, Drs K ca M H vs ds ∧ opBlt b ds = some r ∧ Prim K ca M H r Q
theorem Drs.one {K : PySem.W.Frag} {M : Mset} {H : Hp} {vs : List V} {d : D} (h : Drs K ca M H vs [d]) : ∃ v, vs = [v] ∧ Dr K ca M H v d := by
  cases h with | cons a b => cases b; exact ⟨_, rfl, a⟩
theorem Drs.two {K : PySem.W.Frag} {M : Mset} {H : Hp} {vs : List V} {d e : D} (h : Drs K ca M H vs [d, e]) : ∃ v w, vs = [v, w] ∧ Dr K ca M H v d ∧ Dr K ca M H w e := by
  cases h with | cons a b => cases b with | cons b c => cases c; exact ⟨_, _, rfl, a, b⟩
theorem unInts_some : ∀ {ds : List D} {ns : List Int}, unInts ds = some ns → ds = ns.map D.int
  | [], ns, h => by simp only [unInts, Option.some.injEq] at h; subst h; rfl
  | d :: ds, ns, h => by
    cases d with
    | int i =>
      simp only [unInts] at h
      obtain ⟨ms, h', rfl⟩ := Option.map_eq_some_iff.mp h
      rw [unInts_some h']; rfl
    | _ => simp [unInts] at h
theorem unBls_some : ∀ {ds : List D} {ns : List Bool}, unBls ds = some ns → ds = ns.map D.bl
  | [], ns, h => by simp only [unBls, Option.some.injEq] at h; subst h; rfl
  | d :: ds, ns, h => by
    cases d with
    | bl i =>
      simp only [unBls] at h
      obtain ⟨ms, h', rfl⟩ := Option.map_eq_some_iff.mp h
      rw [unBls_some h']; rfl
    | _ => simp [unBls] at h
theorem foldl_max_ge : ∀ (xs : List Int) (x : Int), x ≤ xs.foldl max x ∧ (∀ y ∈ xs, y ≤ xs.foldl max x) ∧ (xs.foldl max x = x ∨ xs.foldl max x ∈ xs)
  | [], x => ⟨Int.le_refl _, by simp, .inl rfl⟩
  | z :: xs, x => by
    obtain ⟨h1, h2, h3⟩ := foldl_max_ge xs (max x z)
    simp only [List.foldl_cons]
    refine ⟨by omega, fun y hy => ?_, ?_⟩
    · rcases List.mem_cons.mp hy with rfl | hy
      · omega
      · exact h2 y hy
    · rcases h3 with h3 | h3
      · by_cases e : z ≤ x
        · left; rw [h3]; omega
        · right; rw [h3]; simp; left; omega
      · right; exact List.mem_cons_of_mem _ h3
theorem foldl_min_le : ∀ (xs : List Int) (x : Int), xs.foldl min x ≤ x ∧ (∀ y ∈ xs, xs.foldl min x ≤ y) ∧ (xs.foldl min x = x ∨ xs.foldl min x ∈ xs)
  | [], x => ⟨Int.le_refl _, by simp, .inl rfl⟩
  | z :: xs, x => by
    obtain ⟨h1, h2, h3⟩ := foldl_min_le xs (min x z)
    simp only [List.foldl_cons]
    refine ⟨by omega, fun y hy => ?_, ?_⟩
    · rcases List.mem_cons.mp hy with rfl | hy
      · omega
      · exact h2 y hy
    · rcases h3 with h3 | h3
      · by_cases e : x ≤ z
        · left; rw [h3]; omega
        · right; rw [h3]; simp; left; omega
      · right; exact List.mem_cons_of_mem _ h3
theorem call_blt (hc : X.calm = true) {b : Blt} : CallR X b.id (rBlt X.K ca b) := by
  intro pins s σ H xs us Q I r ⟨M, ds, rr, hd, ho, pr⟩
  unfold opBlt at ho
  split at ho
  · obtain ⟨v, rfl, h⟩ := hd.one
    obtain ⟨a, ys, rfl, ra, c⟩ := h.lstI
    cases ho
    exact call_len_seq pins s σ H _ us Q I r ⟨a, ys, rfl, .inl (.of ra), by rw [c.length]; exact pr.val (.int _)⟩
  · obtain ⟨v, rfl, h⟩ := hd.one
    obtain ⟨a, ys, rfl, ra, c⟩ := h.tupI
    cases ho
    exact call_len_seq pins s σ H _ us Q I r ⟨a, ys, rfl, .inr ra.sq, by rw [c.length]; exact pr.val (.int _)⟩
  · obtain ⟨v, rfl, h⟩ := hd.one
    obtain ⟨a, rfl, ra⟩ := h.scrI
    cases ho
    exact call_len_seq pins s σ H _ us Q I r ⟨a, _, rfl, .inl ra, by rw [List.length_map]; exact pr.val (.int _)⟩
  · obtain ⟨v, rfl, h⟩ := hd.one
    split at ho
    · rename_i hz
      cases ho
      cases h.strI
      exact call_len_str pins s σ H _ us Q I r ⟨_, rfl, by rw [← most_line]; exact hz, pr.val (.int _)⟩
    · cases ho
  · obtain ⟨v, rfl, h⟩ := hd.one
    cases ho; cases h.intI
    exact call_abs pins s σ H _ us Q I r ⟨_, rfl, pr.val (.int _)⟩
  · obtain ⟨v, w, rfl, h, h'⟩ := hd.two
    cases ho; cases h.intI; cases h'.intI
    exact call_max2 hc pins s σ H _ us Q I r ⟨_, _, rfl, pr.val (.int _)⟩
  · obtain ⟨v, w, rfl, h, h'⟩ := hd.two
    cases ho; cases h.intI; cases h'.intI
    exact call_min2 hc pins s σ H _ us Q I r ⟨_, _, rfl, pr.val (.int _)⟩
  · obtain ⟨v, rfl, h⟩ := hd.one
    cases ho; cases h.intI
    exact call_int1 pins s σ H _ us Q I r (.inl ⟨_, rfl, pr.val (.int _)⟩)
  · obtain ⟨v, rfl, h⟩ := hd.one
    cases ho; cases h.blI
    exact call_int1 pins s σ H _ us Q I r (.inr ⟨_, rfl, pr.val (.int _)⟩)
  · obtain ⟨v, rfl, h⟩ := hd.one
    split at ho
    · rename_i hz
      cases ho; cases h.intI
      exact call_str_int pins s σ H _ us Q I r ⟨_, rfl, hz, pr.val (.str _)⟩
    · cases ho
  · obtain ⟨v, rfl, h⟩ := hd.one
    obtain ⟨a, ys, rfl, ra, c⟩ := h.lstI
    cases ho
    exact call_list_of pins s σ H _ us Q I r ⟨a, ys, rfl, .inl (.of ra), fun p hp => pr.lst c p hp⟩
  · obtain ⟨v, rfl, h⟩ := hd.one
    obtain ⟨a, ys, rfl, ra, c⟩ := h.tupI
    cases ho
    exact call_list_of pins s σ H _ us Q I r ⟨a, ys, rfl, .inr ra.sq, fun p hp => pr.lst c p hp⟩
  · obtain ⟨v, rfl, h⟩ := hd.one
    obtain ⟨a, ys, rfl, ra, c⟩ := h.lstI
    cases ho
    exact call_tuple_of pins s σ H _ us Q I r ⟨a, ys, rfl, .inl ⟨.of ra, fun p hp => pr.tup c p hp⟩⟩
  · obtain ⟨v, rfl, h⟩ := hd.one
    obtain ⟨a, ys, rfl, ra, c⟩ := h.tupI
    cases ho
    exact call_tuple_of pins s σ H _ us Q I r ⟨a, ys, rfl, .inr ⟨ra.sq, pr.val (.tup ra c)⟩⟩
  · obtain ⟨v, rfl, h⟩ := hd.one
    obtain ⟨a, ys, rfl, ra, c⟩ := h.lstI
    obtain ⟨ns, e, rfl⟩ := Option.map_eq_some_iff.mp ho
    rw [unInts_some e] at c
    cases c.ints
    exact cr_sum hc pins s σ H _ us Q I r ⟨a, ns, rfl, .of ra, pr.val (.int _)⟩
  · obtain ⟨v, rfl, h⟩ := hd.one
    obtain ⟨a, ys, rfl, ra, c⟩ := h.lstI
    obtain ⟨m, e, rfl⟩ := Option.map_eq_some_iff.mp ho
    obtain ⟨ns, e1, e2⟩ := Option.bind_eq_some_iff.mp e
    rw [unInts_some e1] at c
    cases c.ints
    cases ns with
    | nil => cases e2
    | cons n ns =>
      cases e2
      obtain ⟨h1, h2, h3⟩ := foldl_max_ge ns n
      refine cr_max hc pins s σ H _ us Q I r ⟨a, n :: ns, rfl, .of ra, by simp, fun m hm hx => ?_⟩
      have : m = ns.foldl max n := by
        refine Int.le_antisymm ?_ (hx _ ?_)
        · rcases List.mem_cons.mp hm with rfl | hm
          · exact h1
          · exact h2 m hm
        · rcases h3 with h3 | h3
          · rw [h3]; exact List.mem_cons_self
          · exact List.mem_cons_of_mem _ h3
      rw [this]
      exact pr.val (.int _)
  · obtain ⟨v, rfl, h⟩ := hd.one
    obtain ⟨a, ys, rfl, ra, c⟩ := h.lstI
    obtain ⟨m, e, rfl⟩ := Option.map_eq_some_iff.mp ho
    obtain ⟨ns, e1, e2⟩ := Option.bind_eq_some_iff.mp e
    rw [unInts_some e1] at c
    cases c.ints
    cases ns with
    | nil => cases e2
    | cons n ns =>
      cases e2
      obtain ⟨h1, h2, h3⟩ := foldl_min_le ns n
      refine cr_min hc pins s σ H _ us Q I r ⟨a, n :: ns, rfl, .of ra, by simp, fun m hm hx => ?_⟩
      have : m = ns.foldl min n := by
        refine Int.le_antisymm (hx _ ?_) ?_
        · rcases h3 with h3 | h3
          · rw [h3]; exact List.mem_cons_self
          · exact List.mem_cons_of_mem _ h3
        · rcases List.mem_cons.mp hm with rfl | hm
          · exact h1
          · exact h2 m hm
      rw [this]
      exact pr.val (.int _)
  · obtain ⟨v, rfl, h⟩ := hd.one
    obtain ⟨a, ys, rfl, ra, c⟩ := h.lstI
    obtain ⟨ns, e, rfl⟩ := Option.map_eq_some_iff.mp ho
    rw [unBls_some e] at c
    cases c.bools
    exact cr_all hc pins s σ H _ us Q I r ⟨a, ns, rfl, .of ra, pr.val (.bl _)⟩
  · obtain ⟨v, rfl, h⟩ := hd.one
    obtain ⟨a, ys, rfl, ra, c⟩ := h.lstI
    obtain ⟨ns, e, rfl⟩ := Option.map_eq_some_iff.mp ho
    rw [unBls_some e] at c
    cases c.bools
    exact cr_any hc pins s σ H _ us Q I r ⟨a, ns, rfl, .of ra, pr.val (.bl _)⟩
  · cases ho
/-! ### list.index -/
def rIndx (K : PySem.W.Frag) (ca : Nat → Addr) : V → List V → Hp → VK → Prop := fun x xs H Q => ∃ M u y v j, xs = [y] ∧ Dr K ca M H x u ∧ Dr K ca M H y v ∧ indexD u v = some j ∧ Q (.int j) H
theorem py_get (ds : List D) (j : Nat) : (D.py.go ds)[j]? = (ds[j]?).map D.py := by rw [D.py_go, List.getElem?_map]
theorem pl_get {ds : List D} (h : D.pl.go ds = true) : ∀ {j : Nat} {d : D}, ds[j]? = some d → d.pl = true := by
  induction ds with
  | nil => intro j d e; simp at e
  | cons x xs ih =>
    simp only [D.pl.go, Bool.and_eq_true] at h
    intro j d e
    cases j with
    | zero => simp at e; subst e; exact h.1
    | succ j => exact ih h.2 (by simpa using e)
theorem mt_indx (hu : X.A.units + 65 < cLine) : MtR X "list.index" (rIndx X.K ca) := by
  intro pins s σ H x xs v us Q I rx rxs h0
  obtain ⟨M, u, y, w, j, rfl, hd, he, ho, pr⟩ := h0
  unfold indexD at ho
  split at ho
  · unfold opIndex at ho
    rename_i ds
    split at ho
    · rename_i hs
      rw [Bool.and_eq_true] at hs
      split at ho
      · rename_i jj hj
        cases ho
        obtain ⟨hlt, hz, hno⟩ := List.findIdx?_eq_some_iff_getElem.mp hj
        obtain ⟨a, ys, rfl, ra, c⟩ := hd.lstI
        have hp : D.pl.go ds = true := by have := shp_pl hs.2; rwa [D.pl_lst] at this
        refine mt_indexD hu pins s σ H _ _ v us Q I rx rxs ⟨a, y, w.py, D.py.go ds, jj, (ds[jj]).py, rfl, rfl, .lst (.of ra) (c.lib hp), he.lib (shp_pl hs.1), D.shp_py hs.2, D.shp_py hs.1, ?_, ?_, ?_, pr⟩
        · rw [py_get, List.getElem?_eq_getElem hlt]; rfl
        · rw [D.eqv_py _ _ (pl_get hp (List.getElem?_eq_getElem hlt)) (shp_pl hs.1)]; exact hz
        · intro m z' hm hz'
          rw [py_get, List.getElem?_eq_getElem (by omega)] at hz'
          cases hz'
          rw [D.eqv_py _ _ (pl_get hp (List.getElem?_eq_getElem (by omega))) (shp_pl hs.1)]
          have := hno m hm
          simpa using this
      · cases ho
    · cases ho
  · cases ho
end
end Ev
end

section
set_option maxRecDepth 100000
set_option maxHeartbeats 4000000
namespace Ev
open PySem PySem.Spec PyProof.Rows L2
section
variable {K : PySem.W.Frag} {ca : Nat → Addr} {B : Bs} {M M' : Mset} {H H' : Hp} {σ : L2.St} {S S' : Fr}

theorem Rep.lt (R : Rep K ca B M H σ S) {i : Nat} (h : S.at i ≠ .no) : i < S.length := at_lt h
/-- one slot of the frame is said anew -/
theorem Rep.setS (R : Rep K ca B M H σ S) {i : Nat} {s : Slot} (h : SlotOk K ca B M H i σ[i]? s)
    (hd : s.own = true → ∀ j a, j ≠ i → (S.at j).own = true → σ[i]? = some (some (.ref a)) → σ[j]? = some (some (.ref a)) → False) : Rep K ca B M H σ (S.set i s) where
  len := by rw [List.length_set]; exact R.len
  slot := fun j => by
    rw [at_set]
    split
    · rename_i e; rw [e.1]; exact h
    · exact R.slot j
  dist := fun j k a hjk oj ok ej ek => by
    rw [at_set] at oj ok
    split at oj <;> split at ok
    · rename_i e1 e2; exact hjk (e1.1.trans e2.1.symm)
    · rename_i e1 e2; cases e1.1; exact hd oj k a (fun z => hjk z.symm) ok ej ek
    · rename_i e1 e2; cases e2.1; exact hd ok j a hjk oj ek ej
    · exact R.dist j k a hjk oj ok ej ek
  pres := R.pres
  keep := R.keep
  mt := R.mt
  mc := R.mc
/-- .. with the value in the machine's slot -/
theorem Rep.store (R : Rep K ca B M H σ S) {i : Nat} {s : Slot} {v : V} (h : SlotOk K ca B M H i (some (some v)) s) (hi : i < S.length)
    (hd : s.own = true → ∀ j a, j ≠ i → (S.at j).own = true → v = .ref a → σ[j]? = some (some (.ref a)) → False) : Rep K ca B M H (σ.set i (some v)) (S.set i s) where
  len := by rw [List.length_set, List.length_set]; exact R.len
  slot := fun j => by
    rw [at_set]
    by_cases e : j = i
    · subst e
      rw [if_pos ⟨rfl, hi⟩, List.getElem?_set_self (by rw [← R.len]; exact hi)]; exact h
    · rw [if_neg (fun z => e z.1), List.getElem?_set_ne (fun z => e z.symm)]; exact R.slot j
  dist := fun j k a hjk oj ok ej ek => by
    have hl : i < σ.length := by rw [← R.len]; exact hi
    by_cases e1 : j = i
    · subst e1
      by_cases e2 : k = j
      · exact hjk e2.symm
      · rw [List.getElem?_set_ne (fun z => e2 z.symm)] at ek
        rw [List.getElem?_set_self hl] at ej
        rw [at_set_self hi] at oj
        rw [at_set_ne e2] at ok
        exact hd oj k a e2 ok (Option.some.inj (Option.some.inj ej)) ek
    · by_cases e2 : k = i
      · subst e2
        rw [List.getElem?_set_ne (fun z => e1 z.symm)] at ej
        rw [List.getElem?_set_self hl] at ek
        rw [at_set_self hi] at ok
        rw [at_set_ne e1] at oj
        exact hd ok j a e1 oj (Option.some.inj (Option.some.inj ek)) ej
      · rw [List.getElem?_set_ne (fun z => e1 z.symm)] at ej
        rw [List.getElem?_set_ne (fun z => e2 z.symm)] at ek
        rw [at_set_ne e1] at oj
        rw [at_set_ne e2] at ok
        exact R.dist j k a hjk oj ok ej ek
  pres := R.pres
  keep := R.keep
  mt := R.mt
  mc := R.mc
/-- less may change: an address that no slot owns -/
theorem Rep.drop (b : B.Ok) (R : Rep K ca B M H σ S) {p : Addr} (hw : B.Wr p) (hn : ∀ i, (S.at i).own = true → σ[i]? ≠ some (some (.ref p))) : Rep K ca B (fun a => M a ∧ a ≠ p) H σ S ∧ Stp M H (fun a => M a ∧ a ≠ p) H := by
  have st : Stp M H (fun a => M a ∧ a ≠ p) H := Stp.less fun a z => z.1
  exact ⟨R.al .refl st (fun i a ho e z => ⟨z, fun y => hn i ho (by rw [e, y])⟩) (fun a z => R.mt a z.1) (fun a z => ⟨R.mc a z, fun y => b.mc a z (by rw [y]; exact hw)⟩), st⟩
/-- a list of one's own becomes a value -/
theorem Rep.freeze (b : B.Ok) (R : Rep K ca B M H σ S) {i : Nat} {d : D} (h : S.at i = .ow d) :
    ∃ v M', σ[i]? = some (some v) ∧ Dp K ca M' H v d ∧ Rep K ca B M' H σ (S.set i (.fz d)) ∧ Stp M H M' H := by
  have q := R.slot i
  rw [h] at q
  obtain ⟨a, e, hm, hw, c⟩ := q
  have hlt := at_lt (S := S) (i := i) (by rw [h]; exact fun z => nomatch z)
  have R1 : Rep K ca B M H σ (S.set i .no) := R.setS trivial (fun z => nomatch z)
  have hn : ∀ j, (Fr.at (S.set i .no) j).own = true → σ[j]? ≠ some (some (.ref a)) := fun j oj ej => by
    by_cases ji : j = i
    · subst ji; rw [at_set_self hlt] at oj; cases oj
    · rw [at_set_ne ji] at oj
      exact R.dist j i a ji oj (by rw [h]; rfl) ej e
  obtain ⟨R2, st⟩ := R1.drop b hw hn
  have dp := c.dp (M' := fun x => M x ∧ x ≠ a) st fun z => z.2 rfl
  refine ⟨.ref a, _, e, dp, ?_, st⟩
  have R3 := R2.setS (i := i) (s := .fz d) ⟨_, e, dp⟩ (fun z => nomatch z)
  rwa [List.set_set] at R3
theorem Rep.slotFz (R : Rep K ca B M H σ S) {i : Nat} {d : D} (h : S.at i = .fz d) : ∃ v, σ[i]? = some (some v) ∧ Dp K ca M H v d := by
  have q := R.slot i
  rw [h] at q
  exact q
/-- a ground in which p may not be written -/
def Bs.but (B : Bs) (H : Hp) (p : Addr) : Bs := { B with H0 := H, Wr := fun a => B.Wr a ∧ a ≠ p, Mc := fun a => B.Mc a ∨ a = p }
theorem Bs.but_ok (b : B.Ok) (R : Rep K ca B M H σ S) {p : Addr} {o : HO} (hp : H p = some o) : (B.but H p).Ok where
  fresh := fun q hq => ⟨R.wr b hq, fun e => by
    have hq' : H q = none := hq
    rw [e, hp] at hq'; cases hq'⟩
  mc := fun a z => z.elim (fun z w => b.mc a z w.1) fun z w => w.2 z
  hid := fun i a h w => b.hid i a h w.1
theorem Rep.but (R : Rep K ca B M H σ S) {p : Addr} (hm : M p) (hn : ∀ i, (S.at i).own = true → σ[i]? ≠ some (some (.ref p))) : Rep K ca (B.but H p) M H σ S where
  len := R.len
  slot := fun i => by
    have q := R.slot i
    cases e : S.at i with
    | no => trivial
    | fz d => rw [e] at q; exact q
    | ow d =>
      rw [e] at q
      obtain ⟨a, x, m, w, c⟩ := q
      exact ⟨a, x, m, ⟨w, fun y => hn i (by rw [e]; rfl) (by rw [x, y])⟩, c⟩
    | hd d => rw [e] at q; exact q
    | ex C fs => rw [e] at q; exact q
  dist := R.dist
  pres := fun a o h _ => h
  keep := fun a h => h
  mt := R.mt
  mc := fun a z => z.elim (R.mc a) fun z => by rw [z]; exact hm
theorem Rep.unbut {M0 : Mset} {H0 : Hp} {σ0 : L2.St} {S0 : Fr} (R0 : Rep K ca B M0 H0 σ0 S0) {p : Addr} (R : Rep K ca (B.but H0 p) M H σ S) (hw : B.Wr p) : Rep K ca B M H σ S where
  len := R.len
  slot := fun i => by
    have q := R.slot i
    cases e : S.at i with
    | no => trivial
    | fz d => rw [e] at q; exact q
    | ow d => rw [e] at q; obtain ⟨a, x, m, w, c⟩ := q; exact ⟨a, x, m, w.1, c⟩
    | hd d => rw [e] at q; exact q
    | ex C fs => rw [e] at q; exact q
  dist := R.dist
  pres := fun a o h n => R.pres a o (R0.pres a o h n) fun z => n z.1
  keep := fun a h => R0.keep a (R.keep a h)
  mt := R.mt
  mc := fun a z => R.mc a (.inl z)
/-- .. and slot i, which holds it, is walked -/
def Bs.hide (B : Bs) (H : Hp) (i : Nat) (p : Addr) : Bs := { B with H0 := H, Wr := fun a => B.Wr a ∧ a ≠ p, Mc := fun a => B.Mc a ∨ a = p, Hd := fun j => if j = i then some p else B.Hd j }
theorem Bs.hide_ok (b : B.Ok) (R : Rep K ca B M H σ S) {i : Nat} {p : Addr} {o : HO} (hp : H p = some o) : (B.hide H i p).Ok where
  fresh := fun q hq => ⟨R.wr b hq, fun e => by
    have hq' : H q = none := hq
    rw [e, hp] at hq'; cases hq'⟩
  mc := fun a z => z.elim (fun z w => b.mc a z w.1) fun z w => w.2 z
  hid := fun j a h w => by
    have h' : (if j = i then some p else B.Hd j) = some a := h
    split at h'
    · cases h'; exact w.2 rfl
    · exact b.hid j a h' w.1
theorem Rep.hide (R : Rep K ca B M H σ S) {i : Nat} {d : D} (h : S.at i = .ow d) : ∃ p o, σ[i]? = some (some (.ref p)) ∧ M p ∧ B.Wr p ∧ Cont K ca M H p d ∧ H p = some o ∧ Rep K ca (B.hide H i p) M H σ (S.set i (.hd d)) := by
  have q := R.slot i
  rw [h] at q
  obtain ⟨p, e, hm, hw, c⟩ := q
  obtain ⟨o, ho⟩ := c.there
  have hlt := at_lt (S := S) (i := i) (by rw [h]; exact fun z => nomatch z)
  have hn : ∀ j, j ≠ i → (S.at j).own = true → σ[j]? ≠ some (some (.ref p)) := fun j ji oj ej => R.dist j i p ji oj (by rw [h]; rfl) ej e
  refine ⟨p, o, e, hm, hw, c, ho, ?_⟩
  refine { len := by rw [List.length_set]; exact R.len, slot := fun j => ?_, dist := fun j k a hjk oj ok ej ek => ?_, pres := fun a o h _ => h, keep := fun a h => h, mt := R.mt, mc := fun a z => z.elim (R.mc a) fun z => by rw [z]; exact hm }
  · by_cases ji : j = i
    · subst ji
      rw [at_set_self hlt]
      exact ⟨p, e, hm, by simp [Bs.hide], c⟩
    · rw [at_set_ne ji]
      have q := R.slot j
      cases e2 : S.at j with
      | no => trivial
      | fz d => rw [e2] at q; exact q
      | ow d =>
        rw [e2] at q
        obtain ⟨a, x, m, w, c⟩ := q
        exact ⟨a, x, m, ⟨w, fun y => hn j ji (by rw [e2]; rfl) (by rw [x, y])⟩, c⟩
      | hd d =>
        rw [e2] at q
        obtain ⟨a, x, m, w, c⟩ := q
        exact ⟨a, x, m, by simp [Bs.hide, ji, w], c⟩
      | ex C fs => rw [e2] at q; exact q
  · have ow : ∀ j, (Fr.at (S.set i (.hd d)) j).own = true → (S.at j).own = true := fun j oj => by
      rw [at_set] at oj
      split at oj
      · rename_i z; rw [z.1, h]; rfl
      · exact oj
    exact R.dist j k a hjk (ow j oj) (ow k ok) ej ek
theorem Rep.unhide {M0 : Mset} {H0 : Hp} {σ0 : L2.St} {S0 : Fr} (R0 : Rep K ca B M0 H0 σ0 S0) {i : Nat} {p : Addr} (R : Rep K ca (B.hide H0 i p) M H σ S) (hw : B.Wr p) : Rep K ca B M H σ (unhide (some i) S) := by
  have key : Rep K ca B M H σ (match S.at i with | .hd d => S.set i (.ow d) | _ => S) := by
    have base : ∀ S', S'.length = S.length → (∀ j, SlotOk K ca B M H j σ[j]? (S'.at j)) → (∀ j, (S'.at j).own = true → (S.at j).own = true) → Rep K ca B M H σ S' := fun S' hl hs ho =>
      { len := hl.trans R.len, slot := hs, dist := fun j k a hjk oj ok => R.dist j k a hjk (ho j oj) (ho k ok), pres := fun a o h n => R.pres a o (R0.pres a o h n) fun z => n z.1,
        keep := fun a h => R0.keep a (R.keep a h), mt := R.mt, mc := fun a z => R.mc a (.inl z) }
    have other : ∀ j, j ≠ i ∨ (∀ d, S.at i ≠ .hd d) → SlotOk K ca B M H j σ[j]? (S.at j) := fun j hj => by
      have q := R.slot j
      cases e : S.at j with
      | no => trivial
      | fz d => rw [e] at q; exact q
      | ow d => rw [e] at q; obtain ⟨a, x, m, w, c⟩ := q; exact ⟨a, x, m, w.1, c⟩
      | hd d =>
        rw [e] at q
        obtain ⟨a, x, m, w, c⟩ := q
        have w' : (if j = i then some p else B.Hd j) = some a := w
        rcases hj with hj | hj
        · rw [if_neg hj] at w'; exact ⟨a, x, m, w', c⟩
        · by_cases ji : j = i
          · subst ji; exact absurd e (hj d)
          · rw [if_neg ji] at w'; exact ⟨a, x, m, w', c⟩
      | ex C fs => rw [e] at q; exact q
    cases e : S.at i with
    | hd d =>
      have hlt := at_lt (S := S) (i := i) (by rw [e]; exact fun z => nomatch z)
      refine base _ (by rw [List.length_set]) (fun j => ?_) (fun j oj => ?_)
      · by_cases ji : j = i
        · subst ji
          rw [at_set_self hlt]
          have q := R.slot j
          rw [e] at q
          obtain ⟨a, x, m, w, c⟩ := q
          have w' : (if j = j then some p else B.Hd j) = some a := w
          rw [if_pos rfl] at w'
          cases w'
          exact ⟨p, x, m, hw, c⟩
        · rw [at_set_ne ji]; exact other j (.inl ji)
      · rw [at_set] at oj
        split at oj
        · rename_i z; rw [z.1, e]; rfl
        · exact oj
    | _ => exact base S rfl (fun j => other j (.inr fun d => by rw [e]; exact fun z => nomatch z)) (fun j oj => oj)
  have e2 : Ev.unhide (some i) S = (match S.at i with | .hd d => S.set i (.ow d) | _ => S) := rfl
  rw [e2]
  exact key
end
end Ev
end

section
set_option maxRecDepth 100000
set_option maxHeartbeats 4000000
namespace Ev
open PySem PySem.Spec PyProof.Rows L2
section
variable (K : PySem.W.Frag) (ca : Nat → Addr)
/-- the arguments of a call; ios: where those stand that may be changed -/
inductive ArgsOk (M : Mset) (H : Hp) : List Bool → List V → List D → List Addr → Prop
  | nil {fl : List Bool} : ArgsOk M H fl [] [] []
  | v {fl : List Bool} {v : V} {vs : List V} {d : D} {ds : List D} {ios : List Addr} : fl.headD false = false → Dp K ca M H v d → ArgsOk M H fl.tail vs ds ios → ArgsOk M H fl (v :: vs) (d :: ds) ios
  | io {fl : List Bool} {a : Addr} {vs : List V} {d : D} {ds : List D} {ios : List Addr} : fl.headD false = true → M a → Cont K ca M H a d → a ∉ ios → ArgsOk M H fl.tail vs ds ios → ArgsOk M H fl (.ref a :: vs) (d :: ds) (a :: ios)
inductive OutsOk (M : Mset) (H : Hp) : List Addr → List D → Prop
  | nil : OutsOk M H [] []
  | cons {a : Addr} {as : List Addr} {d : D} {ds : List D} : M a → Cont K ca M H a d → OutsOk M H as ds → OutsOk M H (a :: as) (d :: ds)
structure FPost (M : Mset) (H : Hp) (ios : List Addr) (outs : List D) (M' : Mset) (H' : Hp) : Prop where
  pres : ∀ a o, H a = some o → a ∉ ios → H' a = some o
  keep : ∀ a, H' a = none → H a = none
  grow : ∀ a, M' a → M a ∨ H a = none
  mkeep : ∀ a, M a → M' a
  mt : ∀ a, M' a → H' a ≠ none
  outs : OutsOk K ca M' H' ios outs
def FRes (H : Hp) (M' : Mset) (H' : Hp) (r : D × Bool) (v : V) : Prop :=
  if r.2 then ∃ p, v = .ref p ∧ H p = none ∧ M' p ∧ Cont K ca M' H' p r.1 else Dp K ca M' H' v r.1
/-- a def's promise: it does what the pure function says -/
def spF (io : List Bool) (n : Nat) (Phi : FnR) : Sp := fun vs H Q E => vs.length = n ∧ ∃ M ds ios, (∀ a, M a → H a ≠ none) ∧ ArgsOk K ca M H io vs ds ios ∧
  match Phi ds with
  | none => False
  | some (outs, .ok r) => ∀ v M' H', FPost K ca M H ios outs M' H' → FRes K ca H M' H' r v → Q v H'
  | some (outs, .error e) => ∀ cls dd M' H', FPost K ca M H ios outs M' H' → ErrOk K ca M' H' e cls dd → E cls dd H'
end

/-- how the text's names are read -/
structure Tb where
  fns : List (Str × Nat)
  cls : List (Str × Nat)
  cons : List (Str × Nat)
  /-- names that the text does not bind: the built-in ones -/
  free : List Str
  /-- how many parameters a def has -/
  ar : Nat → Nat

/-- a def stands at a name and keeps its promise at level k -/
structure FnAt (P : Program) (w : World) (K : PySem.W.Frag) (mg : Str → Option Value) (base : Heap) (ca : Nat → Addr) (G : Gam) (T : Tb) (k : Nat) (i : Nat) (f : Addr) : Prop where
  ok : ∃ fd ps, ps.length = T.ar i ∧ Binds K fd ps [] ∧ FnOk P w K mg base (L2.CX P w) k f fd ps (spF K ca (G.io i) ps.length (G.Phi i))
  kp : PySem.W.keepIn K (.ref f) = true

def tys : List String := ["NoneType", "bool", "int", "str", "tuple", "list"]
def tyVal (ca : Nat → Addr) : Ty → Value
  | .ty n => .type n
  | .own D => .ref (ca D)
structure GOk (P : Program) (w : World) (K : PySem.W.Frag) (mg : Str → Option Value) (base : Heap) (ca : Nat → Addr) (G : Gam) (T : Tb) (k : Nat) : Prop where
  fn : ∀ x i, T.fns.lookup x = some i → ∃ f, mg x = some (.ref f) ∧ FnAt P w K mg base ca G T k i f
  free : ∀ x ∈ T.free, mg x = none
  con : ∀ x i d, T.cons.lookup x = some i → G.con i = some d → ∃ u v, mg x = some u ∧ RelV v u ∧ ∀ M H, Dp K ca M H v d
  cls : ∀ x C, T.cls.lookup x = some C → mg x = some (.ref (ca C))
  mkr : ∀ C i, G.init C = some i → ∃ f, L2.Mk K (ca C) f ∧ FnAt P w K mg base ca G T k i f
  mth : ∀ C m i, G.mth C m = some i → m ∉ G.flds C ∧ C ∈ G.ids ∧ ∃ f, Meth K (ca C) m f ∧ FnAt P w K mg base ca G T k i f
  ok : ∀ C ∈ G.ids, Cls K (ca C)
  fld : ∀ C ∈ G.ids, ∀ f ∈ G.flds C, NoAttr K (ca C) f
  isi : ∀ C ∈ G.ids, PySem.W.findIn K (.ref (ca C)) "__class__" = some (some (.builtin "object.__class__")) ∧ PySem.W.specialIn K (.builtin "object.__class__") "__get__" = some (some (.builtin "getset_descriptor.__get__")) ∧
    PySem.W.takesIn K (.builtin "object.__class__") = some true ∧ PySem.W.mroIn K (ca C) (.type "object") = some true
  kit : ∀ C ∈ G.ids, (∀ C' ∈ G.ids, PySem.W.kitOne K (.ref (ca C)) (.ref (ca C')) = some (C' == C)) ∧ (∀ n ∈ tys, PySem.W.kitOne K (.type n) (.ref (ca C)) = some false) ∧ ∀ n ∈ tys, PySem.W.kitOne K (.ref (ca C)) (.type n) = some false
  ert : ∀ C f, G.exf C = some f → (∃ fI, ErrTxt P K mg (ca C) fI f) ∧ XfC K (ca C)
  ek : ∀ C t b, G.ekit C t = some b → ExcC K (ca C) ∧ PySem.W.kitOne K (.ref (ca C)) (tyVal ca t) = some b

/-- one stands in the context of a def's body (or of a comprehension within, or of an except suite: then not calm) -/
structure CtxOk (X : Cx) (ca : Nat → Addr) (Ex : Addr → Nat → Addr → Prop) (G : Gam) (T : Tb) (k : Nat) (N : List Str) (sc : Scope) (calm : Bool) (W : WX) : Prop where
  hN : X.N = N
  hsc : X.env.scope = sc
  nd : N.Nodup
  hc : calm = true → X.calm = true
  room : calm = true → Room (k + 1) X.A
  ex : calm = true → Ex = fun _ _ _ => False
  un : X.A.units + 65 < cLine
  tk : Takes X W
  g : GOk X.prog X.w X.K X.mg X.base ca G T k
  exr : calm = false → ∀ (i : Nat) (x : Str) (pos apos : Pos) (f : Str), N[i]? = some x → Vis sc x → (x == ("__debug__" : Str)) = false → (x == ("__classdict__" : Str)) = false → (x == ("super" : Str)) = false →
    PE X (.Attribute (.Name x pos) f apos) (fun σ H Q => ∃ a C dd gs v, σ[i]? = some (some (.ref a)) ∧ Ex a C dd ∧ H dd = some (.xd gs) ∧ G.exf C = some f ∧ gs.lookup f = some v ∧ Q v H)

/-! ### calls with what is raised wished for at the caller's slots -/
section
variable {X : Cx} {CX : CXT} {k : Nat} {f C : Addr} {fd : FuncData} {ps : List Str} {sp : Sp} {E : L2.St → XK} {x m : Str} {p pos apos : Pos} {e o : Expr} {es : List Expr} {ta : TE} {t : TA}
theorem run_makeS {pins : List (Addr × Obj)} {σ : L2.St} {H : Hp} {s : Shared} {Q : VK} {us : List Value} {vs : List V} (M : Mk X.K C f) (F : FnOk X.prog X.w X.K X.mg X.base CX k f fd ps sp) (hr : Room (k + 1) X.A) (hb : Binds X.K fd ps [])
    (hx : PassesAt CX X σ (E σ)) (I : L2.Inv X pins σ H s) (r : Vals vs us)
    (h : ∀ x dx, H x = none → H dx = none → dx ≠ x → sp (.ref x :: vs) (upd (upd H dx (.own x)) x (.ins C dx [])) (fun v H2 => v = .non ∧ Q (.ref x) H2) (E σ)) :
    wpAny (model X.prog X.w) X.A (call (.ref C) us) (EP X pins σ Q) X.xe s := by
  have hq := h (s.heap.objs.size + 1) s.heap.objs.size (I.hok.fresh (Nat.le_succ _)) (I.hok.fresh (Nat.le_refl _)) (Nat.ne_of_lt (Nat.lt_succ_self _))
  have I2 := Inv.made (C := C) I
  have r2 : Vals (V.ref (s.heap.objs.size + 1) :: vs) (Value.ref (s.heap.objs.size + 1) :: us) := .cons rfl r
  have hl : (Value.ref (s.heap.objs.size + 1) :: us).length = ps.length := by
    have e := r2.length
    rw [F.len _ _ _ _ hq] at e
    exact e.symm
  have b := hb _ (Value.ref (s.heap.objs.size + 1) :: us) I2.kIn (by rw [List.append_nil]; exact hl)
  rw [List.append_nil] at b
  refine wpAny_call (make_map (f := f) I.kIn M.makes M.init (beq_iff_eq.mp M.fn) (codeAny_mono (F.run _ X.stack _ _ ⟨Value.ref (s.heap.objs.size + 1) :: us, []⟩ (Value.ref (s.heap.objs.size + 1) :: us) _ _ (E σ) (hr.make C us [])
    (I2.env0.make C us []) b r2 hq) fun r s' hq' => ?_))
  cases r with
  | error e => exact hx pins _ _ e s' I2 hq'
  | ok fl =>
    cases fl with
    | ret u =>
      obtain ⟨v, H', I3, rv, ev, q3⟩ := I2.after hq'
      subst ev
      exact ⟨rv, ⟨V.ref (s.heap.objs.size + 1), H', I3, rfl, q3⟩⟩
    | next => exact False.elim hq'
    | brk => exact False.elim hq'
    | cont => exact False.elim hq'
def tMakeS (C : Addr) (sp : Sp) (E : L2.St → XK) (t : TA) : TE := fun σ H Q => t σ H fun vs H1 => ∀ x dx, H1 x = none → H1 dx = none → dx ≠ x →
  sp (.ref x :: vs) (upd (upd H1 dx (.own x)) x (.ins C dx [])) (fun v H2 => v = .non ∧ Q (.ref x) H2) (E σ)
theorem pe_makeS (M : Mk X.K C f) (F : FnOk X.prog X.w X.K X.mg X.base CX k f fd ps sp) (hr : Room (k + 1) X.A) (hg : Gl X x) (hm : X.mg x = some (.ref C)) (hb : Binds X.K fd ps []) (hx : ∀ σ, PassesAt CX X σ (E σ))
    (ha : PA X (e :: es) t) (hdb : (x == ("__debug__" : Str)) = false) (he : starEach (e :: es) X.env = (false, eval e X.env) :: starEach es X.env) (hpl : (backTo pos (starEach es X.env)).any (·.1) = false) :
    PE X (.Call (.Name x p) (e :: es) [] pos) (tMakeS C sp E t) := by
  refine ⟨fun pins s σ H Q I h => ?_⟩
  refine wpAny_Call_Name_kw (ld_glob I hg hm ?_ hdb)
  refine PySem.W.callWith_K (h₀ := X.base) I.ok.mod.kin M.kp (thn (ha.run pos pins s σ H _ I h) fun us s1 ⟨vs, H1, I1, r, q⟩ => ⟨I1.kIn, ?_⟩) he hpl
  exact run_makeS M F hr hb (hx σ) I1 r q
/-- a method's reading: the object is read first; the class is found where it stands -/
def tMethS (X : Cx) (CX : CXT) (k : Nat) (m : Str) (E : L2.St → XK) (ta : TE) (t : TA) : TE := fun σ H Q => ta σ H fun x H1 => ∃ a C dx fs f fd ps sp, x = .ref a ∧ H1 a = some (.ins C dx fs) ∧ fs.lookup m = none ∧ Cls X.K C ∧ Meth X.K C m f ∧
  Binds X.K fd ps [] ∧ FnOk X.prog X.w X.K X.mg X.base CX k f fd ps sp ∧ t σ H1 fun vs H2 => sp (x :: vs) H2 Q (E σ)
theorem pe_methS {pl : Sem Bool} (he : PE X o ta) (hr : Room k X.A) (hx : ∀ σ, PassesAt CX X σ (E σ)) (ha : PA X (e :: es) t)
    (hst : starEach (e :: es) X.env = (false, eval e X.env) :: starEach es X.env) (hpl : (backTo pos (starEach es X.env)).any (·.1) = false)
    (ht : eval (.Call (.Attribute o m apos) (e :: es) [] pos) X.env = (do
      let ov ← eval o X.env
      standAt apos.atName
      let (f, first) ← holding [ov] (getMethod ov m pl)
      callWith pos f first (backTo pos (starEach (e :: es) X.env)) (backToKw pos (keywordEach [] X.env)))) :
    PE X (.Call (.Attribute o m apos) (e :: es) [] pos) (tMethS X CX k m E ta t) := by
  refine ⟨fun pins s σ H Q I h => ?_⟩
  refine PySem.W.methodCall_KW (pl := pl) (thn (he.run pins s σ H _ I h) fun u s1 ⟨x, H1, I1, rx, a, C, dx, fs, f, fd, ps, sp, ex, ea, l, c, hm, hb, F, q⟩ => ?_) ht
  subst ex
  obtain rfl : u = Value.ref a := rx
  refine getmeth_ok I1 ea c hm l ?_
  refine PySem.W.callWith_K (first := [.ref a]) (h₀ := X.base) I.ok.mod.kin hm.kp (thn (ha.run pos pins s1 σ H1 _ I1 q) fun us s2 ⟨vs, H2, I2, r, q2⟩ => ⟨I2.kIn, ?_⟩) hst hpl
  exact run_fnS (us := .ref a :: us) (vs := .ref a :: vs) F hr hb (hx σ) I2 (.cons rfl r) q2
theorem pe_methS0 {pl : Sem Bool} (he : PE X o ta) (hr : Room k X.A) (hx : ∀ σ, PassesAt CX X σ (E σ))
    (ht : eval (.Call (.Attribute o m apos) [] [] pos) X.env = (do
      let ov ← eval o X.env
      standAt apos.atName
      let (f, first) ← holding [ov] (getMethod ov m pl)
      callWith pos f first (backTo pos (starEach [] X.env)) (backToKw pos (keywordEach [] X.env)))) :
    PE X (.Call (.Attribute o m apos) [] [] pos) (tMethS X CX k m E ta tNil) := by
  refine ⟨fun pins s σ H Q I h => ?_⟩
  refine PySem.W.methodCall_KW (pl := pl) (thn (he.run pins s σ H _ I h) fun u s1 ⟨x, H1, I1, rx, a, C, dx, fs, f, fd, ps, sp, ex, ea, l, c, hm, hb, F, q⟩ => ?_) ht
  subst ex
  obtain rfl : u = Value.ref a := rx
  refine getmeth_ok I1 ea c hm l ?_
  exact PySem.W.callWith_K0 (first := [.ref a]) I1.kIn hm.kp (run_fnS (us := [.ref a]) (vs := [.ref a]) F hr hb (hx σ) I1 (.cons rfl .nil) q)
end

/-! ### arguments -/
section
variable (K : PySem.W.Frag) (ca : Nat → Addr)
inductive AgsOk (B : Bs) (σ : L2.St) (S : Fr) (M : Mset) (H : Hp) : List Bool → List Ag → List V → List Addr → Prop
  | nil {fl : List Bool} : AgsOk B σ S M H fl [] [] []
  | v {fl : List Bool} {v : V} {d : D} {ags : List Ag} {vs : List V} {ts : List Addr} : fl.headD false = false → Dp K ca M H v d → AgsOk B σ S M H fl.tail ags vs ts → AgsOk B σ S M H fl (.v d :: ags) (v :: vs) ts
  | io {fl : List Bool} {v : V} {i : Nat} {ags : List Ag} {vs : List V} {ts : List Addr} : fl.headD false = true → σ[i]? = some (some v) → AgsOk B σ S M H fl.tail ags vs ts → AgsOk B σ S M H fl (.io i :: ags) (v :: vs) ts
  | tmp {fl : List Bool} {p : Addr} {d : D} {ags : List Ag} {vs : List V} {ts : List Addr} : fl.headD false = true → M p → B.Wr p → Cont K ca M H p d → (∀ i, (S.at i).own = true → σ[i]? ≠ some (some (.ref p))) → p ∉ ts →
      AgsOk B σ S M H fl.tail ags vs ts → AgsOk B σ S M H fl (.tmp d :: ags) (.ref p :: vs) (p :: ts)
def okAs (fl : List Bool) (n : Nat) : Ok (List Ag) (List V) := fun B σ S M H ags vs => ∃ ts, AgsOk K ca B σ S M H fl ags vs ts ∧ vs.length = n
end
section
variable {K : PySem.W.Frag} {ca : Nat → Addr} {B B' : Bs} {M M' : Mset} {H H' : Hp} {σ : L2.St} {S S' : Fr}
theorem AgsOk.wr : ∀ {fl : List Bool} {ags : List Ag} {vs : List V} {ts : List Addr}, AgsOk K ca B σ S M H fl ags vs ts → ∀ p ∈ ts, B.Wr p
  | _, _, _, _, .nil, p, h => by simp at h
  | _, _, _, _, .v _ _ t, p, h => t.wr p h
  | _, _, _, _, .io _ _ t, p, h => t.wr p h
  | _, _, _, _, .tmp _ _ w _ _ _ t, p, h => by
    rcases List.mem_cons.mp h with rfl | h
    · exact w
    · exact t.wr p h
theorem AgsOk.base (hw : ∀ p, B'.Wr p → B.Wr p) : ∀ {fl : List Bool} {ags : List Ag} {vs : List V} {ts : List Addr}, AgsOk K ca B' σ S M H fl ags vs ts → AgsOk K ca B σ S M H fl ags vs ts
  | _, _, _, _, .nil => .nil
  | _, _, _, _, .v a b t => .v a b (t.base hw)
  | _, _, _, _, .io a b t => .io a b (t.base hw)
  | _, _, _, _, .tmp a b w c e f t => .tmp a b (hw _ w) c e f (t.base hw)
theorem Cont.keepAt {a : Addr} {d : D} (h : Cont K ca M H a d) (k : ∀ o, H a = some o → H' a = some o) (st : Stp M H M' H') : Cont K ca M' H' a d := by
  cases h with
  | lst x y => exact .lst (k _ x) (y.step st)
  | ins x y => exact .ins (k _ x) (y.step st)
variable {α β γ δ : Type} {ok : Ok α β} {okx okx' : Ok γ δ} {W : WX} {Q : β → Hp → Prop} {Q1 : δ → Hp → Prop}
theorem Run.rebase {x : Ev.M γ} (h : Run K ca okx W x B M S σ H Q1) (b' : B'.Ok) (R' : Rep K ca B' M H σ S) (back : ∀ M' H' S', Rep K ca B' M' H' σ S' → Rep K ca B M' H' σ S')
    (hok : ∀ S' M' H' a b, Rep K ca B' M' H' σ S' → Stp M H M' H' → okx' B' σ S' M' H' a b → okx B σ S' M' H' a b) : Run K ca okx' W x B' M S σ H Q1 := by
  obtain ⟨b, R, q⟩ := h
  refine ⟨b', R', ?_⟩
  cases e : x S with
  | none => rw [e] at q; exact q
  | some p =>
    obtain ⟨r, S1⟩ := p
    rw [e] at q
    cases r with
    | error er => exact fun M' H' cls dd R1 => q M' H' cls dd (back _ _ _ R1)
    | ok a => exact fun y M' H' R1 st o => q y M' H' (back _ _ _ R1) st (hok _ _ _ _ _ R1 st o)
theorem bnd_assoc {α β γ : Type} (x : Ev.M α) (f : α → Ev.M β) (g : β → Ev.M γ) : bnd (bnd x f) g = bnd x fun a => bnd (f a) g := by
  funext S
  unfold bnd
  cases x S with
  | none => rfl
  | some p => obtain ⟨r, S1⟩ := p; cases r <;> rfl
theorem ret_bnd {α β : Type} (a : α) (g : α → Ev.M β) : bnd (ret a) g = g a := rfl
theorem _root_.L2.PE.imp {X : Cx} {e : Expr} {t t' : TE} (h : PE X e t) (q : ∀ σ H Q, t' σ H Q → t σ H Q) : PE X e t' := ⟨fun pins s σ H Q I hw => h.run pins s σ H Q I (q σ H Q hw)⟩
theorem _root_.L2.PA.imp {X : Cx} {e : List Expr} {t t' : TA} (h : PA X e t) (q : ∀ σ H Q, t' σ H Q → t σ H Q) : PA X e t' := ⟨fun pos pins s σ H Q I hw => h.run pos pins s σ H Q I (q σ H Q hw)⟩
theorem _root_.L2.PT.imp {X : Cx} {e : Expr} {t t' : TT} (h : PT X e t) (q : ∀ σ H Q, t' σ H Q → t σ H Q) : PT X e t' := ⟨fun pins s σ H Q I hw => h.run pins s σ H Q I (q σ H Q hw)⟩
theorem _root_.L2.PW.imp {X : Cx} {e : Expr} {t t' : TT} (h : PW X e t) (q : ∀ σ H Q, t' σ H Q → t σ H Q) : PW X e t' := ⟨fun wh pins s σ H Q I hw => h.run wh pins s σ H Q I (q σ H Q hw)⟩
theorem _root_.L2.PO.imp {X : Cx} {e : Option Expr} {t t' : TO} (h : PO X e t) (q : ∀ σ H Q, t' σ H Q → t σ H Q) : PO X e t' := ⟨fun pins s σ H Q I hw => h.run pins s σ H Q I (q σ H Q hw)⟩
def okB : Ok Bool Bool := fun _ _ _ _ _ a b => a = b
def isBool : Expr → Bool
  | .BoolOp .. => true
  | _ => false
/-- what an expression's compiled form says of it -/
structure SE (X : Cx) (ca : Nat → Addr) (Ex : Addr → Nat → Addr → Prop) (G : Gam) (W : WX) (e : Expr) (c : CE) : Prop where
  v : PE X e (rdG X.K ca Ex (ResOk X.K ca) W (evE G c))
  o : PE X e (rdG X.K ca Ex (OpOk X.K ca) W (opd c (evE G c)))
  t : PT X e (rdG X.K ca Ex okB W (bnd (evE G c) asBl))
  w : isBool e = true → PW X e (rdG X.K ca Ex okB W (bnd (evE G c) asBl))
def isVar : CE → Bool
  | .var _ => true
  | _ => false
theorem opd_nv {c : CE} (h : isVar c = false) (r : Ev.M (D × Bool)) : opd c r = bnd r fun p => ret (.val p.1) := by
  cases c <;> first | rfl | cases h
theorem agd_nv {c : CE} (h : isVar c = false) (r : Ev.M (D × Bool)) : agd true c r = bnd r fun p => if p.2 then ret (.tmp p.1) else stuck := by
  cases c <;> first | rfl | cases h
theorem asBl_run {W : WX} {p : D × Bool} {Q : Bool → Hp → Prop} (h : Run K ca okB W (asBl p) B M S σ H Q) : ∃ b, p.1 = .bl b ∧ Run K ca okB W (ret b) B M S σ H Q := by
  obtain ⟨d, f⟩ := p
  cases d with
  | bl b => exact ⟨b, rfl, h⟩
  | _ => exact absurd h.2.2 (fun z => z)
theorem ResOk.bl {v : V} {p : D × Bool} {b : Bool} (h : ResOk K ca B σ S M H p v) (e : p.1 = .bl b) : v = .bl b := by
  unfold ResOk at h
  split at h
  · obtain ⟨a, _, _, _, c, _⟩ := h
    rw [e] at c
    cases c
  · rw [e] at h
    cases h; rfl
theorem ResOk.int {v : V} {p : D × Bool} {b : Int} (h : ResOk K ca B σ S M H p v) (e : p.1 = .int b) : v = .int b := by
  unfold ResOk at h
  split at h
  · obtain ⟨a, _, _, _, c, _⟩ := h
    rw [e] at c
    cases c
  · rw [e] at h
    cases h; rfl
/-- from a value to an operand -/
theorem SE.ov {X : Cx} {Ex : Addr → Nat → Addr → Prop} {G : Gam} {W : WX} {e : Expr} {c : CE} (hv : PE X e (rdG X.K ca Ex (ResOk X.K ca) W (evE G c))) (n : isVar c = false) : PE X e (rdG X.K ca Ex (OpOk X.K ca) W (opd c (evE G c))) := by
  refine hv.imp fun σ H Q ⟨B, M, S, he, h⟩ => ⟨B, M, S, he, ?_⟩
  rw [opd_nv n] at h
  refine h.bind fun a S1 b M1 H1 R1 st1 o1 h1 => ?_
  obtain ⟨M2, R2, st2, dp⟩ := o1.val h1.1 R1
  exact h1.ret R2 st2 dp
theorem SE.tv {X : Cx} {Ex : Addr → Nat → Addr → Prop} {G : Gam} {W : WX} {e : Expr} {c : CE} (hv : PE X e (rdG X.K ca Ex (ResOk X.K ca) W (evE G c))) (hwh : ∀ whole, isTrue e X.env whole = (do let v ← whole; standAt e.pos; holding [v] (truthy v))) : PT X e (rdG X.K ca Ex okB W (bnd (evE G c) asBl)) := by
  refine (pt_val hv hwh).imp fun σ H Q ⟨B, M, S, he, h⟩ => ⟨B, M, S, he, ?_⟩
  refine h.bind fun a S1 b M1 H1 R1 st1 o1 h1 => ?_
  obtain ⟨k, e, h2⟩ := asBl_run h1
  exact ⟨k, o1.bl e, h2.ret R1 .refl rfl⟩
/-- an expression of another form than those that are tests themselves -/
theorem SE.mk' {X : Cx} {Ex : Addr → Nat → Addr → Prop} {G : Gam} {W : WX} {e : Expr} {c : CE} (hv : PE X e (rdG X.K ca Ex (ResOk X.K ca) W (evE G c))) (n : isVar c = false) (hwh : ∀ whole, isTrue e X.env whole = (do let v ← whole; standAt e.pos; holding [v] (truthy v))) (hb : isBool e = false) : SE X ca Ex G W e c :=
  ⟨hv, SE.ov hv n, SE.tv hv hwh, fun z => by rw [hb] at z; cases z⟩

def noStar : Expr → Bool
  | .Starred .. => false
  | _ => true
theorem star_cons {e : Expr} (h : noStar e = true) (es : List Expr) (env : Env) : starEach (e :: es) env = (false, eval e env) :: starEach es env := by
  cases e <;> first | rfl | cases h
theorem star_plain {env : Env} {pos : Pos} : ∀ {es : List Expr}, es.all noStar = true → (backTo pos (starEach es env)).any (·.1) = false
  | [], _ => rfl
  | e :: es, h => by
    rw [List.all_cons, Bool.and_eq_true] at h
    rw [star_cons h.1]
    show (false || (backTo pos (starEach es env)).any (·.1)) = false
    rw [star_plain h.2]; rfl
inductive SEs (X : Cx) (ca : Nat → Addr) (Ex : Addr → Nat → Addr → Prop) (G : Gam) (W : WX) : List Expr → List CE → Prop
  | nil : SEs X ca Ex G W [] []
  | cons {e : Expr} {es : List Expr} {c : CE} {cs : List CE} : noStar e = true → SE X ca Ex G W e c → SEs X ca Ex G W es cs → SEs X ca Ex G W (e :: es) (c :: cs)
theorem SEs.all {X : Cx} {Ex : Addr → Nat → Addr → Prop} {G : Gam} {W : WX} : ∀ {es : List Expr} {cs : List CE}, SEs X ca Ex G W es cs → es.all noStar = true
  | _, _, .nil => rfl
  | _, _, .cons n _ t => by rw [List.all_cons, n, t.all]; rfl
theorem SEs.args {X : Cx} {Ex : Addr → Nat → Addr → Prop} {G : Gam} {W : WX} : ∀ {es : List Expr} {cs : List CE} (fl : List Bool), SEs X ca Ex G W es cs → PA X es (rdG X.K ca Ex (okAs X.K ca fl cs.length) W (evAs G fl cs))
  | _, _, fl, .nil => pa_nil.imp fun σ H Q ⟨B, M, S, he, h⟩ => h.ret h.2.1 .refl ⟨[], .nil, rfl⟩
  | e :: es, c :: cs, fl, .cons n hs t => by
    have ht := SEs.args fl.tail t
    have ha := star_cons n es X.env
    cases hf : fl.headD false with
    | false =>
      refine (pa_cons hs.v ht ha).imp fun σ H Q ⟨B, M, S, he, h⟩ => ⟨B, M, S, he, ?_⟩
      have e1 : evAs G fl (c :: cs) = bnd (evE G c) fun p => bnd (evAs G fl.tail cs) fun xs => ret (.v p.1 :: xs) := by
        show bnd (agd (fl.headD false) c (evE G c)) _ = _
        rw [hf]; unfold agd; rw [if_neg Bool.false_ne_true, bnd_assoc]; rfl
      rw [e1] at h
      refine h.bind fun a S1 v M1 H1 R1 st1 o1 h1 => ?_
      obtain ⟨M2, R2, st2, dp⟩ := o1.val h1.1 R1
      refine ⟨B, M2, S1, he, (h1.shift R2 st2).bind fun xs S2 vs M3 H3 R3 st3 o3 h3 => ?_⟩
      obtain ⟨ts, o3, l3⟩ := o3
      exact h3.ret R3 .refl ⟨ts, .v hf (dp.step st3) o3, by simp [l3]⟩
    | true =>
      cases hv : isVar c with
      | false =>
        refine (pa_cons hs.v ht ha).imp fun σ H Q ⟨B, M, S, he, h⟩ => ⟨B, M, S, he, ?_⟩
        have e1 : evAs G fl (c :: cs) = bnd (evE G c) fun p => bnd (if p.2 then ret (.tmp p.1) else stuck) fun x => bnd (evAs G fl.tail cs) fun xs => ret (x :: xs) := by
          show bnd (agd (fl.headD false) c (evE G c)) _ = _
          rw [hf, agd_nv hv, bnd_assoc]
        rw [e1] at h
        refine h.bind fun a S1 v M1 H1 R1 st1 o1 h1 => ?_
        cases hp : a.2 with
        | false =>
          rw [hp, if_neg Bool.false_ne_true] at h1
          exact absurd h1.2.2 (fun z => z)
        | true =>
          rw [hp, if_pos rfl, ret_bnd] at h1
          unfold ResOk at o1
          rw [if_pos hp] at o1
          obtain ⟨p, rfl, hm, hw, hc, hn⟩ := o1
          obtain ⟨o, ho⟩ := hc.there
          have b' := Bs.but_ok h1.1 R1 ho
          have R' := R1.but hm hn
          refine ⟨B.but H1 p, M1, S1, he, ?_⟩
          refine Run.rebase (okx := fun B2 σ S' M' H' ags vs => okAs X.K ca fl.tail cs.length B2 σ S' M' H' ags vs ∧ Rep X.K ca (B.but H1 p) M' H' σ S' ∧ ∃ ts, AgsOk X.K ca (B.but H1 p) σ S' M' H' fl.tail ags vs ts ∧ vs.length = cs.length) ?_ b' R' (fun _ _ _ R => R1.unbut R hw) ?_
          · refine h1.bind fun xs S2 vs M3 H3 R3 st3 o3 h3 => ?_
            obtain ⟨_, Rb, ts, ags, l3⟩ := o3
            refine h3.ret R3 .refl ⟨p :: ts, .tmp hf (Rb.mc p (.inr rfl)) hw (hc.keepAt (fun o ho => Rb.pres p o ho fun z => z.2 rfl) st3) ?_ ?_ (AgsOk.base (B' := B.but H1 p) (fun _ z => z.1) ags), by simp [l3]⟩
            · intro i hi
              have q := Rb.slot i
              cases e5 : S2.at i with
              | no => rw [e5] at hi; cases hi
              | fz d => rw [e5] at hi; cases hi
              | ex C fs => rw [e5] at hi; cases hi
              | ow d =>
                rw [e5] at q
                obtain ⟨a2, x, _, w, _⟩ := q
                rw [x]; intro z; cases z; exact w.2 rfl
              | hd d =>
                rw [e5] at q
                obtain ⟨a2, x, _, w, _⟩ := q
                rw [x]; intro z; cases z
                exact h1.1.hid i _ w hw
            · intro hz
              exact (ags.wr p hz).2 rfl
          · intro S' M' H' a2 b2 R2 st2 o2
            obtain ⟨ts, o2, l2⟩ := o2
            exact ⟨⟨ts, AgsOk.base (B' := B.but H1 p) (fun _ z => z.1) o2, l2⟩, R2, ts, o2, l2⟩
      | true =>
        cases c with
        | var i =>
          refine (pa_cons hs.o ht ha).imp fun σ H Q ⟨B, M, S, he, h⟩ => ⟨B, M, S, he, ?_⟩
          obtain ⟨b, R, q⟩ := h
          have e1 : evAs G fl (.var i :: cs) = bnd (fun S => match S.at i with | .ow _ => some (.ok (Ag.io i), S) | _ => none) fun x => bnd (evAs G fl.tail cs) fun xs => ret (x :: xs) := by
            show bnd (agd (fl.headD false) _ _) _ = _
            rw [hf]; rfl
          rw [e1] at q
          refine ⟨b, R, ?_⟩
          dsimp only [opd]
          dsimp only [bnd] at q
          cases e2 : S.at i with
          | ow d =>
            rw [e2] at q
            dsimp only at q ⊢
            refine fun v M1 H1 R1 st1 o1 => ?_
            have h1 : Run X.K ca (okAs X.K ca fl (CE.var i :: cs).length) W (bnd (evAs G fl.tail cs) fun xs => ret (.io i :: xs)) B M S σ H Q := ⟨b, R, q⟩
            refine ⟨B, M1, S, he, (h1.shift R1 st1).bind fun xs S2 vs M3 H3 R3 st3 o3 h3 => ?_⟩
            obtain ⟨ts, o3, l3⟩ := o3
            exact h3.ret R3 .refl ⟨ts, .io hf o1 o3, by simp [l3]⟩
          | _ => rw [e2] at q; exact q.elim
        | _ => cases hv
end
end Ev
end

section
set_option maxRecDepth 100000
set_option maxHeartbeats 4000000
namespace Ev
open PySem PySem.Spec PyProof.Rows L2
section
variable {K : PySem.W.Frag} {ca : Nat → Addr} {B B' : Bs} {M M' : Mset} {H H' : Hp} {σ : L2.St} {S S' : Fr}

def clearA : List Ag → Fr → Fr
  | [], S => S
  | .io i :: r, S => clearA r (S.set i .no)
  | _ :: r, S => clearA r S
theorem clearA_set {i : Nat} {x : Slot} : ∀ {ags : List Ag} {S : Fr}, i ∉ agIos ags → clearA ags (S.set i x) = (clearA ags S).set i x
  | [], _, _ => rfl
  | .io j :: r, S, h => by
    simp only [agIos, List.mem_cons, not_or] at h
    show clearA r ((S.set i x).set j .no) = (clearA r (S.set j .no)).set i x
    rw [List.set_comm _ _ h.1, clearA_set h.2]
  | .v _ :: r, S, h => clearA_set (ags := r) h
  | .tmp _ :: r, S, h => clearA_set (ags := r) h
/-- where the things stand that may be changed -/
inductive IosOk (σ : L2.St) (S : Fr) : List Ag → List Addr → Prop
  | nil : IosOk σ S [] []
  | v {d : D} {ags : List Ag} {ios : List Addr} : IosOk σ S ags ios → IosOk σ S (.v d :: ags) ios
  | io {i : Nat} {a : Addr} {d : D} {ags : List Ag} {ios : List Addr} : σ[i]? = some (some (.ref a)) → S.at i = .ow d → IosOk σ S ags ios → IosOk σ S (.io i :: ags) (a :: ios)
  | tmp {p : Addr} {d : D} {ags : List Ag} {ios : List Addr} : (∀ i, (S.at i).own = true → σ[i]? ≠ some (some (.ref p))) → IosOk σ S ags ios → IosOk σ S (.tmp d :: ags) (p :: ios)
theorem AgsOk.nown : ∀ {fl : List Bool} {ags : List Ag} {vs : List V} {ts : List Addr}, AgsOk K ca B σ S M H fl ags vs ts → ∀ p ∈ ts, ∀ i, (S.at i).own = true → σ[i]? ≠ some (some (.ref p))
    | _, _, _, _, .nil, p, h => by simp at h
    | _, _, _, _, .v _ _ t, p, h => AgsOk.nown t p h
    | _, _, _, _, .io _ _ t, p, h => AgsOk.nown t p h
    | _, _, _, _, .tmp _ _ _ _ hn _ t, p, h => by
      rcases List.mem_cons.mp h with rfl | h
      · exact hn
      · exact AgsOk.nown t p h
theorem AgsOk.own : ∀ {fl : List Bool} {ags : List Ag} {vs : List V} {ts : List Addr} {ds : List D}, AgsOk K ca B σ S M H fl ags vs ts → agRds S ags = some ds → ∀ j ∈ agIos ags, (S.at j).own = true
    | _, _, _, _, _, .nil, e, j, h => by simp [agIos] at h
    | _, .v d :: ags, _, _, _, .v _ _ t, e, j, h => by
      simp only [agRds, Ag.rd] at e
      cases e2 : agRds S ags with
      | none => rw [e2] at e; cases e
      | some ds' => exact AgsOk.own t e2 j h
    | _, .tmp d :: ags, _, _, _, .tmp _ _ _ _ _ _ t, e, j, h => by
      simp only [agRds, Ag.rd] at e
      cases e2 : agRds S ags with
      | none => rw [e2] at e; cases e
      | some ds' => exact AgsOk.own t e2 j h
    | _, .io i :: ags, _, _, _, .io _ _ t, e, j, h => by
      simp only [agRds, Ag.rd] at e
      cases e1 : S.at i with
      | ow d =>
        rw [e1] at e
        cases e2 : agRds S ags with
        | none => rw [e2] at e; cases e
        | some ds' =>
          simp only [agIos, List.mem_cons] at h
          rcases h with rfl | h
          · rw [e1]; rfl
          · exact AgsOk.own t e2 j h
      | _ => rw [e1] at e; cases e
theorem AgsOk.argsOk (R : Rep K ca B M H σ S) : ∀ {fl : List Bool} {ags : List Ag} {vs : List V} {ts : List Addr} {ds : List D}, AgsOk K ca B σ S M H fl ags vs ts → agRds S ags = some ds → (agIos ags).Nodup →
    ∃ ios, ArgsOk K ca M H fl vs ds ios ∧ IosOk σ S ags ios ∧ (∀ a ∈ ios, B.Wr a ∧ M a ∧ (a ∈ ts ∨ ∃ i ∈ agIos ags, σ[i]? = some (some (.ref a))))
  | _, _, _, _, ds, .nil, e, _ => by
    simp only [agRds, Option.some.injEq] at e; subst e
    exact ⟨[], .nil, .nil, by simp⟩
  | fl, .v d :: ags, x :: vs, ts, ds, .v hf hd t, e, nd => by
    simp only [agRds, Ag.rd] at e
    cases e2 : agRds S ags with
    | none => rw [e2] at e; cases e
    | some ds' =>
      rw [e2] at e
      simp only [Option.some.injEq] at e
      subst e
      obtain ⟨ios, a, b, c⟩ := t.argsOk R e2 nd
      exact ⟨ios, .v hf hd a, .v b, c⟩
  | fl, .io i :: ags, x0 :: vs, ts, ds, .io hf hv t, e, nd => by
    simp only [agRds, Ag.rd] at e
    have nd' : i ∉ agIos ags ∧ (agIos ags).Nodup := by simpa [agIos] using nd
    cases e1 : S.at i with
    | ow d =>
      rw [e1] at e
      cases e2 : agRds S ags with
      | none => rw [e2] at e; cases e
      | some ds' =>
        rw [e2] at e
        simp only [Option.some.injEq] at e
        subst e
        obtain ⟨ios, a, b, c⟩ := t.argsOk R e2 nd'.2
        have q := R.slot i
        rw [e1] at q
        obtain ⟨x, hx, hm, hw, cc⟩ := q
        rw [hv] at hx
        cases hx
        have hn : x ∉ ios := fun z => by
          obtain ⟨_, _, y⟩ := c x z
          rcases y with y | ⟨j, hj, ej⟩
          · exact t.nown x y i (by rw [e1]; rfl) hv
          · have hji : j ≠ i := fun z => nd'.1 (by rw [← z]; exact hj)
            have oj : (S.at j).own = true := t.own e2 j hj
            exact R.dist j i x hji oj (by rw [e1]; rfl) ej hv
        refine ⟨x :: ios, .io hf hm cc hn a, .io hv e1 b, fun y hy => ?_⟩
        rcases List.mem_cons.mp hy with rfl | hy
        · exact ⟨hw, hm, .inr ⟨i, by simp [agIos], hv⟩⟩
        · obtain ⟨p1, p2, p3⟩ := c y hy
          exact ⟨p1, p2, p3.elim .inl fun ⟨j, hj, ej⟩ => .inr ⟨j, by simp [agIos, hj], ej⟩⟩
    | _ => rw [e1] at e; cases e
  | fl, .tmp d :: ags, _, _, ds, .tmp (p := p) hf hm hw hc hn hp t, e, nd => by
    simp only [agRds, Ag.rd] at e
    cases e2 : agRds S ags with
    | none => rw [e2] at e; cases e
    | some ds' =>
      rw [e2] at e
      simp only [Option.some.injEq] at e
      subst e
      obtain ⟨ios, a, b, c⟩ := t.argsOk R e2 nd
      have hni : p ∉ ios := fun z => by
        obtain ⟨_, _, y⟩ := c p z
        rcases y with y | ⟨j, hj, ej⟩
        · exact hp y
        · exact hn j (t.own e2 j hj) ej
      refine ⟨p :: ios, .io hf hm hc hni a, .tmp hn b, fun y hy => ?_⟩
      rcases List.mem_cons.mp hy with rfl | hy
      · exact ⟨hw, hm, .inl (by simp)⟩
      · obtain ⟨p1, p2, p3⟩ := c y hy
        exact ⟨p1, p2, p3.elim (fun z => .inl (List.mem_cons_of_mem _ z)) fun ⟨j, hj, ej⟩ => .inr ⟨j, hj, ej⟩⟩
theorem clear_at {i : Nat} : ∀ {ags : List Ag} {S : Fr}, (Fr.at (clearA ags S) i).own = true → (S.at i).own = true ∧ i ∉ agIos ags
  | [], S, h => ⟨h, by simp [agIos]⟩
  | .io j :: r, S, h => by
    obtain ⟨h1, h2⟩ := clear_at (ags := r) h
    rw [at_set] at h1
    split at h1
    · cases h1
    · rename_i z
      refine ⟨h1, ?_⟩
      simp only [agIos, List.mem_cons, not_or]
      refine ⟨fun e => ?_, h2⟩
      subst e
      exact z ⟨rfl, at_lt fun y => by rw [y] at h1; cases h1⟩
  | .v _ :: r, S, h => clear_at (ags := r) h
  | .tmp _ :: r, S, h => clear_at (ags := r) h
theorem Rep.clear : ∀ {ags : List Ag} {S : Fr}, Rep K ca B M H σ S → Rep K ca B M H σ (clearA ags S)
  | [], _, R => R
  | .io j :: r, S, R => Rep.clear (ags := r) (R.setS trivial fun z => nomatch z)
  | .v _ :: r, S, R => Rep.clear (ags := r) R
  | .tmp _ :: r, S, R => Rep.clear (ags := r) R
theorem IosOk.set {i : Nat} {x : Slot} : ∀ {ags : List Ag} {ios : List Addr} {S : Fr}, IosOk σ S ags ios → i ∉ agIos ags → (x.own = true → (S.at i).own = true) → IosOk σ (S.set i x) ags ios
  | _, _, _, .nil, _, _ => .nil
  | _, _, _, .v t, h, hx => .v (t.set h hx)
  | _, _, S, .io (i := j) a b t, h, hx => by
    simp only [agIos, List.mem_cons, not_or] at h
    exact .io a (by rw [at_set_ne (fun z => h.1 z.symm)]; exact b) (t.set h.2 hx)
  | _, _, S, .tmp a t, h, hx => .tmp (fun j oj => a j (by
      rw [at_set] at oj
      split at oj
      · rename_i z; rw [z.1]; exact hx oj
      · exact oj)) (t.set h hx)
theorem back_rep : ∀ {ags : List Ag} {outs : List D} {ios : List Addr} {S S' : Fr}, IosOk σ S ags ios → OutsOk K ca M' H' ios outs → agBack ags outs S = some S' → (agIos ags).Nodup → (∀ a ∈ ios, B.Wr a) →
    (∀ i j a, i ∈ agIos ags → j ∈ agIos ags → i ≠ j → σ[i]? = some (some (.ref a)) → σ[j]? = some (some (.ref a)) → False) →
    (∀ i a, i ∈ agIos ags → σ[i]? = some (some (.ref a)) → ∀ j, (Fr.at (clearA ags S) j).own = true → σ[j]? ≠ some (some (.ref a))) →
    Rep K ca B M' H' σ (clearA ags S) → Rep K ca B M' H' σ S' ∧ ∀ i, (S'.at i).own = true → (S.at i).own = true
  | [], _, _, S, S', .nil, o, e, _, _, _, _, R => by
    cases o
    simp only [agBack, Option.some.injEq] at e
    subst e
    exact ⟨R, fun _ z => z⟩
  | .v _ :: ags, outs, ios, S, S', .v t, o, e, nd, hw, hd, hn, R => back_rep t o (by simpa only [agBack] using e) nd hw hd hn R
  | .tmp _ :: ags, _, _ :: ios, S, S', .tmp _ t, .cons _ _ o, e, nd, hw, hd, hn, R => back_rep t o (by simpa only [agBack] using e) nd (fun a h => hw a (List.mem_cons_of_mem _ h)) hd hn R
  | .io i :: ags, _, a :: ios, S, S', .io ha hs t, .cons (d := d) hm hc o, e, nd, hw, hd, hn, R => by
    have nd' : i ∉ agIos ags ∧ (agIos ags).Nodup := by simpa [agIos] using nd
    simp only [agBack] at e
    have hlt : i < S.length := at_lt (S := S) (i := i) (by rw [hs]; exact fun z => nomatch z)
    have R0 : Rep K ca B M' H' σ ((clearA ags S).set i .no) := by
      have e3 : clearA (.io i :: ags) S = (clearA ags S).set i .no := by show clearA ags (S.set i .no) = _; rw [clearA_set nd'.1]
      rw [e3] at R; exact R
    have hown : ∀ j, j ≠ i → (Fr.at (clearA ags S) j).own = true → σ[j]? ≠ some (some (.ref a)) := fun j ji oj => hn i a (by simp [agIos]) ha j (by
      have e3 : clearA (.io i :: ags) S = (clearA ags S).set i .no := by show clearA ags (S.set i .no) = _; rw [clearA_set nd'.1]
      rw [e3, at_set_ne ji]; exact oj)
    have R1 : Rep K ca B M' H' σ (clearA ags (S.set i (.ow d))) := by
      rw [clearA_set nd'.1]
      have R2 := R0.setS (i := i) (s := .ow d) ⟨a, ha, hm, hw a List.mem_cons_self, hc⟩ (fun _ j a2 ji oj e1 e2 => by
        rw [at_set_ne ji] at oj
        rw [ha] at e1; cases e1
        exact hown j ji oj e2)
      rwa [List.set_set] at R2
    obtain ⟨R3, h3⟩ := back_rep (t.set nd'.1 (fun _ => by rw [hs]; rfl)) o e nd'.2 (fun a h => hw a (List.mem_cons_of_mem _ h))
      (fun x y b hx hy => hd x y b (by simp [agIos, hx]) (by simp [agIos, hy])) (fun x b hx eb j oj => by
        rw [clearA_set nd'.1] at oj
        by_cases ji : j = i
        · subst ji
          intro ej
          exact hd x j b (by simp [agIos, hx]) (by simp [agIos]) (fun z => nd'.1 (by rw [← z]; exact hx)) eb ej
        · rw [at_set_ne ji] at oj
          exact hn x b (by simp [agIos, hx]) eb j (by
            have e3 : clearA (.io i :: ags) S = (clearA ags S).set i .no := by show clearA ags (S.set i .no) = _; rw [clearA_set nd'.1]
            rw [e3, at_set_ne ji]; exact oj)) R1
    refine ⟨R3, fun j oj => ?_⟩
    have q := h3 j oj
    rw [at_set] at q
    split at q
    · rename_i z; rw [z.1, hs]; rfl
    · exact q
/-- behind a call -/
theorem call_rep (b : B.Ok) (R : Rep K ca B M H σ S) {ags : List Ag} {ios : List Addr} {outs : List D} (iok : IosOk σ S ags ios) (nd : (agIos ags).Nodup) (hw : ∀ a ∈ ios, B.Wr a ∧ M a)
    (hio : ∀ i ∈ agIos ags, (S.at i).own = true) (hat : ∀ a ∈ ios, ∀ j, (S.at j).own = true → σ[j]? = some (some (.ref a)) → j ∈ agIos ags)
    {H1 : Hp} {M1 : Mset} (al : Al H H1) (hM : ∀ a, M a → M1 a) (hM2 : ∀ a, M1 a → M a ∨ H a = none) {ios' : List Addr} (hios : ∀ a ∈ ios', a ∈ ios ∨ H a = none) (p : FPost K ca M1 H1 ios' outs M' H') {outs' : List D} (po : OutsOk K ca M' H' ios outs') (e : agBack ags outs' S = some S') :
    Rep K ca B M' H' σ S' ∧ Stp M H M' H' ∧ ∀ i, (S'.at i).own = true → (S.at i).own = true := by
  have keepH : ∀ a, H' a = none → H a = none := fun a z => by
    have z1 := p.keep a z
    cases q : H a with
    | none => rfl
    | some o => rw [al a o q] at z1; cases z1
  have presH : ∀ a o, H a = some o → a ∉ ios → H' a = some o := fun a o q n => p.pres a o (al a o q) fun z => (hios a z).elim n fun z => by rw [q] at z; cases z
  have st : Stp M H M' H' := ⟨fun a o q n => presH a o q fun z => n (hw a z).2, fun a z => by
    rcases p.grow a z with z | z
    · exact hM2 a z
    · right
      cases q : H a with
      | none => rfl
      | some o => rw [al a o q] at z; cases z⟩
  have R0 : Rep K ca B M H σ (clearA ags S) := R.clear
  have R1 : Rep K ca B M' H' σ (clearA ags S) :=
    { len := R0.len
      slot := fun i => by
        have q := R0.slot i
        have own : ∀ a, (Fr.at (clearA ags S) i).own = true → σ[i]? = some (some (.ref a)) → a ∉ ios := fun a o x z => by
          obtain ⟨o1, o2⟩ := clear_at o
          exact o2 (hat a z i o1 x)
        cases e1 : Fr.at (clearA ags S) i with
        | no => trivial
        | fz d => rw [e1] at q; obtain ⟨v, x, c⟩ := q; exact ⟨v, x, c.step st⟩
        | ow d =>
          rw [e1] at q
          obtain ⟨a, x, m, w, c⟩ := q
          exact ⟨a, x, p.mkeep a (hM a m), w, c.keepAt (fun o ho => presH a o ho (own a (by rw [e1]; rfl) x)) st⟩
        | hd d =>
          rw [e1] at q
          obtain ⟨a, x, m, w, c⟩ := q
          exact ⟨a, x, p.mkeep a (hM a m), w, c.keepAt (fun o ho => presH a o ho (own a (by rw [e1]; rfl) x)) st⟩
        | ex C fs =>
          rw [e1] at q
          obtain ⟨a, dd, gs, x, q1, h1, n, c⟩ := q
          exact ⟨a, dd, gs, x, q1, st.pres _ _ h1 n, fun z => (st.grow _ z).elim n (fun e => by rw [h1] at e; cases e), c.step st⟩
      dist := R0.dist
      pres := fun a o h n => presH a o (R.pres a o h n) fun z => n (hw a z).1
      keep := fun a h => R.keep a (keepH a h)
      mt := p.mt
      mc := fun a h => p.mkeep a (hM a (R.mc a h)) }
  obtain ⟨R2, h2⟩ := back_rep iok po e nd (fun a h => (hw a h).1) (fun i j a hi hj hij ei ej => R.dist i j a hij (hio i hi) (hio j hj) ei ej) (fun i a hi ei j oj ej => by
    obtain ⟨o1, o2⟩ := clear_at oj
    exact R.dist i j a (fun z => o2 (by rw [← z]; exact hi)) (hio i hi) o1 ei ej) R1
  exact ⟨R2, st, h2⟩
end
end Ev
end

section
set_option maxRecDepth 100000
set_option maxHeartbeats 4000000
namespace Ev
open PySem PySem.Spec PyProof.Rows L2
section
variable {K : PySem.W.Frag} {ca : Nat → Addr} {B B' : Bs} {M M' : Mset} {H H' : Hp} {σ : L2.St} {S S' : Fr} {W : WX}

theorem ResOk.of_fres (b : B.Ok) (R : Rep K ca B M H σ S) (ho : ∀ i, (S'.at i).own = true → (S.at i).own = true) {r : D × Bool} {v : V} (h : FRes K ca H M' H' r v) : ResOk K ca B σ S' M' H' r v := by
  unfold FRes at h
  unfold ResOk
  split at h
  · rename_i hf
    rw [if_pos hf]
    obtain ⟨p, e, hp, hm, c⟩ := h
    refine ⟨p, e, hm, R.wr b hp, c, fun i oi x => ?_⟩
    obtain ⟨a, d, _, ea, _, cc⟩ := R.ownAt (ho i oi)
    rw [x] at ea
    cases ea
    obtain ⟨u, hu⟩ := cc.there
    rw [hp] at hu; cases hu
  · rename_i hf
    rw [if_neg hf]
    exact h
theorem IosOk.at : ∀ {ags : List Ag} {ios : List Addr}, IosOk σ S ags ios → (∀ i j a, i ≠ j → (S.at i).own = true → (S.at j).own = true → σ[i]? = some (some (.ref a)) → σ[j]? = some (some (.ref a)) → False) →
    ∀ a ∈ ios, ∀ j, (S.at j).own = true → σ[j]? = some (some (.ref a)) → j ∈ agIos ags
  | _, _, .nil, _, a, h, _, _, _ => by simp at h
  | _, _, .v t, hd, a, h, j, oj, ej => t.at hd a h j oj ej
  | _, _, .io (i := i) (a := x) ha hs t, hd, a, h, j, oj, ej => by
    simp only [agIos, List.mem_cons]
    rcases List.mem_cons.mp h with e | h
    · cases e
      by_cases e2 : j = i
      · exact .inl e2
      · exact (hd j i _ e2 oj (by rw [hs]; rfl) ej ha).elim
    · exact .inr (t.at hd a h j oj ej)
  | _, _, .tmp hn t, hd, a, h, j, oj, ej => by
    rcases List.mem_cons.mp h with e | h
    · cases e; exact (hn j oj ej).elim
    · exact t.at hd a h j oj ej
theorem OutsOk.mono {ios : List Addr} {outs : List D} (h : OutsOk K ca M H ios outs) : OutsOk K ca M H ios outs := h
theorem callF_sp {n : Nat} {Phi : FnR} {ags : List Ag} {fl : List Bool} {vs : List V} {ts : List Addr} {Q : VK} (h : Run K ca (ResOk K ca) W (callF Phi ags) B M S σ H Q) (as : AgsOk K ca B σ S M H fl ags vs ts) (hl : vs.length = n) :
    spF K ca fl n Phi vs H Q (WE W σ) := by
  obtain ⟨b, R, q⟩ := h
  unfold callF at q
  cases e1 : agRds S ags with
  | none => rw [e1] at q; exact q.elim
  | some ds =>
    rw [e1] at q
    dsimp only at q
    split at q
    · exact q.elim
    · rename_i a S1 e
      split at e
      · rename_i nd
        obtain ⟨ios, hargs, iok, hw⟩ := as.argsOk R e1 nd
        have hat := iok.at R.dist
        refine ⟨hl, M, ds, ios, R.mt, hargs, ?_⟩
        cases e2 : Phi ds with
        | none => rw [e2] at e; cases e
        | some p =>
          obtain ⟨outs, r⟩ := p
          rw [e2] at e
          dsimp only at e ⊢
          cases e3 : agBack ags outs S with
          | none => rw [e3] at e; cases e
          | some S2 =>
            rw [e3] at e
            simp only [Option.some.injEq, Prod.mk.injEq] at e
            obtain ⟨e4, e5⟩ := e
            subst e4 e5
            intro v M' H' fp fr
            obtain ⟨R2, st, ho⟩ := call_rep b R iok nd (fun a h => ⟨(hw a h).1, (hw a h).2.1⟩) (as.own e1) hat Al.refl (fun a h => h) (fun a h => .inl h) (fun a h => .inl h) fp fp.outs e3
            exact q v M' H' R2 st (ResOk.of_fres b R ho fr)
      · cases e
    · rename_i er S1 e
      split at e
      · rename_i nd
        obtain ⟨ios, hargs, iok, hw⟩ := as.argsOk R e1 nd
        have hat := iok.at R.dist
        refine ⟨hl, M, ds, ios, R.mt, hargs, ?_⟩
        cases e2 : Phi ds with
        | none => rw [e2] at e; cases e
        | some p =>
          obtain ⟨outs, r⟩ := p
          rw [e2] at e
          dsimp only at e ⊢
          cases e3 : agBack ags outs S with
          | none => rw [e3] at e; cases e
          | some S2 =>
            rw [e3] at e
            simp only [Option.some.injEq, Prod.mk.injEq] at e
            obtain ⟨e4, e5⟩ := e
            subst e4 e5
            intro cls dd M' H' fp fr
            obtain ⟨R2, st, ho⟩ := call_rep b R iok nd (fun a h => ⟨(hw a h).1, (hw a h).2.1⟩) (as.own e1) hat Al.refl (fun a h => h) (fun a h => .inl h) (fun a h => .inl h) fp fp.outs e3
            exact q M' H' cls dd R2 st fr
      · cases e
/-- C(..) -/
theorem makeF_sp {n C : Nat} {Phi : FnR} {ags : List Ag} {fl : List Bool} {vs : List V} {ts : List Addr} {Q : VK} (h : Run K ca (ResOk K ca) W (makeF Phi C ags) B M S σ H Q) (hf : fl.headD false = true) (as : AgsOk K ca B σ S M H fl.tail ags vs ts) (hl : vs.length + 1 = n)
    {x dx : Addr} (hx : H x = none) (hdx : H dx = none) (hne : dx ≠ x) : spF K ca fl n Phi (.ref x :: vs) (upd (upd H dx (.own x)) x (.ins (ca C) dx [])) (fun v H2 => v = .non ∧ Q (.ref x) H2) (WE W σ) := by
  obtain ⟨b, R, q⟩ := h
  have al : Al H (upd (upd H dx (.own x)) x (.ins (ca C) dx [])) := fun a o e => by
    rw [upd_ne (ne_of_none e hx), upd_ne (ne_of_none e hdx)]; exact e
  have st1 : Stp M H (fun a => M a ∨ a = x) (upd (upd H dx (.own x)) x (.ins (ca C) dx [])) := ⟨fun a o e _ => al a o e, fun a z => z.elim .inl fun z => .inr (by rw [z]; exact hx)⟩
  unfold makeF at q
  cases e1 : agRds S ags with
  | none => rw [e1] at q; exact q.elim
  | some ds =>
    rw [e1] at q
    dsimp only at q
    by_cases nd : (agIos ags).Nodup
    · rw [if_pos nd] at q
      obtain ⟨ios, hargs, iok, hw⟩ := as.argsOk R e1 nd
      have hat := iok.at R.dist
      have hxi : x ∉ ios := fun z => R.mt x (hw x z).2.1 hx
      have hargs1 : ArgsOk K ca (fun a => M a ∨ a = x) (upd (upd H dx (.own x)) x (.ins (ca C) dx [])) fl.tail vs ds ios := argsStep hargs al st1
      refine ⟨by simp [hl], fun a => M a ∨ a = x, .ins C [] :: ds, x :: ios, fun a z e => ?_, .io hf (.inr rfl) (.ins upd_same .nil) hxi hargs1, ?_⟩
      · rcases z with z | z
        · exact al.mt R.mt a z e
        · rw [z, upd_same] at e; cases e
      · cases e2 : Phi (.ins C [] :: ds) with
        | none => rw [e2] at q; exact q.elim
        | some p =>
          obtain ⟨outs, r⟩ := p
          rw [e2] at q
          cases outs with
          | nil => cases r <;> exact q.elim
          | cons o outs =>
            cases r with
            | ok r =>
              obtain ⟨d, f⟩ := r
              cases d with
              | non =>
                dsimp only at q ⊢
                cases e3 : agBack ags outs S with
                | none => rw [e3] at q; exact q.elim
                | some S2 =>
                  rw [e3] at q
                  intro v M' H' fp fr
                  have ho := fp.outs
                  cases ho with
                  | cons hm hc ho =>
                    have hv : v = .non := by
                      unfold FRes at fr
                      split at fr
                      · obtain ⟨p, _, _, _, c⟩ := fr; cases c
                      · cases fr; rfl
                    obtain ⟨R2, st, hown⟩ := call_rep b R iok nd (fun a h => ⟨(hw a h).1, (hw a h).2.1⟩) (as.own e1) hat al (fun a h => .inl h) (fun a h => h.elim .inl fun z => .inr (by rw [z]; exact hx))
                      (ios' := x :: ios) (fun a h => (List.mem_cons.mp h).elim (fun z => .inr (by rw [z]; exact hx)) .inl) fp ho e3
                    refine ⟨hv, q (.ref x) M' H' R2 st ?_⟩
                    unfold ResOk
                    rw [if_pos rfl]
                    refine ⟨x, rfl, hm, R.wr b hx, hc, fun i oi z => ?_⟩
                    obtain ⟨a, d, _, ea, _, cc⟩ := R.ownAt (hown i oi)
                    rw [z] at ea
                    cases ea
                    obtain ⟨u, hu⟩ := cc.there
                    rw [hx] at hu; cases hu
              | _ => exact q.elim
            | error er =>
              dsimp only at q ⊢
              cases e3 : agBack ags outs S with
              | none => rw [e3] at q; exact q.elim
              | some S2 =>
                rw [e3] at q
                intro cls dd M' H' fp fr
                have ho := fp.outs
                cases ho with
                | cons hm hc ho =>
                  obtain ⟨R2, st, hown⟩ := call_rep b R iok nd (fun a h => ⟨(hw a h).1, (hw a h).2.1⟩) (as.own e1) hat al (fun a h => .inl h) (fun a h => h.elim .inl fun z => .inr (by rw [z]; exact hx))
                      (ios' := x :: ios) (fun a h => (List.mem_cons.mp h).elim (fun z => .inr (by rw [z]; exact hx)) .inl) fp ho e3
                  exact q M' H' cls dd R2 st fr
    · rw [if_neg nd] at q; exact q.elim
where
  argsStep {M1 : Mset} {H1 : Hp} : ∀ {fl : List Bool} {vs : List V} {ds : List D} {ios : List Addr}, ArgsOk K ca M H fl vs ds ios → Al H H1 → Stp M H (fun a => M a ∨ M1 a) H1 → ArgsOk K ca (fun a => M a ∨ M1 a) H1 fl vs ds ios
    | _, _, _, _, .nil, _, _ => .nil
    | _, _, _, _, .v a b t, al, st => .v a (b.step st) (argsStep t al st)
    | _, _, _, _, .io a b c d t, al, st => .io a (.inl b) (c.al al st) d (argsStep t al st)
end
end Ev
end

section
set_option maxRecDepth 100000
set_option maxHeartbeats 4000000
namespace Ev
open PySem PySem.Spec PyProof.Rows L2
section
variable {X : Cx} {k : Nat}
def NoX : XK := fun _ _ _ => False
theorem passesNo (σ : L2.St) : PassesAt (L2.CX X.prog X.w) X σ NoX := fun pins H s e s' I c => by
  obtain ⟨_, _, _, _, _, _, _, _, _, _, _, _, z⟩ := c
  exact z.elim
/-- x == y by the own def of x's class; y is of no class below that one -/
def rOwnEq (X : Cx) (k : Nat) : R2 := fun x y H Q => ∃ a C dx fs f fd ps sp tb, x = .ref a ∧ H a = some (.ins C dx fs) ∧ PySem.W.findIn X.K (.ref C) "__eq__" = some (some (.ref f)) ∧ PySem.W.isFn X.K (.ref f) = true ∧ Binds X.K fd ps [] ∧
  FnOk X.prog X.w X.K X.mg X.base (L2.CX X.prog X.w) k f fd ps sp ∧ TyX X.K H y tb ∧ PySem.W.notFirst X.K C tb = true ∧ sp [x, y] H (fun v H' => ∃ b, v = .bl b ∧ Q v H') NoX
theorem op_own_eq (hr : Room k X.A) : OpR X (compareOp .Eq) (rOwnEq X k) := by
  intro pins s σ H x y v u Q I rx ry h
  obtain ⟨a, C, dx, fs, f, fd, ps, sp, tb, rfl, ha, hs, hf, hb, F, ty, nf, q⟩ := h
  obtain rfl : v = Value.ref a := rx
  show wpAny (model X.prog X.w) X.A (richCompare .Eq (.ref a) u) (EP X pins σ Q) X.xe s
  obtain ⟨mA, J, _⟩ := ins_get I.hok ha
  obtain ⟨od, J, _⟩ := J.look
  obtain ⟨P, kx, hP, _⟩ := kit_of I ry ty
  obtain ⟨m, fr⟩ := I.fr
  refine PySem.W.cmp_K (op := .Eq) (tb := tb) hr.units0 fr I.ok.mod.kin J (kx.ty _ _ I.kIn hP) nf hs hf ?_
  refine wpAny_mono (run_fnS (E := fun _ => NoX) (vs := [V.ref a, y]) (us := [Value.ref a, u]) F hr hb (passesNo σ) I (.cons (show RelV (V.ref a) (Value.ref a) from rfl) (.cons ry .nil)) q) (fun w s' z => ?_) fun _ _ z => z
  obtain ⟨v, H', I', rv, ⟨b, rfl, q'⟩⟩ := z
  cases rv
  exact ⟨V.bl b, H', I', rfl, q'⟩
/-- len(x) by the own def of x's class -/
def rOwnLen (X : Cx) (k : Nat) : List V → Hp → VK → Prop := fun xs H Q => ∃ a C dx fs f fd ps sp, xs = [.ref a] ∧ H a = some (.ins C dx fs) ∧ PySem.W.findIn X.K (.ref C) "__len__" = some (some (.ref f)) ∧ PySem.W.isFn X.K (.ref f) = true ∧ Binds X.K fd ps [] ∧
  FnOk X.prog X.w X.K X.mg X.base (L2.CX X.prog X.w) k f fd ps sp ∧ sp [.ref a] H (fun v H' => ∃ n : Int, v = .int n ∧ 0 ≤ n ∧ n < 2 ^ 63 ∧ Q v H') NoX
theorem call_own_len (hr : Room (k + 1) X.A) : CallR X (.builtin "len") (rOwnLen X k) := by
  intro pins s σ H xs us Q I r h
  obtain ⟨a, C, dx, fs, f, fd, ps, sp, rfl, ha, hs, hf, hb, F, q⟩ := h
  obtain ⟨u, rfl, rx⟩ := vals1 r
  obtain rfl : u = Value.ref a := rx
  obtain ⟨mA, J, _⟩ := ins_get I.hok ha
  obtain ⟨od, J, _⟩ := J.look
  obtain ⟨m, fr⟩ := I.fr
  refine PySem.W.len_K fr I.ok.mod.kin J hs hf ?_
  have hl := F.len _ _ _ _ q
  have bb := hb s [.ref a] I.kIn (by rw [List.append_nil]; exact hl)
  rw [List.append_nil] at bb
  refine wpAny_call (codeAny_mono (F.run X.A.in1 X.stack s H ⟨[.ref a], []⟩ [.ref a] [.ref a] _ NoX hr.in1 I.env0.in1 bb (.cons rfl .nil) q) fun r s' z => ?_)
  cases r with
  | error e =>
    obtain ⟨_, _, _, _, _, _, _, _, _, _, _, _, no⟩ := z
    exact no.elim
  | ok fl =>
    cases fl with
    | ret w =>
      obtain ⟨v, H', I', rv, n, rfl, h0, h1, q'⟩ := I.after z
      obtain ⟨t, rfl⟩ := rv
      exact ⟨⟨h0, h1⟩, V.int n, H', I'.tok _, ⟨_, rfl⟩, q'⟩
    | next => exact False.elim z
    | brk => exact False.elim z
    | cont => exact False.elim z
end
end Ev
end

section
set_option maxRecDepth 100000
set_option maxHeartbeats 4000000
namespace Ev
open PySem PySem.Spec PyProof.Rows L2

/-! ### the check -/
def visB (sc : Scope) (x : Str) : Bool := decide (sc.names.lookup x = some .local) || decide (sc.names.lookup x = some .cell) || decide (sc.names.lookup x = some .free)
def glB (sc : Scope) (x : Str) : Bool := decide (sc.names.lookup x = some .globalImplicit)
def nrm (x : Str) : Bool := !(x == ("__debug__" : Str)) && !(x == ("__classdict__" : Str)) && !(x == ("super" : Str)) && !(x == ("__name__" : Str))
def nmB (N : List Str) (sc : Scope) (i : Nat) (x : Str) : Bool := decide (N[i]? = some x) && visB sc x && nrm x
def litB : D → Const → Bool
  | .non, .none => true
  | .bl b, .bool c => b == c
  | .int i, .int j => i == j
  | .str x, .str y => x == y
  | _, _ => false
def bltB : Blt → Str → Nat → Bool
  | .len, x, n => x == "len" && n == 1
  | .abs, x, n => x == "abs" && n == 1
  | .max2, x, n => x == "max" && n == 2
  | .min2, x, n => x == "min" && n == 2
  | .int, x, n => x == "int" && n == 1
  | .str, x, n => x == "str" && n == 1
  | .list, x, n => x == "list" && n == 1
  | .tuple, x, n => x == "tuple" && n == 1
  | .sum, x, n => x == "sum" && n == 1
  | .max, x, n => x == "max" && n == 1
  | .min, x, n => x == "min" && n == 1
  | .all, x, n => x == "all" && n == 1
  | .any, x, n => x == "any" && n == 1
  | .sorted, _, _ => false
  | .listr, _, _ => false
def tyB (T : Tb) (t : Ty) (x : Str) : Bool := match t with
  | .ty n => (n == "int" || n == "bool" || n == "str" || n == "tuple" || n == "list") && x == PySem.Str.ofString n && T.free.contains x
  | .own C => decide (T.cls.lookup x = some C)
/-- not a call without arguments -/
def noCall0 : Expr → Bool
  | .Call _ [] _ _ => false
  | _ => true
/-- not a test of a form of its own -/
def flat : Expr → Bool
  | .UnaryOp .Not _ _ => false
  | .BoolOp .. => false
  | .IfExp .. => false
  | .Compare .. => false
  | _ => true
def plainSlice : Expr → Bool
  | .Slice .. => false
  | _ => true

def okT (N : List Str) (sc : Scope) (fn : Str → Bool) : CT → Expr → Bool
  | .nm i, .Name x _ => decide (N[i]? = some x) && (decide (sc.names.lookup x = some .local) || (fn x && decide (sc.names.lookup x = some .cell)))
  | .tp ts, .Tuple es _ _ => go ts es
  | _, _ => false
where go : List CT → List Expr → Bool
  | [], [] => true
  | t :: ts, e :: es => okT N sc fn t e && noStar e && go ts es
  | _, _ => false

mutual
def ctIx : CT → List Nat
  | .nm i => [i]
  | .tp ts => ctIxs ts
def ctIxs : List CT → List Nat
  | [] => []
  | t :: ts => ctIx t ++ ctIxs ts
end
/-- the class that an error's kind is asked by -/
def tyE (T : Tb) (t : Ty) (x : Str) : Bool := match t with
  | .ty n => n == "ValueError" && x == "ValueError" && T.free.contains x
  | .own D => decide (T.cls.lookup x = some D)
mutual
def okE (T : Tb) (g : Sg) (N : List Str) : Scope → Bool → CE → Expr → Bool
  | sc, calm, .var i, e => match e with
    | .Name x _ => nmB N sc i x
    | _ => false
  | sc, calm, .lit d, e => match e with
    | .Constant c _ _ => litB d c
    | _ => false
  | sc, calm, .con i, e => match e with
    | .Name x _ => glB sc x && nrm x && decide (T.cons.lookup x = some i)
    | _ => false
  | sc, calm, .bin op a b, e => match e with
    | .BinOp l o r _ => decide (o = op) && okE T g N sc calm a l && okE T g N sc calm b r
    | _ => false
  | sc, calm, .neg a, e => match e with
    | .UnaryOp .USub x _ => okE T g N sc calm a x
    | _ => false
  | sc, calm, .not a, e => match e with
    | .UnaryOp .Not x _ => okE T g N sc calm a x
    | _ => false
  | sc, calm, .cmp op a b, e => match e with
    | .Compare l [o] [r] _ => decide (o = op) && okE T g N sc calm a l && okE T g N sc calm b r && !(behindInMarks op r)
    | _ => false
  | sc, calm, .cmp2 op op' a b c, e => match e with
    | .Compare l [o, o'] [m, r] _ => decide (o = op) && decide (o' = op') && okE T g N sc calm a l && okE T g N sc calm b m && okE T g N sc calm c r && !(lastMarks [op, op'] [m, r])
    | _ => false
  | sc, calm, .and a b, e => match e with
    | .BoolOp .And (x :: [y]) _ => okE T g N sc calm a x && okE T g N sc calm b y
    | .BoolOp .And (x :: y :: z :: r) pos => okE T g N sc calm a x && okE T g N sc calm b (.BoolOp .And (y :: z :: r) pos)
    | _ => false
  | sc, calm, .or a b, e => match e with
    | .BoolOp .Or (x :: [y]) _ => okE T g N sc calm a x && okE T g N sc calm b y
    | .BoolOp .Or (x :: y :: z :: r) pos => okE T g N sc calm a x && okE T g N sc calm b (.BoolOp .Or (y :: z :: r) pos)
    | _ => false
  | sc, calm, .ite c a b, e => match e with
    | .IfExp t x y _ => okE T g N sc calm c t && okE T g N sc calm a x && okE T g N sc calm b y
    | _ => false
  | sc, calm, .tup es, e => match e with
    | .Tuple xs _ _ => okEs T g N sc calm es xs
    | _ => false
  | sc, calm, .lst es, e => match e with
    | .List xs _ => okEs T g N sc calm es xs
    | _ => false
  | sc, calm, .idx a b, e => match e with
    | .Subscript x y _ => okE T g N sc calm a x && okE T g N sc calm b y && plainSlice y
    | _ => false
  | sc, calm, .sl a lo hi, e => match e with
    | .Subscript x (.Slice l h none _) _ => okE T g N sc calm a x && okP T g N sc calm lo l && okP T g N sc calm hi h
    | _ => false
  | sc, calm, .att a f, e => match e with
    | .Attribute x f' _ => decide (f' = f) && okE T g N sc calm a x && noCall0 x
    | _ => false
  | sc, calm, .exv i f, e => match e with
    | .Attribute (.Name x _) f' _ => decide (f' = f) && nmB N sc i x && !calm
    | _ => false
  | sc, calm, .call f es, e => match e with
    | .Call (.Name x _) (y :: ys) [] _ => calm && glB sc x && nrm x && decide (T.fns.lookup x = some f) && okEs T g N sc calm es (y :: ys) && es.length == T.ar f
    | _ => false
  | sc, calm, .make C es, e => match e with
    | .Call (.Name x _) (y :: ys) [] _ => calm && glB sc x && nrm x && decide (T.cls.lookup x = some C) && okEs T g N sc calm es (y :: ys) && (match g.init C with
      | some f => es.length + 1 == T.ar f && (g.io f).headD false
      | none => false)
    | _ => false
  | sc, calm, .meth o m es, e => match e with
    | .Call (.Attribute x m' ap) ys [] cp => calm && decide (m' = m) && okE T g N sc calm o x && okEs T g N sc calm es ys && noCall0 x && (ap.endLine == cp.line) && decide (es.length < 25) && g.ids.all (fun C => match g.mth C m with
      | some f => T.ar f == es.length + 1 && (g.io f).tail.all (fun b => !b)
      | none => true)
    | _ => false
  | sc, calm, .blt b es, e => match e with
    | .Call (.Name x _) (y :: ys) [] _ => calm && glB sc x && nrm x && T.free.contains x && bltB b x es.length && okEs T g N sc calm es (y :: ys)
    | _ => false
  | sc, calm, .isi a t, e => match e with
    | .Call (.Name x _) [y, .Name c _] [] _ => glB sc x && T.free.contains x && x == "isinstance" && okE T g N sc calm a y && noStar y && glB sc c && nrm c && tyB T t c
    | _ => false
  | sc, calm, .mkE C c, e => match e with
    | .Call (.Name x _) [y] [] _ => calm && glB sc x && nrm x && decide (T.cls.lookup x = some C) && (g.exf C).isSome && okE T g N sc calm c y && noStar y
    | _ => false
  | sc, calm, .attE a f, e => match e with
    | .Attribute x f' _ => decide (f' = f) && okE T g N sc calm a x && noCall0 x
    | _ => false
  | sc, calm, .isiE a t, e => match e with
    | .Call (.Name x _) [y, .Name c _] [] _ => glB sc x && T.free.contains x && x == "isinstance" && okE T g N sc calm a y && noStar y && glB sc c && nrm c && tyE T t c
    | _ => false
  | sc, calm, .index o a, e => match e with
    | .Call (.Attribute x m ap) [y] [] cp => calm && m == "index" && okE T g N sc calm o x && okE T g N sc calm a y && noStar y && noCall0 x && (ap.endLine == cp.line)
    | _ => false
  | sc, calm, .oeq a b, e => match e with
    | .Compare l [.Eq] [r] _ => calm && okE T g N sc calm a l && okE T g N sc calm b r && !(behindInMarks .Eq r) && g.ids.all (fun C => match g.mth C "__eq__" with
      | some f => T.ar f == 2
      | none => true)
    | _ => false
  | sc, calm, .olen a, e => match e with
    | .Call (.Name x _) [y] [] _ => calm && glB sc x && nrm x && T.free.contains x && x == "len" && noStar y && okE T g N sc calm a y && g.ids.all (fun C => match g.mth C "__len__" with
      | some f => T.ar f == 1
      | none => true)
    | _ => false
  | sc, calm, .comp e t k it ifs own, e' => match e' with
    | .ListComp elt [⟨tg, iter, is, 0⟩] scope _ => calm && okI T g N sc calm k it iter && okT N (relS scope sc) (fun x => scope.names.lookup x == some .cell) t tg && (ctIx t).all (fun i => own.contains i) && okTs T g N (relS scope sc) calm ifs is && okE T g N (relS scope sc) calm e elt && blkC N sc scope (own.map fun i => ((N[i]?).getD Str.empty, i))
    | _ => false
def okEs (T : Tb) (g : Sg) (N : List Str) : Scope → Bool → List CE → List Expr → Bool
  | _, _, [], es => es.isEmpty
  | sc, calm, c :: cs, es => match es with
    | e :: r => noStar e && okE T g N sc calm c e && okEs T g N sc calm cs r
    | [] => false
def okP (T : Tb) (g : Sg) (N : List Str) : Scope → Bool → Option CE → Option Expr → Bool
  | _, _, none, e => e.isNone
  | sc, calm, some c, e => match e with
    | some x => okE T g N sc calm c x
    | none => false
/-- a clause's tests: none or one -/
def okTs (T : Tb) (g : Sg) (N : List Str) : Scope → Bool → List CE → List Expr → Bool
  | _, _, [], es => es.isEmpty
  | sc, calm, c :: cs, es => match es with
    | [e] => okE T g N sc calm c e && cs.isEmpty
    | _ => false
/-- what is walked -/
def okI (T : Tb) (g : Sg) (N : List Str) : Scope → Bool → IK → List CE → Expr → Bool
  | _, _, _, [], _ => false
  | sc, calm, k, c :: cs, e => match k with
    | .seq => okE T g N sc calm c e && cs.isEmpty && (match e with | .Set .. => false | _ => true)
    | .rng1 => (match e with
      | .Call (.Name x _) [a] [] _ => x == "range" && T.free.contains x && glB sc x && okE T g N sc calm c a && noStar a && cs.isEmpty
      | _ => false)
    | .rng2 => (match e with
      | .Call (.Name x _) [a, b] [] _ => x == "range" && T.free.contains x && glB sc x && okE T g N sc calm c a && noStar a && noStar b && okEs T g N sc calm cs [b]
      | _ => false)
end
end Ev
end

section
set_option maxRecDepth 100000
set_option maxHeartbeats 4000000
namespace Ev
open PySem PySem.Spec PyProof.Rows L2
section
variable {K : PySem.W.Frag} {ca : Nat → Addr} {B B' : Bs} {M M' : Mset} {H H' : Hp} {σ : L2.St} {S S' : Fr} {W : WX} {Ex : Addr → Nat → Addr → Prop} {X : Cx} {G : Gam}

def okVs (K : PySem.W.Frag) (ca : Nat → Addr) : Ok (List D) (List V) := fun B σ S M H ds vs => Dps K ca M H vs ds
def okOs (K : PySem.W.Frag) (ca : Nat → Addr) : Ok (List Op) (List V) := fun B σ S M H os vs => OpsOk K ca B σ S M H os vs
theorem SEs.vals : ∀ {es : List Expr} {cs : List CE}, SEs X ca Ex G W es cs → PA X es (rdG X.K ca Ex (okVs X.K ca) W (evVs G cs))
  | _, _, .nil => pa_nil.imp fun σ H Q ⟨B, M, S, he, h⟩ => h.ret h.2.1 .refl .nil
  | e :: es, c :: cs, .cons n hs t => by
    refine (pa_cons hs.v (SEs.vals t) (star_cons n es X.env)).imp fun σ H Q ⟨B, M, S, he, h⟩ => ⟨B, M, S, he, ?_⟩
    refine h.bind fun a S1 v M1 H1 R1 st1 o1 h1 => ?_
    obtain ⟨M2, R2, st2, dp⟩ := o1.val h1.1 R1
    exact ⟨B, M2, S1, he, (h1.shift R2 st2).bind fun xs S2 vs M3 H3 R3 st3 o3 h3 => h3.ret R3 .refl (.cons (dp.step st3) o3)⟩
theorem SEs.ops : ∀ {es : List Expr} {cs : List CE}, SEs X ca Ex G W es cs → PA X es (rdG X.K ca Ex (okOs X.K ca) W (evOs G cs))
  | _, _, .nil => pa_nil.imp fun σ H Q ⟨B, M, S, he, h⟩ => h.ret h.2.1 .refl .nil
  | e :: es, c :: cs, .cons n hs t => by
    refine (pa_cons hs.o (SEs.ops t) (star_cons n es X.env)).imp fun σ H Q ⟨B, M, S, he, h⟩ => ⟨B, M, S, he, ?_⟩
    refine h.bind fun a S1 v M1 H1 R1 st1 o1 h1 => ?_
    exact ⟨B, M1, S1, he, h1.bind fun xs S2 vs M3 H3 R3 st3 o3 h3 => h3.ret R3 .refl (.cons (o1.step st3) o3)⟩
/-! ### what is walked -/
def Wk (K : PySem.W.Frag) (ca : Nat → Addr) (B : Bs) (J : It) (ds : List D) (M : Mset) (H : Hp) : Prop :=
  (∃ a vs, J = Itl K a ∧ H a = some (.lst vs) ∧ (¬ M a ∨ (B.H0 a = some (.lst vs) ∧ ¬ B.Wr a)) ∧ Dps K ca M H vs ds) ∨ (∃ a vs, J = Itt K a ∧ RT K M H a vs ∧ Dps K ca M H vs ds) ∨ ∃ lo n, J = Itr lo n ∧ ds = rangeD lo n
theorem Wk.step {J : It} {ds : List D} {σ' : L2.St} (h : Wk K ca B J ds M H) (st : Stp M H M' H') (R : Rep K ca B M' H' σ' S') : Wk K ca B J ds M' H' := by
  rcases h with ⟨a, vs, e, ha, hp, c⟩ | ⟨a, vs, e, ha, c⟩ | h
  · refine .inl ⟨a, vs, e, ?_, ?_, c.step st⟩
    · rcases hp with n | ⟨h0, nw⟩
      · exact st.pres a _ ha n
      · exact R.pres a _ h0 nw
    · rcases hp with n | hp
      · exact .inl fun z => (st.grow a z).elim n fun e => by rw [ha] at e; cases e
      · exact .inr hp
  · exact .inr (.inl ⟨a, vs, e, ha.step st, c.step st⟩)
  · exact .inr (.inr h)
theorem rangeD_get (lo : Int) (n i : Nat) (h : i < n) : (rangeD lo n)[i]? = some (.int (lo + i)) := by
  unfold rangeD
  rw [List.getElem?_map, List.getElem?_range h]; rfl
theorem rangeD_length (lo : Int) (n : Nat) : (rangeD lo n).length = n := by simp [rangeD]
theorem Wk.go {J : It} {ds : List D} (h : Wk K ca B J ds M H) {i : Nat} (hi : i < ds.length) : J.go i H ∧ ∀ x H', J.yld i H x H' → H' = H ∧ ∃ d, ds[i]? = some d ∧ Dp K ca M H x d := by
  rcases h with ⟨a, vs, rfl, ha, hp, c⟩ | ⟨a, vs, rfl, ha, c⟩ | ⟨lo, n, rfl, rfl⟩
  · have hl := c.length
    obtain ⟨d, hd⟩ : ∃ d, ds[i]? = some d := ⟨_, List.getElem?_eq_getElem hi⟩
    obtain ⟨v, hv, cv⟩ := c.get hd
    refine ⟨⟨vs, v, .of ha, hv⟩, fun x H' y => ?_⟩
    obtain ⟨rfl, hx⟩ := y
    have := hx vs (.of ha)
    rw [hv] at this
    cases this
    exact ⟨rfl, d, hd, cv⟩
  · have hl := c.length
    obtain ⟨d, hd⟩ : ∃ d, ds[i]? = some d := ⟨_, List.getElem?_eq_getElem hi⟩
    obtain ⟨v, hv, cv⟩ := c.get hd
    refine ⟨⟨vs, v, ha.sq, hv⟩, fun x H' y => ?_⟩
    obtain ⟨rfl, hx⟩ := y
    have := hx vs ha.sq
    rw [hv] at this
    cases this
    exact ⟨rfl, d, hd, cv⟩
  · rw [rangeD_length] at hi
    refine ⟨hi, fun x H' y => ?_⟩
    obtain ⟨rfl, rfl⟩ := y
    exact ⟨rfl, _, rangeD_get lo n i hi, .int _⟩
theorem Wk.stop {J : It} {ds : List D} (h : Wk K ca B J ds M H) {i : Nat} (hi : ds.length ≤ i) : J.stop i H := by
  rcases h with ⟨a, vs, rfl, ha, hp, c⟩ | ⟨a, vs, rfl, ha, c⟩ | ⟨lo, n, rfl, rfl⟩
  · exact ⟨vs, .of ha, by rw [c.length]; exact hi⟩
  · exact ⟨vs, ha.sq, by rw [c.length]; exact hi⟩
  · rw [rangeD_length] at hi; exact hi
def iSeq (K : PySem.W.Frag) (tl : TE) : TI := fun σ H R => tl σ H fun x H1 => ∃ a, x = .ref a ∧ (((∃ xs, SqL K H1 a xs) ∧ R (Itl K a) H1) ∨ ((∃ xs, SqT K H1 a xs) ∧ R (Itt K a) H1))
theorem pi_seq {tg l : Expr} {tl : TE} (hl : PE X l tl) : PI X tg l (iSeq X.K tl) := by
  refine ⟨fun pins s σ H R I h => ?_⟩
  refine thn (hl.run pins s σ H _ I h) fun v s1 ⟨x, H1, I1, r1, q1⟩ => ?_
  obtain ⟨a, e, q | q⟩ := q1
  · obtain ⟨⟨xs, hq⟩, q⟩ := q
    subst e
    cases r1
    obtain ⟨its, rv, p, hz⟩ := I1.list hq
    refine wpAny_pyIter_list p.isList ?_
    refine ⟨s1.heap.objs.size, [s1.heap.objs.size], _, _, H1, rfl, I1.kept (t' := s1.toks) fun b o e => Heap.get?_push_of_some _ e, turn_list a _, ⟨_, Heap.get?_push_size _ rfl, rfl, rfl⟩, fun b hb => ?_, q⟩
    have e : b = s1.heap.objs.size := by simpa using hb
    subst e
    exact I1.fpOk (Nat.le_refl _) (I1.hok.fresh (Nat.le_refl _))
  · obtain ⟨⟨xs, hq⟩, q⟩ := q
    subst e
    cases r1
    obtain ⟨its, rv, p, hz⟩ := I1.tuple hq
    refine wpAny_pyIter_tuple (show s1.heap.IsTuple a its.toArray from p) ?_
    refine ⟨s1.heap.objs.size, [s1.heap.objs.size], _, _, H1, rfl, I1.kept (t' := s1.toks) fun b o e => Heap.get?_push_of_some _ e, turn_tuple a _, ⟨_, Heap.get?_push_size _ rfl, rfl, rfl⟩, fun b hb => ?_, q⟩
    have e : b = s1.heap.objs.size := by simpa using hb
    subst e
    exact I1.fpOk (Nat.le_refl _) (I1.hok.fresh (Nat.le_refl _))
/-- a walk's ground B' and the way back to B -/
structure Grd (K : PySem.W.Frag) (ca : Nat → Addr) (B B' : Bs) (h : Option Nat) : Prop where
  ok : B'.Ok
  ex : B'.Ex = B.Ex
  back : ∀ M H σ S, Rep K ca B' M H σ S → Rep K ca B M H σ (unhide h S)
  wr : ∀ p, B'.Wr p → B.Wr p
def okItem (K : PySem.W.Frag) (ca : Nat → Addr) : List D × Option Nat → Bs → L2.St → Fr → Mset → Hp → It → Prop := fun p B σ S M H J => ∃ B', Grd K ca B B' p.2 ∧ Rep K ca B' M H σ S ∧ Wk K ca B' J p.1 M H
/-- the walk's reading -/
def wiG (K : PySem.W.Frag) (ca : Nat → Addr) (Ex : Addr → Nat → Addr → Prop) (W : WX) (m : Ev.M (List D × Option Nat)) : TI := fun σ H R => ∃ B M S, B.Ex = Ex ∧ B.Ok ∧ Rep K ca B M H σ S ∧ match m S with
  | none => False
  | some (.ok p, S') => ∀ J B' M' H', Stp M H M' H' → Grd K ca B B' p.2 → Rep K ca B' M' H' σ S' → Wk K ca B' J p.1 M' H' → R J H'
  | some (.error e, S') => ∀ M' H' cls dd, Rep K ca B M' H' σ S' → Stp M H M' H' → ErrOk K ca M' H' e cls dd → W cls dd σ H'
theorem Grd.self (b : B.Ok) : Grd K ca B B none := ⟨b, rfl, fun _ _ _ _ R => R, fun _ w => w⟩
/-- the same ground, at the heap as it stands -/
theorem Grd.now (b : B.Ok) (R0 : Rep K ca B M H σ S) : Grd K ca B { B with H0 := H } none where
  ok := { fresh := fun p hp => R0.wr b hp, mc := b.mc, hid := b.hid }
  ex := rfl
  back := fun M2 H2 σ2 S2 R => { len := R.len, slot := fun i => by have q := R.slot i; show SlotOk K ca B M2 H2 i _ (S2.at i); cases e : S2.at i <;> (rw [e] at q; exact q), dist := R.dist, pres := fun a o h n => R.pres a o (R0.pres a o h n) n, keep := fun a h => R0.keep a (R.keep a h), mt := R.mt, mc := R.mc }
  wr := fun _ w => w
theorem Rep.now (R : Rep K ca B M H σ S) : Rep K ca { B with H0 := H } M H σ S :=
  { len := R.len, slot := fun i => by have q := R.slot i; cases e : S.at i <;> (rw [e] at q; exact q), dist := R.dist, pres := fun a o h n => h, keep := fun a h => h, mt := R.mt, mc := R.mc }
/-- behind the operands -/
theorem items_run {k : IK} {os : List Op} {R : It → Hp → Prop} (b : B.Ok) (R0 : Rep K ca B M H σ S) {q : match itemsOf k os S with
  | none => False
  | some (.ok p, S') => ∀ J B' M' H', Stp M H M' H' → Grd K ca B B' p.2 → Rep K ca B' M' H' σ S' → Wk K ca B' J p.1 M' H' → R J H'
  | some (.error e, S') => True} {vs : List V} (o : OpsOk K ca B σ S M H os vs) :
    (k = .seq ∧ ∃ a, vs = [.ref a] ∧ (((∃ xs, SqL K H a xs) ∧ R (Itl K a) H) ∨ ((∃ xs, SqT K H a xs) ∧ R (Itt K a) H))) ∨
    (k = .rng1 ∧ ∃ j : Int, vs = [.int j] ∧ -(2 ^ 62) ≤ j ∧ j < 2 ^ 62 ∧ R (Itr 0 j.toNat) H) ∨
    (k = .rng2 ∧ ∃ i j : Int, vs = [.int i, .int j] ∧ (-(2 ^ 62) ≤ i ∧ i < 2 ^ 62 ∧ -(2 ^ 62) ≤ j ∧ j < 2 ^ 62) ∧ R (Itr i (j - i).toNat) H) := by
  cases k with
  | seq =>
    refine .inl ⟨rfl, ?_⟩
    cases o with
    | nil => exact q.elim
    | cons o1 o2 =>
      cases o2 with
      | cons _ _ => exact q.elim
      | nil =>
      unfold itemsOf at q
      rename_i op v
      cases op with
      | val d =>
        cases d with
        | lst ds =>
          dsimp only at q
          cases (show Dp K ca M H v (.lst ds) from o1) with
          | lst ra c =>
            exact ⟨_, rfl, .inl ⟨⟨_, .of ra.1⟩, q _ B M H .refl (Grd.self b) R0 (.inl ⟨_, _, rfl, ra.1, .inl ra.2, c⟩)⟩⟩
        | tup ds =>
          dsimp only at q
          cases (show Dp K ca M H v (.tup ds) from o1) with
          | tup ra c =>
            exact ⟨_, rfl, .inr ⟨⟨_, ra.sq⟩, q _ B M H .refl (Grd.self b) R0 (.inr (.inl ⟨_, _, rfl, ra, c⟩))⟩⟩
        | _ => exact q.elim
      | ref i =>
        dsimp only at q
        have hv : σ[i]? = some (some v) := o1
        have qs := R0.slot i
        cases e : S.at i with
        | fz d =>
          rw [e] at q qs
          obtain ⟨w, x, c⟩ := qs
          rw [hv] at x; cases x
          cases d with
          | lst ds =>
            cases c with
            | lst ra c => exact ⟨_, rfl, .inl ⟨⟨_, .of ra.1⟩, q _ B M H .refl (Grd.self b) R0 (.inl ⟨_, _, rfl, ra.1, .inl ra.2, c⟩)⟩⟩
          | tup ds =>
            cases c with
            | tup ra c => exact ⟨_, rfl, .inr ⟨⟨_, ra.sq⟩, q _ B M H .refl (Grd.self b) R0 (.inr (.inl ⟨_, _, rfl, ra, c⟩))⟩⟩
          | _ => exact q.elim
        | hd d =>
          rw [e] at q qs
          obtain ⟨w, x, m, hh, c⟩ := qs
          rw [hv] at x; cases x
          cases d with
          | lst ds =>
            cases c with
            | lst ra c =>
              refine ⟨_, rfl, .inl ⟨⟨_, .of ra⟩, ?_⟩⟩
              have nw := b.hid i _ hh
              exact q _ { B with H0 := H } M H .refl (Grd.now b R0) R0.now (.inl ⟨_, _, rfl, ra, .inr ⟨ra, nw⟩, c⟩)
          | _ => exact q.elim
        | ow d =>
          rw [e] at q qs
          obtain ⟨w, x, m, hw, c⟩ := qs
          rw [hv] at x; cases x
          cases d with
          | lst ds =>
            cases c with
            | lst ra c =>
              obtain ⟨p, o, ep, hm, hwp, cp, ho, Rh⟩ := R0.hide e
              rw [hv] at ep; cases ep
              rw [ra] at ho; cases ho
              refine ⟨_, rfl, .inl ⟨⟨_, .of ra⟩, q _ (B.hide H i w) M H .refl ⟨Bs.hide_ok b R0 ra, rfl, fun M2 H2 σ2 S2 R2 => R0.unhide R2 hwp, fun p z => z.1⟩ Rh (.inl ⟨_, _, rfl, ra, .inr ⟨ra, fun z => z.2 rfl⟩, c⟩)⟩⟩
          | _ => exact q.elim
        | no => rw [e] at q; exact q.elim
        | ex C fs => rw [e] at q; exact q.elim
  | rng1 =>
    refine .inr (.inl ⟨rfl, ?_⟩)
    cases o with
    | nil => exact q.elim
    | cons o1 o2 =>
      cases o2 with
      | cons _ _ => exact q.elim
      | nil =>
      unfold itemsOf at q
      rename_i op v
      dsimp only at q
      cases e : op.rd S with
      | none => rw [e] at q; exact q.elim
      | some d =>
        rw [e] at q
        have c := o1.dr R0 e
        cases d with
        | int n =>
          dsimp only at q
          split at q
          · exact q.elim
          · rename_i e2
            split at e2
            · rename_i hb
              cases e2
              cases c.intI
              exact ⟨n, rfl, hb.1, hb.2, q _ B M H .refl (Grd.self b) R0 (.inr (.inr ⟨0, n.toNat, rfl, rfl⟩))⟩
            · cases e2
          · rename_i e2
            split at e2
            · cases e2
            · cases e2
        | _ => exact q.elim
  | rng2 =>
    refine .inr (.inr ⟨rfl, ?_⟩)
    cases o with
    | nil => exact q.elim
    | cons o1 o2 =>
      cases o2 with
      | nil => exact q.elim
      | cons o2 o3 =>
        cases o3 with
        | cons _ _ => exact q.elim
        | nil =>
        unfold itemsOf at q
        rename_i op v op' v'
        dsimp only at q
        cases e : op.rd S with
        | none => rw [e] at q; exact q.elim
        | some d =>
          cases e' : op'.rd S with
          | none => rw [e, e'] at q; cases d <;> exact q.elim
          | some d' =>
            rw [e, e'] at q
            have c := o1.dr R0 e
            have c' := o2.dr R0 e'
            cases d with
            | int n =>
              cases d' with
              | int n' =>
                dsimp only at q
                split at q
                · exact q.elim
                · rename_i e2
                  split at e2
                  · rename_i hb
                    cases e2
                    cases c.intI
                    cases c'.intI
                    exact ⟨n, n', rfl, hb, q _ B M H .refl (Grd.self b) R0 (.inr (.inr ⟨n, (n' - n).toNat, rfl, rfl⟩))⟩
                  · cases e2
                · rename_i e2
                  split at e2
                  · cases e2
                  · cases e2
              | _ => exact q.elim
            | _ => exact q.elim
theorem _root_.L2.PI.imp {X : Cx} {tg e : Expr} {t t' : TI} (h : PI X tg e t) (q : ∀ σ H R, t' σ H R → t σ H R) : PI X tg e t' := ⟨fun pins s σ H R I hw => h.run pins s σ H R I (q σ H R hw)⟩
theorem Run.items {cs : List CE} {k : IK} {R : It → Hp → Prop} {Q1 : List V → Hp → Prop} (b : B.Ok) (R0 : Rep K ca B M H σ S) (q : match bnd (evOs G cs) (itemsOf k) S with
    | none => False
    | some (.ok p, S') => ∀ J B' M' H', Stp M H M' H' → Grd K ca B B' p.2 → Rep K ca B' M' H' σ S' → Wk K ca B' J p.1 M' H' → R J H'
    | some (.error e, S') => ∀ M' H' cls dd, Rep K ca B M' H' σ S' → Stp M H M' H' → ErrOk K ca M' H' e cls dd → W cls dd σ H')
    (fin : ∀ vs H1, ((k = .seq ∧ ∃ a, vs = [.ref a] ∧ (((∃ xs, SqL K H1 a xs) ∧ R (Itl K a) H1) ∨ ((∃ xs, SqT K H1 a xs) ∧ R (Itt K a) H1))) ∨
    (k = .rng1 ∧ ∃ j : Int, vs = [.int j] ∧ -(2 ^ 62) ≤ j ∧ j < 2 ^ 62 ∧ R (Itr 0 j.toNat) H1) ∨
    (k = .rng2 ∧ ∃ i j : Int, vs = [.int i, .int j] ∧ (-(2 ^ 62) ≤ i ∧ i < 2 ^ 62 ∧ -(2 ^ 62) ≤ j ∧ j < 2 ^ 62) ∧ R (Itr i (j - i).toNat) H1)) → Q1 vs H1) : Run K ca (okOs K ca) W (evOs G cs) B M S σ H Q1 := by
  refine ⟨b, R0, ?_⟩
  unfold bnd at q
  cases e : evOs G cs S with
  | none => rw [e] at q; exact q
  | some p =>
    obtain ⟨r, S1⟩ := p
    rw [e] at q
    cases r with
    | error er => exact q
    | ok os =>
      dsimp only at q ⊢
      intro vs M1 H1 R1 st1 o1
      refine fin vs H1 (items_run (K := K) (ca := ca) (B := B) (M := M1) (σ := σ) (S := S1) (k := k) (os := os) b R1 (q := ?_) o1)
      cases e2 : itemsOf k os S1 with
      | none => rw [e2] at q; exact q
      | some p2 =>
        obtain ⟨r2, S2⟩ := p2
        rw [e2] at q
        cases r2 with
        | error er => trivial
        | ok p => exact fun J B' M' H' st g R w => q J B' M' H' (st1.trans st) g R w
theorem gl_of {N : List Str} {sc : Scope} {x : Str} (hs : X.env.scope = sc) (h : glB sc x = true) : Gl X x := by
  have h' : sc.names.lookup x = some .globalImplicit := of_decide_eq_true h
  rw [← hs] at h'
  exact h'
/-- what is walked, by its form -/
theorem pi_items {T : Tb} {k' : Nat} {N : List Str} {sc : Scope} {calm : Bool} {tg iter : Expr} {k : IK} {cs : List CE} (C : CtxOk X ca Ex G T k' N sc calm W)
    (hse : (k = .seq ∧ ∃ c, cs = [c] ∧ SE X ca Ex G W iter c) ∨ (k = .rng1 ∧ ∃ a p pos, iter = .Call (.Name "range" p) [a] [] pos ∧ glB sc "range" = true ∧ ("range" : Str) ∈ T.free ∧ SEs X ca Ex G W [a] cs) ∨
      (k = .rng2 ∧ ∃ a b p pos, iter = .Call (.Name "range" p) [a, b] [] pos ∧ glB sc "range" = true ∧ ("range" : Str) ∈ T.free ∧ SEs X ca Ex G W [a, b] cs)) :
    PI X tg iter (wiG X.K ca Ex W (bnd (evOs G cs) (itemsOf k))) := by
  rcases hse with ⟨rfl, c, rfl, hs⟩ | ⟨rfl, a, p, pos, rfl, hg, hf, hs⟩ | ⟨rfl, a, b, p, pos, rfl, hg, hf, hs⟩
  · refine (pi_seq hs.o).imp fun σ H R ⟨B, M, S, he, b, R0, q⟩ => ⟨B, M, S, he, ?_⟩
    have h := Run.items (Q1 := fun vs H1 => ∃ v, vs = [v] ∧ (∃ a, v = .ref a ∧ (((∃ xs, SqL X.K H1 a xs) ∧ R (Itl X.K a) H1) ∨ ((∃ xs, SqT X.K H1 a xs) ∧ R (Itt X.K a) H1)))) b R0 q (fun vs H1 h => by
      rcases h with ⟨_, a, rfl, h⟩ | ⟨z, _⟩ | ⟨z, _⟩
      · exact ⟨_, rfl, a, rfl, h⟩
      · cases z
      · cases z)
    refine h.bind (okx := OpOk X.K ca) (x := opd c (evE G c)) (f := fun x => bnd (evOs G []) fun xs => ret (x :: xs)) fun a S1 v M1 H1 R1 st1 o1 h1 => ?_
    have h2 : Run X.K ca (okOs X.K ca) W (ret [a]) B M1 S1 σ H1 _ := h1
    obtain ⟨v', e, r⟩ := h2.ret R1 .refl (.cons o1 .nil)
    cases e
    exact r
  · have hm := C.g.free _ hf
    refine (pi_range1 (gl_of (N := N) C.hsc hg) hm hs.ops (by
      cases hs with | cons n _ t => exact star_cons n [] X.env)).imp fun σ H R ⟨B, M, S, he, b, R0, q⟩ => ⟨B, M, S, he, ?_⟩
    exact Run.items b R0 q (fun vs H1 h => by
      rcases h with ⟨z, _⟩ | ⟨_, h⟩ | ⟨z, _⟩
      · cases z
      · exact h
      · cases z)
  · have hm := C.g.free _ hf
    cases hs with
    | cons n h1 t =>
      cases t with
      | cons n2 h2 t2 =>
        refine (pi_range2 (gl_of (N := N) C.hsc hg) hm (SEs.ops (.cons n h1 (.cons n2 h2 t2))) (by rw [star_cons n [b] X.env, star_cons n2 [] X.env]; rfl) (by rw [star_cons n2 [] X.env]; rfl)).imp fun σ H R ⟨B, M, S, he, b, R0, q⟩ => ⟨B, M, S, he, ?_⟩
        exact Run.items b R0 q (fun vs H1 h => by
          rcases h with ⟨z, _⟩ | ⟨z, _⟩ | ⟨_, h⟩
          · cases z
          · cases z
          · exact h)
end
end Ev
end

section
set_option maxRecDepth 100000
set_option maxHeartbeats 4000000
namespace Ev
open PySem PySem.Spec PyProof.Rows L2
section
variable {K : PySem.W.Frag} {ca : Nat → Addr} {B B' : Bs} {M M' : Mset} {H H' : Hp} {σ : L2.St} {S S' : Fr} {W : WX} {Ex : Addr → Nat → Addr → Prop} {X : Cx} {G : Gam}

theorem at_wipe {own : List Nat} {i : Nat} : (Fr.at (wipeS S own) i) = if i ∈ own then .no else S.at i := by
  induction own with
  | nil => simp [wipeS]
  | cons v vs ih =>
    simp only [wipeS]
    rw [at_set, ih]
    by_cases h : i = v
    · subst h
      simp only [List.mem_cons, true_or, if_true]
      split
      · rfl
      · split
        · rfl
        · rename_i h1 h2
          have : ¬ i < S.length := fun z => h1 ⟨trivial, by rw [wipe_len]; exact z⟩
          unfold Fr.at
          rw [List.getElem?_eq_none (by omega)]; rfl
    · simp [h]
where
  wipe_len {S : Fr} : ∀ {vs : List Nat}, (wipeS S vs).length = S.length
    | [] => rfl
    | v :: vs => by simp only [wipeS]; rw [List.length_set, wipe_len]
theorem wipeS_length : ∀ {vs : List Nat}, (wipeS S vs).length = S.length
  | [] => rfl
  | v :: vs => by simp only [wipeS]; rw [List.length_set, wipeS_length]
/-- the frame with some slots unset -/
theorem Rep.wipe (R : Rep K ca B M H σ S) (own : List Nat) : Rep K ca B M H (L2.wipe σ own) (wipeS S own) where
  len := by rw [wipe_length, wipeS_length]; exact R.len
  slot := fun i => by
    rw [at_wipe]
    split
    · trivial
    · rename_i h
      have e : (L2.wipe σ own)[i]? = σ[i]? := by
        clear R
        induction own with
        | nil => rfl
        | cons v vs ih =>
          unfold L2.wipe
          rw [List.getElem?_set_ne (fun z => h (by simp [z])), ih (fun z => h (by simp [z]))]
      rw [e]
      exact R.slot i
  dist := fun i j a hij oi oj ei ej => by
    rw [at_wipe] at oi oj
    split at oi
    · cases oi
    · split at oj
      · cases oj
      · exact R.dist i j a hij oi oj (wipe_some ei).1 (wipe_some ej).1
  pres := R.pres
  keep := R.keep
  mt := R.mt
  mc := R.mc
theorem at_rest {S0 : Fr} : ∀ {own : List Nat} {i : Nat}, Fr.at (restS S0 S own) i = if i ∈ own ∧ i < S.length then S0.at i else S.at i
  | [], i => by simp [restS]
  | v :: vs, i => by
    simp only [restS]
    rw [at_set, at_rest (own := vs)]
    have hl : (restS S0 S vs).length = S.length := len
    rw [hl]
    by_cases h : i = v
    · subst h
      by_cases h2 : i < S.length <;> simp [h2]
    · simp [h]
where
  len {S0 S : Fr} : ∀ {vs : List Nat}, (restS S0 S vs).length = S.length
    | [] => rfl
    | v :: vs => by simp only [restS]; rw [List.length_set, len]
theorem restS_length {S0 : Fr} : ∀ {vs : List Nat}, (restS S0 S vs).length = S.length
  | [] => rfl
  | v :: vs => by simp only [restS]; rw [List.length_set, restS_length]
theorem freeS_slot {own : List Nat} (h : freeS S own = true) {i : Nat} (hi : i ∈ own) : (S.at i).own = false ∧ ∀ C fs, S.at i ≠ .ex C fs := by
  have q := List.all_eq_true.mp h i hi
  cases e : S.at i with
  | no => exact ⟨rfl, fun _ _ z => nomatch z⟩
  | fz d => exact ⟨rfl, fun _ _ z => nomatch z⟩
  | ow d => rw [e] at q; cases q
  | hd d => rw [e] at q; cases q
  | ex C fs => rw [e] at q; cases q
/-- behind the block: the names' old slots -/
theorem Rep.rest {S0 : Fr} {M0 : Mset} {H0 : Hp} {own : List Nat} {σ2 : L2.St} (R0 : Rep K ca B' M0 H0 σ S0) (hf : freeS S0 own = true) (st : Stp M0 H0 M H) (R : Rep K ca B M H σ2 S) (hw : L2.wipe σ2 own = L2.wipe σ own) : Rep K ca B M H σ (restS S0 S own) where
  len := by
    rw [restS_length, R.len]
    have := congrArg List.length hw
    rwa [wipe_length, wipe_length] at this
  slot := fun i => by
    rw [at_rest]
    split
    · rename_i h
      have q := R0.slot i
      obtain ⟨f1, f2⟩ := freeS_slot hf h.1
      cases e : S0.at i with
      | no => trivial
      | fz d => rw [e] at q; obtain ⟨v, x, c⟩ := q; exact ⟨v, x, c.step st⟩
      | ow d => rw [e] at f1; cases f1
      | hd d => rw [e] at f1; cases f1
      | ex C fs => exact absurd e (f2 C fs)
    · rename_i h
      have q := R.slot i
      by_cases hl : i < S.length
      · have hi : i ∉ own := fun z => h ⟨z, hl⟩
        rw [other hw hi] at q
        exact q
      · have : S.at i = .no := by
          unfold Fr.at; rw [List.getElem?_eq_none (by omega)]; rfl
        rw [this]; trivial
  dist := fun i j a hij oi oj ei ej => by
    rw [at_rest] at oi oj
    split at oi
    · rename_i h
      rw [(freeS_slot hf h.1).1] at oi; cases oi
    · split at oj
      · rename_i h
        rw [(freeS_slot hf h.1).1] at oj; cases oj
      · rename_i h1 h2
        have i1 : i ∉ own := fun z => h1 ⟨z, at_lt fun y => by rw [y] at oi; cases oi⟩
        have j1 : j ∉ own := fun z => h2 ⟨z, at_lt fun y => by rw [y] at oj; cases oj⟩
        rw [← other hw i1] at ei
        rw [← other hw j1] at ej
        exact R.dist i j a hij oi oj ei ej
  pres := R.pres
  keep := R.keep
  mt := R.mt
  mc := R.mc
where
  other {σ σ2 : L2.St} {own : List Nat} (hw : L2.wipe σ2 own = L2.wipe σ own) {i : Nat} (hi : i ∉ own) : σ2[i]? = σ[i]? := by
    have e : ∀ τ : L2.St, (L2.wipe τ own)[i]? = τ[i]? := fun τ => by
      clear hw
      induction own with
      | nil => rfl
      | cons v vs ih =>
        unfold L2.wipe
        rw [List.getElem?_set_ne (fun z => hi (by simp [z])), ih (fun z => hi (by simp [z]))]
    rw [← e σ2, hw, e σ]
/-- a value of the frame is stored by a target -/
def tgG (K : PySem.W.Frag) (ca : Nat → Addr) (t : CT) : TG := fun v σ H Q => ∃ B M S d S', Rep K ca B M H σ S ∧ Dp K ca M H v d ∧ asgT t d S = some S' ∧ ∀ σ', Rep K ca B M H σ' S' → σ'.length = σ.length → (∀ i, i ∉ ctIx t → σ'[i]? = σ[i]?) → Q σ' H
def tgsG (K : PySem.W.Frag) (ca : Nat → Addr) (ts : List CT) : TGs := fun vs σ H Q => ∃ B M S ds S', Rep K ca B M H σ S ∧ Dps K ca M H vs ds ∧ asgT.go ts ds S = some S' ∧ ∀ σ', Rep K ca B M H σ' S' → σ'.length = σ.length → (∀ i, i ∉ ctIxs ts → σ'[i]? = σ[i]?) → Q σ' H
theorem _root_.L2.PG.imp {X : Cx} {e : Expr} {t t' : TG} (h : PG X e t) (q : ∀ v σ H Q, t' v σ H Q → t v σ H Q) : PG X e t' := by
  obtain ⟨h⟩ := h
  exact ⟨fun pins s σ H x v Q I r hw => h pins s σ H x v Q I r (q _ _ _ _ hw)⟩
theorem _root_.L2.PGs.imp {X : Cx} {e : List Expr} {t t' : TGs} (h : PGs X e t) (q : ∀ v σ H Q, t' v σ H Q → t v σ H Q) : PGs X e t' := by
  obtain ⟨h⟩ := h
  exact ⟨fun pins s σ H x v Q I r hw => h pins s σ H x v Q I r (q _ _ _ _ hw)⟩
theorem asgEach_cons {e : Expr} (h : noStar e = true) (es : List Expr) (env : Env) : assignEach (e :: es) env = (false, assign e env) :: assignEach es env := by
  cases e <;> first | rfl | cases h
theorem asgEach_plain {env : Env} : ∀ {es : List Expr}, es.all noStar = true → (assignEach es env).findIdx? (·.1) = none ∧ (assignEach es env).length = es.length
  | [], _ => ⟨rfl, rfl⟩
  | e :: es, h => by
    rw [List.all_cons, Bool.and_eq_true] at h
    obtain ⟨h1, h2⟩ := asgEach_plain (env := env) h.2
    rw [asgEach_cons h.1]
    refine ⟨?_, by simp [h2]⟩
    rw [List.findIdx?_cons, h1]; rfl
theorem go_star {N : List Str} {sc : Scope} {fn : Str → Bool} : ∀ {ts : List CT} {es : List Expr}, okT.go N sc fn ts es = true → es.all noStar = true
  | [], [], _ => rfl
  | [], _ :: _, e => by simp [okT.go] at e
  | _ :: _, [], e => by simp [okT.go] at e
  | t :: ts, d :: ds, e => by
    simp only [okT.go, Bool.and_eq_true] at e
    rw [List.all_cons, e.1.2, go_star e.2]; rfl
mutual
theorem okT_pg {N : List Str} {sc : Scope} {fn : Str → Bool} (hN : X.N = N) (hs : X.env.scope = sc) (nd : N.Nodup) (hc : X.calm = true) (hfn : ∀ x, fn x = true → X.fn x = true) : ∀ (t : CT) (e : Expr), okT N sc fn t e = true → PG X e (tgG X.K ca t)
  | .nm i, .Name x pos, h => by
    simp only [okT, Bool.and_eq_true, Bool.or_eq_true, decide_eq_true_eq] at h
    obtain ⟨hi, hl⟩ := h
    have hloc : Loc X.env.scope x := by
      rw [hs]
      rcases hl with hl | hl
      · exact .inl hl
      · exact .inr hl.2
    have hf : X.fn x = true ∨ X.env.scope.names.lookup x = some .local := by
      rw [hs]
      rcases hl with hl | hl
      · exact .inr hl
      · exact .inl (hfn x hl.1)
    refine (pg_name (i := i) (by rw [hN]; exact nd) (by rw [hN]; exact hi) hloc hf).imp fun v σ H Q ⟨B, M, S, d, S', R, c, e, q⟩ => ?_
    simp only [asgT] at e
    split at e
    · rename_i hlt
      cases e
      exact q _ (R.store ⟨v, rfl, c⟩ hlt (fun z => nomatch z)) (by rw [List.length_set]) (fun j hj => List.getElem?_set_ne (fun z => hj (by simp [ctIx, z])))
    · cases e
  | .tp ts, .Tuple es n pos, h => by
    have h' : okT.go N sc fn ts es = true := by simpa only [okT] using h
    have ha := asgEach_plain (env := X.env) (go_star h')
    refine (pg_tup hc (okT_pgs hN hs nd hc hfn ts es h') ha.2 ha.1).imp fun v σ H Q ⟨B, M, S, d, S', R, c, e, q⟩ => ?_
    cases d with
    | tup ds =>
      cases c with
      | tup ra c =>
        have e' : asgT.go ts ds S = some S' := by simpa only [asgT] using e
        refine ⟨_, _, rfl, ra.sq, ?_, B, M, S, ds, S', R, c, e', q⟩
        rw [c.length, ← goLen ts ds e', goLen2 ts es h']
    | _ => simp [asgT] at e
  | .nm _, .BoolOp .., h | .nm _, .NamedExpr .., h | .nm _, .BinOp .., h | .nm _, .UnaryOp .., h | .nm _, .Lambda .., h | .nm _, .IfExp .., h | .nm _, .Dict .., h | .nm _, .Set .., h | .nm _, .ListComp .., h | .nm _, .SetComp .., h | .nm _, .DictComp .., h | .nm _, .GeneratorExp .., h | .nm _, .Await .., h | .nm _, .Yield .., h | .nm _, .YieldFrom .., h | .nm _, .Compare .., h | .nm _, .Call .., h | .nm _, .FormattedValue .., h | .nm _, .JoinedStr .., h | .nm _, .Constant .., h | .nm _, .Attribute .., h | .nm _, .Subscript .., h | .nm _, .Starred .., h | .nm _, .List .., h | .nm _, .Tuple .., h | .nm _, .Slice .., h => by simp [okT] at h
  | .tp _, .BoolOp .., h | .tp _, .NamedExpr .., h | .tp _, .BinOp .., h | .tp _, .UnaryOp .., h | .tp _, .Lambda .., h | .tp _, .IfExp .., h | .tp _, .Dict .., h | .tp _, .Set .., h | .tp _, .ListComp .., h | .tp _, .SetComp .., h | .tp _, .DictComp .., h | .tp _, .GeneratorExp .., h | .tp _, .Await .., h | .tp _, .Yield .., h | .tp _, .YieldFrom .., h | .tp _, .Compare .., h | .tp _, .Call .., h | .tp _, .FormattedValue .., h | .tp _, .JoinedStr .., h | .tp _, .Constant .., h | .tp _, .Attribute .., h | .tp _, .Subscript .., h | .tp _, .Starred .., h | .tp _, .List .., h | .tp _, .Name .., h | .tp _, .Slice .., h => by simp [okT] at h
theorem okT_pgs {N : List Str} {sc : Scope} {fn : Str → Bool} (hN : X.N = N) (hs : X.env.scope = sc) (nd : N.Nodup) (hc : X.calm = true) (hfn : ∀ x, fn x = true → X.fn x = true) : ∀ (ts : List CT) (es : List Expr), okT.go N sc fn ts es = true → PGs X es (tgsG X.K ca ts)
  | [], [], h => pgs_nil.imp fun vs σ H Q ⟨B, M, S, ds, S', R, c, e, q⟩ => by
    cases ds with
    | nil =>
      cases c
      simp only [asgT.go, Option.some.injEq] at e
      subst e
      exact ⟨rfl, q σ R rfl (fun _ _ => rfl)⟩
    | cons d ds => simp [asgT.go] at e
  | t :: ts, e :: es, h => by
    simp only [okT.go, Bool.and_eq_true] at h
    refine (pgs_cons (okT_pg hN hs nd hc hfn t e h.1.1) (okT_pgs hN hs nd hc hfn ts es h.2) (by rw [asgEach_cons h.1.2]; rfl)).imp fun vs σ H Q ⟨B, M, S, ds, S', R, c, e, q⟩ => ?_
    cases ds with
    | nil => simp [asgT.go] at e
    | cons d ds =>
      cases c with
      | cons c1 c2 =>
        simp only [asgT.go] at e
        cases e1 : asgT t d S with
        | none => rw [e1] at e; cases e
        | some S1 =>
          rw [e1] at e
          refine ⟨_, _, rfl, B, M, S, d, S1, R, c1, e1, fun σ1 R1 l1 h1 => ⟨B, M, S1, ds, S', R1, c2, e, fun σ2 R2 l2 h2 => q σ2 R2 (l2.trans l1) fun i hi => ?_⟩⟩
          have : i ∉ ctIx t ∧ i ∉ ctIxs ts := by simpa [ctIxs] using hi
          rw [h2 i this.2, h1 i this.1]
  | [], _ :: _, h => by simp [okT.go] at h
  | _ :: _, [], h => by simp [okT.go] at h
theorem goLen : ∀ (ts : List CT) (ds : List D) {S S' : Fr}, asgT.go ts ds S = some S' → ts.length = ds.length
  | [], [], _, _, _ => rfl
  | [], _ :: _, _, _, e => by simp [asgT.go] at e
  | _ :: _, [], _, _, e => by simp [asgT.go] at e
  | t :: ts, d :: ds, S, S', e => by
    simp only [asgT.go] at e
    cases e1 : asgT t d S with
    | none => rw [e1] at e; cases e
    | some S1 => rw [e1] at e; simp [goLen ts ds e]
theorem goLen2 {N : List Str} {sc : Scope} {fn : Str → Bool} : ∀ (ts : List CT) (es : List Expr), okT.go N sc fn ts es = true → ts.length = es.length
  | [], [], _ => rfl
  | [], _ :: _, e => by simp [okT.go] at e
  | _ :: _, [], e => by simp [okT.go] at e
  | t :: ts, d :: ds, e => by
    simp only [okT.go, Bool.and_eq_true] at e
    simp [goLen2 ts ds e.2]
end
end
end Ev
end

section
set_option maxRecDepth 100000
set_option maxHeartbeats 4000000
namespace Ev
open PySem PySem.Spec PyProof.Rows L2
section
variable {K : PySem.W.Frag} {ca : Nat → Addr} {B B' : Bs} {M M' : Mset} {H H' : Hp} {σ : L2.St} {S S' : Fr} {W : WX} {Ex : Addr → Nat → Addr → Prop} {X : Cx} {G : Gam}

theorem Rep.congr (R : Rep K ca B M H σ S) (hl : S'.length = S.length) (h : ∀ i, S'.at i = S.at i) : Rep K ca B M H σ S' :=
  { len := hl.trans R.len, slot := fun i => by rw [h]; exact R.slot i, dist := fun i j a hij oi oj => by rw [h] at oi oj; exact R.dist i j a hij oi oj, pres := R.pres, keep := R.keep, mt := R.mt, mc := R.mc }
theorem wipe_get {own : List Nat} {i : Nat} (h : i ∉ own) : (L2.wipe σ own)[i]? = σ[i]? := by
  induction own with
  | nil => rfl
  | cons v vs ih =>
    unfold L2.wipe
    rw [List.getElem?_set_ne (fun z => h (by simp [z])), ih (fun z => h (by simp [z]))]
theorem wipe_get2 {own : List Nat} {i : Nat} (h : i ∈ own) : (L2.wipe σ own)[i]? = if i < σ.length then some none else none := by
  induction own with
  | nil => simp at h
  | cons v vs ih =>
    unfold L2.wipe
    by_cases e : v = i
    · subst e
      by_cases hl : v < σ.length
      · rw [List.getElem?_set_self (by rw [wipe_length]; exact hl), if_pos hl]
      · rw [List.getElem?_eq_none (by rw [List.length_set, wipe_length]; omega), if_neg hl]
    · rw [List.getElem?_set_ne e]
      exact ih (by simpa [Ne.symm e] using h)
theorem wipe_eq {σ1 σ2 : L2.St} {own : List Nat} (hl : σ1.length = σ2.length) (h : ∀ i, i ∉ own → σ1[i]? = σ2[i]?) : L2.wipe σ1 own = L2.wipe σ2 own := by
  apply List.ext_getElem?
  intro i
  by_cases hi : i ∈ own
  · rw [wipe_get2 hi, wipe_get2 hi, hl]
  · rw [wipe_get hi, wipe_get hi, h i hi]
/-- the list under construction -/
structure Acc (K : PySem.W.Frag) (ca : Nat → Addr) (B : Bs) (M : Mset) (H : Hp) (σ : L2.St) (S : Fr) (p : Addr) (ds : List D) : Prop where
  m : M p
  w : B.Wr p
  n : ∀ i, (S.at i).own = true → σ[i]? ≠ some (some (.ref p))
  c : ∃ vs, H p = some (.lst vs) ∧ Dps K ca M H vs ds
/-- .. kept by what runs over the narrowed ground -/
theorem Acc.keep {M0 : Mset} {H0 : Hp} {σ0 : L2.St} {S0 : Fr} {p : Addr} {ds : List D} (R0 : Rep K ca B M0 H0 σ0 S0) (b : B.Ok) (A : Acc K ca B M0 H0 σ0 S0 p ds) (R : Rep K ca (B.but H0 p) M H σ S) (st : Stp M0 H0 M H) : Rep K ca B M H σ S ∧ Acc K ca B M H σ S p ds := by
  refine ⟨R0.unbut R A.w, R.mc p (.inr rfl), A.w, fun i hi x => ?_, ?_⟩
  · have q := R.slot i
    cases e : S.at i with
    | no => rw [e] at hi; cases hi
    | fz d => rw [e] at hi; cases hi
    | ex C fs => rw [e] at hi; cases hi
    | ow d =>
      rw [e] at q
      obtain ⟨a, ea, _, w, _⟩ := q
      rw [x] at ea; cases ea; exact w.2 rfl
    | hd d =>
      rw [e] at q
      obtain ⟨a, ea, _, w, _⟩ := q
      rw [x] at ea; cases ea; exact b.hid i _ w A.w
  · obtain ⟨vs, h, c⟩ := A.c
    exact ⟨vs, R.pres p _ h fun z => z.2 rfl, c.step st⟩
/-- .. one more item -/
theorem Acc.push {p : Addr} {ds : List D} {d : D} {v : V} {vs : List V} (R : Rep K ca B M H σ S) (A : Acc K ca B M H σ S p ds) (hv : Dp K ca M H v d) (h : H p = some (.lst vs)) : Rep K ca B M (upd H p (.lst (vs ++ [v]))) σ S ∧ Acc K ca B M (upd H p (.lst (vs ++ [v]))) σ S p (ds ++ [d]) ∧ Stp M H M (upd H p (.lst (vs ++ [v]))) := by
  have st : Stp M H M (upd H p (.lst (vs ++ [v]))) := Stp.write A.m
  obtain ⟨vs', h', c⟩ := A.c
  rw [h] at h'; cases h'
  have keepA : ∀ i a, (S.at i).own = true → σ[i]? = some (some (.ref a)) → ∀ o, H a = some o → upd H p (.lst (vs ++ [v])) a = some o := fun i a oi ea o ho => by
    rw [upd_ne (fun z => A.n i oi (by rw [ea, z]))]; exact ho
  refine ⟨{ len := R.len, slot := fun i => ?_, dist := R.dist, pres := fun a o ha n => ?_, keep := fun a ha => ?_, mt := fun a ha e => ?_, mc := R.mc }, ⟨A.m, A.w, A.n, _, upd_same, (c.append (.cons hv .nil)).step st⟩, st⟩
  · have q := R.slot i
    cases e : S.at i with
    | no => trivial
    | fz d => rw [e] at q; obtain ⟨w, x, cc⟩ := q; exact ⟨w, x, cc.step st⟩
    | ow d => rw [e] at q; obtain ⟨a, x, m, w, cc⟩ := q; exact ⟨a, x, m, w, cc.keepAt (keepA i a (by rw [e]; rfl) x) st⟩
    | hd d => rw [e] at q; obtain ⟨a, x, m, w, cc⟩ := q; exact ⟨a, x, m, w, cc.keepAt (keepA i a (by rw [e]; rfl) x) st⟩
    | ex C fs =>
      rw [e] at q
      obtain ⟨a, dd, gs, x, q1, h1, n, cc⟩ := q
      exact ⟨a, dd, gs, x, q1, st.pres _ _ h1 n, n, cc.step st⟩
  · rw [upd_ne (fun z => n (by rw [z]; exact A.w))]; exact R.pres a o ha n
  · by_cases e : a = p
    · rw [e, upd_same] at ha; cases ha
    · rw [upd_ne e] at ha; exact R.keep a ha
  · by_cases e2 : a = p
    · rw [e2, upd_same] at e; cases e
    · rw [upd_ne e2] at e; exact R.mt a ha e
/-- a new list -/
theorem Acc.new {p : Addr} (b : B.Ok) (R : Rep K ca B M H σ S) (hp : H p = none) : Rep K ca B (fun a => M a ∨ a = p) (upd H p (.lst [])) σ S ∧ Acc K ca B (fun a => M a ∨ a = p) (upd H p (.lst [])) σ S p [] ∧ Stp M H (fun a => M a ∨ a = p) (upd H p (.lst [])) := by
  have st : Stp M H (fun a => M a ∨ a = p) (upd H p (.lst [])) := Stp.laidM hp
  refine ⟨R.al (Al.upd hp) st (fun _ _ _ _ z => .inl z) (fun a z e => ?_) (fun a z => .inl (R.mc a z)), ⟨.inr rfl, R.wr b hp, fun i hi x => ?_, _, upd_same, .nil⟩, st⟩
  · rcases z with z | z
    · exact (Al.upd hp).mt R.mt a z e
    · rw [z, upd_same] at e; cases e
  · obtain ⟨a, d, _, ea, _, cc⟩ := R.ownAt hi
    rw [x] at ea
    cases ea
    obtain ⟨u, hu⟩ := cc.there
    rw [hp] at hu; cases hu
theorem bnd_ok {α β : Type} {x : Ev.M α} {f : α → Ev.M β} {a : α} {S S1 : Fr} (h : x S = some (.ok a, S1)) : bnd x f S = f a S1 := by unfold bnd; rw [h]
theorem bnd_err {α β : Type} {x : Ev.M α} {f : α → Ev.M β} {e : Err} {S S1 : Fr} (h : x S = some (.error e, S1)) : bnd x f S = some (.error e, S1) := by unfold bnd; rw [h]
theorem bnd_none {α β : Type} {x : Ev.M α} {f : α → Ev.M β} {S : Fr} (h : x S = none) : bnd x f S = none := by unfold bnd; rw [h]
def ttG (K : PySem.W.Frag) (ca : Nat → Addr) (Ex : Addr → Nat → Addr → Prop) (G : Gam) (ifs : List CE) : TT := match ifs with
  | [] => tYes
  | [c] => rdG K ca Ex okB (fun _ _ _ _ => False) (bnd (evE G c) asBl)
  | _ => fun _ _ _ => False
theorem sure_run {α β : Type} {ok : Ok α β} {x : Ev.M α} {S' : Fr} {a : α} {Q : β → Hp → Prop} (b : B.Ok) (R : Rep K ca B M H σ S) (e : sure x S = some (.ok a, S')) (q : ∀ y M' H', Rep K ca B M' H' σ S' → Stp M H M' H' → ok B σ S' M' H' a y → Q y H') : Run K ca ok (fun _ _ _ _ => False) x B M S σ H Q := by
  refine ⟨b, R, ?_⟩
  unfold sure at e
  cases e2 : x S with
  | none => rw [e2] at e; cases e
  | some p =>
    obtain ⟨r, S1⟩ := p
    rw [e2] at e
    cases r with
    | error er => cases e
    | ok a' =>
      cases e
      exact q
/-- a turn's tests -/
theorem tests_run {ifs : List CE} {S' : Fr} {k : Bool} {Q : Bool → Hp → Prop} (he : B.Ex = Ex) (b : B.Ok) (R : Rep K ca B M H σ S) (hn : ifs.length ≤ 1) (e : sure (evT G ifs) S = some (.ok k, S')) (q : ∀ M' H', Rep K ca B M' H' σ S' → Stp M H M' H' → Q k H') : ttG K ca Ex G ifs σ H Q := by
  cases ifs with
  | nil =>
    cases e
    exact q M H R .refl
  | cons c cs =>
    cases cs with
    | cons _ _ => simp at hn
    | nil =>
      refine ⟨B, M, S, he, ?_⟩
      have e' : sure (bnd (evE G c) asBl) S = some (.ok k, S') := by
        have e0 : evT G [c] = bnd (evE G c) fun p => bnd (asBl p) fun k => if k then evT G [] else ret false := rfl
        rw [e0] at e
        unfold sure at e ⊢
        cases e1 : evE G c S with
        | none => rw [bnd_none e1] at e; cases e
        | some p =>
          obtain ⟨r, S1⟩ := p
          cases r with
          | error er => rw [bnd_err e1] at e; cases e
          | ok pr =>
            rw [bnd_ok e1] at e ⊢
            obtain ⟨d, f⟩ := pr
            cases d with
            | bl bb =>
              have e3 : (bnd (asBl (.bl bb, f)) fun k => if k then evT G [] else ret false) S1 = some (.ok bb, S1) := by cases bb <;> rfl
              rw [e3] at e
              exact e
            | _ => cases e
      exact sure_run b R e' fun y M' H' R' st o => by cases o; exact q M' H' R' st
/-- one turn taken apart -/
theorem loop_cons {asg : D → Fr → Option Fr} {test : Ev.M Bool} {elt : Ev.M D} {d : D} {ds : List D} {ys : List D} {S S' : Fr} (e : compLoop asg (sure test) (sure elt) (d :: ds) S = some (.ok ys, S')) :
    ∃ S1 k S2, asg d S = some S1 ∧ sure test S1 = some (.ok k, S2) ∧
      ((k = true ∧ ∃ y S3 zs, sure elt S2 = some (.ok y, S3) ∧ compLoop asg (sure test) (sure elt) ds S3 = some (.ok zs, S') ∧ zs.length < 1000000 ∧ ys = y :: zs) ∨
       (k = false ∧ compLoop asg (sure test) (sure elt) ds S2 = some (.ok ys, S'))) := by
  simp only [compLoop] at e
  cases e1 : asg d S with
  | none => rw [e1] at e; cases e
  | some S1 =>
    rw [e1] at e
    unfold bnd at e
    cases e2 : sure test S1 with
    | none => simp only [e2] at e; cases e
    | some p =>
      obtain ⟨r, S2⟩ := p
      simp only [e2] at e
      cases r with
      | error er => cases e
      | ok k =>
        refine ⟨S1, k, S2, rfl, e2, ?_⟩
        cases k with
        | false => exact .inr ⟨rfl, e⟩
        | true =>
          refine .inl ⟨rfl, ?_⟩
          simp only [if_true] at e
          cases e3 : sure elt S2 with
          | none => simp only [e3] at e; cases e
          | some p3 =>
            obtain ⟨r3, S3⟩ := p3
            simp only [e3] at e
            cases r3 with
            | error er => cases e
            | ok y =>
              dsimp only at e
              cases e4 : compLoop asg (sure test) (sure elt) ds S3 with
              | none => simp only [e4] at e; cases e
              | some p4 =>
                obtain ⟨r4, S4⟩ := p4
                simp only [e4] at e
                cases r4 with
                | error er => cases e
                | ok zs =>
                  dsimp only at e
                  split at e
                  · rename_i hz
                    cases e
                    exact ⟨y, S3, zs, rfl, e4, hz, rfl⟩
                  · cases e
/-- what holds ahead of turn i -/
structure Turns (K : PySem.W.Frag) (ca : Nat → Addr) (B : Bs) (J : It) (M1 : Mset) (H1 : Hp) (σ : L2.St) (own : List Nat) (asg : D → Fr → Option Fr) (test : Ev.M Bool) (elt : Ev.M D) (all ys : List D) (Sf : Fr) (p : Addr) (i : Nat) (H : Hp) (M : Mset) (S : Fr) (done rest : List D) : Prop where
  R : Rep K ca B M H (L2.wipe σ own) (wipeS S own)
  A : Acc K ca B M H (L2.wipe σ own) (wipeS S own) p done
  st : Stp M1 H1 M H
  k : Wk K ca B J all M H
  e : compLoop asg (sure test) (sure elt) (all.drop i) S = some (.ok rest, Sf)
  l : rest.length < 1000001 ∧ done.length + rest.length < 1000001
  y : done ++ rest = ys
theorem loop_len {asg : D → Fr → Option Fr} {test : Ev.M Bool} {elt : Ev.M D} : ∀ {ds ys : List D} {S S' : Fr}, compLoop asg (sure test) (sure elt) ds S = some (.ok ys, S') → ys.length < 1000001
  | [], ys, S, S', e => by cases e; simp
  | d :: ds, ys, S, S', e => by
    obtain ⟨S1, k, S2, _, _, h⟩ := loop_cons e
    rcases h with ⟨_, y, S3, zs, _, _, hz, rfl⟩ | ⟨_, h⟩
    · simp; omega
    · exact loop_len h
/-- THE COMPREHENSION: what the turns do -/
theorem comp_turns {J : It} {t : CT} {own : List Nat} {ifs : List CE} {e : CE} {ds ys : List D} {Sf : Fr} {Q : VK} {te : TE} (b : B.Ok) (he : B.Ex = Ex) (R : Rep K ca B M H σ S) (wk : Wk K ca B J ds M H) (hn : ifs.length ≤ 1) (hix : ∀ i ∈ ctIx t, i ∈ own)
    (hl : compLoop (fun d S => asgT t d (wipeS S own)) (sure (evT G ifs)) (sure (bnd (evE G e) fun q => ret q.1)) ds S = some (.ok ys, Sf))
    (hte : ∀ σ H Q, rdG K ca Ex (ResOk K ca) (fun _ _ _ _ => False) (evE G e) σ H Q → te σ H Q)
    (fin : ∀ M' H' p vs, Rep K ca B M' H' (L2.wipe σ own) (wipeS Sf own) → Acc K ca B M' H' (L2.wipe σ own) (wipeS Sf own) p ys → H p = none → Stp M H M' H' → H' p = some (.lst vs) → Q (.ref p) H') :
    ∀ p, H p = none → ∃ Wi : Nat → Nat → Hp → Prop, (∃ m, Wi 0 m (upd H p (.lst []))) ∧ ∀ i m H1, Wi i m H1 →
      (J.stop i H1 ∧ Q (.ref p) H1) ∨ (J.go i H1 ∧ ∃ Nx : Hp → Prop, (∀ H', Nx H' → ∃ m', m' < m ∧ Wi (i + 1) m' H') ∧ ∀ x H', J.yld i H1 x H' → tgG K ca t x (L2.wipe σ own) H' fun σ2 H2 => L2.wipe σ2 own = L2.wipe σ own ∧ ttG K ca Ex G ifs σ2 H2 fun bb H3 =>
        if bb = true then te σ2 H3 fun y H4 => ∃ acc, H4 p = some (.lst acc) ∧ acc.length < sizeLine ∧ Nx (upd H4 p (.lst (acc ++ [y]))) else Nx H3) := by
  intro p hp
  obtain ⟨R0, A0, st0⟩ := Acc.new b R hp
  refine ⟨fun i m H1 => m = ds.length - i ∧ i ≤ ds.length ∧ ∃ M1 S1 done rest, Turns K ca B J M H σ own (fun d S => asgT t d (wipeS S own)) (evT G ifs) (bnd (evE G e) fun q => ret q.1) ds ys Sf p i H1 M1 S1 done rest, ⟨ds.length, by simp, Nat.zero_le _, fun a => M a ∨ a = p, S, [], ys, ?_⟩, ?_⟩
  · have Rw := R0.wipe own
    refine ⟨Rw, ⟨A0.m, A0.w, fun i hi x => ?_, A0.c⟩, st0, wk.step st0 R0, hl, ⟨loop_len hl, by simpa using loop_len hl⟩, rfl⟩
    rw [at_wipe] at hi
    split at hi
    · cases hi
    · rename_i hno
      rw [wipe_get hno] at x
      exact A0.n i hi x
  · rintro i m H1 ⟨rfl, hi, M1, S1, done, rest, T⟩
    by_cases hlt : i < ds.length
    · refine .inr ⟨(T.k.go hlt).1, fun H' => ∃ M2 S2 done2 rest2, Turns K ca B J M H σ own (fun d S => asgT t d (wipeS S own)) (evT G ifs) (bnd (evE G e) fun q => ret q.1) ds ys Sf p (i + 1) H' M2 S2 done2 rest2,
        fun H' h => ⟨ds.length - (i + 1), by omega, rfl, hlt, h⟩, fun x H' yy => ?_⟩
      obtain ⟨rfl, d, hd, cd⟩ := (T.k.go hlt).2 x H' yy
      have hdrop : ds.drop i = d :: ds.drop (i + 1) := by
        rw [List.drop_eq_getElem_cons hlt]
        rw [List.getElem?_eq_getElem hlt] at hd
        cases hd; rfl
      have te2 := T.e
      rw [hdrop] at te2
      obtain ⟨S2, kk, S3, ea, et, hk⟩ := loop_cons te2
      have Rb := T.R.but T.A.m T.A.n
      obtain ⟨vs0, hvs0, _⟩ := T.A.c
      have bb := Bs.but_ok b T.R hvs0
      refine ⟨B.but H' p, M1, wipeS S1 own, d, S2, Rb, cd, ea, fun σ2 R2 l2 h2 => ?_⟩
      have hw : L2.wipe σ2 own = L2.wipe σ own := by
        rw [wipe_eq (σ1 := σ2) (σ2 := L2.wipe σ own) l2 fun j hj => h2 j fun z => hj (hix j z)]
        exact wipe_eq (wipe_length σ own) fun j hj => wipe_get hj
      refine ⟨hw, tests_run (B := B.but H' p) (M := M1) (S := S2) he bb R2 hn et fun M3 H3 R3 st3 => ?_⟩
      rcases hk with ⟨rfl, y, S4, zs, ee, er, hz, rfl⟩ | ⟨rfl, er⟩
      · rw [if_pos rfl]
        refine hte _ _ _ ⟨B.but H' p, M3, S3, he, ?_⟩
        have hr := sure_run (ok := fun _ σ _ M H (d : D) (v : V) => Dp K ca M H v d) (x := bnd (evE G e) fun q => ret q.1) (Q := fun v H4 => ∃ acc, H4 p = some (.lst acc) ∧ acc.length < sizeLine ∧ ∃ M2 S2 done2 rest2, Turns K ca B J M H σ own (fun d S => asgT t d (wipeS S own)) (evT G ifs) (bnd (evE G e) fun q => ret q.1) ds ys Sf p (i + 1) (upd H4 p (.lst (acc ++ [v]))) M2 S2 done2 rest2) bb R3 ee (fun v M4 H4 R4 st4 cv => by
          obtain ⟨R5, A5⟩ := T.A.keep T.R b R4 (st3.trans st4)
          have Rw : Rep K ca B M4 H4 (L2.wipe σ own) (wipeS S4 own) := by
            have := R5.wipe own
            rwa [hw] at this
          have Aw : Acc K ca B M4 H4 (L2.wipe σ own) (wipeS S4 own) p done := ⟨A5.m, A5.w, fun j hj x => by
            rw [at_wipe] at hj
            split at hj
            · cases hj
            · rename_i hno
              rw [← hw, wipe_get hno] at x
              exact A5.n j hj x, A5.c⟩
          obtain ⟨acc, hacc, cacc⟩ := A5.c
          obtain ⟨R6, A6, st6⟩ := Aw.push Rw cv hacc
          have hdl := T.l
          simp only [List.length_cons] at hdl
          refine ⟨acc, hacc, ?_, M4, S4, done ++ [y], zs, R6, A6, (T.st.trans (st3.trans st4)).trans st6, (T.k.step (st3.trans st4) R5).step st6 R6, er, ⟨by omega, by simp; omega⟩, by rw [← T.y]; simp⟩
          rw [cacc.length, sizeLine_eq]; omega)
        refine hr.bind fun a S5 v M5 H5 R5 st5 o5 h5 => ?_
        obtain ⟨M6, R6, st6, dp⟩ := o5.val h5.1 R5
        exact h5.ret R6 st6 dp
      · rw [if_neg Bool.false_ne_true]
        obtain ⟨R5, A5⟩ := T.A.keep T.R b R3 st3
        have Rw : Rep K ca B M3 H3 (L2.wipe σ own) (wipeS S3 own) := by
          have := R5.wipe own
          rwa [hw] at this
        refine ⟨M3, S3, done, rest, Rw, ⟨A5.m, A5.w, fun j hj x => by
            rw [at_wipe] at hj
            split at hj
            · cases hj
            · rename_i hno
              rw [← hw, wipe_get hno] at x
              exact A5.n j hj x, A5.c⟩, T.st.trans st3, T.k.step st3 R5, er, T.l, T.y⟩
    · have ei : i = ds.length := by omega
      subst ei
      have te2 := T.e
      rw [List.drop_length] at te2
      cases te2
      obtain ⟨vs, hvs, _⟩ := T.A.c
      refine .inl ⟨T.k.stop (Nat.le_refl _), fin M1 H1 p vs T.R ?_ hp T.st hvs⟩
      have := T.A
      have hy := T.y
      rw [List.append_nil] at hy
      rw [hy] at this
      exact this
end
end Ev
end

section
set_option maxRecDepth 100000
set_option maxHeartbeats 4000000
namespace Ev
open PySem PySem.Spec PyProof.Rows L2
section
variable {ca : Nat → Addr} {B B' : Bs} {M M' : Mset} {H H' : Hp} {σ : L2.St} {S S' : Fr} {W : WX} {Ex : Addr → Nat → Addr → Prop} {X : Cx} {G : Gam}

theorem Drs.i1 {K : PySem.W.Frag} {v : V} {ds : List D} (h : Drs K ca M H [v] ds) : ∃ d, ds = [d] ∧ Dr K ca M H v d := by
  cases h with | cons a b => cases b; exact ⟨_, rfl, a⟩
theorem Drs.i2 {K : PySem.W.Frag} {v w : V} {ds : List D} (h : Drs K ca M H [v, w] ds) : ∃ d e, ds = [d, e] ∧ Dr K ca M H v d ∧ Dr K ca M H w e := by
  cases h with | cons a b => cases b with | cons b c => cases c; exact ⟨_, _, rfl, a, b⟩
theorem isT_flat {e : Expr} {env : Env} (h : flat e = true) : ∀ whole, isTrue e env whole = (do let v ← whole; standAt e.pos; holding [v] (truthy v)) := by
  intro whole
  cases e with
  | UnaryOp op _ _ => cases op <;> first | rfl | cases h
  | BoolOp => cases h
  | IfExp => cases h
  | Compare => cases h
  | _ => rfl
theorem SE.flat {e : Expr} {c : CE} (hv : PE X e (rdG X.K ca Ex (ResOk X.K ca) W (evE G c))) (n : isVar c = false) (hf : Ev.flat e = true) : SE X ca Ex G W e c :=
  SE.mk' hv n (isT_flat hf) (by cases e <;> first | rfl | cases hf)
theorem se_var {T : Tb} {k : Nat} {N : List Str} {sc : Scope} {calm : Bool} (C : CtxOk X ca Ex G T k N sc calm W) {i : Nat} {x : Str} {pos : Pos} (h : nmB N sc i x = true) : SE X ca Ex G W (.Name x pos) (.var i) := by
  simp only [nmB, nrm, visB, Bool.and_eq_true, Bool.or_eq_true, decide_eq_true_eq, Bool.not_eq_true'] at h
  have p := pe_var (X := X) (pos := pos) (i := i) (x := x) (by rw [C.hN]; exact h.1.1) (by unfold Vis; rw [C.hsc]; exact (or_assoc.mp h.1.2)) h.2.1.1.1 h.2.1.1.2
  have hv : PE X (.Name x pos) (rdG X.K ca Ex (ResOk X.K ca) W (evE G (.var i))) := p.imp fun σ H Q ⟨B, M, S, he, b, R, q⟩ => by
    have e1 : evE G (.var i) S = bnd (getV i) (fun d => ret (d, false)) S := rfl
    rw [e1] at q
    cases e : S.at i with
    | fz d =>
      have e2 : getV i S = some (.ok d, S) := by unfold getV; rw [e]
      rw [bnd_ok e2] at q
      obtain ⟨v, hv, dp⟩ := R.slotFz e
      exact ⟨v, hv, q v M H R .refl (by unfold ResOk; rw [if_neg (by simp)]; exact dp)⟩
    | ow d =>
      have e2 : getV i S = some (.ok d, S.set i (.fz d)) := by unfold getV; rw [e]
      rw [bnd_ok e2] at q
      obtain ⟨v, M', hv, dp, R', st⟩ := R.freeze b e
      exact ⟨v, hv, q v M' H R' st (by unfold ResOk; rw [if_neg (by simp)]; exact dp)⟩
    | _ =>
      have e2 : getV i S = none := by unfold getV; rw [e]
      rw [bnd_none e2] at q
      exact q.elim
  refine ⟨hv, p.imp fun σ H Q ⟨B, M, S, he, b, R, q⟩ => ?_, SE.tv hv fun _ => rfl, fun z => nomatch z⟩
  have e1 : opd (.var i) (evE G (.var i)) S = (match S.at i with | .no => none | _ => some (.ok (.ref i), S)) := rfl
  rw [e1] at q
  have qs := R.slot i
  cases e : S.at i with
  | no => rw [e] at q; exact q.elim
  | fz d => rw [e] at q qs; obtain ⟨v, hv, _⟩ := qs; exact ⟨v, hv, q v M H R .refl hv⟩
  | ow d => rw [e] at q qs; obtain ⟨v, hv, _⟩ := qs; exact ⟨_, hv, q _ M H R .refl hv⟩
  | hd d => rw [e] at q qs; obtain ⟨v, hv, _⟩ := qs; exact ⟨_, hv, q _ M H R .refl hv⟩
  | ex C fs => rw [e] at q qs; obtain ⟨v, _, _, hv, _⟩ := qs; exact ⟨_, hv, q _ M H R .refl hv⟩
theorem res_val {r : D × Bool} {v : V} (h : r.2 = false) (c : Dp X.K ca M H v r.1) : ResOk X.K ca B σ S M H r v := by unfold ResOk; rw [if_neg (by simp [h])]; exact c
theorem pe_const {e : Expr} {v : V} {d : D} (p : PE X e (tC v)) (c : ∀ M H, Dp X.K ca M H v d) {m : Ev.M (D × Bool)} (hm : m = ret (d, false)) : PE X e (rdG X.K ca Ex (ResOk X.K ca) W m) := p.imp fun σ H Q ⟨B, M, S, he, h⟩ => by
  subst hm
  exact h.ret h.2.1 .refl (res_val rfl (c M H))
theorem se_lit {d : D} {c : Const} {j : Nat} {pos : Pos} (h : litB d c = true) : SE X ca Ex G W (.Constant c j pos) (.lit d) := by
  refine SE.flat ?_ rfl rfl
  cases d with
  | non => cases c <;> first | (cases h; done) | exact pe_const pe_non (fun _ _ => .non) rfl
  | bl b =>
    cases c <;> first | (cases h; done) | skip
    simp only [litB, beq_iff_eq] at h
    subst h
    exact pe_const pe_bl (fun _ _ => .bl _) rfl
  | int b =>
    cases c <;> first | (cases h; done) | skip
    simp only [litB, beq_iff_eq] at h
    subst h
    exact pe_const pe_int (fun _ _ => .int _) rfl
  | str b =>
    cases c <;> first | (cases h; done) | skip
    simp only [litB, beq_iff_eq] at h
    subst h
    exact pe_const pe_str (fun _ _ => .str _) rfl
  | _ => cases c <;> cases h
theorem se_con {T : Tb} {k : Nat} {N : List Str} {sc : Scope} {calm : Bool} (C : CtxOk X ca Ex G T k N sc calm W) {i : Nat} {x : Str} {pos : Pos} (h : (glB sc x && nrm x && decide (T.cons.lookup x = some i)) = true) : SE X ca Ex G W (.Name x pos) (.con i) := by
  simp only [nrm, Bool.and_eq_true, decide_eq_true_eq, Bool.not_eq_true'] at h
  refine SE.flat ?_ rfl rfl
  cases e : G.con i with
  | none =>
    refine ⟨fun pins s σ H Q I ⟨B, M, S, he, b, R, q⟩ => ?_⟩
    have e1 : evE G (.con i) S = bnd (opt (G.con i)) (fun d => ret (d, false)) S := rfl
    rw [e1, e] at q
    exact q.elim
  | some d =>
    obtain ⟨u, v, hm, r, c⟩ := C.g.con x i d h.2 e
    refine pe_const (pe_glob (gl_of (N := N) C.hsc h.1.1) hm r h.1.2.1.1.1) c ?_
    show bnd (opt (G.con i)) (fun d => ret (d, false)) = _
    rw [e]; rfl
theorem se_bin {op : Operator} {l r : Expr} {a b : CE} {pos : Pos} (ha : SE X ca Ex G W l a) (hb : SE X ca Ex G W r b) : SE X ca Ex G W (.BinOp l op r pos) (.bin op a b) := by
  refine SE.flat ((pe_op (op_bin (ca := ca)) ha.o hb.o).imp fun σ H Q ⟨B, M, S, he, h⟩ => ⟨B, M, S, he, ?_⟩) rfl rfl
  refine h.bind fun x S1 v M1 H1 R1 st1 o1 h1 => ⟨B, M1, S1, he, h1.bind fun y S2 w M2 H2 R2 st2 o2 h2 => ?_⟩
  obtain ⟨ds, rr, hf, hd, pr⟩ := h2.useOs (.cons (o1.step st2) (.cons o2 .nil))
  obtain ⟨d, e, rfl, dd, de⟩ := hd.i2
  exact ⟨M2, d, e, rr, dd, de, hf, pr⟩
theorem se_neg {l : Expr} {a : CE} {pos : Pos} (ha : SE X ca Ex G W l a) : SE X ca Ex G W (.UnaryOp .USub l pos) (.neg a) := by
  refine SE.flat ((pe_un un_neg ha.v).imp fun σ H Q ⟨B, M, S, he, h⟩ => ⟨B, M, S, he, ?_⟩) rfl rfl
  refine h.bind fun p S1 v M1 H1 R1 st1 o1 h1 => ?_
  obtain ⟨d, f⟩ := p
  cases d with
  | int i =>
    have h2 : Run X.K ca (ResOk X.K ca) W (ret (.int (-i), false)) B M1 S1 σ H1 Q := h1
    exact ⟨i, o1.int rfl, h2.ret R1 .refl (res_val rfl (.int _))⟩
  | _ => exact absurd h1.2.2 (fun z => z)
theorem not_bl (a : CE) : bnd (evE G (.not a)) asBl = bnd (bnd (evE G a) asBl) fun b => ret (!b) := by
  show bnd (bnd (evE G a) fun p => bnd (asBl p) fun b => ret (D.bl (!b), false)) asBl = _
  rw [bnd_assoc, bnd_assoc]
  congr 1
  funext p
  rw [bnd_assoc]
  rfl
theorem se_not {l : Expr} {a : CE} {pos : Pos} (ha : SE X ca Ex G W l a) : SE X ca Ex G W (.UnaryOp .Not l pos) (.not a) := by
  have hv : PE X (.UnaryOp .Not l pos) (rdG X.K ca Ex (ResOk X.K ca) W (evE G (.not a))) := (pe_not ha.v).imp fun σ H Q ⟨B, M, S, he, h⟩ => ⟨B, M, S, he, by
    refine h.bind fun p S1 v M1 H1 R1 st1 o1 h1 => ?_
    obtain ⟨d, f⟩ := p
    cases d with
    | bl i =>
      have h2 : Run X.K ca (ResOk X.K ca) W (ret (.bl (!i), false)) B M1 S1 σ H1 Q := h1
      exact ⟨i, o1.bl rfl, h2.ret R1 .refl (res_val rfl (.bl _))⟩
    | _ => exact absurd h1.2.2 (fun z => z)⟩
  refine ⟨hv, SE.ov hv rfl, (pt_not ha.t).imp fun σ H Q ⟨B, M, S, he, h⟩ => ⟨B, M, S, he, ?_⟩, fun z => nomatch z⟩
  rw [not_bl] at h
  exact h.bind fun p S1 v M1 H1 R1 st1 o1 h1 => h1.ret R1 .refl (by cases o1; rfl)
theorem useOs_bl {os : List Op} {f : List D → Option Bool} {Q : Bool → Hp → Prop} (h : Run X.K ca okB W (bnd (useOs os fun ds => plainR .bl (f ds)) asBl) B M S σ H Q) {vs : List V} (o : OpsOk X.K ca B σ S M H os vs) : ∃ ds k, f ds = some k ∧ Drs X.K ca M H vs ds ∧ Q k H := by
  have hb := h.1
  have hR := h.2.1
  have h' : Run X.K ca (ResOk X.K ca) W (useOs os fun ds => plainR .bl (f ds)) B M S σ H fun v H' => ∃ k, v = .bl k ∧ Q k H' := h.bind fun p S1 v M1 H1 R1 st1 o1 h1 => by
    obtain ⟨k, e, h2⟩ := asBl_run h1
    exact ⟨k, o1.bl e, h2.ret R1 .refl rfl⟩
  obtain ⟨ds, r, hf, hd, pr⟩ := h'.useOs o
  unfold plainR at hf
  obtain ⟨k, hk, rfl⟩ := Option.map_eq_some_iff.mp hf
  obtain ⟨k', e, q⟩ := pr.val (.bl k)
  cases e
  exact ⟨ds, k, hk, hd, q⟩
theorem useOs_blE {os : List Op} {f : List D → Option Bool} {Q : VK} (h : Run X.K ca (ResOk X.K ca) W (useOs os fun ds => plainR .bl (f ds)) B M S σ H Q) {vs : List V} (o : OpsOk X.K ca B σ S M H os vs) : ∃ ds k, f ds = some k ∧ Drs X.K ca M H vs ds ∧ Q (.bl k) H := by
  obtain ⟨ds, r, hf, hd, pr⟩ := h.useOs o
  unfold plainR at hf
  obtain ⟨k, hk, rfl⟩ := Option.map_eq_some_iff.mp hf
  exact ⟨ds, k, hk, hd, pr.val (.bl k)⟩
theorem op2_plain (f : D → D → Option Bool) : (op2 fun u v => plainR D.bl (f u v)) = fun ds => plainR D.bl (op2 f ds) := by
  funext ds
  match ds with
  | [] => rfl
  | [_] => rfl
  | [_, _] => rfl
  | _ :: _ :: _ :: _ => rfl
theorem op1_plain {α : Type} (g : α → D) (f : D → Option α) : (op1 fun u => plainR g (f u)) = fun ds => plainR g (op1 f ds) := by
  funext ds
  match ds with
  | [] => rfl
  | [_] => rfl
  | _ :: _ :: _ => rfl
theorem se_cmp (hu : X.A.units + 65 < cLine) {op : CmpOp} {l r : Expr} {a b : CE} {pos : Pos} (ha : SE X ca Ex G W l a) (hb : SE X ca Ex G W r b) (hm : behindInMarks op r = false) : SE X ca Ex G W (.Compare l [op] [r] pos) (.cmp op a b) := by
  have hv : PE X (.Compare l [op] [r] pos) (rdG X.K ca Ex (ResOk X.K ca) W (evE G (.cmp op a b))) := (pe_cmpR (op_cmp (ca := ca) hu) ha.o hb.o hm).imp fun σ H Q ⟨B, M, S, he, h⟩ => ⟨B, M, S, he, by
    refine h.bind fun x S1 v M1 H1 R1 st1 o1 h1 => ⟨B, M1, S1, he, h1.bind fun y S2 w M2 H2 R2 st2 o2 h2 => ?_⟩
    rw [op2_plain] at h2
    obtain ⟨ds, k, hf, hd, q⟩ := useOs_blE h2 (.cons (o1.step st2) (.cons o2 .nil))
    obtain ⟨d, e, rfl, dd, de⟩ := hd.i2
    exact ⟨M2, d, e, k, dd, de, hf, q⟩⟩
  refine ⟨hv, SE.ov hv rfl, (pt_cmpR (op_cmp (ca := ca) hu) ha.o hb.o hm).imp fun σ H Q ⟨B, M, S, he, h⟩ => ⟨B, M, S, he, ?_⟩, fun z => nomatch z⟩
  have e1 : bnd (evE G (.cmp op a b)) asBl = bnd (opd a (evE G a)) fun x => bnd (opd b (evE G b)) fun y => bnd (useOs [x, y] fun ds => plainR .bl (op2 (opCmp op) ds)) asBl := by
    show bnd (bnd (opd a (evE G a)) fun x => bnd (opd b (evE G b)) fun y => useOs [x, y] (op2 fun u v => plainR .bl (opCmp op u v))) asBl = _
    rw [bnd_assoc]; congr 1; funext x; rw [bnd_assoc]; congr 1; funext y; rw [op2_plain]
  rw [e1] at h
  refine h.bind fun x S1 v M1 H1 R1 st1 o1 h1 => ⟨B, M1, S1, he, h1.bind fun y S2 w M2 H2 R2 st2 o2 h2 => ?_⟩
  obtain ⟨ds, k, hf, hd, q⟩ := useOs_bl h2 (.cons (o1.step st2) (.cons o2 .nil))
  obtain ⟨d, e, rfl, dd, de⟩ := hd.i2
  exact ⟨M2, d, e, k, dd, de, hf, k, rfl, q⟩
end
end Ev
end

section
set_option maxRecDepth 100000
set_option maxHeartbeats 4000000
namespace Ev
open PySem PySem.Spec PyProof.Rows L2
section
variable {ca : Nat → Addr} {B B' : Bs} {M M' : Mset} {H H' : Hp} {σ : L2.St} {S S' : Fr} {W : WX} {Ex : Addr → Nat → Addr → Prop} {X : Cx} {G : Gam}
theorem se_cmp2 (hu : X.A.units + 65 < cLine) {op op' : CmpOp} {l m r : Expr} {a b c : CE} {pos : Pos} (ha : SE X ca Ex G W l a) (hb : SE X ca Ex G W m b) (hc : SE X ca Ex G W r c) (hm : lastMarks [op, op'] [m, r] = false) : SE X ca Ex G W (.Compare l [op, op'] [m, r] pos) (.cmp2 op op' a b c) := by
  have key : ∀ {α β : Type} {ok : Ok α β} {Q : β → Hp → Prop} (f : D × Bool → Ev.M α), True := fun _ => trivial
  have hv : PE X (.Compare l [op, op'] [m, r] pos) (rdG X.K ca Ex (ResOk X.K ca) W (evE G (.cmp2 op op' a b c))) := (pe_chain (op_cmp (ca := ca) hu) (op_cmp (ca := ca) hu) ha.o hb.o hc.o hm).imp fun σ H Q ⟨B, M, S, he, h⟩ => ⟨B, M, S, he, by
    refine h.bind fun x S1 v M1 H1 R1 st1 o1 h1 => ⟨B, M1, S1, he, h1.bind fun y S2 w M2 H2 R2 st2 o2 h2 => ?_⟩
    have hp : ∃ ds k, op2 (opCmp op) ds = some k ∧ Drs X.K ca M2 H2 [v, w] ds ∧ Run X.K ca (ResOk X.K ca) W (if k then bnd (opd c (evE G c)) fun z => useOs [y, z] (op2 fun u v => plainR .bl (opCmp op' u v)) else ret (.bl false, false)) B M2 S2 σ H2 Q := by
      have o : OpsOk X.K ca B σ S2 M2 H2 [x, y] [v, w] := .cons (o1.step st2) (.cons o2 .nil)
      obtain ⟨bb, RR, q⟩ := h2
      unfold bnd useOs at q
      cases e1 : rds S2 [x, y] with
      | none => rw [e1] at q; exact q.elim
      | some ds =>
        rw [e1] at q
        dsimp only at q
        cases e2 : op2 (opCmp op) ds with
        | none => rw [e2] at q; exact q.elim
        | some k =>
          rw [e2] at q
          exact ⟨ds, k, e2, o.drs RR e1, bb, RR, q⟩
    obtain ⟨ds, k, hf, hd, h3⟩ := hp
    obtain ⟨d, e, rfl, dd, de⟩ := hd.i2
    refine ⟨M2, d, e, k, dd, de, hf, k, rfl, ?_⟩
    cases k with
    | false => exact h3.ret R2 .refl (res_val rfl (.bl _))
    | true =>
      rw [if_pos rfl] at h3 ⊢
      refine ⟨B, M2, S2, he, h3.bind fun z S3 u M3 H3 R3 st3 o3 h4 => ?_⟩
      rw [op2_plain] at h4
      obtain ⟨ds, k, hf, hd, q⟩ := useOs_blE h4 (.cons (o2.step st3) (.cons o3 .nil))
      obtain ⟨d, e, rfl, dd, de⟩ := hd.i2
      exact ⟨M3, d, e, k, dd, de, hf, q⟩⟩
  refine ⟨hv, SE.ov hv rfl, (pt_chain (op_cmp (ca := ca) hu) (op_cmp (ca := ca) hu) ha.o hb.o hc.o hm).imp fun σ H Q ⟨B, M, S, he, h⟩ => ⟨B, M, S, he, ?_⟩, fun z => nomatch z⟩
  have e1 : bnd (evE G (.cmp2 op op' a b c)) asBl = bnd (opd a (evE G a)) fun x => bnd (opd b (evE G b)) fun y => bnd (useOs [x, y] (op2 (opCmp op))) fun k => if k then bnd (opd c (evE G c)) fun z => bnd (useOs [y, z] fun ds => plainR .bl (op2 (opCmp op') ds)) asBl else ret false := by
    show bnd (bnd (opd a (evE G a)) fun x => bnd (opd b (evE G b)) fun y => bnd (useOs [x, y] (op2 (opCmp op))) fun k => if k then bnd (opd c (evE G c)) fun z => useOs [y, z] (op2 fun u v => plainR .bl (opCmp op' u v)) else ret (D.bl false, false)) asBl = _
    rw [bnd_assoc]; congr 1; funext x; rw [bnd_assoc]; congr 1; funext y; rw [bnd_assoc]; congr 1; funext k
    cases k with
    | false => rfl
    | true => rw [if_pos rfl, if_pos rfl, bnd_assoc]; congr 1; funext z; rw [op2_plain]
  rw [e1] at h
  refine h.bind fun x S1 v M1 H1 R1 st1 o1 h1 => ⟨B, M1, S1, he, h1.bind fun y S2 w M2 H2 R2 st2 o2 h2 => ?_⟩
  have hp : ∃ ds k, op2 (opCmp op) ds = some k ∧ Drs X.K ca M2 H2 [v, w] ds ∧ Run X.K ca okB W (if k then bnd (opd c (evE G c)) fun z => bnd (useOs [y, z] fun ds => plainR .bl (op2 (opCmp op') ds)) asBl else ret false) B M2 S2 σ H2 Q := by
    have o : OpsOk X.K ca B σ S2 M2 H2 [x, y] [v, w] := .cons (o1.step st2) (.cons o2 .nil)
    obtain ⟨bb, RR, q⟩ := h2
    cases e1 : rds S2 [x, y] with
    | none =>
      have : useOs [x, y] (op2 (opCmp op)) S2 = none := by unfold useOs; rw [e1]
      rw [bnd_none this] at q; exact q.elim
    | some ds =>
      cases e2 : op2 (opCmp op) ds with
      | none =>
        have : useOs [x, y] (op2 (opCmp op)) S2 = none := by unfold useOs; rw [e1]; dsimp only; rw [e2]
        rw [bnd_none this] at q; exact q.elim
      | some k =>
        have : useOs [x, y] (op2 (opCmp op)) S2 = some (.ok k, S2) := by unfold useOs; rw [e1]; dsimp only; rw [e2]
        rw [bnd_ok this] at q
        exact ⟨ds, k, e2, o.drs RR e1, bb, RR, q⟩
  obtain ⟨ds, k, hf, hd, h3⟩ := hp
  obtain ⟨d, e, rfl, dd, de⟩ := hd.i2
  refine ⟨M2, d, e, k, dd, de, hf, k, rfl, ?_⟩
  cases k with
  | false => exact ⟨false, rfl, h3.ret R2 .refl rfl⟩
  | true =>
    rw [if_pos rfl] at h3 ⊢
    refine ⟨B, M2, S2, he, h3.bind fun z S3 u M3 H3 R3 st3 o3 h4 => ?_⟩
    obtain ⟨ds, k, hf, hd, q⟩ := useOs_bl h4 (.cons (o2.step st3) (.cons o3 .nil))
    obtain ⟨d, e, rfl, dd, de⟩ := hd.i2
    exact ⟨M3, d, e, k, dd, de, hf, k, rfl, q⟩
theorem and_bl (a b : CE) : bnd (evE G (.and a b)) asBl = bnd (bnd (evE G a) asBl) fun k => if k then bnd (evE G b) asBl else ret false := by
  show bnd (bnd (evE G a) fun p => bnd (asBl p) fun k => if k then bnd (evE G b) fun q => bnd (asBl q) fun k => ret (D.bl k, false) else ret (D.bl false, false)) asBl = _
  rw [bnd_assoc, bnd_assoc]; congr 1; funext p; rw [bnd_assoc]; congr 1; funext k
  cases k with
  | false => rfl
  | true =>
    rw [if_pos rfl, if_pos rfl, bnd_assoc]; congr 1; funext q; rw [bnd_assoc]
    funext S
    obtain ⟨d, f⟩ := q
    cases d <;> rfl
theorem or_bl (a b : CE) : bnd (evE G (.or a b)) asBl = bnd (bnd (evE G a) asBl) fun k => if k then ret true else bnd (evE G b) asBl := by
  show bnd (bnd (evE G a) fun p => bnd (asBl p) fun k => if k then ret (D.bl true, false) else bnd (evE G b) fun q => bnd (asBl q) fun k => ret (D.bl k, false)) asBl = _
  rw [bnd_assoc, bnd_assoc]; congr 1; funext p; rw [bnd_assoc]; congr 1; funext k
  cases k with
  | true => rfl
  | false =>
    rw [if_neg Bool.false_ne_true, if_neg Bool.false_ne_true, bnd_assoc]; congr 1; funext q; rw [bnd_assoc]
    funext S
    obtain ⟨d, f⟩ := q
    cases d <;> rfl
theorem blTail {b : CE} {Q : VK} (h : Run X.K ca (ResOk X.K ca) W (bnd (evE G b) fun q => bnd (asBl q) fun k => ret (D.bl k, false)) B M S σ H Q) : Run X.K ca (ResOk X.K ca) W (evE G b) B M S σ H Q := by
  refine h.bind fun p S1 v M1 H1 R1 st1 o1 h1 => ?_
  obtain ⟨d, f⟩ := p
  cases d with
  | bl i =>
    have h2 : Run X.K ca (ResOk X.K ca) W (ret (.bl i, false)) B M1 S1 σ H1 Q := h1
    rw [o1.bl rfl]
    exact h2.ret R1 .refl (res_val rfl (.bl _))
  | _ => exact absurd h1.2.2 (fun z => z)
theorem se_and {x y : Expr} {r : List Expr} {a b : CE} {pos : Pos} (ha : SE X ca Ex G W x a) (hv' : PE X (.BoolOp .And (y :: r) pos) (rdG X.K ca Ex (ResOk X.K ca) W (evE G b))) (hw' : PW X (.BoolOp .And (y :: r) pos) (rdG X.K ca Ex okB W (bnd (evE G b) asBl))) : SE X ca Ex G W (.BoolOp .And (x :: y :: r) pos) (.and a b) := by
  have hv : PE X (.BoolOp .And (x :: y :: r) pos) (rdG X.K ca Ex (ResOk X.K ca) W (evE G (.and a b))) := (pe_and ha.v hv').imp fun σ H Q ⟨B, M, S, he, h⟩ => ⟨B, M, S, he, by
    refine h.bind fun p S1 v M1 H1 R1 st1 o1 h1 => ?_
    obtain ⟨d, f⟩ := p
    cases d with
    | bl i =>
      refine ⟨i, o1.bl rfl, ?_⟩
      cases i with
      | false =>
        have h2 : Run X.K ca (ResOk X.K ca) W (ret (.bl false, false)) B M1 S1 σ H1 Q := h1
        exact h2.ret R1 .refl (res_val rfl (.bl _))
      | true => exact ⟨B, M1, S1, he, blTail h1⟩
    | _ => exact absurd h1.2.2 (fun z => z)⟩
  have hw : PW X (.BoolOp .And (x :: y :: r) pos) (rdG X.K ca Ex okB W (bnd (evE G (.and a b)) asBl)) := (pw_and ha.t hw').imp fun σ H Q ⟨B, M, S, he, h⟩ => ⟨B, M, S, he, by
    rw [and_bl] at h
    refine h.bind fun k S1 k' M1 H1 R1 st1 o1 h1 => ?_
    cases o1
    cases k with
    | false => exact h1.ret R1 .refl rfl
    | true => exact ⟨B, M1, S1, he, h1⟩⟩
  exact ⟨hv, SE.ov hv rfl, hw.pt, fun _ => hw⟩
theorem se_or {x y : Expr} {r : List Expr} {a b : CE} {pos : Pos} (ha : SE X ca Ex G W x a) (hv' : PE X (.BoolOp .Or (y :: r) pos) (rdG X.K ca Ex (ResOk X.K ca) W (evE G b))) (hw' : PW X (.BoolOp .Or (y :: r) pos) (rdG X.K ca Ex okB W (bnd (evE G b) asBl))) : SE X ca Ex G W (.BoolOp .Or (x :: y :: r) pos) (.or a b) := by
  have hv : PE X (.BoolOp .Or (x :: y :: r) pos) (rdG X.K ca Ex (ResOk X.K ca) W (evE G (.or a b))) := (pe_or ha.v hv').imp fun σ H Q ⟨B, M, S, he, h⟩ => ⟨B, M, S, he, by
    refine h.bind fun p S1 v M1 H1 R1 st1 o1 h1 => ?_
    obtain ⟨d, f⟩ := p
    cases d with
    | bl i =>
      refine ⟨i, o1.bl rfl, ?_⟩
      cases i with
      | true =>
        have h2 : Run X.K ca (ResOk X.K ca) W (ret (.bl true, false)) B M1 S1 σ H1 Q := h1
        exact h2.ret R1 .refl (res_val rfl (.bl _))
      | false => exact ⟨B, M1, S1, he, blTail h1⟩
    | _ => exact absurd h1.2.2 (fun z => z)⟩
  have hw : PW X (.BoolOp .Or (x :: y :: r) pos) (rdG X.K ca Ex okB W (bnd (evE G (.or a b)) asBl)) := (pw_or ha.t hw').imp fun σ H Q ⟨B, M, S, he, h⟩ => ⟨B, M, S, he, by
    rw [or_bl] at h
    refine h.bind fun k S1 k' M1 H1 R1 st1 o1 h1 => ?_
    cases o1
    cases k with
    | true => exact h1.ret R1 .refl rfl
    | false => exact ⟨B, M1, S1, he, h1⟩⟩
  exact ⟨hv, SE.ov hv rfl, hw.pt, fun _ => hw⟩
theorem pt_ifExp {t x y : Expr} {pos : Pos} {tA ta tb : TT} (hc : PT X t tA) (ha : PT X x ta) (hb : PT X y tb) : PT X (.IfExp t x y pos) (fun σ H Q => tA σ H fun c H1 => if c = true then ta σ H1 Q else tb σ H1 Q) := by
  refine ⟨fun pins s σ H Q I h => ?_⟩
  refine isTrue_IfExp (thn (hc.run pins s σ H _ I h) fun d s1 ⟨H1, I1, q1⟩ => ?_)
  cases d with
  | true => exact ha.run pins s1 σ H1 Q I1 q1
  | false => exact hb.run pins s1 σ H1 Q I1 q1
theorem ite_ev (c a b : CE) : evE G (.ite c a b) = bnd (bnd (evE G c) asBl) fun k => if k then evE G a else evE G b := by
  show bnd (evE G c) (fun p => bnd (asBl p) fun k => if k then evE G a else evE G b) = _
  rw [bnd_assoc]
theorem se_ite {t x y : Expr} {c a b : CE} {pos : Pos} (hc : SE X ca Ex G W t c) (ha : SE X ca Ex G W x a) (hb : SE X ca Ex G W y b) : SE X ca Ex G W (.IfExp t x y pos) (.ite c a b) := by
  have hv : PE X (.IfExp t x y pos) (rdG X.K ca Ex (ResOk X.K ca) W (evE G (.ite c a b))) := (pe_ifExp hc.t ha.v hb.v).imp fun σ H Q ⟨B, M, S, he, h⟩ => ⟨B, M, S, he, by
    rw [ite_ev] at h
    refine h.bind fun k S1 k' M1 H1 R1 st1 o1 h1 => ?_
    cases o1
    cases k with
    | true => exact ⟨B, M1, S1, he, h1⟩
    | false => exact ⟨B, M1, S1, he, h1⟩⟩
  refine ⟨hv, SE.ov hv rfl, (pt_ifExp hc.t ha.t hb.t).imp fun σ H Q ⟨B, M, S, he, h⟩ => ⟨B, M, S, he, ?_⟩, fun z => nomatch z⟩
  rw [ite_ev, bnd_assoc] at h
  refine h.bind fun k S1 k' M1 H1 R1 st1 o1 h1 => ?_
  cases o1
  cases k with
  | true => exact ⟨B, M1, S1, he, h1⟩
  | false => exact ⟨B, M1, S1, he, h1⟩
theorem se_tup {es : List Expr} {cs : List CE} {n : Nat} {pos : Pos} (h : SEs X ca Ex G W es cs) : SE X ca Ex G W (.Tuple es n pos) (.tup cs) := by
  refine SE.flat ((pe_tup h.vals).imp fun σ H Q ⟨B, M, S, he, h⟩ => ⟨B, M, S, he, ?_⟩) rfl rfl
  refine h.bind fun ds S1 vs M1 H1 R1 st1 o1 h1 => ?_
  have o1' : Dps X.K ca M1 H1 vs ds := o1
  by_cases hl : ds.length ≤ most
  · rw [if_pos hl] at h1
    refine ⟨by rw [o1'.length, ← most_line]; exact hl, fun p hp => ?_⟩
    have al : Al H1 (upd H1 p (.tup vs)) := Al.upd hp
    exact h1.ret (R1.al0 al) al.stp (res_val rfl (.tup (.inl ⟨.inl upd_same, fun z => R1.mt p z hp⟩) (o1'.step al.stp)))
  · rw [if_neg hl] at h1; exact absurd h1.2.2 (fun z => z)
theorem fresh_res (b : B.Ok) (R : Rep X.K ca B M H σ S) {p : Addr} (hp : H p = none) {vs : List V} {ds : List D} (c : Dps X.K ca M H vs ds) {Q : VK} (h : ∀ v M' H', Rep X.K ca B M' H' σ S → Stp M H M' H' → ResOk X.K ca B σ S M' H' (.lst ds, true) v → Q v H') : Q (.ref p) (upd H p (.lst vs)) := by
  have al : Al H (upd H p (.lst vs)) := Al.upd hp
  have st : Stp M H (fun a => M a ∨ a = p) (upd H p (.lst vs)) := Stp.laidM hp
  refine h _ _ _ (R.al al st (fun _ _ _ _ z => .inl z) (fun a z e => ?_) (fun a z => .inl (R.mc a z))) st ?_
  · rcases z with z | z
    · exact al.mt R.mt a z e
    · rw [z, upd_same] at e; cases e
  · unfold ResOk
    rw [if_pos rfl]
    refine ⟨p, rfl, .inr rfl, R.wr b hp, .lst upd_same (c.step st), fun i oi x => ?_⟩
    obtain ⟨a, d, _, ea, _, cc⟩ := R.ownAt oi
    rw [x] at ea
    cases ea
    obtain ⟨u, hu⟩ := cc.there
    rw [hp] at hu; cases hu
theorem se_lst {es : List Expr} {cs : List CE} {pos : Pos} (h : SEs X ca Ex G W es cs) : SE X ca Ex G W (.List es pos) (.lst cs) := by
  refine SE.flat ((pe_lst h.vals).imp fun σ H Q ⟨B, M, S, he, h⟩ => ⟨B, M, S, he, ?_⟩) rfl rfl
  refine h.bind fun ds S1 vs M1 H1 R1 st1 o1 h1 => ?_
  have o1' : Dps X.K ca M1 H1 vs ds := o1
  by_cases hl : ds.length ≤ most
  · rw [if_pos hl] at h1
    refine ⟨by rw [o1'.length, ← most_line]; exact hl, fun p hp => ?_⟩
    exact fresh_res h1.1 R1 hp o1' fun v M' H' R' st r => h1.ret R' st r
  · rw [if_neg hl] at h1; exact absurd h1.2.2 (fun z => z)
theorem se_idx {l r : Expr} {a b : CE} {pos : Pos} (ha : SE X ca Ex G W l a) (hb : SE X ca Ex G W r b) (hp : plainSlice r = true) : SE X ca Ex G W (.Subscript l r pos) (.idx a b) := by
  refine SE.flat ((pe_ix (ix_any (ca := ca)) ha.o hb.o (by cases r <;> first | (intro _ _; rfl) | cases hp)).imp fun σ H Q ⟨B, M, S, he, h⟩ => ⟨B, M, S, he, ?_⟩) rfl rfl
  refine h.bind fun x S1 v M1 H1 R1 st1 o1 h1 => ⟨B, M1, S1, he, h1.bind fun y S2 w M2 H2 R2 st2 o2 h2 => ?_⟩
  obtain ⟨ds, rr, hf, hd, pr⟩ := h2.useOs (.cons (o1.step st2) (.cons o2 .nil))
  obtain ⟨d, e, rfl, dd, de⟩ := hd.i2
  have hf' : plainR id (opIdx d e) = some rr := hf
  unfold plainR at hf'
  obtain ⟨z, hz, rfl⟩ := Option.map_eq_some_iff.mp hf'
  exact ⟨M2, d, e, z, dd, de, hz, fun w c => pr.val c⟩
inductive SEo (X : Cx) (ca : Nat → Addr) (Ex : Addr → Nat → Addr → Prop) (G : Gam) (W : WX) : Option Expr → Option CE → Prop
  | none : SEo X ca Ex G W none none
  | some {e : Expr} {c : CE} : SE X ca Ex G W e c → SEo X ca Ex G W (some e) (some c)
def okO : Ok (Option Int) (Option Int) := fun _ _ _ _ _ a b => a = b
theorem SEo.po {e : Option Expr} {c : Option CE} (h : SEo X ca Ex G W e c) : PO X e (rdG X.K ca Ex okO W (evP G c)) := by
  cases h with
  | none => exact po_none.imp fun σ H Q ⟨B, M, S, he, h⟩ => h.ret h.2.1 .refl rfl
  | some h =>
    refine (po_some h.v).imp fun σ H Q ⟨B, M, S, he, h⟩ => ⟨B, M, S, he, ?_⟩
    refine h.bind fun p S1 v M1 H1 R1 st1 o1 h1 => ?_
    obtain ⟨d, f⟩ := p
    cases d with
    | int i =>
      have h2 : Run X.K ca okO W (ret (Option.some i)) B M1 S1 σ H1 Q := h1
      exact ⟨i, o1.int rfl, h2.ret R1 .refl rfl⟩
    | _ => exact absurd h1.2.2 (fun z => z)
theorem se_sl {l : Expr} {lo hi : Option Expr} {a : CE} {clo chi : Option CE} {pos p2 : Pos} (ha : SE X ca Ex G W l a) (hl : SEo X ca Ex G W lo clo) (hh : SEo X ca Ex G W hi chi) : SE X ca Ex G W (.Subscript l (.Slice lo hi none p2) pos) (.sl a clo chi) := by
  refine SE.flat ((pe_slice (sl_any (ca := ca)) ha.o hl.po hh.po).imp fun σ H Q ⟨B, M, S, he, h⟩ => ⟨B, M, S, he, ?_⟩) rfl rfl
  refine h.bind fun x S1 v M1 H1 R1 st1 o1 h1 => ⟨B, M1, S1, he, h1.bind fun y S2 w M2 H2 R2 st2 o2 h2 => ⟨B, M2, S2, he, h2.bind fun z S3 u M3 H3 R3 st3 o3 h3 => ?_⟩⟩
  cases o2; cases o3
  obtain ⟨ds, rr, hf, hd, pr⟩ := h3.useOs (.cons ((o1.step (S' := S2) st2).step (S' := S3) st3) .nil)
  obtain ⟨d, rfl, dd⟩ := hd.i1
  exact ⟨M3, d, rr, dd, hf, pr⟩
theorem attr_base {o : Expr} {f : Str} {env : Env} (h : noCall0 o = true) (w : Sem Value) : attributeBase o f env w = w := by
  cases o with
  | Call func args kws pos =>
    cases args with
    | nil => cases h
    | cons a as => cases func <;> rfl
  | _ => rfl
theorem Dpf.get {K : PySem.W.Frag} {f : Str} {d : D} : ∀ {gs : List (Str × V)} {fs : List (Str × D)}, Dpf K ca M H gs fs → fs.lookup f = some d → ∃ v, gs.lookup f = some v ∧ Dp K ca M H v d
  | _, _, .nil, e => by simp at e
  | _, _, .cons (f := g) (v := v) h t, e => by
    by_cases hg : f == g
    · simp only [List.lookup, hg] at e ⊢
      cases e
      exact ⟨_, rfl, h⟩
    · simp only [List.lookup, hg] at e ⊢
      exact Dpf.get t e
theorem se_att {T : Tb} {k : Nat} {N : List Str} {sc : Scope} {calm : Bool} (C : CtxOk X ca Ex G T k N sc calm W) {l : Expr} {a : CE} {f : Str} {pos : Pos} (ha : SE X ca Ex G W l a) (hc : noCall0 l = true) : SE X ca Ex G W (.Attribute l f pos) (.att a f) := by
  refine SE.flat ((pe_fld (f := f) ha.o (attr_base hc _)).imp fun σ H Q ⟨B, M, S, he, h⟩ => ⟨B, M, S, he, ?_⟩) rfl rfl
  refine h.bind fun x S1 v M1 H1 R1 st1 o1 h1 => ?_
  obtain ⟨ds, rr, hf, hd, pr⟩ := h1.useOs (.cons o1 .nil)
  obtain ⟨d, rfl, dd⟩ := hd.i1
  have hf' : plainR id (opAtt G.toSg d f) = some rr := hf
  unfold plainR at hf'
  obtain ⟨z, hz, rfl⟩ := Option.map_eq_some_iff.mp hf'
  unfold opAtt at hz
  split at hz
  · split at hz
    · rename_i hids
      obtain ⟨a, dx, gs, rfl, hH, cf⟩ := dd.insI
      obtain ⟨w, hw, cw⟩ := cf.get hz
      exact ⟨a, _, dx, gs, w, rfl, hH, C.g.ok _ hids.1, C.g.fld _ hids.1 _ hids.2, hw, pr.val cw⟩
    · cases hz
  · cases hz
theorem se_attE {T : Tb} {k : Nat} {N : List Str} {sc : Scope} {calm : Bool} (C : CtxOk X ca Ex G T k N sc calm W) {l : Expr} {a : CE} {f : Str} {pos : Pos} (ha : SE X ca Ex G W l a) (hc : noCall0 l = true) : SE X ca Ex G W (.Attribute l f pos) (.attE a f) := by
  refine SE.flat ((pe_fldE (n := f) ha.o (attr_base hc _)).imp fun σ H Q ⟨B, M, S, he, h⟩ => ⟨B, M, S, he, ?_⟩) rfl rfl
  refine h.bind fun x S1 v M1 H1 R1 st1 o1 h1 => ?_
  obtain ⟨ds, rr, hf, hd, pr⟩ := h1.useOs (.cons o1 .nil)
  obtain ⟨d, rfl, dd⟩ := hd.i1
  have hf' : plainR id (opAttE G.toSg d f) = some rr := hf
  unfold plainR at hf'
  obtain ⟨z, hz, rfl⟩ := Option.map_eq_some_iff.mp hf'
  unfold opAttE at hz
  split at hz
  · split at hz
    · rename_i hx
      obtain ⟨a, dx, gs, rfl, hH, hD, cf⟩ := dd.errI
      obtain ⟨w, hw, cw⟩ := cf.get hz
      obtain ⟨⟨fI, T1⟩, X1⟩ := C.g.ert _ _ hx
      exact ⟨a, dx, _, gs, w, rfl, hH, hD, X1, T1.noN, hw, pr.val cw⟩
    · cases hz
  · cases hz
theorem se_exv {T : Tb} {k : Nat} {N : List Str} {sc : Scope} (C : CtxOk X ca Ex G T k N sc false W) {i : Nat} {x f : Str} {pos p2 : Pos} (h : nmB N sc i x = true) : SE X ca Ex G W (.Attribute (.Name x pos) f p2) (.exv i f) := by
  simp only [nmB, nrm, visB, Bool.and_eq_true, Bool.or_eq_true, decide_eq_true_eq, Bool.not_eq_true'] at h
  refine SE.flat ((C.exr rfl i x pos p2 f h.1.1 (or_assoc.mp h.1.2) h.2.1.1.1 h.2.1.1.2 h.2.1.2).imp fun σ H Q ⟨B, M, S, he, b, R, q⟩ => ?_) rfl rfl
  have qs := R.slot i
  have e1 : evE G (.exv i f) S = (match S.at i with | .ex C fs => if G.exf C = some f then (match fs.lookup f with | some d => some (.ok (d, false), S) | none => none) else none | _ => none) := rfl
  rw [e1] at q
  cases e : S.at i with
  | ex C fs =>
    rw [e] at q qs
    obtain ⟨a, dd, gs, hv, hex, h1, nM, cf⟩ := qs
    dsimp only at q
    by_cases hf : G.exf C = some f
    · rw [if_pos hf] at q
      cases e2 : fs.lookup f with
      | none => rw [e2] at q; exact q.elim
      | some d =>
        rw [e2] at q
        obtain ⟨w, hw, cw⟩ := cf.get e2
        exact ⟨a, C, dd, gs, w, hv, by rw [← he]; exact hex, h1, hf, hw, q w M H R .refl (res_val rfl cw)⟩
    · rw [if_neg hf] at q; exact q.elim
  | _ => rw [e] at q; exact q.elim
end
end Ev
end

section
set_option maxRecDepth 100000
set_option maxHeartbeats 4000000
namespace Ev
open PySem PySem.Spec PyProof.Rows L2
section
variable {ca : Nat → Addr} {B B' : Bs} {M M' : Mset} {H H' : Hp} {σ : L2.St} {S S' : Fr} {W : WX} {Ex : Addr → Nat → Addr → Prop} {X : Cx} {G : Gam} {T : Tb} {k : Nat} {N : List Str} {sc : Scope} {calm : Bool}
theorem nrm_of {x : Str} (h : nrm x = true) : (x == ("__debug__" : Str)) = false ∧ x ≠ ("__name__" : Str) := by
  simp only [nrm, Bool.and_eq_true, Bool.not_eq_true'] at h
  exact ⟨h.1.1.1, fun e => by rw [e] at h; simp at h⟩
theorem se_call (C : CtxOk X ca Ex G T k N sc true W) {x : Str} {p pos : Pos} {y : Expr} {ys : List Expr} {f : Nat} {cs : List CE} (hg : glB sc x = true) (hn : nrm x = true) (hf : T.fns.lookup x = some f) (hs : SEs X ca Ex G W (y :: ys) cs) (har : cs.length = T.ar f) : SE X ca Ex G W (.Call (.Name x p) (y :: ys) [] pos) (.call f cs) := by
  obtain ⟨fa, hm, ⟨fd, ps, hl, hb, F⟩, kp⟩ := C.g.fn x f hf
  have ha := hs.all
  rw [List.all_cons, Bool.and_eq_true] at ha
  refine SE.flat ((pe_callS F ((C.room rfl).mono (Nat.le_succ _)) (gl_of (N := N) C.hsc hg) hm kp hb (fun σ => L2.passAt C.tk σ) (hs.args (G.io f)) (nrm_of hn).1 (star_cons ha.1 ys X.env) (star_plain ha.2)).imp fun σ H Q ⟨B, M, S, he, h⟩ => ⟨B, M, S, he, ?_⟩) rfl rfl
  refine h.bind fun ags S1 vs M1 H1 R1 st1 o1 h1 => ?_
  obtain ⟨ts, as, l1⟩ := o1
  exact callF_sp h1 as (by rw [l1, har, hl])
theorem se_make (C : CtxOk X ca Ex G T k N sc true W) {x : Str} {p pos : Pos} {y : Expr} {ys : List Expr} {D f : Nat} {cs : List CE} (hg : glB sc x = true) (hn : nrm x = true) (hf : T.cls.lookup x = some D) (hi : G.init D = some f) (hs : SEs X ca Ex G W (y :: ys) cs) (har : cs.length + 1 = T.ar f) (hio : (G.io f).headD false = true) : SE X ca Ex G W (.Call (.Name x p) (y :: ys) [] pos) (.make D cs) := by
  have hm := C.g.cls x D hf
  obtain ⟨fa, mk, ⟨fd, ps, hl, hb, F⟩, kp⟩ := C.g.mkr D f hi
  have ha := hs.all
  rw [List.all_cons, Bool.and_eq_true] at ha
  refine SE.flat ((pe_makeS mk F (C.room rfl) (gl_of (N := N) C.hsc hg) hm hb (fun σ => L2.passAt C.tk σ) (hs.args (G.io f).tail) (nrm_of hn).1 (star_cons ha.1 ys X.env) (star_plain ha.2)).imp fun σ H Q ⟨B, M, S, he, h⟩ => ⟨B, M, S, he, ?_⟩) rfl rfl
  have e1 : evE G (.make D cs) = bnd (evAs G (G.io f).tail cs) fun ags => makeF (G.Phi f) D ags := by
    show (match G.init D with | none => stuck | some f => bnd (evAs G (G.io f).tail cs) fun ags => makeF (G.Phi f) D ags) = _
    rw [hi]
  rw [e1] at h
  refine h.bind fun ags S1 vs M1 H1 R1 st1 o1 h1 => fun z dx hz hdx hne => ?_
  obtain ⟨ts, as, l1⟩ := o1
  exact makeF_sp h1 hio as (by rw [l1, har, hl]) hz hdx hne
theorem prim_res {Q : VK} {os : List Op} {f : List D → Option (D × Bool)} (h : Run X.K ca (ResOk X.K ca) W (useOs os f) B M S σ H Q) {vs : List V} (o : OpsOk X.K ca B σ S M H os vs) : ∃ ds r, f ds = some r ∧ Drs X.K ca M H vs ds ∧ Prim X.K ca M H r Q := h.useOs o
theorem blt_boot {b : Blt} {x : Str} {n : Nat} (h : bltB b x n = true) : bootBuiltins x = some b.id := by
  cases b <;> first | (cases h; done) | skip
  all_goals
    simp only [bltB, Bool.and_eq_true, beq_iff_eq] at h
    rw [h.1]
    decide +kernel
theorem se_blt (C : CtxOk X ca Ex G T k N sc true W) {x : Str} {p pos : Pos} {y : Expr} {ys : List Expr} {b : Blt} {cs : List CE} {n : Nat} (hg : glB sc x = true) (hn : nrm x = true) (hf : T.free.contains x = true) (hb : bltB b x n = true) (hs : SEs X ca Ex G W (y :: ys) cs) : SE X ca Ex G W (.Call (.Name x p) (y :: ys) [] pos) (.blt b cs) := by
  have hm := C.g.free x (by simpa using hf)
  have ha := hs.all
  rw [List.all_cons, Bool.and_eq_true] at ha
  have hboot := blt_boot hb
  have hc := call_blt (X := X) (ca := ca) (C.hc rfl) (b := b)
  obtain ⟨hdb, hnm⟩ := nrm_of hn
  have fin : ∀ σ H Q, rdG X.K ca Ex (ResOk X.K ca) W (evE G (.blt b cs)) σ H Q → tCB (rBlt X.K ca b) (rdG X.K ca Ex (okOs X.K ca) W (evOs G cs)) σ H Q := fun σ H Q ⟨B, M, S, he, h⟩ => ⟨B, M, S, he, by
    refine h.bind fun os S1 vs M1 H1 R1 st1 o1 h1 => ?_
    obtain ⟨ds, r, hf, hd, pr⟩ := h1.useOs o1
    exact ⟨M1, ds, r, hd, hf, pr⟩⟩
  refine SE.flat ?_ rfl rfl
  cases b with
  | sorted => cases hb
  | listr => cases hb
  | int | str | list | tuple => exact (pe_callTy hc (gl_of (N := N) C.hsc hg) hm hboot hs.ops hnm hdb (star_cons ha.1 ys X.env) (star_plain ha.2)).imp fin
  | len | abs | max2 | min2 | sum | max | min | all | any => exact (pe_callB hc (gl_of (N := N) C.hsc hg) hm hboot hs.ops hnm hdb (star_cons ha.1 ys X.env) (star_plain ha.2)).imp fin
def isi0 (ids : List Nat) (t : Ty) (d : D) : Option Bool := match t with
  | .ty n => isTy n d
  | .own D => if D ∈ ids then some false else none
abbrev okTyN (n : String) : Prop := n = "int" ∨ n = "bool" ∨ n = "str" ∨ n = "tuple" ∨ n = "list"
theorem isi_plain (C : CtxOk X ca Ex G T k N sc calm W) {t : Ty} {d : D} {b : Bool} {tn : String} (hn : ∀ n, t = .ty n → okTyN n) (h1 : tn ∈ tys) (h2 : isi0 G.ids t d = some b) (h3 : ∀ n, okTyN n → kitB tn n = isTy n d) : PySem.W.kitOne X.K (.type tn) (tyVal ca t) = some b := by
  cases t with
  | ty n => exact kit_ty ((h3 n (hn n rfl)).trans h2)
  | own D =>
    unfold isi0 at h2
    dsimp only at h2
    split at h2
    · rename_i hD
      cases h2
      exact (C.g.kit D hD).2.1 tn h1
    · cases h2
/-- the type of what may be read -/
theorem ty_of (C : CtxOk X ca Ex G T k N sc calm W) {M : Mset} {H : Hp} {v : V} {d : D} (h : Dr X.K ca M H v d) {t : Ty} {b : Bool} (e : opIsi G.toSg t d = some b) (hn : ∀ n, t = .ty n → okTyN n) : ∃ tv, TyX X.K H v tv ∧ PySem.W.kitOne X.K tv (tyVal ca t) = some b := by
  cases d with
  | non => cases h.nonI; exact ⟨_, .base .non, isi_plain C (tn := "NoneType") hn (by decide) e (by rintro n (rfl | rfl | rfl | rfl | rfl) <;> (simp only [isTy]; decide +kernel))⟩
  | bl z => cases h.blI; exact ⟨_, .base (.bl _), isi_plain C (tn := "bool") hn (by decide) e (by rintro n (rfl | rfl | rfl | rfl | rfl) <;> (simp only [isTy]; decide +kernel))⟩
  | int z => cases h.intI; exact ⟨_, .base (.int _), isi_plain C (tn := "int") hn (by decide) e (by rintro n (rfl | rfl | rfl | rfl | rfl) <;> (simp only [isTy]; decide +kernel))⟩
  | str z => cases h.strI; exact ⟨_, .base (.str _), isi_plain C (tn := "str") hn (by decide) e (by rintro n (rfl | rfl | rfl | rfl | rfl) <;> (simp only [isTy]; decide +kernel))⟩
  | tup ds =>
    obtain ⟨a, xs, rfl, ra, _⟩ := h.tupI
    have kk := isi_plain C (tn := "tuple") hn (by decide) e (by rintro n (rfl | rfl | rfl | rfl | rfl) <;> (simp only [isTy]; decide +kernel))
    rcases ra with ⟨ra | ⟨o, ra⟩, _⟩ | ⟨o, its, n, h1, h2, _⟩
    · exact ⟨_, .base (.tup ra), kk⟩
    · exact ⟨_, .fTuple ra, kk⟩
    · exact ⟨_, .kTuple h1 h2, kk⟩
  | lst ds =>
    obtain ⟨a, xs, rfl, ra, _⟩ := h.lstI
    exact ⟨_, .base (.lst ra), isi_plain C (tn := "list") hn (by decide) e (by rintro n (rfl | rfl | rfl | rfl | rfl) <;> (simp only [isTy]; decide +kernel))⟩
  | scr ns => cases e
  | err D fs => cases e
  | ins D fs =>
    obtain ⟨a, dx, gs, rfl, hH, _⟩ := h.insI
    by_cases hD : D ∈ G.ids
    · obtain ⟨i1, i2, i3, i4⟩ := C.g.isi D hD
      refine ⟨_, .base (.ins hH (C.g.ok D hD) i1 i2 i3 i4), ?_⟩
      cases t with
      | ty n =>
        have e1 : isTy n (.ins D fs) = some b := by
          unfold opIsi at e
          dsimp only at e
          rw [if_pos hD] at e
          exact e
        show PySem.W.kitOne X.K (.ref (ca D)) (.type n) = some b
        rw [(C.g.kit D hD).2.2 n (by rcases hn n rfl with h | h | h | h | h <;> (rw [h]; decide)), ← e1]
        rcases hn n rfl with h | h | h | h | h <;> (rw [h]; rfl)
      | own D' =>
        have e1 : (if D' ∈ G.ids then some (D' == D) else none) = some b := by
          unfold opIsi at e
          dsimp only at e
          rw [if_pos hD] at e
          exact e
        by_cases hD' : D' ∈ G.ids
        · rw [if_pos hD'] at e1
          rw [← e1]
          exact (C.g.kit D hD).1 D' hD'
        · rw [if_neg hD'] at e1; cases e1
    · unfold opIsi at e
      dsimp only at e
      rw [if_neg hD] at e; cases e
theorem se_isi (C : CtxOk X ca Ex G T k N sc calm W) {p p2 pos : Pos} {y : Expr} {c : Str} {a : CE} {t : Ty} (hg : glB sc ("isinstance" : Str) = true) (hf : T.free.contains ("isinstance" : Str) = true) (ha : SE X ca Ex G W y a) (hy : noStar y = true) (hg2 : glB sc c = true) (hn2 : nrm c = true) (ht : tyB T t c = true) : SE X ca Ex G W (.Call (.Name "isinstance" p) [y, .Name c p2] [] pos) (.isi a t) := by
  have hm := C.g.free ("isinstance" : Str) (by simpa using hf)
  have hcn : ∀ n, t = .ty n → okTyN n := okTy_of ht
  have pc : ∃ cv, PE X (.Name c p2) (tC cv) ∧ ClsV cv (tyVal ca t) := by
    cases t with
    | ty n =>
      simp only [tyB, Bool.and_eq_true, Bool.or_eq_true, beq_iff_eq] at ht
      obtain ⟨⟨h1, h2⟩, h3⟩ := ht
      have hm2 := C.g.free c (by simpa using h3)
      have hb : bootBuiltins c = some (.type n) := by
        rw [h2]
        rcases h1 with (((h | h) | h) | h) | h <;> (rw [h]; decide +kernel)
      exact ⟨.ty n, pe_bltn (gl_of (N := N) C.hsc hg2) hm2 hb rfl (nrm_of hn2).2 (nrm_of hn2).1, .ty n⟩
    | own D =>
      have h : T.cls.lookup c = some D := of_decide_eq_true ht
      exact ⟨.ref (ca D), pe_glob (gl_of (N := N) C.hsc hg2) (C.g.cls c D h) rfl (nrm_of hn2).1, .own _⟩
  obtain ⟨cv, pcv, hcv⟩ := pc
  refine SE.flat ((pe_callB call_isi (gl_of (N := N) C.hsc hg) hm boot_isinstance (pa_cons ha.o (pa_cons pcv pa_nil (star_cons rfl [] X.env)) (star_cons hy _ X.env)) (by decide) (by decide) (star_cons hy _ X.env) (star_plain rfl)).imp fun σ H Q ⟨B, M, S, he, h⟩ => ⟨B, M, S, he, ?_⟩) rfl rfl
  refine h.bind fun os S1 v M1 H1 R1 st1 o1 h1 => ?_
  rw [op1_plain] at h1
  obtain ⟨ds, b, hf, hd, q⟩ := useOs_blE h1 (.cons o1 .nil)
  obtain ⟨d, rfl, dd⟩ := hd.i1
  obtain ⟨tv, h2, h3⟩ := ty_of C dd hf hcn
  exact ⟨v, cv, tv, _, b, rfl, hcv, h2, h3, q⟩
where
  okTy_of {t : Ty} {c : Str} (ht : tyB T t c = true) : ∀ n, t = .ty n → okTyN n := fun n e => by
    subst e
    simp only [tyB, Bool.and_eq_true, Bool.or_eq_true, beq_iff_eq] at ht
    rcases ht.1.1 with (((h | h) | h) | h) | h
    · exact .inl h
    · exact .inr (.inl h)
    · exact .inr (.inr (.inl h))
    · exact .inr (.inr (.inr (.inl h)))
    · exact .inr (.inr (.inr (.inr h)))
theorem se_index (C : CtxOk X ca Ex G T k N sc true W) {ap pos : Pos} {o y : Expr} {a b : CE} (ho : SE X ca Ex G W o a) (hb : SE X ca Ex G W y b) (hy : noStar y = true) (hc : noCall0 o = true) (hl : (ap.endLine == pos.line) = true) : SE X ca Ex G W (.Call (.Attribute o "index" ap) [y] [] pos) (.index a b) := by
  refine SE.flat ((pe_bm PySem.F.plainAttrs_list PySem.F.slot_list_index PySem.F.type_list_index (mt_indx (ca := ca) C.un) ho.o (pa_cons hb.o pa_nil (star_cons hy [] X.env)) (attr_base hc _) (by rw [star_cons hy [] X.env]; rfl) hl (star_cons hy [] X.env) rfl).imp fun σ H Q ⟨B, M, S, he, h⟩ => ⟨B, M, S, he, ?_⟩) rfl rfl
  refine h.bind fun x S1 v M1 H1 R1 st1 o1 h1 => ?_
  cases e : x.rd S1 with
  | none =>
    obtain ⟨_, _, q⟩ := h1
    have e2 : isLst x S1 = none := by unfold isLst; rw [e]
    rw [bnd_none e2] at q; exact q.elim
  | some d =>
    cases d with
    | lst ds =>
      have e2 : isLst x S1 = some (.ok (), S1) := by unfold isLst; rw [e]
      have h2 : Run X.K ca (ResOk X.K ca) W (bnd (opd b (evE G b)) fun y => useOs [x, y] (op2 fun u v => plainR .int (indexD u v))) B M1 S1 σ H1 Q := by
        obtain ⟨b1, b2, q⟩ := h1
        rw [bnd_ok e2] at q
        exact ⟨b1, b2, q⟩
      obtain ⟨l, xs, rfl, hl, _⟩ := (o1.dr R1 e).lstI
      refine ⟨.inl ⟨rfl, _, .of hl⟩, B, M1, S1, he, h2.bind fun y S2 w M2 H2 R2 st2 o2 h3 => ?_⟩
      have h4 : Run X.K ca (okOs X.K ca) W (ret [y]) B M2 S2 σ H2 fun vs H' => rIndx X.K ca (.ref l) vs H' Q := by
        refine ⟨h3.1, R2, fun vs M' H' R' st' o' => ?_⟩
        have h3' := h3.shift R' st'
        obtain ⟨dd, rr, hf, hd, pr⟩ := h3'.useOs (.cons ((o1.step (S' := S2) st2).step (S' := S2) st') o')
        cases o' with
        | cons o'' z =>
          cases z
          obtain ⟨d1, d2, rfl, dd1, dd2⟩ := hd.i2
          have hf' : plainR D.int (indexD d1 d2) = some rr := hf
          unfold plainR at hf'
          obtain ⟨j, hj, rfl⟩ := Option.map_eq_some_iff.mp hf'
          exact ⟨M', d1, _, d2, j, rfl, dd1, dd2, hj, pr.val (.int _)⟩
      exact h4.ret R2 .refl (.cons o2 .nil)
    | _ =>
      obtain ⟨_, _, q⟩ := h1
      have e2 : isLst x S1 = none := by unfold isLst; rw [e]
      rw [bnd_none e2] at q; exact q.elim
theorem meth_eq {o : Expr} {m : Str} {ap cp : Pos} {es : List Expr} {env : Env} (hb : noCall0 o = true) (hs : es.all noStar = true) (hl : (ap.endLine == cp.line) = true) (hn : es.length < 25) : eval (.Call (.Attribute o m ap) es [] cp) env = (do
      let ov ← eval o env
      standAt ap.atName
      let (f, first) ← holding [ov] (getMethod ov m (do return (← importBound o env).getD true))
      callWith cp f first (backTo cp (starEach es env)) (backToKw cp (keywordEach [] env))) := by
  have hp : methodCallPos true o env ap cp = pure cp := by unfold methodCallPos; simp [hl]
  have hall : (backTo cp (starEach es env)).all (fun x => !x.1) = true := by
    have z : (backTo cp (starEach es env)).any (·.1) = false := star_plain hs
    rw [List.all_eq_true]
    intro x hx
    have := List.any_eq_false.mp z x hx
    simpa using this
  have hform : methodCallForm (es.length + ([] : List Keyword).length) (backTo cp (starEach es env)) (backToKw cp (keywordEach [] env)) = true := by
    unfold methodCallForm
    rw [hall, show backToKw cp (keywordEach [] env) = [] from rfl]
    simp
    omega
  rw [PySem.arm_eval_Call, attr_base hb]
  unfold methodCall
  rw [hform, hp]
  simp only [pure_bind]
  rfl
theorem AgsOk.plain {B : Bs} {σ : L2.St} {S S' : Fr} {M M' : Mset} {H H' : Hp} {K : PySem.W.Frag} (st : Stp M H M' H') : ∀ {fl : List Bool} {ags : List Ag} {vs : List V} {ts : List Addr}, AgsOk K ca B σ S M H fl ags vs ts → fl = [] → ∀ {fl' : List Bool}, fl'.all (fun b => !b) = true → AgsOk K ca B σ S' M' H' fl' ags vs [] := by
  intro fl ags vs ts h
  induction h with
  | nil => intro _ fl' _; exact .nil
  | v hf d _ ih =>
    intro e fl' ha
    subst e
    cases fl' with
    | nil => exact .v rfl (d.step st) (ih rfl (fl' := []) rfl)
    | cons b fl' =>
      rw [List.all_cons, Bool.and_eq_true] at ha
      exact .v (by show b = false; simpa using ha.1) (d.step st) (ih rfl ha.2)
  | io hf _ _ _ => intro e; subst e; cases hf
  | tmp hf _ _ _ _ _ _ _ => intro e; subst e; cases hf
theorem dpf_none {K : PySem.W.Frag} {M : Mset} {H : Hp} {m : Str} : ∀ {gs : List (Str × V)} {fs : List (Str × D)}, Dpf K ca M H gs fs → fs.lookup m = none → gs.lookup m = none
  | _, _, .nil, _ => rfl
  | _, _, .cons (f := g) _ t, h => by
    rw [List.lookup_cons] at h ⊢
    cases e : m == g with
    | true => rw [e] at h; cases h
    | false => rw [e] at h; exact dpf_none t h
theorem rd_mono {α β : Type} {ok : Ok α β} {K : PySem.W.Frag} {m : Ev.M α} {Q Q' : β → Hp → Prop} (h : rdG K ca Ex ok W m σ H Q) (q : ∀ b H, Q b H → Q' b H) : rdG K ca Ex ok W m σ H Q' := by
  obtain ⟨B, M, S, he, b, R, p⟩ := h
  refine ⟨B, M, S, he, b, R, ?_⟩
  cases e : m S with
  | none => rw [e] at p; exact p
  | some pr =>
    obtain ⟨r, S1⟩ := pr
    rw [e] at p
    cases r with
    | error er => exact p
    | ok a => exact fun y M' H' R' st' o => q _ _ (p y M' H' R' st' o)
theorem SEs.len {es : List Expr} {cs : List CE} (h : SEs X ca Ex G W es cs) : es.length = cs.length := by
  induction h with
  | nil => rfl
  | cons _ _ _ ih => simp [ih]
theorem meth_run (C : CtxOk X ca Ex G T k N sc true W) {m : Str} {x : Op} {v : V} {cs : List CE} {Q : VK} (he : B.Ex = Ex) (R : Rep X.K ca B M H σ S) (o1 : OpOk X.K ca B σ S M H x v) (hids : ∀ Cn ∈ G.ids, ∀ f, G.mth Cn m = some f → T.ar f = cs.length + 1 ∧ (G.io f).tail.all (fun b => !b) = true)
    (h : Run X.K ca (ResOk X.K ca) W (bnd (recv G m x) fun f => bnd (evAs G [] cs) fun ags => methC G f x ags) B M S σ H Q) : ∃ a Cl dx fs f fd ps sp, v = .ref a ∧ H a = some (.ins Cl dx fs) ∧ fs.lookup m = none ∧ Cls X.K Cl ∧ Meth X.K Cl m f ∧
  Binds X.K fd ps [] ∧ FnOk X.prog X.w X.K X.mg X.base (L2.CX X.prog X.w) k f fd ps sp ∧ rdG X.K ca Ex (okAs X.K ca [] cs.length) W (evAs G [] cs) σ H fun vs H2 => sp (v :: vs) H2 Q (WE W σ) := by
  obtain ⟨b, _, q⟩ := id h
  cases e : x.rd S with
  | none =>
    have e2 : recv G m x S = none := by unfold recv; rw [e]
    rw [bnd_none e2] at q; exact q.elim
  | some d =>
    cases d with
    | ins Cn fs =>
      by_cases hlk : fs.lookup m = none
      · cases hm : G.mth Cn m with
        | none =>
          have e2 : recv G m x S = none := by unfold recv; rw [e]; dsimp only; rw [if_pos hlk, hm]
          rw [bnd_none e2] at q; exact q.elim
        | some f =>
          have e2 : recv G m x S = some (.ok f, S) := by unfold recv; rw [e]; dsimp only; rw [if_pos hlk, hm]
          have h2 : Run X.K ca (ResOk X.K ca) W (bnd (evAs G [] cs) fun ags => methC G f x ags) B M S σ H Q := by
            rw [bnd_ok e2] at q
            exact ⟨b, R, q⟩
          obtain ⟨a, dx, gs, rfl, ha, cf⟩ := (o1.dr R e).insI
          obtain ⟨_, hin, fa, hme, ⟨fd, ps, hl, hb, F⟩, kp⟩ := C.g.mth Cn m f hm
          obtain ⟨har, hta⟩ := hids Cn hin f hm
          refine ⟨a, _, dx, gs, fa, fd, ps, _, rfl, ha, dpf_none cf hlk, C.g.ok Cn hin, hme, hb, F, B, M, S, he, h2.bind fun ags S2 vs M2 H2 R2 st2 o2 h3 => ?_⟩
          obtain ⟨ts, as, l1⟩ := o2
          have hlen : (V.ref a :: vs).length = ps.length := by rw [List.length_cons, l1, hl, har]
          unfold methC at h3
          cases x with
          | val d' =>
            dsimp only at h3
            cases hh : (G.io f).headD false with
            | true => rw [hh, if_pos rfl] at h3; exact absurd h3.2.2 (fun z => z)
            | false =>
              rw [hh, if_neg Bool.false_ne_true] at h3
              have dp : Dp X.K ca M H (.ref a) d' := o1
              exact callF_sp h3 (.v hh (dp.step st2) (as.plain .refl rfl hta)) hlen
          | ref i =>
            dsimp only at h3
            have ei : σ[i]? = some (some (.ref a)) := o1
            cases hh : (G.io f).headD false with
            | true =>
              rw [hh, if_pos rfl] at h3
              exact callF_sp h3 (.io hh ei (as.plain .refl rfl hta)) hlen
            | false =>
              rw [hh, if_neg Bool.false_ne_true] at h3
              obtain ⟨b3, _, q3⟩ := h3
              have qs := R2.slot i
              cases es : S2.at i with
              | fz d' =>
                have e3 : getV i S2 = some (.ok d', S2) := by unfold getV; rw [es]
                rw [bnd_ok e3] at q3
                rw [es] at qs
                obtain ⟨v', ev, dp⟩ := qs
                rw [ei] at ev; cases ev
                exact callF_sp ⟨b3, R2, q3⟩ (.v hh dp (as.plain .refl rfl hta)) hlen
              | ow d' =>
                have e3 : getV i S2 = some (.ok d', S2.set i (.fz d')) := by unfold getV; rw [es]
                rw [bnd_ok e3] at q3
                obtain ⟨v', M3, ev, dp, R3, st3⟩ := R2.freeze b3 es
                rw [ei] at ev; cases ev
                have h4 : Run X.K ca (ResOk X.K ca) W (callF (G.Phi f) (.v d' :: ags)) B M3 (S2.set i (.fz d')) σ H2 Q := by
                  refine ⟨b3, R3, ?_⟩
                  cases ec : callF (G.Phi f) (.v d' :: ags) (S2.set i (.fz d')) with
                  | none => rw [ec] at q3; exact q3
                  | some pr =>
                    obtain ⟨r, S4⟩ := pr
                    rw [ec] at q3
                    cases r with
                    | error er => exact fun M' H' cls dd R' st' eo => q3 M' H' cls dd R' (st3.trans st') eo
                    | ok a => exact fun y M' H' R' st' oo => q3 y M' H' R' (st3.trans st') oo
                exact callF_sp h4 (.v hh dp (as.plain st3 rfl hta)) hlen
              | _ =>
                have e3 : getV i S2 = none := by unfold getV; rw [es]
                rw [bnd_none e3] at q3; exact q3.elim
      · have e2 : recv G m x S = none := by unfold recv; rw [e]; dsimp only; rw [if_neg hlk]
        rw [bnd_none e2] at q; exact q.elim
    | _ =>
      have e2 : recv G m x S = none := by unfold recv; rw [e]
      rw [bnd_none e2] at q; exact q.elim
theorem se_meth (C : CtxOk X ca Ex G T k N sc true W) {o : Expr} {m : Str} {ap pos : Pos} {a : CE} {ys : List Expr} {cs : List CE} (ho : SE X ca Ex G W o a) (hs : SEs X ca Ex G W ys cs) (hc : noCall0 o = true) (hl : (ap.endLine == pos.line) = true) (hn : ys.length < 25)
    (hids : ∀ Cn ∈ G.ids, ∀ f, G.mth Cn m = some f → T.ar f = cs.length + 1 ∧ (G.io f).tail.all (fun b => !b) = true) : SE X ca Ex G W (.Call (.Attribute o m ap) ys [] pos) (.meth a m cs) := by
  have main : PE X (.Call (.Attribute o m ap) ys [] pos) (tMethS X (L2.CX X.prog X.w) k m (WE W) (rdG X.K ca Ex (OpOk X.K ca) W (opd a (evE G a))) (rdG X.K ca Ex (okAs X.K ca [] cs.length) W (evAs G [] cs))) := by
    have ha := hs.all
    have hr := (C.room rfl).mono (Nat.le_succ _)
    cases hs with
    | nil =>
      refine (pe_methS0 (CX := L2.CX X.prog X.w) (E := WE W) ho.o hr (fun σ => L2.passAt C.tk σ) (meth_eq hc ha hl hn)).imp fun σ H Q h => ?_
      refine (rd_mono h fun x H1 ⟨a0, Cl, dx, fs, f, fd, ps, sp, h1, h2, h3, h4, h5, h6, h7, B, M, S, he, b, R, q⟩ => ⟨a0, Cl, dx, fs, f, fd, ps, sp, h1, h2, h3, h4, h5, h6, h7, ?_⟩)
      exact q [] M H1 R .refl ⟨[], .nil, rfl⟩
    | cons hy1 hy2 ht =>
      rw [List.all_cons, Bool.and_eq_true] at ha
      exact pe_methS (CX := L2.CX X.prog X.w) (E := WE W) ho.o hr (fun σ => L2.passAt C.tk σ) ((SEs.cons hy1 hy2 ht).args []) (star_cons ha.1 _ X.env) (star_plain ha.2) (meth_eq hc (by rw [List.all_cons, ha.1, ha.2]; rfl) hl hn)
  refine SE.flat (main.imp fun σ H Q ⟨B, M, S, he, h⟩ => ⟨B, M, S, he, ?_⟩) rfl rfl
  exact h.bind fun x S1 v M1 H1 R1 st1 o1 h1 => meth_run C he R1 o1 hids h1
/-! ### == and len by an own def -/
theorem kit_sub {K : PySem.W.Frag} {t : Value} {C : Addr} (h : PySem.W.kitOne K t (.ref C) = some false) : PySem.W.subIn K t (.ref C) = some false := by
  unfold PySem.W.kitOne at h
  split at h
  · cases h
  · unfold PySem.W.kitCls at h
    dsimp only at h
    split at h
    · exact h
    · cases h
theorem ty_first (C : CtxOk X ca Ex G T k N sc calm W) {M : Mset} {H : Hp} {v : V} {d : D} (h : Dr X.K ca M H v d) {Cn : Nat} (hC : Cn ∈ G.ids) (e : (opIsi G.toSg (.own Cn) d).isSome = true) : ∃ tv, TyX X.K H v tv ∧ PySem.W.notFirst X.K (ca Cn) tv = true := by
  have bi : ∀ n ∈ tys, PySem.W.notFirst X.K (ca Cn) (.type n) = true := fun n hn => by
    unfold PySem.W.notFirst
    rw [kit_sub ((C.g.kit Cn hC).2.1 n hn)]
    simp
  cases d with
  | non => cases h.nonI; exact ⟨_, .base .non, bi _ (by decide)⟩
  | bl z => cases h.blI; exact ⟨_, .base (.bl _), bi _ (by decide)⟩
  | int z => cases h.intI; exact ⟨_, .base (.int _), bi _ (by decide)⟩
  | str z => cases h.strI; exact ⟨_, .base (.str _), bi _ (by decide)⟩
  | tup ds =>
    obtain ⟨a, xs, rfl, ra, _⟩ := h.tupI
    rcases ra with ⟨ra | ⟨o, ra⟩, _⟩ | ⟨o, its, n, h1, h2, _⟩
    · exact ⟨_, .base (.tup ra), bi _ (by decide)⟩
    · exact ⟨_, .fTuple ra, bi _ (by decide)⟩
    · exact ⟨_, .kTuple h1 h2, bi _ (by decide)⟩
  | lst ds =>
    obtain ⟨a, xs, rfl, ra, _⟩ := h.lstI
    exact ⟨_, .base (.lst ra), bi _ (by decide)⟩
  | scr ns => cases e
  | err D fs => cases e
  | ins D fs =>
    obtain ⟨a, dx, gs, rfl, hH, _⟩ := h.insI
    by_cases hD : D ∈ G.ids
    · obtain ⟨i1, i2, i3, i4⟩ := C.g.isi D hD
      refine ⟨_, .base (.ins hH (C.g.ok D hD) i1 i2 i3 i4), ?_⟩
      unfold PySem.W.notFirst
      by_cases hE : Cn = D
      · subst hE; simp
      · have := (C.g.kit D hD).1 Cn hC
        rw [show (Cn == D) = false by simpa using hE] at this
        rw [kit_sub this]
        simp
    · unfold opIsi at e
      dsimp only at e
      rw [if_neg hD] at e; cases e
theorem frz_run {α β : Type} {ok : Ok α β} {K : PySem.W.Frag} {x : Op} {v : V} {g : D → Ev.M α} {Q : β → Hp → Prop} (o : OpOk K ca B σ S M H x v) (h : Run K ca ok W (bnd (frz x) g) B M S σ H Q) :
    ∃ d M' S', Dp K ca M' H v d ∧ Stp M H M' H ∧ Run K ca ok W (g d) B M' S' σ H Q := by
  obtain ⟨b, R, q⟩ := h
  cases x with
  | val d => exact ⟨d, M, S, o, .refl, b, R, q⟩
  | ref i =>
    have ei : σ[i]? = some (some v) := o
    have qs := R.slot i
    cases es : S.at i with
    | fz d =>
      have e3 : frz (.ref i) S = some (.ok d, S) := by show getV i S = _; unfold getV; rw [es]
      rw [bnd_ok e3] at q
      rw [es] at qs
      obtain ⟨v', ev, dp⟩ := qs
      rw [ei] at ev; cases ev
      exact ⟨d, M, S, dp, .refl, b, R, q⟩
    | ow d =>
      have e3 : frz (.ref i) S = some (.ok d, S.set i (.fz d)) := by show getV i S = _; unfold getV; rw [es]
      rw [bnd_ok e3] at q
      obtain ⟨v', M3, ev, dp, R3, st3⟩ := R.freeze b es
      rw [ei] at ev; cases ev
      refine ⟨d, M3, S.set i (.fz d), dp, st3, b, R3, ?_⟩
      cases ec : g d (S.set i (.fz d)) with
      | none => rw [ec] at q; exact q
      | some pr =>
        obtain ⟨r, S4⟩ := pr
        rw [ec] at q
        cases r with
        | error er => exact fun M' H' cls dd R' st' eo => q M' H' cls dd R' (st3.trans st') eo
        | ok a => exact fun y M' H' R' st' oo => q y M' H' R' (st3.trans st') oo
    | _ =>
      have e3 : frz (.ref i) S = none := by show getV i S = _; unfold getV; rw [es]
      rw [bnd_none e3] at q; exact q.elim
theorem OpOk.frozen {K : PySem.W.Frag} {S' : Fr} {o : Op} {v : V} (h : OpOk K ca B σ S M H o v) (st : Stp M H M' H) : OpOk K ca B σ S' M' H o v := by
  cases o with
  | val d => exact (show Dp K ca M H v d from h).step st
  | ref i => exact h
theorem sureBl_run {K : PySem.W.Frag} {m : Ev.M (D × Bool)} {Q : VK} (h : Run K ca (ResOk K ca) W (bnd (sure m) fun p => bnd (asBl p) fun k => ret (.bl k, false)) B M S σ H Q) : Run K ca (ResOk K ca) (fun _ _ _ _ => False) m B M S σ H fun v H' => ∃ b, v = .bl b ∧ Q v H' := by
  obtain ⟨b, R, q⟩ := h
  cases e : sure m S with
  | none => rw [bnd_none e] at q; exact q.elim
  | some pr =>
    obtain ⟨r, S1⟩ := pr
    cases r with
    | error er =>
      unfold sure at e
      split at e <;> cases e
    | ok p =>
      rw [bnd_ok e] at q
      refine sure_run b R e fun y M' H' R' st' o => ?_
      obtain ⟨d, fl⟩ := p
      cases d with
      | bl kk =>
        have ey : y = .bl kk := o.bl rfl
        subst ey
        exact ⟨kk, rfl, q _ M' H' R' st' (show ResOk K ca B σ S1 M' H' (D.bl kk, false) (V.bl kk) from Dp.bl kk)⟩
      | _ => exact q.elim
theorem sureInt_run {K : PySem.W.Frag} {m : Ev.M (D × Bool)} {Q : VK} (h : Run K ca (ResOk K ca) W (bnd (sure m) fun p => bnd (asInt p) fun n => if 0 ≤ n ∧ n < 2 ^ 63 then ret (.int n, false) else stuck) B M S σ H Q) : Run K ca (ResOk K ca) (fun _ _ _ _ => False) m B M S σ H fun v H' => ∃ n : Int, v = .int n ∧ 0 ≤ n ∧ n < 2 ^ 63 ∧ Q v H' := by
  obtain ⟨b, R, q⟩ := h
  cases e : sure m S with
  | none => rw [bnd_none e] at q; exact q.elim
  | some pr =>
    obtain ⟨r, S1⟩ := pr
    cases r with
    | error er =>
      unfold sure at e
      split at e <;> cases e
    | ok p =>
      rw [bnd_ok e] at q
      refine sure_run b R e fun y M' H' R' st' o => ?_
      obtain ⟨d, fl⟩ := p
      cases d with
      | int n =>
        have ey : y = .int n := o.int rfl
        subst ey
        have e5 : bnd (asInt (.int n, fl)) (fun n => if 0 ≤ n ∧ n < 2 ^ 63 then (ret (.int n, false) : Ev.M (D × Bool)) else stuck) S1 = (if 0 ≤ n ∧ n < 2 ^ 63 then (ret (.int n, false) : Ev.M (D × Bool)) else stuck) S1 := rfl
        rw [e5] at q
        by_cases hn : 0 ≤ n ∧ n < 2 ^ 63
        · rw [if_pos hn] at q
          exact ⟨n, rfl, hn.1, hn.2, q _ M' H' R' st' (show ResOk K ca B σ S1 M' H' (D.int n, false) (V.int n) from Dp.int n)⟩
        · rw [if_neg hn] at q; exact q.elim
      | _ => exact q.elim
theorem all_head {l : List Bool} (h : l.all (fun b => !b) = true) : l.headD false = false ∧ l.tail.all (fun b => !b) = true := by
  cases l with
  | nil => exact ⟨rfl, rfl⟩
  | cons b r =>
    rw [List.all_cons, Bool.and_eq_true] at h
    exact ⟨by show b = false; simpa using h.1, h.2⟩
theorem oeq_run (C : CtxOk X ca Ex G T k N sc true W) {x y : Op} {v w : V} {Q : VK} (R : Rep X.K ca B M H σ S) (o1 : OpOk X.K ca B σ S M H x v) (o2 : OpOk X.K ca B σ S M H y w) (hids : ∀ Cn ∈ G.ids, ∀ f, G.mth Cn "__eq__" = some f → T.ar f = 2)
    (h : Run X.K ca (ResOk X.K ca) W (bnd (recvO G "__eq__" y x) fun f => eqC G f x y) B M S σ H Q) : rOwnEq X k v w H Q := by
  obtain ⟨b, _, q⟩ := h
  cases e0 : recvO G "__eq__" y x S with
  | none => rw [bnd_none e0] at q; exact q.elim
  | some pr =>
    obtain ⟨r, S0⟩ := pr
    have e0' := e0
    unfold recvO at e0
    cases e1 : x.rd S with
    | none => rw [e1] at e0; cases e0
    | some dx =>
      cases dx with
      | ins Cn fs =>
        cases e2 : y.rd S with
        | none => rw [e1, e2] at e0; cases e0
        | some dy =>
          rw [e1, e2] at e0
          dsimp only at e0
          cases hm : G.mth Cn "__eq__" with
          | none => rw [hm] at e0; cases e0
          | some f =>
            rw [hm] at e0
            dsimp only at e0
            by_cases hi : (opIsi G.toSg (.own Cn) dy).isSome = true
            · rw [if_pos hi] at e0
              cases e0
              rw [bnd_ok e0'] at q
              obtain ⟨a, dx, gs, rfl, ha, cf⟩ := (o1.dr R e1).insI
              obtain ⟨_, hin, fa, hme, ⟨fd, ps, hl, hb, F⟩, kp⟩ := C.g.mth Cn _ f hm
              obtain ⟨tv, ty, nf⟩ := ty_first C (o2.dr R e2) hin hi
              have h3 : Run X.K ca (ResOk X.K ca) W (eqC G f x y) B M S σ H Q := ⟨b, R, q⟩
              unfold eqC at h3
              by_cases hall : (G.io f).all (fun b => !b) = true
              · rw [if_pos hall] at h3
                obtain ⟨d1, M1, S1, dp1, st1, h4⟩ := frz_run o1 h3
                obtain ⟨d2, M2, S2, dp2, st2, h5⟩ := frz_run (o2.frozen (S' := S1) st1) h4
                obtain ⟨z1, z2⟩ := all_head hall
                obtain ⟨z3, z4⟩ := all_head z2
                refine ⟨a, _, dx, gs, fa, fd, ps, _, tv, rfl, ha, hme.at_, hme.fn, hb, F, ty, nf, ?_⟩
                exact callF_sp (W := fun _ _ _ _ => False) (sureBl_run h5) (.v z1 (dp1.step st2) (.v z3 dp2 .nil)) (by rw [hl, hids Cn hin f hm]; rfl)
              · rw [if_neg hall] at h3; exact absurd h3.2.2 (fun z => z)
            · rw [if_neg hi] at e0; cases e0
      | _ =>
        exfalso
        revert e0
        rw [e1]
        intro e0
        cases y.rd S <;> cases e0
theorem se_oeq (C : CtxOk X ca Ex G T k N sc true W) {l r : Expr} {a b : CE} {pos : Pos} (ha : SE X ca Ex G W l a) (hb : SE X ca Ex G W r b) (hm : behindInMarks .Eq r = false) (hids : ∀ Cn ∈ G.ids, ∀ f, G.mth Cn "__eq__" = some f → T.ar f = 2) : SE X ca Ex G W (.Compare l [.Eq] [r] pos) (.oeq a b) := by
  have red : ∀ σ H Q, rdG X.K ca Ex (ResOk X.K ca) W (evE G (.oeq a b)) σ H Q → tOp (rOwnEq X k) (rdG X.K ca Ex (OpOk X.K ca) W (opd a (evE G a))) (rdG X.K ca Ex (OpOk X.K ca) W (opd b (evE G b))) σ H Q := fun σ H Q ⟨B, M, S, he, h⟩ => ⟨B, M, S, he,
    h.bind fun x S1 v M1 H1 R1 st1 o1 h1 => ⟨B, M1, S1, he, h1.bind fun y S2 w M2 H2 R2 st2 o2 h2 => oeq_run C R2 (o1.step st2) o2 hids h2⟩⟩
  have hr := (C.room rfl).mono (Nat.le_succ k)
  have hv := (pe_cmpR (pos := pos) (op_own_eq hr) ha.o hb.o hm).imp red
  refine ⟨hv, SE.ov hv rfl, (pt_cmpR (op_own_eq hr) ha.o hb.o hm).imp fun σ H Q ⟨B, M, S, he, h⟩ => red σ H _ ⟨B, M, S, he, ?_⟩, fun z => nomatch z⟩
  refine h.bind fun p S1 v M1 H1 R1 st1 o1 h1 => ?_
  obtain ⟨b, e, hr⟩ := asBl_run h1
  exact ⟨b, o1.bl e, hr.ret R1 .refl rfl⟩
theorem olen_run (C : CtxOk X ca Ex G T k N sc true W) {x : Op} {v : V} {Q : VK} (R : Rep X.K ca B M H σ S) (o1 : OpOk X.K ca B σ S M H x v) (hids : ∀ Cn ∈ G.ids, ∀ f, G.mth Cn "__len__" = some f → T.ar f = 1)
    (h : Run X.K ca (ResOk X.K ca) W (bnd (recv G "__len__" x) fun f => lenC G f x) B M S σ H Q) : rOwnLen X k [v] H Q := by
  obtain ⟨b, _, q⟩ := h
  cases e0 : recv G "__len__" x S with
  | none => rw [bnd_none e0] at q; exact q.elim
  | some pr =>
    obtain ⟨r, S0⟩ := pr
    have e0' := e0
    unfold recv at e0
    cases e1 : x.rd S with
    | none => rw [e1] at e0; cases e0
    | some dx =>
      rw [e1] at e0
      cases dx with
      | ins Cn fs =>
        dsimp only at e0
        by_cases hlk : fs.lookup ("__len__" : Str) = none
        · rw [if_pos hlk] at e0
          cases hm : G.mth Cn "__len__" with
          | none => rw [hm] at e0; cases e0
          | some f =>
            rw [hm] at e0
            cases e0
            rw [bnd_ok e0'] at q
            obtain ⟨a, dx, gs, rfl, ha, cf⟩ := (o1.dr R e1).insI
            obtain ⟨_, hin, fa, hme, ⟨fd, ps, hl, hb, F⟩, kp⟩ := C.g.mth Cn _ f hm
            have h3 : Run X.K ca (ResOk X.K ca) W (lenC G f x) B M S σ H Q := ⟨b, R, q⟩
            unfold lenC at h3
            by_cases hall : (G.io f).all (fun b => !b) = true
            · rw [if_pos hall] at h3
              obtain ⟨d1, M1, S1, dp1, st1, h4⟩ := frz_run o1 h3
              obtain ⟨z1, z2⟩ := all_head hall
              refine ⟨a, _, dx, gs, fa, fd, ps, _, rfl, ha, hme.at_, hme.fn, hb, F, ?_⟩
              exact callF_sp (W := fun _ _ _ _ => False) (sureInt_run h4) (.v z1 dp1 .nil) (by rw [hl, hids Cn hin f hm]; rfl)
            · rw [if_neg hall] at h3; exact absurd h3.2.2 (fun z => z)
        · rw [if_neg hlk] at e0; cases e0
      | _ => cases e0
theorem se_olen (C : CtxOk X ca Ex G T k N sc true W) {p pos : Pos} {y : Expr} {a : CE} (hg : glB sc ("len" : Str) = true) (hf : T.free.contains ("len" : Str) = true) (hy : noStar y = true) (h : SE X ca Ex G W y a) (hids : ∀ Cn ∈ G.ids, ∀ f, G.mth Cn "__len__" = some f → T.ar f = 1) : SE X ca Ex G W (.Call (.Name "len" p) [y] [] pos) (.olen a) := by
  have hm := C.g.free "len" (by simpa using hf)
  refine SE.flat ((pe_callB (call_own_len (C.room rfl)) (gl_of (N := N) C.hsc hg) hm boot_len (pa_cons h.o pa_nil (star_cons hy [] X.env)) (by decide) (by decide) (star_cons hy [] X.env) rfl).imp fun σ H Q ⟨B, M, S, he, h⟩ => ⟨B, M, S, he, ?_⟩) rfl rfl
  exact h.bind fun x S1 v M1 H1 R1 st1 o1 h1 => olen_run C R1 o1 hids h1
theorem takesF {X : Cx} : Takes X (fun _ _ _ _ => False) := fun _ _ x => by
  obtain ⟨_, _, _, _, _, _, _, _, _, _, _, _, _, _, _, _, z⟩ := x
  exact z.elim
/-- the block's context -/
theorem CtxOk.blk (C : CtxOk X ca Ex G T k N sc true W) {s : Shared} {H : Hp} {scope : Scope} {Cd : Addr} {cl : List (Str × Addr)} {fp : List Addr} : CtxOk (X.blk s H scope (compEnvC scope cl Cd X.env) fp) ca Ex G T k N (relS scope sc) true (fun _ _ _ _ => False) where
  hN := C.hN
  hsc := by rw [← C.hsc]; rfl
  nd := C.nd
  hc := fun _ => C.hc rfl
  room := fun _ => C.room rfl
  ex := C.ex
  un := C.un
  tk := takesF
  g := C.g
  exr := fun z => nomatch z
theorem comp_imp {e : CE} {t : CT} {ik : IK} {it ifs : List CE} {own : List Nat} (hn : ifs.length ≤ 1) (hix : (ctIx t).all (fun i => own.contains i) = true) {σ : L2.St} {H : Hp} {Q : VK}
    (h : rdG X.K ca Ex (ResOk X.K ca) W (evE G (.comp e t ik it ifs own)) σ H Q) : tLc (wiG X.K ca Ex W (bnd (evOs G it) (itemsOf ik))) (tgG X.K ca t) (ttG X.K ca Ex G ifs) (rdG X.K ca Ex (ResOk X.K ca) (fun _ _ _ _ => False) (evE G e)) own σ H Q := by
  obtain ⟨B, M, S, he, b, R, q⟩ := h
  refine ⟨B, M, S, he, b, R, ?_⟩
  have e1 : evE G (.comp e t ik it ifs own) = bnd (bnd (evOs G it) (itemsOf ik)) (compF t own (evT G ifs) (evE G e)) := by
    rw [bnd_assoc]; rfl
  rw [e1] at q
  cases e2 : bnd (evOs G it) (itemsOf ik) S with
  | none => rw [bnd_none e2] at q; exact q
  | some pr =>
    obtain ⟨r, S1⟩ := pr
    cases r with
    | error er => rw [bnd_err e2] at q; exact q
    | ok its =>
      rw [bnd_ok e2] at q
      intro J B' M1 H1 st1 gr R1 wk
      unfold compF at q
      by_cases hf : freeS S1 own = true
      · rw [if_pos hf] at q
        cases e3 : compLoop (fun d S => asgT t d (wipeS S own)) (sure (evT G ifs)) (sure (bnd (evE G e) fun q => ret q.1)) its.1 S1 with
        | none => rw [e3] at q; exact q.elim
        | some pr3 =>
          obtain ⟨r3, S3⟩ := pr3
          rw [e3] at q
          cases r3 with
          | error er => exact q.elim
          | ok ys =>
            dsimp only at q
            refine comp_turns (Ex := Ex) gr.ok (gr.ex.trans he) R1 wk hn (fun i hi => ?_) e3 (fun _ _ _ h => h) ?_
            · have := List.all_eq_true.mp hix i hi
              simpa using this
            · intro M' H' p vs Rf Af hp st hvs
              have Rr : Rep X.K ca B' M' H' σ (restS S1 S3 own) := by
                have := Rep.rest (B := B') (S := wipeS S3 own) R1 hf st Rf (by
                  apply wipe_eq (wipe_length σ own)
                  exact fun j hj => wipe_get hj)
                refine this.congr (by rw [restS_length, restS_length, wipeS_length]) fun i => ?_
                rw [at_rest, at_rest, at_wipe, wipeS_length]
                split
                · rfl
                · rename_i hno
                  split
                  · rename_i hi
                    have : ¬ i < S3.length := fun z => hno ⟨hi, z⟩
                    unfold Fr.at; rw [List.getElem?_eq_none (by omega)]; rfl
                  · rfl
              refine q _ M' H' (gr.back _ _ _ _ Rr) (st1.trans st) ?_
              unfold ResOk
              rw [if_pos rfl]
              obtain ⟨vs', hvs', cvs⟩ := Af.c
              refine ⟨p, rfl, Af.m, gr.wr p Af.w, .lst hvs' cvs, fun i hi x => ?_⟩
              have hi2 : (Fr.at (restS S1 S3 own) i).own = true := unh_own hi
              rw [at_rest] at hi2
              split at hi2
              · rename_i ho
                rw [(freeS_slot hf ho.1).1] at hi2; cases hi2
              · rename_i hno
                have hl : i < S3.length := at_lt fun y => by rw [y] at hi2; cases hi2
                have hno2 : i ∉ own := fun z => hno ⟨z, hl⟩
                exact Af.n i (by rw [at_wipe, if_neg hno2]; exact hi2) (by rw [wipe_get hno2]; exact x)
      · rw [if_neg hf] at q; exact q.elim
where
  unh_own {h : Option Nat} {S : Fr} {i : Nat} (hi : (Fr.at (unhide h S) i).own = true) : (S.at i).own = true := by
    cases h with
    | none => exact hi
    | some j =>
      unfold unhide at hi
      dsimp only at hi
      split at hi
      · rename_i d e
        rw [at_set] at hi
        split at hi
        · rename_i z; rw [z.1, e]; rfl
        · exact hi
      · exact hi
theorem se_comp (C : CtxOk X ca Ex G T k N sc true W) {elt tg iter : Expr} {is : List Expr} {scope : Scope} {pos : Pos} {e : CE} {t : CT} {ik : IK} {it ifs : List CE} {own : List Nat}
    (hI : PI X tg iter (wiG X.K ca Ex W (bnd (evOs G it) (itemsOf ik)))) (hset : ∀ x, foldedSetIterable iter X.env x = pure x) (hT : okT N (relS scope sc) (fun x => scope.names.lookup x == some .cell) t tg = true) (hix : (ctIx t).all (fun i => own.contains i) = true)
    (hF : ∀ (s : Shared) (H : Hp) (Cd : Addr) (cl : List (Str × Addr)) (fp : List Addr), PTs (X.blk s H scope (compEnvC scope cl Cd X.env) fp) is (ttG X.K ca Ex G ifs)) (hn : ifs.length ≤ 1)
    (hE : ∀ (s : Shared) (H : Hp) (Cd : Addr) (cl : List (Str × Addr)) (fp : List Addr), PE (X.blk s H scope (compEnvC scope cl Cd X.env) fp) elt (rdG X.K ca Ex (ResOk X.K ca) (fun _ _ _ _ => False) (evE G e)))
    (hB : blkC N sc scope (own.map fun i => ((N[i]?).getD Str.empty, i)) = true) : SE X ca Ex G W (.ListComp elt [⟨tg, iter, is, 0⟩] scope pos) (.comp e t ik it ifs own) := by
  have hown : (own.map fun i => ((N[i]?).getD Str.empty, i)).map (·.2) = own := by rw [List.map_map]; simp [Function.comp_def]
  have p := pe_lc (X := X) (pos := pos) (own := own.map fun i => ((N[i]?).getD Str.empty, i)) (g := tgG X.K ca t) (tt := ttG X.K ca Ex G ifs) (te := rdG X.K ca Ex (ResOk X.K ca) (fun _ _ _ _ => False) (evE G e)) (C.hc rfl) (by rw [C.hN]; exact C.nd) hI
    (by rw [C.hN, C.hsc]; exact blkOk_by hB)
    (fun s H Cd cl fp => okT_pg (X := X.blk s H scope (compEnvC scope cl Cd X.env) fp) C.hN (by rw [← C.hsc]; rfl) C.nd (C.hc rfl) (fun x h => h) t tg hT) hF hE hset
  rw [hown] at p
  exact SE.flat (p.imp fun σ H Q h => comp_imp hn hix h) rfl rfl
theorem pts_of {X : Cx} {is : List Expr} {ifs : List CE} (h : (is = [] ∧ ifs = []) ∨ ∃ e c, is = [e] ∧ ifs = [c] ∧ SE X ca Ex G (fun _ _ _ _ => False) e c) : PTs X is (ttG X.K ca Ex G ifs) := by
  rcases h with ⟨rfl, rfl⟩ | ⟨e, c, rfl, rfl, h⟩
  · exact pts_nil
  · exact pts_one h.t
theorem okTs_len {g : Sg} : ∀ {cs : List CE} {es : List Expr} {sc : Scope} {calm : Bool}, okTs T g N sc calm cs es = true → cs.length ≤ 1
  | [], _, _, _, _ => by simp
  | c :: cs, es, sc, calm, h => by
    simp only [okTs] at h
    split at h
    · simp only [Bool.and_eq_true] at h
      cases cs with
      | nil => simp
      | cons _ _ => simp at h
    · cases h
theorem se_mkE (C : CtxOk X ca Ex G T k N sc true W) {p pos : Pos} {x : Str} {y : Expr} {D : Nat} {c : CE} (hg : glB sc x = true) (hn : nrm x = true) (hx : T.cls.lookup x = some D) (hf : (G.exf D).isSome = true) (h : SE X ca Ex G W y c) (hy : noStar y = true) : SE X ca Ex G W (.Call (.Name x p) [y] [] pos) (.mkE D c) := by
  obtain ⟨f, hf⟩ := Option.isSome_iff_exists.mp hf
  obtain ⟨⟨fI, T1⟩, _⟩ := C.g.ert _ _ hf
  refine SE.flat ((pe_mkE T1 (C.room rfl) h.v (gl_of (N := N) C.hsc hg) (C.g.cls x D hx) (nrm_of hn).1 (star_cons hy [] X.env)).imp fun σ H Q ⟨B, M, S, he, h⟩ => ⟨B, M, S, he, ?_⟩) rfl rfl
  have e1 : evE G (.mkE D c) = bnd (evE G c) fun p => match G.exf D with | some f => ret (.err D [(f, p.1)], false) | none => stuck := rfl
  rw [e1] at h
  refine h.bind fun r S1 v M1 H1 R1 st1 o1 h1 => ?_
  intro a d ha hd hne
  rw [hf] at h1
  obtain ⟨M2, R2, st2, dp⟩ := o1.val h1.1 R1
  have al : Al H1 (upd (upd H1 d (.xd [(f, v)])) a (ErrO (ca D) a d)) := fun b o q => by rw [upd_ne (ne_of_none q ha), upd_ne (ne_of_none q hd)]; exact q
  have nm : ∀ {b : Addr}, H1 b = none → ¬ M2 b := fun {b} hb z => R2.mt b z hb
  refine h1.ret (R2.al0 al) (st2.trans al.stp) ?_
  show Dp X.K ca M2 _ (.ref a) (.err D [(f, r.1)])
  exact .err upd_same (nm ha) (by rw [upd_ne (fun z => hne z.symm), upd_same]) (nm hd) (.cons (dp.step al.stp) .nil)
theorem se_isiE (C : CtxOk X ca Ex G T k N sc calm W) {p p2 pos : Pos} {y : Expr} {c : Str} {a : CE} {t : Ty} (hg : glB sc ("isinstance" : Str) = true) (hf : T.free.contains ("isinstance" : Str) = true) (ha : SE X ca Ex G W y a) (hy : noStar y = true) (hg2 : glB sc c = true) (hn2 : nrm c = true) (ht : tyE T t c = true) : SE X ca Ex G W (.Call (.Name "isinstance" p) [y, .Name c p2] [] pos) (.isiE a t) := by
  have hm := C.g.free ("isinstance" : Str) (by simpa using hf)
  have pc : ∃ cv, PE X (.Name c p2) (tC cv) ∧ ∀ u, RelV cv u → u = tyVal ca t := by
    cases t with
    | ty n =>
      simp only [tyE, Bool.and_eq_true, beq_iff_eq] at ht
      obtain ⟨⟨h1, h2⟩, h3⟩ := ht
      have hm2 := C.g.free c (by simpa using h3)
      have hb : bootBuiltins c = some (.type n) := by rw [h2, h1]; decide +kernel
      exact ⟨.ty n, pe_bltn (gl_of (N := N) C.hsc hg2) hm2 hb rfl (nrm_of hn2).2 (nrm_of hn2).1, fun u r => r⟩
    | own D =>
      have h : T.cls.lookup c = some D := of_decide_eq_true ht
      exact ⟨.ref (ca D), pe_glob (gl_of (N := N) C.hsc hg2) (C.g.cls c D h) rfl (nrm_of hn2).1, fun u r => r⟩
  obtain ⟨cv, pcv, hcv⟩ := pc
  refine SE.flat ((pe_callB call_isErr (gl_of (N := N) C.hsc hg) hm boot_isinstance (pa_cons ha.o (pa_cons pcv pa_nil (star_cons rfl [] X.env)) (star_cons hy _ X.env)) (by decide) (by decide) (star_cons hy _ X.env) (star_plain rfl)).imp fun σ H Q ⟨B, M, S, he, h⟩ => ⟨B, M, S, he, ?_⟩) rfl rfl
  refine h.bind fun os S1 v M1 H1 R1 st1 o1 h1 => ?_
  rw [op1_plain] at h1
  obtain ⟨ds, b, hf, hd, q⟩ := useOs_blE h1 (.cons o1 .nil)
  obtain ⟨d, rfl, dd⟩ := hd.i1
  have hf' : opIsiE G.toSg t d = some b := hf
  unfold opIsiE at hf'
  split at hf'
  · obtain ⟨a, dx, gs, rfl, hH, hD, cf⟩ := dd.errI
    obtain ⟨E1, K1⟩ := C.g.ek _ _ _ hf'
    exact ⟨a, dx, _, gs, cv, _, b, rfl, hH, hD, E1, hcv, K1, q⟩
  · cases hf'
/-! EVERY EXPRESSION does what its core form says -/
mutual
theorem okE_se : ∀ (c : CE) (e : Expr) {sc : Scope} {calm : Bool} {X : Cx} {W : WX}, okE T G.toSg N sc calm c e = true → CtxOk X ca Ex G T k N sc calm W → SE X ca Ex G W e c
  | .var i, e, sc, calm, X, W, h, C => by
    simp only [okE] at h
    split at h
    · exact se_var C h
    · cases h
  | .lit d, e, sc, calm, X, W, h, C => by
    simp only [okE] at h
    split at h
    · exact se_lit h
    · cases h
  | .con i, e, sc, calm, X, W, h, C => by
    simp only [okE] at h
    split at h
    · exact se_con C h
    · cases h
  | .bin op a b, e, sc, calm, X, W, h, C => by
    simp only [okE] at h
    split at h
    · simp only [Bool.and_eq_true, decide_eq_true_eq] at h
      obtain ⟨⟨rfl, h1⟩, h2⟩ := h
      exact se_bin (okE_se a _ h1 C) (okE_se b _ h2 C)
    · cases h
  | .neg a, e, sc, calm, X, W, h, C => by
    simp only [okE] at h
    split at h
    · exact se_neg (okE_se a _ h C)
    · cases h
  | .not a, e, sc, calm, X, W, h, C => by
    simp only [okE] at h
    split at h
    · exact se_not (okE_se a _ h C)
    · cases h
  | .cmp op a b, e, sc, calm, X, W, h, C => by
    simp only [okE] at h
    split at h
    · simp only [Bool.and_eq_true, decide_eq_true_eq, Bool.not_eq_true'] at h
      obtain ⟨⟨⟨rfl, h1⟩, h2⟩, h3⟩ := h
      exact se_cmp C.un (okE_se a _ h1 C) (okE_se b _ h2 C) h3
    · cases h
  | .cmp2 op op' a b c, e, sc, calm, X, W, h, C => by
    simp only [okE] at h
    split at h
    · simp only [Bool.and_eq_true, decide_eq_true_eq, Bool.not_eq_true'] at h
      obtain ⟨⟨⟨⟨⟨rfl, rfl⟩, h1⟩, h2⟩, h3⟩, h4⟩ := h
      exact se_cmp2 C.un (okE_se a _ h1 C) (okE_se b _ h2 C) (okE_se c _ h3 C) h4
    · cases h
  | .and a b, e, sc, calm, X, W, h, C => by
    simp only [okE] at h
    split at h
    · simp only [Bool.and_eq_true] at h
      have hb := okE_se b _ h.2 C
      exact se_and (okE_se a _ h.1 C) (pe_one hb.v) (pw_and1 hb.t)
    · simp only [Bool.and_eq_true] at h
      have hb := okE_se b _ h.2 C
      exact se_and (okE_se a _ h.1 C) hb.v (hb.w rfl)
    · cases h
  | .or a b, e, sc, calm, X, W, h, C => by
    simp only [okE] at h
    split at h
    · simp only [Bool.and_eq_true] at h
      have hb := okE_se b _ h.2 C
      exact se_or (okE_se a _ h.1 C) (pe_one hb.v) (pw_or1 hb.t)
    · simp only [Bool.and_eq_true] at h
      have hb := okE_se b _ h.2 C
      exact se_or (okE_se a _ h.1 C) hb.v (hb.w rfl)
    · cases h
  | .ite c a b, e, sc, calm, X, W, h, C => by
    simp only [okE] at h
    split at h
    · simp only [Bool.and_eq_true] at h
      exact se_ite (okE_se c _ h.1.1 C) (okE_se a _ h.1.2 C) (okE_se b _ h.2 C)
    · cases h
  | .tup es, e, sc, calm, X, W, h, C => by
    simp only [okE] at h
    split at h
    · exact se_tup (okEs_se es _ h C)
    · cases h
  | .lst es, e, sc, calm, X, W, h, C => by
    simp only [okE] at h
    split at h
    · exact se_lst (okEs_se es _ h C)
    · cases h
  | .idx a b, e, sc, calm, X, W, h, C => by
    simp only [okE] at h
    split at h
    · simp only [Bool.and_eq_true] at h
      exact se_idx (okE_se a _ h.1.1 C) (okE_se b _ h.1.2 C) h.2
    · cases h
  | .sl a lo hi, e, sc, calm, X, W, h, C => by
    simp only [okE] at h
    split at h
    · simp only [Bool.and_eq_true] at h
      exact se_sl (okE_se a _ h.1.1 C) (okP_se lo _ h.1.2 C) (okP_se hi _ h.2 C)
    · cases h
  | .att a f, e, sc, calm, X, W, h, C => by
    simp only [okE] at h
    split at h
    · simp only [Bool.and_eq_true, decide_eq_true_eq] at h
      obtain ⟨⟨rfl, h1⟩, h2⟩ := h
      exact se_att C (okE_se a _ h1 C) h2
    · cases h
  | .exv i f, e, sc, calm, X, W, h, C => by
    simp only [okE] at h
    split at h
    · simp only [Bool.and_eq_true, decide_eq_true_eq, Bool.not_eq_true'] at h
      obtain ⟨⟨rfl, h1⟩, rfl⟩ := h
      exact se_exv C h1
    · cases h
  | .call f es, e, sc, calm, X, W, h, C => by
    simp only [okE] at h
    split at h
    · simp only [Bool.and_eq_true, decide_eq_true_eq, beq_iff_eq] at h
      obtain ⟨⟨⟨⟨⟨rfl, h1⟩, h2⟩, h3⟩, h4⟩, h5⟩ := h
      exact se_call C h1 h2 h3 (okEs_se es _ h4 C) h5
    · cases h
  | .make D es, e, sc, calm, X, W, h, C => by
    simp only [okE] at h
    split at h
    · simp only [Bool.and_eq_true, decide_eq_true_eq] at h
      obtain ⟨⟨⟨⟨⟨rfl, h1⟩, h2⟩, h3⟩, h4⟩, h5⟩ := h
      cases e1 : G.init D with
      | none => rw [e1] at h5; cases h5
      | some f =>
        rw [e1] at h5
        simp only [Bool.and_eq_true, beq_iff_eq] at h5
        exact se_make C h1 h2 h3 e1 (okEs_se es _ h4 C) h5.1 h5.2
    · cases h
  | .meth o m es, e, sc, calm, X, W, h, C => by
    simp only [okE] at h
    split at h
    · rename_i x m' ap ys cp
      simp only [Bool.and_eq_true, decide_eq_true_eq] at h
      obtain ⟨⟨⟨⟨⟨⟨⟨rfl, rfl⟩, h1⟩, h2⟩, h3⟩, h4⟩, h5⟩, h6⟩ := h
      have hs := okEs_se es _ h2 C
      refine se_meth C (okE_se o _ h1 C) hs h3 h4 (by rw [hs.len]; exact h5) fun Cn hC f hm => ?_
      have := List.all_eq_true.mp h6 Cn hC
      rw [hm] at this
      simp only [Bool.and_eq_true, beq_iff_eq] at this
      exact this
    · cases h
  | .blt b es, e, sc, calm, X, W, h, C => by
    simp only [okE] at h
    split at h
    · simp only [Bool.and_eq_true] at h
      obtain ⟨⟨⟨⟨⟨rfl, h1⟩, h2⟩, h3⟩, h4⟩, h5⟩ := h
      exact se_blt C h1 h2 h3 h4 (okEs_se es _ h5 C)
    · cases h
  | .isi a t, e, sc, calm, X, W, h, C => by
    simp only [okE] at h
    split at h
    · simp only [Bool.and_eq_true, beq_iff_eq] at h
      obtain ⟨⟨⟨⟨⟨⟨⟨h1, h2⟩, rfl⟩, h4⟩, h5⟩, h6⟩, h7⟩, h8⟩ := h
      exact se_isi C h1 h2 (okE_se a _ h4 C) h5 h6 h7 h8
    · cases h
  | .mkE D c, e, sc, calm, X, W, h, C => by
    simp only [okE] at h
    split at h
    · simp only [Bool.and_eq_true, decide_eq_true_eq] at h
      obtain ⟨⟨⟨⟨⟨⟨rfl, h1⟩, h2⟩, h3⟩, h4⟩, h5⟩, h6⟩ := h
      exact se_mkE C h1 h2 h3 h4 (okE_se c _ h5 C) h6
    · cases h
  | .attE a f, e, sc, calm, X, W, h, C => by
    simp only [okE] at h
    split at h
    · simp only [Bool.and_eq_true, decide_eq_true_eq] at h
      obtain ⟨⟨rfl, h1⟩, h2⟩ := h
      exact se_attE C (okE_se a _ h1 C) h2
    · cases h
  | .isiE a t, e, sc, calm, X, W, h, C => by
    simp only [okE] at h
    split at h
    · simp only [Bool.and_eq_true, beq_iff_eq] at h
      obtain ⟨⟨⟨⟨⟨⟨⟨h1, h2⟩, rfl⟩, h4⟩, h5⟩, h6⟩, h7⟩, h8⟩ := h
      exact se_isiE C h1 h2 (okE_se a _ h4 C) h5 h6 h7 h8
    · cases h
  | .index o a, e, sc, calm, X, W, h, C => by
    simp only [okE] at h
    split at h
    · simp only [Bool.and_eq_true, beq_iff_eq] at h
      obtain ⟨⟨⟨⟨⟨⟨rfl, rfl⟩, h3⟩, h4⟩, h5⟩, h6⟩, h7⟩ := h
      exact se_index C (okE_se o _ h3 C) (okE_se a _ h4 C) h5 h6 (by simpa using h7)
    · cases h
  | .oeq a b, e, sc, calm, X, W, h, C => by
    simp only [okE] at h
    split at h
    · simp only [Bool.and_eq_true, Bool.not_eq_true'] at h
      obtain ⟨⟨⟨⟨rfl, h1⟩, h2⟩, h3⟩, h4⟩ := h
      refine se_oeq C (okE_se a _ h1 C) (okE_se b _ h2 C) h3 fun Cn hC f hm => ?_
      have := List.all_eq_true.mp h4 Cn hC
      rw [hm] at this
      simpa using this
    · cases h
  | .olen a, e, sc, calm, X, W, h, C => by
    simp only [okE] at h
    split at h
    · simp only [Bool.and_eq_true, beq_iff_eq] at h
      obtain ⟨⟨⟨⟨⟨⟨⟨rfl, h1⟩, h2⟩, h3⟩, rfl⟩, h5⟩, h6⟩, h7⟩ := h
      refine se_olen C h1 h3 h5 (okE_se a _ h6 C) fun Cn hC f hm => ?_
      have := List.all_eq_true.mp h7 Cn hC
      rw [hm] at this
      simpa using this
    · cases h
  | .comp e t ik it ifs own, e', sc, calm, X, W, h, C => by
    simp only [okE] at h
    split at h
    · simp only [Bool.and_eq_true] at h
      obtain ⟨⟨⟨⟨⟨⟨rfl, h1⟩, h2⟩, h3⟩, h4⟩, h5⟩, h6⟩ := h
      have hI := okI_se ik it _ h1 C
      refine se_comp C (pi_items C hI.1) hI.2 h2 h3 (fun s H Cd cl fp => ?_) ?_ (fun s H Cd cl fp => (okE_se e _ h5 (C.blk (s := s) (H := H) (Cd := Cd) (cl := cl) (fp := fp))).v) h6
      · exact pts_of (okTs_se ifs _ h4 (C.blk (s := s) (H := H) (Cd := Cd) (cl := cl) (fp := fp)))
      · exact okTs_len h4
    · cases h
theorem okEs_se : ∀ (cs : List CE) (es : List Expr) {sc : Scope} {calm : Bool} {X : Cx} {W : WX}, okEs T G.toSg N sc calm cs es = true → CtxOk X ca Ex G T k N sc calm W → SEs X ca Ex G W es cs
  | [], es, sc, calm, X, W, h, C => by
    simp only [okEs] at h
    cases es with
    | nil => exact .nil
    | cons _ _ => cases h
  | c :: cs, es, sc, calm, X, W, h, C => by
    simp only [okEs] at h
    split at h
    · simp only [Bool.and_eq_true] at h
      exact .cons h.1.1 (okE_se c _ h.1.2 C) (okEs_se cs _ h.2 C)
    · cases h
theorem okP_se : ∀ (c : Option CE) (e : Option Expr) {sc : Scope} {calm : Bool} {X : Cx} {W : WX}, okP T G.toSg N sc calm c e = true → CtxOk X ca Ex G T k N sc calm W → SEo X ca Ex G W e c
  | none, e, sc, calm, X, W, h, C => by
    simp only [okP] at h
    cases e with
    | none => exact .none
    | some _ => cases h
  | some c, e, sc, calm, X, W, h, C => by
    simp only [okP] at h
    split at h
    · exact .some (okE_se c _ h C)
    · cases h
theorem okTs_se : ∀ (cs : List CE) (es : List Expr) {sc : Scope} {calm : Bool} {X : Cx} {W : WX}, okTs T G.toSg N sc calm cs es = true → CtxOk X ca Ex G T k N sc calm W → (es = [] ∧ cs = []) ∨ ∃ e c, es = [e] ∧ cs = [c] ∧ SE X ca Ex G W e c
  | [], es, sc, calm, X, W, h, C => by
    simp only [okTs] at h
    cases es with
    | nil => exact .inl ⟨rfl, rfl⟩
    | cons _ _ => cases h
  | c :: cs, es, sc, calm, X, W, h, C => by
    simp only [okTs] at h
    split at h
    · simp only [Bool.and_eq_true] at h
      cases cs with
      | nil => exact .inr ⟨_, c, rfl, rfl, okE_se c _ h.1 C⟩
      | cons _ _ => simp at h
    · cases h
theorem okI_se : ∀ (ik : IK) (cs : List CE) (e : Expr) {sc : Scope} {calm : Bool} {X : Cx} {W : WX}, okI T G.toSg N sc calm ik cs e = true → CtxOk X ca Ex G T k N sc calm W →
    ((ik = .seq ∧ ∃ c, cs = [c] ∧ SE X ca Ex G W e c) ∨ (ik = .rng1 ∧ ∃ a p pos, e = .Call (.Name "range" p) [a] [] pos ∧ glB sc "range" = true ∧ ("range" : Str) ∈ T.free ∧ SEs X ca Ex G W [a] cs) ∨
      (ik = .rng2 ∧ ∃ a b p pos, e = .Call (.Name "range" p) [a, b] [] pos ∧ glB sc "range" = true ∧ ("range" : Str) ∈ T.free ∧ SEs X ca Ex G W [a, b] cs)) ∧ ∀ x, foldedSetIterable e X.env x = pure x
  | ik, [], e, sc, calm, X, W, h, C => by simp only [okI] at h; cases h
  | ik, c :: cs, e, sc, calm, X, W, h, C => by
    simp only [okI] at h
    split at h
    · simp only [Bool.and_eq_true] at h
      obtain ⟨⟨h1, h2⟩, h3⟩ := h
      cases cs with
      | nil =>
        refine ⟨.inl ⟨rfl, c, rfl, okE_se c _ h1 C⟩, fun x => ?_⟩
        cases e <;> first | rfl | cases h3
      | cons _ _ => cases h2
    · split at h
      · simp only [Bool.and_eq_true, beq_iff_eq] at h
        obtain ⟨⟨⟨⟨⟨rfl, h2⟩, h3⟩, h4⟩, h5⟩, h6⟩ := h
        cases cs with
        | nil => exact ⟨.inr (.inl ⟨rfl, _, _, _, rfl, h3, by simpa using h2, .cons h5 (okE_se c _ h4 C) .nil⟩), fun _ => rfl⟩
        | cons _ _ => cases h6
      · cases h
    · split at h
      · simp only [Bool.and_eq_true, beq_iff_eq] at h
        obtain ⟨⟨⟨⟨⟨⟨rfl, h2⟩, h3⟩, h4⟩, h5⟩, h6⟩, h7⟩ := h
        exact ⟨.inr (.inr ⟨rfl, _, _, _, _, rfl, h3, by simpa using h2, .cons h5 (okE_se c _ h4 C) (okEs_se cs _ h7 C)⟩), fun _ => rfl⟩
      · cases h
end
end
end Ev
end

section
set_option maxRecDepth 100000
set_option maxHeartbeats 4000000
namespace Ev
open PySem PySem.Spec PyProof.Rows L2
section
variable {ca : Nat → Addr} {B B' : Bs} {M M' : Mset} {H H' : Hp} {σ : L2.St} {S S' : Fr} {W : WX} {Ex : Addr → Nat → Addr → Prop} {X : Cx} {G : Gam} {T : Tb} {k : Nat} {N : List Str} {sc : Scope} {calm : Bool} {Pr : List Nat}
/-- the slots Pr are never set anew -/
def KeepP (Pr : List Nat) (σ σ' : L2.St) : Prop := ∀ i ∈ Pr, σ'[i]? = σ[i]?
theorem KeepP.refl {Pr : List Nat} {σ : L2.St} : KeepP Pr σ σ := fun _ _ => rfl
theorem KeepP.trans {Pr : List Nat} {σ σ' σ'' : L2.St} (h : KeepP Pr σ σ') (h' : KeepP Pr σ' σ'') : KeepP Pr σ σ'' := fun i hi => (h' i hi).trans (h i hi)
theorem KeepP.set {Pr : List Nat} {σ : L2.St} {i : Nat} {x : Option V} (h : i ∉ Pr) : KeepP Pr σ (σ.set i x) := fun j hj => List.getElem?_set_ne (fun (z : i = j) => h (by rw [z]; exact hj))
theorem KeepP.tgt {Pr ix : List Nat} {σ σ' : L2.St} (h : ∀ i ∈ ix, i ∉ Pr) (k : ∀ i, i ∉ ix → σ'[i]? = σ[i]?) : KeepP Pr σ σ' := fun i hi => k i fun z => h i z hi
/-- what is wanted behind a statement that ends so -/
def fin (K : PySem.W.Frag) (ca : Nat → Addr) (D : Ends) (B : Bs) (σ : L2.St) (S : Fr) (M : Mset) (H : Hp) : Flw → Prop
  | .nx => D.nx σ H
  | .bk => D.bk σ H
  | .ct => D.ct σ H
  | .rt d f => ∀ v, ResOk K ca B σ S M H (d, f) v → D.rt v H
def RunS (K : PySem.W.Frag) (ca : Nat → Addr) (W : WX) (Pr : List Nat) (m : Ev.M Flw) (B : Bs) (M : Mset) (S : Fr) (σ : L2.St) (H : Hp) (D : Ends) : Prop :=
  B.Ok ∧ Rep K ca B M H σ S ∧ match m S with
    | none => False
    | some (.ok f, S') => ∀ σ' M' H', Rep K ca B M' H' σ' S' → Stp M H M' H' → KeepP Pr σ σ' → fin K ca D B σ' S' M' H' f
    | some (.error e, S') => ∀ σ' M' H' cls dd, Rep K ca B M' H' σ' S' → Stp M H M' H' → KeepP Pr σ σ' → ErrOk K ca M' H' e cls dd → W cls dd σ' H'
def rdS (K : PySem.W.Frag) (ca : Nat → Addr) (Ex : Addr → Nat → Addr → Prop) (W : WX) (Pr : List Nat) (m : Ev.M Flw) : TS := fun D σ H => ∃ B M S, B.Ex = Ex ∧ RunS K ca W Pr m B M S σ H D
theorem _root_.L2.PS.imp {X : Cx} {st : Stmt} {t t' : TS} (h : PS X st t) (q : ∀ D σ H, t' D σ H → t D σ H) : PS X st t' := ⟨fun pins s σ H D I hw => h.run pins s σ H D I (q D σ H hw)⟩
theorem _root_.L2.PSs.imp {X : Cx} {st : List Stmt} {t t' : TS} (h : PSs X st t) (q : ∀ D σ H, t' D σ H → t D σ H) : PSs X st t' := ⟨fun pins s σ H D I hw => h.run pins s σ H D I (q D σ H hw)⟩
/-- an expression first -/
theorem RunS.bind {γ δ : Type} {okx : Ok γ δ} {K : PySem.W.Frag} {x : Ev.M γ} {f : γ → Ev.M Flw} {D : Ends} {Q1 : δ → Hp → Prop} (h : RunS K ca W Pr (bnd x f) B M S σ H D)
    (k : ∀ a S1 b M1 H1, Rep K ca B M1 H1 σ S1 → Stp M H M1 H1 → okx B σ S1 M1 H1 a b → RunS K ca W Pr (f a) B M1 S1 σ H1 D → Q1 b H1) : Run K ca okx W x B M S σ H Q1 := by
  obtain ⟨b, R, q⟩ := h
  refine ⟨b, R, ?_⟩
  cases e : x S with
  | none => rw [bnd_none e] at q; exact q
  | some p =>
    obtain ⟨r, S1⟩ := p
    cases r with
    | error er => rw [bnd_err e] at q; exact fun M' H' cls dd R' st' eo => q σ M' H' cls dd R' st' .refl eo
    | ok a =>
      rw [bnd_ok e] at q
      refine fun y M1 H1 R1 s1 o1 => k a S1 y M1 H1 R1 s1 o1 ⟨b, R1, ?_⟩
      cases e2 : f a S1 with
      | none => rw [e2] at q; exact q
      | some p2 =>
        obtain ⟨r2, S2⟩ := p2
        rw [e2] at q
        cases r2 with
        | error er => exact fun σ' M' H' cls dd R' s' => q σ' M' H' cls dd R' (s1.trans s')
        | ok c => exact fun σ' M' H' R' s' => q σ' M' H' R' (s1.trans s')
theorem RunS.shift {K : PySem.W.Frag} {m : Ev.M Flw} {D : Ends} (h : RunS K ca W Pr m B M S σ H D) {H' : Hp} (R : Rep K ca B M' H' σ S) (st : Stp M H M' H') : RunS K ca W Pr m B M' S σ H' D := by
  obtain ⟨b, _, q⟩ := h
  refine ⟨b, R, ?_⟩
  cases e : m S with
  | none => rw [e] at q; exact q
  | some p =>
    obtain ⟨r, S1⟩ := p
    rw [e] at q
    cases r with
    | error er => exact fun σ' M' H' cls dd R' s' => q σ' M' H' cls dd R' (st.trans s')
    | ok a => exact fun σ' M' H' R' s' => q σ' M' H' R' (st.trans s')
theorem RunS.ret {K : PySem.W.Frag} {f : Flw} {D : Ends} (h : RunS K ca W Pr (ret f) B M S σ H D) {M' : Mset} {H' : Hp} (R : Rep K ca B M' H' σ S) (st : Stp M H M' H') : fin K ca D B σ S M' H' f := h.2.2 σ M' H' R st .refl
/-- a statement's form and the next ones' -/
structure SS (X : Cx) (ca : Nat → Addr) (Ex : Addr → Nat → Addr → Prop) (G : Gam) (W : WX) (Pr : List Nat) (st : Stmt) (c : CS) : Prop where
  p : PS X st (rdS X.K ca Ex W Pr (evS G c))
structure SSs (X : Cx) (ca : Nat → Addr) (Ex : Addr → Nat → Addr → Prop) (G : Gam) (W : WX) (Pr : List Nat) (st : List Stmt) (c : List CS) : Prop where
  p : PSs X st (rdS X.K ca Ex W Pr (evB G c))
theorem ss_nil : SSs X ca Ex G W Pr [] [] := ⟨pss_nil.imp fun D σ H ⟨B, M, S, he, h⟩ => h.ret h.2.1 .refl⟩
theorem ss_cons {st : Stmt} {r : List Stmt} {c : CS} {cs : List CS} (h1 : SS X ca Ex G W Pr st c) (h2 : SSs X ca Ex G W Pr r cs) : SSs X ca Ex G W Pr (st :: r) (c :: cs) := by
  refine ⟨(pss_cons h1.p h2.p).imp fun D σ H ⟨B, M, S, he, b, R, q⟩ => ⟨B, M, S, he, b, R, ?_⟩⟩
  have e1 : evB G (c :: cs) S = seqS (evS G c) (evB G cs) S := rfl
  rw [e1] at q
  unfold seqS at q
  cases e : evS G c S with
  | none => rw [bnd_none e] at q; exact q
  | some p =>
    obtain ⟨r, S1⟩ := p
    cases r with
    | error er => rw [bnd_err e] at q; exact q
    | ok f =>
      rw [bnd_ok e] at q
      cases f with
      | nx =>
        intro σ1 M1 H1 R1 st1 kp1
        refine ⟨B, M1, S1, he, b, R1, ?_⟩
        dsimp only at q
        cases e2 : evB G cs S1 with
        | none => rw [e2] at q; exact q
        | some p2 =>
          obtain ⟨r2, S2⟩ := p2
          rw [e2] at q
          cases r2 with
          | error er => exact fun σ' M' H' cls dd R' s' kp => q σ' M' H' cls dd R' (st1.trans s') (kp1.trans kp)
          | ok a => exact fun σ' M' H' R' s' kp => q σ' M' H' R' (st1.trans s') (kp1.trans kp)
      | bk => exact q
      | ct => exact q
      | rt d fl => exact q
theorem ss_pass {pos : Pos} : SS X ca Ex G W Pr (.Pass pos) .pass := ⟨ps_pass.imp fun D σ H ⟨B, M, S, he, h⟩ => h.ret h.2.1 .refl⟩
theorem ss_brk {pos : Pos} : SS X ca Ex G W Pr (.Break pos) .brk := ⟨ps_break.imp fun D σ H ⟨B, M, S, he, h⟩ => h.ret h.2.1 .refl⟩
theorem ss_cont {pos : Pos} : SS X ca Ex G W Pr (.Continue pos) .cont := ⟨ps_continue.imp fun D σ H ⟨B, M, S, he, h⟩ => h.ret h.2.1 .refl⟩
theorem ss_doc {x : Str} {j : Nat} {p q : Pos} : SS X ca Ex G W Pr (.Expr (.Constant (.str x) j p) q) .pass := ⟨ps_doc.imp fun D σ H ⟨B, M, S, he, h⟩ => h.ret h.2.1 .refl⟩
theorem ss_retN {pos : Pos} : SS X ca Ex G W Pr (.Return none pos) .retN := ⟨ps_retN.imp fun D σ H ⟨B, M, S, he, h⟩ => h.ret h.2.1 .refl .non (res_val rfl .non)⟩
/-- no list comprehension -/
def noLc : Expr → Bool
  | .ListComp .. => false
  | .SetComp .. => false
  | .DictComp .. => false
  | _ => true
theorem sw_no {e : Expr} (h : noLc e = true) (t : Option Expr) (l : Nat) (env : Env) : swapsWith e t l env = pure false := by
  cases e <;> first | rfl | cases h
theorem ss_ex {e : Expr} {c : CE} {pos : Pos} (h : SE X ca Ex G W e c) (hn : noLc e = true) : SS X ca Ex G W Pr (.Expr e pos) (.ex c) := by
  refine ⟨(ps_expr h.v (sw_no hn _ _ _)).imp fun D σ H ⟨B, M, S, he, h⟩ => ⟨B, M, S, he, ?_⟩⟩
  have h' : RunS X.K ca W Pr (bnd (evE G c) fun _ => ret .nx) B M S σ H D := h
  exact h'.bind fun p S1 v M1 H1 R1 st1 o1 h1 => h1.ret R1 .refl
theorem ss_ret {e : Expr} {c : CE} {pos : Pos} (h : SE X ca Ex G W e c) : SS X ca Ex G W Pr (.Return (some e) pos) (.ret c) := by
  cases hv : isVar c with
  | false =>
    refine ⟨(ps_ret h.v).imp fun D σ H ⟨B, M, S, he, h⟩ => ⟨B, M, S, he, ?_⟩⟩
    have e1 : evS G (.ret c) = bnd (evE G c) fun p => ret (.rt p.1 p.2) := by
      show retS c (evE G c) = _
      cases c <;> first | rfl | cases hv
    rw [e1] at h
    refine h.bind fun p S1 v M1 H1 R1 st1 o1 h1 => ?_
    exact h1.ret R1 .refl v o1
  | true =>
    cases c with
    | var i =>
      refine ⟨(ps_ret h.o).imp fun D σ H ⟨B, M, S, he, b, R, q⟩ => ⟨B, M, S, he, b, R, ?_⟩⟩
      have e1 : evS G (.ret (.var i)) S = (match S.at i with | .ow d => some (.ok (.rt d true), S.set i .no) | .fz d => some (.ok (.rt d false), S) | _ => none) := rfl
      rw [e1] at q
      have e2 : opd (.var i) (evE G (.var i)) S = (match S.at i with | .no => none | _ => some (.ok (.ref i), S)) := rfl
      rw [e2]
      cases e : S.at i with
      | ow d =>
        rw [e] at q
        dsimp only at q ⊢
        intro v M' H' R' st o
        have hv' : σ[i]? = some (some v) := o
        have qs := R'.slot i
        rw [e] at qs
        obtain ⟨a, ea, hm, hw, c⟩ := qs
        rw [hv'] at ea; cases ea
        have R2 : Rep X.K ca B M' H' σ (S.set i .no) := R'.setS trivial fun z => nomatch z
        refine q σ M' H' R2 st .refl _ ?_
        unfold ResOk
        rw [if_pos rfl]
        refine ⟨a, rfl, hm, hw, c, fun j oj ej => ?_⟩
        have hlt := at_lt (S := S) (i := i) (by rw [e]; exact fun z => nomatch z)
        by_cases ji : j = i
        · subst ji; rw [at_set_self hlt] at oj; cases oj
        · rw [at_set_ne ji] at oj
          exact R'.dist j i a ji oj (by rw [e]; rfl) ej hv'
      | fz d =>
        rw [e] at q
        dsimp only at q ⊢
        intro v M' H' R' st o
        have hv' : σ[i]? = some (some v) := o
        have qs := R'.slot i
        rw [e] at qs
        obtain ⟨a, ea, c⟩ := qs
        rw [hv'] at ea; cases ea
        exact q σ M' H' R' st .refl _ (res_val rfl c)
      | _ => rw [e] at q; exact q.elim
    | _ => cases hv
theorem ss_ite {t : Expr} {a b : List Stmt} {c : CE} {ca' cb : List CS} {pos : Pos} (hc : SE X ca Ex G W t c) (ha : SSs X ca Ex G W Pr a ca') (hb : SSs X ca Ex G W Pr b cb) : SS X ca Ex G W Pr (.If t a b pos) (.ite c ca' cb) := by
  refine ⟨(ps_if hc.t ha.p hb.p).imp fun D σ H ⟨B, M, S, he, h⟩ => ⟨B, M, S, he, ?_⟩⟩
  have e1 : evS G (.ite c ca' cb) = bnd (bnd (evE G c) asBl) fun k => if k then evB G ca' else evB G cb := by rw [bnd_assoc]; rfl
  rw [e1] at h
  refine h.bind (okx := okB) fun k S1 k' M1 H1 R1 st1 o1 h1 => ?_
  cases o1
  cases k with
  | true => exact ⟨B, M1, S1, he, h1⟩
  | false => exact ⟨B, M1, S1, he, h1⟩
/-- x = e -/
theorem set_end {i : Nat} (hpr : i ∉ Pr) {p : D × Bool} {D : Ends} {v : V} (h : RunS X.K ca W Pr (setV i p) B M S σ H D) (R : Rep X.K ca B M H σ S) (o : ResOk X.K ca B σ S M H p v) : D.nx (σ.set i (some v)) H := by
  obtain ⟨b, _, q⟩ := h
  unfold setV at q
  by_cases hl : i < S.length
  · rw [if_pos hl] at q
    unfold ResOk at o
    split at o
    · rename_i hp
      rw [if_pos hp] at q
      obtain ⟨a, rfl, hm, hw, c, hn⟩ := o
      exact q _ M H (R.store ⟨a, rfl, hm, hw, c⟩ hl fun _ j x ji oj ev ej => by cases ev; exact hn j oj ej) .refl (.set hpr)
    · rename_i hp
      rw [if_neg hp] at q
      exact q _ M H (R.store ⟨v, rfl, o⟩ hl fun z => nomatch z) .refl (.set hpr)
  · rw [if_neg hl] at q; exact q.elim
theorem loc_of {fn : Str → Bool} {x : Str} {i : Nat} (hs : X.env.scope = sc) (hfn : ∀ x, fn x = true → X.fn x = true) (h : (decide (N[i]? = some x) && (decide (sc.names.lookup x = some .local) || (fn x && decide (sc.names.lookup x = some .cell)))) = true) :
    N[i]? = some x ∧ Loc X.env.scope x ∧ (X.fn x = true ∨ X.env.scope.names.lookup x = some .local) := by
  simp only [Bool.and_eq_true, Bool.or_eq_true, decide_eq_true_eq] at h
  obtain ⟨hi, hl⟩ := h
  rw [hs]
  refine ⟨hi, ?_, ?_⟩
  · rcases hl with hl | hl
    · exact .inl hl
    · exact .inr hl.2
  · rcases hl with hl | hl
    · exact .inr hl
    · exact .inl (hfn x hl.1)
theorem ss_set {i : Nat} (hpr : i ∉ Pr) (hN : X.N = N) (nd : N.Nodup) {e : Expr} {c : CE} {x : Str} {p pos : Pos} (h : SE X ca Ex G W e c) (hi : N[i]? = some x) (hl : Loc X.env.scope x) (hf : X.fn x = true ∨ X.env.scope.names.lookup x = some .local)
    (hs : swapsWith e (some (.Name x p)) pos.line X.env = pure false) : SS X ca Ex G W Pr (.Assign [.Name x p] e pos) (.asg (.nm i) c) := by
  refine ⟨(ps_set (i := i) (by rw [hN]; exact nd) (by rw [hN]; exact hi) hl h.v hs hf).imp fun D σ H ⟨B, M, S, he, h⟩ => ⟨B, M, S, he, ?_⟩⟩
  have h' : RunS X.K ca W Pr (bnd (evE G c) fun p => setV i p) B M S σ H D := h
  exact h'.bind fun p S1 v M1 H1 R1 st1 o1 h1 => set_end hpr h1 R1 o1
def noDisp : Expr → Bool
  | .Tuple .. => false
  | .List .. => false
  | _ => true
theorem ss_tgt {fn : Str → Bool} (C : CtxOk X ca Ex G T k N sc true W) (hfn : ∀ x, fn x = true → X.fn x = true) {e tg : Expr} {c : CE} {ts : List CT} {pos : Pos} (h : SE X ca Ex G W e c) (ht : okT N sc fn (.tp ts) tg = true) (hl : noLc e = true) (hd : noDisp e = true) (hpr : ∀ i ∈ ctIx (.tp ts), i ∉ Pr) : SS X ca Ex G W Pr (.Assign [tg] e pos) (.asg (.tp ts) c) := by
  have hg := okT_pg (ca := ca) C.hN C.hsc C.nd (C.hc rfl) hfn (.tp ts) tg ht
  have hst : noStar tg = true := by cases tg <;> first | rfl | simp [okT] at ht
  refine ⟨(ps_asg h.v hg (sw_no hl _ _ _) (by unfold swappedStores; cases tg <;> first | (simp [okT] at ht; done) | (cases e <;> first | rfl | cases hd)) (by rw [asgEach_cons hst]; rfl)).imp fun D σ H ⟨B, M, S, he, h⟩ => ⟨B, M, S, he, ?_⟩⟩
  have e1 : evS G (.asg (.tp ts) c) = bnd (evE G c) fun p => fun S => match asgT (.tp ts) p.1 S with | none => none | some S' => some (.ok .nx, S') := rfl
  rw [e1] at h
  refine h.bind fun p S1 v M1 H1 R1 st1 o1 h1 => ?_
  obtain ⟨M2, R2, st2, dp⟩ := o1.val h1.1 R1
  obtain ⟨_, _, q⟩ := h1
  dsimp only at q
  cases e2 : asgT (.tp ts) p.1 S1 with
  | none => rw [e2] at q; exact q.elim
  | some S2 =>
    rw [e2] at q
    exact ⟨B, M2, S1, p.1, S2, R2, dp, e2, fun σ' R' _ kk => q σ' M2 H1 R' st2 (.tgt hpr kk)⟩
/-- the object of slot i is written -/
theorem Rep.write {K : PySem.W.Frag} (R : Rep K ca B M H σ S) {i : Nat} {d d' : D} {p : Addr} {o : HO} (h : S.at i = .ow d) (hp : σ[i]? = some (some (.ref p))) (hw : B.Wr p) (hm : M p) (c : Cont K ca M (upd H p o) p d') : Rep K ca B M (upd H p o) σ (S.set i (.ow d')) ∧ Stp M H M (upd H p o) := by
  have st : Stp M H M (upd H p o) := Stp.write hm
  have hlt := at_lt (S := S) (i := i) (by rw [h]; exact fun z => nomatch z)
  have other : ∀ j a, j ≠ i → (S.at j).own = true → σ[j]? = some (some (.ref a)) → ∀ u, H a = some u → upd H p o a = some u := fun j a ji oj ej u hu => by
    rw [upd_ne (fun z => R.dist j i a ji oj (by rw [h]; rfl) ej (by rw [hp, z]))]; exact hu
  refine ⟨{ len := by rw [List.length_set]; exact R.len, slot := fun j => ?_, dist := fun j l a hjl oj ol ej el => ?_, pres := fun a u ha n => ?_, keep := fun a ha => ?_, mt := fun a ha e => ?_, mc := R.mc }, st⟩
  · by_cases ji : j = i
    · subst ji
      rw [at_set_self hlt]
      exact ⟨p, hp, hm, hw, c⟩
    · rw [at_set_ne ji]
      have q := R.slot j
      cases e : S.at j with
      | no => trivial
      | fz d => rw [e] at q; obtain ⟨w, x, cc⟩ := q; exact ⟨w, x, cc.step st⟩
      | ow d => rw [e] at q; obtain ⟨a, x, m, w, cc⟩ := q; exact ⟨a, x, m, w, cc.keepAt (other j a ji (by rw [e]; rfl) x) st⟩
      | hd d => rw [e] at q; obtain ⟨a, x, m, w, cc⟩ := q; exact ⟨a, x, m, w, cc.keepAt (other j a ji (by rw [e]; rfl) x) st⟩
      | ex C fs =>
        rw [e] at q
        obtain ⟨a, dd, gs, x, q1, h1, n, cc⟩ := q
        exact ⟨a, dd, gs, x, q1, st.pres _ _ h1 n, n, cc.step st⟩
  · have ow : ∀ j, (Fr.at (S.set i (.ow d')) j).own = true → (S.at j).own = true := fun j oj => by
      rw [at_set] at oj
      split at oj
      · rename_i z; rw [z.1, h]; rfl
      · exact oj
    exact R.dist j l a hjl (ow j oj) (ow l ol) ej el
  · rw [upd_ne (fun z => n (by rw [z]; exact hw))]; exact R.pres a u ha n
  · by_cases e : a = p
    · rw [e, upd_same] at ha; cases ha
    · rw [upd_ne e] at ha; exact R.keep a ha
  · by_cases e2 : a = p
    · rw [e2, upd_same] at e; cases e
    · rw [upd_ne e2] at e; exact R.mt a ha e
theorem pe_name (C : CtxOk X ca Ex G T k N sc calm W) {i : Nat} {x : Str} {pos : Pos} (h : nmB N sc i x = true) : PE X (.Name x pos) (tVar i) := by
  simp only [nmB, nrm, visB, Bool.and_eq_true, Bool.or_eq_true, decide_eq_true_eq, Bool.not_eq_true'] at h
  exact pe_var (by rw [C.hN]; exact h.1.1) (by unfold Vis; rw [C.hsc]; exact (or_assoc.mp h.1.2)) h.2.1.1.1 h.2.1.1.2
theorem own_run {K : PySem.W.Frag} {i : Nat} {m : Ev.M Flw} {D : Ends} (h : RunS K ca W Pr (bnd (ownS i) fun _ => m) B M S σ H D) (R : Rep K ca B M H σ S) : ∃ pp : Addr, σ[i]? = some (some (.ref pp)) ∧ RunS K ca W Pr m B M S σ H D := by
  obtain ⟨b, _, q⟩ := h
  have qs := R.slot i
  cases e : S.at i with
  | ow d =>
    cases d with
    | lst ds =>
      have e2 : ownS i S = some (.ok (), S) := by unfold ownS; rw [e]
      rw [bnd_ok e2] at q
      rw [e] at qs
      obtain ⟨pp, ep, _⟩ := qs
      exact ⟨pp, ep, b, R, q⟩
    | _ =>
      have e2 : ownS i S = none := by unfold ownS; rw [e]
      rw [bnd_none e2] at q; exact q.elim
  | _ =>
    have e2 : ownS i S = none := by unfold ownS; rw [e]
    rw [bnd_none e2] at q; exact q.elim
theorem own_lst {K : PySem.W.Frag} {i : Nat} {m : Ev.M Flw} {D : Ends} {pp : Addr} (h : RunS K ca W Pr (bnd (ownS i) fun _ => m) B M S σ H D) (R : Rep K ca B M H σ S) (ep : σ[i]? = some (some (.ref pp))) : ∃ xs, H pp = some (.lst xs) := by
  obtain ⟨b, _, q⟩ := h
  have qs := R.slot i
  cases e : S.at i with
  | ow d =>
    cases d with
    | lst ds =>
      rw [e] at qs
      obtain ⟨pp', ep', _, _, c⟩ := qs
      rw [ep] at ep'; cases ep'
      cases c with
      | lst hH _ => exact ⟨_, hH⟩
    | _ =>
      have e2 : ownS i S = none := by unfold ownS; rw [e]
      rw [bnd_none e2] at q; exact q.elim
  | _ =>
    have e2 : ownS i S = none := by unfold ownS; rw [e]
    rw [bnd_none e2] at q; exact q.elim
theorem dpf_len {K : PySem.W.Frag} : ∀ {gs : List (Str × V)} {fs : List (Str × D)}, Dpf K ca M H gs fs → gs.length = fs.length
  | _, _, .nil => rfl
  | _, _, .cons _ t => by simp [dpf_len t]
theorem dpf_put {K : PySem.W.Frag} {f : Str} {v : V} {d : D} : ∀ {gs : List (Str × V)} {fs : List (Str × D)}, Dpf K ca M H gs fs → Dp K ca M H v d → Dpf K ca M H (putF f v gs) (putD f d fs)
  | _, _, .nil, h => .cons h .nil
  | _, _, .cons (f := g) a t, h => by
    unfold putF putD
    by_cases e : g = f
    · rw [if_pos e, if_pos e]; exact .cons h t
    · rw [if_neg e, if_neg e]; exact .cons a (dpf_put t h)
theorem ss_seti (C : CtxOk X ca Ex G T k N sc calm W) {e ix : Expr} {c kc : CE} {i : Nat} {x : Str} {p p2 pos : Pos} (hx : nmB N sc i x = true) (h : SE X ca Ex G W e c) (hk : SE X ca Ex G W ix kc) (hl : noLc e = true) (hsl : plainSlice ix = true) : SS X ca Ex G W Pr (.Assign [.Subscript (.Name x p) ix p2] e pos) (.seti i kc c) := by
  have ha : ∀ v, assign (.Subscript (.Name x p) ix p2) X.env v = (do
      let ov ← holding [v] (eval (.Name x p) X.env)
      let iv ← holding [v, ov] (eval ix X.env)
      standAt p2
      holding [v, ov, iv] (setItem ov iv v)
      release [v, ov, iv] []) := by intro v; cases ix <;> first | rfl | cases hsl
  refine ⟨(ps_asg (pos := pos) h.v (pg_sub (pe_name C hx) hk.v set_list ha) (sw_no hl (some (.Subscript (.Name x p) ix p2)) pos.line X.env) (by cases e <;> rfl) rfl).imp fun D σ H ⟨B, M, S, he, h⟩ => ⟨B, M, S, he, ?_⟩⟩
  have h' : RunS X.K ca W Pr (bnd (evE G c) fun p => bnd (ownS i) fun _ => bnd (evE G kc) fun q => bnd (asInt q) fun j => setiS i p.1 j) B M S σ H D := h
  refine h'.bind fun p S1 v M1 H1 R1 st1 o1 h1 => ?_
  obtain ⟨M2, R2, st2, dp⟩ := o1.val h1.1 R1
  have h1 := h1.shift R2 st2
  obtain ⟨pp, ep, h2⟩ := own_run h1 R2
  refine ⟨_, ep, B, M2, S1, he, h2.bind fun q S2 y M3 H3 R3 st3 o3 h3 => ?_⟩
  obtain ⟨qd, qf⟩ := q
  cases qd with
  | int kk =>
    have h4 : RunS X.K ca W Pr (setiS i p.1 kk) B M3 S2 σ H3 D := h3
    obtain ⟨_, _, q⟩ := h4
    unfold setiS at q
    have qs := R3.slot i
    cases e : S2.at i with
    | ow dd =>
      rw [e] at q qs
      obtain ⟨pp', ep', hm, hw, cc⟩ := qs
      rw [ep] at ep'; cases ep'
      cases cc with
      | lst hH cxs =>
        dsimp only at q
        rename_i xs ds
        cases e2 : ixN ds.length kk with
        | none => rw [e2] at q; exact q.elim
        | some j =>
          rw [e2] at q
          obtain ⟨R5, st5⟩ := R3.write (o := .lst (xs.set j v)) e ep hw hm (.lst upd_same ((cxs.set j (dp.step st3)).step (Stp.write hm)))
          exact ⟨pp, xs, kk, j, rfl, o3.int rfl, hH, by rw [cxs.length]; exact e2, q σ M3 _ R5 st5 .refl⟩
      | ins _ _ => exact q.elim
    | _ => rw [e] at q; exact q.elim
  | _ => exact absurd h3.2.2 (fun z => z)
theorem ss_app (C : CtxOk X ca Ex G T k N sc calm W) {y : Expr} {c : CE} {i : Nat} {x : Str} {p ap cp pos : Pos} (hx : nmB N sc i x = true) (h : SE X ca Ex G W y c) (hs : noStar y = true) (hl : (ap.endLine == cp.line) = true) : SS X ca Ex G W Pr (.Expr (.Call (.Attribute (.Name x p) "append" ap) [y] [] cp) pos) (.app i c) := by
  refine ⟨(ps_expr (pe_bm PySem.F.plainAttrs_list PySem.F.slot_list_append PySem.F.type_list_append mt_append (pe_name C hx) (pa_cons h.v pa_nil (star_cons hs [] X.env)) rfl (by rw [star_cons hs [] X.env]; rfl) hl (star_cons hs [] X.env) rfl) rfl).imp fun D σ H ⟨B, M, S, he, h⟩ => ?_⟩
  have h' : RunS X.K ca W Pr (bnd (ownS i) fun _ => bnd (evE G c) fun p => appS i p.1) B M S σ H D := h
  obtain ⟨pp, ep, h2⟩ := own_run h' h.2.1
  have hH0 := own_lst h' h.2.1 ep
  obtain ⟨xs0, hH0⟩ := hH0
  refine ⟨_, ep, .inl ⟨rfl, _, .of hH0⟩, B, M, S, he, h2.bind fun q S1 v M1 H1 R1 st1 o1 h1 => ?_⟩
  obtain ⟨M2, R2, st2, dp⟩ := o1.val h1.1 R1
  obtain ⟨_, _, q⟩ := h1.shift R2 st2
  unfold appS at q
  have qs := R2.slot i
  cases e : S1.at i with
  | ow dd =>
    rw [e] at q qs
    obtain ⟨pp', ep', hm, hw, cc⟩ := qs
    rw [ep] at ep'; cases ep'
    cases cc with
    | lst hH cxs =>
      dsimp only at q
      rename_i xs ds
      by_cases hz : ds.length < most
      · rw [if_pos hz] at q
        obtain ⟨R5, st5⟩ := R2.write (o := .lst (xs ++ [v])) e ep hw hm (.lst upd_same ((cxs.append (.cons dp .nil)).step (Stp.write hm)))
        exact ⟨pp, xs, v, rfl, rfl, hH, by rw [cxs.length, ← most_line]; exact hz, q σ M2 _ R5 st5 .refl⟩
      · rw [if_neg hz] at q; exact q.elim
    | ins _ _ => exact q.elim
  | _ => rw [e] at q; exact q.elim
theorem ss_setf (C : CtxOk X ca Ex G T k N sc calm W) {e : Expr} {c : CE} {i : Nat} {x f : Str} {p p2 pos : Pos} (hx : nmB N sc i x = true) (h : SE X ca Ex G W e c) (hl : noLc e = true) : SS X ca Ex G W Pr (.Assign [.Attribute (.Name x p) f p2] e pos) (.setf i f c) := by
  refine ⟨(ps_fld (pe_name C hx) h.v (sw_no hl _ _ _)).imp fun D σ H ⟨B, M, S, he, h⟩ => ⟨B, M, S, he, ?_⟩⟩
  have h' : RunS X.K ca W Pr (bnd (evE G c) fun p => setfS G.toSg i f p.1) B M S σ H D := h
  refine h'.bind fun p S1 v M1 H1 R1 st1 o1 h1 => ?_
  obtain ⟨M2, R2, st2, dp⟩ := o1.val h1.1 R1
  obtain ⟨_, _, q⟩ := h1.shift R2 st2
  unfold setfS at q
  have qs := R2.slot i
  cases e : S1.at i with
  | ow dd =>
    rw [e] at q qs
    obtain ⟨pp, ep, hm, hw, cc⟩ := qs
    cases cc with
    | ins hH cfs =>
      dsimp only at q
      rename_i dx cid gs fs
      by_cases hz : fs.length < 1000 ∧ cid ∈ G.ids ∧ f ∈ G.flds cid
      · rw [if_pos hz] at q
        obtain ⟨R5, st5⟩ := R2.write (o := .ins (ca cid) dx (putF f v gs)) e ep hw hm (.ins upd_same ((dpf_put cfs dp).step (Stp.write hm)))
        exact ⟨_, ep, pp, _, dx, gs, rfl, hH, C.g.ok _ hz.2.1, C.g.fld _ hz.2.1 _ hz.2.2, by rw [dpf_len cfs]; exact hz.1, q σ M2 _ R5 st5 .refl⟩
      · rw [if_neg hz] at q; exact q.elim
    | lst _ _ => exact q.elim
  | _ => rw [e] at q; exact q.elim
end
end Ev
end

section
set_option maxRecDepth 100000
set_option maxHeartbeats 4000000
namespace Ev
open PySem PySem.Spec PyProof.Rows L2
section
variable {ca : Nat → Addr} {B B' : Bs} {M M' : Mset} {H H' : Hp} {σ : L2.St} {S S' : Fr} {W : WX} {Ex : Addr → Nat → Addr → Prop} {X : Cx} {G : Gam} {T : Tb} {k : Nat} {N : List Str} {sc : Scope} {calm : Bool} {Pr : List Nat}
theorem ResOk.back {K : PySem.W.Frag} {h : Option Nat} {r : D × Bool} {v : V} (g : Grd K ca B B' h) (o : ResOk K ca B' σ S M H r v) : ResOk K ca B σ (unhide h S) M H r v := by
  unfold ResOk at o ⊢
  split at o
  · rename_i hf
    rw [if_pos hf]
    obtain ⟨p, e, hm, hw, c, hn⟩ := o
    exact ⟨p, e, hm, g.wr p hw, c, fun i hi => hn i (comp_imp.unh_own hi)⟩
  · rename_i hf
    rw [if_neg hf]
    exact o
/-- the turns of a for -/
theorem for_turns {K : PySem.W.Frag} {J : It} {t : CT} {body : Ev.M Flw} {ds : List D} {h : Option Nat} {D : Ends} {r : Except Err Flw} {Sf : Fr} {M0 : Mset} {H0 : Hp} {σ0 : L2.St} (hpr : ∀ i ∈ ctIx t, i ∉ Pr) (kp0 : KeepP Pr σ0 σ) (gr : Grd K ca B B' h) (he : B'.Ex = Ex) (R : Rep K ca B' M H σ S) (st0 : Stp M0 H0 M H) (wk : Wk K ca B' J ds M H)
    (hl : forLoop (asgT t) body ds S = some (r, Sf))
    (q : match r with
      | .ok f => ∀ σ' M' H', Rep K ca B M' H' σ' (unhide h Sf) → Stp M0 H0 M' H' → KeepP Pr σ0 σ' → fin K ca D B σ' (unhide h Sf) M' H' f
      | .error e => ∀ σ' M' H' cls dd, Rep K ca B M' H' σ' (unhide h Sf) → Stp M0 H0 M' H' → KeepP Pr σ0 σ' → ErrOk K ca M' H' e cls dd → W cls dd σ' H') :
    ∃ Wi : Nat → Nat → L2.St → Hp → Prop, (∃ m, Wi 0 m σ H) ∧ ∀ i m σ H, Wi i m σ H →
      (J.stop i H ∧ D.nx σ H) ∨ (J.go i H ∧ ∃ Nx : L2.St → Hp → Prop, (∀ σ' H', Nx σ' H' → ∃ m', m' < m ∧ Wi (i + 1) m' σ' H') ∧ ∀ x H', J.yld i H x H' → tgG K ca t x σ H' fun σ2 H2 => rdS K ca Ex W Pr body { D with nx := Nx, ct := Nx, bk := D.nx } σ2 H2) := by
  refine ⟨fun i m σ H => m = ds.length - i ∧ i ≤ ds.length ∧ ∃ M S, Rep K ca B' M H σ S ∧ Stp M0 H0 M H ∧ KeepP Pr σ0 σ ∧ Wk K ca B' J ds M H ∧ forLoop (asgT t) body (ds.drop i) S = some (r, Sf), ⟨ds.length, by simp, Nat.zero_le _, M, S, R, st0, kp0, wk, hl⟩, ?_⟩
  rintro i m σ H ⟨rfl, hi, M, S, R, st, kp, wk, hl⟩
  by_cases hlt : i < ds.length
  · refine .inr ⟨(wk.go hlt).1, fun σ' H' => ∃ M S, Rep K ca B' M H' σ' S ∧ Stp M0 H0 M H' ∧ KeepP Pr σ0 σ' ∧ Wk K ca B' J ds M H' ∧ forLoop (asgT t) body (ds.drop (i + 1)) S = some (r, Sf),
      fun σ' H' h => ⟨ds.length - (i + 1), by omega, rfl, hlt, h⟩, fun x H' yy => ?_⟩
    obtain ⟨rfl, d, hd, cd⟩ := (wk.go hlt).2 x H' yy
    have hdrop : ds.drop i = d :: ds.drop (i + 1) := by
      rw [List.drop_eq_getElem_cons hlt]
      rw [List.getElem?_eq_getElem hlt] at hd
      cases hd; rfl
    rw [hdrop] at hl
    simp only [forLoop] at hl
    cases e1 : asgT t d S with
    | none => rw [e1] at hl; cases hl
    | some S1 =>
      rw [e1] at hl
      dsimp only at hl
      refine ⟨B', M, S, d, S1, R, cd, e1, fun σ2 R2 _ kk => ⟨B', M, S1, he, gr.ok, R2, ?_⟩⟩
      have kp2 : KeepP Pr σ0 σ2 := kp.trans (.tgt hpr kk)
      cases e2 : body S1 with
      | none => rw [bnd_none e2] at hl; cases hl
      | some p =>
        obtain ⟨r2, S2⟩ := p
        cases r2 with
        | error er =>
          rw [bnd_err e2] at hl
          cases hl
          intro σ' M' H'' cls dd R' st' k' eo
          exact q σ' M' H'' cls dd (gr.back _ _ _ _ R') (st.trans st') (kp2.trans k') eo
        | ok f =>
          rw [bnd_ok e2] at hl
          cases f with
          | nx => exact fun σ' M' H'' R' st' k' => ⟨M', S2, R', st.trans st', kp2.trans k', wk.step st' R', hl⟩
          | ct => exact fun σ' M' H'' R' st' k' => ⟨M', S2, R', st.trans st', kp2.trans k', wk.step st' R', hl⟩
          | bk =>
            cases hl
            exact fun σ' M' H'' R' st' k' => q σ' M' H'' (gr.back _ _ _ _ R') (st.trans st') (kp2.trans k')
          | rt d' fl =>
            cases hl
            exact fun σ' M' H'' R' st' k' v ro => q σ' M' H'' (gr.back _ _ _ _ R') (st.trans st') (kp2.trans k') v (ro.back gr)
  · have ei : i = ds.length := by omega
    subst ei
    rw [List.drop_length] at hl
    cases hl
    exact .inl ⟨wk.stop (Nat.le_refl _), q σ M H (gr.back _ _ _ _ R) st kp⟩
theorem ss_for {fn : Str → Bool} (C : CtxOk X ca Ex G T k N sc true W) (hfn : ∀ x, fn x = true → X.fn x = true) (hp : PassesOwn (model X.prog X.w) X.A X.env X.xe) {tg iter : Expr} {body : List Stmt} {t : CT} {ik : IK} {it : List CE} {cb : List CS} {pos : Pos}
    (hI : PI X tg iter (wiG X.K ca Ex W (bnd (evOs G it) (itemsOf ik)))) (hset : ∀ x, foldedSetIterable iter X.env x = pure x) (ht : okT N sc fn t tg = true) (hpr : ∀ i ∈ ctIx t, i ∉ Pr) (hb : SSs X ca Ex G W Pr body cb) : SS X ca Ex G W Pr (.For tg iter body [] pos) (.for t ik it cb) := by
  refine ⟨(ps_for hp (C.hc rfl) hI (okT_pg (ca := ca) C.hN C.hsc C.nd (C.hc rfl) hfn t tg ht) hb.p hset).imp fun D σ H ⟨B, M, S, he, b, R, q⟩ => ⟨B, M, S, he, b, R, ?_⟩⟩
  have e1 : evS G (.for t ik it cb) = bnd (bnd (evOs G it) (itemsOf ik)) (forF t (evB G cb)) := by rw [bnd_assoc]; rfl
  rw [e1] at q
  cases e2 : bnd (evOs G it) (itemsOf ik) S with
  | none => rw [bnd_none e2] at q; exact q
  | some pr =>
    obtain ⟨r, S1⟩ := pr
    cases r with
    | error er => rw [bnd_err e2] at q; exact fun M' H' cls dd R' st' eo => q σ M' H' cls dd R' st' .refl eo
    | ok its =>
      rw [bnd_ok e2] at q
      intro J B' M1 H1 st1 gr R1 wk
      unfold forF at q
      cases e3 : forLoop (asgT t) (evB G cb) its.1 S1 with
      | none => rw [e3] at q; exact q.elim
      | some pr3 =>
        obtain ⟨r3, S3⟩ := pr3
        rw [e3] at q
        dsimp only at q
        exact for_turns hpr .refl gr (gr.ex.trans he) R1 st1 wk e3 (by cases r3 <;> exact q)
theorem ss_whl (hp : PassesOwn (model X.prog X.w) X.A X.env X.xe) {t : Expr} {body : List Stmt} {c : CE} {cb : List CS} {pos : Pos} (hc : SE X ca Ex G W t c) (hb : SSs X ca Ex G W Pr body cb) : SS X ca Ex G W Pr (.While t body [] pos) (.whl c cb) := by
  refine ⟨(ps_while hp hc.t hb.p).imp fun D σ0 H0 ⟨B, M0, S0, he, b, R0, q⟩ => ?_⟩
  have e1 : evS G (.whl c cb) S0 = whileLoop (bnd (evE G c) asBl) (evB G cb) G.fuel S0 := rfl
  rw [e1] at q
  cases e2 : whileLoop (bnd (evE G c) asBl) (evB G cb) G.fuel S0 with
  | none => rw [e2] at q; exact q.elim
  | some pr =>
    obtain ⟨r, Sf⟩ := pr
    rw [e2] at q
    refine ⟨fun n σ H => ∃ M S, Rep X.K ca B M H σ S ∧ Stp M0 H0 M H ∧ KeepP Pr σ0 σ ∧ whileLoop (bnd (evE G c) asBl) (evB G cb) n S = some (r, Sf), ⟨G.fuel, M0, S0, R0, .refl, .refl, e2⟩, ?_⟩
    rintro n σ H ⟨M, S, R, st, kp, hw⟩
    cases n with
    | zero => cases hw
    | succ n =>
      simp only [whileLoop] at hw
      refine ⟨B, M, S, he, b, R, ?_⟩
      cases e3 : bnd (evE G c) asBl S with
      | none => rw [bnd_none e3] at hw; cases hw
      | some p3 =>
        obtain ⟨r3, S3⟩ := p3
        cases r3 with
        | error er =>
          rw [bnd_err e3] at hw
          cases hw
          exact fun M' H' cls dd R' st' eo => q σ M' H' cls dd R' (st.trans st') kp eo
        | ok bb =>
          rw [bnd_ok e3] at hw
          intro b' M1 H1 R1 st1 eb
          cases eb
          cases bb with
          | false =>
            rw [if_neg Bool.false_ne_true] at hw ⊢
            cases hw
            exact q σ M1 H1 R1 (st.trans st1) kp
          | true =>
            rw [if_pos rfl] at hw ⊢
            refine ⟨fun σ' H' => ∃ M S, Rep X.K ca B M H' σ' S ∧ Stp M0 H0 M H' ∧ KeepP Pr σ0 σ' ∧ whileLoop (bnd (evE G c) asBl) (evB G cb) n S = some (r, Sf), fun σ' H' h => ⟨n, Nat.lt_succ_self _, h⟩, B, M1, S3, he, b, R1, ?_⟩
            cases e4 : evB G cb S3 with
            | none => rw [bnd_none e4] at hw; cases hw
            | some p4 =>
              obtain ⟨r4, S4⟩ := p4
              cases r4 with
              | error er =>
                rw [bnd_err e4] at hw
                cases hw
                exact fun σ' M' H' cls dd R' st' k' eo => q σ' M' H' cls dd R' ((st.trans st1).trans st') (kp.trans k') eo
              | ok f =>
                rw [bnd_ok e4] at hw
                cases f with
                | nx => exact fun σ' M' H' R' st' k' => ⟨M', S4, R', (st.trans st1).trans st', kp.trans k', hw⟩
                | ct => exact fun σ' M' H' R' st' k' => ⟨M', S4, R', (st.trans st1).trans st', kp.trans k', hw⟩
                | bk => cases hw; exact fun σ' M' H' R' st' k' => q σ' M' H' R' ((st.trans st1).trans st') (kp.trans k')
                | rt d' fl => cases hw; exact fun σ' M' H' R' st' k' v ro => q σ' M' H' R' ((st.trans st1).trans st') (kp.trans k') v ro
end
end Ev
end

section
set_option maxRecDepth 100000
set_option maxHeartbeats 4000000
namespace Ev
open PySem PySem.Spec PyProof.Rows L2
def parsB (sc : Scope) (xs : List (Str × Pos)) (vs : List Expr) : Bool := decide (sc.kind = .function) && xs.all (fun p => decide (sc.names.lookup p.1 = some .local) && p.2.line == (xs.headD (Str.empty, ⟨0, 0, 0, 0⟩)).2.line) &&
  decide ((xs.map (·.1)).eraseDups.length = xs.length) && vs.all noStar && !(vs.all (foldedForSure 8)) && !(vs.all (constantsAlone 8))
theorem noSt : ∀ e : Expr, noStar e = true → (match e with | .Starred .. => true | _ => false) = false := fun e h => by cases e <;> first | rfl | (simp [noStar] at h)
theorem par2_sw {env : Env} {sc : Scope} {x y : Str} {px py pt : Pos} {kt k2 : Nat} {a b : Expr} {pt2 : Pos} (hs : env.scope = sc) (h : parsB sc [(x, px), (y, py)] [a, b] = true) : swappedStores [.Tuple [.Name x px, .Name y py] kt pt] (.Tuple [a, b] k2 pt2) env = pure (some [x, y]) ∧ env.scope.names.lookup x = some .local ∧ env.scope.names.lookup y = some .local := by
  subst hs
  unfold parsB at h
  simp only [Bool.and_eq_true, decide_eq_true_eq, List.all_cons, List.all_nil, Bool.and_true, Bool.not_eq_true', List.headD_cons, beq_iff_eq, List.map_cons, List.map_nil] at h
  obtain ⟨⟨⟨⟨⟨h1, ⟨h2, _⟩, h3, h4⟩, h5⟩, h6, h7⟩, h8⟩, h9⟩ := h
  have hk : env.blockKind = .function := by unfold Env.blockKind; rw [h1]; rfl
  have hx : (env.kindOf x == some .local) = true := by unfold Env.kindOf; rw [h2]; rfl
  have hy : (env.kindOf y == some .local) = true := by unfold Env.kindOf; rw [h3]; rfl
  have ha : ([a, b].any fun e => match e with | .Starred .. => true | _ => false) = false := Bool.or_eq_false_iff.2 ⟨noSt a h6, Bool.or_eq_false_iff.2 ⟨noSt b h7, rfl⟩⟩
  have e8 : ([a, b].all (foldedForSure 8)) = false := by simpa using h8
  have e9 : ([a, b].all (constantsAlone 8)) = false := by simpa using h9
  refine ⟨?_, h2, h3⟩
  unfold swappedStores
  simp only [List.length_cons, List.length_nil, hk, List.filterMap_cons, List.filterMap_nil, List.head?_cons, Option.map_some, Option.getD_some, Expr.pos, hx, hy, Bool.true_and, h4, beq_self_eq_true, if_true]
  rw [if_neg (by decide)]
  refine (if_neg fun z => Bool.noConfusion (ha.symm.trans z)).trans ?_
  simp only [h5]
  rw [if_neg (by simp), e8, e9]
  rfl
theorem par3_sw {env : Env} {sc : Scope} {x y z : Str} {px py pz pt : Pos} {kt k2 : Nat} {a b c : Expr} {pt2 : Pos} (hs : env.scope = sc) (h : parsB sc [(x, px), (y, py), (z, pz)] [a, b, c] = true) : swappedStores [.Tuple [.Name x px, .Name y py, .Name z pz] kt pt] (.Tuple [a, b, c] k2 pt2) env = pure (some [x, y, z]) ∧ env.scope.names.lookup x = some .local ∧ env.scope.names.lookup y = some .local ∧ env.scope.names.lookup z = some .local := by
  subst hs
  unfold parsB at h
  simp only [Bool.and_eq_true, decide_eq_true_eq, List.all_cons, List.all_nil, Bool.and_true, Bool.not_eq_true', List.headD_cons, beq_iff_eq, List.map_cons, List.map_nil] at h
  obtain ⟨⟨⟨⟨⟨h1, ⟨h2, _⟩, ⟨h3, h4⟩, h3', h4'⟩, h5⟩, h6, h7, h7'⟩, h8⟩, h9⟩ := h
  have hk : env.blockKind = .function := by unfold Env.blockKind; rw [h1]; rfl
  have hx : (env.kindOf x == some .local) = true := by unfold Env.kindOf; rw [h2]; rfl
  have hy : (env.kindOf y == some .local) = true := by unfold Env.kindOf; rw [h3]; rfl
  have hz : (env.kindOf z == some .local) = true := by unfold Env.kindOf; rw [h3']; rfl
  have ha : ([a, b, c].any fun e => match e with | .Starred .. => true | _ => false) = false := Bool.or_eq_false_iff.2 ⟨noSt a h6, Bool.or_eq_false_iff.2 ⟨noSt b h7, Bool.or_eq_false_iff.2 ⟨noSt c h7', rfl⟩⟩⟩
  have e8 : ([a, b, c].all (foldedForSure 8)) = false := by simpa using h8
  have e9 : ([a, b, c].all (constantsAlone 8)) = false := by simpa using h9
  refine ⟨?_, h2, h3, h3'⟩
  unfold swappedStores
  simp only [List.length_cons, List.length_nil, hk, List.filterMap_cons, List.filterMap_nil, List.head?_cons, Option.map_some, Option.getD_some, Expr.pos, hx, hy, hz, Bool.true_and, h4, h4', beq_self_eq_true, if_true]
  rw [if_neg (by decide)]
  refine (if_neg fun z => Bool.noConfusion (ha.symm.trans z)).trans ?_
  simp only [h5]
  rw [if_neg (by simp), e8, e9]
  rfl
section
variable {X : Cx} {ca : Nat → Addr} {Ex : Addr → Nat → Addr → Prop} {G : Gam} {W : WX} {Pr : List Nat} {T : Tb} {k : Nat} {N : List Str} {sc : Scope}
def setVs : List Nat → List V → L2.St → L2.St
  | i :: is, v :: vs, σ => setVs is vs (σ.set i (some v))
  | _, _, σ => σ
/-- values stored one after another -/
theorem parS_len : ∀ {is : List Nat} {ds : List Ev.D} {S : Fr} {r : Except Err Flw × Fr}, parS is ds S = some r → ds.length = is.length
  | [], [], _, _, _ => rfl
  | i :: is, d :: ds, S, r, h => by
    unfold parS at h
    by_cases hl : i < S.length
    · rw [if_pos hl] at h
      rw [List.length_cons, List.length_cons, parS_len h]
    · rw [if_neg hl] at h; cases h
  | [], _ :: _, _, _, h => by cases h
  | _ :: _, [], _, _, h => by cases h
theorem parS_end {K : PySem.W.Frag} {B : Bs} {E : Ends} : ∀ {is : List Nat} {ds : List Ev.D} {vs : List V} {M : Mset} {H : Hp} {S : Fr} {σ : L2.St}, (∀ i ∈ is, i ∉ Pr) → Dps K ca M H vs ds → RunS K ca W Pr (parS is ds) B M S σ H E → E.nx (setVs is vs σ) H
  | [], [], _, M, H, S, σ, _, .nil, h => by
    obtain ⟨b, R, q⟩ := h
    exact q σ M H R .refl .refl
  | i :: is, d :: ds, _, M, H, S, σ, hp, .cons (v := v) (vs := vs) hd ht, h => by
    obtain ⟨b, R, q⟩ := h
    unfold parS at q
    by_cases hl : i < S.length
    · rw [if_pos hl] at q
      have R1 : Rep K ca B M H (σ.set i (some v)) (S.set i (.fz d)) := R.store ⟨v, rfl, hd⟩ hl fun z => nomatch z
      have hi : i ∉ Pr := hp i List.mem_cons_self
      have h1 : RunS K ca W Pr (parS is ds) B M (S.set i (.fz d)) (σ.set i (some v)) H E := by
        refine ⟨b, R1, ?_⟩
        cases e : parS is ds (S.set i (.fz d)) with
        | none => rw [e] at q; exact q
        | some p =>
          obtain ⟨r, S'⟩ := p
          rw [e] at q
          cases r with
          | ok f => exact fun σ' M' H' R' st kk => q σ' M' H' R' st (.trans (.set hi) kk)
          | error er => exact fun σ' M' H' cls dd R' st kk => q σ' M' H' cls dd R' st (.trans (.set hi) kk)
      exact parS_end (is := is) (ds := ds) (fun j hj => hp j (List.mem_cons_of_mem _ hj)) ht h1
    · rw [if_neg hl] at q; exact q.elim
  | [], _ :: _, _, _, _, S, σ, _, _, h => h.2.2.elim
  | _ :: _, [], _, _, _, S, σ, _, _, h => h.2.2.elim
theorem parS_run {K : PySem.W.Frag} {B : Bs} {E : Ends} {is : List Nat} {ds : List Ev.D} {M : Mset} {H : Hp} {S : Fr} {σ : L2.St} (h : RunS K ca W Pr (parS is ds) B M S σ H E) : ds.length = is.length := by
  obtain ⟨_, _, q⟩ := h
  cases e : parS is ds S with
  | none => rw [e] at q; exact q.elim
  | some r => exact parS_len e
theorem ss_par2 (C : CtxOk X ca Ex G T k N sc true W) {i j : Nat} {x y : Str} {px py pt : Pos} {kt k2 : Nat} {a b : Expr} {pt2 pos : Pos} {es : List CE} (hpr : ∀ l ∈ [i, j], l ∉ Pr) (hi : N[i]? = some x) (hj : N[j]? = some y) (hij : i ≠ j) (hb : parsB sc [(x, px), (y, py)] [a, b] = true) (h : SEs X ca Ex G W [a, b] es) :
    SS X ca Ex G W Pr (.Assign [.Tuple [.Name x px, .Name y py] kt pt] (.Tuple [a, b] k2 pt2) pos) (.par [i, j] es) := by
  obtain ⟨hw, hx, hy⟩ := par2_sw (kt := kt) (k2 := k2) (pt := pt) (pt2 := pt2) C.hsc hb
  refine ⟨(ps_par (C.hc rfl) (by rw [C.hN]; exact C.nd) (by rw [C.hN]; exact hi) (by rw [C.hN]; exact hj) hij hx hy h.vals hw).imp fun D σ H ⟨B, M, S, he, h⟩ => ⟨B, M, S, he, ?_⟩⟩
  have h' : RunS X.K ca W Pr (bnd (evVs G es) fun ds => parS [i, j] ds) B M S σ H D := h
  refine h'.bind fun ds S1 vs M1 H1 R1 st1 o1 h1 => ?_
  have o2 : Dps X.K ca M1 H1 vs ds := o1
  have e := parS_end (ca := ca) hpr o2 h1
  have hl : vs.length = 2 := by rw [o2.length]; exact parS_run h1
  match vs, hl with
  | [u, v], _ => exact ⟨u, v, rfl, e⟩
theorem ss_par3 (C : CtxOk X ca Ex G T k N sc true W) {i j l : Nat} {x y z : Str} {px py pz pt : Pos} {kt k2 : Nat} {a b c : Expr} {pt2 pos : Pos} {es : List CE} (hpr : ∀ m ∈ [i, j, l], m ∉ Pr) (hi : N[i]? = some x) (hj : N[j]? = some y) (hl : N[l]? = some z) (hij : i ≠ j) (hil : i ≠ l) (hjl : j ≠ l) (hb : parsB sc [(x, px), (y, py), (z, pz)] [a, b, c] = true) (h : SEs X ca Ex G W [a, b, c] es) :
    SS X ca Ex G W Pr (.Assign [.Tuple [.Name x px, .Name y py, .Name z pz] kt pt] (.Tuple [a, b, c] k2 pt2) pos) (.par [i, j, l] es) := by
  obtain ⟨hw, hx, hy, hz⟩ := par3_sw (kt := kt) (k2 := k2) (pt := pt) (pt2 := pt2) C.hsc hb
  refine ⟨(ps_par3 (C.hc rfl) (by rw [C.hN]; exact C.nd) (by rw [C.hN]; exact hi) (by rw [C.hN]; exact hj) (by rw [C.hN]; exact hl) hij hil hjl hx hy hz h.vals hw).imp fun D σ H ⟨B, M, S, he, h⟩ => ⟨B, M, S, he, ?_⟩⟩
  have h' : RunS X.K ca W Pr (bnd (evVs G es) fun ds => parS [i, j, l] ds) B M S σ H D := h
  refine h'.bind fun ds S1 vs M1 H1 R1 st1 o1 h1 => ?_
  have o2 : Dps X.K ca M1 H1 vs ds := o1
  have e := parS_end (ca := ca) hpr o2 h1
  have hl : vs.length = 3 := by rw [o2.length]; exact parS_run h1
  match vs, hl with
  | [u, v, w], _ => exact ⟨u, v, w, rfl, e⟩
end
end Ev
end

section
set_option maxRecDepth 100000
set_option maxHeartbeats 4000000
namespace Ev
open PySem PySem.Spec PyProof.Rows L2
/-- a clause: the class that it takes, the slot of its name, what its suite does -/
structure Clause where
  c : Value
  i : Nat
  ts : Addr → Value → Option Addr → TS
/-- behind a suite its name is unset -/
def offE (i : Nat) (D : Ends) : Ends := { nx := fun σ H => D.nx (σ.set i none) H, rt := D.rt, bk := fun σ H => D.bk (σ.set i none) H, ct := fun σ H => D.ct (σ.set i none) H }
/-- an error of the body goes to the first clause that takes it -/
def wNamed (K : PySem.W.Frag) (Wout : WX) (D : Ends) : List Clause → WX
  | [] => Wout
  | k :: r => fun cls d σ H => ∃ b, PySem.W.exmOne K cls k.c = some b ∧ (b = true → ∀ a, H a = none → k.ts a cls d (offE k.i D) (σ.set k.i (some (.ref a))) H) ∧ (b = false → wNamed K Wout D r cls d σ H)
inductive Clauses (X : Cx) : List ExceptHandler → List Clause → Prop
  | nil : Clauses X [] []
  | cons {x n : Str} {k : Clause} {st : Stmt} {sts : List Stmt} {np hp : Pos} {hs : List ExceptHandler} {l : List Clause} : X.N[k.i]? = some n → X.env.kindOf n = some .local → Names X x k.c →
      (∀ (a : Addr) (oe : Obj) (cls : Value) (d : Option Addr) (pn : List (Addr × Obj)), Zc cls d oe → (∃ vs, oe.data = .fields vs) → PSs (X.suite a ((a, oe) :: pn)) (st :: sts) (k.ts a cls d)) →
      Clauses X hs l → Clauses X (.ExceptHandler (some (.Name x np)) (some n) (st :: sts) hp :: hs) (k :: l)
section
variable {X : Cx} {Wout : WX} {pins : List (Addr × Obj)} {σ : L2.St} {H : Hp} {a : Addr} {B : Heap} {sI s' : Shared} {cls : Value} {d : Option Addr} {D : Ends}
/-- the caught object is no frame -/
theorem caught_out (hf : X.env.frame = some X.env.locals) (fl : HandSPX.FlyingZ B (X.env :: X.outer) a (Zc cls d) s'.heap) : a ≠ X.env.locals ∧ a ∉ X.fs := by
  obtain ⟨oe, vs, he, _, hd⟩ := fl.there
  have no : a ∉ frs (X.env :: X.outer) := fun z => by
    obtain ⟨_, o, eo, h⟩ := fl.2.2.1.mem z
    cases he.symm.trans eo
    exact h _ hd
  refine ⟨fun z => no (List.mem_filterMap.mpr ⟨X.env, List.mem_cons_self, by rw [hf, z]⟩), fun z => ?_⟩
  obtain ⟨e, me, q⟩ := List.mem_filterMap.mp z
  exact no (List.mem_filterMap.mpr ⟨e, List.mem_cons_of_mem _ me, q⟩)
theorem named_go (hs : X.stack = X.env :: X.outer) (hf : X.env.frame = some X.env.locals) (hN : X.N.Nodup) (tk : Takes X Wout) (J : Inv X pins σ H sI) (nb : ∀ b o, sI.heap.get? b = some o → b ∉ frs X.stack → B.get? b = some o)
    (up : sI.heap.UpToSlots s'.heap) (na : H a = none) (os : s'.os = sI.os) (ag : AllBare s'.gens) (fl : HandSPX.FlyingZ B (X.env :: X.outer) a (Zc cls d) s'.heap) :
    ∀ {hds : List ExceptHandler} {l : List Clause}, Clauses X hds l → wNamed X.K Wout D l cls d σ H → wpAny (model X.prog X.w) X.A (handleBy (.ref a) X.env hds) (SP X pins D) X.xe s' := by
  have J3 : Inv X pins σ H s' := J.landed nb fl.1 up os ag
  obtain ⟨nL, nF⟩ := caught_out hf fl
  intro hds l hk
  induction hk with
  | nil =>
    intro w
    refine wpAny_handleBy_nil ?_
    obtain ⟨_, _, _, oe, vs, T, oT, ts, he, hz, hd, h1, hr⟩ := id fl
    unfold PySem.passOn
    have out : wpAny (model X.prog X.w) X.A (setFlight (.ref a) X.env.frame) (fun _ s4 => wpAny (model X.prog X.w) X.A (throw (.ref a) : Sem Flow) (SP X pins D) X.xe s4) X.xe s' := by
      rw [hf]
      exact HandSPX.setFlight_upZ fl fun h4 held up4 => wpAny_throw (tk _ _ ⟨a, B, sI, pins, σ, H, cls, d, rfl, J, nb, up.trans up4, .inr (.inr (by rw [hs]; exact held)), na, os, ag, w⟩)
    refine wpAny_bind (wpAny_field he hd h1 ?_)
    rw [if_neg (show ¬ ((Value.ref T == Value.none) = true) by simp)]
    first
      | exact wpAny_bind out
      | exact wpAny_bind (wpAny_pure (wpAny_bind out))
  | @cons x n k st sts np hp hs' l' hi hln hc hsu hrest ih =>
    intro w
    obtain ⟨b, hb, yes, no⟩ := w
    obtain ⟨oe, vs, he, hz, hd⟩ := fl.there
    have S3 := J3.suite he hd na nL nF
    refine wpAny_handleBy_cons (codeAny_handlers_test ?_) fun z => by cases z
    have asks : wpAny (model X.prog X.w) (X.A.mark (some (.ref a))) (eval (.Name x np) X.env) (fun v s => v = k.c ∧ s = s') (fun _ _ => False) s' := by
      obtain ⟨hg, hdb, hm | ⟨hm, hv, hnn⟩⟩ := hc
      · exact ld_glob (X := X.suite a ((a, oe) :: (X.pn ++ pins))) S3 hg hm ⟨rfl, rfl⟩ hdb
      · exact ld_blt (X := X.suite a ((a, oe) :: (X.pn ++ pins))) S3 hg hm hv ⟨rfl, rfl⟩ hnn hdb
    refine wpAny_mono asks (fun v s e => ?_) fun _ _ z => z.elim
    obtain ⟨rfl, rfl⟩ := e
    have typ : PySem.W.Looks (model X.prog X.w) s.heap (typeOf (.ref a)) cls := fun A Q E s k q => wpAny_typeOf_ref (k _ _ he) (by rw [hz.1]; exact q)
    refine (PySem.W.exm_one (M := model X.prog X.w) J3.kIn typ hb).here ?_
    cases b with
    | false => exact ih (no rfl)
    | true =>
      refine codeAny_handlers_suite_as (HandSPX.lands_againZ fl fun h4 fl4 up4 => ?_)
      obtain ⟨oe4, vs4, he4, hz4, hd4⟩ := fl4.there
      have J4 : Inv X pins σ H { s with heap := h4 } := J.landed nb fl4.1 (up.trans up4) os ag
      have S4 := J4.suite he4 hd4 na nL nF
      refine store_ok (X := X.suite a ((a, oe4) :: (X.pn ++ pins))) (v := .ref a) S4 hN hi (.inl hln) rfl (fun s5 S5 => ?_) (.inr hln)
      refine wpAny_mono ((hsu a oe4 cls d (X.pn ++ pins) hz4 ⟨_, hd4⟩).run [] s5 _ H _ S5 (yes rfl a na)) (fun f s6 q6 => ?_) fun _ _ z => z.elim
      have off : ∀ {σ6 : L2.St} {H6 : Hp} {Q : Shared → Prop}, Inv (X.suite a ((a, oe4) :: (X.pn ++ pins))) [] σ6 H6 s6 → (∀ s7, Inv X pins (σ6.set k.i none) H6 s7 → Q s7) →
          wpAny (model X.prog X.w) X.A (do bindName X.env n .none; unbindBehindTheSuite X.env n hp) (fun _ s7 => Q s7) X.xe s6 := fun S6 hq => gone_ok (S6.unsuite J.ok) hN hi hln hq
      cases f with
      | ret u => obtain ⟨v6, σ6, H6, S6, r6, q6⟩ := q6; exact off S6 fun s7 J7 => ⟨_, _, _, J7, r6, q6⟩
      | next => obtain ⟨σ6, H6, S6, q6⟩ := q6; exact off S6 fun s7 J7 => ⟨_, _, J7, q6⟩
      | brk => obtain ⟨σ6, H6, S6, q6⟩ := q6; exact off S6 fun s7 J7 => ⟨_, _, J7, q6⟩
      | cont => obtain ⟨σ6, H6, S6, q6⟩ := q6; exact off S6 fun s7 J7 => ⟨_, _, J7, q6⟩
end
section
variable {X : Cx} {body : List Stmt} {h₀ : ExceptHandler} {hds : List ExceptHandler} {l : List Clause} {pos : Pos} {tb : WX → TS} {Wout : WX}
theorem ps_try_named (hs : X.stack = X.env :: X.outer) (hf : X.env.frame = some X.env.locals) (hN : X.N.Nodup) (tk : Takes X Wout)
    (hb : ∀ (W : WX) (pn : List (Addr × Obj)) (xe : Value → Shared → Prop), Takes (X.tr pn xe) W → PassesOwn (model X.prog X.w) X.A X.env xe → PSs (X.tr pn xe) body (tb W)) (hc : Clauses X (h₀ :: hds) l) :
    PS X (.Try body (h₀ :: hds) [] [] pos) (fun D σ H => tb (wNamed X.K Wout D l) D σ H) := by
  refine ⟨fun pins s σ H D I h => wpAny_Try_except ?_⟩
  have frames : X.A.frames = some (X.env :: X.outer) := by rw [I.ok.frames, hs]
  have run := (hb (wNamed X.K Wout D l) (X.pn ++ pins) (fun e s₁ => wpAny (model X.prog X.w) X.A (noteFrame e X.env) (fun _ s₂ => wpAny (model X.prog X.w) X.A (setFlight e none) (fun _ s₃ =>
    wpAny (model X.prog X.w) X.A (handleBy e X.env (h₀ :: hds)) (SP X pins D) X.xe s₃) X.xe s₂) X.xe s₁) (fun u s' q => by
      obtain ⟨a, B, sI, _, σ', H', cls, d, rfl, J', nb, up, sky, na, os, ag, w⟩ := q
      rw [show (X.tr (X.pn ++ pins) _).stack = X.env :: X.outer from hs] at sky
      show wpAny (model X.prog X.w) X.A (noteFrame (.ref a) X.env) _ _ _
      exact Sky.land Zc.steady frames hf sky fun h3 fl up3 => named_go (s' := { s' with heap := h3 }) hs hf hN tk (J'.ofTry I.ok) nb (up.trans up3) na os ag fl hc w) PassesOwn.looking).run [] s σ H D (I.toTry _) h
  refine wpAny_mono run (fun f s1 q => ?_) fun _ _ z => z
  cases f with
  | ret u => obtain ⟨v, σ', H', J', r, q⟩ := q; exact ⟨v, σ', H', J'.ofTry I.ok, r, q⟩
  | next => obtain ⟨σ', H', J', q⟩ := q; exact wpAny_execs_nil ⟨σ', H', J'.ofTry I.ok, q⟩
  | brk => obtain ⟨σ', H', J', q⟩ := q; exact ⟨σ', H', J'.ofTry I.ok, q⟩
  | cont => obtain ⟨σ', H', J', q⟩ := q; exact ⟨σ', H', J'.ofTry I.ok, q⟩
end
end Ev
end

section
set_option maxRecDepth 100000
set_option maxHeartbeats 4000000
namespace Ev
open PySem PySem.Spec PyProof.Rows L2
section
variable {ca : Nat → Addr} {B B' : Bs} {M M' : Mset} {H H' : Hp} {σ : L2.St} {S S' : Fr} {W : WX} {Ex : Addr → Nat → Addr → Prop} {X : Cx} {G : Gam} {T : Tb} {k : Nat} {N : List Str} {sc : Scope} {calm : Bool} {Pr : List Nat}
/-- what a suite needs of its place -/
structure StOk (X : Cx) (ca : Nat → Addr) (Ex : Addr → Nat → Addr → Prop) (G : Gam) (T : Tb) (k : Nat) (N : List Str) (sc : Scope) (calm : Bool) (W : WX) : Prop where
  c : CtxOk X ca Ex G T k N sc calm W
  po : calm = true → PassesOwn (model X.prog X.w) X.A X.env X.xe
  fn : ∀ x, X.fn x = true
  hs : X.stack = X.env :: X.outer
  hf : X.env.frame = some X.env.locals
  er : ∀ C f, G.exf C = some f → ∃ fI, ErrTxt X.prog X.K X.mg (ca C) fI f
  xf : ∀ C f, G.exf C = some f → XfC X.K (ca C)
  sub : ∀ C C' f f', G.exf C = some f → G.exf C' = some f' → PySem.W.exmOne X.K (.ref (ca C')) (.ref (ca C)) = some (decide (C = C'))
/-- raise C(e) -/
theorem ss_rse (C : StOk X ca Ex G T k N sc true W) {x f : Str} {y : Expr} {p pos pos2 : Pos} {cs : List CE} {Cn : Nat} (hg : glB sc x = true) (hn : nrm x = true) (hx : T.cls.lookup x = some Cn) (hf : G.exf Cn = some f) (h : SEs X ca Ex G W [y] cs) :
    SS X ca Ex G W Pr (.Raise (some (.Call (.Name x p) [y] [] pos)) none pos2) (.rse Cn cs) := by
  obtain ⟨fI, E⟩ := C.er Cn f hf
  have hst : noStar y = true := by have := h.all; simpa using this
  have hgl : Gl X x := by show X.env.scope.names.lookup x = some .globalImplicit; rw [C.c.hsc]; exact of_decide_eq_true hg
  refine ⟨(ps_raise (C.c.hc rfl) C.c.tk (pmk_err E (C.c.room rfl) h.vals hgl (C.c.g.cls x Cn hx) (nrm_of hn).1 (star_cons hst [] X.env))).imp fun D σ H ⟨B, M, S, he, h⟩ => ⟨B, M, S, he, ?_⟩⟩
  have h' : RunS X.K ca W Pr (bnd (evVs G cs) fun ds => raiseS G Cn ds) B M S σ H D := h
  refine h'.bind fun ds S1 vs M1 H1 R1 st1 o1 h1 => ?_
  have o2 : Dps X.K ca M1 H1 vs ds := o1
  obtain ⟨_, _, q⟩ := h1
  unfold raiseS at q
  cases o2 with
  | nil => rw [hf] at q; exact q.elim
  | @cons v d vs ds dp t =>
    cases t with
    | nil =>
      rw [hf] at q
      refine ⟨v, rfl, fun a ha => ?_⟩
      have al : Al H1 (upd H1 a (.xd [(f, v)])) := Al.upd ha
      exact q σ M1 _ _ _ (R1.al0 al) al.stp .refl ⟨rfl, a, _, rfl, upd_same, fun z => R1.mt a z ha, .cons (dp.step al.stp) .nil⟩
    | cons _ _ => rw [hf] at q; exact q.elim
/-! ### try -/
theorem at_calm (S : Fr) (j : Nat) : Fr.at (S.map Slot.calm) j = (S.at j).calm := by
  unfold Fr.at
  rw [List.getElem?_map]
  cases S[j]? <;> rfl
theorem calm_own (s : Slot) : s.calm.own = s.own := by cases s <;> rfl
theorem Rep.exIn {K : PySem.W.Frag} (R : Rep K ca B M H σ S) {Ex1 : Addr → Nat → Addr → Prop} (h : ∀ a C d, B.Ex a C d → Ex1 a C d) : Rep K ca { B with Ex := Ex1 } M H σ S where
  len := R.len
  slot := fun j => by
    have q := R.slot j
    cases e : S.at j with
    | ex C fs => rw [e] at q; obtain ⟨a, dd, gs, x, q1, r⟩ := q; exact ⟨a, dd, gs, x, h _ _ _ q1, r⟩
    | _ => rw [e] at q; exact q
  dist := R.dist
  pres := R.pres
  keep := R.keep
  mt := R.mt
  mc := R.mc
theorem Rep.off {K : PySem.W.Frag} {Ex1 : Addr → Nat → Addr → Prop} (R : Rep K ca { B with Ex := Ex1 } M H σ S) (i : Nat) : Rep K ca B M H (σ.set i none) (offX i S) where
  len := by unfold offX; rw [List.length_set, List.length_set, List.length_map]; exact R.len
  slot := fun j => by
    unfold offX
    rw [at_set]
    split
    · trivial
    · rename_i hn
      rw [at_calm]
      have q := R.slot j
      by_cases ji : j = i
      · subst ji
        have : ¬ j < S.length := fun z => hn ⟨rfl, by rw [List.length_map]; exact z⟩
        have e : S.at j = .no := by unfold Fr.at; rw [List.getElem?_eq_none (by omega)]; rfl
        rw [e]; trivial
      · rw [List.getElem?_set_ne (Ne.symm ji)]
        cases e : S.at j with
        | ex C fs => trivial
        | _ => rw [e] at q; exact q
  dist := fun j l a hjl oj ol ej el => by
    have ow : ∀ m, (Fr.at (offX i S) m).own = true → (S.at m).own = true ∧ (σ.set i none)[m]? = σ[m]? := fun m om => by
      unfold offX at om
      rw [at_set] at om
      split at om
      · cases om
      · rename_i hn
        rw [at_calm, calm_own] at om
        refine ⟨om, ?_⟩
        by_cases mi : m = i
        · subst mi
          have hl : m < S.length := at_lt fun z => by rw [z] at om; cases om
          exact absurd ⟨rfl, by rw [List.length_map]; exact hl⟩ hn
        · rw [List.getElem?_set_ne (Ne.symm mi)]
    obtain ⟨o1, e1⟩ := ow j oj
    obtain ⟨o2, e2⟩ := ow l ol
    rw [e1] at ej; rw [e2] at el
    exact R.dist j l a hjl o1 o2 ej el
  pres := R.pres
  keep := R.keep
  mt := R.mt
  mc := R.mc
theorem res_off {K : PySem.W.Frag} {Ex1 : Addr → Nat → Addr → Prop} {i : Nat} {r : D × Bool} {v : V} (o : ResOk K ca { B with Ex := Ex1 } σ S M H r v) : ResOk K ca B (σ.set i none) (offX i S) M H r v := by
  unfold ResOk at o ⊢
  split at o
  · rename_i hr
    rw [if_pos hr]
    obtain ⟨p, e, hm, hw, c, hn⟩ := o
    refine ⟨p, e, hm, hw, c, fun j oj ej => ?_⟩
    unfold offX at oj
    rw [at_set] at oj
    split at oj
    · cases oj
    · rename_i hno
      rw [at_calm, calm_own] at oj
      by_cases ji : j = i
      · subst ji
        have hl : j < S.length := at_lt fun z => by rw [z] at oj; cases oj
        exact hno ⟨rfl, by rw [List.length_map]; exact hl⟩
      · rw [List.getElem?_set_ne (Ne.symm ji)] at ej
        exact hn j oj ej
  · rename_i hr
    rw [if_neg hr]
    exact o
/-- what an except suite reads -/
def ExS (ca : Nat → Addr) (a : Addr) (cls : Value) (d : Option Addr) : Addr → Nat → Addr → Prop := fun a' C dd => a' = a ∧ cls = .ref (ca C) ∧ d = some dd
theorem StOk.reads (C : StOk X ca Ex G T k N sc true W) {a : Addr} {oe : Obj} {cls : Value} {d : Option Addr} {pn : List (Addr × Obj)} (hz : Zc cls d oe) (hv : ∃ vs, oe.data = .fields vs) (i : Nat) (x : Str) (pos apos : Pos) (f : Str) (hi : N[i]? = some x) (hvx : Vis sc x)
    (h1 : (x == ("__debug__" : Str)) = false) (h2 : (x == ("__classdict__" : Str)) = false) (h3 : (x == ("super" : Str)) = false) : PE (X.suite a ((a, oe) :: pn)) (.Attribute (.Name x pos) f apos)
      (fun σ H Q => ∃ a' C dd gs v, σ[i]? = some (some (.ref a')) ∧ ExS ca a cls d a' C dd ∧ H dd = some (.xd gs) ∧ G.exf C = some f ∧ gs.lookup f = some v ∧ Q v H) := by
  refine ⟨fun pins s σ H Q I h => ?_⟩
  obtain ⟨a', Cn, dd, gs, v, e1, ⟨e2, e3, e4⟩, e5, e6, e7, q⟩ := h
  obtain ⟨fI, E⟩ := C.er Cn f e6
  have pv : PE (X.suite a ((a, oe) :: pn)) (.Name x pos) (tVar i) := pe_var (X := X.suite a ((a, oe) :: pn)) (by show X.N[i]? = some x; rw [C.c.hN]; exact hi) (by show Vis X.env.scope x; rw [C.c.hsc]; exact hvx) h1 h2
  exact (pe_xf (pos := apos) (C.xf Cn f e6) E.noN hz hv pv).run pins s σ H Q I ⟨_, e1, by rw [e2], e3, dd, gs, v, e4, e5, e7, q⟩
theorem StOk.suite (C : StOk X ca Ex G T k N sc true W) {a : Addr} {oe : Obj} {cls : Value} {d : Option Addr} {pn : List (Addr × Obj)} (hz : Zc cls d oe) (hv : ∃ vs, oe.data = .fields vs) :
    StOk (X.suite a ((a, oe) :: pn)) ca (ExS ca a cls d) G T k N sc false (fun _ _ _ _ => False) where
  c := { hN := C.c.hN, hsc := C.c.hsc, nd := C.c.nd, hc := (fun z => nomatch z), room := (fun z => nomatch z), ex := (fun z => nomatch z), un := C.c.un, tk := takesF, g := C.c.g, exr := fun _ => C.reads hz hv }
  po := fun z => nomatch z
  fn := C.fn
  hs := C.hs
  hf := C.hf
  er := C.er
  xf := C.xf
  sub := C.sub
theorem StOk.body (C : StOk X ca Ex G T k N sc true W) {W' : WX} {pn : List (Addr × Obj)} {xe : Value → Shared → Prop} (tk : Takes (X.tr pn xe) W') (po : PassesOwn (model X.prog X.w) X.A X.env xe) : StOk (X.tr pn xe) ca Ex G T k N sc true W' where
  c := { hN := C.c.hN, hsc := C.c.hsc, nd := C.c.nd, hc := C.c.hc, room := C.c.room, ex := C.c.ex, un := C.c.un, tk := tk, g := C.c.g, exr := fun z => nomatch z }
  po := fun _ => po
  fn := C.fn
  hs := C.hs
  hf := C.hf
  er := C.er
  xf := C.xf
  sub := C.sub
/-- the clauses -/
def clOf (K : PySem.W.Frag) (ca : Nat → Addr) (G : Gam) (Pr : List Nat) (hs : List (Nat × Nat × List CS)) : List Clause :=
  hs.map fun h => ⟨.ref (ca h.1), h.2.1, fun a cls d => rdS K ca (ExS ca a cls d) (fun _ _ _ _ => False) Pr (evB G h.2.2)⟩
theorem named_of (C : StOk X ca Ex G T k N sc true W) {e : Err} {D : Ends} {M0 : Mset} {H0 : Hp} {σ0 : L2.St} {cls : Value} {dd : Option Addr} (b : B.Ok) (he : B.Ex = Ex) (R : Rep X.K ca B M H σ S) (st : Stp M0 H0 M H) (kp0 : KeepP Pr σ0 σ) (eo : ErrOk X.K ca M H e cls dd) : ∀ {hs : List (Nat × Nat × List CS)},
    (∀ h ∈ hs, (G.exf h.1).isSome = true ∧ h.2.1 ∉ Pr) → (match evH G e hs S with
      | none => False
      | some (.ok f, S') => ∀ σ' M' H', Rep X.K ca B M' H' σ' S' → Stp M0 H0 M' H' → KeepP Pr σ0 σ' → fin X.K ca D B σ' S' M' H' f
      | some (.error e, S') => ∀ σ' M' H' cls dd, Rep X.K ca B M' H' σ' S' → Stp M0 H0 M' H' → KeepP Pr σ0 σ' → ErrOk X.K ca M' H' e cls dd → W cls dd σ' H') →
    wNamed X.K W D (clOf X.K ca G Pr hs) cls dd σ H
  | [], _, q => q σ M H cls dd R st kp0 eo
  | ⟨Cn, i, bd⟩ :: r, hx, q => by
    simp only [evH] at q
    by_cases h1 : (G.exf e.C).isSome = true
    · rw [if_pos h1] at q
      obtain ⟨f', h1⟩ := Option.isSome_iff_exists.mp h1
      obtain ⟨f, h0⟩ := Option.isSome_iff_exists.mp (hx _ List.mem_cons_self).1
      have hpi := (hx _ List.mem_cons_self).2
      refine ⟨_, by rw [eo.1]; exact C.sub Cn e.C f f' h0 h1, fun hb a ha => ?_, fun hb => ?_⟩
      · rw [if_pos (of_decide_eq_true hb)] at q
        by_cases hl : i < S.length
        · rw [if_pos hl] at q
          obtain ⟨ec, a0, gs, ed, eh, em, ef⟩ := eo
          have R1 : Rep X.K ca { B with Ex := ExS ca a cls dd } M H (σ.set i (some (.ref a))) (S.set i (.ex e.C e.fs)) := by
            have R0 : Rep X.K ca { B with Ex := ExS ca a cls dd } M H σ S := R.exIn fun a' C' d' z => by
              rw [he, C.c.ex rfl] at z; exact z.elim
            exact R0.store (v := .ref a) (s := .ex e.C e.fs) ⟨a, a0, gs, rfl, ⟨rfl, ec, ed⟩, eh, em, ef⟩ hl fun z => nomatch z
          refine ⟨{ B with Ex := ExS ca a cls dd }, M, S.set i (.ex e.C e.fs), rfl, ⟨b.fresh, b.mc, b.hid⟩, R1, ?_⟩
          cases e1 : evB G bd (S.set i (.ex e.C e.fs)) with
          | none => rw [e1] at q; exact q
          | some p =>
            obtain ⟨r1, S1⟩ := p
            rw [e1] at q
            cases r1 with
            | error _ => exact q.elim
            | ok f =>
              intro σ' M' H' R' st' k'
              have q' := q (σ'.set i none) M' H' (R'.off i) (st.trans st') (((kp0.trans (.set hpi)).trans k').trans (.set hpi))
              cases f with
              | nx => exact q'
              | bk => exact q'
              | ct => exact q'
              | rt d fl => exact fun v o => q' v (res_off o)
        · rw [if_neg hl] at q; exact q.elim
      · rw [if_neg (of_decide_eq_false hb)] at q
        exact named_of C b he R st kp0 eo (fun h hh => hx h (List.mem_cons_of_mem _ hh)) q
    · rw [if_neg h1] at q; exact q.elim
theorem ss_try (C : StOk X ca Ex G T k N sc true W) {body : List Stmt} {h0 : ExceptHandler} {hds : List ExceptHandler} {cb : List CS} {hs : List (Nat × Nat × List CS)} {pos : Pos}
    (hb : ∀ (W' : WX) (pn : List (Addr × Obj)) (xe : Value → Shared → Prop), StOk (X.tr pn xe) ca Ex G T k N sc true W' → SSs (X.tr pn xe) ca Ex G W' Pr body cb) (hx : ∀ h ∈ hs, (G.exf h.1).isSome = true ∧ h.2.1 ∉ Pr) (hc : Clauses X (h0 :: hds) (clOf X.K ca G Pr hs)) :
    SS X ca Ex G W Pr (.Try body (h0 :: hds) [] [] pos) (.try cb hs) := by
  refine ⟨(ps_try_named (tb := fun W' => rdS X.K ca Ex W' Pr (evB G cb)) C.hs C.hf (by rw [C.c.hN]; exact C.c.nd) C.c.tk (fun W' pn xe tk po => (hb W' pn xe (C.body tk po)).p) hc).imp fun D σ H ⟨B, M, S, he, b, R, q⟩ => ⟨B, M, S, he, b, R, ?_⟩⟩
  have e1 : evS G (.try cb hs) S = (match evB G cb S with | some (.error e, S') => evH G e hs S' | r => r) := rfl
  rw [e1] at q
  cases e2 : evB G cb S with
  | none => rw [e2] at q; exact q
  | some p =>
    obtain ⟨r, S1⟩ := p
    rw [e2] at q
    cases r with
    | ok f => exact q
    | error e => exact fun σ' M' H' cls dd R' st' kp eo => named_of C b he R' st' kp eo hx q
theorem ss_setLc {i : Nat} (hpr : i ∉ Pr) (C : CtxOk X ca Ex G T k N sc true W) {elt tg iter : Expr} {is : List Expr} {scope : Scope} {pos py spos : Pos} {e : CE} {t : CT} {ik : IK} {it ifs : List CE} {own : List Nat} {y : Str}
    (hi : N[i]? = some y) (hl : X.env.scope.names.lookup y = some .local) (hsw : swapsWith (.ListComp elt [⟨tg, iter, is, 0⟩] scope pos) (some (.Name y py)) spos.line X.env = pure true)
    (hI : PI X tg iter (wiG X.K ca Ex W (bnd (evOs G it) (itemsOf ik)))) (hset : ∀ x, foldedSetIterable iter X.env x = pure x) (hT : okT N (relS scope sc) (fun x => scope.names.lookup x == some .cell) t tg = true) (hix : (ctIx t).all (fun i => own.contains i) = true)
    (hF : ∀ (s : Shared) (H : Hp) (Cd : Addr) (cl : List (Str × Addr)) (fp : List Addr), PTs (X.blk s H scope (compEnvC scope cl Cd X.env) fp) is (ttG X.K ca Ex G ifs)) (hn : ifs.length ≤ 1)
    (hE : ∀ (s : Shared) (H : Hp) (Cd : Addr) (cl : List (Str × Addr)) (fp : List Addr), PE (X.blk s H scope (compEnvC scope cl Cd X.env) fp) elt (rdG X.K ca Ex (ResOk X.K ca) (fun _ _ _ _ => False) (evE G e)))
    (hB : blkC N sc scope (own.map fun i => ((N[i]?).getD Str.empty, i)) = true) : SS X ca Ex G W Pr (.Assign [.Name y py] (.ListComp elt [⟨tg, iter, is, 0⟩] scope pos) spos) (.asg (.nm i) (.comp e t ik it ifs own)) := by
  have hown : (own.map fun i => ((N[i]?).getD Str.empty, i)).map (·.2) = own := by rw [List.map_map]; simp [Function.comp_def]
  have p := ps_setLc (X := X) (pos := pos) (i := i) (py := py) (spos := spos) (own := own.map fun i => ((N[i]?).getD Str.empty, i)) (g := tgG X.K ca t) (tt := ttG X.K ca Ex G ifs) (te := rdG X.K ca Ex (ResOk X.K ca) (fun _ _ _ _ => False) (evE G e)) (C.hc rfl) (by rw [C.hN]; exact C.nd) (by rw [C.hN]; exact hi) hl hsw hI
    (by rw [C.hN, C.hsc]; exact blkOk_by hB)
    (fun s H Cd cl fp => okT_pg (X := X.blk s H scope (compEnvC scope cl Cd X.env) fp) C.hN (by rw [← C.hsc]; rfl) C.nd (C.hc rfl) (fun x h => h) t tg hT) hF hE hset
  rw [hown] at p
  refine ⟨p.imp fun D σ H ⟨B, M, S, he, h⟩ => comp_imp hn hix ⟨B, M, S, he, ?_⟩⟩
  have h' : RunS X.K ca W Pr (bnd (evE G (.comp e t ik it ifs own)) fun p => setV i p) B M S σ H D := h
  exact h'.bind fun p S1 v M1 H1 R1 st1 o1 h1 => set_end hpr h1 R1 o1
/-- a comprehension put into a name: `none` at what is not served; otherwise whether its variables live on until then -/
def swB (sc : Scope) (y : Str) (py : Pos) (scope : Scope) (pos : Pos) : Bool :=
  (py.line == pos.line) && (sc.names.lookup y == some .local) && !(scope.names.any fun (n, k) => n == y && (k == .local || k == .cell))
theorem sw_false {elt : Expr} {gs : List Comprehension} {scope : Scope} {pos py : Pos} {y : Str} {l : Nat} {env : Env} (hk : env.scope.kind = .function) (h : swB env.scope y py scope pos = false) : swapsWith (.ListComp elt gs scope pos) (some (.Name y py)) l env = pure false := by
  have hb : env.blockKind = .function := by unfold Env.blockKind; rw [hk]; rfl
  have ky : env.kindOf y = env.scope.names.lookup y := rfl
  unfold swapsWith
  simp only [hb, Expr.pos]
  unfold swB at h
  rw [ky]
  cases h3 : (scope.names.any fun (n, k) => n == y && (k == .local || k == .cell)) <;> rw [h3] at h <;> cases h1 : (py.line == pos.line) <;> rw [h1] at h <;> cases h2 : (env.scope.names.lookup y == some NameKind.local) <;> rw [h2] at h <;> first | rfl | cases h
theorem notin_all {l : List Nat} (h : l.all (fun i => !(Pr.contains i)) = true) : ∀ i ∈ l, i ∉ Pr := fun i hi => by
  have := List.all_eq_true.mp h i hi
  simpa using this
/-! ### the check -/
mutual
def okSt (T : Tb) (g : Sg) (N : List Str) (sc : Scope) (Pr : List Nat) : Bool → CS → Stmt → Bool
  | calm, .asg t e, s => match s with
    | .Assign [tg] v pos => match t with
      | .nm i => match tg with
        | .Name y py => !(Pr.contains i) && okE T g N sc calm e v && okT N sc (fun _ => true) (.nm i) tg && (match v with
          | .ListComp elt [⟨_, _, _, 0⟩] scope lp => decide (sc.kind = .function)
          | v => noLc v)
        | _ => false
      | .tp ts => calm && (ctIx (.tp ts)).all (fun i => !(Pr.contains i)) && okE T g N sc calm e v && okT N sc (fun _ => true) (.tp ts) tg && noLc v && noDisp v
    | _ => false
  | calm, .seti i k v, s => match s with
    | .Assign [.Subscript (.Name x _) ix _] e _ => nmB N sc i x && okE T g N sc calm v e && okE T g N sc calm k ix && noLc e && plainSlice ix
    | _ => false
  | calm, .setf i f c, s => match s with
    | .Assign [.Attribute (.Name x _) f' _] e _ => decide (f' = f) && nmB N sc i x && okE T g N sc calm c e && noLc e
    | _ => false
  | calm, .ex c, s => match s with
    | .Expr e _ => okE T g N sc calm c e && noLc e
    | _ => false
  | calm, .app i c, s => match s with
    | .Expr (.Call (.Attribute (.Name x _) m ap) [y] [] cp) _ => m == "append" && nmB N sc i x && okE T g N sc calm c y && noStar y && (ap.endLine == cp.line)
    | _ => false
  | calm, .ret c, s => match s with
    | .Return (some e) _ => okE T g N sc calm c e
    | _ => false
  | _, .retN, s => match s with
    | .Return none _ => true
    | _ => false
  | _, .pass, s => match s with
    | .Pass _ => true
    | .Expr (.Constant (.str _) _ _) _ => true
    | _ => false
  | _, .brk, s => match s with
    | .Break _ => true
    | _ => false
  | _, .cont, s => match s with
    | .Continue _ => true
    | _ => false
  | calm, .ite c a b, s => match s with
    | .If t x y _ => okE T g N sc calm c t && okSts T g N sc Pr calm a x && okSts T g N sc Pr calm b y
    | _ => false
  | calm, .for t ik it body, s => match s with
    | .For tg iter b [] _ => calm && (ctIx t).all (fun i => !(Pr.contains i)) && okI T g N sc calm ik it iter && okT N sc (fun _ => true) t tg && okSts T g N sc Pr calm body b
    | _ => false
  | calm, .whl c body, s => match s with
    | .While t b [] _ => calm && okE T g N sc calm c t && okSts T g N sc Pr calm body b
    | _ => false
  | calm, .rse Cn es, s => match s with
    | .Raise (some (.Call (.Name x _) [y] [] _)) none _ => calm && glB sc x && nrm x && decide (T.cls.lookup x = some Cn) && (g.exf Cn).isSome && okEs T g N sc calm es [y]
    | _ => false
  | calm, .par is es, s => match s with
    | .Assign [.Tuple [.Name x px, .Name y py] _ _] (.Tuple [a, b] _ _) _ => (match is with
      | [i, j] => calm && !(Pr.contains i) && !(Pr.contains j) && decide (N[i]? = some x) && decide (N[j]? = some y) && decide (i ≠ j) && parsB sc [(x, px), (y, py)] [a, b] && okEs T g N sc calm es [a, b]
      | _ => false)
    | .Assign [.Tuple [.Name x px, .Name y py, .Name z pz] _ _] (.Tuple [a, b, c] _ _) _ => (match is with
      | [i, j, l] => calm && !(Pr.contains i) && !(Pr.contains j) && !(Pr.contains l) && decide (N[i]? = some x) && decide (N[j]? = some y) && decide (N[l]? = some z) && decide (i ≠ j) && decide (i ≠ l) && decide (j ≠ l) && parsB sc [(x, px), (y, py), (z, pz)] [a, b, c] && okEs T g N sc calm es [a, b, c]
      | _ => false)
    | _ => false
  | calm, .try body hs, s => match s with
    | .Try b (h0 :: hd) [] [] _ => calm && okSts T g N sc Pr calm body b && okHs T g N sc Pr hs (h0 :: hd)
    | _ => false
def okSts (T : Tb) (g : Sg) (N : List Str) (sc : Scope) (Pr : List Nat) : Bool → List CS → List Stmt → Bool
  | _, [], ss => ss.isEmpty
  | calm, c :: cs, ss => match ss with
    | s :: r => okSt T g N sc Pr calm c s && okSts T g N sc Pr calm cs r
    | [] => false
def okHs (T : Tb) (g : Sg) (N : List Str) (sc : Scope) (Pr : List Nat) : List (Nat × Nat × List CS) → List ExceptHandler → Bool
  | [], l => l.isEmpty
  | ⟨Cn, i, b⟩ :: r, l => match l with
    | .ExceptHandler (some (.Name x _)) (some n) (st :: sts) _ :: t => !(Pr.contains i) && glB sc x && nrm x && decide (T.cls.lookup x = some Cn) && (g.exf Cn).isSome && decide (N[i]? = some n) && decide (sc.names.lookup n = some .local) && okSts T g N sc Pr false b (st :: sts) && okHs T g N sc Pr r t
    | _ => false
end
mutual
theorem okSt_ss : ∀ (c : CS) (s : Stmt) {calm : Bool} {X : Cx} {W : WX} {Ex : Addr → Nat → Addr → Prop}, okSt T G.toSg N sc Pr calm c s = true → StOk X ca Ex G T k N sc calm W → SS X ca Ex G W Pr s c
  | .asg t e, s, calm, X, W, Ex, h, C => by
    simp only [okSt] at h
    split at h
    · split at h
      · split at h
        · rename_i i _ y py
          simp only [Bool.and_eq_true] at h
          obtain ⟨⟨⟨h0, h1⟩, h2⟩, h3⟩ := h
          have hpr : i ∉ Pr := by simpa using h0
          have h2' := h2
          simp only [okT] at h2'
          obtain ⟨hi, hl, hf⟩ := loc_of (X := X) (fn := fun _ => true) C.c.hsc (fun x _ => C.fn x) h2'
          split at h3
          · rename_i elt tg iter is scope lp
            have hk : X.env.scope.kind = .function := by rw [C.c.hsc]; exact of_decide_eq_true h3
            cases hsw : swB sc y py scope lp with
            | false => exact ss_set hpr C.c.hN C.c.nd (okE_se e _ h1 C.c) hi hl hf (sw_false hk (by rw [C.c.hsc]; exact hsw))
            | true =>
              have hsw' := hsw
              unfold swB at hsw'
              simp only [Bool.and_eq_true, Bool.not_eq_true', beq_iff_eq] at hsw'
              obtain ⟨⟨w1, w2⟩, w3⟩ := hsw'
              have hy : X.env.scope.names.lookup y = some .local := by rw [C.c.hsc]; exact w2
              cases e with
              | comp e t ik it ifs own =>
                simp only [okE, Bool.and_eq_true] at h1
                obtain ⟨⟨⟨⟨⟨⟨rfl, q1⟩, q2⟩, q3⟩, q4⟩, q5⟩, q6⟩ := h1
                have hI := okI_se ik it _ q1 C.c
                refine ss_setLc hpr C.c hi hy (sw_true hk hy (by simpa using w1) w3) (pi_items C.c hI.1) hI.2 q2 q3 (fun s H Cd cl fp => ?_) ?_ (fun s H Cd cl fp => (okE_se e _ q5 (C.c.blk (s := s) (H := H) (Cd := Cd) (cl := cl) (fp := fp))).v) q6
                · exact pts_of (okTs_se ifs _ q4 (C.c.blk (s := s) (H := H) (Cd := Cd) (cl := cl) (fp := fp)))
                · exact okTs_len q4
              | _ => simp [okE] at h1
          · exact ss_set hpr C.c.hN C.c.nd (okE_se e _ h1 C.c) hi hl hf (sw_no h3 _ _ _)
        · cases h
      · simp only [Bool.and_eq_true] at h
        obtain ⟨⟨⟨⟨⟨rfl, h0⟩, h1⟩, h2⟩, h3⟩, h4⟩ := h
        exact ss_tgt C.c (fun x _ => C.fn x) (okE_se e _ h1 C.c) h2 h3 h4 (notin_all h0)
    · cases h
  | .seti i kc v, s, calm, X, W, Ex, h, C => by
    simp only [okSt] at h
    split at h
    · simp only [Bool.and_eq_true] at h
      obtain ⟨⟨⟨⟨h1, h2⟩, h3⟩, h4⟩, h5⟩ := h
      exact ss_seti C.c h1 (okE_se v _ h2 C.c) (okE_se kc _ h3 C.c) h4 h5
    · cases h
  | .setf i f c, s, calm, X, W, Ex, h, C => by
    simp only [okSt] at h
    split at h
    · simp only [Bool.and_eq_true, decide_eq_true_eq] at h
      obtain ⟨⟨⟨rfl, h1⟩, h2⟩, h3⟩ := h
      exact ss_setf C.c h1 (okE_se c _ h2 C.c) h3
    · cases h
  | .ex c, s, calm, X, W, Ex, h, C => by
    simp only [okSt] at h
    split at h
    · simp only [Bool.and_eq_true] at h
      exact ss_ex (okE_se c _ h.1 C.c) h.2
    · cases h
  | .app i c, s, calm, X, W, Ex, h, C => by
    simp only [okSt] at h
    split at h
    · simp only [Bool.and_eq_true, beq_iff_eq] at h
      obtain ⟨⟨⟨⟨rfl, h1⟩, h2⟩, h3⟩, h4⟩ := h
      exact ss_app C.c h1 (okE_se c _ h2 C.c) h3 (by simpa using h4)
    · cases h
  | .ret c, s, calm, X, W, Ex, h, C => by
    simp only [okSt] at h
    split at h
    · exact ss_ret (okE_se c _ h C.c)
    · cases h
  | .retN, s, calm, X, W, Ex, h, C => by
    simp only [okSt] at h
    split at h
    · exact ss_retN
    · cases h
  | .pass, s, calm, X, W, Ex, h, C => by
    simp only [okSt] at h
    split at h
    · exact ss_pass
    · exact ss_doc
    · cases h
  | .brk, s, calm, X, W, Ex, h, C => by
    simp only [okSt] at h
    split at h
    · exact ss_brk
    · cases h
  | .cont, s, calm, X, W, Ex, h, C => by
    simp only [okSt] at h
    split at h
    · exact ss_cont
    · cases h
  | .ite c a b, s, calm, X, W, Ex, h, C => by
    simp only [okSt] at h
    split at h
    · simp only [Bool.and_eq_true] at h
      obtain ⟨⟨h1, h2⟩, h3⟩ := h
      exact ss_ite (okE_se c _ h1 C.c) (okSts_ss a _ h2 C) (okSts_ss b _ h3 C)
    · cases h
  | .for t ik it body, s, calm, X, W, Ex, h, C => by
    simp only [okSt] at h
    split at h
    · simp only [Bool.and_eq_true] at h
      obtain ⟨⟨⟨⟨rfl, h0⟩, h1⟩, h2⟩, h3⟩ := h
      have hI := okI_se ik it _ h1 C.c
      exact ss_for C.c (fun x _ => C.fn x) (C.po rfl) (pi_items C.c hI.1) hI.2 h2 (notin_all h0) (okSts_ss body _ h3 C)
    · cases h
  | .whl c body, s, calm, X, W, Ex, h, C => by
    simp only [okSt] at h
    split at h
    · simp only [Bool.and_eq_true] at h
      obtain ⟨⟨rfl, h1⟩, h2⟩ := h
      exact ss_whl (C.po rfl) (okE_se c _ h1 C.c) (okSts_ss body _ h2 C)
    · cases h
  | .rse Cn es, s, calm, X, W, Ex, h, C => by
    simp only [okSt] at h
    split at h
    · simp only [Bool.and_eq_true, decide_eq_true_eq] at h
      obtain ⟨⟨⟨⟨⟨rfl, h1⟩, h2⟩, h3⟩, h4⟩, h5⟩ := h
      obtain ⟨f, h4⟩ := Option.isSome_iff_exists.mp h4
      exact ss_rse C h1 h2 h3 h4 (okEs_se es _ h5 C.c)
    · cases h
  | .par is es, s, calm, X, W, Ex, h, C => by
    simp only [okSt] at h
    split at h
    · split at h
      · rename_i i j
        simp only [Bool.and_eq_true, decide_eq_true_eq, Bool.not_eq_true'] at h
        obtain ⟨⟨⟨⟨⟨⟨⟨rfl, h1⟩, h2⟩, h3⟩, h4⟩, h5⟩, h6⟩, h7⟩ := h
        refine ss_par2 C.c (fun l hl => ?_) h3 h4 h5 h6 (okEs_se es _ h7 C.c)
        simp only [List.mem_cons, List.not_mem_nil, or_false] at hl
        rcases hl with rfl | rfl
        · simpa using h1
        · simpa using h2
      · cases h
    · split at h
      · rename_i i j l
        simp only [Bool.and_eq_true, decide_eq_true_eq, Bool.not_eq_true'] at h
        obtain ⟨⟨⟨⟨⟨⟨⟨⟨⟨⟨⟨rfl, h1⟩, h2⟩, h3⟩, h4⟩, h5⟩, h6⟩, h7⟩, h8⟩, h9⟩, h10⟩, h11⟩ := h
        refine ss_par3 C.c (fun m hm => ?_) h4 h5 h6 h7 h8 h9 h10 (okEs_se es _ h11 C.c)
        simp only [List.mem_cons, List.not_mem_nil, or_false] at hm
        rcases hm with rfl | rfl | rfl
        · simpa using h1
        · simpa using h2
        · simpa using h3
      · cases h
    · cases h
  | .try body hs, s, calm, X, W, Ex, h, C => by
    simp only [okSt] at h
    split at h
    · simp only [Bool.and_eq_true] at h
      obtain ⟨⟨rfl, h1⟩, h2⟩ := h
      obtain ⟨q1, q2⟩ := okHs_cl hs _ h2 C
      exact ss_try C (fun W' pn xe C' => okSts_ss body _ h1 C') q1 q2
    · cases h
theorem okSts_ss : ∀ (cs : List CS) (ss : List Stmt) {calm : Bool} {X : Cx} {W : WX} {Ex : Addr → Nat → Addr → Prop}, okSts T G.toSg N sc Pr calm cs ss = true → StOk X ca Ex G T k N sc calm W → SSs X ca Ex G W Pr ss cs
  | [], ss, calm, X, W, Ex, h, C => by
    simp only [okSts] at h
    cases ss with
    | nil => exact ss_nil
    | cons _ _ => cases h
  | c :: cs, ss, calm, X, W, Ex, h, C => by
    simp only [okSts] at h
    split at h
    · simp only [Bool.and_eq_true] at h
      exact ss_cons (okSt_ss c _ h.1 C) (okSts_ss cs _ h.2 C)
    · cases h
theorem okHs_cl : ∀ (hs : List (Nat × Nat × List CS)) (l : List ExceptHandler) {X : Cx} {W : WX} {Ex : Addr → Nat → Addr → Prop}, okHs T G.toSg N sc Pr hs l = true → StOk X ca Ex G T k N sc true W → (∀ h ∈ hs, (G.exf h.1).isSome = true ∧ h.2.1 ∉ Pr) ∧ Clauses X l (clOf X.K ca G Pr hs)
  | [], l, X, W, Ex, h, C => by
    simp only [okHs] at h
    cases l with
    | nil => exact ⟨(fun _ z => nomatch z), .nil⟩
    | cons _ _ => cases h
  | ⟨Cn, i, b⟩ :: r, l, X, W, Ex, h, C => by
    simp only [okHs] at h
    split at h
    · simp only [Bool.and_eq_true, decide_eq_true_eq] at h
      obtain ⟨⟨⟨⟨⟨⟨⟨⟨h0, h1⟩, h2⟩, h3⟩, h4⟩, h5⟩, h6⟩, h7⟩, h8⟩ := h
      obtain ⟨q1, q2⟩ := okHs_cl r _ h8 C
      refine ⟨fun h hh => ?_, .cons (by rw [C.c.hN]; exact h5) (by show X.env.scope.names.lookup _ = _; rw [C.c.hsc]; exact h6) ⟨by show X.env.scope.names.lookup _ = some .globalImplicit; rw [C.c.hsc]; exact of_decide_eq_true h1, (nrm_of h2).1, .inl (C.c.g.cls _ _ h3)⟩ (fun a oe cls d pn hz hv => ?_) q2⟩
      · rcases List.mem_cons.mp hh with rfl | hh
        · exact ⟨h4, by simpa using h0⟩
        · exact q1 h hh
      · exact (okSts_ss b _ h7 (C.suite hz hv)).p
    · cases h
end
end
end Ev
end

section
set_option maxRecDepth 100000
set_option maxHeartbeats 4000000
namespace Ev
open PySem PySem.Spec PyProof.Rows L2
section
variable {K : PySem.W.Frag} {ca : Nat → Addr} {B : Bs} {M M' : Mset} {H H' : Hp} {σ σ' : L2.St} {S S' : Fr}
/-- the slots of the arguments -/
def zs : List Bool → List D → Fr
  | _, [] => []
  | fl, d :: ds => (if fl.headD false then .ow d else .fz d) :: zs fl.tail ds
theorem zs_eq : ∀ (ds : List D) (fl : List Bool), List.zipWith (fun b d => if b then Slot.ow d else Slot.fz d) (fl ++ List.replicate (ds.length - fl.length) false) ds = zs fl ds
  | [], fl => by cases fl <;> simp [zs]
  | d :: ds, [] => by
    have := zs_eq ds []
    simp [List.replicate_succ, zs] at this ⊢
    exact this
  | d :: ds, b :: fl => by
    have := zs_eq ds fl
    simp [zs] at this ⊢
    exact this
theorem zs_length : ∀ (ds : List D) (fl : List Bool), (zs fl ds).length = ds.length
  | [], fl => rfl
  | d :: ds, fl => by simp [zs, zs_length ds]
theorem at_cons0 {s : Slot} {S : Fr} : Fr.at (s :: S) 0 = s := rfl
theorem at_consS {s : Slot} {S : Fr} {i : Nat} : Fr.at (s :: S) (i + 1) = S.at i := rfl
theorem ArgsOk.len {fl : List Bool} {vs : List V} {ds : List D} {ios : List Addr} (h : ArgsOk K ca M H fl vs ds ios) : vs.length = ds.length := by
  induction h with
  | nil => rfl
  | v _ _ _ ih => simp [ih]
  | io _ _ _ _ _ ih => simp [ih]
theorem args_slot {fl : List Bool} {vs : List V} {ds : List D} {ios : List Addr} (h : ArgsOk K ca M H fl vs ds ios) (hw : ∀ a ∈ ios, B.Wr a) : ∀ (i j : Nat), SlotOk K ca B M H j ((vs.map some)[i]?) (Fr.at (zs fl ds) i) := by
  induction h with
  | nil => intro i j; trivial
  | @v fl v vs d ds ios hf c _ ih =>
    intro i j
    cases i with
    | zero =>
      show SlotOk K ca B M H j (some (some v)) (if fl.headD false then .ow d else .fz d)
      rw [hf]
      exact ⟨v, rfl, c⟩
    | succ i => exact ih hw i j
  | @io fl a vs d ds ios hf hm c hn _ ih =>
    intro i j
    cases i with
    | zero =>
      show SlotOk K ca B M H j (some (some (.ref a))) (if fl.headD false then .ow d else .fz d)
      rw [hf]
      exact ⟨a, rfl, hm, hw a List.mem_cons_self, c⟩
    | succ i => exact ih (fun b hb => hw b (List.mem_cons_of_mem _ hb)) i j
theorem args_own {fl : List Bool} {vs : List V} {ds : List D} {ios : List Addr} (h : ArgsOk K ca M H fl vs ds ios) : ∀ (i : Nat) (a : Addr), (Fr.at (zs fl ds) i).own = true → (vs.map some)[i]? = some (some (.ref a)) → a ∈ ios := by
  induction h with
  | nil => intro i a z; cases z
  | @v fl v vs d ds ios hf c _ ih =>
    intro i a ho e
    cases i with
    | zero =>
      have ho' : (if fl.headD false then Slot.ow d else .fz d).own = true := ho
      rw [hf] at ho'; cases ho'
    | succ i => exact ih i a ho e
  | @io fl b vs d ds ios hf hm c hn _ ih =>
    intro i a ho e
    cases i with
    | zero =>
      have e' : some (some (V.ref b)) = some (some (.ref a)) := e
      cases e'
      exact List.mem_cons_self
    | succ i => exact List.mem_cons_of_mem _ (ih i a ho e)
theorem args_dist {fl : List Bool} {vs : List V} {ds : List D} {ios : List Addr} (h : ArgsOk K ca M H fl vs ds ios) : ∀ (i j : Nat) (a : Addr), i ≠ j → (Fr.at (zs fl ds) i).own = true → (Fr.at (zs fl ds) j).own = true → (vs.map some)[i]? = some (some (.ref a)) → (vs.map some)[j]? = some (some (.ref a)) → False := by
  induction h with
  | nil => intro i j a _ z; cases z
  | @v fl v vs d ds ios hf c _ ih =>
    intro i j a hij oi oj ei ej
    cases i with
    | zero =>
      have oi' : (if fl.headD false then Slot.ow d else .fz d).own = true := oi
      rw [hf] at oi'; cases oi'
    | succ i =>
      cases j with
      | zero =>
        have oj' : (if fl.headD false then Slot.ow d else .fz d).own = true := oj
        rw [hf] at oj'; cases oj'
      | succ j => exact ih i j a (fun z => hij (by rw [z])) oi oj ei ej
  | @io fl b vs d ds ios hf hm c hn hr ih =>
    intro i j a hij oi oj ei ej
    cases i with
    | zero =>
      have e' : some (some (V.ref b)) = some (some (.ref a)) := ei
      cases e'
      cases j with
      | zero => exact hij rfl
      | succ j => exact hn (args_own hr j _ oj ej)
    | succ i =>
      cases j with
      | zero =>
        have e' : some (some (V.ref b)) = some (some (.ref a)) := ej
        cases e'
        exact hn (args_own hr i _ oi ei)
      | succ j => exact ih i j a (fun z => hij (by rw [z])) oi oj ei ej
/-- the slots that a def may change -/
def prs : List Bool → Nat → List Nat
  | [], _ => []
  | true :: r, k => k :: prs r (k + 1)
  | false :: r, k => prs r (k + 1)
theorem args_nil {vs : List V} {ds : List D} {ios : List Addr} : ∀ {fl : List Bool}, ArgsOk K ca M H fl vs ds ios → fl = [] → ios = [] := by
  intro fl h
  induction h with
  | nil => intro _; rfl
  | v hf c _ ih => intro e; subst e; exact ih rfl
  | io hf hm c hn _ ih => intro e; subst e; cases hf
theorem args_outs {σ0 : L2.St} (R : Rep K ca B M' H' σ' S') {fl : List Bool} {vs : List V} {ds : List D} {ios : List Addr} (h : ArgsOk K ca M H fl vs ds ios) : ∀ {k : Nat} {outs : List D}, fl.length ≤ vs.length → (∀ i ∈ prs fl k, σ'[i]? = σ0[i]?) → (∀ i, i < vs.length → σ0[k + i]? = (vs.map some)[i]?) →
    outsS fl k S' = some outs → OutsOk K ca M' H' ios outs := by
  induction h with
  | nil =>
    intro k outs hl hk h0 e
    rename_i fl
    cases fl with
    | nil => cases e; exact .nil
    | cons _ _ => simp at hl
  | @v fl v vs d ds ios hf c hr ih =>
    intro k outs hl hk h0 e
    cases fl with
    | nil => cases e; rw [args_nil hr rfl]; exact .nil
    | cons b fl =>
      cases hf
      refine ih (by simpa using hl) hk (fun i hi => ?_) e
      have := h0 (i + 1) (by simpa using hi)
      rw [show k + 1 + i = k + (i + 1) by omega]
      exact this
  | @io fl a vs d ds ios hf hm c hn hr ih =>
    intro k outs hl hk h0 e
    cases fl with
    | nil => cases hf
    | cons b fl =>
      cases hf
      have e1 : outsS (true :: fl) k S' = (match S'.at k, outsS fl (k + 1) S' with | .ow d, some ds => some (d :: ds) | _, _ => none) := rfl
      rw [e1] at e
      cases es : S'.at k with
      | ow d' =>
        rw [es] at e
        cases eo : outsS fl (k + 1) S' with
        | none => rw [eo] at e; cases e
        | some os =>
          rw [eo] at e
          cases e
          have q := R.slot k
          rw [es] at q
          obtain ⟨a', ea, m, _, cc⟩ := q
          have z := hk k List.mem_cons_self
          have z0 := h0 0 (by simp)
          rw [Nat.add_zero] at z0
          rw [z, z0] at ea
          have ea' : some (some (V.ref a)) = some (some (.ref a')) := ea
          cases ea'
          refine .cons m cc (ih (by simpa using hl) (fun i hi => hk i (List.mem_cons_of_mem _ hi)) (fun i hi => ?_) eo)
          have := h0 (i + 1) (by simpa using hi)
          rw [show k + 1 + i = k + (i + 1) by omega]
          exact this
      | _ => rw [es] at e; cases e
/-- a def's ground -/
def defB (H : Hp) (M : Mset) (ios : List Addr) : Bs := { H0 := H, Wr := fun a => a ∈ ios ∨ H a = none, Hd := fun _ => none, Ex := fun _ _ _ => False, Mc := fun a => M a ∧ a ∉ ios }
theorem defB_ok (hm : ∀ a, M a → H a ≠ none) {ios : List Addr} : (defB H M ios).Ok where
  fresh := fun p hp => .inr hp
  mc := fun a ⟨m, n⟩ w => w.elim n (hm a m)
  hid := fun i a z => nomatch z
theorem at_app (S T : Fr) (i : Nat) : Fr.at (S ++ T) i = if i < S.length then S.at i else T.at (i - S.length) := by
  unfold Fr.at
  rw [List.getElem?_append]
  split <;> rfl
theorem at_rep (n i : Nat) : Fr.at (List.replicate n Slot.no) i = .no := by
  unfold Fr.at
  rw [List.getElem?_replicate]
  split <;> rfl
theorem start_rep {N : List Str} {io : List Bool} {vs : List V} {ds : List D} {ios : List Addr} (hm : ∀ a, M a → H a ≠ none) (h : ArgsOk K ca M H io vs ds ios) (hN : vs.length ≤ N.length) : Rep K ca (defB H M ios) M H (L2.start N vs) (startS io N.length ds) := by
  have hl := h.len
  have e1 : startS io N.length ds = zs io ds ++ List.replicate (N.length - ds.length) .no := by unfold startS; rw [zs_eq]
  have at1 : ∀ i, Fr.at (startS io N.length ds) i = Fr.at (zs io ds) i := fun i => by
    rw [e1, at_app]
    split
    · rfl
    · rename_i hi
      rw [at_rep]
      unfold Fr.at
      rw [List.getElem?_eq_none (by omega)]; rfl
  have own1 : ∀ i, (Fr.at (zs io ds) i).own = true → (L2.start N vs)[i]? = (vs.map some)[i]? := fun i ho => by
    have hi : i < (zs io ds).length := at_lt fun z => by rw [z] at ho; cases ho
    rw [zs_length] at hi
    unfold L2.start
    rw [List.getElem?_append_left (by rw [List.length_map]; omega)]
  refine { len := ?_, slot := fun i => ?_, dist := fun i j a hij oi oj ei ej => ?_, pres := fun a o e _ => e, keep := fun a e => e, mt := hm, mc := fun a z => z.1 }
  · rw [e1, List.length_append, zs_length, List.length_replicate]
    unfold L2.start
    rw [List.length_append, List.length_map, List.length_replicate]
    omega
  · rw [at1]
    by_cases hi : i < vs.length
    · have : (L2.start N vs)[i]? = (vs.map some)[i]? := by unfold L2.start; rw [List.getElem?_append_left (by rw [List.length_map]; exact hi)]
      rw [this]
      exact args_slot (B := defB H M ios) h (fun a ha => Or.inl ha) i i
    · have : Fr.at (zs io ds) i = .no := by unfold Fr.at; rw [List.getElem?_eq_none (by rw [zs_length]; omega)]; rfl
      rw [this]; trivial
  · rw [at1] at oi oj
    rw [own1 i oi] at ei
    rw [own1 j oj] at ej
    exact args_dist h i j a hij oi oj ei ej
end
/-- what is known of the text's errors -/
structure ErOk (P : Program) (K : PySem.W.Frag) (mg : Str → Option Value) (ca : Nat → Addr) (G : Sg) : Prop where
  er : ∀ C f, G.exf C = some f → ∃ fI, ErrTxt P K mg (ca C) fI f
  xf : ∀ C f, G.exf C = some f → XfC K (ca C)
  sub : ∀ C C' f f', G.exf C = some f → G.exf C' = some f' → PySem.W.exmOne K (.ref (ca C')) (.ref (ca C)) = some (decide (C = C'))
section
variable {P : Program} {w : World} {K : PySem.W.Frag} {mg : Str → Option Value} {base : Heap} {ca : Nat → Addr} {G : Gam} {T : Tb} {k : Nat} {f : Addr} {name qual : Str} {params : Arguments} {body : List Stmt} {scope : Scope} {dV kV doc pm cdv ct oc : Value} {an od : Option Addr} {osl : Array (Option Value)} {N ps : List Str}
theorem end_post {M M' : Mset} {H H' : Hp} {σ' : L2.St} {S' : Fr} {io : List Bool} {vs : List V} {ds outs : List D} {ios : List Addr} (hm : ∀ a, M a → H a ≠ none) (h : ArgsOk K ca M H io vs ds ios) (hio : io.length ≤ vs.length) (R : Rep K ca (defB H M ios) M' H' σ' S') (st : Stp M H M' H') (kp : KeepP (prs io 0) (L2.start N vs) σ')
    (e : outsS io 0 S' = some outs) : FPost K ca M H ios outs M' H' := by
  have o := args_outs (σ0 := L2.start N vs) R h hio kp (fun i hi => by
    rw [Nat.zero_add]; unfold L2.start; rw [List.getElem?_append_left (by rw [List.length_map]; exact hi)]) e
  have inM : ∀ {as : List Addr} {os : List D}, OutsOk K ca M' H' as os → ∀ a ∈ as, M' a := by
    intro as os o
    induction o with
    | nil => intro a z; cases z
    | cons m _ _ ih => intro b hb; rcases List.mem_cons.mp hb with rfl | hb; exact m; exact ih b hb
  refine { pres := (fun a u ha n => R.pres a u ha fun z => z.elim n fun y => nomatch (ha.symm.trans y)), keep := R.keep, grow := st.grow, mkeep := fun a ha => ?_, mt := R.mt, outs := o }
  by_cases hi : a ∈ ios
  · exact inM o a hi
  · exact R.mc a ⟨ha, hi⟩
theorem end_res {M M' : Mset} {H H' : Hp} {σ' : L2.St} {S' : Fr} {io : List Bool} {vs : List V} {ds outs : List D} {ios : List Addr} (h : ArgsOk K ca M H io vs ds ios) (hio : io.length ≤ vs.length) (kp : KeepP (prs io 0) (L2.start N vs) σ')
    (e : outsS io 0 S' = some outs) {r : D × Bool} {v : V} (o : ResOk K ca (defB H M ios) σ' S' M' H' r v) : FRes K ca H M' H' r v := by
  unfold ResOk at o
  unfold FRes
  split at o
  · rename_i hr
    rw [if_pos hr]
    obtain ⟨p, ev, m, hw, c, hn⟩ := o
    refine ⟨p, ev, ?_, m, c⟩
    rcases hw with hw | hw
    · exfalso
      -- p stands at a slot that may be changed, and that slot is still its own
      have find : ∀ {fl : List Bool} {vs : List V} {ds : List D} {ios : List Addr}, ArgsOk K ca M H fl vs ds ios → p ∈ ios → ∀ {k : Nat} {outs : List D}, outsS fl k S' = some outs → ∃ i, (k + i) ∈ prs fl k ∧ (vs.map some)[i]? = some (some (.ref p)) ∧ (S'.at (k + i)).own = true ∧ i < vs.length := by
        intro fl vs ds ios h
        induction h with
        | nil => intro z; cases z
        | @v fl v vs d ds ios hf c hr ih =>
          intro hp k outs e
          cases fl with
          | nil => rw [args_nil hr rfl] at hp; cases hp
          | cons b fl =>
            cases hf
            obtain ⟨i, h1, h2, h3, h4⟩ := ih hp e
            have z : k + 1 + i = k + (i + 1) := by omega
            rw [z] at h1 h3
            exact ⟨i + 1, h1, h2, h3, by simpa using h4⟩
        | @io fl a vs d ds ios hf hm c hn hr ih =>
          intro hp k outs e
          cases fl with
          | nil => cases hf
          | cons b fl =>
            cases hf
            have e1 : outsS (true :: fl) k S' = (match S'.at k, outsS fl (k + 1) S' with | .ow d, some ds => some (d :: ds) | _, _ => none) := rfl
            rw [e1] at e
            cases es : S'.at k with
            | ow d' =>
              rw [es] at e
              cases eo : outsS fl (k + 1) S' with
              | none => rw [eo] at e; cases e
              | some os =>
                rcases List.mem_cons.mp hp with rfl | hp
                · exact ⟨0, List.mem_cons_self, rfl, by rw [Nat.add_zero, es]; rfl, by simp⟩
                · obtain ⟨i, h1, h2, h3, h4⟩ := ih hp eo
                  have z : k + 1 + i = k + (i + 1) := by omega
                  rw [z] at h1 h3
                  exact ⟨i + 1, List.mem_cons_of_mem _ h1, h2, h3, by simpa using h4⟩
            | _ => rw [es] at e; cases e
      obtain ⟨i, h1, h2, h3, h4⟩ := find h hw e
      rw [Nat.zero_add] at h1 h3
      refine hn i h3 ?_
      rw [kp i h1]
      unfold L2.start
      rw [List.getElem?_append_left (by rw [List.length_map]; exact h4)]
      exact h2
    · exact hw
  · rename_i hr
    rw [if_neg hr]
    exact o
theorem def_ok (g : GOk P w K mg base ca G T k) (er : ErOk P K mg ca G.toSg) (lk : K.lookup f = some ⟨oc, od, .func (PySem.W.fnOf name qual params body scope dV kV doc pm an cdv ct), osl⟩) (hcd : PySem.W.codeIn K cdv qual = true) (S : FnScope N ps scope)
    {io : List Bool} {cb : List CS} (hio : io.length ≤ ps.length) (hc : okSts T G.toSg N scope (prs io 0) true cb body = true) :
    FnOk P w K mg base (L2.CX P w) (k + 2) f (PySem.W.fnOf name qual params body scope dV kV doc pm an cdv ct) ps (spF K ca io ps.length (runF G io N.length cb)) := by
  have hpl : ps.length ≤ N.length := by have := congrArg List.length S.pre; rw [List.length_take] at this; omega
  refine fn_of lk hcd S (fun vs H Q E h => h.1) fun A outer s H vs Q E room hsp => ?_
  obtain ⟨hl, M, ds, ios, hm, ha, q⟩ := hsp
  have C : StOk (cxOf (L2.CX P w) P w K mg base N qual scope f cdv A outer s H E) ca (fun _ _ _ => False) G T k N scope true (fun cls d _ H => E cls d H) := {
    c := { hN := rfl, hsc := rfl, nd := S.nd, hc := fun _ => rfl, room := fun _ => room, ex := fun _ => rfl, un := by have := room.un; show (A.deeper _).units + 65 < cLine; omega,
           tk := takes_of rfl rfl rfl rfl, g := g, exr := fun z => by cases z }
    po := fun _ => passes_of (K := fun e s'' => L2.CX P w outer H s E e s'') rfl
    fn := fun _ => rfl
    hs := rfl
    hf := rfl
    er := er.er
    xf := er.xf
    sub := er.sub }
  refine ⟨_, (okSts_ss cb body hc C).p, defB H M ios, M, startS io N.length ds, rfl, defB_ok hm, start_rep hm ha (by omega), ?_⟩
  unfold runF at q
  have hio' : io.length ≤ vs.length := by omega
  cases e : evB G cb (startS io N.length ds) with
  | none => rw [e] at q; exact q.elim
  | some pr =>
    obtain ⟨r, S'⟩ := pr
    rw [e] at q
    cases r with
    | error er =>
      intro σ' M' H' cls dd R' st kp eo
      dsimp only at q
      cases eo' : outsS io 0 S' with
      | none => rw [eo'] at q; exact q.elim
      | some outs =>
        rw [eo'] at q
        exact q cls dd M' H' (end_post hm ha hio' R' st kp eo') eo
    | ok fl =>
      intro σ' M' H' R' st kp
      cases fl with
      | bk => exact q.elim
      | ct => exact q.elim
      | nx =>
        dsimp only at q
        cases eo' : outsS io 0 S' with
        | none => rw [eo'] at q; exact q.elim
        | some outs =>
          rw [eo'] at q
          exact q .non M' H' (end_post hm ha hio' R' st kp eo') .non
      | rt d fr =>
        dsimp only at q
        cases eo' : outsS io 0 S' with
        | none => rw [eo'] at q; exact q.elim
        | some outs =>
          rw [eo'] at q
          exact fun v o => q v M' H' (end_post hm ha hio' R' st kp eo') (end_res ha hio' kp eo' o)
end
end Ev
end

section
set_option maxRecDepth 100000
set_option maxHeartbeats 4000000
namespace Ev
open PySem PySem.Spec PyProof.Rows L2
/-- def i: how many names its suite has, its suite -/
abbrev Bd := Nat → Option (Nat × List CS)
/-- what the defs give, calls nested at most n deep -/
def Ph (G : Gam) (bd : Bd) : Nat → Nat → FnR
  | 0 => fun _ _ => none
  | n + 1 => fun i => match bd i with
    | none => fun _ => none
    | some p => runF { G with Phi := Ph G bd n } (G.io i) p.1 p.2
abbrev Gn (G : Gam) (bd : Bd) (n : Nat) : Gam := { G with Phi := Ph G bd n }
section
variable (P : Program) (w : World) (K : PySem.W.Frag) (mg : Str → Option Value) (base : Heap) (ca : Nat → Addr) (G : Gam) (T : Tb) (bd : Bd) (fa : Nat → Addr)
/-- def i stands at f as its core form says -/
structure DefAt (i : Nat) (f : Addr) : Prop where
  ex : ∃ (oc : Value) (od : Option Addr) (name qual : Str) (params : Arguments) (body : List Stmt) (scope : Scope) (dV kV doc pm cdv ct : Value) (an : Option Addr) (osl : Array (Option Value)) (N ps : List Str) (cb : List CS),
    K.lookup f = some ⟨oc, od, .func (PySem.W.fnOf name qual params body scope dV kV doc pm an cdv ct), osl⟩ ∧ PySem.W.codeIn K cdv qual = true ∧ FnScope N ps scope ∧ Binds K (PySem.W.fnOf name qual params body scope dV kV doc pm an cdv ct) ps [] ∧
      ps.length = T.ar i ∧ (G.io i).length ≤ ps.length ∧ bd i = some (N.length, cb) ∧ okSts T G.toSg N scope (prs (G.io i) 0) true cb body = true
  kp : PySem.W.keepIn K (.ref f) = true
structure TxOk : Prop where
  fn : ∀ x i, T.fns.lookup x = some i → mg x = some (.ref (fa i)) ∧ DefAt K G T bd i (fa i)
  free : ∀ x ∈ T.free, mg x = none
  con : ∀ x i d, T.cons.lookup x = some i → G.con i = some d → ∃ u v, mg x = some u ∧ RelV v u ∧ ∀ M H, Dp K ca M H v d
  cls : ∀ x C, T.cls.lookup x = some C → mg x = some (.ref (ca C))
  mkr : ∀ C i, G.init C = some i → L2.Mk K (ca C) (fa i) ∧ DefAt K G T bd i (fa i)
  mth : ∀ C m i, G.mth C m = some i → m ∉ G.flds C ∧ C ∈ G.ids ∧ Meth K (ca C) m (fa i) ∧ DefAt K G T bd i (fa i)
  ok : ∀ C ∈ G.ids, Cls K (ca C)
  fld : ∀ C ∈ G.ids, ∀ f ∈ G.flds C, NoAttr K (ca C) f
  isi : ∀ C ∈ G.ids, PySem.W.findIn K (.ref (ca C)) "__class__" = some (some (.builtin "object.__class__")) ∧ PySem.W.specialIn K (.builtin "object.__class__") "__get__" = some (some (.builtin "getset_descriptor.__get__")) ∧
    PySem.W.takesIn K (.builtin "object.__class__") = some true ∧ PySem.W.mroIn K (ca C) (.type "object") = some true
  kit : ∀ C ∈ G.ids, (∀ C' ∈ G.ids, PySem.W.kitOne K (.ref (ca C)) (.ref (ca C')) = some (C' == C)) ∧ (∀ n ∈ tys, PySem.W.kitOne K (.type n) (.ref (ca C)) = some false) ∧ ∀ n ∈ tys, PySem.W.kitOne K (.ref (ca C)) (.type n) = some false
  er : ErOk P K mg ca G.toSg
  ek : ∀ C t b, G.ekit C t = some b → ExcC K (ca C) ∧ PySem.W.kitOne K (.ref (ca C)) (tyVal ca t) = some b
end
section
variable {P : Program} {w : World} {K : PySem.W.Frag} {mg : Str → Option Value} {base : Heap} {ca : Nat → Addr} {G : Gam} {T : Tb} {bd : Bd} {fa : Nat → Addr}
theorem spF_none {io : List Bool} {n : Nat} {vs : List V} {H : Hp} {Q : VK} {E : XK} (h : spF K ca io n (fun _ => none) vs H Q E) : False := by
  obtain ⟨_, _, _, _, _, _, z⟩ := h
  exact z
theorem at_zero {i : Nat} {f : Addr} (d : DefAt K G T bd i f) : FnAt P w K mg base ca (Gn G bd 0) T 0 i f := by
  obtain ⟨oc, od, name, qual, params, body, scope, dV, kV, doc, pm, cdv, ct, an, osl, N, ps, cb, lk, hcd, S, hb, har, hio, hbd, hok⟩ := d.ex
  refine ⟨⟨_, ps, har, hb, fun vs H Q E h => h.1, fun A outer s H args us vs Q E _ _ _ _ h => ?_⟩, d.kp⟩
  exact (spF_none h).elim
theorem at_succ {n : Nat} {i : Nat} {f : Addr} (g : GOk P w K mg base ca (Gn G bd n) T (2 * n)) (er : ErOk P K mg ca G.toSg) (d : DefAt K G T bd i f) : FnAt P w K mg base ca (Gn G bd (n + 1)) T (2 * (n + 1)) i f := by
  obtain ⟨oc, od, name, qual, params, body, scope, dV, kV, doc, pm, cdv, ct, an, osl, N, ps, cb, lk, hcd, S, hb, har, hio, hbd, hok⟩ := d.ex
  refine ⟨⟨_, ps, har, hb, ?_⟩, d.kp⟩
  have e : Ph G bd (n + 1) i = runF (Gn G bd n) (G.io i) N.length cb := by
    show (match bd i with | none => fun _ => none | some p => runF { G with Phi := Ph G bd n } (G.io i) p.1 p.2) = _
    rw [hbd]
  show FnOk P w K mg base (L2.CX P w) (2 * n + 2) f _ ps (spF K ca (G.io i) ps.length (Ph G bd (n + 1) i))
  rw [e]
  exact def_ok (G := Gn G bd n) g er lk hcd S hio hok
theorem tx_gok (t : TxOk P K mg ca G T bd fa) : ∀ n, GOk P w K mg base ca (Gn G bd n) T (2 * n)
  | 0 => { fn := fun x i h => ⟨_, (t.fn x i h).1, at_zero (t.fn x i h).2⟩, free := t.free, con := t.con, cls := t.cls, mkr := fun C i h => ⟨_, (t.mkr C i h).1, at_zero (t.mkr C i h).2⟩,
           mth := fun C m i h => ⟨(t.mth C m i h).1, (t.mth C m i h).2.1, _, (t.mth C m i h).2.2.1, at_zero (t.mth C m i h).2.2.2⟩, ok := t.ok, fld := t.fld, isi := t.isi, kit := t.kit, ert := fun C f e => ⟨t.er.er C f e, t.er.xf C f e⟩, ek := t.ek }
  | n + 1 => by
    have g := tx_gok t n
    exact { fn := fun x i h => ⟨_, (t.fn x i h).1, at_succ g t.er (t.fn x i h).2⟩, free := t.free, con := t.con, cls := t.cls, mkr := fun C i h => ⟨_, (t.mkr C i h).1, at_succ g t.er (t.mkr C i h).2⟩,
            mth := fun C m i h => ⟨(t.mth C m i h).1, (t.mth C m i h).2.1, _, (t.mth C m i h).2.2.1, at_succ g t.er (t.mth C m i h).2.2.2⟩, ok := t.ok, fld := t.fld, isi := t.isi, kit := t.kit, ert := fun C f e => ⟨t.er.er C f e, t.er.xf C f e⟩, ek := t.ek }
/-- def i of the text, called n deep at most, keeps what its core form says -/
theorem tx_fn (t : TxOk P K mg ca G T bd fa) (n : Nat) {x : Str} {i : Nat} (h : T.fns.lookup x = some i) : mg x = some (.ref (fa i)) ∧ FnAt P w K mg base ca (Gn G bd n) T (2 * n) i (fa i) := by
  refine ⟨(t.fn x i h).1, ?_⟩
  obtain ⟨f, e, F⟩ := (tx_gok (w := w) (base := base) t n).fn x i h
  rw [(t.fn x i h).1] at e
  cases e
  exact F
end
end Ev
end

section
set_option maxRecDepth 100000
set_option maxHeartbeats 4000000
namespace Ev
open PySem PySem.W PySem.Calls PyProof.Rows PySem.HandSPX
/-! ### an error's class -/
def clB (K : Frag) (C : Addr) : Bool := match K.lookup C with
  | some ⟨.type t, _, .cls cd, sl⟩ => t == "type" && (match cd.mro, sl.toList with
    | .ref C' :: bm, [_, _, _, _, some (.builtin n), _] => C' == C && n == "ValueError.__new__" && !cd.hasDel && cd.hasDict && refsVE bm && decide (alongIn K "__init__" bm = some (some (.builtin "ValueError.__init__")))
    | _, _ => false)
  | _ => false
theorem clB_ok {K : Frag} {C : Addr} (h : clB K C = true) : ∃ nm q N bs bm sn sub ab col dd k0 k1 k2 k3 k5, K.lookup C = some (excClassObj nm q C N bs bm true sn sub ab col dd k0 k1 k2 k3 k5 "ValueError.__new__") ∧ refsVE bm = true ∧ alongIn K "__init__" bm = some (some (.builtin "ValueError.__init__")) := by
  unfold clB at h
  split at h
  · rename_i t dd cd sl ho
    simp only [Bool.and_eq_true, beq_iff_eq] at h
    obtain ⟨rfl, h⟩ := h
    split at h
    · rename_i C' bm k0 k1 k2 k3 n k5 hm hs
      simp only [Bool.and_eq_true, beq_iff_eq, Bool.not_eq_true', decide_eq_true_eq] at h
      obtain ⟨⟨⟨⟨⟨rfl, rfl⟩, hdel⟩, hdct⟩, hr⟩, ha⟩ := h
      obtain ⟨nm, bs, mro, ns, qn, hd, sn, sub, ab, col, del⟩ := cd
      dsimp only at hm hdel hdct
      subst hm hdel hdct
      obtain ⟨l⟩ := sl
      simp only at hs
      subst hs
      exact ⟨nm, qn, ns, bs, bm, sn, sub, ab, col, dd, k0, k1, k2, k3, k5, ho, hr, ha⟩
    · cases h
  · cases h
/-! ### its __init__ -/
def parB (f : Str) : Arguments → Bool
  | ⟨[], [⟨s, none, _⟩, ⟨f', none, _⟩], none, [], [], none, []⟩ => s == "self" && f' == f
  | _ => false
theorem parB_ok {f : Str} {a : Arguments} (h : parB f a = true) : ∃ a1 a2, a = errA f a1 a2 := by
  unfold parB at h
  split at h
  · simp only [Bool.and_eq_true, beq_iff_eq] at h
    obtain ⟨rfl, rfl⟩ := h
    exact ⟨_, _, rfl⟩
  · cases h
def bodB (f : Str) : FuncBody → Bool
  | .stmts [.Expr (.Call (.Attribute (.Call (.Name n1 _) [] [] _) n2 p2) [.Constant (.str _) _ _] [] p4) _, .Assign [.Attribute (.Name n3 _) n4 _] (.Name n5 _) _] =>
    n1 == "super" && n2 == "__init__" && n3 == "self" && n4 == f && n5 == f && (p2.endLine == p4.line)
  | _ => false
theorem bodB_ok {f : Str} {b : FuncBody} (h : bodB f b = true) : ∃ msg j p0 p1 p2 p3 p4 p5 q1 q2 q3 q4, b = .stmts (errB f msg j p0 p1 p2 p3 p4 p5 q1 q2 q3 q4) ∧ (p2.endLine == p4.line) = true := by
  unfold bodB at h
  split at h
  · simp only [Bool.and_eq_true] at h
    obtain ⟨⟨⟨⟨⟨h1, h2⟩, h3⟩, h4⟩, h5⟩, h6⟩ := h
    have e1 := beq_iff_eq.mp h1
    have e2 := beq_iff_eq.mp h2
    have e3 := beq_iff_eq.mp h3
    have e4 := beq_iff_eq.mp h4
    have e5 := beq_iff_eq.mp h5
    subst e1 e2 e3 e4 e5
    exact ⟨_, _, _, _, _, _, _, _, _, _, _, _, rfl, h6⟩
  · cases h
def cloB (K : Frag) (C : Addr) : List (Str × Addr) → Bool
  | [(n, cc)] => n == "__class__" && (match K.lookup cc with
    | some ⟨_, _, .cell (some (.ref D)), _⟩ => D == C
    | _ => false)
  | _ => false
theorem cloB_ok {K : Frag} {C : Addr} {l : List (Str × Addr)} (h : cloB K C l = true) : ∃ cc cl cld csl, l = [(("__class__" : Str), cc)] ∧ K.lookup cc = some ⟨cl, cld, .cell (some (.ref C)), csl⟩ := by
  unfold cloB at h
  split at h
  · simp only [Bool.and_eq_true, beq_iff_eq] at h
    obtain ⟨rfl, h⟩ := h
    split at h
    · rename_i e
      have := beq_iff_eq.mp h
      subst this
      exact ⟨_, _, _, _, rfl, e⟩
    · cases h
  · cases h
def codB (P : Program) (K : Frag) (q : Str) : Value → Bool
  | .ref cda => codeIn K (.ref cda) q && (match K.lookup cda with
    | some ⟨_, _, .fields vs, _⟩ => (match (vs[2]? : Option Value) with
      | some (Value.str file _) => P.main.file == file
      | _ => false)
    | _ => false)
  | _ => false
theorem codB_ok {P : Program} {K : Frag} {q : Str} {v : Value} (h : codB P K q v = true) : ∃ cda ccl cdd vs ccs file tf, v = .ref cda ∧ codeIn K (.ref cda) q = true ∧ K.lookup cda = some ⟨ccl, cdd, .fields vs, ccs⟩ ∧ vs[2]? = some (.str file tf) ∧ ((P.main.file : Str) == file) = true := by
  unfold codB at h
  split at h
  · rename_i cda
    simp only [Bool.and_eq_true] at h
    obtain ⟨h1, h⟩ := h
    split at h
    · rename_i e
      split at h
      · rename_i e2
        exact ⟨_, _, _, _, _, _, _, rfl, h1, e, e2, h⟩
      · cases h
    · cases h
  · cases h
def isNon : Value → Bool
  | .none => true
  | _ => false
theorem isNon_ok {v : Value} (h : isNon v = true) : v = .none := by cases v <;> first | rfl | cases h
def errScope (f : Str) (sc : Scope) : Bool := decide (sc.names.lookup ("super" : Str) = some .globalImplicit) && decide (sc.names.lookup ("__class__" : Str) = some .free) && decide (sc.names.lookup ("self" : Str) = some .local) && decide (sc.names.lookup f = some .local) &&
  sc.names.all (fun y => decide (y.2 ≠ .cell)) && !sc.isCoroutine && !sc.isGenerator && decide (sc.kind = .function)
def fnB (P : Program) (K : Frag) (C : Addr) (f : Str) : FuncData → Bool
  | ⟨_, q, params, body, sc, gl, clo, dV, _, _, _, _, cdv, _, bl⟩ => parB f params && bodB f body && decide (gl = mainGlobals) && decide (bl = builtinsNs) && cloB K C clo && isNon dV && codB P K q cdv && errScope f sc
def errFnB (P : Program) (K : Frag) (C : Addr) (f : Str) : Bool := match K.lookup (He.ma K C "__init__") with
  | some ⟨_, _, .func fd, _⟩ => fnB P K C f fd
  | _ => false
def errB1 (P : Program) (K : Frag) (C : Addr) (f : Str) : Bool := clB K C && errFnB P K C f && decide (findIn K (.ref C) "__setattr__" = some (some (.builtin "object.__setattr__"))) && decide (findIn K (.ref C) f = some none) &&
  decide (findIn K (.ref C) "__init__" = some (some (.ref (He.ma K C "__init__")))) && decide (typeIn K (.ref (He.ma K C "__init__")) = some (.type "function")) && keepIn K (.ref C) && decide (subIn K (.ref C) (.type "BaseException") = some true) &&
  decide (subIn K (.ref C) (.type "ValueError") = some true) && decide (typeIn K (.ref C) = some (.type "type")) && hasDictIn K C && decide (nsIn K cStatics "thirdparty.any" = some none) && decide (mroIn K C (.ref C) = some true)
theorem errB_ok {P : Program} {K : Frag} {mg : Str → Option Value} {C : Addr} {f : Str} (h : errB1 P K C f = true) (hs : mg "super" = none) (ht : (P.main.scope.names.lookup ("super" : Str)).isSome = false) (fne : f ≠ "self") (fdb : (f == ("__debug__" : Str)) = false)
    (hb : ∀ (nm qn : Str) (a1 a2 : Pos) (body : List Stmt) (sc : Scope) (kV doc pm cdv ct : Value) (an : Option Addr) (cc : Addr) (s : Shared) (x v : Value), BindsTo s (ksFn nm qn (errA f a1 a2) body sc .none kV doc pm an cdv ct cc) ⟨[x, v], []⟩ [("self", x), (f, v)]) :
    ErrTxt P K mg C (He.ma K C "__init__") f := by
  unfold errB1 at h
  simp only [Bool.and_eq_true, decide_eq_true_eq] at h
  obtain ⟨⟨⟨⟨⟨⟨⟨⟨⟨⟨⟨⟨h1, h2⟩, h3⟩, h4⟩, h5⟩, h6⟩, h7⟩, h8⟩, h9⟩, h10⟩, h11⟩, h12⟩, h13⟩ := h
  refine { cls := clB_ok h1, sa := h3, noN := h4, iC := h5, tC := h6, kC := h7, exC := h8, veC := h9, tyC := h10, hdC := h11, opq := h12, mC := h13, noS := hs, top := ht, fn := ?_, fne := fne, fdb := fdb }
  unfold errFnB at h2
  split at h2
  · rename_i oc od fd osl lk
    obtain ⟨nm, qn, params, body, sc, gl, clo, dV, kV, doc, pm, an, cdv, ct, bl⟩ := fd
    unfold fnB at h2
    simp only [Bool.and_eq_true, decide_eq_true_eq] at h2
    obtain ⟨⟨⟨⟨⟨⟨⟨g1, g2⟩, rfl⟩, rfl⟩, g5⟩, g6⟩, g7⟩, g8⟩ := h2
    obtain ⟨a1, a2, rfl⟩ := parB_ok g1
    obtain ⟨msg, j, p0, p1, p2, p3, p4, p5, q1, q2, q3, q4, rfl, hl⟩ := bodB_ok g2
    obtain ⟨cc, cl, cld, csl, rfl, hc⟩ := cloB_ok g5
    obtain rfl := isNon_ok g6
    obtain ⟨cda, ccl, cdd, vs, ccs, file, tf, rfl, k1, k2, k3, k4⟩ := codB_ok g7
    unfold errScope at g8
    simp only [Bool.and_eq_true, decide_eq_true_eq, Bool.not_eq_true'] at g8
    obtain ⟨⟨⟨⟨⟨⟨⟨s1, s2⟩, s3⟩, s4⟩, s5⟩, s6⟩, s7⟩, s8⟩ := g8
    refine ⟨oc, od, nm, qn, sc, .none, kV, doc, pm, an, ct, osl, a1, a2, p0, p1, p2, p3, p4, p5, q1, q2, q3, q4, msg, j, cda, cc, ccl, cdd, vs, ccs, file, tf, cl, cld, csl, lk, k1, k2, k3, k4, hc, fun s x v => hb _ _ _ _ _ _ _ _ _ _ _ _ _ s x v, s1, s2, s3, s4, hl, fun y hy => ?_, s6, s7, s8⟩
    exact of_decide_eq_true (List.all_eq_true.mp s5 y hy)
  · cases h2
theorem bind_value (nm qn : Str) (a1 a2 : Pos) (body : List Stmt) (sc : Scope) (kV doc pm cdv ct : Value) (an : Option Addr) (cc : Addr) (s : Shared) (x v : Value) : BindsTo s (ksFn nm qn (errA "value" a1 a2) body sc .none kV doc pm an cdv ct cc) ⟨[x, v], []⟩ [("self", x), ("value", v)] := BindsTo.of_eq (by first | rfl | with_unfolding_all rfl)
theorem bind_many (nm qn : Str) (a1 a2 : Pos) (body : List Stmt) (sc : Scope) (kV doc pm cdv ct : Value) (an : Option Addr) (cc : Addr) (s : Shared) (x v : Value) : BindsTo s (ksFn nm qn (errA "many" a1 a2) body sc .none kV doc pm an cdv ct cc) ⟨[x, v], []⟩ [("self", x), ("many", v)] := BindsTo.of_eq (by first | rfl | with_unfolding_all rfl)
theorem bind_what (nm qn : Str) (a1 a2 : Pos) (body : List Stmt) (sc : Scope) (kV doc pm cdv ct : Value) (an : Option Addr) (cc : Addr) (s : Shared) (x v : Value) : BindsTo s (ksFn nm qn (errA "what" a1 a2) body sc .none kV doc pm an cdv ct cc) ⟨[x, v], []⟩ [("self", x), ("what", v)] := BindsTo.of_eq (by first | rfl | with_unfolding_all rfl)
theorem bind_word (nm qn : Str) (a1 a2 : Pos) (body : List Stmt) (sc : Scope) (kV doc pm cdv ct : Value) (an : Option Addr) (cc : Addr) (s : Shared) (x v : Value) : BindsTo s (ksFn nm qn (errA "word" a1 a2) body sc .none kV doc pm an cdv ct cc) ⟨[x, v], []⟩ [("self", x), ("word", v)] := BindsTo.of_eq (by first | rfl | with_unfolding_all rfl)
end Ev
end

section
set_option maxRecDepth 100000
set_option maxHeartbeats 4000000
namespace Ev
open PySem PySem.Spec PyProof.Rows L2
structure Src where
  fns : List (Str × Nat)
  cls : List (Str × Nat)
  cons : List (Str × Nat)
  cv : List Int
  free : List Str
  ars : List Nat
  ios : List (List Bool)
  inits : List (Nat × Nat)
  mths : List ((Nat × Str) × Nat)
  exfs : List (Nat × Str)
  fldl : List (Nat × List Str)
  ids : List Nat
  /-- classes above the errors that are asked for -/
  ebase : List Nat
  dl : List He.DefD
  info : List (List Str × List CS)
namespace Src
def cn (S : Src) (C : Nat) : Str := ((S.cls.find? fun p => p.2 == C).map (·.1)).getD Str.empty
def T (S : Src) : Tb := { fns := S.fns, cls := S.cls, cons := S.cons, free := S.free, ar := fun i => S.ars.getD i 0 }
def g (S : Src) : Sg := { io := fun i => S.ios.getD i [], init := fun C => S.inits.lookup C, mth := fun C m => S.mths.lookup (C, m), exf := fun C => S.exfs.lookup C, flds := fun C => (S.fldl.lookup C).getD [], ids := S.ids, ekit := fun C t => if S.ebase.isEmpty || (S.exfs.lookup C).isNone then none else match t with
  | .own D => if (S.exfs.lookup D).isSome then some (C == D) else if S.ebase.contains D then some true else none
  | .ty n => if n = "ValueError" then some true else none }
def bd (S : Src) : Bd := fun i => (S.info[i]?).map fun p => (p.1.length, p.2)
def G (S : Src) (fuel : Nat) : Gam := { S.g with Phi := fun _ _ => none, con := fun i => (S.cv[i]?).map .int, fuel := fuel }
def ca (S : Src) (K : PySem.W.Frag) (C : Nat) : Addr := He.ga K (S.cn C)
def at_ (S : Src) (i : Nat) : Str × Option Str := ((S.dl[i]?).map (·.at_)).getD (Str.empty, none)
def fa (S : Src) (K : PySem.W.Frag) (i : Nat) : Addr := He.fAd K (S.at_ i)
def faL (S : Src) : List He.Fa := S.fns.map (fun p => .glo p.1) ++ S.cls.map (fun p => .glo p.1) ++ S.free.map .free ++ [.free "super"] ++ S.cons.map (fun p => .int p.1 (S.cv.getD p.2 0)) ++ S.ids.map (fun C => .cls (S.cn C)) ++
  S.ids.flatMap (fun C => ((S.fldl.lookup C).getD []).map fun f => .noat (S.cn C) f) ++ S.inits.map (fun q => .mkr (S.cn q.1)) ++ S.mths.map (fun q => .meth (S.cn q.1.1) q.1.2)
def errNames : List Str := ["value", "many", "what", "word"]
def stB (S : Src) : Bool := S.cls.all (fun p => S.cn p.2 == p.1) && S.fns.all (fun p => S.at_ p.2 == (p.1, none) && decide (p.2 < S.dl.length)) && S.inits.all (fun q => S.at_ q.2 == (S.cn q.1, some ("__init__" : Str)) && decide (q.2 < S.dl.length)) &&
  S.mths.all (fun q => S.at_ q.2 == (S.cn q.1.1, some q.1.2) && decide (q.2 < S.dl.length) && !(((S.fldl.lookup q.1.1).getD []).contains q.1.2) && S.ids.contains q.1.1) && S.exfs.all (fun p => errNames.contains p.2) && S.cons.all (fun p => decide (p.2 < S.cv.length))
def isiB (K : PySem.W.Frag) (C : Addr) : Bool := decide (PySem.W.findIn K (.ref C) "__class__" = some (some (.builtin "object.__class__"))) && decide (PySem.W.specialIn K (.builtin "object.__class__") "__get__" = some (some (.builtin "getset_descriptor.__get__"))) &&
  decide (PySem.W.takesIn K (.builtin "object.__class__") = some true) && decide (PySem.W.mroIn K C (.type "object") = some true)
def excB (K : PySem.W.Frag) (D : Addr) : Bool := decide (PySem.W.findIn K (.ref D) "__getattribute__" = some (some (.builtin "BaseException.__getattribute__"))) && decide (PySem.W.findIn K (.ref D) "__getattr__" = some none) && decide (PySem.W.subIn K (.ref D) (.type "BaseException") = some true) && PySem.W.hasDictIn K D && isiB K D
def ekB (S : Src) (K : PySem.W.Frag) : Bool := S.ebase.isEmpty || S.exfs.all fun p => excB K (S.ca K p.1) && S.exfs.all (fun q => decide (PySem.W.kitOne K (.ref (S.ca K p.1)) (.ref (S.ca K q.1)) = some (p.1 == q.1))) && S.ebase.all (fun D => decide (PySem.W.kitOne K (.ref (S.ca K p.1)) (.ref (S.ca K D)) = some true)) &&
  decide (PySem.W.kitOne K (.ref (S.ca K p.1)) (.type "ValueError") = some true)
def exB (S : Src) (P : Program) (K : PySem.W.Frag) : Bool := S.ids.all (fun C => isiB K (S.ca K C) && S.ids.all (fun C' => decide (PySem.W.kitOne K (.ref (S.ca K C)) (.ref (S.ca K C')) = some (C' == C))) &&
    tys.all (fun n => decide (PySem.W.kitOne K (.type n) (.ref (S.ca K C)) = some false) && decide (PySem.W.kitOne K (.ref (S.ca K C)) (.type n) = some false))) &&
  S.exfs.all (fun p => errB1 P K (S.ca K p.1) p.2 && xfB K (S.ca K p.1) && S.exfs.all fun q => decide (PySem.W.exmOne K (.ref (S.ca K q.1)) (.ref (S.ca K p.1)) = some (decide (p.1 = q.1)))) && S.ekB K
end Src
theorem lookup_mem' {α β : Type} [BEq α] [LawfulBEq α] {a : α} {b : β} : ∀ {l : List (α × β)}, l.lookup a = some b → (a, b) ∈ l
  | [], h => by cases h
  | (x, y) :: r, h => by
    rw [List.lookup_cons] at h
    cases e : a == x with
    | true =>
      rw [e] at h
      cases h
      rw [beq_iff_eq.mp e]
      exact List.mem_cons_self
    | false =>
      rw [e] at h
      exact List.mem_cons_of_mem _ (lookup_mem' h)
/-- a def of the text by the run's heap -/
theorem defAt_of {K : PySem.W.Frag} {G : Gam} {T : Tb} {bd : Bd} {i : Nat} {f : Addr} {name qual : Str} {params : Arguments} {body : List Stmt} {scope : Scope} {N ps : List Str} {cb : List CS} (F : ∃ fd, FunD K name qual params body scope [] [] f fd) (S : FnScope N ps scope)
    (hb : ∀ (kV doc pm : Value) (an : Option Addr) (cdv ct : Value) (us : List Value), us.length = ps.length → bindArgs (PySem.W.fnOf name qual params body scope .none kV doc pm an cdv ct) ⟨us, []⟩ = pure (ps.zip us))
    (har : ps.length = T.ar i) (hio : (G.io i).length ≤ ps.length) (hbd : bd i = some (N.length, cb)) (hok : okSts T G.toSg N scope (prs (G.io i) 0) true cb body = true) : DefAt K G T bd i f := by
  obtain ⟨fd, F⟩ := F
  have hB : Binds K fd ps [] := F.bindsN hb
  obtain ⟨oc, od, dV, kV, doc, pm, an, cdv, ct, osl, rfl, lk, hcd, _, _⟩ := F.ex
  exact ⟨⟨oc, od, name, qual, params, body, scope, dV, kV, doc, pm, cdv, ct, an, osl, N, ps, cb, lk, hcd, S, hB, har, hio, hbd, hok⟩, F.kp⟩
theorem Src.tx (S : Src) {P : Program} {K : PySem.W.Frag} {h : Heap} {mg : Str → Option Value} {fuel : Nat} (X : K.In h) (Gb : h.Ns mainGlobals mg) (hf : ∀ f ∈ S.faL, f.ok K = true) (st : S.stB = true) (ex : S.exB P K = true) (top : (P.main.scope.names.lookup ("super" : Str)).isSome = false)
    (hd : ∀ i, i < S.dl.length → DefAt K (S.G fuel) S.T S.bd i (S.fa K i)) : TxOk P K mg (S.ca K) (S.G fuel) S.T S.bd (S.fa K) := by
  unfold Src.stB at st
  simp only [Bool.and_eq_true] at st
  obtain ⟨⟨⟨⟨⟨t1, t2⟩, t3⟩, t4⟩, t5⟩, t6⟩ := st
  unfold Src.exB at ex
  simp only [Bool.and_eq_true] at ex
  obtain ⟨⟨x1, x2⟩, x3⟩ := ex
  have inL : ∀ f, f ∈ S.faL ↔ (((((((((∃ a, a ∈ S.fns ∧ He.Fa.glo a.fst = f) ∨ ∃ a, a ∈ S.cls ∧ He.Fa.glo a.fst = f) ∨ ∃ a, a ∈ S.free ∧ He.Fa.free a = f) ∨ f = He.Fa.free (Str.ofString "super")) ∨ ∃ a, a ∈ S.cons ∧ He.Fa.int a.fst (S.cv.getD a.snd 0) = f) ∨
      ∃ a, a ∈ S.ids ∧ He.Fa.cls (S.cn a) = f) ∨ ∃ a, a ∈ S.ids ∧ ∃ b, b ∈ (List.lookup a S.fldl).getD [] ∧ He.Fa.noat (S.cn a) b = f) ∨ ∃ a, a ∈ S.inits ∧ He.Fa.mkr (S.cn a.fst) = f) ∨ ∃ a, a ∈ S.mths ∧ He.Fa.meth (S.cn a.fst.fst) a.fst.snd = f) := fun f => by unfold Src.faL; simp only [List.mem_append, List.mem_map, List.mem_flatMap, List.mem_cons, List.not_mem_nil, or_false]
  have clsN : ∀ {x C}, S.cls.lookup x = some C → S.cn C = x := fun {x C} e => by
    have := List.all_eq_true.mp t1 _ (lookup_mem' e)
    exact beq_iff_eq.mp this
  refine {
    fn := fun x i e => ?_
    free := fun x e => He.free_ok X Gb (hf _ ?_)
    con := fun x i d e1 e2 => ?_
    cls := fun x C e => ?_
    mkr := fun C i e => ?_
    mth := fun C m i e => ?_
    ok := fun C e => He.cls_ok (hf _ ?_)
    fld := fun C e f ef => He.noat_ok (hf _ ?_)
    isi := fun C e => ?_
    kit := fun C e => ?_
    er := ?_
    ek := fun C t b e => ?_ }
  · have e' : S.fns.lookup x = some i := e
    have m := lookup_mem' e'
    have q := List.all_eq_true.mp t2 _ m
    simp only [Bool.and_eq_true, beq_iff_eq, decide_eq_true_eq] at q
    refine ⟨?_, hd i q.2⟩
    have := He.glo_ok X Gb (hf (.glo x) (by rw [inL]; exact .inl (.inl (.inl (.inl (.inl (.inl (.inl (.inl ⟨_, m, rfl⟩)))))))))
    rw [this]
    unfold Src.fa
    rw [q.1]
    rfl
  · rw [inL]; exact .inl (.inl (.inl (.inl (.inl (.inl (.inr ⟨x, e, rfl⟩))))))
  · have e' : S.cons.lookup x = some i := e1
    have m := lookup_mem' e'
    have q := of_decide_eq_true (List.all_eq_true.mp t6 _ m)
    have e2' : (S.cv[i]?).map D.int = some d := e2
    rw [List.getElem?_eq_getElem q] at e2'
    cases e2'
    obtain ⟨t, ht⟩ := He.int_ok X Gb (hf (.int x (S.cv.getD i 0)) (by rw [inL]; exact .inl (.inl (.inl (.inl (.inr ⟨_, m, rfl⟩))))))
    refine ⟨_, .int (S.cv[i]), ht, ⟨t, ?_⟩, fun M H => .int _⟩
    rw [List.getD_eq_getElem?_getD, List.getElem?_eq_getElem q]
    rfl
  · have e' : S.cls.lookup x = some C := e
    have m := lookup_mem' e'
    have := He.glo_ok X Gb (hf (.glo x) (by rw [inL]; exact .inl (.inl (.inl (.inl (.inl (.inl (.inl (.inr ⟨_, m, rfl⟩)))))))))
    rw [this]
    unfold Src.ca
    rw [clsN e']
  · have e' : S.inits.lookup C = some i := e
    have m := lookup_mem' e'
    have q := List.all_eq_true.mp t3 _ m
    simp only [Bool.and_eq_true, beq_iff_eq, decide_eq_true_eq] at q
    refine ⟨?_, hd i q.2⟩
    have := He.mkr_ok (hf (.mkr (S.cn C)) (by rw [inL]; exact .inl (.inr ⟨_, m, rfl⟩)))
    unfold Src.fa
    rw [q.1]
    exact this
  · have e' : S.mths.lookup (C, m) = some i := e
    have mm := lookup_mem' e'
    have q := List.all_eq_true.mp t4 _ mm
    simp only [Bool.and_eq_true, beq_iff_eq, decide_eq_true_eq, Bool.not_eq_true'] at q
    obtain ⟨⟨⟨q1, q2⟩, q3⟩, q4⟩ := q
    refine ⟨?_, (show C ∈ S.ids by simpa using q4), ?_, hd i q2⟩
    · show m ∉ (S.fldl.lookup C).getD []
      intro z
      have := List.contains_iff_mem.mpr z
      rw [this] at q3; cases q3
    · have := He.meth_ok (hf (.meth (S.cn C) m) (by rw [inL]; exact .inr ⟨_, mm, rfl⟩))
      unfold Src.fa
      rw [q1]
      exact this
  · rw [inL]; exact .inl (.inl (.inl (.inr ⟨C, e, rfl⟩)))
  · rw [inL]; exact .inl (.inl (.inr ⟨C, e, f, ef, rfl⟩))
  · have q := List.all_eq_true.mp x1 C e
    simp only [Src.isiB, Bool.and_eq_true, decide_eq_true_eq] at q
    obtain ⟨⟨⟨⟨⟨q1, q2⟩, q3⟩, q4⟩, _⟩, _⟩ := q
    exact ⟨q1, q2, q3, q4⟩
  · have q := List.all_eq_true.mp x1 C e
    simp only [Bool.and_eq_true] at q
    obtain ⟨⟨_, q2⟩, q3⟩ := q
    refine ⟨fun C' e' => of_decide_eq_true (List.all_eq_true.mp q2 C' e'), fun n hn => ?_, fun n hn => ?_⟩
    · have := List.all_eq_true.mp q3 n hn
      simp only [Bool.and_eq_true, decide_eq_true_eq] at this
      exact this.1
    · have := List.all_eq_true.mp q3 n hn
      simp only [Bool.and_eq_true, decide_eq_true_eq] at this
      exact this.2
  · have one : ∀ {C f}, S.exfs.lookup C = some f → errB1 P K (S.ca K C) f = true ∧ xfB K (S.ca K C) = true ∧ (∀ C' f', S.exfs.lookup C' = some f' → PySem.W.exmOne K (.ref (S.ca K C')) (.ref (S.ca K C)) = some (decide (C = C'))) ∧ f ∈ Src.errNames := fun {C f} e => by
      have m := lookup_mem' e
      have q := List.all_eq_true.mp x2 _ m
      simp only [Bool.and_eq_true] at q
      refine ⟨q.1.1, q.1.2, fun C' f' e' => of_decide_eq_true (List.all_eq_true.mp q.2 _ (lookup_mem' e')), ?_⟩
      have := List.all_eq_true.mp t5 _ m
      simpa using this
    have noS : mg "super" = none := He.free_ok X Gb (hf (.free "super") (by rw [inL]; exact .inl (.inl (.inl (.inl (.inl (.inr rfl)))))))
    refine { er := fun C f e => ⟨He.ma K (S.ca K C) "__init__", ?_⟩, xf := fun C f e => xfB_ok (one e).2.1, sub := fun C C' f f' e e' => (one e).2.2.1 C' f' e' }
    obtain ⟨h1, _, _, h4⟩ := one (C := C) (f := f) e
    have key : f = "value" ∨ f = "many" ∨ f = "what" ∨ f = "word" := by
      unfold Src.errNames at h4
      simpa using h4
    rcases key with rfl | rfl | rfl | rfl
    · exact errB_ok h1 noS top (by decide +kernel) (by decide +kernel) bind_value
    · exact errB_ok h1 noS top (by decide +kernel) (by decide +kernel) bind_many
    · exact errB_ok h1 noS top (by decide +kernel) (by decide +kernel) bind_what
    · exact errB_ok h1 noS top (by decide +kernel) (by decide +kernel) bind_word
  · have e' : (if S.ebase.isEmpty || (S.exfs.lookup C).isNone then none else match t with
      | .own D => if (S.exfs.lookup D).isSome then some (C == D) else if S.ebase.contains D then some true else none
      | .ty n => if n = "ValueError" then some true else none) = some b := e
    unfold Src.ekB at x3
    split at e'
    · cases e'
    · rename_i hne
      simp only [Bool.or_eq_true, not_or, Bool.not_eq_true, Option.isNone_eq_false_iff] at hne
      obtain ⟨hne, hC⟩ := hne
      obtain ⟨f, hf⟩ := Option.isSome_iff_exists.mp hC
      rw [hne, Bool.false_or] at x3
      have q := List.all_eq_true.mp x3 _ (lookup_mem' hf)
      simp only [Bool.and_eq_true, decide_eq_true_eq] at q
      obtain ⟨⟨⟨q1, q2⟩, q3⟩, q4⟩ := q
      have E : ExcC K (S.ca K C) := by
        unfold Src.excB Src.isiB at q1
        simp only [Bool.and_eq_true, decide_eq_true_eq] at q1
        obtain ⟨⟨⟨⟨r1, r2⟩, r3⟩, r4⟩, ⟨⟨r5, r6⟩, r7⟩, r8⟩ := q1
        exact ⟨r1, r2, r3, r4, r5, r6, r7, r8⟩
      refine ⟨E, ?_⟩
      cases t with
      | own D =>
        dsimp only at e'
        split at e'
        · rename_i hD
          cases e'
          obtain ⟨g, hg⟩ := Option.isSome_iff_exists.mp hD
          exact of_decide_eq_true (List.all_eq_true.mp q2 _ (lookup_mem' hg))
        · split at e'
          · rename_i hD
            cases e'
            exact of_decide_eq_true (List.all_eq_true.mp q3 D (by simpa using hD))
          · cases e'
      | ty n =>
        dsimp only at e'
        split at e'
        · rename_i hn
          cases e'
          subst hn
          exact q4
        · cases e'
end Ev
end

section
set_option maxRecDepth 100000
set_option maxHeartbeats 4000000
namespace Ev
open PySem PySem.Spec PyProof.Rows L2
/-- a def that lets nothing out -/
theorem calmFn {P : Program} {w : World} {K : PySem.W.Frag} {mg : Str → Option Value} {base : Heap} {k : Nat} {f : Addr} {fd : FuncData} {ps : List Str} {sp : Sp} (F : FnOk P w K mg base (L2.CX P w) k f fd ps sp) : FnOk P w K mg base CX0 k f fd ps (fun vs H Q _ => sp vs H Q NoX) := by
  refine ⟨fun vs H Q E h => F.len vs H Q NoX h, fun A outer s H args us vs Q E hr e b v h => codeAny_mono (F.run A outer s H args us vs Q NoX hr e b v h) fun r s' z => ?_⟩
  cases r with
  | error e =>
    obtain ⟨_, _, _, _, _, _, _, _, _, _, _, _, no⟩ := z
    exact no.elim
  | ok fl => cases fl <;> exact z
theorem law_walk {S : Src} {P : Program} {K : PySem.W.Frag} {mg : Str → Option Value} {fuel n i : Nat} (t : TxOk P K mg (S.ca K) (S.G fuel) S.T S.bd (S.fa K)) {name qual x : Str} {params : Arguments} {body : List Stmt} {scope : Scope} {N : List Str} {cb : List CS}
    (F : ∃ fd, FunD K name qual params body scope [] [] (S.fa K i) fd) (Sc : FnScope N [x] scope)
    (hb : ∀ (kV doc pm : Value) (an : Option Addr) (cdv ct : Value) (us : List Value), us.length = [x].length → bindArgs (PySem.W.fnOf name qual params body scope .none kV doc pm an cdv ct) ⟨us, []⟩ = pure ([x].zip us))
    (hio : S.g.io i = []) (hbd : S.bd i = some (N.length, cb)) (hok : okSts S.T S.g N scope (prs (S.g.io i) 0) true cb body = true)
    (hval : ∀ ns : List Int, ns.length ≤ 63 → ∃ fl, Ph (S.G fuel) S.bd (n + 1) i [.scr ns] = some ([], .ok (.bl true, fl))) :
    ∃ fd, (∀ (s : Shared) (u : Value), BindsTo s fd ⟨[u], []⟩ [(x, u)]) ∧ ∃ sp : Sp, (∀ (H : Hp) (a : Addr) (ns : List Int), ns.length ≤ 63 → Only H → SqL K H a (ns.map V.int) → sp [.ref a] H (fun v _ => v = .bl true) fun _ _ _ => False) ∧
      ∀ (w : World) (base : Heap), K.In base → base.Ns mainGlobals mg → FnOk P w K mg base CX0 (2 * n + 2) (S.fa K i) fd [x] sp := by
  obtain ⟨fd, F⟩ := F
  have hA := F.bindsA (ps := [x]) hb
  obtain ⟨oc, od, dV, kV, doc, pm, an, cdv, ct, osl, rfl, lk, hcd, _, _⟩ := F.ex
  refine ⟨_, fun s u => hA s [u] rfl, fun vs H Q _ => spF K (S.ca K) [] 1 (Ph (S.G fuel) S.bd (n + 1) i) vs H Q NoX, fun H a ns hl hO hS => ?_, fun w base hK hN => ?_⟩
  · obtain ⟨fl, e⟩ := hval ns hl
    refine ⟨rfl, fun _ => False, [.scr ns], [], fun _ z => z.elim, .v rfl (.scr (hS.elim (fun z => .inl ⟨z, fun y => y⟩) .inr)) .nil, ?_⟩
    rw [e]
    intro v M' H' _ r
    unfold FRes at r
    split at r
    · obtain ⟨p, _, _, _, c⟩ := r
      cases c
    · cases r; rfl
  · have e : Ph (S.G fuel) S.bd (n + 1) i = runF (Gn (S.G fuel) S.bd n) (S.g.io i) N.length cb := by
      show (match S.bd i with | none => fun _ => none | some p => runF { S.G fuel with Phi := Ph (S.G fuel) S.bd n } (S.g.io i) p.1 p.2) = _
      rw [hbd]
    have D := def_ok (w := w) (base := base) (G := Gn (S.G fuel) S.bd n) (io := S.g.io i) (tx_gok t n) t.er lk hcd Sc (by rw [hio]; simp) hok
    rw [← e, hio] at D
    exact calmFn D
end Ev
end

section
set_option maxRecDepth 100000
set_option maxHeartbeats 4000000
namespace Ev
open PySem PySem.Spec PyProof.Rows L2
def asP (g : Addr → Option Obj) (n : Nat) : List Addr := He.asD g n ++ [cStatics]
def frP (g : Addr → Option Obj) (n : Nat) : PySem.W.Frag := He.frG g (asP g n)
def obsP (n : Nat) (fa : List He.Fa) (fn : List He.DefD) (ex : PySem.W.Frag → Bool) (g : Addr → Option Obj) : He.AlD × Bool := (He.obsD fa fn (frP g n), ex (frP g n))
def hookP (n : Nat) (fa : List He.Fa) (fn : List He.DefD) (ex : PySem.W.Frag → Bool) : PySem.W.Hook where
  α := He.AlD × Bool
  obs := fun s => obsP n fa fn ex s.heap.get?
  val := fun _ => (He.valD fn, true)
  says := fun _ h => ∃ K : PySem.W.Frag, K.In h ∧ He.SaysD fa fn K ∧ ex K = true
  of := fun _ _ e => ⟨_, He.frG_in, congrArg (fun z : He.AlD × Bool => z.1) e, congrArg (fun z : He.AlD × Bool => z.2) e⟩
  keeps := fun _ _ _ ⟨K, hK, c⟩ k => ⟨K, PySem.W.Frag.In.keeps hK k, c⟩
theorem obsP_eq {n : Nat} {fa : List He.Fa} {fn : List He.DefD} {ex : PySem.W.Frag → Bool} {g : Addr → Option Obj} {s : Shared} (h : ∀ a, g a = s.heap.get? a) : obsP n fa fn ex g = (hookP n fa fn ex).obs s := by
  have e : g = s.heap.get? := funext h
  rw [e] <;> rfl
end Ev
end

section
set_option maxRecDepth 100000
set_option maxHeartbeats 4000000
namespace Ev
open PySem
section
variable {G : Gam}
theorem evE_comp {e : CE} {t : CT} {k : IK} {it ifs : List CE} {own : List Nat} : evE G (.comp e t k it ifs own) = bnd (evOs G it) fun os => bnd (itemsOf k os) fun p => compF t own (evT G ifs) (evE G e) p := rfl
theorem evE_exv {i : Nat} {f : Str} : evE G (.exv i f) = fun S => match S.at i with
    | .ex C fs => if G.exf C = some f then
        match fs.lookup f with
        | some d => some (.ok (d, false), S)
        | none => none
      else none
    | _ => none := rfl
theorem evE_index {o a : CE} : evE G (.index o a) = bnd (opd o (evE G o)) fun x => bnd (isLst x) fun _ => bnd (opd a (evE G a)) fun y => useOs [x, y] (op2 fun u v => plainR .int (indexD u v)) := rfl
theorem evE_mkE {C : Nat} {e : CE} : evE G (.mkE C e) = bnd (evE G e) fun p => match G.exf C with
      | some f => ret (.err C [(f, p.1)], false)
      | none => stuck := rfl
theorem evE_attE {a : CE} {f : Str} : evE G (.attE a f) = bnd (opd a (evE G a)) fun x => useOs [x] (op1 fun u => plainR id (opAttE G.toSg u f)) := rfl
theorem evE_isiE {a : CE} {t : Ty} : evE G (.isiE a t) = bnd (opd a (evE G a)) fun x => useOs [x] (op1 fun u => plainR .bl (opIsiE G.toSg t u)) := rfl
theorem evS_for {t : CT} {k : IK} {it : List CE} {b : List CS} : evS G (.for t k it b) = bnd (evOs G it) fun os => bnd (itemsOf k os) fun p => forF t (evB G b) p := rfl
theorem evB_cons {s : CS} {r : List CS} : evB G (s :: r) = seqS (evS G s) (evB G r) := rfl
end

/-- a comprehension over one name, every item taken; the frame is told by a state and the name's slot -/
theorem compLoop_st {σ : Type} {asg : D → Fr → Option Fr} {elt : M D} (F : σ → Slot → Fr) (J : List D → σ → Prop) (P : D → D → Prop)
    (ha : ∀ d x s, asg d (F x s) = some (F x (.fz d))) :
    ∀ (ds : List D) (x : σ) (s : Slot), J ds x → ds.length ≤ 1000000 →
      (∀ d r x, J (d :: r) x → ∃ y x', elt (F x (.fz d)) = some (.ok y, F x' (.fz d)) ∧ J r x' ∧ P d y) →
      ∃ ys x' s', compLoop asg (sure (ret true)) (sure elt) ds (F x s) = some (.ok ys, F x' s') ∧ J [] x' ∧ ys.length = ds.length ∧ ∀ y ∈ ys, ∃ d ∈ ds, P d y
  | [], x, s, hj, _, _ => ⟨[], x, s, rfl, hj, rfl, fun y hy => by cases hy⟩
  | d :: ds, x, s, hj, hl, h => by
    have hl' : ds.length + 1 ≤ 1000000 := hl
    obtain ⟨y, x1, e1, hj1, hp⟩ := h d ds x hj
    obtain ⟨ys, x', s', e2, hj2, hn, hps⟩ := compLoop_st F J P ha ds x1 (.fz d) hj1 (by omega) h
    refine ⟨y :: ys, x', s', ?_, hj2, by rw [List.length_cons, List.length_cons, hn], ?_⟩
    · show (match asg d (F x s) with | none => none | some S1 => _) = _
      rw [ha]
      show bnd (sure (ret true)) _ (F x (.fz d)) = _
      rw [bnd_some (x := sure (ret true)) (sure_ok (x := ret true) rfl), if_pos rfl, bnd_some (sure_ok e1), bnd_some e2, if_pos (by rw [hn]; omega)]
      rfl
    · intro z hz
      rcases List.mem_cons.1 hz with rfl | hz
      · exact ⟨d, List.mem_cons_self, hp⟩
      · obtain ⟨d', hd', hp'⟩ := hps z hz
        exact ⟨d', List.mem_cons_of_mem _ hd', hp'⟩
theorem compF_st {σ : Type} {elt : M (D × Bool)} {t : CT} {own : List Nat} {hid : Option Nat} (F : σ → Slot → Fr) (J : List D → σ → Prop) (P : D → D → Prop) {ds : List D} {x : σ} {s : Slot}
    (hj : J ds x) (hl : ds.length ≤ 1000000)
    (h : ∀ d r x, J (d :: r) x → ∃ y f x', elt (F x (.fz d)) = some (.ok (y, f), F x' (.fz d)) ∧ J r x' ∧ P d y)
    (ha : ∀ d x s, asgT t d (wipeS (F x s) own) = some (F x (.fz d)) := by intros; rfl)
    (hr : ∀ x x' s', restS (F x s) (F x' s') own = F x' s := by intros; rfl)
    (hf : freeS (F x s) own = true := by rfl) :
    ∃ ys x', compF t own (ret true) elt (ds, hid) (F x s) = some (.ok (.lst ys, true), unhide hid (F x' s)) ∧ J [] x' ∧ ys.length = ds.length ∧ ∀ y ∈ ys, ∃ d ∈ ds, P d y := by
  obtain ⟨ys, x', s', e, hj', hn, hp⟩ := compLoop_st (asg := fun d S => asgT t d (wipeS S own)) (elt := bnd elt fun q => ret q.1) F J P ha ds x s hj hl fun d r x hj => by
    obtain ⟨y, f, x', e, hj', hp⟩ := h d r x hj
    exact ⟨y, x', by rw [bnd_some e]; rfl, hj', hp⟩
  refine ⟨ys, x', ?_, hj', hn, hp⟩
  unfold compF
  rw [if_pos hf]
  dsimp only
  rw [e]
  dsimp only
  rw [hr]
/-- a comprehension with tests: the items that pass -/
theorem compLoop_if {asg : D → Fr → Option Fr} {test : M Bool} {elt : M D} (F : Slot → Fr) (p : D → Bool) (f : D → D)
    (ha : ∀ d s, asg d (F s) = some (F (.fz d))) :
    ∀ (ds : List D) (s : Slot), ds.length ≤ 1000000 → (∀ d ∈ ds, test (F (.fz d)) = some (.ok (p d), F (.fz d)) ∧ (p d = true → elt (F (.fz d)) = some (.ok (f d), F (.fz d)))) →
      ∃ s', compLoop asg (sure test) (sure elt) ds (F s) = some (.ok ((ds.filter p).map f), F s')
  | [], s, _, _ => ⟨s, rfl⟩
  | d :: ds, s, hl, h => by
    have hl' : ds.length + 1 ≤ 1000000 := hl
    obtain ⟨s', e2⟩ := compLoop_if F p f ha ds (.fz d) (by omega) fun x hx => h x (List.mem_cons_of_mem _ hx)
    obtain ⟨h1, h2⟩ := h d List.mem_cons_self
    refine ⟨s', ?_⟩
    show (match asg d (F s) with | none => none | some S1 => _) = _
    rw [ha]
    show bnd (sure test) _ (F (.fz d)) = _
    rw [bnd_some (sure_ok h1)]
    cases hp : p d with
    | true =>
      have hln : (List.map f (ds.filter p)).length < 1000000 := by
        rw [List.length_map]
        have := List.length_filter_le p ds
        omega
      rw [if_pos rfl, bnd_some (sure_ok (h2 hp)), bnd_some e2, if_pos hln, List.filter_cons_of_pos hp, List.map_cons]
      rfl
    | false =>
      rw [if_neg (by decide), e2, List.filter_cons_of_neg (by rw [hp]; decide)]
theorem compF_if {test : M Bool} {elt : M (D × Bool)} {t : CT} {own : List Nat} {hid : Option Nat} (F : Slot → Fr) (p : D → Bool) (f : D → D) (g : D → Bool) {ds : List D} {s : Slot}
    (hl : ds.length ≤ 1000000)
    (h : ∀ d ∈ ds, test (F (.fz d)) = some (.ok (p d), F (.fz d)) ∧ (p d = true → elt (F (.fz d)) = some (.ok (f d, g d), F (.fz d))))
    (ha : ∀ d s, asgT t d (wipeS (F s) own) = some (F (.fz d)) := by intros; rfl)
    (hr : ∀ s', restS (F s) (F s') own = F s := by intros; rfl)
    (hf : freeS (F s) own = true := by rfl) :
    compF t own test elt (ds, hid) (F s) = some (.ok (.lst ((ds.filter p).map f), true), unhide hid (F s)) := by
  obtain ⟨s', e⟩ := compLoop_if (asg := fun d S => asgT t d (wipeS S own)) (test := test) (elt := bnd elt fun q => ret q.1) F p f ha ds s hl fun d hd => ⟨(h d hd).1, fun z => by rw [bnd_some ((h d hd).2 z)]; rfl⟩
  unfold compF
  rw [if_pos hf]
  dsimp only
  rw [e]
  dsimp only
  rw [hr]

/-- a loop that runs to its end, or leaves -/
theorem forLoop_st {σ : Type} {asg : D → Fr → Option Fr} {body : M Flw} (F : σ → Slot → Fr) (J : List D → σ → Prop) (R : Except Err Flw → Fr → Prop)
    (ha : ∀ d x s, asg d (F x s) = some (F x (.fz d))) :
    ∀ (ds : List D) (x : σ) (s : Slot), J ds x →
      (∀ d r x, J (d :: r) x → ∃ f S', body (F x (.fz d)) = some (f, S') ∧
        ((∃ x', (f = .ok .nx ∨ f = .ok .ct) ∧ S' = F x' (.fz d) ∧ J r x') ∨ (∃ v b, f = .ok (.rt v b) ∧ R f S') ∨ (∃ e, f = .error e ∧ R f S') ∨ (f = .ok .bk ∧ R (.ok .nx) S'))) →
      ∃ f S', forLoop asg body ds (F x s) = some (f, S') ∧ ((∃ x' s', f = .ok .nx ∧ S' = F x' s' ∧ J [] x') ∨ R f S')
  | [], x, s, hj, _ => ⟨.ok .nx, F x s, rfl, .inl ⟨x, s, rfl, rfl, hj⟩⟩
  | d :: ds, x, s, hj, h => by
    obtain ⟨f, S', e, c⟩ := h d ds x hj
    have e0 : forLoop asg body (d :: ds) (F x s) = bnd body (fun
      | .nx => forLoop asg body ds
      | .ct => forLoop asg body ds
      | .bk => ret .nx
      | .rt d f => ret (.rt d f)) (F x (.fz d)) := by
      show (match asg d (F x s) with | none => none | some S1 => _) = _
      rw [ha]
      try rfl
    rcases c with ⟨x', c, rfl, hj'⟩ | ⟨v, b, rfl, hr⟩ | ⟨er, rfl, hr⟩ | ⟨rfl, hr⟩
    · have ih := forLoop_st F J R ha ds x' (.fz d) hj' h
      obtain ⟨f2, S2, e2, c2⟩ := ih
      refine ⟨f2, S2, ?_, c2⟩
      rw [e0]
      rcases c with rfl | rfl <;> rw [bnd_some e] <;> exact e2
    · exact ⟨_, S', by rw [e0, bnd_some e]; rfl, .inr hr⟩
    · exact ⟨_, S', by rw [e0]; unfold bnd; rw [e], .inr hr⟩
    · exact ⟨_, S', by rw [e0, bnd_some e]; rfl, .inr hr⟩
/-- a loop that never leaves -/
theorem forF_st {σ : Type} {t : CT} {body : M Flw} {hid : Option Nat} (F : σ → Slot → Fr) (J : List D → σ → Prop) {ds : List D} {x : σ} {s : Slot} (hj : J ds x)
    (h : ∀ d r x, J (d :: r) x → ∃ x', body (F x (.fz d)) = some (.ok .nx, F x' (.fz d)) ∧ J r x')
    (ha : ∀ d x s, asgT t d (F x s) = some (F x (.fz d)) := by intros; rfl) :
    ∃ x' s', forF t body (ds, hid) (F x s) = some (.ok .nx, unhide hid (F x' s')) ∧ J [] x' ∧ (ds = [] → s' = s) := by
  obtain ⟨f, S', e, c⟩ := forLoop_st (body := body) F J (fun _ _ => False) ha ds x s hj fun d r x hj => by
    obtain ⟨x', e, hj'⟩ := h d r x hj
    exact ⟨_, _, e, .inl ⟨x', .inl rfl, rfl, hj'⟩⟩
  rcases c with ⟨x', s', rfl, rfl, hj'⟩ | z
  · cases ds with
    | nil =>
      have : F x s = F x' s' := by
        have e' : some (Except.ok Flw.nx, F x s) = some (Except.ok Flw.nx, F x' s') := e
        injection e' with e'; injection e' with _ e'
      refine ⟨x, s, ?_, hj, fun _ => rfl⟩
      show (match forLoop (asgT t) body [] (F x s) with | none => none | some (r, S') => some (r, unhide hid S')) = _
      rw [e, this]
    | cons d ds =>
      refine ⟨x', s', ?_, hj', fun z => by cases z⟩
      show (match forLoop (asgT t) body (d :: ds) (F x s) with | none => none | some (r, S') => some (r, unhide hid S')) = _
      rw [e]
  · exact z.elim
/-- a loop that may leave -/
theorem forF_lv {σ : Type} {t : CT} {body : M Flw} {hid : Option Nat} (F : σ → Slot → Fr) (J : List D → σ → Prop) (R : Except Err Flw → Fr → Prop) {ds : List D} {x : σ} {s : Slot} (hj : J ds x)
    (h : ∀ d r x, J (d :: r) x → ∃ f S', body (F x (.fz d)) = some (f, S') ∧
        ((∃ x', (f = .ok .nx ∨ f = .ok .ct) ∧ S' = F x' (.fz d) ∧ J r x') ∨ (∃ v b, f = .ok (.rt v b) ∧ R f S') ∨ (∃ e, f = .error e ∧ R f S') ∨ (f = .ok .bk ∧ R (.ok .nx) S')))
    (ha : ∀ d x s, asgT t d (F x s) = some (F x (.fz d)) := by intros; rfl) :
    ∃ f S', forF t body (ds, hid) (F x s) = some (f, unhide hid S') ∧ ((∃ x' s', f = .ok .nx ∧ S' = F x' s' ∧ J [] x') ∨ R f S') := by
  obtain ⟨f, S', e, c⟩ := forLoop_st (body := body) F J R ha ds x s hj h
  exact ⟨f, S', by show (match forLoop (asgT t) body ds (F x s) with | none => none | some (r, S') => some (r, unhide hid S')) = _; rw [e], c⟩

theorem forF_cons {t : CT} {body : M Flw} {d : D} {ds : List D} {h : Option Nat} {S S1 : Fr} (ha : asgT t d S = some S1) : forF t body (d :: ds, h) S = match body S1 with
    | none => none
    | some (.error e, S') => some (.error e, unhide h S')
    | some (.ok .nx, S') => forF t body (ds, h) S'
    | some (.ok .ct, S') => forF t body (ds, h) S'
    | some (.ok .bk, S') => some (.ok .nx, unhide h S')
    | some (.ok (.rt d f), S') => some (.ok (.rt d f), unhide h S') := by
  unfold forF
  simp only [forLoop, ha, bnd]
  cases body S1 with
  | none => rfl
  | some p =>
    obtain ⟨r, S'⟩ := p
    cases r with
    | error e => rfl
    | ok f => cases f <;> rfl
theorem forF_nil {t : CT} {body : M Flw} {h : Option Nat} {S : Fr} : forF t body ([], h) S = some (.ok .nx, unhide h S) := rfl
theorem lenC_of {G : Gam} {f : Nat} {x : Op} {S S1 : Fr} {dx : D} {m : Int} {fl : Bool} (hio : (G.io f).all (fun b => !b) = true) (hf : frz x S = some (.ok dx, S1)) (hc : G.Phi f [dx] = some ([], .ok (.int m, fl))) (h0 : 0 ≤ m) (h1 : m < 2 ^ 63) : lenC G f x S = some (.ok (.int m, false), S1) := by
  unfold lenC
  rw [if_pos hio, bnd_some hf]
  have e : sure (callF (G.Phi f) [.v dx]) S1 = some (.ok (.int m, fl), S1) := by
    apply sure_ok
    unfold callF
    simp [agRds, Ag.rd, agIos, hc, agBack]
  rw [bnd_some e]
  rw [bnd_some (x := asInt (D.int m, fl)) (a := m) (S1 := S1) rfl, if_pos ⟨h0, h1⟩]
  rfl
theorem runF_rt {G : Gam} {io : List Bool} {n : Nat} {body : List CS} {ds o : List D} {S' : Fr} {d : D} {f : Bool} (e : evB G body (startS io n ds) = some (.ok (.rt d f), S')) (ho : outsS io 0 S' = some o) : runF G io n body ds = some (o, .ok (d, f)) := by
  unfold runF; rw [e]; dsimp only; rw [ho]; rfl
theorem runF_nx {G : Gam} {io : List Bool} {n : Nat} {body : List CS} {ds o : List D} {S' : Fr} (e : evB G body (startS io n ds) = some (.ok .nx, S')) (ho : outsS io 0 S' = some o) : runF G io n body ds = some (o, .ok (.non, false)) := by
  unfold runF; rw [e]; dsimp only; rw [ho]; rfl
theorem runF_er {G : Gam} {io : List Bool} {n : Nat} {body : List CS} {ds o : List D} {S' : Fr} {x : Err} (e : evB G body (startS io n ds) = some (.error x, S')) (ho : outsS io 0 S' = some o) : runF G io n body ds = some (o, .error x) := by
  unfold runF; rw [e]; dsimp only; rw [ho]; rfl
/-- what a call gives, of what its suite gave -/
def finF (io : List Bool) : Option (Except Err Flw × Fr) → Option (List D × Except Err (D × Bool))
  | some (.ok .nx, S) => (outsS io 0 S).map fun o => (o, .ok (.non, false))
  | some (.ok (.rt d f), S) => (outsS io 0 S).map fun o => (o, .ok (d, f))
  | some (.error e, S) => (outsS io 0 S).map fun o => (o, .error e)
  | _ => none
theorem runF_fin {G : Gam} {io : List Bool} {n : Nat} {body : List CS} {ds : List D} : runF G io n body ds = finF io (evB G body (startS io n ds)) := by
  unfold runF finF
  rfl
theorem atI_0 {α : Type} {x : α} {xs : List α} : L2.atI (x :: xs) 0 = some x := by
  unfold L2.atI L2.ixN
  simp
theorem atI_1 {α : Type} {x y : α} {xs : List α} : L2.atI (x :: y :: xs) 1 = some y := by
  unfold L2.atI L2.ixN
  have : (1 : Int) < ((x :: y :: xs).length : Nat) := by simp only [List.length_cons]; omega
  rw [if_pos (by decide), if_pos this]
  rfl
theorem atI_2 {α : Type} {x y z : α} {xs : List α} : L2.atI (x :: y :: z :: xs) 2 = some z := by
  unfold L2.atI L2.ixN
  have : (2 : Int) < ((x :: y :: z :: xs).length : Nat) := by simp only [List.length_cons]; omega
  rw [if_pos (by decide), if_pos this]
  rfl
theorem eqD_of {a b : D} (h : a.shp = true) (h' : b.shp = true) : eqD a b = some (a.eqv b) := by simp [eqD, h, h']
theorem shp_int {i : Int} : (D.int i).shp = true := rfl
theorem shp_bl {b : Bool} : (D.bl b).shp = true := rfl
theorem shp_non : D.non.shp = true := rfl
theorem eqD_int {i j : Int} : eqD (.int i) (.int j) = some (i == j) := eqD_of shp_int shp_int

theorem atI_lt {α : Type} {xs : List α} {i : Int} (h0 : 0 ≤ i) (h1 : i < xs.length) : ∃ v ∈ xs, L2.atI xs i = some v := by
  have h : i.toNat < xs.length := by omega
  refine ⟨xs[i.toNat], List.getElem_mem h, ?_⟩
  unfold L2.atI L2.ixN
  rw [if_pos h0, if_pos h1]
  exact List.getElem?_eq_getElem h
/-! ### plain data -/
mutual
theorem D.eqv_self : ∀ d : D, d.pl = true → D.eqv d d = true
  | .non, _ => by simp [D.eqv]
  | .bl b, _ => by simp [D.eqv]
  | .int i, _ => by simp [D.eqv]
  | .str x, _ => by simp [D.eqv]
  | .tup xs, h => by simp only [D.eqv]; exact D.eqvs_self xs (by simpa [D.pl] using h)
  | .lst xs, h => by simp only [D.eqv]; exact D.eqvs_self xs (by simpa [D.pl] using h)
  | .ins _ _, h => by simp [D.pl] at h
  | .scr _, h => by simp [D.pl] at h
  | .err _ _, h => by simp [D.pl] at h
theorem D.eqvs_self : ∀ xs : List D, D.pl.go xs = true → D.eqv.go xs xs = true
  | [], _ => by simp [D.eqv.go]
  | x :: xs, h => by
    simp only [D.pl.go, Bool.and_eq_true] at h
    simp [D.eqv.go, D.eqv_self x h.1, D.eqvs_self xs h.2]
end
theorem eqD_self {d : D} (h : d.shp = true) : eqD d d = some true := by
  have := D.eqv_self d (by simp only [D.shp, Bool.and_eq_true] at h; exact h.1)
  simp [eqD, h, this]
theorem D.pl_go {xs : List D} : D.pl.go xs = true ↔ ∀ x ∈ xs, x.pl = true := by
  induction xs with
  | nil => simp [D.pl.go]
  | cons x xs ih => simp [D.pl.go, ih]
theorem D.dep_go {xs : List D} {n : Nat} : D.dep.go xs ≤ n ↔ ∀ x ∈ xs, x.dep ≤ n := by
  induction xs with
  | nil => simp [D.dep.go]
  | cons x xs ih => simp [D.dep.go, Nat.max_le, ih]
/-- plain, at most k deep, no part longer than m -/
def D.fit (m : Nat) : Nat → D → Bool
  | _, .non | _, .bl _ | _, .int _ => true
  | _, .str x => PyData.strOk x && decide (x.length ≤ m)
  | 0, .tup _ | 0, .lst _ => false
  | k + 1, .tup xs => decide (xs.length ≤ m) && xs.all (D.fit m k)
  | k + 1, .lst xs => decide (xs.length ≤ m) && xs.all (D.fit m k)
  | _, .ins _ _ | _, .scr _ | _, .err _ _ => false
theorem D.fit_pl {m : Nat} : ∀ {k : Nat} {d : D}, d.fit m k = true → d.pl = true ∧ d.dep ≤ k
  | _, .non, _ | _, .bl _, _ | _, .int _, _ => by simp [D.pl, D.dep]
  | _, .str x, h => by simp [D.fit] at h; simp [D.pl, D.dep, h.1]
  | 0, .tup _, h => by simp [D.fit] at h
  | 0, .lst _, h => by simp [D.fit] at h
  | k + 1, .tup xs, h => by
    simp only [D.fit, Bool.and_eq_true, List.all_eq_true] at h
    simp only [D.pl, D.dep]
    exact ⟨D.pl_go.2 fun x hx => (D.fit_pl (h.2 x hx)).1, Nat.succ_le_succ (D.dep_go.2 fun x hx => (D.fit_pl (h.2 x hx)).2)⟩
  | k + 1, .lst xs, h => by
    simp only [D.fit, Bool.and_eq_true, List.all_eq_true] at h
    simp only [D.pl, D.dep]
    exact ⟨D.pl_go.2 fun x hx => (D.fit_pl (h.2 x hx)).1, Nat.succ_le_succ (D.dep_go.2 fun x hx => (D.fit_pl (h.2 x hx)).2)⟩
  | 0, .ins _ _, h => by simp [D.fit] at h
  | 0, .scr _, h => by simp [D.fit] at h
  | 0, .err _ _, h => by simp [D.fit] at h
  | _ + 1, .err _ _, h => by simp [D.fit] at h
  | _ + 1, .ins _ _, h => by simp [D.fit] at h
  | _ + 1, .scr _, h => by simp [D.fit] at h
theorem D.fit_shp {m k : Nat} {d : D} (h : d.fit m k = true) (hk : k ≤ 64) : d.shp = true := by
  have := D.fit_pl h
  simp only [D.shp, Bool.and_eq_true, decide_eq_true_eq]
  exact ⟨this.1, Nat.le_trans this.2 hk⟩
theorem D.fit_mono {m m' : Nat} (hm : m ≤ m') : ∀ {k k' : Nat} {d : D}, d.fit m k = true → k ≤ k' → d.fit m' k' = true
  | k, k', .non, _, _ => by cases k' <;> rfl
  | k, k', .bl _, _, _ => by cases k' <;> rfl
  | k, k', .int _, _, _ => by cases k' <;> rfl
  | k, k', .str x, h, _ => by
    have h' : (PyData.strOk x && decide (x.length ≤ m)) = true := by cases k <;> exact h
    have : (PyData.strOk x && decide (x.length ≤ m')) = true := by
      simp only [Bool.and_eq_true, decide_eq_true_eq] at h' ⊢
      exact ⟨h'.1, Nat.le_trans h'.2 hm⟩
    cases k' <;> exact this
  | 0, _, .tup _, h, _ => by simp [D.fit] at h
  | 0, _, .lst _, h, _ => by simp [D.fit] at h
  | k + 1, 0, _, _, hk => by omega
  | k + 1, k' + 1, .tup xs, h, hk => by
    simp only [D.fit, Bool.and_eq_true, List.all_eq_true, decide_eq_true_eq] at h ⊢
    exact ⟨Nat.le_trans h.1 hm, fun x hx => D.fit_mono hm (h.2 x hx) (by omega)⟩
  | k + 1, k' + 1, .lst xs, h, hk => by
    simp only [D.fit, Bool.and_eq_true, List.all_eq_true, decide_eq_true_eq] at h ⊢
    exact ⟨Nat.le_trans h.1 hm, fun x hx => D.fit_mono hm (h.2 x hx) (by omega)⟩
  | 0, _, .ins _ _, h, _ => by simp [D.fit] at h
  | 0, _, .scr _, h, _ => by simp [D.fit] at h
  | 0, _, .err _ _, h, _ => by simp [D.fit] at h
  | _ + 1, _, .err _ _, h, _ => by simp [D.fit] at h
  | _ + 1, _, .ins _ _, h, _ => by simp [D.fit] at h
  | _ + 1, _, .scr _, h, _ => by simp [D.fit] at h
end Ev
namespace Ev
theorem shp_tup {k : Nat} {xs : List D} (hk : k < 64) (h : ∀ x ∈ xs, x.pl = true ∧ x.dep ≤ k) : (D.tup xs).shp = true := by
  simp only [D.shp, Bool.and_eq_true, decide_eq_true_eq, D.pl, D.dep]
  exact ⟨D.pl_go.2 fun x hx => (h x hx).1, decide_eq_true (Nat.le_trans (Nat.succ_le_succ ((D.dep_go (n := k)).2 fun x hx => (h x hx).2)) hk)⟩
theorem shp_lst {k : Nat} {xs : List D} (hk : k < 64) (h : ∀ x ∈ xs, x.pl = true ∧ x.dep ≤ k) : (D.lst xs).shp = true := by
  simp only [D.shp, Bool.and_eq_true, decide_eq_true_eq, D.pl, D.dep]
  exact ⟨D.pl_go.2 fun x hx => (h x hx).1, decide_eq_true (Nat.le_trans (Nat.succ_le_succ ((D.dep_go (n := k)).2 fun x hx => (h x hx).2)) hk)⟩
end Ev
end

section
set_option maxRecDepth 100000
set_option maxHeartbeats 4000000
namespace Ev
open PySem
abbrev bx (a b : Int) : D := .lst [.int a, .int b]
/-- a number drawn from a box -/
def takeP (a b m : Int) : Int × Int × Int := if 0 < a then (a / m, b, a % m) else (a, (b * 39373 + 69621) % 2147483647, (b * 39373 + 69621) % 2147483647 / 8191 % m)
def bTake : List CS := [.ite (.cmp .Gt (.idx (.var 0) (.lit (.int 0))) (.lit (.int 0))) [.asg (.nm 2) (.bin .Mod (.blt .int [.idx (.var 0) (.lit (.int 0))]) (.var 1)),
    .seti 0 (.lit (.int 0)) (.bin .FloorDiv (.idx (.var 0) (.lit (.int 0))) (.var 1)),
    .ret (.var 2)] [],
    .seti 0 (.lit (.int 1)) (.bin .Mod (.blt .int [.bin .Add (.bin .Mult (.idx (.var 0) (.lit (.int 1))) (.lit (.int 39373))) (.lit (.int 69621))]) (.lit (.int 2147483647))),
    .ret (.bin .Mod (.blt .int [.bin .FloorDiv (.idx (.var 0) (.lit (.int 1))) (.lit (.int 8191))]) (.var 1))]
theorem take_run {G : Gam} {a b m : Int} (hm : 0 < m) (hm2 : m < 1073741824) : runF G [true] 3 bTake [bx a b, .int m] = some ([bx (takeP a b m).1 (takeP a b m).2.1], .ok (.int (takeP a b m).2.2, false)) := by
  unfold takeP
  by_cases ha : 0 < a
  · simp [runF, finF, startS, evB, evS, evE_var, evE_lit, evE_con, evE_bin, evE_neg, evE_not, evE_cmp, evE_cmp2, evE_and, evE_or, evE_ite, evE_tup, evE_lst, evE_idx, evE_sl, evE_att, evE_call, evE_make, evE_meth, evE_blt, evE_isi, evE_oeq, evE_olen, evE_exv, evE_index, evE_mkE, evE_attE, evE_isiE, parS, evOs, evVs, evP, evT, evAs, seqS, bnd, opd, agd, useOs, rds, Op.rd, Fr.at, Slot.rd, op1, op2, opIdx, atI_0, atI_1, atI_2, L2.ixN, plainR, opCmp, asBl, asInt, Ev.ret, opt, asgS, setV, asgT, opBlt, opBin, eqD_int, retS, itemsOf, unhide, outsS, ownS, setiS, getV, callF, agRds, Ag.rd, agIos, agBack, isTy, opIsi, Ev.most, bTake, ha, hm, hm2]
  · simp [runF, finF, startS, evB, evS, evE_var, evE_lit, evE_con, evE_bin, evE_neg, evE_not, evE_cmp, evE_cmp2, evE_and, evE_or, evE_ite, evE_tup, evE_lst, evE_idx, evE_sl, evE_att, evE_call, evE_make, evE_meth, evE_blt, evE_isi, evE_oeq, evE_olen, evE_exv, evE_index, evE_mkE, evE_attE, evE_isiE, parS, evOs, evVs, evP, evT, evAs, seqS, bnd, opd, agd, useOs, rds, Op.rd, Fr.at, Slot.rd, op1, op2, opIdx, atI_0, atI_1, atI_2, L2.ixN, plainR, opCmp, asBl, asInt, Ev.ret, opt, asgS, setV, asgT, opBlt, opBin, eqD_int, retS, itemsOf, unhide, outsS, ownS, setiS, getV, callF, agRds, Ag.rd, agIos, agBack, isTy, opIsi, Ev.most, bTake, ha, hm, hm2]
/-- its two numbers stay so -/
def Box (a b : Int) : Prop := 0 ≤ a ∧ 0 ≤ b ∧ b < 2147483648
theorem box_take {a b m : Int} (hm : 0 < m) (h : Box a b) : Box (takeP a b m).1 (takeP a b m).2.1 ∧ 0 ≤ (takeP a b m).2.2 ∧ (takeP a b m).2.2 < m := by
  obtain ⟨h1, h2, h3⟩ := h
  unfold takeP Box
  split
  · exact ⟨⟨Int.ediv_nonneg h1 (by omega), h2, h3⟩, Int.emod_nonneg _ (by omega), Int.emod_lt_of_pos _ hm⟩
  · exact ⟨⟨h1, Int.emod_nonneg _ (by decide), by have := Int.emod_lt_of_pos (b * 39373 + 69621) (show (0:Int) < 2147483647 by decide); show (b * 39373 + 69621) % 2147483647 < 2147483648; omega⟩, Int.emod_nonneg _ (by omega), Int.emod_lt_of_pos _ hm⟩
/-- a def that draws -/
def Takes (Phi : FnR) : Prop := ∀ a b m : Int, Box a b → 0 < m → m < 1073741824 → ∃ a' b' v, Phi [bx a b, .int m] = some ([bx a' b'], .ok (.int v, false)) ∧ Box a' b' ∧ 0 ≤ v ∧ v < m
theorem takes_run {G : Gam} : Takes (runF G [true] 3 bTake) := fun a b m hb hm hm2 => ⟨_, _, _, take_run hm hm2, (box_take hm hb).1, (box_take hm hb).2⟩
def bBox : List CS := [.asg (.nm 2) (.bin .Add (.bin .Mult (.lit (.int 7919)) (.var 1)) (.lit (.int 101))),
    .ite (.cmp .Lt (.var 1) (.blt .len [.var 0])) [.asg (.nm 2) (.blt .abs [.idx (.var 0) (.var 1)])] [.ite (.cmp .Gt (.blt .len [.var 0]) (.lit (.int 0))) [.asg (.nm 2) (.bin .Add (.bin .Mult (.bin .Mod (.blt .int [.blt .abs [.idx (.var 0) (.bin .Mod (.blt .int [.var 1]) (.blt .len [.var 0]))]]) (.lit (.int 1000000007))) (.lit (.int 31))) (.bin .Mult (.lit (.int 7919)) (.var 1)))] []],
    .asg (.nm 3) (.idx (.lst [.lit (.int 0), .var 2]) (.blt .int [.cmp .GtE (.var 2) (.bin .Pow (.lit (.int 10)) (.lit (.int 18)))])),
    .ret (.lst [.var 3, .bin .Add (.bin .Mod (.blt .int [.bin .Add (.bin .Mult (.bin .Mod (.blt .int [.var 2]) (.lit (.int 1000000007))) (.lit (.int 48271))) (.bin .Mult (.lit (.int 613)) (.var 1))]) (.lit (.int 2147483647))) (.lit (.int 1))])]
def rBox : List CS := [.asg (.nm 3) (.idx (.lst [.lit (.int 0), .var 2]) (.blt .int [.cmp .GtE (.var 2) (.bin .Pow (.lit (.int 10)) (.lit (.int 18)))])),
    .ret (.lst [.var 3, .bin .Add (.bin .Mod (.blt .int [.bin .Add (.bin .Mult (.bin .Mod (.blt .int [.var 2]) (.lit (.int 1000000007))) (.lit (.int 48271))) (.bin .Mult (.lit (.int 613)) (.var 1))]) (.lit (.int 2147483647))) (.lit (.int 1))])]
def qBox : List CS := [.asg (.nm 2) (.bin .Add (.bin .Mult (.lit (.int 7919)) (.var 1)) (.lit (.int 101))),
    .ite (.cmp .Lt (.var 1) (.blt .len [.var 0])) [.asg (.nm 2) (.blt .abs [.idx (.var 0) (.var 1)])] [.ite (.cmp .Gt (.blt .len [.var 0]) (.lit (.int 0))) [.asg (.nm 2) (.bin .Add (.bin .Mult (.bin .Mod (.blt .int [.blt .abs [.idx (.var 0) (.bin .Mod (.blt .int [.var 1]) (.blt .len [.var 0]))]]) (.lit (.int 1000000007))) (.lit (.int 31))) (.bin .Mult (.lit (.int 7919)) (.var 1)))] []]]
theorem evB_app {G : Gam} : ∀ (xs ys : List CS) (S S1 : Fr), evB G xs S = some (.ok .nx, S1) → evB G (xs ++ ys) S = evB G ys S1
  | [], ys, S, S1, h => by cases h; rfl
  | x :: xs, ys, S, S1, h => by
    show seqS (evS G x) (evB G (xs ++ ys)) S = _
    have h' : seqS (evS G x) (evB G xs) S = some (.ok .nx, S1) := h
    unfold seqS bnd at h' ⊢
    cases e : evS G x S with
    | none => rw [e] at h'; cases h'
    | some p =>
      obtain ⟨r, S2⟩ := p
      rw [e] at h'
      cases r with
      | error er => cases h'
      | ok f =>
        dsimp only at h' ⊢
        cases f with
        | nx => exact evB_app xs ys S2 S1 h'
        | rt d b => cases h'
        | bk => cases h'
        | ct => cases h'
/-- a def that makes boxes -/
def Boxes (Phi : FnR) : Prop := ∀ (ns : List Int) (k : Int), 0 ≤ k → k < 1000 → ns.length ≤ 63 → ∃ a b, Phi [.scr ns, .int k] = some ([], .ok (bx a b, true)) ∧ Box a b
theorem boxes_run {G : Gam} : Boxes (runF G [] 4 bBox) := by
  intro ns k hk hk2 hn
  have tail : ∀ (cell : Int), ∃ a b S', evB G rBox [.fz (.scr ns), .fz (.int k), .fz (.int cell), .no] = some (.ok (.rt (bx a b) true), S') ∧ Box a b := by
    intro cell
    by_cases hc : (1000000000000000000 : Int) ≤ cell
    · refine ⟨cell, (cell % 1000000007 * 48271 + 613 * k) % 2147483647 + 1, [.fz (.scr ns), .fz (.int k), .fz (.int cell), .fz (.int cell)], ?_, by unfold Box; have := Int.emod_nonneg (cell % 1000000007 * 48271 + 613 * k) (show (2147483647 : Int) ≠ 0 by decide); have := Int.emod_lt_of_pos (cell % 1000000007 * 48271 + 613 * k) (show (0 : Int) < 2147483647 by decide); omega⟩
      simp [runF, finF, startS, evB, evS, evE_var, evE_lit, evE_con, evE_bin, evE_neg, evE_not, evE_cmp, evE_cmp2, evE_and, evE_or, evE_ite, evE_tup, evE_lst, evE_idx, evE_sl, evE_att, evE_call, evE_make, evE_meth, evE_blt, evE_isi, evE_oeq, evE_olen, evE_exv, evE_index, evE_mkE, evE_attE, evE_isiE, parS, evOs, evVs, evP, evT, evAs, seqS, bnd, opd, agd, useOs, rds, Op.rd, Fr.at, Slot.rd, op1, op2, opIdx, atI_0, atI_1, atI_2, L2.ixN, plainR, opCmp, asBl, asInt, Ev.ret, opt, asgS, setV, asgT, opBlt, opBin, eqD_int, retS, itemsOf, unhide, outsS, ownS, setiS, getV, callF, agRds, Ag.rd, agIos, agBack, isTy, opIsi, Ev.most, rBox, hc]
    · refine ⟨0, (cell % 1000000007 * 48271 + 613 * k) % 2147483647 + 1, [.fz (.scr ns), .fz (.int k), .fz (.int cell), .fz (.int 0)], ?_, by unfold Box; have := Int.emod_nonneg (cell % 1000000007 * 48271 + 613 * k) (show (2147483647 : Int) ≠ 0 by decide); have := Int.emod_lt_of_pos (cell % 1000000007 * 48271 + 613 * k) (show (0 : Int) < 2147483647 by decide); omega⟩
      simp [runF, finF, startS, evB, evS, evE_var, evE_lit, evE_con, evE_bin, evE_neg, evE_not, evE_cmp, evE_cmp2, evE_and, evE_or, evE_ite, evE_tup, evE_lst, evE_idx, evE_sl, evE_att, evE_call, evE_make, evE_meth, evE_blt, evE_isi, evE_oeq, evE_olen, evE_exv, evE_index, evE_mkE, evE_attE, evE_isiE, parS, evOs, evVs, evP, evT, evAs, seqS, bnd, opd, agd, useOs, rds, Op.rd, Fr.at, Slot.rd, op1, op2, opIdx, atI_0, atI_1, atI_2, L2.ixN, plainR, opCmp, asBl, asInt, Ev.ret, opt, asgS, setV, asgT, opBlt, opBin, eqD_int, retS, itemsOf, unhide, outsS, ownS, setiS, getV, callF, agRds, Ag.rd, agIos, agBack, isTy, opIsi, Ev.most, rBox, hc]
  have fin : ∀ cell, evB G qBox [.fz (.scr ns), .fz (.int k), .no, .no] = some (.ok .nx, [.fz (.scr ns), .fz (.int k), .fz (.int cell), .no]) → ∃ a b, runF G [] 4 bBox [.scr ns, .int k] = some ([], .ok (bx a b, true)) ∧ Box a b := by
    intro cell e
    obtain ⟨a, b, S', e2, hb⟩ := tail cell
    refine ⟨a, b, ?_, hb⟩
    exact runF_rt (S' := S') ((evB_app qBox rBox _ _ e).trans e2) rfl
  by_cases h1 : k < (ns.length : Int)
  · obtain ⟨v, _, hv⟩ := atI_lt hk h1
    apply fin (if v < 0 then -v else v)
    simp [runF, finF, startS, evB, evS, evE_var, evE_lit, evE_con, evE_bin, evE_neg, evE_not, evE_cmp, evE_cmp2, evE_and, evE_or, evE_ite, evE_tup, evE_lst, evE_idx, evE_sl, evE_att, evE_call, evE_make, evE_meth, evE_blt, evE_isi, evE_oeq, evE_olen, evE_exv, evE_index, evE_mkE, evE_attE, evE_isiE, parS, evOs, evVs, evP, evT, evAs, seqS, bnd, opd, agd, useOs, rds, Op.rd, Fr.at, Slot.rd, op1, op2, opIdx, atI_0, atI_1, atI_2, L2.ixN, plainR, opCmp, asBl, asInt, Ev.ret, opt, asgS, setV, asgT, opBlt, opBin, eqD_int, retS, itemsOf, unhide, outsS, ownS, setiS, getV, callF, agRds, Ag.rd, agIos, agBack, isTy, opIsi, Ev.most, qBox, h1, hv]
  · by_cases h2 : (0 : Int) < ns.length
    · obtain ⟨v, _, hv⟩ := atI_lt (xs := ns) (i := k % (ns.length : Int)) (Int.emod_nonneg _ (by omega)) (Int.emod_lt_of_pos _ h2)
      apply fin ((if v < 0 then -v else v) % 1000000007 * 31 + 7919 * k)
      have h3 : 0 < ns.length := by omega
      simp [runF, finF, startS, evB, evS, evE_var, evE_lit, evE_con, evE_bin, evE_neg, evE_not, evE_cmp, evE_cmp2, evE_and, evE_or, evE_ite, evE_tup, evE_lst, evE_idx, evE_sl, evE_att, evE_call, evE_make, evE_meth, evE_blt, evE_isi, evE_oeq, evE_olen, evE_exv, evE_index, evE_mkE, evE_attE, evE_isiE, parS, evOs, evVs, evP, evT, evAs, seqS, bnd, opd, agd, useOs, rds, Op.rd, Fr.at, Slot.rd, op1, op2, opIdx, atI_0, atI_1, atI_2, L2.ixN, plainR, opCmp, asBl, asInt, Ev.ret, opt, asgS, setV, asgT, opBlt, opBin, eqD_int, retS, itemsOf, unhide, outsS, ownS, setiS, getV, callF, agRds, Ag.rd, agIos, agBack, isTy, opIsi, Ev.most, qBox, h1, h2, h3, hv]
    · have h3 : ns = [] := by cases ns with | nil => rfl | cons x xs => exact (h2 (by simp only [List.length_cons]; omega)).elim
      subst h3
      apply fin (7919 * k + 101)
      have h4 : ¬ k < 0 := by omega
      simp [runF, finF, startS, evB, evS, evE_var, evE_lit, evE_con, evE_bin, evE_neg, evE_not, evE_cmp, evE_cmp2, evE_and, evE_or, evE_ite, evE_tup, evE_lst, evE_idx, evE_sl, evE_att, evE_call, evE_make, evE_meth, evE_blt, evE_isi, evE_oeq, evE_olen, evE_exv, evE_index, evE_mkE, evE_attE, evE_isiE, parS, evOs, evVs, evP, evT, evAs, seqS, bnd, opd, agd, useOs, rds, Op.rd, Fr.at, Slot.rd, op1, op2, opIdx, atI_0, atI_1, atI_2, L2.ixN, plainR, opCmp, asBl, asInt, Ev.ret, opt, asgS, setV, asgT, opBlt, opBin, eqD_int, retS, itemsOf, unhide, outsS, ownS, setiS, getV, callF, agRds, Ag.rd, agIos, agBack, isTy, opIsi, Ev.most, qBox, h1, h2, h4]
def bPick (i : Nat) : List CS := [.ret (.idx (.var 1) (.call i [.var 0, .blt .len [.var 1]]))]
/-- a def that picks -/
def Picks (Phi : FnR) : Prop := ∀ (a b : Int) (ds : List D), Box a b → ds ≠ [] → ds.length < 1000000 → ∃ a' b' d, Phi [bx a b, .lst ds] = some ([bx a' b'], .ok (d, false)) ∧ Box a' b' ∧ d ∈ ds
theorem picks_run {G : Gam} {i : Nat} (io : G.io i = [true]) (T : Takes (G.Phi i)) : Picks (runF G [true] 2 (bPick i)) := by
  intro a b ds hb h0 hl
  have hp : 0 < ds.length := by cases ds with | nil => exact (h0 rfl).elim | cons x xs => simp
  have hm : (0 : Int) < ds.length := by omega
  obtain ⟨a', b', v, et, hb', h1, h2⟩ := T a b ds.length hb hm (by omega)
  obtain ⟨d, hd, e⟩ := atI_lt (xs := ds) h1 h2
  refine ⟨a', b', d, ?_, hb', hd⟩
  simp [runF, finF, startS, evB, evS, evE_var, evE_lit, evE_con, evE_bin, evE_neg, evE_not, evE_cmp, evE_cmp2, evE_and, evE_or, evE_ite, evE_tup, evE_lst, evE_idx, evE_sl, evE_att, evE_call, evE_make, evE_meth, evE_blt, evE_isi, evE_oeq, evE_olen, evE_exv, evE_index, evE_mkE, evE_attE, evE_isiE, parS, evOs, evVs, evP, evT, evAs, seqS, bnd, opd, agd, useOs, rds, Op.rd, Fr.at, Slot.rd, op1, op2, opIdx, atI_0, atI_1, atI_2, L2.ixN, plainR, opCmp, asBl, asInt, Ev.ret, opt, asgS, setV, asgT, opBlt, opBin, eqD_int, retS, itemsOf, unhide, outsS, ownS, setiS, getV, callF, agRds, Ag.rd, agIos, agBack, isTy, opIsi, Ev.most, bPick, io, et, e]
/-- what is no object of the text -/
def isInt : D → Bool
  | .int _ => true
  | _ => false
def rangeD_len {lo : Int} {k : Nat} : (rangeD lo k).length = k := by simp [rangeD]
theorem ints_of {p : Int → Prop} : ∀ {ys : List D}, (∀ y ∈ ys, ∃ v, y = .int v ∧ p v) → ∃ r : List Int, ys = r.map D.int ∧ ∀ v ∈ r, p v
  | [], _ => ⟨[], rfl, fun _ h => by cases h⟩
  | y :: ys, h => by
    obtain ⟨v, rfl, hv⟩ := h y List.mem_cons_self
    obtain ⟨r, rfl, hr⟩ := ints_of (ys := ys) fun z hz => h z (List.mem_cons_of_mem _ hz)
    exact ⟨v :: r, rfl, fun z hz => by
      rcases List.mem_cons.1 hz with rfl | hz
      · exact hv
      · exact hr z hz⟩
end Ev
end

section
set_option maxRecDepth 100000
set_option maxHeartbeats 4000000
namespace K01
open PySem PySem.Spec PyProof.Rows L2 Ev

def top (i : Nat) : Stmt := PySem.Challenge.pw_dutyweeks_k01_errors.main.body.getD i (.Pass ⟨0, 0, 0, 0⟩)
def mem (st : Stmt) (i : Nat) : Stmt := match st with
  | .ClassDef _ _ _ b _ _ _ _ _ _ _ => b.getD i (.Pass ⟨0, 0, 0, 0⟩)
  | s => s

def r1_law_box : List CS := (.ret (.lst [.var 3, .bin .Add (.bin .Mod (.blt .int [.bin .Add (.bin .Mult (.bin .Mod (.blt .int [.var 2]) (.lit (.int 1000000007))) (.lit (.int 48271))) (.bin .Mult (.lit (.int 613)) (.var 1))]) (.lit (.int 2147483647))) (.lit (.int 1))])) :: []
def r2_law_box : List CS := (.asg (.nm 3) (.idx (.lst [.lit (.int 0), .var 2]) (.blt .int [.cmp .GtE (.var 2) (.bin .Pow (.lit (.int 10)) (.lit (.int 18)))]))) :: r1_law_box
def r3_law_box : List CS := (.ite (.cmp .Lt (.var 1) (.blt .len [.var 0])) [.asg (.nm 2) (.blt .abs [.idx (.var 0) (.var 1)])] [.ite (.cmp .Gt (.blt .len [.var 0]) (.lit (.int 0))) [.asg (.nm 2) (.bin .Add (.bin .Mult (.bin .Mod (.blt .int [.blt .abs [.idx (.var 0) (.bin .Mod (.blt .int [.var 1]) (.blt .len [.var 0]))]]) (.lit (.int 1000000007))) (.lit (.int 31))) (.bin .Mult (.lit (.int 7919)) (.var 1)))] []]) :: r2_law_box
def N_law_box : List Str := ["script", "k", "cell", "great"]
def b_law_box : List CS := ((.asg (.nm 2) (.bin .Add (.bin .Mult (.lit (.int 7919)) (.var 1)) (.lit (.int 101)))) :: r3_law_box)

def N_law_take : List Str := ["box", "many", "got"]
def b_law_take : List CS := [.ite (.cmp .Gt (.idx (.var 0) (.lit (.int 0))) (.lit (.int 0))) [.asg (.nm 2) (.bin .Mod (.blt .int [.idx (.var 0) (.lit (.int 0))]) (.var 1)),
    .seti 0 (.lit (.int 0)) (.bin .FloorDiv (.idx (.var 0) (.lit (.int 0))) (.var 1)),
    .ret (.var 2)] [],
    .seti 0 (.lit (.int 1)) (.bin .Mod (.blt .int [.bin .Add (.bin .Mult (.idx (.var 0) (.lit (.int 1))) (.lit (.int 39373))) (.lit (.int 69621))]) (.lit (.int 2147483647))),
    .ret (.bin .Mod (.blt .int [.bin .FloorDiv (.idx (.var 0) (.lit (.int 1))) (.lit (.int 8191))]) (.var 1))]

def N_law_pick : List Str := ["box", "some"]
def b_law_pick : List CS := [.ret (.idx (.var 1) (.call 1 [.var 0, .blt .len [.var 1]]))]

def N_law_ones : List Str := ["v", "found"]
def b_law_ones : List CS := [.asg (.nm 1) (.lst [.mkE 1 (.var 0), .mkE 2 (.var 0), .mkE 3 (.var 0), .mkE 4 (.var 0), .mkE 5 (.var 0), .mkE 6 (.var 0)]),
    .asg (.nm 1) (.bin .Add (.var 1) (.lst [.mkE 7 (.var 0), .mkE 8 (.var 0), .mkE 9 (.var 0), .mkE 10 (.var 0), .mkE 11 (.var 0)])),
    .ret (.bin .Add (.var 1) (.lst [.mkE 12 (.var 0), .mkE 13 (.var 0), .mkE 14 (.var 0), .mkE 15 (.var 0), .mkE 16 (.var 0)]))]

def r1_law_kinds : List CS := (.ret (.bin .Add (.var 1) (.lst [.isiE (.var 0) (.own 0), .isiE (.var 0) (.ty "ValueError")]))) :: []
def r2_law_kinds : List CS := (.asg (.nm 1) (.bin .Add (.var 1) (.lst [.isiE (.var 0) (.own 17), .isiE (.var 0) (.own 18), .isiE (.var 0) (.own 19)]))) :: r1_law_kinds
def r3_law_kinds : List CS := (.asg (.nm 1) (.bin .Add (.var 1) (.lst [.isiE (.var 0) (.own 14), .isiE (.var 0) (.own 15), .isiE (.var 0) (.own 16)]))) :: r2_law_kinds
def r4_law_kinds : List CS := (.asg (.nm 1) (.bin .Add (.var 1) (.lst [.isiE (.var 0) (.own 11), .isiE (.var 0) (.own 12), .isiE (.var 0) (.own 13)]))) :: r3_law_kinds
def r5_law_kinds : List CS := (.asg (.nm 1) (.bin .Add (.var 1) (.lst [.isiE (.var 0) (.own 8), .isiE (.var 0) (.own 9), .isiE (.var 0) (.own 10)]))) :: r4_law_kinds
def r6_law_kinds : List CS := (.asg (.nm 1) (.bin .Add (.var 1) (.lst [.isiE (.var 0) (.own 5), .isiE (.var 0) (.own 6), .isiE (.var 0) (.own 7)]))) :: r5_law_kinds
def N_law_kinds : List Str := ["e", "found"]
def b_law_kinds : List CS := ((.asg (.nm 1) (.lst [.isiE (.var 0) (.own 1), .isiE (.var 0) (.own 2), .isiE (.var 0) (.own 3), .isiE (.var 0) (.own 4)])) :: r6_law_kinds)

def f1_law : List CS := [.ite (.cmp .NotEq (.attE (.var 5) "value") (.var 3)) [.ret (.lit (.bl false))] []]
def c1_law : CE := .or (.cmp .Eq (.var 10) (.var 6)) (.cmp .GtE (.var 10) (.blt .len [.var 4]))
def f2_law : List CS := [.ite (.cmp .NotEq (.call 4 [.idx (.var 4) (.var 6)]) (.comp c1_law (.nm 10) .rng1 [.bin .Add (.blt .len [.var 4]) (.lit (.int 2))] [] [10])) [.ret (.lit (.bl false))] []]
def r1_law : List CS := (.ret (.lit (.bl true))) :: []
def r2_law : List CS := (.for (.nm 6) .rng1 [.blt .len [.var 4]] f2_law) :: r1_law
def r3_law : List CS := (.asg (.nm 4) (.bin .Add (.var 4) (.lst [.var 7, .var 8, .var 9]))) :: r2_law
def r4_law : List CS := (.ite (.or (.cmp .NotEq (.attE (.var 7) "many") (.var 3)) (.or (.cmp .NotEq (.attE (.var 8) "what") (.var 3)) (.cmp .NotEq (.attE (.var 9) "word") (.var 3)))) [.ret (.lit (.bl false))] []) :: r3_law
def r5_law : List CS := (.par [7, 8, 9] [.mkE 17 (.var 3), .mkE 18 (.var 3), .mkE 19 (.var 3)]) :: r4_law
def r6_law : List CS := (.for (.nm 5) .seq [.var 4] f1_law) :: r5_law
def r7_law : List CS := (.asg (.nm 4) (.call 3 [.var 3])) :: r6_law
def r8_law : List CS := (.asg (.nm 3) (.call 2 [.var 1, .var 2])) :: r7_law
def r9_law : List CS := (.asg (.nm 2) (.bin .Add (.var 2) (.lst [.lst [.call 1 [.var 1, .lit (.int 9)]], .lit .non, .lit (.bl true), .tup []]))) :: r8_law
def r10_law : List CS := (.asg (.nm 2) (.lst [.bin .Sub (.call 1 [.var 1, .bin .Pow (.lit (.int 10)) (.lit (.int 6))]) (.lit (.int 500000)), .bin .Add (.lit (.str "text ")) (.blt .str [.call 1 [.var 1, .lit (.int 99)]]), .tup [.lit (.int 1), .call 1 [.var 1, .lit (.int 9)]]])) :: r9_law
def N_law : List Str := ["script", "box", "some", "v", "errors", "one", "k", "many", "what", "word", "j"]
def b_law : List CS := ((.asg (.nm 1) (.call 0 [.var 0, .lit (.int 0)])) :: r10_law)

def src : Src := {
  fns := [("_law_box", 0), ("_law_take", 1), ("_law_pick", 2), ("_law_ones", 3), ("_law_kinds", 4), ("law", 5)],
  cls := [("DutyError", 0), ("InvalidNumber", 1), ("InvalidTable", 2), ("InvalidRow", 3), ("InvalidRules", 4), ("InvalidMachines", 5), ("InvalidWants", 6), ("InvalidRota", 7), ("InvalidDislikes", 8), ("InvalidLoads", 9), ("InvalidFixed", 10), ("InvalidSkills", 11), ("InvalidPosts", 12), ("InvalidJobs", 13), ("InvalidPart", 14), ("InvalidQuestion", 15), ("InvalidClaim", 16), ("TooLarge", 17), ("Undefined", 18), ("NothingToUndo", 19)],
  cons := [],
  cv := [],
  free := ["len", "abs", "int", "str", "isinstance", "range", "ValueError"],
  ars := [2, 2, 2, 1, 1, 1],
  ios := [[], [true], [true], [], [], []],
  inits := [],
  mths := [],
  exfs := [(1, "value"), (2, "value"), (3, "value"), (4, "value"), (5, "value"), (6, "value"), (7, "value"), (8, "value"), (9, "value"), (10, "value"), (11, "value"), (12, "value"), (13, "value"), (14, "value"), (15, "value"), (16, "value"), (17, "many"), (18, "what"), (19, "word")],
  fldl := [],
  ids := [],
  ebase := [0],
  dl := [⟨("_law_box", none), "_law_box", "_law_box", defArgs (top 22), defBody (top 22), defScope (top 22), [], []⟩, ⟨("_law_take", none), "_law_take", "_law_take", defArgs (top 23), defBody (top 23), defScope (top 23), [], []⟩, ⟨("_law_pick", none), "_law_pick", "_law_pick", defArgs (top 24), defBody (top 24), defScope (top 24), [], []⟩, ⟨("_law_ones", none), "_law_ones", "_law_ones", defArgs (top 25), defBody (top 25), defScope (top 25), [], []⟩, ⟨("_law_kinds", none), "_law_kinds", "_law_kinds", defArgs (top 26), defBody (top 26), defScope (top 26), [], []⟩, ⟨("law", none), "law", "law", defArgs (top 27), defBody (top 27), defScope (top 27), [], []⟩],
  info := [(N_law_box, b_law_box), (N_law_take, b_law_take), (N_law_pick, b_law_pick), (N_law_ones, b_law_ones), (N_law_kinds, b_law_kinds), (N_law, b_law)] }

theorem ok_law_box : okSts src.T src.g N_law_box (defScope (top 22)) (prs (src.g.io 0) 0) true b_law_box (defBody (top 22)) = true := by decide +kernel
theorem sc_law_box : FnScope N_law_box ["script", "k"] (defScope (top 22)) := ⟨rfl, rfl, rfl, by decide +kernel, rfl, by decide +kernel, by decide +kernel⟩
theorem da_law_box {fuel : Nat} {K : PySem.W.Frag} {fa : List He.Fa} (c : He.SaysD fa src.dl K) : DefAt K (src.G fuel) src.T src.bd 0 (src.fa K 0) := defAt_of (c.def_ 0 rfl) sc_law_box (fun _ _ _ _ _ _ us hl => match us, hl with | [_, _], _ => rfl) rfl (show (src.g.io 0).length ≤ 2 by decide +kernel) rfl ok_law_box

theorem ok_law_take : okSts src.T src.g N_law_take (defScope (top 23)) (prs (src.g.io 1) 0) true b_law_take (defBody (top 23)) = true := by decide +kernel
theorem sc_law_take : FnScope N_law_take ["box", "many"] (defScope (top 23)) := ⟨rfl, rfl, rfl, by decide +kernel, rfl, by decide +kernel, by decide +kernel⟩
theorem da_law_take {fuel : Nat} {K : PySem.W.Frag} {fa : List He.Fa} (c : He.SaysD fa src.dl K) : DefAt K (src.G fuel) src.T src.bd 1 (src.fa K 1) := defAt_of (c.def_ 1 rfl) sc_law_take (fun _ _ _ _ _ _ us hl => match us, hl with | [_, _], _ => rfl) rfl (show (src.g.io 1).length ≤ 2 by decide +kernel) rfl ok_law_take

theorem ok_law_pick : okSts src.T src.g N_law_pick (defScope (top 24)) (prs (src.g.io 2) 0) true b_law_pick (defBody (top 24)) = true := by decide +kernel
theorem sc_law_pick : FnScope N_law_pick ["box", "some"] (defScope (top 24)) := ⟨rfl, rfl, rfl, by decide +kernel, rfl, by decide +kernel, by decide +kernel⟩
theorem da_law_pick {fuel : Nat} {K : PySem.W.Frag} {fa : List He.Fa} (c : He.SaysD fa src.dl K) : DefAt K (src.G fuel) src.T src.bd 2 (src.fa K 2) := defAt_of (c.def_ 2 rfl) sc_law_pick (fun _ _ _ _ _ _ us hl => match us, hl with | [_, _], _ => rfl) rfl (show (src.g.io 2).length ≤ 2 by decide +kernel) rfl ok_law_pick

theorem ok_law_ones : okSts src.T src.g N_law_ones (defScope (top 25)) (prs (src.g.io 3) 0) true b_law_ones (defBody (top 25)) = true := by decide +kernel
theorem sc_law_ones : FnScope N_law_ones ["v"] (defScope (top 25)) := ⟨rfl, rfl, rfl, by decide +kernel, rfl, by decide +kernel, by decide +kernel⟩
theorem da_law_ones {fuel : Nat} {K : PySem.W.Frag} {fa : List He.Fa} (c : He.SaysD fa src.dl K) : DefAt K (src.G fuel) src.T src.bd 3 (src.fa K 3) := defAt_of (c.def_ 3 rfl) sc_law_ones (fun _ _ _ _ _ _ us hl => match us, hl with | [_], _ => rfl) rfl (show (src.g.io 3).length ≤ 1 by decide +kernel) rfl ok_law_ones

theorem ok_law_kinds : okSts src.T src.g N_law_kinds (defScope (top 26)) (prs (src.g.io 4) 0) true b_law_kinds (defBody (top 26)) = true := by decide +kernel
theorem sc_law_kinds : FnScope N_law_kinds ["e"] (defScope (top 26)) := ⟨rfl, rfl, rfl, by decide +kernel, rfl, by decide +kernel, by decide +kernel⟩
theorem da_law_kinds {fuel : Nat} {K : PySem.W.Frag} {fa : List He.Fa} (c : He.SaysD fa src.dl K) : DefAt K (src.G fuel) src.T src.bd 4 (src.fa K 4) := defAt_of (c.def_ 4 rfl) sc_law_kinds (fun _ _ _ _ _ _ us hl => match us, hl with | [_], _ => rfl) rfl (show (src.g.io 4).length ≤ 1 by decide +kernel) rfl ok_law_kinds

theorem ok_law : okSts src.T src.g N_law (defScope (top 27)) (prs (src.g.io 5) 0) true b_law (defBody (top 27)) = true := by decide +kernel
theorem sc_law : FnScope N_law ["script"] (defScope (top 27)) := ⟨rfl, rfl, rfl, by decide +kernel, rfl, by decide +kernel, by decide +kernel⟩
theorem da_law {fuel : Nat} {K : PySem.W.Frag} {fa : List He.Fa} (c : He.SaysD fa src.dl K) : DefAt K (src.G fuel) src.T src.bd 5 (src.fa K 5) := defAt_of (c.def_ 5 rfl) sc_law (fun _ _ _ _ _ _ us hl => match us, hl with | [_], _ => rfl) rfl (show (src.g.io 5).length ≤ 1 by decide +kernel) rfl ok_law

theorem das {fuel : Nat} {K : PySem.W.Frag} {fa : List He.Fa} (c : He.SaysD fa src.dl K) : ∀ i, i < src.dl.length → DefAt K (src.G fuel) src.T src.bd i (src.fa K i) := fun i h => by
  match i, h with
  | 0, _ => exact da_law_box c
  | 1, _ => exact da_law_take c
  | 2, _ => exact da_law_pick c
  | 3, _ => exact da_law_ones c
  | 4, _ => exact da_law_kinds c
  | 5, _ => exact da_law c
  | n + 6, h => exact absurd h (by show ¬ n + 6 < 6; omega)

theorem A_law_box {fuel n : Nat} {ds : List D} : Ph (src.G fuel) src.bd (n + 1) 0 ds = runF (Gn (src.G fuel) src.bd n) [] 4 b_law_box ds := rfl
theorem io_law_box {fuel : Nat} : (src.G fuel).io 0 = [] := rfl
theorem A_law_take {fuel n : Nat} {ds : List D} : Ph (src.G fuel) src.bd (n + 1) 1 ds = runF (Gn (src.G fuel) src.bd n) [true] 3 b_law_take ds := rfl
theorem io_law_take {fuel : Nat} : (src.G fuel).io 1 = [true] := rfl
theorem A_law_pick {fuel n : Nat} {ds : List D} : Ph (src.G fuel) src.bd (n + 1) 2 ds = runF (Gn (src.G fuel) src.bd n) [true] 2 b_law_pick ds := rfl
theorem io_law_pick {fuel : Nat} : (src.G fuel).io 2 = [true] := rfl
theorem A_law_ones {fuel n : Nat} {ds : List D} : Ph (src.G fuel) src.bd (n + 1) 3 ds = runF (Gn (src.G fuel) src.bd n) [] 2 b_law_ones ds := rfl
theorem io_law_ones {fuel : Nat} : (src.G fuel).io 3 = [] := rfl
theorem A_law_kinds {fuel n : Nat} {ds : List D} : Ph (src.G fuel) src.bd (n + 1) 4 ds = runF (Gn (src.G fuel) src.bd n) [] 2 b_law_kinds ds := rfl
theorem io_law_kinds {fuel : Nat} : (src.G fuel).io 4 = [] := rfl
theorem A_law {fuel n : Nat} {ds : List D} : Ph (src.G fuel) src.bd (n + 1) 5 ds = runF (Gn (src.G fuel) src.bd n) [] 11 b_law ds := rfl
theorem io_law {fuel : Nat} : (src.G fuel).io 5 = [] := rfl
theorem st_ok : src.stB = true := by decide +kernel

end K01
end

section
set_option maxRecDepth 100000
set_option maxHeartbeats 4000000
namespace K01
open PySem Ev
variable {fuel n : Nat}
abbrev GL (fuel : Nat) (Phi : Nat → FnR) : Gam := { src.G fuel with Phi := Phi }
abbrev er (C : Nat) (f : Str) (v : D) : D := .err C [(f, v)]
def ones (v : D) : List D := [er 1 "value" v, er 2 "value" v, er 3 "value" v, er 4 "value" v, er 5 "value" v, er 6 "value" v, er 7 "value" v, er 8 "value" v, er 9 "value" v, er 10 "value" v, er 11 "value" v, er 12 "value" v, er 13 "value" v, er 14 "value" v, er 15 "value" v, er 16 "value" v]
def all3 (v : D) : List D := ones v ++ [er 17 "many" v, er 18 "what" v, er 19 "word" v]
theorem exf_v : ∀ C : Nat, 1 ≤ C → C ≤ 16 → (src.G fuel).exf C = some ("value" : Str) := by
  intro C h1 h2
  have : ∀ i : Fin 17, 1 ≤ i.val → src.g.exf i.val = some ("value" : Str) := by decide +kernel
  exact this ⟨C, by omega⟩ h1
theorem exf17 : (src.G fuel).exf 17 = some ("many" : Str) := rfl
theorem exf18 : (src.G fuel).exf 18 = some ("what" : Str) := rfl
theorem exf19 : (src.G fuel).exf 19 = some ("word" : Str) := rfl
theorem ek_own {C D : Nat} (h1 : 1 ≤ C) (h2 : C ≤ 19) (h3 : 1 ≤ D) (h4 : D ≤ 19) : (src.G fuel).ekit C (.own D) = some (C == D) := by
  have : ∀ i j : Fin 20, 1 ≤ i.val → 1 ≤ j.val → src.g.ekit i.val (.own j.val) = some (i.val == j.val) := by decide +kernel
  exact this ⟨C, by omega⟩ ⟨D, by omega⟩ h1 h3
theorem ek_top {C : Nat} (h1 : 1 ≤ C) (h2 : C ≤ 19) : (src.G fuel).ekit C (.own 0) = some true ∧ (src.G fuel).ekit C (.ty "ValueError") = some true := by
  have : ∀ i : Fin 20, 1 ≤ i.val → src.g.ekit i.val (.own 0) = some true ∧ src.g.ekit i.val (.ty "ValueError") = some true := by decide +kernel
  exact this ⟨C, by omega⟩ h1
theorem ones_eq {v : D} : Ph (src.G fuel) src.bd (n + 1) 3 [v] = some ([], .ok (.lst (ones v), true)) := by
  rw [A_law_ones]
  have h := exf_v (fuel := fuel)
  simp [runF, finF, startS, evB, evS, evE_var, evE_lit, evE_con, evE_bin, evE_neg, evE_not, evE_cmp, evE_cmp2, evE_and, evE_or, evE_ite, evE_tup, evE_lst, evE_idx, evE_sl, evE_att, evE_call, evE_make, evE_meth, evE_blt, evE_isi, evE_oeq, evE_olen, evE_exv, evE_index, evE_mkE, evE_attE, evE_isiE, parS, evOs, evVs, evP, evT, evAs, seqS, bnd, opd, agd, useOs, rds, Op.rd, Fr.at, Slot.rd, op1, op2, opIdx, atI_0, atI_1, atI_2, L2.ixN, plainR, opCmp, asBl, asInt, Ev.ret, opt, asgS, setV, asgT, opBlt, opBin, eqD_int, retS, itemsOf, unhide, outsS, ownS, setiS, getV, callF, agRds, Ag.rd, agIos, agBack, isTy, opIsi, Ev.most, b_law_ones, h, ones]
def intOf : D → Int
  | .int i => i
  | _ => 0
def kindsP (C : Nat) : List D := [.bl (C == 1), .bl (C == 2), .bl (C == 3), .bl (C == 4), .bl (C == 5), .bl (C == 6), .bl (C == 7), .bl (C == 8), .bl (C == 9), .bl (C == 10), .bl (C == 11), .bl (C == 12), .bl (C == 13), .bl (C == 14), .bl (C == 15), .bl (C == 16), .bl (C == 17), .bl (C == 18), .bl (C == 19), .bl true, .bl true]
theorem kinds_eq {C : Nat} {fs : List (Str × D)} (h1 : 1 ≤ C) (h2 : C ≤ 19) : Ph (src.G fuel) src.bd (n + 1) 4 [.err C fs] = some ([], .ok (.lst (kindsP C), true)) := by
  rw [A_law_kinds]
  have h : ∀ D, 1 ≤ D → D ≤ 19 → (src.G fuel).ekit C (.own D) = some (C == D) := fun D h3 h4 => ek_own h1 h2 h3 h4
  obtain ⟨ht, hv⟩ := ek_top (fuel := fuel) h1 h2
  simp [runF, finF, startS, evB, evS, evE_var, evE_lit, evE_con, evE_bin, evE_neg, evE_not, evE_cmp, evE_cmp2, evE_and, evE_or, evE_ite, evE_tup, evE_lst, evE_idx, evE_sl, evE_att, evE_call, evE_make, evE_meth, evE_blt, evE_isi, evE_oeq, evE_olen, evE_exv, evE_index, evE_mkE, evE_attE, evE_isiE, parS, evOs, evVs, evP, evT, evAs, seqS, bnd, opd, agd, useOs, rds, Op.rd, Fr.at, Slot.rd, op1, op2, opIdx, atI_0, atI_1, atI_2, L2.ixN, plainR, opCmp, asBl, asInt, Ev.ret, opt, asgS, setV, asgT, opBlt, opBin, eqD_int, retS, itemsOf, unhide, outsS, ownS, setiS, getV, callF, agRds, Ag.rd, agIos, agBack, isTy, opIsi, Ev.most, b_law_kinds, r6_law_kinds, r5_law_kinds, r4_law_kinds, r3_law_kinds, r2_law_kinds, r1_law_kinds, opIsiE, h, ht, hv, kindsP]
/-- what the law's calls give -/
structure Sp (Phi : Nat → FnR) : Prop where
  box : Boxes (Phi 0)
  take : Ev.Takes (Phi 1)
  pick : Picks (Phi 2)
  ones : ∀ v, Phi 3 [v] = some ([], .ok (.lst (ones v), true))
  kinds : ∀ C fs, 1 ≤ C → C ≤ 19 → Phi 4 [.err C fs] = some ([], .ok (.lst (kindsP C), true))
theorem sp_ok : Sp (Ph (src.G fuel) src.bd (n + 2)) where
  box := by
    intro ns k h1 h2 h3
    rw [A_law_box]
    exact boxes_run ns k h1 h2 h3
  take := by
    intro a b m h1 h2 h3
    rw [A_law_take]
    exact takes_run a b m h1 h2 h3
  pick := by
    intro a b ds h1 h2 h3
    rw [A_law_pick]
    refine picks_run (i := 1) rfl ?_ a b ds h1 h2 h3
    intro a b m h1 h2 h3
    show ∃ a' b' v, Ph (src.G fuel) src.bd (n + 1) 1 [bx a b, .int m] = _ ∧ _
    rw [A_law_take]
    exact takes_run a b m h1 h2 h3
  ones := fun v => ones_eq (n := n + 1)
  kinds := fun C fs h1 h2 => kinds_eq (n := n + 1) h1 h2
variable {Phi : Nat → FnR}
theorem text_ok {i : Int} (h0 : 0 ≤ i) (h1 : i < 99) : (D.str (Str.ofString "text " ++ Str.ofString i.repr)).shp = true ∧ i.natAbs.log2 < 1920 ∧ (Str.ofString "text ").length + (Str.ofString i.repr).length ≤ 16777216 := by
  have : ∀ j : Fin 99, (D.str (Str.ofString "text " ++ Str.ofString (((j : Nat) : Int)).repr)).shp = true ∧ (((j : Nat) : Int)).natAbs.log2 < 1920 ∧ (Str.ofString "text ").length + (Str.ofString (((j : Nat) : Int)).repr).length ≤ 16777216 := by decide +kernel
  have h := this ⟨i.toNat, by omega⟩
  have e : ((i.toNat : Nat) : Int) = i := by omega
  simpa only [e] using h

theorem s1 (sp : Sp Phi) {ns : List Int} (hn : ns.length ≤ 63) : ∃ a b v so, evB (GL fuel Phi) b_law [.fz (.scr ns), .no, .no, .no, .no, .no, .no, .no, .no, .no, .no] = evB (GL fuel Phi) r7_law [.fz (.scr ns), .ow (bx a b), so, .fz v, .no, .no, .no, .no, .no, .no, .no] ∧ v.shp = true := by
  obtain ⟨a0, b0, e0, hb0⟩ := sp.box ns 0 (by decide) (by decide) hn
  obtain ⟨a1, b1, x1, e1, hb1, h1, h1'⟩ := sp.take a0 b0 1000000 hb0 (by omega) (by omega)
  obtain ⟨a2, b2, x2, e2, hb2, h2, h2'⟩ := sp.take a1 b1 99 hb1 (by omega) (by omega)
  obtain ⟨a3, b3, x3, e3, hb3, h3, h3'⟩ := sp.take a2 b2 9 hb2 (by omega) (by omega)
  obtain ⟨a4, b4, x4, e4, hb4, h4, h4'⟩ := sp.take a3 b3 9 hb3 (by omega) (by omega)
  obtain ⟨t1, t2, t3⟩ := text_ok h2 h2'
  obtain ⟨a5, b5, v, e5, hb5, hv⟩ := sp.pick a4 b4 [.int (x1 - 500000), .str (Str.ofString "text " ++ Str.ofString x2.repr), .tup [.int 1, .int x3], .lst [.int x4], .non, .bl true, .tup []] hb4 (by simp) (by simp)
  refine ⟨a5, b5, v, .fz (.lst [.int (x1 - 500000), .str (Str.ofString "text " ++ Str.ofString x2.repr), .tup [.int 1, .int x3], .lst [.int x4], .non, .bl true, .tup []]), ?_, ?_⟩
  · simp [runF, finF, startS, evB, evS, evE_var, evE_lit, evE_con, evE_bin, evE_neg, evE_not, evE_cmp, evE_cmp2, evE_and, evE_or, evE_ite, evE_tup, evE_lst, evE_idx, evE_sl, evE_att, evE_call, evE_make, evE_meth, evE_blt, evE_isi, evE_oeq, evE_olen, evE_exv, evE_index, evE_mkE, evE_attE, evE_isiE, parS, evOs, evVs, evP, evT, evAs, seqS, bnd, opd, agd, useOs, rds, Op.rd, Fr.at, Slot.rd, op1, op2, opIdx, atI_0, atI_1, atI_2, L2.ixN, plainR, opCmp, asBl, asInt, Ev.ret, opt, asgS, setV, asgT, opBlt, opBin, eqD_int, retS, itemsOf, unhide, outsS, ownS, setiS, getV, callF, agRds, Ag.rd, agIos, agBack, isTy, opIsi, Ev.most, b_law, r10_law, r9_law, r8_law, io_law_box, io_law_take, io_law_pick, e0, e1, e2, e3, e4, e5, t2, t3]
  · simp only [List.mem_cons, List.not_mem_nil, or_false] at hv
    rcases hv with rfl | rfl | rfl | rfl | rfl | rfl | rfl
    · rfl
    · exact t1
    · rfl
    · rfl
    · rfl
    · rfl
    · rfl

theorem lkv {f : Str} {v : D} : List.lookup f [(f, v)] = some v := by simp [List.lookup]
theorem s2 (sp : Sp Phi) {ns : List Int} {bo so : Slot} {v : D} (hv : v.shp = true) : ∃ on, evB (GL fuel Phi) r7_law [.fz (.scr ns), bo, so, .fz v, .no, .no, .no, .no, .no, .no, .no] = evB (GL fuel Phi) r5_law [.fz (.scr ns), bo, so, .fz v, .ow (.lst (ones v)), on, .no, .no, .no, .no, .no] := by
  have es := eqD_self hv
  have e3 := sp.ones v
  obtain ⟨x, s', e, hj, _⟩ := forF_st (σ := Unit) (t := .nm 5) (hid := some 4) (body := evB (GL fuel Phi) f1_law) (fun x s => [.fz (.scr ns), bo, so, .fz v, .hd (.lst (ones v)), s, .no, .no, .no, .no, .no])
    (fun rem _ => ∀ d ∈ rem, ∃ C, d = er C "value" v ∧ 1 ≤ C ∧ C ≤ 16) (ds := ones v) (x := ()) (s := .no) (by
      intro d hd
      simp only [ones, List.mem_cons, List.not_mem_nil, or_false] at hd
      rcases hd with rfl | rfl | rfl | rfl | rfl | rfl | rfl | rfl | rfl | rfl | rfl | rfl | rfl | rfl | rfl | rfl <;> exact ⟨_, rfl, by decide, by decide⟩) (fun d r x hj => by
      obtain ⟨C, rfl, h1, h2⟩ := hj d List.mem_cons_self
      have hx := exf_v (fuel := fuel) C h1 h2
      refine ⟨(), ?_, fun d hd => hj d (List.mem_cons_of_mem _ hd)⟩
      simp [runF, finF, startS, evB, evS, evE_var, evE_lit, evE_con, evE_bin, evE_neg, evE_not, evE_cmp, evE_cmp2, evE_and, evE_or, evE_ite, evE_tup, evE_lst, evE_idx, evE_sl, evE_att, evE_call, evE_make, evE_meth, evE_blt, evE_isi, evE_oeq, evE_olen, evE_exv, evE_index, evE_mkE, evE_attE, evE_isiE, parS, evOs, evVs, evP, evT, evAs, seqS, bnd, opd, agd, useOs, rds, Op.rd, Fr.at, Slot.rd, op1, op2, opIdx, atI_0, atI_1, atI_2, L2.ixN, plainR, opCmp, asBl, asInt, Ev.ret, opt, asgS, setV, asgT, opBlt, opBin, eqD_int, retS, itemsOf, unhide, outsS, ownS, setiS, getV, callF, agRds, Ag.rd, agIos, agBack, isTy, opIsi, Ev.most, f1_law, opAttE, hx, lkv, es]) (by intros; rfl)
  refine ⟨s', ?_⟩
  simp [runF, finF, startS, evB, evS, evE_var, evE_lit, evE_con, evE_bin, evE_neg, evE_not, evE_cmp, evE_cmp2, evE_and, evE_or, evE_ite, evE_tup, evE_lst, evE_idx, evE_sl, evE_att, evE_call, evE_make, evE_meth, evE_blt, evE_isi, evE_oeq, evE_olen, evE_exv, evE_index, evE_mkE, evE_attE, evE_isiE, parS, evOs, evVs, evP, evT, evAs, seqS, bnd, opd, agd, useOs, rds, Op.rd, Fr.at, Slot.rd, op1, op2, opIdx, atI_0, atI_1, atI_2, L2.ixN, plainR, opCmp, asBl, asInt, Ev.ret, opt, asgS, setV, asgT, opBlt, opBin, eqD_int, retS, itemsOf, unhide, outsS, ownS, setiS, getV, callF, agRds, Ag.rd, agIos, agBack, isTy, opIsi, Ev.most, r7_law, r6_law, io_law_ones, e3, e]
theorem s3 (sp : Sp Phi) {ns : List Int} {bo so on : Slot} {v : D} (hv : v.shp = true) : evB (GL fuel Phi) r5_law [.fz (.scr ns), bo, so, .fz v, .ow (.lst (ones v)), on, .no, .no, .no, .no, .no] = evB (GL fuel Phi) r2_law [.fz (.scr ns), bo, so, .fz v, .ow (.lst (all3 v)), on, .no, .fz (er 17 "many" v), .fz (er 18 "what" v), .fz (er 19 "word" v), .no] := by
  have es := eqD_self hv
  have hl : (ones v).length = 16 := rfl
  simp [runF, finF, startS, evB, evS, evE_var, evE_lit, evE_con, evE_bin, evE_neg, evE_not, evE_cmp, evE_cmp2, evE_and, evE_or, evE_ite, evE_tup, evE_lst, evE_idx, evE_sl, evE_att, evE_call, evE_make, evE_meth, evE_blt, evE_isi, evE_oeq, evE_olen, evE_exv, evE_index, evE_mkE, evE_attE, evE_isiE, parS, evOs, evVs, evP, evT, evAs, seqS, bnd, opd, agd, useOs, rds, Op.rd, Fr.at, Slot.rd, op1, op2, opIdx, atI_0, atI_1, atI_2, L2.ixN, plainR, opCmp, asBl, asInt, Ev.ret, opt, asgS, setV, asgT, opBlt, opBin, eqD_int, retS, itemsOf, unhide, outsS, ownS, setiS, getV, callF, agRds, Ag.rd, agIos, agBack, isTy, opIsi, Ev.most, r5_law, r4_law, r3_law, exf17, exf18, exf19, opAttE, lkv, es, hl, all3]
theorem cmp_ok (k : Nat) (hk : k < 19) : eqD (.lst (kindsP (k + 1))) (.lst ((rangeD 0 21).map fun d => .bl (decide (intOf d = (k : Int)) || decide (19 ≤ intOf d)))) = some true := by
  have : ∀ i : Fin 19, eqD (.lst (kindsP (i.val + 1))) (.lst ((rangeD 0 21).map fun d => .bl (decide (intOf d = (i.val : Int)) || decide (19 ≤ intOf d)))) = some true := by decide +kernel
  exact this ⟨k, hk⟩
theorem all_at (v : D) (k : Nat) (hk : k < 19) : ∃ fs, L2.atI (all3 v) (k : Int) = some (.err (k + 1) fs) := by
  have h : (all3 v)[k]? = some (.err (k + 1) [((["value", "value", "value", "value", "value", "value", "value", "value", "value", "value", "value", "value", "value", "value", "value", "value", "many", "what", "word"] : List Str).getD k "x", v)]) := by
    match k, hk with
    | 0, _ | 1, _ | 2, _ | 3, _ | 4, _ | 5, _ | 6, _ | 7, _ | 8, _ | 9, _ | 10, _ | 11, _ | 12, _ | 13, _ | 14, _ | 15, _ | 16, _ | 17, _ | 18, _ => rfl
    | n + 19, h => omega
  have h2 : L2.atI (all3 v) (k : Int) = (all3 v)[k]? := by
    unfold L2.atI L2.ixN
    rw [if_pos (by omega), if_pos (by show (k : Int) < 19; omega), Option.bind_some, Int.toNat_natCast]
  exact ⟨_, h2.trans h⟩
theorem s4 (sp : Sp Phi) {ns : List Int} {bo so on : Slot} {v : D} : ∃ S', evB (GL fuel Phi) r2_law [.fz (.scr ns), bo, so, .fz v, .ow (.lst (all3 v)), on, .no, .fz (er 17 "many" v), .fz (er 18 "what" v), .fz (er 19 "word" v), .no] = some (.ok (.rt (.bl true) false), S') := by
  have hl : (all3 v).length = 19 := rfl
  obtain ⟨x, s', e, hj, _⟩ := forF_st (σ := Unit) (t := .nm 6) (hid := none) (body := evB (GL fuel Phi) f2_law) (fun x s => [.fz (.scr ns), bo, so, .fz v, .ow (.lst (all3 v)), on, s, .fz (er 17 "many" v), .fz (er 18 "what" v), .fz (er 19 "word" v), .no])
    (fun rem _ => ∀ d ∈ rem, ∃ k : Nat, d = .int (k : Int) ∧ k < 19) (ds := rangeD 0 19) (x := ()) (s := .no) (by
      intro d hd
      simp only [rangeD, List.mem_map, List.mem_range] at hd
      obtain ⟨j, hj, rfl⟩ := hd
      exact ⟨j, by rw [Int.zero_add], hj⟩) (fun d r x hj => by
      obtain ⟨k, rfl, hk⟩ := hj d List.mem_cons_self
      obtain ⟨fs, ea⟩ := all_at v k hk
      have ek := sp.kinds (k + 1) fs (by omega) (by omega)
      have ec := cmp_ok k hk
      have hc := compF_map (i := 10) (elt := evE (GL fuel Phi) c1_law) (S := [.fz (.scr ns), bo, so, .fz v, .ow (.lst (all3 v)), on, .fz (.int (k : Int)), .fz (er 17 "many" v), .fz (er 18 "what" v), .fz (er 19 "word" v), .no]) (f := fun d => .bl (decide (intOf d = (k : Int)) || decide (19 ≤ intOf d))) (g := fun _ => false) (ds := rangeD 0 21) (by simp) (.inl rfl) (by rw [rangeD_len]; decide) fun d hd => by
        simp only [rangeD, List.mem_map, List.mem_range] at hd
        obtain ⟨j, hj, rfl⟩ := hd
        rw [Int.zero_add]
        by_cases h1 : (j : Int) = (k : Int)
        · simp [runF, finF, startS, evB, evS, evE_var, evE_lit, evE_con, evE_bin, evE_neg, evE_not, evE_cmp, evE_cmp2, evE_and, evE_or, evE_ite, evE_tup, evE_lst, evE_idx, evE_sl, evE_att, evE_call, evE_make, evE_meth, evE_blt, evE_isi, evE_oeq, evE_olen, evE_exv, evE_index, evE_mkE, evE_attE, evE_isiE, parS, evOs, evVs, evP, evT, evAs, seqS, bnd, opd, agd, useOs, rds, Op.rd, Fr.at, Slot.rd, op1, op2, opIdx, atI_0, atI_1, atI_2, L2.ixN, plainR, opCmp, asBl, asInt, Ev.ret, opt, asgS, setV, asgT, opBlt, opBin, eqD_int, retS, itemsOf, unhide, outsS, ownS, setiS, getV, callF, agRds, Ag.rd, agIos, agBack, isTy, opIsi, Ev.most, c1_law, intOf, h1]
        · by_cases h2 : (19 : Int) ≤ (j : Int)
          · simp [runF, finF, startS, evB, evS, evE_var, evE_lit, evE_con, evE_bin, evE_neg, evE_not, evE_cmp, evE_cmp2, evE_and, evE_or, evE_ite, evE_tup, evE_lst, evE_idx, evE_sl, evE_att, evE_call, evE_make, evE_meth, evE_blt, evE_isi, evE_oeq, evE_olen, evE_exv, evE_index, evE_mkE, evE_attE, evE_isiE, parS, evOs, evVs, evP, evT, evAs, seqS, bnd, opd, agd, useOs, rds, Op.rd, Fr.at, Slot.rd, op1, op2, opIdx, atI_0, atI_1, atI_2, L2.ixN, plainR, opCmp, asBl, asInt, Ev.ret, opt, asgS, setV, asgT, opBlt, opBin, eqD_int, retS, itemsOf, unhide, outsS, ownS, setiS, getV, callF, agRds, Ag.rd, agIos, agBack, isTy, opIsi, Ev.most, c1_law, intOf, h1, h2, hl]
          · simp [runF, finF, startS, evB, evS, evE_var, evE_lit, evE_con, evE_bin, evE_neg, evE_not, evE_cmp, evE_cmp2, evE_and, evE_or, evE_ite, evE_tup, evE_lst, evE_idx, evE_sl, evE_att, evE_call, evE_make, evE_meth, evE_blt, evE_isi, evE_oeq, evE_olen, evE_exv, evE_index, evE_mkE, evE_attE, evE_isiE, parS, evOs, evVs, evP, evT, evAs, seqS, bnd, opd, agd, useOs, rds, Op.rd, Fr.at, Slot.rd, op1, op2, opIdx, atI_0, atI_1, atI_2, L2.ixN, plainR, opCmp, asBl, asInt, Ev.ret, opt, asgS, setV, asgT, opBlt, opBin, eqD_int, retS, itemsOf, unhide, outsS, ownS, setiS, getV, callF, agRds, Ag.rd, agIos, agBack, isTy, opIsi, Ev.most, c1_law, intOf, h1, h2, hl]
      refine ⟨(), ?_, fun d hd => hj d (List.mem_cons_of_mem _ hd)⟩
      simp [runF, finF, startS, evB, evS, evE_var, evE_lit, evE_con, evE_bin, evE_neg, evE_not, evE_cmp, evE_cmp2, evE_and, evE_or, evE_ite, evE_tup, evE_lst, evE_idx, evE_sl, evE_att, evE_call, evE_make, evE_meth, evE_blt, evE_isi, evE_oeq, evE_olen, evE_exv, evE_index, evE_mkE, evE_attE, evE_isiE, parS, evOs, evVs, evP, evT, evAs, seqS, bnd, opd, agd, useOs, rds, Op.rd, Fr.at, Slot.rd, op1, op2, opIdx, atI_0, atI_1, atI_2, L2.ixN, plainR, opCmp, asBl, asInt, Ev.ret, opt, asgS, setV, asgT, opBlt, opBin, eqD_int, retS, itemsOf, unhide, outsS, ownS, setiS, getV, callF, agRds, Ag.rd, agIos, agBack, isTy, opIsi, Ev.most, f2_law, evE_comp, io_law_kinds, ea, ek, hl, hc, ec]) (by intros; rfl)
  refine ⟨[.fz (.scr ns), bo, so, .fz v, .ow (.lst (all3 v)), on, s', .fz (er 17 "many" v), .fz (er 18 "what" v), .fz (er 19 "word" v), .no], ?_⟩
  simp only [unhide] at e
  simp [runF, finF, startS, evB, evS, evE_var, evE_lit, evE_con, evE_bin, evE_neg, evE_not, evE_cmp, evE_cmp2, evE_and, evE_or, evE_ite, evE_tup, evE_lst, evE_idx, evE_sl, evE_att, evE_call, evE_make, evE_meth, evE_blt, evE_isi, evE_oeq, evE_olen, evE_exv, evE_index, evE_mkE, evE_attE, evE_isiE, parS, evOs, evVs, evP, evT, evAs, seqS, bnd, opd, agd, useOs, rds, Op.rd, Fr.at, Slot.rd, op1, op2, opIdx, atI_0, atI_1, atI_2, L2.ixN, plainR, opCmp, asBl, asInt, Ev.ret, opt, asgS, setV, asgT, opBlt, opBin, eqD_int, retS, itemsOf, unhide, outsS, ownS, setiS, getV, callF, agRds, Ag.rd, agIos, agBack, isTy, opIsi, Ev.most, r2_law, r1_law, hl, e]
/-- law_k01's plain equation -/
theorem plain (sp : Sp Phi) {ns : List Int} (hn : ns.length ≤ 63) : runF (GL fuel Phi) [] 11 b_law [.scr ns] = some ([], .ok (.bl true, false)) := by
  rw [runF_fin]
  show finF [] (evB (GL fuel Phi) b_law [.fz (.scr ns), .no, .no, .no, .no, .no, .no, .no, .no, .no, .no]) = _
  obtain ⟨a, b, v, so, e1, hv⟩ := s1 (fuel := fuel) sp hn
  rw [e1]
  obtain ⟨on, e2⟩ := s2 (fuel := fuel) sp (ns := ns) (bo := .ow (bx a b)) (so := so) hv
  rw [e2, s3 sp hv]
  obtain ⟨S', e4⟩ := s4 (fuel := fuel) sp (ns := ns) (bo := .ow (bx a b)) (so := so) (on := on) (v := v)
  rw [e4]
  rfl
theorem plain_eq {ns : List Int} (hn : ns.length ≤ 63) : Ph (src.G fuel) src.bd 5 5 [.scr ns] = some ([], .ok (.bl true, false)) := by
  rw [A_law]
  exact plain (sp_ok (n := 2)) hn

end K01
end

section
set_option maxRecDepth 100000
set_option maxHeartbeats 0
namespace HeadK01
open PySem PySem.W PySem.Calls PyProof.Rows
abbrev R : OpenRow := OpenLaw.row PySem.Challenge.rw_dutyweeks_k01_errors
abbrev qv : Program := view R.prog [27]
def names : List PySem.Str := ["DutyError", "InvalidNumber", "InvalidTable", "InvalidRow", "InvalidRules", "InvalidMachines", "InvalidWants", "InvalidRota", "InvalidDislikes", "InvalidLoads", "InvalidFixed", "InvalidSkills", "InvalidPosts", "InvalidJobs", "InvalidPart", "InvalidQuestion", "InvalidClaim", "TooLarge", "Undefined", "NothingToUndo", "_law_box", "_law_take", "_law_pick", "_law_ones", "_law_kinds"]
abbrev exb (K : PySem.W.Frag) : Bool := K01.src.exB R.prog K
abbrev hk : Hook := Ev.hookP 7 K01.src.faL K01.src.dl exb
def ob (s : SharedT) : He.AlD × Bool := Ev.obsP 7 K01.src.faL K01.src.dl exb (HandSHeadRun.getT s)
theorem ob_eq (s : SharedT) : ob s = hk.obs s.abs := Ev.obsP_eq (HandSHeadRun.getT_eq s)
theorem run (w : World) : HandSHeadRun.RunEq R qv hk ob 6000 names w := by
  intro os
  kernel_rfl
end HeadK01
open PySem PySem.W PySem.Calls PyProof.Rows
/-- the row holds, from a plain equation -/
theorem of_K01 {fuel : Nat} (hval : ∀ ns : List Int, ns.length ≤ 63 → ∃ fl, Ev.Ph (K01.src.G fuel) K01.src.bd 5 5 [.scr ns] = some ([], .ok (.bl true, fl))) : PySem.Challenge.rw_dutyweeks_k01_errors.Holds := by
  w_on; o_law
  refine HandSHeadRun.head_any (r := OpenLaw.row PySem.Challenge.rw_dutyweeks_k01_errors) (q := HeadK01.qv) (H := HeadK01.hk) (ob := HeadK01.ob) (M := 6000) (loose := HeadK01.names) (d := HandSHeadRun.topDef (OpenLaw.row PySem.Challenge.rw_dutyweeks_k01_errors).prog 27) (kwd := []) HeadK01.ob_eq
    (by kernel_rfl) (fun s => by kernel_rfl) HeadK01.run (by kernel_rfl) (by kernel_rfl) (by kernel_rfl) (by rfl) (by first | assumption | decide +kernel) (by decide +kernel) ⟨rfl, rfl, rfl, rfl, rfl, by decide +kernel⟩ ?hw ?hc
  case hw => w_witness2
  case hc =>
    refine L2.walk_ofE (l := PySem.Challenge.rw_dutyweeks_k01_errors) (n := 63) (k := 10) (x := "script") (CX := L2.CX0) rfl (by decide) (by kernel_rfl) ⟨rfl, by decide, by decide⟩ ?F (fun _ _ _ _ z => z)
    intro w mg fa h Y G hmg0
    obtain ⟨K, KX, c, ex⟩ := Y
    have hmg : mg ("law" : PySem.Str) = some (.ref fa) := by
      have e : (HandSHeadRun.topDef (OpenLaw.row PySem.Challenge.rw_dutyweeks_k01_errors).prog 27).name = ("law" : PySem.Str) := by kernel_rfl
      rw [← e]
      exact hmg0
    have t := K01.src.tx (P := PySem.Challenge.rw_dutyweeks_k01_errors.prog) (fuel := fuel) KX G (fun f hf => He.SaysD.facts c hf) K01.st_ok ex (by kernel_rfl) (K01.das c)
    have hl : K01.src.T.fns.lookup ("law" : PySem.Str) = some 5 := by decide +kernel
    have e := hmg.symm.trans (t.fn _ _ hl).1
    cases e
    obtain ⟨fd, hb, sp, hsp, hF⟩ := Ev.law_walk (x := "script") (n := 4) t (c.def_ 5 rfl) K01.sc_law (fun _ _ _ _ _ _ us hl => match us, hl with | [_], _ => rfl) rfl rfl K01.ok_law hval
    exact ⟨K, fd, sp, KX, hb, hsp, fun base h1 h2 => hF w base h1 h2⟩
end

set_option maxRecDepth 100000 in
set_option maxHeartbeats 0 in
theorem PySem.Challenge.cw_dutyweeks_k01_errors_holds : PySem.Challenge.rw_dutyweeks_k01_errors.Holds := by
  exact of_K01 (fuel := 0) fun ns hn => ⟨false, K01.plain_eq hn⟩
