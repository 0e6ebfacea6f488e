import PyProof.Rows.All
import Wide.All
import OpenK.AllK
import Wide.FinOn
import HandS.CallLocal
import HandS.Conv
import HandS.Deep
import HandS.DictComp
import HandS.EndTab
import HandS.Exc
import HandS.ExcField
import HandS.ExcInit
import HandS.ExcIs
import HandS.ExcOwn
import HandS.ForMost
import HandS.IsInst
import HandS.Iter
import HandS.Lambda
import HandS.ListItems
import HandS.More
import HandS.NoneIn
import HandS.Rev
import HandS.SetFor
import HandS.SetKeys
import HandS.Small
import HandS.SortInts
import HandS.SortKw
import HandS.Strs
import HandS.Style
import HandS.TryOnly
import HandS.TupAny
import HandS.TupLe
import HandS.TupMul
import HandS.Wide
import HandS.WordsExc
import HandS.Zip
import KE.GoesEnum
import KE.KExcIs
import KE.KItemsList
import KE.KMinKey
import PySem.Challenge.RW_asifcopied_k63_whole_jumps_are_short
set_option Elab.async false
set_option linter.all false
set_option maxRecDepth 100000
set_option maxHeartbeats 4000000
/-! PL: readings over plain data. -/
namespace PL
open PySem L2

/-- plain data -/
inductive D where
  | non | bl (b : Bool) | int (i : Int) | str (s : Str) | tup (l : List D) | lst (l : List D) | dic (l : List (Key × D)) | opq (v : V) | ftp (l : List D) | exc (c : Value) (ns : List Str) (l : List D) | lam (F : Addr → Addr → Heap → Prop) (C : Addr → Heap → Prop) | ins (C : Addr) (ns : List Str) (l : List D)

/-- an exception's object at a, of the class c, its dict at d -/
def ExcK (c : Value) (d : Option Addr) (a : Addr) : HO := .ext fun h => ∃ (oe : Obj) (vs : Array Value), h.get? a = some oe ∧ Zc c d oe ∧ oe.data = .fields vs

/-- what stands at addresses -/
abbrev At := Addr → HO → Prop
mutual
inductive Rp (A : At) : V → D → Prop
  | non : Rp A .non .non
  | bl (b : Bool) : Rp A (.bl b) (.bl b)
  | int (i : Int) : Rp A (.int i) (.int i)
  | str (s : Str) : Rp A (.str s) (.str s)
  | opq (v : V) : Rp A v (.opq v)
  | tup {a : Addr} {xs : List V} {ds : List D} : A a (.tup xs) → RpL A xs ds → Rp A (.ref a) (.tup ds)
  | lst {a : Addr} {xs : List V} {ds : List D} : A a (.lst xs) → RpL A xs ds → Rp A (.ref a) (.lst ds)
  | dic {a : Addr} {xs : List (Key × V)} {ds : List (Key × D)} : A a (.dK xs) → RpD A xs ds → Rp A (.ref a) (.dic ds)
  | ftp {a : Addr} {ob : Obj} {xs : List V} {ds : List D} : A a (.frz ob (.tup xs)) → ob.dict = none → RpL A xs ds → Rp A (.ref a) (.ftp ds)
  | exc0 {a : Addr} {c : Value} : A a (ExcK c none a) → Rp A (.ref a) (.exc c [] [])
  | exc1 {a dd : Addr} {c : Value} {ns : List Str} {xs : List V} {ds : List D} : A a (ExcK c (some dd) a) → A dd (.xd (ns.zip xs)) → ns.length = xs.length → RpL A xs ds → Rp A (.ref a) (.exc c ns ds)
  | lam {a c : Addr} {F : Addr → Addr → Heap → Prop} {C : Addr → Heap → Prop} : A a (.ext (F a c)) → A c (.ext (C c)) → Rp A (.ref a) (.lam F C)
  | ins {a dx C : Addr} {ns : List Str} {xs : List V} {ds : List D} : A a (.ins C dx (ns.zip xs)) → ns.length = xs.length → RpL A xs ds → Rp A (.ref a) (.ins C ns ds)
inductive RpL (A : At) : List V → List D → Prop
  | nil : RpL A [] []
  | cons {v : V} {xs : List V} {d : D} {ds : List D} : Rp A v d → RpL A xs ds → RpL A (v :: xs) (d :: ds)
inductive RpD (A : At) : List (Key × V) → List (Key × D) → Prop
  | nil : RpD A [] []
  | cons {k : Key} {v : V} {xs : List (Key × V)} {d : D} {ds : List (Key × D)} : Rp A v d → RpD A xs ds → RpD A ((k, v) :: xs) ((k, d) :: ds)
end
def LeA (A B : At) : Prop := ∀ a o, A a o → B a o
theorem LeA.refl (A : At) : LeA A A := fun _ _ h => h
theorem LeA.trans {A B C : At} (x : LeA A B) (y : LeA B C) : LeA A C := fun a o h => y a o (x a o h)
mutual
theorem Rp.mono {A B : At} (h : LeA A B) : ∀ {v : V} {d : D}, Rp A v d → Rp B v d
  | _, _, .non => .non
  | _, _, .bl b => .bl b
  | _, _, .int i => .int i
  | _, _, .str s => .str s
  | _, _, .opq v => .opq v
  | _, _, .tup e r => .tup (h _ _ e) (RpL.mono h r)
  | _, _, .lst e r => .lst (h _ _ e) (RpL.mono h r)
  | _, _, .dic e r => .dic (h _ _ e) (RpD.mono h r)
  | _, _, .ftp e d r => .ftp (h _ _ e) d (RpL.mono h r)
  | _, _, .exc0 e => .exc0 (h _ _ e)
  | _, _, .exc1 e d l r => .exc1 (h _ _ e) (h _ _ d) l (RpL.mono h r)
  | _, _, .lam e u => .lam (h _ _ e) (h _ _ u)
  | _, _, .ins e l r => .ins (h _ _ e) l (RpL.mono h r)
theorem RpL.mono {A B : At} (h : LeA A B) : ∀ {v : List V} {d : List D}, RpL A v d → RpL B v d
  | _, _, .nil => .nil
  | _, _, .cons a r => .cons (Rp.mono h a) (RpL.mono h r)
theorem RpD.mono {A B : At} (h : LeA A B) : ∀ {v : List (Key × V)} {d : List (Key × D)}, RpD A v d → RpD B v d
  | _, _, .nil => .nil
  | _, _, .cons a r => .cons (Rp.mono h a) (RpD.mono h r)
end
section
variable {A B : At} {v w : V} {d e : D} {xs ys : List V} {ds es : List D}
theorem RpL.length : ∀ {xs : List V} {ds : List D}, RpL A xs ds → xs.length = ds.length
  | _, _, .nil => rfl
  | _, _, .cons _ r => congrArg Nat.succ (RpL.length r)
theorem RpL.get : ∀ {xs : List V} {ds : List D} {i : Nat} {d : D}, RpL A xs ds → ds[i]? = some d → ∃ v, xs[i]? = some v ∧ Rp A v d
  | _, _, _, _, .nil, h => by cases h
  | _, _, 0, _, .cons a _, h => by cases h; exact ⟨_, rfl, a⟩
  | _, _, i + 1, _, .cons _ r, h => RpL.get (i := i) r h
theorem RpL.getV : ∀ {xs : List V} {ds : List D} {i : Nat} {v : V}, RpL A xs ds → xs[i]? = some v → ∃ d, ds[i]? = some d ∧ Rp A v d
  | _, _, _, _, .nil, h => by cases h
  | _, _, 0, _, .cons a _, h => by cases h; exact ⟨_, rfl, a⟩
  | _, _, i + 1, _, .cons _ r, h => RpL.getV (i := i) r h
theorem RpL.append : ∀ {xs ys : List V} {ds es : List D}, RpL A xs ds → RpL A ys es → RpL A (xs ++ ys) (ds ++ es)
  | _, _, _, _, .nil, s => s
  | _, _, _, _, .cons a r, s => .cons a (RpL.append r s)
theorem RpL.take : ∀ {xs : List V} {ds : List D} (n : Nat), RpL A xs ds → RpL A (xs.take n) (ds.take n)
  | _, _, 0, _ => by simp; exact .nil
  | _, _, _ + 1, .nil => .nil
  | _, _, n + 1, .cons a r => .cons a (RpL.take n r)
theorem RpL.drop : ∀ {xs : List V} {ds : List D} (n : Nat), RpL A xs ds → RpL A (xs.drop n) (ds.drop n)
  | _, _, 0, h => h
  | _, _, _ + 1, .nil => .nil
  | _, _, n + 1, .cons _ r => RpL.drop n r
theorem RpL.set : ∀ {xs : List V} {ds : List D} (n : Nat) {v : V} {d : D}, Rp A v d → RpL A xs ds → RpL A (xs.set n v) (ds.set n d)
  | _, _, _, _, _, _, .nil => .nil
  | _, _, 0, _, _, h, .cons _ r => .cons h r
  | _, _, n + 1, _, _, h, .cons a r => .cons a (RpL.set n h r)
theorem RpL.eraseIdx : ∀ {xs : List V} {ds : List D} (n : Nat), RpL A xs ds → RpL A (xs.eraseIdx n) (ds.eraseIdx n)
  | _, _, _, .nil => .nil
  | _, _, 0, .cons _ r => r
  | _, _, n + 1, .cons a r => .cons a (RpL.eraseIdx n r)
theorem RpL.dropLast : ∀ {xs : List V} {ds : List D}, RpL A xs ds → RpL A xs.dropLast ds.dropLast
  | _, _, .nil => .nil
  | _, _, .cons _ .nil => .nil
  | _, _, .cons a (.cons b r) => .cons a (RpL.dropLast (.cons b r))
theorem RpL.rev {xs : List V} {ds : List D} (h : RpL A xs ds) : RpL A xs.reverse ds.reverse := by
  induction xs generalizing ds with
  | nil => cases h; exact .nil
  | cons x xs ih =>
    cases h with
    | cons a r =>
      rw [List.reverse_cons, List.reverse_cons]
      exact (ih r).append (.cons a .nil)
theorem RpL.rep (n : Nat) (h : Rp A v d) : RpL A (List.replicate n v) (List.replicate n d) := by
  induction n with
  | zero => exact .nil
  | succ n ih => exact .cons h ih
theorem RpL.ints {ns : List Int} : ∀ {xs : List V}, RpL A xs (ns.map D.int) → xs = ns.map V.int := by
  induction ns with
  | nil => intro xs h; cases h; rfl
  | cons n ns ih =>
    intro xs h
    cases h with
    | cons a r => cases a; rw [ih r]; rfl
theorem RpL.ofInts (ns : List Int) : RpL A (ns.map V.int) (ns.map D.int) := by
  induction ns with
  | nil => exact .nil
  | cons n ns ih => exact .cons (.int n) ih
theorem RpL.bls {ns : List Bool} : ∀ {xs : List V}, RpL A xs (ns.map D.bl) → xs = ns.map V.bl := by
  induction ns with
  | nil => intro xs h; cases h; rfl
  | cons n ns ih =>
    intro xs h
    cases h with
    | cons a r => cases a; rw [ih r]; rfl
end

/-! ### the world, the frame -/
/-- what an own object is: there, and no lasting fact -/
def Trk (o : Option HO) : Prop := ∃ u, o = some u ∧ ∀ φ, u ≠ .ext φ
theorem Trk.ne {o : Option HO} (h : Trk o) : o ≠ none := by obtain ⟨u, rfl, _⟩ := h; exact fun z => nomatch z
/-- ok n: what the world's own objects are, so that at most n draws were made -/
structure Wd where
  Z : Addr → Prop
  ok : Nat → Hp → Prop
  up : ∀ n k H, n ≤ k → ok n H → ok k H
  st : ∀ n H H', (∀ b o, Z b → H b = some o → H' b = some o) → (∀ b φ, H b = some (.ext φ) → H' b = some (.ext φ)) → ok n H → ok n H'
  tr : ∀ n H b, ok n H → Z b → Trk (H b)
/-- so many draws are let -/
def LIM : Nat := 1099511627776
/-- o stands at a; a dict may be locked meanwhile -/
def Fzb (o : HO) : Prop := (∃ kvs, o = .dK kvs) ∨ ∃ xs, o = .tup xs
def Rk (H : Hp) (a : Addr) (o : HO) : Prop := H a = some o ∨ ∃ ob, ∃ _ : Unit, Fzb o ∧ H a = some (.frz ob o)
theorem rk_lst {H : Hp} {a : Addr} {xs : List V} (h : Rk H a (.lst xs)) : H a = some (.lst xs) := h.elim id fun ⟨_, _, e, _⟩ => e.elim (fun ⟨_, e⟩ => nomatch e) fun ⟨_, e⟩ => nomatch e
theorem rk_rd {H : Hp} {a : Addr} {o : HO} (h : Rk H a o) : Rd H a o := h.elim .inl fun ⟨ob, _, _, e⟩ => .inr ⟨ob, e⟩
theorem rdS {H H' : Hp} {b : Addr} {o : HO} (sm : ∀ b o, H b = some o → H' b = some o) (h : Rd H b o) : Rd H' b o := h.elim (fun e => .inl (sm _ _ e)) fun ⟨u, e⟩ => .inr ⟨u, sm _ _ e⟩
theorem rk_frz {H : Hp} {a : Addr} {ob : Obj} {o : HO} (h : Rk H a (.frz ob o)) : H a = some (.frz ob o) := h.elim id fun ⟨_, _, e, _⟩ => e.elim (fun ⟨_, e⟩ => nomatch e) fun ⟨_, e⟩ => nomatch e
theorem rk_tup {H : Hp} {a : Addr} {xs : List V} (h : Rk H a (.tup xs)) : Rd H a (.tup xs) := rk_rd h
theorem rd_mv {H H' : Hp} {b : Addr} {u : HO} (g : ∀ o, H b = some o → H' b = some o) (h : Rk H b u) : Rk H' b u := h.elim (fun e => .inl (g _ e)) fun ⟨ob, k, x, e⟩ => .inr ⟨ob, k, x, g _ e⟩
theorem rd_upd {H : Hp} {a b : Addr} {o u : HO} (n : b ≠ a) (h : Rk H b u) : Rk (upd H a o) b u := rd_mv (fun _ e => by rw [upd_ne n]; exact e) h
theorem rd_ne {H : Hp} {b p : Addr} {u : HO} (h : Rk H b u) (n : H p = none) : b ≠ p := h.elim (fun e => ne_of_none e n) fun ⟨_, _, _, e⟩ => ne_of_none e n
def Sh (O : Addr → Prop) (H : Hp) : At := fun a o => Rk H a o ∧ ¬ O a
/-- all but the world's own objects are as they were -/
def Grow (w : Wd) (H H' : Hp) : Prop := ∀ b o, H b = some o → ¬ w.Z b → H' b = some o
theorem Grow.refl (w : Wd) (H : Hp) : Grow w H H := fun _ _ h _ => h
theorem Grow.trans {w : Wd} {H H1 H2 : Hp} (a : Grow w H H1) (b : Grow w H1 H2) : Grow w H H2 := fun c o h z => b c o (a c o h z) z
theorem Grow.free {w : Wd} {n : Nat} {H H' : Hp} (g : Grow w H H') (k : w.ok n H') {a : Addr} (h : H' a = none) : H a = none := by
  cases e : H a with
  | none => rfl
  | some o =>
    by_cases z : w.Z a
    · exact absurd h (w.tr n H' a k z).ne
    · rw [g a o e z] at h; cases h
theorem Grow.new {w : Wd} {H : Hp} {p : Addr} (o : HO) (h : H p = none) : Grow w H (upd H p o) := fun b u e _ => by
  rw [upd_ne (ne_of_none e h)]; exact e
theorem st_upd {w : Wd} {n : Nat} {H : Hp} {a : Addr} {o : HO} (hz : ¬ w.Z a) (hx : ∀ φ, H a ≠ some (.ext φ)) (k : w.ok n H) : w.ok n (upd H a o) :=
  w.st _ _ _ (fun b u z h => by rw [upd_ne (fun q => hz (by rw [← q]; exact z))]; exact h) (fun b φ h => by rw [upd_ne (fun q => hx φ (by rw [← q]; exact h))]; exact h) k
theorem Wd.okNew {w : Wd} {n : Nat} {H : Hp} {p : Addr} {o : HO} (h : H p = none) (k : w.ok n H) : w.ok n (upd H p o) := w.st _ _ _ (fun b u _ e => by rw [upd_ne (ne_of_none e h)]; exact e) (fun b φ e => by rw [upd_ne (ne_of_none e h)]; exact e) k
/-- an exception told as data: its class, its attributes -/
abbrev Exn := Value × List Str × List D
/-- what is fixed of the exceptions that leave a body: how many draws are let, the heap at the entry, what is wanted of them -/
structure XC where
  lim : Nat
  le : lim ≤ LIM
  xb : Hp
  E : XK
  X : Exn → Prop
/-- an exception as it leaves: its class, its dict -/
def ExnAt (A : At) (c : Value) (d : Option Addr) (e : Exn) : Prop := c = e.1 ∧ ((d = none ∧ e.2.1 = [] ∧ e.2.2 = []) ∨ ∃ dd xs, d = some dd ∧ A dd (.xd (e.2.1.zip xs)) ∧ e.2.1.length = xs.length ∧ RpL A xs e.2.2)
theorem ExnAt.mono {A B : At} {c : Value} {d : Option Addr} {e : Exn} (l : LeA A B) (h : ExnAt A c d e) : ExnAt B c d e := ⟨h.1, h.2.elim .inl fun ⟨dd, xs, h1, h2, h3, h4⟩ => .inr ⟨dd, xs, h1, l _ _ h2, h3, h4.mono l⟩⟩
def XC.no (H : Hp) : XC := ⟨LIM, Nat.le_refl _, H, fun _ _ _ => False, fun _ => False⟩
/-- what is fixed through a body: the world, the heap at its entry, what was hidden there -/
structure Cfg where
  w : Wd
  H0 : Hp
  Oc : Addr → Prop
  ctr : ∀ b, Oc b → Trk (H0 b)
  x : XC
  hb : Grow w x.xb H0
  door : ∀ n H c d e, n ≤ x.lim → w.ok n H → Grow w x.xb H → ExnAt (Sh Oc H) c d e → x.X e → x.E c d H
abbrev Cfg.nx (w : Wd) (H : Hp) (Oc : Addr → Prop) (ctr : ∀ b, Oc b → Trk (H b)) : Cfg := ⟨w, H, Oc, ctr, XC.no H, Grow.refl _ _, fun _ _ _ _ _ _ _ _ _ h => h.elim⟩
/-- of worlds alone -/
abbrev nx (C : Wd → Prop) : Wd → XC → Prop := fun w _ => C w
/-- what a name holds: nothing, data, a list or a dict of its own -/
inductive Sv where
  | un | dat (d : D) | own (ds : List D) | owd (ds : List (Key × D))
/-- an own object of the frame stands at a -/
structure OwnAt (G : Cfg) (O : Addr → Prop) (a : Addr) : Prop where
  o : O a
  z : ¬ G.w.Z a
  n : G.H0 a = none
inductive Slv (G : Cfg) (O : Addr → Prop) (H : Hp) : V → Sv → Prop
  | dat {v : V} {d : D} : Rp (Sh O H) v d → Slv G O H v (.dat d)
  | own {a : Addr} {xs : List V} {ds : List D} : H a = some (.lst xs) → OwnAt G O a → RpL (Sh O H) xs ds → Slv G O H (.ref a) (.own ds)
  | owd {a : Addr} {xs : List (Key × V)} {ds : List (Key × D)} : H a = some (.dK xs) → OwnAt G O a → RpD (Sh O H) xs ds → Slv G O H (.ref a) (.owd ds)
abbrev Ev := List Sv
def Sv.isOwn : Sv → Bool
  | .own _ => true
  | .owd _ => true
  | _ => false
def IsOwn (env : Ev) (i : Nat) : Prop := ∃ c, env[i]? = some c ∧ c.isOwn = true
/-- a heap in which the hidden things are tracked -/
structure Wl (G : Cfg) (n : Nat) (O : Addr → Prop) (H : Hp) : Prop where
  ok : G.w.ok n H
  zo : ∀ b, G.w.Z b → O b
  co : ∀ b, G.Oc b → O b
  tr : ∀ b, O b → Trk (H b)
  base : Grow G.w G.H0 H
structure Fr (G : Cfg) (n : Nat) (O : Addr → Prop) (env : Ev) (σ : L2.St) (H : Hp) : Prop where
  wl : Wl G n O H
  len : env.length = σ.length
  sl : ∀ (i : Nat) c, env[i]? = some c → c ≠ .un → ∃ v, σ[i]? = some (some v) ∧ Slv G O H v c
  uq : ∀ (i j : Nat) a, IsOwn env i → IsOwn env j → σ[i]? = some (some (.ref a)) → σ[j]? = some (some (.ref a)) → i = j
theorem sh_grow {G : Cfg} {O : Addr → Prop} {H H' : Hp} (zo : ∀ b, G.w.Z b → O b) (g : Grow G.w H H') : LeA (Sh O H) (Sh O H') := fun a o ⟨h, n⟩ => ⟨rd_mv (fun o e => g a o e fun z => n (zo a z)) h, n⟩
theorem Wl.grow {G : Cfg} {n n' : Nat} {O : Addr → Prop} {H H' : Hp} (k : Wl G n O H) (g : Grow G.w H H') (ok : G.w.ok n' H') : Wl G n' O H' :=
  ⟨ok, k.zo, k.co, fun b o => by
    by_cases z : G.w.Z b
    · exact G.w.tr _ H' b ok z
    · obtain ⟨u, e, n⟩ := k.tr b o
      exact ⟨u, g b u e z, n⟩, k.base.trans g⟩
theorem Slv.grow {G : Cfg} {n : Nat} {O : Addr → Prop} {H H' : Hp} {v : V} {c : Sv} (k : Wl G n O H) (g : Grow G.w H H') (h : Slv G O H v c) : Slv G O H' v c := by
  cases h with
  | dat r => exact .dat (r.mono (sh_grow k.zo g))
  | own e o r => exact .own (g _ _ e o.z) o (r.mono (sh_grow k.zo g))
  | owd e o r => exact .owd (g _ _ e o.z) o (r.mono (sh_grow k.zo g))
theorem Fr.grow {G : Cfg} {n n' : Nat} {O : Addr → Prop} {env : Ev} {σ : L2.St} {H H' : Hp} (F : Fr G n O env σ H) (g : Grow G.w H H') (ok : G.w.ok n' H') : Fr G n' O env σ H' :=
  ⟨F.wl.grow g ok, F.len, fun i c e n => let ⟨v, h, s⟩ := F.sl i c e n; ⟨v, h, s.grow F.wl g⟩, F.uq⟩
theorem Wl.free {G : Cfg} {n : Nat} {O : Addr → Prop} {H : Hp} (k : Wl G n O H) {a : Addr} (h : H a = none) : ¬ O a := fun o => (k.tr a o).ne h
theorem Wl.nox {G : Cfg} {n : Nat} {O : Addr → Prop} {H : Hp} (k : Wl G n O H) {a : Addr} {φ : Heap → Prop} (h : H a = some (.ext φ)) : ¬ O a := fun o => by
  obtain ⟨u, e, n⟩ := k.tr a o
  rw [h] at e
  exact n φ (Option.some.inj e).symm

/-! ### reading -/
inductive Rr (G : Cfg) (O : Addr → Prop) (H : Hp) : V → D → Prop
  | dat {v : V} {d : D} : Rp (Sh O H) v d → Rr G O H v d
  | own {a : Addr} {xs : List V} {ds : List D} : H a = some (.lst xs) → ¬ G.w.Z a → RpL (Sh O H) xs ds → Rr G O H (.ref a) (.lst ds)
  | owd {a : Addr} {xs : List (Key × V)} {ds : List (Key × D)} : H a = some (.dK xs) → ¬ G.w.Z a → RpD (Sh O H) xs ds → Rr G O H (.ref a) (.dic ds)
theorem Rr.grow {G : Cfg} {n : Nat} {O : Addr → Prop} {H H' : Hp} {v : V} {d : D} (k : Wl G n O H) (g : Grow G.w H H') (h : Rr G O H v d) : Rr G O H' v d := by
  cases h with
  | dat r => exact .dat (r.mono (sh_grow k.zo g))
  | own e z r => exact .own (g _ _ e z) z (r.mono (sh_grow k.zo g))
  | owd e z r => exact .owd (g _ _ e z) z (r.mono (sh_grow k.zo g))
inductive RrL (G : Cfg) (O : Addr → Prop) (H : Hp) : List V → List D → Prop
  | nil : RrL G O H [] []
  | cons {v : V} {xs : List V} {d : D} {ds : List D} : Rr G O H v d → RrL G O H xs ds → RrL G O H (v :: xs) (d :: ds)
theorem RrL.grow {G : Cfg} {n : Nat} {O : Addr → Prop} {H H' : Hp} (k : Wl G n O H) (g : Grow G.w H H') : ∀ {v : List V} {d : List D}, RrL G O H v d → RrL G O H' v d
  | _, _, .nil => .nil
  | _, _, .cons a r => .cons (a.grow k g) (RrL.grow k g r)
/-- a list that is read -/
theorem Rr.list {G : Cfg} {O : Addr → Prop} {H : Hp} {v : V} {ds : List D} (r : Rr G O H v (.lst ds)) : ∃ a xs, v = .ref a ∧ H a = some (.lst xs) ∧ RpL (Sh O H) xs ds := by
  cases r with
  | dat r => cases r with | lst e r => exact ⟨_, _, rfl, rk_lst e.1, r⟩
  | own e z r => exact ⟨_, _, rfl, e, r⟩
theorem Rr.tuple {G : Cfg} {O : Addr → Prop} {H : Hp} {v : V} {ds : List D} (r : Rr G O H v (.tup ds)) : ∃ a xs, v = .ref a ∧ Rd H a (.tup xs) ∧ RpL (Sh O H) xs ds := by
  cases r with
  | dat r => cases r with | tup e r => exact ⟨_, _, rfl, rk_tup e.1, r⟩
theorem Rr.dict {G : Cfg} {O : Addr → Prop} {H : Hp} {v : V} {ds : List (Key × D)} (r : Rr G O H v (.dic ds)) : ∃ a xs, v = .ref a ∧ Rk H a (.dK xs) ∧ RpD (Sh O H) xs ds := by
  cases r with
  | dat r => cases r with | dic e r => exact ⟨_, _, rfl, e.1, r⟩
  | owd e z r => exact ⟨_, _, rfl, .inl e, r⟩
theorem Rr.int {G : Cfg} {O : Addr → Prop} {H : Hp} {v : V} {i : Int} (r : Rr G O H v (.int i)) : v = .int i := by
  cases r with | dat r => cases r; rfl
theorem Rr.bl {G : Cfg} {O : Addr → Prop} {H : Hp} {v : V} {i : Bool} (r : Rr G O H v (.bl i)) : v = .bl i := by
  cases r with | dat r => cases r; rfl
theorem Rr.str {G : Cfg} {O : Addr → Prop} {H : Hp} {v : V} {i : Str} (r : Rr G O H v (.str i)) : v = .str i := by
  cases r with | dat r => cases r; rfl
theorem Rr.non {G : Cfg} {O : Addr → Prop} {H : Hp} {v : V} (r : Rr G O H v .non) : v = .non := by
  cases r with | dat r => cases r; rfl

/-! ### the judgements -/
abbrev EM := Ev → (D → Prop) → Prop
abbrev TM := Ev → (Bool → Prop) → Prop
abbrev AM := Ev → (List D → Prop) → Prop
abbrev XM := Ev → (Sv → Prop) → Prop
structure Pe where
  nx : Ev → Prop
  rt : D → Prop
  bk : Ev → Prop := fun _ => False
  ct : Ev → Prop := fun _ => False
abbrev SM := Ev → Pe → Prop
variable (C : Wd → XC → Prop)
def SE (c : Nat) (te : TE) (m : EM) : Prop := ∀ G, C G.w G.x → ∀ n O env σ H (Qd : D → Prop) (Q : VK), n + c ≤ G.x.lim → Fr G n O env σ H → m env Qd → (∀ d v H', Qd d → Grow G.w H H' → G.w.ok (n + c) H' → Rp (Sh O H') v d → Q v H') → te σ H Q
def SR (c : Nat) (te : TE) (m : EM) : Prop := ∀ G, C G.w G.x → ∀ n O env σ H (Qd : D → Prop) (Q : VK), n + c ≤ G.x.lim → Fr G n O env σ H → m env Qd → (∀ d v H', Qd d → Grow G.w H H' → G.w.ok (n + c) H' → Rr G O H' v d → Q v H') → te σ H Q
def ST (c : Nat) (tt : TT) (m : TM) : Prop := ∀ G, C G.w G.x → ∀ n O env σ H (Qd : Bool → Prop) (Q : Bool → Hp → Prop), n + c ≤ G.x.lim → Fr G n O env σ H → m env Qd → (∀ b H', Qd b → Grow G.w H H' → G.w.ok (n + c) H' → Q b H') → tt σ H Q
def SA (c : Nat) (ta : TA) (m : AM) : Prop := ∀ G, C G.w G.x → ∀ n O env σ H (Qd : List D → Prop) (Q : List V → Hp → Prop), n + c ≤ G.x.lim → Fr G n O env σ H → m env Qd → (∀ ds vs H', Qd ds → Grow G.w H H' → G.w.ok (n + c) H' → RpL (Sh O H') vs ds → Q vs H') → ta σ H Q
def SAr (c : Nat) (ta : TA) (m : AM) : Prop := ∀ G, C G.w G.x → ∀ n O env σ H (Qd : List D → Prop) (Q : List V → Hp → Prop), n + c ≤ G.x.lim → Fr G n O env σ H → m env Qd → (∀ ds vs H', Qd ds → Grow G.w H H' → G.w.ok (n + c) H' → RrL G O H' vs ds → Q vs H') → ta σ H Q
/-- a new list -/
def SL (c : Nat) (te : TE) (m : AM) : Prop := ∀ G, C G.w G.x → ∀ n O env σ H (Qd : List D → Prop) (Q : VK), n + c ≤ G.x.lim → Fr G n O env σ H → m env Qd →
  (∀ ds a xs H', Qd ds → Grow G.w H H' → G.w.ok (n + c) H' → H a = none → H' a = some (.lst xs) → RpL (Sh (fun b => O b ∨ b = a) H') xs ds → Q (.ref a) H') → te σ H Q
/-- what a name may be given: data, or a new list or dict -/
def SX (c : Nat) (te : TE) (m : XM) : Prop := ∀ G, C G.w G.x → ∀ n O env σ H (Qd : Sv → Prop) (Q : VK), n + c ≤ G.x.lim → Fr G n O env σ H → m env Qd →
  (∀ z v O' H', Qd z → Grow G.w H H' → Wl G (n + c) O' H' → LeA (Sh O H) (Sh O' H') → (∀ b, O b → O' b) → Slv G O' H' v z → z ≠ .un → (∀ a, v = .ref a → z.isOwn = true → H a = none) → Q v H') → te σ H Q
structure EOk (G : Cfg) (n : Nat) (O : Addr → Prop) (H : Hp) (P : Pe) (D : Ends) : Prop where
  nx : ∀ O' env' σ' H', LeA (Sh O H) (Sh O' H') → Fr G n O' env' σ' H' → P.nx env' → D.nx σ' H'
  rt : ∀ d v O' H', Wl G n O' H' → Rp (Sh O' H') v d → P.rt d → D.rt v H'
  bk : ∀ O' env' σ' H', LeA (Sh O H) (Sh O' H') → Fr G n O' env' σ' H' → P.bk env' → D.bk σ' H'
  ct : ∀ O' env' σ' H', LeA (Sh O H) (Sh O' H') → Fr G n O' env' σ' H' → P.ct env' → D.ct σ' H'
def SS (c : Nat) (t : TS) (m : SM) : Prop := ∀ G, C G.w G.x → ∀ n O env σ H P D, n + c ≤ G.x.lim → Fr G n O env σ H → m env P → EOk G (n + c) O H P D → t D σ H
theorem EOk.le {G : Cfg} {n : Nat} {O O1 : Addr → Prop} {H H1 : Hp} {P : Pe} {D : Ends} (e : EOk G n O H P D) (l : LeA (Sh O H) (Sh O1 H1)) : EOk G n O1 H1 P D :=
  ⟨fun O' v s h a => e.nx O' v s h (l.trans a), e.rt, fun O' v s h a => e.bk O' v s h (l.trans a), fun O' v s h a => e.ct O' v s h (l.trans a)⟩
variable {C}
section
variable {te ta tb ti to : TE} {tt tu : TT} {t tr : TA} {m ma mb mi : EM} {mt mu : TM} {am ar : AM} {i : Nat}
/-! ### names, constants -/
def mVar (i : Nat) : EM := fun env Q => match env[i]? with | some (.dat d) => Q d | _ => False
def mRd (i : Nat) : EM := fun env Q => match env[i]? with | some (.dat d) => Q d | some (.own ds) => Q (.lst ds) | some (.owd ds) => Q (.dic ds) | _ => False
def mC (d : D) : EM := fun _ Q => Q d
theorem se_var : SE C 0 (tVar i) (mVar i) := fun G _ n O env σ H Qd Q hl F hm k => by
  unfold mVar at hm
  split at hm
  · rename_i d e
    obtain ⟨v, hv, s⟩ := F.sl i _ e (by intro z; cases z)
    cases s with
    | dat r => exact ⟨v, hv, k d v H hm (Grow.refl _ _) F.wl.ok r⟩
  · exact hm.elim
theorem sr_var : SR C 0 (tVar i) (mRd i) := fun G _ n O env σ H Qd Q hl F hm k => by
  unfold mRd at hm
  split at hm
  · rename_i d e
    obtain ⟨v, hv, s⟩ := F.sl i _ e (by intro z; cases z)
    cases s with
    | dat r => exact ⟨v, hv, k d v H hm (Grow.refl _ _) F.wl.ok (.dat r)⟩
  · rename_i d e
    obtain ⟨v, hv, s⟩ := F.sl i _ e (by intro z; cases z)
    cases s with
    | own e o r => exact ⟨_, hv, k _ _ H hm (Grow.refl _ _) F.wl.ok (.own e o.z r)⟩
  · rename_i d e
    obtain ⟨v, hv, s⟩ := F.sl i _ e (by intro z; cases z)
    cases s with
    | owd e o r => exact ⟨_, hv, k _ _ H hm (Grow.refl _ _) F.wl.ok (.owd e o.z r)⟩
  · exact hm.elim
theorem SE.r {c : Nat} (h : SE C c te m) : SR C c te m := fun G c n O env σ H Qd Q hl F hm k => h G c n O env σ H Qd Q hl F hm fun d v H' q g ok r => k d v H' q g ok (.dat r)
theorem se_int {z : Int} : SE C 0 (tC (.int z)) (mC (.int z)) := fun G _ n O env σ H Qd Q hl F hm k => k _ _ H hm (Grow.refl _ _) F.wl.ok (.int z)
theorem se_non : SE C 0 (tC .non) (mC .non) := fun G _ n O env σ H Qd Q hl F hm k => k _ _ H hm (Grow.refl _ _) F.wl.ok .non
theorem se_bl {b : Bool} : SE C 0 (tC (.bl b)) (mC (.bl b)) := fun G _ n O env σ H Qd Q hl F hm k => k _ _ H hm (Grow.refl _ _) F.wl.ok (.bl b)
theorem se_str {b : Str} : SE C 0 (tC (.str b)) (mC (.str b)) := fun G _ n O env σ H Qd Q hl F hm k => k _ _ H hm (Grow.refl _ _) F.wl.ok (.str b)
theorem se_opq {v : V} : SE C 0 (tC v) (mC (.opq v)) := fun G _ n O env σ H Qd Q hl F hm k => k _ _ H hm (Grow.refl _ _) F.wl.ok (.opq v)
/-! ### operators -/
def m2 (ma mb : EM) (k : D → D → (D → Prop) → Prop) : EM := fun env Q => ma env fun x => mb env fun y => k x y Q
def K2 (C : Wd → XC → Prop) (r : R2) (k : D → D → (D → Prop) → Prop) : Prop := ∀ G, C G.w G.x → ∀ n O H x y d e (Qd : D → Prop) (Q : VK), Wl G n O H → Rr G O H x d → Rr G O H y e → k d e Qd →
  (∀ z v H', Qd z → Grow G.w H H' → G.w.ok n H' → Rp (Sh O H') v z → Q v H') → r x y H Q
theorem se_op {ca cb : Nat} {r : R2} {k : D → D → (D → Prop) → Prop} (ha : SR C ca ta ma) (hb : SR C cb tb mb) (hk : K2 C r k) : SE C (ca + cb) (tOp r ta tb) (m2 ma mb k) := fun G c n O env σ H Qd Q hl F hm q =>
  ha G c n O env σ H _ _ (by omega) F hm fun x v H1 h1 g1 ok1 r1 => hb G c _ O env σ H1 _ _ (by omega) (F.grow g1 ok1) h1 fun y u H2 h2 g2 ok2 r2 =>
    hk G c _ O H2 v u x y Qd Q ((F.wl.grow g1 ok1).grow g2 ok2) (r1.grow (F.wl.grow g1 ok1) g2) r2 h2 fun z w H3 h3 g3 ok3 r3 => q z w H3 h3 (g1.trans (g2.trans g3)) (by rw [← Nat.add_assoc]; exact ok3) r3
def kI (f : Int → Int → D) : D → D → (D → Prop) → Prop := fun x y Q => match x, y with | .int i, .int j => Q (f i j) | _, _ => False
def kIc (c : Int → Int → Prop) (f : Int → Int → D) : D → D → (D → Prop) → Prop := fun x y Q => match x, y with | .int i, .int j => c i j ∧ Q (f i j) | _, _ => False
theorem k2_int {f : Int → Int → Int} : K2 C (rI0 fun i j => .int (f i j)) (kI fun i j => .int (f i j)) := fun G _ n O H x y d e Qd Q F rx ry hk q => by
  unfold kI at hk
  split at hk
  · cases rx.int; cases ry.int
    exact ⟨_, _, rfl, rfl, q _ _ H hk (Grow.refl _ _) F.ok (.int _)⟩
  · exact hk.elim
theorem k2_bl {f : Int → Int → Bool} : K2 C (rI0 fun i j => .bl (f i j)) (kI fun i j => .bl (f i j)) := fun G _ n O H x y d e Qd Q F rx ry hk q => by
  unfold kI at hk
  split at hk
  · cases rx.int; cases ry.int
    exact ⟨_, _, rfl, rfl, q _ _ H hk (Grow.refl _ _) F.ok (.bl _)⟩
  · exact hk.elim
theorem k2_intC {c : Int → Int → Prop} {f : Int → Int → Int} : K2 C (rI c fun i j => .int (f i j)) (kIc c fun i j => .int (f i j)) := fun G _ n O H x y d e Qd Q F rx ry hk q => by
  unfold kIc at hk
  split at hk
  · cases rx.int; cases ry.int
    exact ⟨_, _, rfl, rfl, hk.1, q _ _ H hk.2 (Grow.refl _ _) F.ok (.int _)⟩
  · exact hk.elim
end
end PL

namespace PL
open PySem L2
section
variable {C : Wd → XC → Prop} {K : PySem.W.Frag} {te ta tb ti to : TE} {tt tu : TT} {t tr : TA} {m ma mb mi : EM} {mt mu : TM} {am ar : AM} {i c c1 c2 : Nat} {G : Cfg} {O : Addr → Prop} {H : Hp}
theorem sqL {a : Addr} {xs : List V} (h : H a = some (.lst xs)) : SqL K H a xs := .inl (.inl h)
theorem sqT {a : Addr} {xs : List V} (h : Rd H a (.tup xs)) : SqT K H a xs := .inl h
/-! ### argument lists -/
def aNil : AM := fun _ Q => Q []
def aCons (m : EM) (a : AM) : AM := fun env Q => m env fun d => a env fun ds => Q (d :: ds)
theorem sa_nil : SA C 0 tNil aNil := fun G _ n O env σ H Qd Q hl F hm k => k [] [] H hm (Grow.refl _ _) F.wl.ok .nil
theorem sa_cons (h : SE C c1 te m) (r : SA C c2 t am) : SA C (c1 + c2) (tCons te t) (aCons m am) := fun G c n O env σ H Qd Q hl F hm k =>
  h G c n O env σ H _ _ (by omega) F hm fun d v H1 h1 g1 ok1 r1 => r G c _ O env σ H1 _ _ (by omega) (F.grow g1 ok1) h1 fun ds vs H2 h2 g2 ok2 r2 =>
    k _ _ H2 h2 (g1.trans g2) (by rw [← Nat.add_assoc]; exact ok2) (.cons (r1.mono (sh_grow F.wl.zo g2)) r2)
theorem sar_nil : SAr C 0 tNil aNil := fun G _ n O env σ H Qd Q hl F hm k => k [] [] H hm (Grow.refl _ _) F.wl.ok .nil
theorem sar_cons (h : SR C c1 te m) (r : SAr C c2 t am) : SAr C (c1 + c2) (tCons te t) (aCons m am) := fun G c n O env σ H Qd Q hl F hm k =>
  h G c n O env σ H _ _ (by omega) F hm fun d v H1 h1 g1 ok1 r1 => r G c _ O env σ H1 _ _ (by omega) (F.grow g1 ok1) h1 fun ds vs H2 h2 g2 ok2 r2 =>
    k _ _ H2 h2 (g1.trans g2) (by rw [← Nat.add_assoc]; exact ok2) (.cons (r1.grow (F.wl.grow g1 ok1) g2) r2)
/-! ### displays -/
def mTup (a : AM) : EM := fun env Q => a env fun ds => ds.length ≤ sizeLine ∧ Q (.tup ds)
theorem new_tup {G : Cfg} {n : Nat} {O : Addr → Prop} {H : Hp} {p : Addr} {xs : List V} {ds : List D} (k : Wl G n O H) (h : H p = none) (r : RpL (Sh O H) xs ds) : Rp (Sh O (upd H p (.tup xs))) (.ref p) (.tup ds) :=
  .tup ⟨.inl upd_same, k.free h⟩ (r.mono (sh_grow k.zo (Grow.new _ h)))
theorem se_tup (h : SA C c t am) : SE C c (tTup t) (mTup am) := fun G c n O env σ H Qd Q hL F hm k =>
  h G c n O env σ H _ _ hL F hm fun ds vs H1 ⟨hl, h1⟩ g1 ok1 r1 => ⟨by rw [r1.length]; exact hl, fun p hp =>
    k _ _ _ h1 (g1.trans (Grow.new _ hp)) (Wd.okNew hp ok1) (new_tup (F.wl.grow g1 ok1) hp r1)⟩
def mLst (a : AM) : AM := fun env Q => a env fun ds => ds.length ≤ sizeLine ∧ Q ds
theorem add_le {G : Cfg} {O : Addr → Prop} {H : Hp} {p : Addr} {o : HO} (h : H p = none) : LeA (Sh O H) (Sh (fun b => O b ∨ b = p) (upd H p o)) := fun a u ⟨e, n⟩ =>
  have ne : a ≠ p := rd_ne e h
  ⟨rd_upd ne e, fun z => z.elim n ne⟩
theorem sl_lst (h : SA C c t am) : SL C c (tLst t) (mLst am) := fun G c n O env σ H Qd Q hL F hm k =>
  h G c n O env σ H _ _ hL F hm fun ds vs H1 ⟨hl, h1⟩ g1 ok1 r1 => ⟨by rw [r1.length]; exact hl, fun p hp =>
    k _ p vs _ h1 (g1.trans (Grow.new _ hp)) (Wd.okNew hp ok1) (g1.free ok1 hp) upd_same (r1.mono (add_le (G := G) hp))⟩
theorem SL.e (h : SL C c te am) : SE C c te (fun env Q => am env fun ds => Q (.lst ds)) := fun G c n O env σ H Qd Q hL F hm k =>
  h G c n O env σ H _ _ hL F hm fun ds a xs H1 h1 g1 ok1 n e r => k _ _ _ h1 g1 ok1 (.lst ⟨.inl e, F.wl.free n⟩ (r.mono fun b u ⟨x, y⟩ => ⟨x, fun z => y (.inl z)⟩))
def mOwn (a : AM) : XM := fun env Q => a env fun ds => Q (.own ds)
def mDat (m : EM) : XM := fun env Q => m env fun d => Q (.dat d)
theorem SL.x (h : SL C c te am) : SX C c te (mOwn am) := fun G c n O env σ H Qd Q hL F hm k =>
  h G c n O env σ H _ _ hL F hm fun ds a xs H1 h1 g1 ok1 n e r => by
    have W1 := F.wl.grow g1 ok1
    have nO : ¬ O a := F.wl.free n
    refine k (.own ds) _ (fun b => O b ∨ b = a) H1 h1 g1 ⟨ok1, fun b z => .inl (W1.zo b z), fun b z => .inl (W1.co b z), fun b z => ?_, W1.base⟩ (fun b u ⟨x, y⟩ => ⟨rd_mv (fun o x => g1 b o x fun z => y (F.wl.zo b z)) x, fun z => z.elim y fun q => ?_⟩) (fun b z => .inl z) (.own e ⟨.inr rfl, fun z => nO (F.wl.zo a z), ?_⟩ r) (by intro z; cases z) (fun b eb _ => by cases eb; exact n)
    · rcases z with z | z
      · exact W1.tr b z
      · rw [z, e]; exact ⟨_, rfl, fun _ q => nomatch q⟩
    · exact rd_ne x n q
    · cases q : G.H0 a with
      | none => rfl
      | some u =>
        rw [F.wl.base a u q fun z => nO (F.wl.zo a z)] at n; cases n
theorem SE.x (h : SE C c te m) : SX C c te (mDat m) := fun G c n O env σ H Qd Q hL F hm k =>
  h G c n O env σ H _ _ hL F hm fun d v H1 h1 g1 ok1 r => k (.dat d) v O H1 h1 g1 (F.wl.grow g1 ok1) (sh_grow F.wl.zo g1) (fun _ z => z) (.dat r) (by intro z; cases z) (fun _ _ z => by cases z)
/-! ### calls of built-ins by values -/
def KC (C : Wd → XC → Prop) (r : List V → Hp → VK → Prop) (k : List D → (D → Prop) → Prop) : Prop := ∀ G, C G.w G.x → ∀ n O H vs ds (Qd : D → Prop) (Q : VK), Wl G n O H → RrL G O H vs ds → k ds Qd →
  (∀ z v H', Qd z → Grow G.w H H' → G.w.ok n H' → Rp (Sh O H') v z → Q v H') → r vs H Q
def mCB (a : AM) (k : List D → (D → Prop) → Prop) : EM := fun env Q => a env fun ds => k ds Q
theorem se_cb {r : List V → Hp → VK → Prop} {k : List D → (D → Prop) → Prop} (h : SAr C c t am) (hk : KC C r k) : SE C c (tCB r t) (mCB am k) := fun G c n O env σ H Qd Q hL F hm q =>
  h G c n O env σ H _ _ hL F hm fun ds vs H1 h1 g1 ok1 r1 => hk G c _ O H1 vs ds Qd Q (F.wl.grow g1 ok1) r1 h1 fun z v H2 h2 g2 ok2 r2 => q z v H2 h2 (g1.trans g2) ok2 r2
/-- .. that give a new list -/
def KL (C : Wd → XC → Prop) (r : List V → Hp → VK → Prop) (k : List D → (List D → Prop) → Prop) : Prop := ∀ G, C G.w G.x → ∀ n O H vs ds (Qd : List D → Prop) (Q : VK), Wl G n O H → RrL G O H vs ds → k ds Qd →
  (∀ z a xs H', Qd z → Grow G.w H H' → G.w.ok n H' → H a = none → H' a = some (.lst xs) → RpL (Sh (fun b => O b ∨ b = a) H') xs z → Q (.ref a) H') → r vs H Q
def mCL (a : AM) (k : List D → (List D → Prop) → Prop) : AM := fun env Q => a env fun ds => k ds Q
theorem sl_cb {r : List V → Hp → VK → Prop} {k : List D → (List D → Prop) → Prop} (h : SAr C c t am) (hk : KL C r k) : SL C c (tCB r t) (mCL am k) := fun G c n O env σ H Qd Q hL F hm q =>
  h G c n O env σ H _ _ hL F hm fun ds vs H1 h1 g1 ok1 r1 => hk G c _ O H1 vs ds Qd Q (F.wl.grow g1 ok1) r1 h1 fun z a xs H2 h2 g2 ok2 n e r2 => q z a xs H2 h2 (g1.trans g2) ok2 (g1.free ok1 n) e r2
theorem RrL.one {vs : List V} {d : D} (h : RrL G O H vs [d]) : ∃ v, vs = [v] ∧ Rr G O H v d := by
  cases h with | cons a r => cases r; exact ⟨_, rfl, a⟩
theorem RrL.two {vs : List V} {d e : D} (h : RrL G O H vs [d, e]) : ∃ v w, vs = [v, w] ∧ Rr G O H v d ∧ Rr G O H w e := by
  cases h with | cons a r => cases r with | cons b r => cases r; exact ⟨_, _, rfl, a, b⟩
def kLen : List D → (D → Prop) → Prop := fun ds Q => match ds with | [.lst l] => Q (.int l.length) | [.tup l] => Q (.int l.length) | _ => False
theorem kc_len : KC C (fun xs H Q => ∃ x n, xs = [x] ∧ LenV K x H n ∧ Q (.int n) H) kLen := fun G _ n O H vs ds Qd Q W r h q => by
  unfold kLen at h
  split at h
  · obtain ⟨v, rfl, r1⟩ := r.one
    obtain ⟨a, xs, rfl, e, r⟩ := r1.list
    exact ⟨_, xs.length, rfl, .inl ⟨xs, sqL e, rfl⟩, q _ _ H h (Grow.refl _ _) W.ok (by rw [r.length]; exact .int _)⟩
  · obtain ⟨v, rfl, r1⟩ := r.one
    obtain ⟨a, xs, rfl, e, r⟩ := r1.tuple
    exact ⟨_, xs.length, rfl, .inr ⟨xs, sqT e, rfl⟩, q _ _ H h (Grow.refl _ _) W.ok (by rw [r.length]; exact .int _)⟩
  · exact h.elim
def kTuple : List D → (D → Prop) → Prop := fun ds Q => match ds with | [.lst l] => Q (.tup l) | [.tup l] => Q (.tup l) | _ => False
theorem kc_tuple : KC C (fun xs H Q => ∃ p ys, xs = [.ref p] ∧ ((SqL K H p ys ∧ ∀ l, H l = none → Q (.ref l) (upd H l (.tup ys))) ∨ (SqT K H p ys ∧ Q (.ref p) H))) kTuple := fun G _ n O H vs ds Qd Q W r h q => by
  unfold kTuple at h
  split at h
  · obtain ⟨v, rfl, r1⟩ := r.one
    obtain ⟨a, xs, rfl, e, r⟩ := r1.list
    exact ⟨a, xs, rfl, .inl ⟨sqL e, fun p hp => q _ _ _ h (Grow.new _ hp) (Wd.okNew hp W.ok) (new_tup W hp r)⟩⟩
  · obtain ⟨v, rfl, r1⟩ := r.one
    cases r1 with
    | dat r2 => cases r2 with | tup e r3 => exact ⟨_, _, rfl, .inr ⟨sqT (rk_tup e.1), q _ _ H h (Grow.refl _ _) W.ok (.tup e r3)⟩⟩
  · exact h.elim
def kList : List D → (List D → Prop) → Prop := fun ds Q => match ds with | [.lst l] => Q l | [.tup l] => Q l | _ => False
theorem kl_list : KL C (fun xs H Q => ∃ p ys, xs = [.ref p] ∧ (SqL K H p ys ∨ SqT K H p ys) ∧ ∀ l, H l = none → Q (.ref l) (upd H l (.lst ys))) kList := fun G _ n O H vs ds Qd Q W r h q => by
  unfold kList at h
  split at h
  · obtain ⟨v, rfl, r1⟩ := r.one
    obtain ⟨a, xs, rfl, e, r⟩ := r1.list
    exact ⟨a, xs, rfl, .inl (sqL e), fun p hp => q _ p xs _ h (Grow.new _ hp) (Wd.okNew hp W.ok) hp upd_same (r.mono (add_le (G := G) hp))⟩
  · obtain ⟨v, rfl, r1⟩ := r.one
    obtain ⟨a, xs, rfl, e, r⟩ := r1.tuple
    exact ⟨a, xs, rfl, .inr (sqT e), fun p hp => q _ p xs _ h (Grow.new _ hp) (Wd.okNew hp W.ok) hp upd_same (r.mono (add_le (G := G) hp))⟩
  · exact h.elim
def kMin2 : List D → (D → Prop) → Prop := fun ds Q => match ds with | [.int i, .int j] => Q (.int (if j < i then j else i)) | _ => False
theorem kc_min2 : KC C (fun xs H Q => ∃ i j, xs = [.int i, .int j] ∧ Q (.int (if j < i then j else i)) H) kMin2 := fun G _ n O H vs ds Qd Q W r h q => by
  unfold kMin2 at h
  split at h
  · obtain ⟨v, w, rfl, r1, r2⟩ := r.two
    cases r1.int; cases r2.int
    exact ⟨_, _, rfl, q _ _ H h (Grow.refl _ _) W.ok (.int _)⟩
  · exact h.elim
def kAll : List D → (D → Prop) → Prop := fun ds Q => ∃ bs : List Bool, ds = [.lst (bs.map D.bl)] ∧ Q (.bl (bs.all id))
theorem kc_all : KC C (rAll K) kAll := fun G _ n O H vs ds Qd Q W r h q => by
  obtain ⟨bs, rfl, h⟩ := h
  obtain ⟨v, rfl, r1⟩ := r.one
  obtain ⟨a, xs, rfl, e, r⟩ := r1.list
  rw [r.bls] at e
  exact ⟨a, bs, rfl, sqL e, q _ _ H h (Grow.refl _ _) W.ok (.bl _)⟩
def kSorted : List D → (List D → Prop) → Prop := fun ds Q => ∃ ns : List Int, ds = [.lst (ns.map D.int)] ∧ ∀ ns' : List Int, ns'.Perm ns → ns'.Pairwise (· ≤ ·) → Q (ns'.map D.int)
theorem kl_sorted : KL C (rSortedI K) kSorted := fun G _ n O H vs ds Qd Q W r h q => by
  obtain ⟨ns, rfl, h⟩ := h
  obtain ⟨v, rfl, r1⟩ := r.one
  obtain ⟨a, xs, rfl, e, r⟩ := r1.list
  rw [r.ints] at e
  exact ⟨a, ns, rfl, sqL e, fun ns' p hp hs hn => q _ p _ _ (h ns' hp hs) (Grow.new _ hn) (Wd.okNew hn W.ok) hn upd_same (.ofInts ns')⟩
/-! ### subscripts -/
theorem RpL.atI {A : At} {xs : List V} {ds : List D} {i : Int} {d : D} (r : RpL A xs ds) (h : atI ds i = some d) : ∃ v, L2.atI xs i = some v ∧ Rp A v d := by
  unfold L2.atI at h ⊢
  rw [r.length]
  cases e : ixN ds.length i with
  | none => rw [e] at h; cases h
  | some j => rw [e] at h; exact r.get h
def kIx : D → D → (D → Prop) → Prop := fun x y Q => match x, y with
  | .lst l, .int i => (match atI l i with | some d => Q d | none => False)
  | .tup l, .int i => (match atI l i with | some d => Q d | none => False)
  | _, _ => False
theorem k2_ix : K2 C (rIx K) kIx := fun G _ n O H x y d e Qd Q W rx ry hk q => by
  unfold kIx at hk
  split at hk
  · split at hk
    · rename_i hd
      cases ry.int
      obtain ⟨a, xs, rfl, e, r⟩ := rx.list
      obtain ⟨v, hv, rv⟩ := r.atI hd
      exact .inl ⟨a, xs, _, v, rfl, rfl, sqL e, hv, q _ _ H hk (Grow.refl _ _) W.ok rv⟩
    · exact hk.elim
  · split at hk
    · rename_i hd
      cases ry.int
      obtain ⟨a, xs, rfl, e, r⟩ := rx.tuple
      obtain ⟨v, hv, rv⟩ := r.atI hd
      exact .inr (.inl ⟨a, xs, _, v, rfl, rfl, sqT e, hv, q _ _ H hk (Grow.refl _ _) W.ok rv⟩)
    · exact hk.elim
  · exact hk.elim
/-! ### is None, == of scalars -/
def D.isN : D → Bool
  | .non => true
  | _ => false
def kIsN (p : Bool → Bool) : D → D → (D → Prop) → Prop := fun x y Q => match x, y with
  | .opq _, _ => False
  | x, .non => Q (.bl (p x.isN))
  | _, _ => False
theorem isN_of {v : V} {d : D} (r : Rr G O H v d) (h : ∀ w, d ≠ .opq w) : decide (v = V.non) = d.isN := by
  cases r with
  | dat r => cases r <;> first | rfl | exact absurd rfl (h _) | exact decide_eq_false (fun z => nomatch z)
  | own => exact decide_eq_false (fun z => nomatch z)
  | owd => exact decide_eq_false (fun z => nomatch z)
theorem k2_isN : K2 C (fun x y H Q => y = .non ∧ Q (.bl (decide (x = .non))) H) (kIsN id) := fun G _ n O H x y d e Qd Q W rx ry hk q => by
  unfold kIsN at hk
  split at hk
  · exact hk.elim
  · rename_i hne
    refine ⟨ry.non, q _ _ H hk (Grow.refl _ _) W.ok ?_⟩
    rw [isN_of rx fun w e => hne w e]
    exact .bl _
  · exact hk.elim
theorem k2_notN : K2 C (fun x y H Q => y = .non ∧ Q (.bl (!decide (x = .non))) H) (kIsN not) := fun G _ n O H x y d e Qd Q W rx ry hk q => by
  unfold kIsN at hk
  split at hk
  · exact hk.elim
  · rename_i hne
    refine ⟨ry.non, q _ _ H hk (Grow.refl _ _) W.ok ?_⟩
    rw [isN_of rx fun w e => hne w e]
    exact .bl _
  · exact hk.elim
/-- two ints, two texts -/
def kEqS (p : Bool → Bool) : D → D → (D → Prop) → Prop := fun x y Q => match x, y with
  | .int i, .int j => Q (.bl (p (decide (i = j))))
  | .str i, .str j => Q (.bl (p (decide (i = j))))
  | _, _ => False
theorem k2_eqS : K2 C rEq (kEqS id) := fun G _ n O H x y d e Qd Q W rx ry hk q => by
  unfold kEqS at hk
  split at hk
  · cases rx.int; cases ry.int
    refine ⟨rfl, q _ _ H hk (Grow.refl _ _) W.ok ?_⟩
    have e : ∀ i j : Int, decide (V.int i = V.int j) = decide (i = j) := fun i j => by simp
    rw [e]; exact .bl _
  · cases rx.str; cases ry.str
    refine ⟨rfl, q _ _ H hk (Grow.refl _ _) W.ok ?_⟩
    have e : ∀ i j : Str, decide (V.str i = V.str j) = decide (i = j) := fun i j => by simp
    rw [e]; exact .bl _
  · exact hk.elim
theorem k2_neS : K2 C rNe (kEqS not) := fun G _ n O H x y d e Qd Q W rx ry hk q => by
  unfold kEqS at hk
  split at hk
  · cases rx.int; cases ry.int
    refine ⟨rfl, q _ _ H hk (Grow.refl _ _) W.ok ?_⟩
    have e : ∀ i j : Int, decide (V.int i = V.int j) = decide (i = j) := fun i j => by simp
    rw [e]; exact .bl _
  · cases rx.str; cases ry.str
    refine ⟨rfl, q _ _ H hk (Grow.refl _ _) W.ok ?_⟩
    have e : ∀ i j : Str, decide (V.str i = V.str j) = decide (i = j) := fun i j => by simp
    rw [e]; exact .bl _
  · exact hk.elim
end
end PL

namespace PL
open PySem L2
/-! ### the frame changed -/
theorem Slv.le {G : Cfg} {O O' : Addr → Prop} {H H' : Hp} {v : V} {c : Sv} (g : Grow G.w H H') (l : LeA (Sh O H) (Sh O' H')) (m : ∀ b, O b → O' b) (h : Slv G O H v c) : Slv G O' H' v c := by
  cases h with
  | dat r => exact .dat (r.mono l)
  | own e o r => exact .own (g _ _ e o.z) ⟨m _ o.o, o.z, o.n⟩ (r.mono l)
  | owd e o r => exact .owd (g _ _ e o.z) ⟨m _ o.o, o.z, o.n⟩ (r.mono l)
theorem Slv.tracked {G : Cfg} {O : Addr → Prop} {H : Hp} {a : Addr} {c : Sv} (h : Slv G O H (.ref a) c) (o : c.isOwn = true) : H a ≠ none := by
  cases h with
  | dat r => cases o
  | own e _ _ => rw [e]; intro z; cases z
  | owd e _ _ => rw [e]; intro z; cases z
theorem Fr.set {G : Cfg} {n n' : Nat} {O O' : Addr → Prop} {env : Ev} {σ : L2.St} {H H' : Hp} {i : Nat} {v : V} {c : Sv} (F : Fr G n O env σ H) (g : Grow G.w H H') (W : Wl G n' O' H') (l : LeA (Sh O H) (Sh O' H')) (m : ∀ b, O b → O' b)
    (s : Slv G O' H' v c) (f : ∀ a, v = .ref a → c.isOwn = true → H a = none) : Fr G n' O' (env.set i c) (σ.set i (some v)) H' := by
  refine ⟨W, by rw [List.length_set, List.length_set]; exact F.len, fun j d e n => ?_, fun j k a oj ok ej ek => ?_⟩
  · by_cases hj : i = j
    · subst hj
      have hl : i < env.length := by
        have := (List.getElem?_eq_some_iff.mp e).1
        rwa [List.length_set] at this
      rw [List.getElem?_set_self hl] at e
      cases e
      exact ⟨v, List.getElem?_set_self (by rw [← F.len]; exact hl), s⟩
    · rw [List.getElem?_set_ne hj] at e
      obtain ⟨u, h1, h2⟩ := F.sl j d e n
      exact ⟨u, by rw [List.getElem?_set_ne hj]; exact h1, h2.le g l m⟩
  · have key : ∀ {j : Nat} {a : Addr}, i ≠ j → IsOwn (env.set i c) j → (σ.set i (some v))[j]? = some (some (.ref a)) → IsOwn env j ∧ σ[j]? = some (some (.ref a)) ∧ H a ≠ none := fun {j a} hj ⟨d, e, o⟩ es => by
      rw [List.getElem?_set_ne hj] at e es
      obtain ⟨u, h1, h2⟩ := F.sl j d e (by intro z; rw [z] at o; cases o)
      rw [es] at h1; cases h1
      exact ⟨⟨d, e, o⟩, es, h2.tracked o⟩
    have self : ∀ {a : Addr}, IsOwn (env.set i c) i → (σ.set i (some v))[i]? = some (some (.ref a)) → H a = none := fun {a} ⟨d, e, o⟩ es => by
      have hl : i < env.length := by
        have := (List.getElem?_eq_some_iff.mp e).1
        rwa [List.length_set] at this
      rw [List.getElem?_set_self hl] at e
      cases e
      rw [List.getElem?_set_self (by rw [← F.len]; exact hl)] at es
      cases es
      exact f a rfl o
    by_cases hj : i = j
    · subst hj
      by_cases hk : i = k
      · exact hk
      · obtain ⟨_, _, t⟩ := key hk ok ek
        exact absurd (self oj ej) t
    · obtain ⟨o1, e1, t1⟩ := key hj oj ej
      by_cases hk : i = k
      · subst hk
        exact absurd (self ok ek) t1
      · obtain ⟨o2, e2, _⟩ := key hk ok ek
        exact F.uq j k a o1 o2 e1 e2
/-- an own list, an own dict is changed -/
theorem Fr.mut {G : Cfg} {n : Nat} {O : Addr → Prop} {env : Ev} {σ : L2.St} {H : Hp} {i : Nat} {a : Addr} {c c' : Sv} {o : HO} (F : Fr G n O env σ H) (e : env[i]? = some c) (es : σ[i]? = some (some (.ref a))) (oc : c.isOwn = true) (oc' : c'.isOwn = true)
    (oa : OwnAt G O a) (s : ∀ H', LeA (Sh O H) (Sh O H') → H' a = some o → Slv G O H' (.ref a) c') : Fr G n O (env.set i c') σ (upd H a o) := by
  have sh : LeA (Sh O H) (Sh O (upd H a o)) := fun b u ⟨h, n⟩ => ⟨rd_upd (fun z => n (by rw [z]; exact oa.o)) h, n⟩
  have hnx : ∀ φ, H a ≠ some (.ext φ) := fun φ z => by
    obtain ⟨u, h1, h2⟩ := F.sl i c e (by intro q; rw [q] at oc; cases oc)
    rw [es] at h1; cases h1
    cases h2 with
    | dat r => cases oc
    | own eh _ _ => rw [eh] at z; cases z
    | owd eh _ _ => rw [eh] at z; cases z
  have hno : ∀ φ, o ≠ .ext φ := fun φ z => by
    have h2 := s _ sh upd_same
    cases h2 with
    | dat r => cases oc'
    | own eh _ _ => rw [upd_same] at eh; rw [z] at eh; cases eh
    | owd eh _ _ => rw [upd_same] at eh; rw [z] at eh; cases eh
  have hnt : ∀ ps, o ≠ .tbl ps := fun ps z => by
    have h2 := s _ sh upd_same
    cases h2 with
    | dat r => cases oc'
    | own eh _ _ => rw [upd_same] at eh; rw [z] at eh; cases eh
    | owd eh _ _ => rw [upd_same] at eh; rw [z] at eh; cases eh
  have hl := (List.getElem?_eq_some_iff.mp e).1
  have iso : ∀ {j : Nat}, IsOwn (env.set i c') j → IsOwn env j := fun {j} ⟨d, ed, od⟩ => by
    by_cases hj : i = j
    · subst hj; exact ⟨c, e, oc⟩
    · rw [List.getElem?_set_ne hj] at ed; exact ⟨d, ed, od⟩
  refine ⟨⟨st_upd oa.z hnx F.wl.ok, F.wl.zo, F.wl.co, fun b z => ?_, fun b u h z => ?_⟩, by rw [List.length_set]; exact F.len, fun j d ed n => ?_, fun j k b oj ok ej ek => F.uq j k b (iso oj) (iso ok) ej ek⟩
  · by_cases hb : b = a
    · rw [hb, upd_same]; exact ⟨_, rfl, hno⟩
    · rw [upd_ne hb]; exact F.wl.tr b z
  · rw [upd_ne (fun q => by rw [q, oa.n] at h; cases h)]; exact F.wl.base b u h z
  · by_cases hj : i = j
    · subst hj
      rw [List.getElem?_set_self hl] at ed
      cases ed
      exact ⟨_, es, s _ sh upd_same⟩
    · rw [List.getElem?_set_ne hj] at ed
      obtain ⟨u, h1, h2⟩ := F.sl j d ed n
      refine ⟨u, h1, ?_⟩
      have ne : ∀ b, u = .ref b → d.isOwn = true → b ≠ a := fun b eu od z => by
        subst eu
        subst z
        exact hj (F.uq i j b ⟨c, e, oc⟩ ⟨d, ed, od⟩ es h1)
      cases h2 with
      | dat r => exact .dat (r.mono sh)
      | own eh o r => exact .own (by rw [upd_ne (ne _ rfl rfl)]; exact eh) o (r.mono sh)
      | owd eh o r => exact .owd (by rw [upd_ne (ne _ rfl rfl)]; exact eh) o (r.mono sh)
def frz (env : Ev) (i : Nat) : Ev := match env[i]? with
  | some (.own ds) => env.set i (.dat (.lst ds))
  | some (.owd ds) => env.set i (.dat (.dic ds))
  | _ => env
theorem Fr.frz {G : Cfg} {n : Nat} {O : Addr → Prop} {env : Ev} {σ : L2.St} {H : Hp} (F : Fr G n O env σ H) (i : Nat) : ∃ O', LeA (Sh O H) (Sh O' H) ∧ Fr G n O' (PL.frz env i) σ H := by
  have go : ∀ (a : Addr) (c : Sv) (d : D), env[i]? = some c → c.isOwn = true → σ[i]? = some (some (.ref a)) → OwnAt G O a → (∀ A : At, LeA (Sh O H) A → (∀ u, H a = some u → A a u) → Rp A (.ref a) d) → ∃ O', LeA (Sh O H) (Sh O' H) ∧ Fr G n O' (env.set i (.dat d)) σ H := by
    intro a c d e oc es oa r
    have le : LeA (Sh O H) (Sh (fun b => O b ∧ b ≠ a) H) := fun b u ⟨h, n⟩ => ⟨h, fun z => n z.1⟩
    have hl := (List.getElem?_eq_some_iff.mp e).1
    have iso : ∀ {j : Nat}, IsOwn (env.set i (.dat d)) j → IsOwn env j ∧ i ≠ j := fun {j} ⟨d', ed, od⟩ => by
      by_cases hj : i = j
      · subst hj
        rw [List.getElem?_set_self hl] at ed; cases ed; cases od
      · rw [List.getElem?_set_ne hj] at ed; exact ⟨⟨d', ed, od⟩, hj⟩
    refine ⟨fun b => O b ∧ b ≠ a, le, ⟨⟨F.wl.ok, fun b z => ⟨F.wl.zo b z, fun q => oa.z (by rw [← q]; exact z)⟩, fun b z => ⟨F.wl.co b z, fun q => (G.ctr b z).ne (by rw [q]; exact oa.n)⟩, fun b z => F.wl.tr b z.1, F.wl.base⟩, by rw [List.length_set]; exact F.len, fun j d' ed n => ?_, fun j k b oj ok ej ek => F.uq j k b (iso oj).1 (iso ok).1 ej ek⟩⟩
    by_cases hj : i = j
    · subst hj
      rw [List.getElem?_set_self hl] at ed
      cases ed
      exact ⟨_, es, .dat (r _ le fun u hu => ⟨.inl hu, fun z => z.2 rfl⟩)⟩
    · rw [List.getElem?_set_ne hj] at ed
      obtain ⟨u, h1, h2⟩ := F.sl j d' ed n
      refine ⟨u, h1, ?_⟩
      have ne : ∀ b, u = .ref b → d'.isOwn = true → b ≠ a := fun b eu od z => by
        subst eu
        subst z
        exact hj (F.uq i j b ⟨c, e, oc⟩ ⟨d', ed, od⟩ es h1)
      cases h2 with
      | dat r => exact .dat (r.mono le)
      | own eh o r => exact .own eh ⟨⟨o.o, ne _ rfl rfl⟩, o.z, o.n⟩ (r.mono le)
      | owd eh o r => exact .owd eh ⟨⟨o.o, ne _ rfl rfl⟩, o.z, o.n⟩ (r.mono le)
  unfold PL.frz
  split
  · rename_i ds e
    obtain ⟨v, es, s⟩ := F.sl i _ e (by intro z; cases z)
    cases s with
    | own eh o r => exact go _ _ _ e rfl es o fun A le h => .lst (h _ eh) (r.mono le)
  · rename_i ds e
    obtain ⟨v, es, s⟩ := F.sl i _ e (by intro z; cases z)
    cases s with
    | owd eh o r => exact go _ _ _ e rfl es o fun A le h => .dic (h _ eh) (r.mono le)
  · exact ⟨O, LeA.refl _, F⟩
section
variable {C : Wd → XC → Prop} {K : PySem.W.Frag} {te ta tb tk ti to : TE} {tt tu : TT} {t tr : TA} {m ma mb mk mi : EM} {mt mu : TM} {mx my : XM} {am ar : AM} {i j c c1 c2 c3 : Nat} {ts tz : TS} {sm sz : SM}
/-! ### tests -/
def mB (m : EM) : TM := fun env Q => m env fun d => match d with | .bl b => Q b | _ => False
theorem st_b (h : SE C c te m) : ST C c (tTest te) (mB m) := fun G c n O env σ H Qd Q hL F hm k =>
  h G c n O env σ H _ _ hL F hm fun d v H1 h1 g1 ok1 r1 => by
    split at h1
    · cases r1; exact ⟨_, rfl, k _ H1 h1 g1 ok1⟩
    · exact h1.elim
theorem st_tb (h : SE C c te m) : ST C c (tB te) (mB m) := st_b h
def D.tru : D → Option Bool
  | .non => some false
  | .bl b => some b
  | .int i => some (i != 0)
  | .tup l => some !l.isEmpty
  | .lst l => some !l.isEmpty
  | _ => none
def mTru (m : EM) : TM := fun env Q => m env fun d => match d.tru with | some b => Q b | none => False
theorem isEmpty_len {α β : Type} {xs : List α} {ys : List β} (h : xs.length = ys.length) : xs.isEmpty = ys.isEmpty := by
  cases xs <;> cases ys <;> first | rfl | cases h
theorem RpD.length {A : At} : ∀ {xs : List (Key × V)} {ds : List (Key × D)}, RpD A xs ds → xs.length = ds.length
  | _, _, .nil => rfl
  | _, _, .cons _ r => congrArg Nat.succ (RpD.length r)
theorem st_tru (h : SR C c te m) : ST C c (fun σ H Q => te σ H fun x H' => ∃ k, TruV K x H' k ∧ Q k H') (mTru m) := fun G c n O env σ H Qd Q hL F hm k =>
  h G c n O env σ H _ _ hL F hm fun d v H1 h1 g1 ok1 r1 => by
    unfold D.tru at h1
    cases d with
    | non => cases r1.non; exact ⟨_, rfl, k _ H1 h1 g1 ok1⟩
    | bl b => cases r1.bl; exact ⟨_, rfl, k _ H1 h1 g1 ok1⟩
    | int b => cases r1.int; exact ⟨_, rfl, k _ H1 h1 g1 ok1⟩
    | tup l => obtain ⟨a, xs, rfl, e, r⟩ := r1.tuple; exact ⟨_, .inr (.inl ⟨xs, sqT e, by rw [isEmpty_len r.length]⟩), k _ H1 h1 g1 ok1⟩
    | lst l => obtain ⟨a, xs, rfl, e, r⟩ := r1.list; exact ⟨_, .inl ⟨xs, sqL e, by rw [isEmpty_len r.length]⟩, k _ H1 h1 g1 ok1⟩
    | dic l => exact h1.elim
    | str s => exact h1.elim
    | opq s => exact h1.elim
    | ftp l => exact h1.elim
    | exc c ns l => exact h1.elim
    | lam F C => exact h1.elim
    | ins C ns l => exact h1.elim
def mAnd (a b : TM) : TM := fun env Q => a env fun c => if c = true then b env Q else Q false
def mOr (a b : TM) : TM := fun env Q => a env fun c => if c = true then Q true else b env Q
def mNot (a : TM) : TM := fun env Q => a env fun c => Q (!c)
theorem ok_le {w : Wd} {n a b : Nat} {H : Hp} (h : a ≤ b) (k : w.ok (n + a) H) : w.ok (n + b) H := w.up _ _ _ (by omega) k
theorem ok_as {w : Wd} {n a b : Nat} {H : Hp} (k : w.ok (n + a + b) H) : w.ok (n + (a + b)) H := by rw [← Nat.add_assoc]; exact k
theorem SE.le (h : SE C c te m) (l : c ≤ c1) : SE C c1 te m := fun G g n O env σ H Qd Q hL F hm k => h G g n O env σ H Qd Q (by omega) F hm fun d v H' q gr ok r => k d v H' q gr (ok_le l ok) r
theorem ST.le (h : ST C c tt mt) (l : c ≤ c1) : ST C c1 tt mt := fun G g n O env σ H Qd Q hL F hm k => h G g n O env σ H Qd Q (by omega) F hm fun d H' q gr ok => k d H' q gr (ok_le l ok)
theorem Wl.le {G : Cfg} {n a b : Nat} {O : Addr → Prop} {H : Hp} (h : a ≤ b) (k : Wl G (n + a) O H) : Wl G (n + b) O H := ⟨ok_le h k.ok, k.zo, k.co, k.tr, k.base⟩
theorem Fr.le {G : Cfg} {n a b : Nat} {O : Addr → Prop} {env : Ev} {σ : L2.St} {H : Hp} (h : a ≤ b) (F : Fr G (n + a) O env σ H) : Fr G (n + b) O env σ H := ⟨F.wl.le h, F.len, F.sl, F.uq⟩
theorem EOk.dn {G : Cfg} {n a b : Nat} {O : Addr → Prop} {H : Hp} {P : Pe} {D : Ends} (h : a ≤ b) (e : EOk G (n + b) O H P D) : EOk G (n + a) O H P D :=
  ⟨fun O' v s H' l F => e.nx O' v s H' l (F.le h), fun d v O' H' W => e.rt d v O' H' (W.le h), fun O' v s H' l F => e.bk O' v s H' l (F.le h), fun O' v s H' l F => e.ct O' v s H' l (F.le h)⟩
theorem SS.le (h : SS C c ts sm) (l : c ≤ c1) : SS C c1 ts sm := fun G g n O env σ H P D hL F hm e => h G g n O env σ H P D (by omega) F hm (e.dn l)
theorem st_and (h : ST C c1 tt mt) (h' : ST C c2 tu mu) : ST C (c1 + c2) (tAnd tt tu) (mAnd mt mu) := fun G c n O env σ H Qd Q hL F hm k =>
  h G c n O env σ H _ _ (by omega) F hm fun b H1 h1 g1 ok1 => by
    cases b with
    | true => exact iteT (h' G c _ O env σ H1 Qd Q (by omega) (F.grow g1 ok1) h1 fun b H2 h2 g2 ok2 => k b H2 h2 (g1.trans g2) (ok_as ok2))
    | false => exact iteF (k false H1 h1 g1 (ok_le (by omega) ok1))
theorem st_or (h : ST C c1 tt mt) (h' : ST C c2 tu mu) : ST C (c1 + c2) (tOr tt tu) (mOr mt mu) := fun G c n O env σ H Qd Q hL F hm k =>
  h G c n O env σ H _ _ (by omega) F hm fun b H1 h1 g1 ok1 => by
    cases b with
    | true => exact iteT (k true H1 h1 g1 (ok_le (by omega) ok1))
    | false => exact iteF (h' G c _ O env σ H1 Qd Q (by omega) (F.grow g1 ok1) h1 fun b H2 h2 g2 ok2 => k b H2 h2 (g1.trans g2) (ok_as ok2))
theorem st_not (h : ST C c tt mt) : ST C c (tNot tt) (mNot mt) := fun G c n O env σ H Qd Q hL F hm k => h G c n O env σ H _ _ hL F hm fun b H1 h1 g1 ok1 => k _ H1 h1 g1 ok1
/-! ### values by tests -/
def mIf (t : TM) (a b : EM) : EM := fun env Q => t env fun c => if c = true then a env Q else b env Q
theorem se_if (h : ST C c1 tt mt) (ha : SE C c2 ta ma) (hb : SE C c3 tb mb) : SE C (c1 + (c2 + c3)) (tIf tt ta tb) (mIf mt ma mb) := fun G c n O env σ H Qd Q hL F hm k =>
  h G c n O env σ H _ _ (by omega) F hm fun b H1 h1 g1 ok1 => by
    cases b with
    | true => exact iteT (ha G c _ O env σ H1 Qd Q (by omega) (F.grow g1 ok1) h1 fun d v H2 h2 g2 ok2 r2 => k d v H2 h2 (g1.trans g2) (ok_le (by omega) (ok_as ok2)) r2)
    | false => exact iteF (hb G c _ O env σ H1 Qd Q (by omega) (F.grow g1 ok1) h1 fun d v H2 h2 g2 ok2 r2 => k d v H2 h2 (g1.trans g2) (ok_le (by omega) (ok_as ok2)) r2)
def mAndV (a b : EM) : EM := fun env Q => a env fun d => match d with | .bl c => if c = true then b env Q else Q (.bl false) | _ => False
def mOrV (a b : EM) : EM := fun env Q => a env fun d => match d with | .bl c => if c = true then Q (.bl true) else b env Q | _ => False
def mNotV (a : EM) : EM := fun env Q => a env fun d => match d with | .bl c => Q (.bl !c) | _ => False
theorem se_andV (ha : SE C c1 ta ma) (hb : SE C c2 tb mb) : SE C (c1 + c2) (tAndV ta tb) (mAndV ma mb) := fun G c n O env σ H Qd Q hL F hm k =>
  ha G c n O env σ H _ _ (by omega) F hm fun d v H1 h1 g1 ok1 r1 => by
    split at h1
    · rename_i b
      cases r1
      refine ⟨b, rfl, ?_⟩
      cases b with
      | true => exact iteT (hb G c _ O env σ H1 Qd Q (by omega) (F.grow g1 ok1) h1 fun d v H2 h2 g2 ok2 r2 => k d v H2 h2 (g1.trans g2) (ok_as ok2) r2)
      | false => exact iteF (k _ _ H1 h1 g1 (ok_le (by omega) ok1) (.bl false))
    · exact h1.elim
theorem se_orV (ha : SE C c1 ta ma) (hb : SE C c2 tb mb) : SE C (c1 + c2) (tOrV ta tb) (mOrV ma mb) := fun G c n O env σ H Qd Q hL F hm k =>
  ha G c n O env σ H _ _ (by omega) F hm fun d v H1 h1 g1 ok1 r1 => by
    split at h1
    · rename_i b
      cases r1
      refine ⟨b, rfl, ?_⟩
      cases b with
      | true => exact iteT (k _ _ H1 h1 g1 (ok_le (by omega) ok1) (.bl true))
      | false => exact iteF (hb G c _ O env σ H1 Qd Q (by omega) (F.grow g1 ok1) h1 fun d v H2 h2 g2 ok2 r2 => k d v H2 h2 (g1.trans g2) (ok_as ok2) r2)
    · exact h1.elim
theorem se_notV (ha : SE C c ta ma) : SE C c (tNotV ta) (mNotV ma) := fun G c n O env σ H Qd Q hL F hm k =>
  ha G c n O env σ H _ _ hL F hm fun d v H1 h1 g1 ok1 r1 => by
    split at h1
    · cases r1; exact ⟨_, rfl, k _ _ H1 h1 g1 ok1 (.bl _)⟩
    · exact h1.elim
/-! ### statements -/
def sNext : SM := fun env P => P.nx env
def sSeq (a b : SM) : SM := fun env P => a env { P with nx := fun e => b e P }
theorem ss_next : SS C 0 tNext sNext := fun G c n O env σ H P D hL F hm e => e.nx O env σ H (LeA.refl _) F hm
theorem ss_seq (h : SS C c1 ts sm) (h' : SS C c2 tz sz) : SS C (c1 + c2) (tSeq ts tz) (sSeq sm sz) := fun G c n O env σ H P D hL F hm e =>
  h G c n O env σ H _ _ (by omega) F hm ⟨fun O' env' σ' H' l F' q => h' G c _ O' env' σ' H' P D (by omega) F' q (by rw [Nat.add_assoc]; exact e.le l), fun d v O' H' W => e.rt d v O' H' (W.le (by omega)), fun O' v s H' l F => e.bk O' v s H' l (F.le (by omega)), fun O' v s H' l F => e.ct O' v s H' l (F.le (by omega))⟩
theorem ss_frz (i : Nat) (h : SS C c ts sm) : SS C c ts (fun env P => sm (frz env i) P) := fun G c n O env σ H P D hL F hm e => by
  obtain ⟨O', l, F'⟩ := F.frz i
  exact h G c n O' _ σ H P D hL F' hm (e.le l)
def sSet (i : Nat) (x : XM) : SM := fun env P => x env fun c => P.nx (env.set i c)
theorem ss_set (h : SX C c te mx) : SS C c (tAsg te (gName i)) (sSet i mx) := fun G c n O env σ H P D hL F hm e =>
  h G c n O env σ H _ _ hL F hm fun c v O' H' q g W l mo s _ f => e.nx O' _ _ H' l (F.set g W l mo s f) q
def sPar (i j : Nat) (x y : XM) : SM := fun env P => x env fun c => y env fun d => P.nx ((env.set i c).set j d)
theorem ss_par (h : SX C c1 ta mx) (h' : SX C c2 tb my) : SS C (c1 + c2) (tPar i j (tCons ta (tCons tb tNil))) (sPar i j mx my) := fun G c n O env σ H P D hL F hm e =>
  h G c n O env σ H _ _ (by omega) F hm fun x1 v O1 H1 q g W l mo s nn f =>
    h' G c _ O1 env σ H1 _ _ (by omega) ⟨W, F.len, fun k d e n => let ⟨u, h1, h2⟩ := F.sl k d e n; ⟨u, h1, h2.le g l mo⟩, F.uq⟩ q fun x2 u O2 H2 q2 g2 W2 l2 mo2 s2 n2 f2 =>
      ⟨v, u, rfl, e.nx O2 _ _ H2 (l.trans l2) (by rw [← Nat.add_assoc]; exact (F.set (i := i) g W l mo s f).set (i := j) g2 W2 l2 mo2 s2 f2) q2⟩
def sRet (m : EM) : SM := fun env P => m env P.rt
theorem ss_ret (h : SE C c te m) : SS C c (tRet te) (sRet m) := fun G c n O env σ H P D hL F hm e =>
  h G c n O env σ H _ _ hL F hm fun d v H' q g ok r => e.rt d v O H' (F.wl.grow g ok) r q
def sRetN : SM := fun env P => P.rt .non
theorem ss_retN : SS C 0 tRetN sRetN := fun G c n O env σ H P D hL F hm e => e.rt .non .non O H F.wl .non hm
def sIf (t : TM) (a b : SM) : SM := fun env P => t env fun c => if c = true then a env P else b env P
theorem EOk.grow {G : Cfg} {n k : Nat} {O : Addr → Prop} {H H1 : Hp} {P : Pe} {D : Ends} {env : Ev} {σ : L2.St} (e : EOk G n O H P D) (F : Fr G k O env σ H) (g : Grow G.w H H1) : EOk G n O H1 P D := e.le (sh_grow F.wl.zo g)
theorem ss_if (h : ST C c1 tt mt) (ha : SS C c2 ts sm) (hb : SS C c3 tz sz) : SS C (c1 + (c2 + c3)) (tIfS tt ts tz) (sIf mt sm sz) := fun G c n O env σ H P D hL F hm e =>
  h G c n O env σ H _ _ (by omega) F hm fun b H1 h1 g1 ok1 => by
    cases b with
    | true => exact iteT (ha G c _ O env σ H1 P D (by omega) (F.grow g1 ok1) h1 (by rw [Nat.add_assoc]; exact (e.grow F g1).dn (by omega)))
    | false => exact iteF (hb G c _ O env σ H1 P D (by omega) (F.grow g1 ok1) h1 (by rw [Nat.add_assoc]; exact (e.grow F g1).dn (by omega)))
def sDrop (m : EM) : SM := fun env P => m env fun _ => P.nx env
theorem ss_drop (h : SE C c te m) : SS C c (tDrop te) (sDrop m) := fun G c n O env σ H P D hL F hm e =>
  h G c n O env σ H _ _ hL F hm fun d v H' q g ok r => e.nx O env σ H' (sh_grow F.wl.zo g) (F.grow g ok) q
def sNever : SM := fun _ _ => False
theorem ss_never : SS C 0 tNever sNever := fun G c n O env σ H P D hL F hm e => hm
def sBreak : SM := fun env P => P.bk env
def sCont : SM := fun env P => P.ct env
theorem ss_break : SS C 0 tBreak sBreak := fun G c n O env σ H P D hL F hm e => e.bk O env σ H (LeA.refl _) F hm
theorem ss_cont : SS C 0 tCont sCont := fun G c n O env σ H P D hL F hm e => e.ct O env σ H (LeA.refl _) F hm
/-- x.append(e) -/
def sApp (i : Nat) (m : EM) : SM := fun env P => match env[i]? with | some (.own ds) => m env fun d => ds.length < sizeLine ∧ P.nx (env.set i (.own (ds ++ [d]))) | _ => False
theorem own_le {G : Cfg} {O : Addr → Prop} {H : Hp} {a : Addr} {o : HO} (oa : OwnAt G O a) : LeA (Sh O H) (Sh O (upd H a o)) := fun b u ⟨h, n⟩ => ⟨rd_upd (fun z => n (by rw [z]; exact oa.o)) h, n⟩
theorem ss_app (h : SE C c te m) : SS C c (tDrop (tBM K "list" rAppend (tVar i) (tCons te tNil))) (sApp i m) := fun G c n O env σ H P D hL F hm e => by
  unfold sApp at hm
  split at hm
  · rename_i ds ei
    obtain ⟨v, es, s⟩ := F.sl i _ ei (by intro z; cases z)
    cases s with
    | @own a xs _ eh oa r =>
      refine ⟨_, es, .inl ⟨rfl, xs, sqL eh⟩, ?_⟩
      refine h G c n O env σ H _ _ hL F hm fun d v H1 ⟨hl, q⟩ g ok rv => ?_
      have F1 := F.grow g ok
      have eh1 := g _ _ eh oa.z
      have r1 := r.mono (sh_grow F.wl.zo g)
      refine ⟨a, xs, v, rfl, rfl, eh1, by rw [r.length]; exact hl, ?_⟩
      exact e.nx O _ _ _ ((sh_grow F.wl.zo g).trans (own_le oa)) (F1.mut ei es rfl rfl oa fun H' l e' => .own e' oa ((r1.append (.cons rv .nil)).mono l)) q
  · exact hm.elim
/-- x[k] = e -/
def sSetIx (i : Nat) (mi m : EM) : SM := fun env P => match env[i]? with
  | some (.own ds) => m env fun d => mi env fun k => (match k with | .int k => (match ixN ds.length k with | some j => P.nx (env.set i (.own (ds.set j d))) | none => False) | _ => False)
  | _ => False
theorem ss_setIx (h : SE C c1 te m) (hi : SE C c2 ti mi) : SS C (c1 + c2) (tAsg te (gSub (tVar i) ti rSetL)) (sSetIx i mi m) := fun G c n O env σ H P D hL F hm e => by
  unfold sSetIx at hm
  split at hm
  · rename_i ds ei
    obtain ⟨v, es, s⟩ := F.sl i _ ei (by intro z; cases z)
    cases s with
    | @own a xs _ eh oa r =>
      refine h G c n O env σ H _ _ (by omega) F hm fun d v H1 q1 g1 ok1 rv => ?_
      have F1 := F.grow g1 ok1
      refine ⟨_, es, ?_⟩
      refine hi G c _ O env σ H1 _ _ (by omega) F1 q1 fun k u H2 q2 g2 ok2 rk => ?_
      have g := g1.trans g2
      have eh2 := g _ _ eh oa.z
      have r2 := r.mono (sh_grow F.wl.zo g)
      split at q2
      · split at q2
        · rename_i j hj
          cases rk
          refine ⟨a, xs, _, j, rfl, rfl, eh2, by rw [r.length]; exact hj, ?_⟩
          exact e.nx O _ _ _ ((sh_grow F.wl.zo g).trans (own_le oa)) ((F.grow g (ok_as ok2)).mut ei es rfl rfl oa fun H' l e' => .own e' oa ((RpL.set j (rv.mono (sh_grow F.wl.zo g2)) r2).mono l)) q2
        · exact q2.elim
      · exact q2.elim
  · exact hm.elim
end
end PL

namespace PL
open PySem L2
/-! ### targets -/
abbrev GM := Ev → D → (Ev → Prop) → Prop
abbrev GMs := Ev → List D → (Ev → Prop) → Prop
def SG (C : Wd → XC → Prop) (vs : List Nat) (g : TG) (m : GM) : Prop := ∀ G, C G.w G.x → ∀ n O env σ H d v (Qd : Ev → Prop) (Q : L2.St → Hp → Prop), Fr G n O env σ H → Rp (Sh O H) v d → m env d Qd →
  (∀ env' σ', Fr G n O env' σ' H → wipe σ' vs = wipe σ vs → Qd env' → Q σ' H) → g v σ H Q
def SGs (C : Wd → XC → Prop) (vs : List Nat) (g : TGs) (m : GMs) : Prop := ∀ G, C G.w G.x → ∀ n O env σ H ds us (Qd : Ev → Prop) (Q : L2.St → Hp → Prop), Fr G n O env σ H → RpL (Sh O H) us ds → m env ds Qd →
  (∀ env' σ', Fr G n O env' σ' H → wipe σ' vs = wipe σ vs → Qd env' → Q σ' H) → g us σ H Q
section
variable {C : Wd → XC → Prop} {K : PySem.W.Frag} {te ta tb tk ti to : TE} {tt tu : TT} {t tr : TA} {m ma mb mk mi : EM} {mt mu : TM} {mx my : XM} {am ar : AM} {i j c c1 c2 c3 : Nat} {n : Nat} {ts tz : TS} {sm sz : SM} {g : TG} {gs : TGs} {mg : GM} {mgs : GMs} {vs : List Nat} {wi : TI}
theorem wipe_set : ∀ {vs : List Nat} {σ : L2.St} {i : Nat} {v : Option V}, i ∈ vs → wipe (σ.set i v) vs = wipe σ vs
  | [], _, _, _, h => by cases h
  | w :: vs, σ, i, v, h => by
    unfold wipe
    by_cases e : i ∈ vs
    · rw [wipe_set e]
    · have ew : i = w := by
        rcases List.mem_cons.mp h with z | z
        · exact z
        · exact absurd z e
      subst ew
      have : ∀ (us : List Nat) (τ : L2.St), i ∉ us → (wipe (τ.set i v) us) = (wipe τ us).set i v := by
        intro us
        induction us with
        | nil => intro τ _; rfl
        | cons u us ih =>
          intro τ hn
          unfold wipe
          rw [ih τ fun z => hn (List.mem_cons_of_mem _ z), List.set_comm _ _ (fun z => hn (by rw [z]; exact List.mem_cons_self))]
      rw [this vs σ e, List.set_set]
theorem wipe_sub {vs : List Nat} {σ : L2.St} : ∀ us : List Nat, (∀ u ∈ us, u ∈ vs) → wipe (wipe σ us) vs = wipe σ vs
  | [], _ => rfl
  | u :: us, h => by
    show wipe ((wipe σ us).set u none) vs = _
    rw [wipe_set (h u List.mem_cons_self)]
    exact wipe_sub us fun w hw => h w (List.mem_cons_of_mem _ hw)
theorem wipe_wipe {vs : List Nat} {σ : L2.St} : wipe (wipe σ vs) vs = wipe σ vs := wipe_sub vs fun _ h => h
def gN (i : Nat) : GM := fun env d Q => Q (env.set i (.dat d))
theorem sg_name (h : i ∈ vs := by decide) : SG C vs (gName i) (gN i) := fun G c n O env σ H d v Qd Q F r hm k =>
  k _ _ (F.set (Grow.refl _ _) F.wl (LeA.refl _) (fun _ z => z) (.dat r) fun _ _ z => by cases z) (wipe_set h) hm
def gsN : GMs := fun env ds Q => ds = [] ∧ Q env
def gsC (m : GM) (ms : GMs) : GMs := fun env ds Q => match ds with | d :: r => m env d fun e => ms e r Q | [] => False
theorem sgs_nil : SGs C vs gNil gsN := fun G c n O env σ H ds us Qd Q F r ⟨e, q⟩ k => by
  subst e; cases r
  exact ⟨rfl, k env σ F rfl q⟩
theorem sgs_cons (h : SG C vs g mg) (h' : SGs C vs gs mgs) : SGs C vs (gCons g gs) (gsC mg mgs) := fun G c n O env σ H ds us Qd Q F r hm k => by
  unfold gsC at hm
  split at hm
  · cases r with
    | cons a r => exact ⟨_, _, rfl, h G c n O env σ H _ _ _ _ F a hm fun e1 s1 F1 w1 q1 => h' G c n O e1 s1 H _ _ _ _ F1 r q1 fun e2 s2 F2 w2 q2 => k e2 s2 F2 (w2.trans w1) q2⟩
  · exact hm.elim
def gT (n : Nat) (ms : GMs) : GM := fun env d Q => match d with | .tup ds => ds.length = n ∧ ms env ds Q | _ => False
theorem sg_tup {l : Nat} (h : SGs C vs gs mgs) : SG C vs (gTup K l gs) (gT l mgs) := fun G c n O env σ H d v Qd Q F r hm k => by
  unfold gT at hm
  split at hm
  · cases r with
    | tup e r => exact ⟨_, _, rfl, sqT (rk_tup e.1), by rw [r.length]; exact hm.1, h G c n O env σ H _ _ _ _ F r hm.2 k⟩
  · exact hm.elim
def sTo (m : EM) (g : GM) : SM := fun env P => m env fun d => g env d P.nx
theorem ss_to (h : SE C c te m) (hg : SG C vs g mg) : SS C c (tAsg te g) (sTo m mg) := fun G c n O env σ H P D hL F hm e =>
  h G c n O env σ H _ _ hL F hm fun d v H1 q gr ok r => hg G c _ O env σ H1 d v _ _ (F.grow gr ok) r q fun e' s' F' _ q' => e.nx O e' s' H1 (sh_grow F.wl.zo gr) F' q'
/-! ### what is walked -/
def Walks (G : Cfg) (J : It) (O : Addr → Prop) (H : Hp) (ds : List D) : Prop := ∀ n O' H', LeA (Sh O H) (Sh O' H') → Wl G n O' H' → ∀ i : Nat,
  (i < ds.length → J.go i H' ∧ ∀ x H'', J.yld i H' x H'' → Grow G.w H' H'' ∧ G.w.ok n H'' ∧ ∃ d, ds[i]? = some d ∧ Rp (Sh O' H'') x d) ∧ (ds.length ≤ i → J.stop i H')
def SI (C : Wd → XC → Prop) (c : Nat) (wi : TI) (m : AM) : Prop := ∀ G, C G.w G.x → ∀ n O env σ H (Qd : List D → Prop) (R : It → Hp → Prop), n + c ≤ G.x.lim → Fr G n O env σ H → m env Qd → (∀ ds J H', Qd ds → Grow G.w H H' → G.w.ok (n + c) H' → Walks G J O H' ds → R J H') → wi σ H R
def iL (m : EM) : AM := fun env Q => m env fun d => match d with | .lst l => Q l | _ => False
theorem walks_list {G : Cfg} {O : Addr → Prop} {H : Hp} {a : Addr} {xs : List V} {ds : List D} (e : Sh O H a (.lst xs)) (r : RpL (Sh O H) xs ds) : Walks G (Itl K a) O H ds := fun n O' H' l W i => by
  have e' := rk_lst (l _ _ e).1
  have r' := r.mono l
  refine ⟨fun hi => ?_, fun hi => ⟨xs, sqL e', by rw [r.length]; exact hi⟩⟩
  obtain ⟨v, hv, rv⟩ := r'.get (List.getElem?_eq_getElem hi)
  refine ⟨⟨xs, v, sqL e', hv⟩, fun x H'' ⟨eH, hx⟩ => ?_⟩
  subst eH
  have := hx xs (sqL e')
  rw [hv] at this; cases this
  exact ⟨Grow.refl _ _, W.ok, _, List.getElem?_eq_getElem hi, rv⟩
theorem walks_tup {G : Cfg} {O : Addr → Prop} {H : Hp} {a : Addr} {xs : List V} {ds : List D} (e : Sh O H a (.tup xs)) (r : RpL (Sh O H) xs ds) : Walks G (Itt K a) O H ds := fun n O' H' l W i => by
  have e' := rk_tup (l _ _ e).1
  have r' := r.mono l
  refine ⟨fun hi => ?_, fun hi => ⟨xs, sqT e', by rw [r.length]; exact hi⟩⟩
  obtain ⟨v, hv, rv⟩ := r'.get (List.getElem?_eq_getElem hi)
  refine ⟨⟨xs, v, sqT e', hv⟩, fun x H'' ⟨eH, hx⟩ => ?_⟩
  subst eH
  have := hx xs (sqT e')
  rw [hv] at this; cases this
  exact ⟨Grow.refl _ _, W.ok, _, List.getElem?_eq_getElem hi, rv⟩
theorem si_list (h : SE C c te m) : SI C c (iList K te) (iL m) := fun G c n O env σ H Qd R hL F hm k =>
  h G c n O env σ H _ _ hL F hm fun d v H1 q g ok r => by
    split at q
    · cases r with
      | lst e r => exact ⟨_, rfl, ⟨_, sqL (rk_lst e.1)⟩, k _ _ H1 q g ok (walks_list e r)⟩
    · exact q.elim
def iT (m : EM) : AM := fun env Q => m env fun d => match d with | .tup l => Q l | _ => False
theorem si_tup (h : SE C c te m) : SI C c (iTup K te) (iT m) := fun G c n O env σ H Qd R hL F hm k =>
  h G c n O env σ H _ _ hL F hm fun d v H1 q g ok r => by
    split at q
    · cases r with
      | tup e r => exact ⟨_, rfl, ⟨_, sqT (rk_tup e.1)⟩, k _ _ H1 q g ok (walks_tup e r)⟩
    · exact q.elim
def rng (lo : Int) (n : Nat) : List D := (List.range n).map fun k : Nat => D.int (lo + (k : Int))
theorem rng_length (lo : Int) (n : Nat) : (rng lo n).length = n := by unfold rng; rw [List.length_map, List.length_range]
theorem rng_get {lo : Int} {n i : Nat} (h : i < n) : (rng lo n)[i]? = some (.int (lo + (i : Int))) := by
  unfold rng
  rw [List.getElem?_map, List.getElem?_range h]; rfl
theorem walks_rng {G : Cfg} {O : Addr → Prop} {H : Hp} (lo : Int) (n : Nat) : Walks G (Itr lo n) O H (rng lo n) := fun n' O' H' l W i => by
  rw [rng_length]
  refine ⟨fun hi => ⟨hi, fun x H'' ⟨eH, ex⟩ => ?_⟩, fun hi => hi⟩
  subst eH; subst ex
  exact ⟨Grow.refl _ _, W.ok, _, rng_get hi, .int _⟩
def iR1 (a : AM) : AM := fun env Q => a env fun ds => match ds with | [.int j] => (-(2 ^ 62) ≤ j ∧ j < 2 ^ 62) ∧ Q (rng 0 j.toNat) | _ => False
theorem si_rng1 (h : SA C c t am) : SI C c (iRng1 t) (iR1 am) := fun G c n O env σ H Qd R hL F hm k =>
  h G c n O env σ H _ _ hL F hm fun ds vs H1 q g ok r => by
    split at q
    · cases r with
      | cons a r =>
        cases a; cases r
        exact ⟨_, rfl, q.1.1, q.1.2, k _ _ H1 q.2 g ok (walks_rng 0 _)⟩
    · exact q.elim
def iR2 (a : AM) : AM := fun env Q => a env fun ds => match ds with | [.int i, .int j] => (-(2 ^ 62) ≤ i ∧ i < 2 ^ 62 ∧ -(2 ^ 62) ≤ j ∧ j < 2 ^ 62) ∧ Q (rng i (j - i).toNat) | _ => False
theorem si_rng2 (h : SA C c t am) : SI C c (iRng2 t) (iR2 am) := fun G c n O env σ H Qd R hL F hm k =>
  h G c n O env σ H _ _ hL F hm fun ds vs H1 q g ok r => by
    split at q
    · cases r with
      | cons a r =>
        cases r with
        | cons b r =>
          cases a; cases b; cases r
          exact ⟨_, _, rfl, q.1, k _ _ H1 q.2 g ok (walks_rng _ _)⟩
    · exact q.elim
/-! ### for -/
def loopP (g : GM) (b : SM) : List D → Ev → Pe → Prop
  | [], env, P => P.nx env
  | d :: r, env, P => g env d fun e1 => b e1 { P with nx := fun e2 => loopP g b r e2 P, ct := fun e2 => loopP g b r e2 P, bk := P.nx }
def sFor (a : AM) (g : GM) (b : SM) : SM := fun env P => a env fun ds => loopP g b ds env P
theorem loop_at {g : GM} {b : SM} {ds : List D} {i : Nat} {d : D} {env : Ev} {P : Pe} (h : ds[i]? = some d) (q : loopP g b (ds.drop i) env P) : g env d fun e1 => b e1 { P with nx := fun e2 => loopP g b (ds.drop (i + 1)) e2 P, ct := fun e2 => loopP g b (ds.drop (i + 1)) e2 P, bk := P.nx } := by
  obtain ⟨hi, e⟩ := List.getElem?_eq_some_iff.mp h
  rw [List.drop_eq_getElem_cons hi, e] at q
  exact q
theorem for_run {T : Nat} {X : List D → SM} (hX : ∀ ds env P, X ds env P → ds.length * c2 ≤ T ∧ loopP mg sm ds env P) (hg : SG C vs g mg) (hb : SS C c2 ts sm) {G : Cfg} (c : C G.w G.x) {n : Nat} {O : Addr → Prop} {env : Ev} {σ : L2.St} {H : Hp} {P : Pe} {D : Ends} (hL : n + (c1 + T) ≤ G.x.lim) (F : Fr G n O env σ H)
    (hi : ∀ (Qd' : List PL.D → Prop) (R : It → Hp → Prop), am env Qd' → (∀ ds J H', Qd' ds → Grow G.w H H' → G.w.ok (n + c1) H' → Walks G J O H' ds → R J H') → wi σ H R) (hm : am env fun ds => X ds env P) (e : EOk G (n + (c1 + T)) O H P D) : tFor wi g ts D σ H :=
  hi _ _ hm fun ds J H1 q0 gr ok wk => by
    obtain ⟨hT, q⟩ := hX ds env P q0
    have F1 := F.grow gr ok
    have l1 := sh_grow F.wl.zo gr
    have hle1 : ∀ i, i ≤ ds.length → i * c2 ≤ T := fun i h => Nat.le_trans (Nat.mul_le_mul_right _ h) hT
    refine ⟨fun i m σ' H' => m = ds.length - i ∧ i ≤ ds.length ∧ ∃ O' env', LeA (Sh O H1) (Sh O' H') ∧ Fr G (n + c1 + i * c2) O' env' σ' H' ∧ loopP mg sm (ds.drop i) env' P, ⟨ds.length, by simp, Nat.zero_le _, O, env, LeA.refl _, by rw [Nat.zero_mul]; exact F1, q⟩, ?_⟩
    rintro i m σ' H' ⟨rfl, hle, O', env', l, F', q'⟩
    by_cases hlt : i < ds.length
    · obtain ⟨go, yl⟩ := (wk _ O' H' l F'.wl i).1 hlt
      have hT1 := hle1 (i + 1) hlt
      rw [Nat.succ_mul] at hT1
      refine .inr ⟨go, fun σ2 H2 => ∃ O2 env2, LeA (Sh O H1) (Sh O2 H2) ∧ Fr G (n + c1 + (i + 1) * c2) O2 env2 σ2 H2 ∧ loopP mg sm (ds.drop (i + 1)) env2 P, fun σ2 H2 h2 => ⟨ds.length - (i + 1), by omega, rfl, hlt, h2⟩, fun x H'' hy => ?_⟩
      obtain ⟨g2, ok2, d, hd, rd⟩ := yl x H'' hy
      have l2 := sh_grow F'.wl.zo g2
      refine hg G c _ O' env' σ' H'' d x _ _ (F'.grow g2 ok2) rd (loop_at hd q') fun e1 s1 F3 _ q3 => ?_
      have en : n + c1 + i * c2 + c2 = n + c1 + (i + 1) * c2 := by rw [Nat.succ_mul, ← Nat.add_assoc]
      have ei : n + c1 + i * c2 + c2 = n + (c1 + i * c2 + c2) := by omega
      refine hb G c _ O' e1 s1 H'' _ _ (by omega) F3 q3 ⟨fun O4 e4 s4 H4 l4 F4 q4 => ⟨O4, e4, l.trans (l2.trans l4), by rw [← en]; exact F4, q4⟩, fun d v O4 H4 W => e.rt d v O4 H4 (by rw [ei] at W; exact W.le (by omega)), fun O4 e4 s4 H4 l4 F4 q4 => e.nx O4 e4 s4 H4 (l1.trans (l.trans (l2.trans l4))) (by rw [ei] at F4; exact F4.le (by omega)) q4, fun O4 e4 s4 H4 l4 F4 q4 => ⟨O4, e4, l.trans (l2.trans l4), by rw [← en]; exact F4, q4⟩⟩
    · have ei : i = ds.length := by omega
      have hT1 := hle1 i hle
      refine .inl ⟨(wk _ O' H' l F'.wl i).2 (by omega), e.nx O' env' σ' H' (l1.trans l) (by rw [Nat.add_assoc] at F'; exact F'.le (by omega)) ?_⟩
      rw [ei, List.drop_length] at q'
      exact q'
theorem ss_forG {T : Nat} {X : List D → SM} (hX : ∀ ds env P, X ds env P → ds.length * c2 ≤ T ∧ loopP mg sm ds env P) (hi : SI C c1 wi am) (hg : SG C vs g mg) (hb : SS C c2 ts sm) : SS C (c1 + T) (tFor wi g ts) (fun env P => am env fun ds => X ds env P) := fun G c n O env σ H P D hL F hm e =>
  for_run hX hg hb c hL F (fun Qd' R h k' => hi G c n O env σ H Qd' R (by omega) F h k') hm e
/-- a loop whose turns draw nothing -/
theorem ss_for (hi : SI C c1 wi am) (hg : SG C vs g mg) (hb : SS C 0 ts sm) : SS C c1 (tFor wi g ts) (sFor am mg sm) := ss_forG (T := 0) (X := fun ds env P => loopP mg sm ds env P) (fun _ _ _ h => ⟨by simp, h⟩) hi hg hb
/-- a loop of at most L turns -/
def sForL (L : Nat) (a : AM) (g : GM) (b : SM) : SM := fun env P => a env fun ds => ds.length ≤ L ∧ loopP g b ds env P
theorem ss_forL (L : Nat) (hi : SI C c1 wi am) (hg : SG C vs g mg) (hb : SS C c2 ts sm) : SS C (c1 + L * c2) (tFor wi g ts) (sForL L am mg sm) := ss_forG (X := fun ds env P => ds.length ≤ L ∧ loopP mg sm ds env P) (fun _ _ _ h => ⟨Nat.mul_le_mul_right _ h.1, h.2⟩) hi hg hb
/-! ### while -/
def sWhile (t : TM) (b : SM) : SM := fun env P => ∃ I : Nat → Ev → Prop, (∃ n, I n env) ∧ ∀ n e, I n e → t e fun c => if c = true then b e { P with nx := fun e2 => ∃ k, k < n ∧ I k e2, ct := fun e2 => ∃ k, k < n ∧ I k e2, bk := P.nx } else P.nx e
theorem ss_while (ht : ST C 0 tt mt) (hb : SS C 0 ts sm) : SS C 0 (tWhile tt ts) (sWhile mt sm) := fun G c n O env σ H P D hL F ⟨I, ⟨n0, i0⟩, turn⟩ e => by
  refine ⟨fun k σ' H' => ∃ O' env', LeA (Sh O H) (Sh O' H') ∧ Fr G n O' env' σ' H' ∧ I k env', ⟨n0, O, env, LeA.refl _, F, i0⟩, ?_⟩
  rintro k σ' H' ⟨O', env', l, F', hI⟩
  refine ht G c n O' env' σ' H' _ _ hL F' (turn k env' hI) fun b H1 q g1 ok1 => ?_
  have F1 := F'.grow g1 ok1
  have l1 := l.trans (sh_grow F'.wl.zo g1)
  cases b with
  | true =>
    rw [if_pos rfl] at q ⊢
    refine ⟨fun σ2 H2 => ∃ k', k' < k ∧ ∃ O2 env2, LeA (Sh O H) (Sh O2 H2) ∧ Fr G n O2 env2 σ2 H2 ∧ I k' env2, fun σ2 H2 h2 => h2, ?_⟩
    exact hb G c n O' env' σ' H1 _ _ hL F1 q ⟨fun O4 e4 s4 H4 l4 F4 ⟨k, hk, q4⟩ => ⟨k, hk, O4, e4, l1.trans l4, F4, q4⟩, e.rt, fun O4 e4 s4 H4 l4 F4 q4 => e.nx O4 e4 s4 H4 (l1.trans l4) F4 q4, fun O4 e4 s4 H4 l4 F4 ⟨k, hk, q4⟩ => ⟨k, hk, O4, e4, l1.trans l4, F4, q4⟩⟩
  | false =>
    rw [if_neg Bool.false_ne_true] at q ⊢
    exact e.nx O' env' σ' H1 l1 F1 q
/-- a while of at most L turns, which may draw -/
def sWhileL (L : Nat) (t : TM) (b : SM) : SM := fun env P => ∃ I : Nat → Ev → Prop, (∃ n, n ≤ L ∧ I n env) ∧ ∀ n e, I n e → t e fun c => if c = true then b e { P with nx := fun e2 => ∃ k, k < n ∧ I k e2, ct := fun e2 => ∃ k, k < n ∧ I k e2, bk := P.nx } else P.nx e
theorem ss_whileL (L : Nat) (ht : ST C c1 tt mt) (hb : SS C c2 ts sm) : SS C ((L + 1) * (c1 + c2)) (tWhile tt ts) (sWhileL L mt sm) := fun G c n O env σ H P D hL F ⟨I, ⟨n0, hn0, i0⟩, turn⟩ e => by
  refine ⟨fun k σ' H' => k ≤ L ∧ ∃ O' env', LeA (Sh O H) (Sh O' H') ∧ Fr G (n + (L - k) * (c1 + c2)) O' env' σ' H' ∧ I k env', ⟨n0, hn0, O, env, LeA.refl _, (Fr.le (a := 0) (Nat.zero_le _) F), i0⟩, ?_⟩
  rintro k σ' H' ⟨hk, O', env', l, F', hI⟩
  have hle : (L - k) * (c1 + c2) + (c1 + c2) ≤ (L + 1) * (c1 + c2) := by
    rw [← Nat.succ_mul]
    exact Nat.mul_le_mul_right _ (by omega)
  refine ht G c _ O' env' σ' H' _ _ (by omega) F' (turn k env' hI) fun b H1 q g1 ok1 => ?_
  have F1 := F'.grow g1 ok1
  have l1 := l.trans (sh_grow F'.wl.zo g1)
  cases b with
  | true =>
    rw [if_pos rfl] at q ⊢
    refine ⟨fun σ2 H2 => ∃ k', k' < k ∧ ∃ O2 env2, LeA (Sh O H) (Sh O2 H2) ∧ Fr G (n + ((L - k) * (c1 + c2) + (c1 + c2))) O2 env2 σ2 H2 ∧ I k' env2, fun σ2 H2 ⟨k', hk', O2, e2, l2, F2, i2⟩ => ⟨k', hk', by omega, O2, e2, l2, F2.le (by rw [← Nat.succ_mul]; exact Nat.mul_le_mul_right _ (by omega)), i2⟩, ?_⟩
    have en : n + (L - k) * (c1 + c2) + c1 + c2 = n + ((L - k) * (c1 + c2) + (c1 + c2)) := by omega
    refine hb G c _ O' env' σ' H1 _ _ (by omega) F1 q ⟨fun O4 e4 s4 H4 l4 F4 ⟨k, hk, q4⟩ => ⟨k, hk, O4, e4, l1.trans l4, by rw [← en]; exact F4, q4⟩, fun d v O4 H4 W => e.rt d v O4 H4 (by rw [en] at W; exact W.le hle), fun O4 e4 s4 H4 l4 F4 q4 => e.nx O4 e4 s4 H4 (l1.trans l4) (by rw [en] at F4; exact F4.le hle) q4, fun O4 e4 s4 H4 l4 F4 ⟨k, hk, q4⟩ => ⟨k, hk, O4, e4, l1.trans l4, by rw [← en]; exact F4, q4⟩⟩
  | false =>
    rw [if_neg Bool.false_ne_true] at q ⊢
    exact e.nx O' env' σ' H1 l1 (by rw [Nat.add_assoc] at F1; exact F1.le (by omega)) q
/-! ### comprehensions -/
def wipeE (env : Ev) : List Nat → Ev
  | [] => env
  | v :: vs => (wipeE env vs).set v .un
theorem Fr.wipe {G : Cfg} {n : Nat} {O : Addr → Prop} {env : Ev} {σ : L2.St} {H : Hp} (F : Fr G n O env σ H) : ∀ vs, Fr G n O (wipeE env vs) (L2.wipe σ vs) H
  | [] => F
  | v :: vs => by
    have F := Fr.wipe F vs
    unfold wipeE L2.wipe
    generalize wipeE env vs = env at F ⊢
    generalize L2.wipe σ vs = σ at F ⊢
    have iso : ∀ {j : Nat}, IsOwn (env.set v .un) j → IsOwn env j ∧ v ≠ j := fun {j} ⟨d', ed, od⟩ => by
      by_cases hj : v = j
      · subst hj
        have hl := (List.getElem?_eq_some_iff.mp ed).1
        rw [List.length_set] at hl
        rw [List.getElem?_set_self hl] at ed; cases ed; cases od
      · rw [List.getElem?_set_ne hj] at ed; exact ⟨⟨d', ed, od⟩, hj⟩
    refine ⟨F.wl, by rw [List.length_set, List.length_set]; exact F.len, fun j d e n => ?_, fun j k a oj ok ej ek => ?_⟩
    · by_cases hj : v = j
      · subst hj
        have hl := (List.getElem?_eq_some_iff.mp e).1
        rw [List.length_set] at hl
        rw [List.getElem?_set_self hl] at e; cases e
        exact absurd rfl n
      · rw [List.getElem?_set_ne hj] at e ⊢
        exact F.sl j d e n
    · obtain ⟨o1, n1⟩ := iso oj
      obtain ⟨o2, n2⟩ := iso ok
      rw [List.getElem?_set_ne n1] at ej
      rw [List.getElem?_set_ne n2] at ek
      exact F.uq j k a o1 o2 ej ek
def lcP (g : GM) (t : TM) (m : EM) (env : Ev) : List D → List D → (List D → Prop) → Prop
  | [], acc, Q => Q acc
  | d :: r, acc, Q => g env d fun e1 => t e1 fun b => if b = true then m e1 fun y => acc.length < sizeLine ∧ lcP g t m env r (acc ++ [y]) Q else lcP g t m env r acc Q
def mLc (a : AM) (g : GM) (t : TM) (m : EM) (vs : List Nat) : AM := fun env Q => a env fun ds => lcP g t m (wipeE env vs) ds [] Q
def tmYes : TM := fun _ Q => Q true
theorem st_yes' : ST C 0 tYes tmYes := fun G c n O env σ H Qd Q hL F hm k => k true H hm (Grow.refl _ _) F.wl.ok
theorem lc_at {env : Ev} {ds acc : List D} {i : Nat} {d : D} {Q : List D → Prop} (h : ds[i]? = some d) (q : lcP mg mt m env (ds.drop i) acc Q) : mg env d fun e1 => mt e1 fun b => if b = true then m e1 fun y => acc.length < sizeLine ∧ lcP mg mt m env (ds.drop (i + 1)) (acc ++ [y]) Q else lcP mg mt m env (ds.drop (i + 1)) acc Q := by
  obtain ⟨hi, e⟩ := List.getElem?_eq_some_iff.mp h
  rw [List.drop_eq_getElem_cons hi, e] at q
  exact q
/-- .. while nothing is changed meanwhile -/
def WalksG (G : Cfg) (J : It) (O : Addr → Prop) (H : Hp) (ds : List D) : Prop := ∀ n O' H', LeA (Sh O H) (Sh O' H') → Wl G n O' H' → Grow G.w H H' → ∀ i : Nat,
  (i < ds.length → J.go i H' ∧ ∀ x H'', J.yld i H' x H'' → Grow G.w H' H'' ∧ G.w.ok n H'' ∧ ∃ d, ds[i]? = some d ∧ Rp (Sh O' H'') x d) ∧ (ds.length ≤ i → J.stop i H')
theorem walks_g {G : Cfg} {J : It} {O : Addr → Prop} {H : Hp} {ds : List D} (w : Walks G J O H ds) : WalksG G J O H ds := fun n O' H' l W _ => w n O' H' l W
theorem lc_run {T : Nat} {X : Ev → List D → (List D → Prop) → Prop} (hX : ∀ env ds Q, X env ds Q → ds.length * (c2 + c3) ≤ T ∧ lcP mg mt m env ds [] Q) (hg : SG C vs g mg) (ht : ST C c2 tt mt) (he : SE C c3 te m) {G : Cfg} (c : C G.w G.x) {n : Nat} {O : Addr → Prop} {env : Ev} {σ : L2.St} {H : Hp} (Qd : List D → Prop) (Q : VK) (hL : n + (c1 + T) ≤ G.x.lim) (F : Fr G n O env σ H)
    (hi : ∀ (Qd' : List D → Prop) (R : It → Hp → Prop), am env Qd' → (∀ ds J H', Qd' ds → Grow G.w H H' → G.w.ok (n + c1) H' → WalksG G J O H' ds → R J H') → wi σ H R) (hm : am env fun ds => X (wipeE env vs) ds Qd)
    (k : ∀ ds a xs H', Qd ds → Grow G.w H H' → G.w.ok (n + (c1 + T)) H' → H a = none → H' a = some (.lst xs) → RpL (Sh (fun b => O b ∨ b = a) H') xs ds → Q (.ref a) H') : tLc wi g tt te vs σ H Q :=
  hi _ _ hm fun ds J H1 q0 gr ok wk => by
    obtain ⟨hT, q⟩ := hX _ ds _ q0
    have hle1 : ∀ i, i ≤ ds.length → i * (c2 + c3) ≤ T := fun i h => Nat.le_trans (Nat.mul_le_mul_right _ h) hT
    intro D hD
    have F1 := F.grow gr ok
    have nO : ¬ O D := F1.wl.free hD
    have le0 := add_le (G := G) (O := O) (o := HO.lst []) hD
    have gw : Grow G.w H1 (upd H1 D (.lst [])) := Grow.new _ hD
    have ok0 := Wd.okNew (o := HO.lst []) hD ok
    have nZ : ¬ G.w.Z D := fun z => nO (F.wl.zo D z)
    have n0 : G.H0 D = none := by
      cases q : G.H0 D with
      | none => rfl
      | some u => rw [F1.wl.base D u q nZ] at hD; cases hD
    have oD : OwnAt G (fun b => O b ∨ b = D) D := ⟨.inr rfl, nZ, n0⟩
    have W0 : Wl G (n + c1) (fun b => O b ∨ b = D) (upd H1 D (.lst [])) := ⟨ok0, fun b z => .inl (F.wl.zo b z), fun b z => .inl (F.wl.co b z), fun b z => by
      by_cases hb : b = D
      · rw [hb, upd_same]; exact ⟨_, rfl, fun _ q => nomatch q⟩
      · rw [upd_ne hb]; exact F1.wl.tr b (z.elim id fun y => absurd y hb), F1.wl.base.trans gw⟩
    have Fw : Fr G (n + c1) (fun b => O b ∨ b = D) (wipeE env vs) (L2.wipe σ vs) (upd H1 D (.lst [])) := by
      have F2 := F1.wipe vs
      exact ⟨W0, F2.len, fun j d e n => let ⟨u, h1, h2⟩ := F2.sl j d e n; ⟨u, h1, h2.le gw le0 fun _ z => .inl z⟩, F2.uq⟩
    refine ⟨fun i mm H' => mm = ds.length - i ∧ i ≤ ds.length ∧ ∃ acc xs, LeA (Sh O H1) (Sh (fun b => O b ∨ b = D) H') ∧ Grow G.w H1 H' ∧ Fr G (n + c1 + i * (c2 + c3)) (fun b => O b ∨ b = D) (wipeE env vs) (L2.wipe σ vs) H' ∧ H' D = some (.lst xs) ∧ RpL (Sh (fun b => O b ∨ b = D) H') xs acc ∧ lcP mg mt m (wipeE env vs) (ds.drop i) acc Qd, ⟨ds.length, by simp, Nat.zero_le _, [], [], le0, gw, by rw [Nat.zero_mul]; exact Fw, upd_same, .nil, q⟩, ?_⟩
    rintro i mm H' ⟨rfl, hle, acc, xs, l, gg, F', eD, rD, q'⟩
    by_cases hlt : i < ds.length
    · obtain ⟨go, yl⟩ := (wk _ _ H' l F'.wl gg i).1 hlt
      have hT1 := hle1 (i + 1) hlt
      rw [Nat.succ_mul] at hT1
      have en : n + c1 + i * (c2 + c3) + (c2 + c3) = n + c1 + (i + 1) * (c2 + c3) := by rw [Nat.succ_mul, ← Nat.add_assoc (n + c1)]
      refine .inr ⟨go, fun H2 => ∃ acc xs, LeA (Sh O H1) (Sh (fun b => O b ∨ b = D) H2) ∧ Grow G.w H1 H2 ∧ Fr G (n + c1 + (i + 1) * (c2 + c3)) (fun b => O b ∨ b = D) (wipeE env vs) (L2.wipe σ vs) H2 ∧ H2 D = some (.lst xs) ∧ RpL (Sh (fun b => O b ∨ b = D) H2) xs acc ∧ lcP mg mt m (wipeE env vs) (ds.drop (i + 1)) acc Qd, fun H2 h2 => ⟨ds.length - (i + 1), by omega, rfl, hlt, h2⟩, fun x H'' hy => ?_⟩
      obtain ⟨g2, ok2, d, hd, rd⟩ := yl x H'' hy
      have l2 := sh_grow F'.wl.zo g2
      have F2 := F'.grow g2 ok2
      refine hg G c _ _ _ _ H'' d x _ _ F2 rd (lc_at hd q') fun e1 s1 F3 w3 q3 => ?_
      refine ⟨w3.trans (by rw [wipe_wipe]), ?_⟩
      refine ht G c _ _ e1 s1 H'' _ _ (by omega) F3 q3 fun b H3 q4 g4 ok4 => ?_
      have F4 := F3.grow g4 ok4
      cases b with
      | true =>
        rw [if_pos rfl] at q4 ⊢
        refine he G c _ _ e1 s1 H3 _ _ (by omega) F4 q4 fun y u H4 q5 g5 ok5 r5 => ?_
        have g3 := g2.trans (g4.trans g5)
        have e4 := g3 _ _ eD nZ
        have r4 := rD.mono (sh_grow F'.wl.zo g3)
        refine ⟨xs, e4, by rw [r4.length]; exact q5.1, acc ++ [y], xs ++ [u], ?_, ?_, ?_, upd_same, ?_, q5.2⟩
        · exact (l.trans (sh_grow F'.wl.zo g3)).trans (own_le oD)
        · exact fun b o h z => by
            have ne : b ≠ D := ne_of_none h hD
            rw [upd_ne ne]; exact (gg.trans g3) b o h z
        · have F5 := F'.grow g3 ok5
          rw [Nat.add_assoc _ c2 c3, en] at F5 ok5
          have W5 : Wl G (n + c1 + (i + 1) * (c2 + c3)) (fun b => O b ∨ b = D) (upd H4 D (.lst (xs ++ [u]))) := ⟨st_upd nZ (fun φ z => by rw [e4] at z; cases z) ok5, F5.wl.zo, F5.wl.co, fun b z => by
            by_cases hb : b = D
            · rw [hb, upd_same]; exact ⟨_, rfl, fun _ q => nomatch q⟩
            · rw [upd_ne hb]; exact F5.wl.tr b z, fun b o h z => by rw [upd_ne (fun q => by rw [q, n0] at h; cases h)]; exact F5.wl.base b o h z⟩
          refine ⟨W5, F5.len, fun j d e n => ?_, F5.uq⟩
          obtain ⟨w, h1, h2⟩ := F5.sl j d e n
          refine ⟨w, h1, ?_⟩
          obtain ⟨w0, h10, h20⟩ := (F1.wipe vs).sl j d e n
          rw [h1] at h10; cases h10
          have le5 := own_le (G := G) (H := H4) (o := HO.lst (xs ++ [u])) oD
          have nd : ∀ a, w = .ref a → d.isOwn = true → a ≠ D := fun a ea od z => by
            subst ea
            exact h20.tracked od (by rw [z]; exact hD)
          cases h2 with
          | dat r => exact .dat (r.mono le5)
          | own eh o r => exact .own (by rw [upd_ne (nd _ rfl rfl)]; exact eh) o (r.mono le5)
          | owd eh o r => exact .owd (by rw [upd_ne (nd _ rfl rfl)]; exact eh) o (r.mono le5)
        · exact (r4.append (.cons r5 .nil)).mono (own_le oD)
      | false =>
        rw [if_neg Bool.false_ne_true] at q4 ⊢
        have g3 := g2.trans g4
        exact ⟨acc, xs, l.trans (sh_grow F'.wl.zo g3), gg.trans g3, (by rw [← en]; exact F'.grow g3 (ok_le (by omega) ok4)), g3 _ _ eD nZ, rD.mono (sh_grow F'.wl.zo g3), q4⟩
    · have ei : i = ds.length := by omega
      have hT1 := hle1 i hle
      refine .inl ⟨(wk _ _ H' l F'.wl gg i).2 (by omega), ?_⟩
      rw [ei, List.drop_length] at q'
      exact k acc D xs H' q' (gr.trans gg) (by have := F'.wl.ok; rw [Nat.add_assoc] at this; exact ok_le (by omega) this) (gr.free ok hD) eD rD
theorem sl_lcG {T : Nat} {X : Ev → List D → (List D → Prop) → Prop} (hX : ∀ env ds Q, X env ds Q → ds.length * (c2 + c3) ≤ T ∧ lcP mg mt m env ds [] Q) (hi : SI C c1 wi am) (hg : SG C vs g mg) (ht : ST C c2 tt mt) (he : SE C c3 te m) : SL C (c1 + T) (tLc wi g tt te vs) (fun env Q => am env fun ds => X (wipeE env vs) ds Q) := fun G c n O env σ H Qd Q hL F hm k =>
  lc_run hX hg ht he c Qd Q hL F (fun Qd' R h k' => hi G c n O env σ H Qd' R (by omega) F h fun ds J H' q g ok w => k' ds J H' q g ok (walks_g w)) hm k
theorem sl_lc (hi : SI C c1 wi am) (hg : SG C vs g mg) (ht : ST C 0 tt mt) (he : SE C 0 te m) : SL C c1 (tLc wi g tt te vs) (mLc am mg mt m vs) := sl_lcG (T := 0) (X := fun env ds Q => lcP mg mt m env ds [] Q) (fun _ _ _ h => ⟨by simp, h⟩) hi hg ht he
/-- .. over an own list, which stays own -/
def mLcO (i : Nat) (g : GM) (t : TM) (m : EM) (vs : List Nat) : AM := fun env Q => match env[i]? with
  | some (.own ds) => lcP g t m (wipeE env vs) ds [] Q
  | _ => False
theorem sl_lcOwn {i : Nat} (hg : SG C vs g mg) (ht : ST C 0 tt mt) (he : SE C 0 te m) : SL C 0 (tLc (iList K (tVar i)) g tt te vs) (mLcO i mg mt m vs) := fun G c n O env σ H Qd Q hL F hm k => by
  unfold mLcO at hm
  split at hm
  · rename_i ds ei
    obtain ⟨v, es, s⟩ := F.sl i _ ei (by intro z; cases z)
    cases s with
    | @own a xs _ eh oa r =>
      refine lc_run (C := C) (c1 := 0) (c2 := 0) (c3 := 0) (T := 0) (am := fun env Q => Q ds) (X := fun env ds Q => lcP mg mt m env ds [] Q) (fun _ _ _ h => ⟨by simp, h⟩) hg ht he c Qd _ hL F (fun Qd' R h k' => ?_) hm k
      refine ⟨_, es, a, rfl, ⟨xs, sqL eh⟩, k' _ _ _ h (Grow.refl _ _) F.wl.ok fun n' O' H' l W gg j => ?_⟩
      have e' := gg _ _ eh oa.z
      have r' := r.mono l
      refine ⟨fun hi => ?_, fun hi => ⟨xs, sqL e', by rw [r.length]; exact hi⟩⟩
      obtain ⟨v, hv, rv⟩ := r'.get (List.getElem?_eq_getElem hi)
      refine ⟨⟨xs, v, sqL e', hv⟩, fun x H'' ⟨eH, hx⟩ => ?_⟩
      subst eH
      have := hx xs (sqL e')
      rw [hv] at this; cases this
      exact ⟨Grow.refl _ _, W.ok, _, List.getElem?_eq_getElem hi, rv⟩
  · exact hm.elim
/-- .. over at most L things, which may draw -/
def mLcL (L : Nat) (a : AM) (g : GM) (t : TM) (m : EM) (vs : List Nat) : AM := fun env Q => a env fun ds => ds.length ≤ L ∧ lcP g t m (wipeE env vs) ds [] Q
theorem sl_lcL (L : Nat) (hi : SI C c1 wi am) (hg : SG C vs g mg) (ht : ST C c2 tt mt) (he : SE C c3 te m) : SL C (c1 + L * (c2 + c3)) (tLc wi g tt te vs) (mLcL L am mg mt m vs) := sl_lcG (X := fun env ds Q => ds.length ≤ L ∧ lcP mg mt m env ds [] Q) (fun _ _ _ h => ⟨Nat.mul_le_mul_right _ h.1, h.2⟩) hi hg ht he
end
end PL

namespace PL
open PySem L2
/-! ### data compared -/
mutual
def toPy : D → PyData
  | .non => .none
  | .bl b => .bool b
  | .int i => .int i
  | .str s => .str s
  | .tup l => .tuple (toPyL l)
  | .lst l => .list (toPyL l)
  | .dic _ => .none
  | .opq _ => .none
  | .ftp _ => .none
  | .exc _ _ _ => .none
  | .lam _ _ => .none
  | .ins _ _ _ => .none
def toPyL : List D → List PyData
  | [] => []
  | d :: r => toPy d :: toPyL r
end
/-! plain: no truth values, no dicts, depth at most n -/
mutual
def D.pl : Nat → D → Bool
  | _, .non => true
  | _, .bl _ => false
  | _, .int _ => true
  | _, .str s => PyData.canLay0 (.str s)
  | 0, .tup _ => false
  | n + 1, .tup l => D.plL n l
  | 0, .lst _ => false
  | n + 1, .lst l => D.plL n l
  | _, .dic _ => false
  | _, .opq _ => false
  | _, .ftp _ => false
  | _, .exc _ _ _ => false
  | _, .lam _ _ => false
  | _, .ins _ _ _ => false
def D.plL : Nat → List D → Bool
  | _, [] => true
  | n, d :: r => D.pl n d && D.plL n r
end
mutual
theorem pl_shaped : ∀ (n : Nat) (d : D), d.pl n = true → (toPy d).canLay0 = true ∧ (toPy d).depth ≤ n
  | n, .non, _ => ⟨rfl, by simp [toPy, PyData.depth]⟩
  | n, .bl b, h => by simp [D.pl] at h
  | n, .int i, _ => ⟨rfl, by simp [toPy, PyData.depth]⟩
  | n, .str s, h => ⟨by simpa [D.pl, toPy] using h, by simp [toPy, PyData.depth]⟩
  | 0, .tup l, h => by simp [D.pl] at h
  | n + 1, .tup l, h => by
    have := pl_shapedL n l (by simpa [D.pl] using h)
    exact ⟨by simpa [toPy, PyData.canLay0] using this.1, by simp only [toPy, PyData.depth]; omega⟩
  | 0, .lst l, h => by simp [D.pl] at h
  | n + 1, .lst l, h => by
    have := pl_shapedL n l (by simpa [D.pl] using h)
    exact ⟨by simpa [toPy, PyData.canLay0] using this.1, by simp only [toPy, PyData.depth]; omega⟩
  | n, .dic l, h => by simp [D.pl] at h
  | n, .opq l, h => by simp [D.pl] at h
  | n, .ftp l, h => by simp [D.pl] at h
  | n, .exc _ _ _, h => by simp [D.pl] at h
  | n, .lam _ _, h => by simp [D.pl] at h
  | n, .ins _ _ _, h => by simp [D.pl] at h
theorem pl_shapedL : ∀ (n : Nat) (l : List D), D.plL n l = true → PyData.canLayAll0 (toPyL l) = true ∧ PyData.depthAll (toPyL l) ≤ n
  | n, [], _ => ⟨rfl, by simp [toPyL, PyData.depthAll]⟩
  | n, d :: r, h => by
    have h' : d.pl n = true ∧ D.plL n r = true := by simpa [D.plL] using h
    have a := pl_shaped n d h'.1
    have b := pl_shapedL n r h'.2
    exact ⟨by simp only [toPyL, PyData.canLayAll0, a.1, b.1, Bool.and_self], by simp only [toPyL, PyData.depthAll]; omega⟩
end
mutual
theorem eqv_pl : ∀ (n m : Nat) (d e : D), d.pl n = true → e.pl m = true → (PyData.eqv (toPy d) (toPy e) = true ↔ d = e)
  | n, m, .non, e, h, h' => by cases e <;> simp [toPy, PyData.eqv, D.pl] at h h' ⊢
  | n, m, .bl b, e, h, h' => by simp [D.pl] at h
  | n, m, .int i, e, h, h' => by cases e <;> simp [toPy, PyData.eqv, D.pl] at h h' ⊢
  | n, m, .str s, e, h, h' => by cases e <;> simp [toPy, PyData.eqv, D.pl] at h h' ⊢
  | 0, m, .tup l, e, h, h' => by simp [D.pl] at h
  | n + 1, m, .tup l, e, h, h' => by
    cases e with
    | tup r =>
      cases m with
      | zero => simp [D.pl] at h'
      | succ m =>
        have := eqv_plL n m l r (by simpa [D.pl] using h) (by simpa [D.pl] using h')
        simp only [toPy, PyData.eqv, this, D.tup.injEq]
    | _ => simp [toPy, PyData.eqv, D.pl] at h h' ⊢
  | 0, m, .lst l, e, h, h' => by simp [D.pl] at h
  | n + 1, m, .lst l, e, h, h' => by
    cases e with
    | lst r =>
      cases m with
      | zero => simp [D.pl] at h'
      | succ m =>
        have := eqv_plL n m l r (by simpa [D.pl] using h) (by simpa [D.pl] using h')
        simp only [toPy, PyData.eqv, this, D.lst.injEq]
    | _ => simp [toPy, PyData.eqv, D.pl] at h h' ⊢
  | n, m, .dic l, e, h, h' => by simp [D.pl] at h
  | n, m, .opq l, e, h, h' => by simp [D.pl] at h
  | n, m, .ftp l, e, h, h' => by simp [D.pl] at h
  | n, m, .exc _ _ _, e, h, h' => by simp [D.pl] at h
  | n, m, .lam _ _, e, h, h' => by simp [D.pl] at h
  | n, m, .ins _ _ _, e, h, h' => by simp [D.pl] at h
theorem eqv_plL : ∀ (n m : Nat) (l r : List D), D.plL n l = true → D.plL m r = true → (PyData.eqvAll (toPyL l) (toPyL r) = true ↔ l = r)
  | n, m, [], [], _, _ => by simp [toPyL, PyData.eqvAll]
  | n, m, [], e :: r, _, _ => by simp [toPyL, PyData.eqvAll]
  | n, m, d :: l, [], _, _ => by simp [toPyL, PyData.eqvAll]
  | n, m, d :: l, e :: r, h, h' => by
    have h1 : d.pl n = true ∧ D.plL n l = true := by simpa [D.plL] using h
    have h2 : e.pl m = true ∧ D.plL m r = true := by simpa [D.plL] using h'
    have a := eqv_pl n m d e h1.1 h2.1
    have b := eqv_plL n m l r h1.2 h2.2
    simp only [toPyL, PyData.eqvAll, Bool.and_eq_true, a, b, List.cons.injEq]
end
mutual
theorem Rp.dp {K : PySem.W.Frag} {A : At} {H : Hp} (hA : ∀ a o, A a o → Rk H a o) : ∀ {v : V} {d : D} (n : Nat), d.pl n = true → Rp A v d → Dp K H v (toPy d)
  | _, _, _, _, .non => .non
  | _, _, _, _, .bl b => .bl b
  | _, _, _, _, .int i => .int i
  | _, _, _, _, .str s => .str s
  | _, .opq _, n, h, _ => by simp [D.pl] at h
  | _, _, 0, h, .tup e r => by simp [D.pl] at h
  | _, _, n + 1, h, .tup e r => .tup (.inl (rk_tup (hA _ _ e))) (RpL.dp hA n (by simpa [D.pl] using h) r)
  | _, _, 0, h, .lst e r => by simp [D.pl] at h
  | _, _, n + 1, h, .lst e r => .lst (.inl (.inl (rk_lst (hA _ _ e)))) (RpL.dp hA n (by simpa [D.pl] using h) r)
  | _, _, n, h, .dic e r => by simp [D.pl] at h
  | _, _, n, h, .ftp e d r => by simp [D.pl] at h
  | _, _, n, h, .exc0 e => by simp [D.pl] at h
  | _, _, n, h, .exc1 e d l r => by simp [D.pl] at h
  | _, _, n, h, .lam e u => by simp [D.pl] at h
  | _, _, n, h, .ins e l r => by simp [D.pl] at h
theorem RpL.dp {K : PySem.W.Frag} {A : At} {H : Hp} (hA : ∀ a o, A a o → Rk H a o) : ∀ {v : List V} {d : List D} (n : Nat), D.plL n d = true → RpL A v d → DpAll K H v (toPyL d)
  | _, _, _, _, .nil => .nil
  | _, _, n, h, .cons a r => by
    simp only [D.plL, Bool.and_eq_true] at h
    exact .cons (Rp.dp hA n h.1 a) (RpL.dp hA n h.2 r)
end
theorem Rr.dp {K : PySem.W.Frag} {G : Cfg} {O : Addr → Prop} {H : Hp} {v : V} {d : D} {n : Nat} (h : d.pl n = true) (r : Rr G O H v d) : Dp K H v (toPy d) := by
  cases r with
  | dat r => exact r.dp (fun _ _ z => z.1) n h
  | own e z r =>
    cases n with
    | zero => simp [D.pl] at h
    | succ n => exact .lst (.inl (.inl e)) (r.dp (fun _ _ z => z.1) n (by simpa [D.pl] using h))
  | owd e z r => simp [D.pl] at h
section
variable {C : Wd → XC → Prop} {K : PySem.W.Frag} {te ta tb tc tk ti to : TE} {tt tu : TT} {t tr : TA} {m ma mb mc mk mi : EM} {mt mu : TM} {mx my : XM} {am ar : AM} {i j c c1 c2 c3 : Nat} {ts tz : TS} {sm sz : SM}
/-- == of plain data: the answer is whether they are one -/
def kEqD (p : Bool → Bool) : D → D → (D → Prop) → Prop := fun x y Q => x.pl 60 = true ∧ y.pl 60 = true ∧ (x = y → Q (.bl (p true))) ∧ (x ≠ y → Q (.bl (p false)))
theorem shaped_pl {d : D} (h : d.pl 60 = true) : SeqAt.shaped (toPy d) = true := by
  have := pl_shaped 60 d h
  show ((toPy d).canLay0 && decide ((toPy d).depth ≤ 64)) = true
  rw [this.1, Bool.true_and]
  exact decide_eq_true (by omega)
theorem k2_eqD : K2 C (rEqD K) (kEqD id) := fun G _ n O H x y d e Qd Q W rx ry ⟨h1, h2, h3, h4⟩ q => by
  refine ⟨_, _, rx.dp h1, ry.dp h2, shaped_pl h1, shaped_pl h2, ?_⟩
  by_cases e' : d = e
  · rw [(eqv_pl 60 60 d e h1 h2).mpr e']
    exact q _ _ H (h3 e') (Grow.refl _ _) W.ok (.bl true)
  · have : PyData.eqv (toPy d) (toPy e) = false := by
      cases q : PyData.eqv (toPy d) (toPy e) with
      | false => rfl
      | true => exact absurd ((eqv_pl 60 60 d e h1 h2).mp q) e'
    rw [this]
    exact q _ _ H (h4 e') (Grow.refl _ _) W.ok (.bl false)
theorem k2_neD : K2 C (rNeD K) (kEqD not) := fun G _ n O H x y d e Qd Q W rx ry ⟨h1, h2, h3, h4⟩ q => by
  refine ⟨_, _, rx.dp h1, ry.dp h2, shaped_pl h1, shaped_pl h2, ?_⟩
  by_cases e' : d = e
  · rw [(eqv_pl 60 60 d e h1 h2).mpr e']
    exact q _ _ H (h3 e') (Grow.refl _ _) W.ok (.bl false)
  · have : PyData.eqv (toPy d) (toPy e) = false := by
      cases q : PyData.eqv (toPy d) (toPy e) with
      | false => rfl
      | true => exact absurd ((eqv_pl 60 60 d e h1 h2).mp q) e'
    rw [this]
    exact q _ _ H (h4 e') (Grow.refl _ _) W.ok (.bl true)
/-! ### in, not in, index: ints -/
def kInI (p : Bool → Bool) : D → D → (D → Prop) → Prop := fun x y Q => ∃ (i : Int) (ns : List Int), x = .int i ∧ (y = .lst (ns.map D.int) ∨ y = .tup (ns.map D.int)) ∧ Q (.bl (p (decide (i ∈ ns))))
theorem flat_ints (ns : List Int) : (ns.map V.int).all flatV = true := by induction ns with | nil => rfl | cons n ns ih => simp [flatV, ih]
theorem inV_ints (i : Int) (ns : List Int) : inV (.int i) (ns.map V.int) = decide (i ∈ ns) := by
  unfold inV
  rw [List.any_map]
  induction ns with
  | nil => rfl
  | cons n ns ih =>
    rw [List.any_cons, ih]
    simp only [Function.comp, eqV, List.mem_cons, Bool.decide_or]
    congr 1
    by_cases h : n = i
    · subst h; simp
    · rw [beq_eq_false_iff_ne.mpr h, decide_eq_false fun z => h z.symm]
theorem k2_in : K2 C (rIn K false) (kInI id) := fun G _ n O H x y d e Qd Q W rx ry ⟨i, ns, e1, e2, h⟩ q => by
  subst e1
  cases rx.int
  have fin := q _ _ H h (Grow.refl _ _) W.ok (.bl _)
  rcases e2 with e2 | e2
  · subst e2
    obtain ⟨a, xs, rfl, e, r⟩ := ry.list
    rw [r.ints] at e
    exact ⟨a, _, rfl, .inl (sqL e), rfl, flat_ints ns, by rw [inV_ints]; exact fin⟩
  · subst e2
    obtain ⟨a, xs, rfl, e, r⟩ := ry.tuple
    rw [r.ints] at e
    exact ⟨a, _, rfl, .inr (sqT e), rfl, flat_ints ns, by rw [inV_ints]; exact fin⟩
theorem k2_notIn : K2 C (rIn K true) (kInI not) := fun G _ n O H x y d e Qd Q W rx ry ⟨i, ns, e1, e2, h⟩ q => by
  subst e1
  cases rx.int
  have fin := q _ _ H h (Grow.refl _ _) W.ok (.bl _)
  rcases e2 with e2 | e2
  · subst e2
    obtain ⟨a, xs, rfl, e, r⟩ := ry.list
    rw [r.ints] at e
    exact ⟨a, _, rfl, .inl (sqL e), rfl, flat_ints ns, by rw [inV_ints]; exact fin⟩
  · subst e2
    obtain ⟨a, xs, rfl, e, r⟩ := ry.tuple
    rw [r.ints] at e
    exact ⟨a, _, rfl, .inr (sqT e), rfl, flat_ints ns, by rw [inV_ints]; exact fin⟩
theorem idx_take (i : Int) : ∀ ns : List Int, ¬ i ∈ ns.take (ns.idxOf i)
  | [] => by simp
  | n :: ns => by
    rw [List.idxOf_cons]
    by_cases h : n = i
    · subst h; simp
    · rw [beq_eq_false_iff_ne.mpr h]
      simp only [cond_false, List.take_succ_cons, List.mem_cons, not_or]
      exact ⟨fun z => h z.symm, idx_take i ns⟩
/-- a method of a list that is read -/
def KM (C : Wd → XC → Prop) (r : V → List V → Hp → VK → Prop) (k : D → List D → (D → Prop) → Prop) : Prop := ∀ G, C G.w G.x → ∀ n O H x vs d ds (Qd : D → Prop) (Q : VK), Wl G n O H → Rr G O H x d → RpL (Sh O H) vs ds → k d ds Qd →
  (∀ z v H', Qd z → Grow G.w H H' → G.w.ok n H' → Rp (Sh O H') v z → Q v H') → r x vs H Q
def mBM (mo : EM) (a : AM) (k : D → List D → (D → Prop) → Prop) : EM := fun env Q => mo env fun x => (match x with | .lst _ => True | _ => False) ∧ a env fun ds => k x ds Q
theorem se_bm {r : V → List V → Hp → VK → Prop} {k : D → List D → (D → Prop) → Prop} (ho : SR C c1 to m) (ha : SA C c2 t am) (hk : KM C r k) : SE C (c1 + c2) (tBM K "list" r to t) (mBM m am k) := fun G c n O env σ H Qd Q hL F hm q =>
  ho G c n O env σ H _ _ (by omega) F hm fun d x H1 ⟨hl, h1⟩ g1 ok1 r1 => by
    split at hl
    · obtain ⟨a, xs, ex, e, _⟩ := r1.list
      have ty : tyV K "list" x H1 := by subst ex; exact .inl ⟨rfl, xs, sqL e⟩
      exact ⟨ty, ha G c _ O env σ H1 _ _ (by omega) (F.grow g1 ok1) h1 fun ds vs H2 h2 g2 ok2 r2 => hk G c _ O H2 _ vs _ ds Qd Q ((F.wl.grow g1 ok1).grow g2 ok2) (r1.grow (F.wl.grow g1 ok1) g2) r2 h2 fun z w H3 h3 g3 ok3 r3 => q z w H3 h3 (g1.trans (g2.trans g3)) (by rw [← Nat.add_assoc]; exact ok3) r3⟩
    · exact hl.elim
def kIndexI : D → List D → (D → Prop) → Prop := fun x ds Q => ∃ (i : Int) (ns : List Int), x = .lst (ns.map D.int) ∧ ds = [.int i] ∧ i ∈ ns ∧ Q (.int (ns.idxOf i))
theorem km_index : KM C (rIndex K) kIndexI := fun G _ n O H x vs d ds Qd Q W rx rv ⟨i, ns, e1, e2, hi, h⟩ q => by
  subst e1; subst e2
  obtain ⟨a, xs, rfl, e, r⟩ := rx.list
  rw [r.ints] at e
  cases rv with
  | cons r1 r2 =>
    cases r1; cases r2
    have hlt : ns.idxOf i < ns.length := List.idxOf_lt_length_iff.mpr hi
    refine ⟨a, _, .int i, ns.idxOf i, .int i, rfl, rfl, sqL e, rfl, flat_ints ns, ?_, by simp [eqV], fun k z hk hz => ?_, q _ _ H h (Grow.refl _ _) W.ok (.int _)⟩
    · rw [List.getElem?_map, List.getElem?_eq_getElem hlt, List.getElem_idxOf hlt]; rfl
    · rw [List.getElem?_map] at hz
      have hkl : k < ns.length := by omega
      rw [List.getElem?_eq_getElem hkl] at hz
      cases hz
      have : ¬ ns[k] = i := fun z => by
        have hm : i ∈ ns.take (ns.idxOf i) := by
          rw [List.mem_take_iff_getElem]
          exact ⟨k, by omega, z⟩
        exact idx_take i ns hm
      simpa [eqV] using this
end
end PL

namespace PL
open PySem L2
section
variable {C : Wd → XC → Prop} {K : PySem.W.Frag} {te ta tb tc tk ti to : TE} {tt tu : TT} {t tr : TA} {m ma mb mc mk mi : EM} {mt mu : TM} {mx my : XM} {am ar : AM} {i j c c1 c2 c3 : Nat} {ts tz : TS} {sm sz : SM}
/-! ### lists and tuples put together -/
def KL2 (C : Wd → XC → Prop) (r : R2) (k : D → D → (List D → Prop) → Prop) : Prop := ∀ G, C G.w G.x → ∀ n O H x y d e (Qd : List D → Prop) (Q : VK), Wl G n O H → Rr G O H x d → Rr G O H y e → k d e Qd →
  (∀ z a xs H', Qd z → Grow G.w H H' → G.w.ok n H' → H a = none → H' a = some (.lst xs) → RpL (Sh (fun b => O b ∨ b = a) H') xs z → Q (.ref a) H') → r x y H Q
def ml2 (ma mb : EM) (k : D → D → (List D → Prop) → Prop) : AM := fun env Q => ma env fun x => mb env fun y => k x y Q
theorem sl_op {r : R2} {k : D → D → (List D → Prop) → Prop} (ha : SR C c1 ta ma) (hb : SR C c2 tb mb) (hk : KL2 C r k) : SL C (c1 + c2) (tOp r ta tb) (ml2 ma mb k) := fun G c n O env σ H Qd Q hL F hm q =>
  ha G c n O env σ H _ _ (by omega) F hm fun x v H1 h1 g1 ok1 r1 => hb G c _ O env σ H1 _ _ (by omega) (F.grow g1 ok1) h1 fun y u H2 h2 g2 ok2 r2 =>
    hk G c _ O H2 v u x y Qd Q ((F.wl.grow g1 ok1).grow g2 ok2) (r1.grow (F.wl.grow g1 ok1) g2) r2 h2 fun z a xs H3 h3 g3 ok3 n e r3 => q z a xs H3 h3 (g1.trans (g2.trans g3)) (by rw [← Nat.add_assoc]; exact ok3) (g1.free ok1 (g2.free ok2 n)) e r3
def kCatL : D → D → (List D → Prop) → Prop := fun x y Q => match x, y with | .lst a, .lst b => a.length + b.length ≤ sizeLine ∧ Q (a ++ b) | _, _ => False
theorem kl_cat : KL2 C rCat kCatL := fun G _ n O H x y d e Qd Q W rx ry hk q => by
  unfold kCatL at hk
  split at hk
  · obtain ⟨a, xs, rfl, e1, r1⟩ := rx.list
    obtain ⟨b, ys, rfl, e2, r2⟩ := ry.list
    exact ⟨a, b, xs, ys, rfl, rfl, e1, e2, by rw [r1.length, r2.length]; exact hk.1, fun p hp => q _ p _ _ hk.2 (Grow.new _ hp) (Wd.okNew hp W.ok) hp upd_same ((r1.append r2).mono (add_le (G := G) hp))⟩
  · exact hk.elim
theorem RpL.flat {A : At} {xs : List V} {ds : List D} (r : RpL A xs ds) : ∀ n : Nat, RpL A (List.replicate n xs).flatten (List.replicate n ds).flatten
  | 0 => .nil
  | n + 1 => by
    rw [List.replicate_succ, List.replicate_succ, List.flatten_cons, List.flatten_cons]
    exact r.append (RpL.flat r n)
def kRepL : D → D → (List D → Prop) → Prop := fun x y Q => match x, y with | .lst a, .int k => (-(2 ^ 63) ≤ k ∧ k < 2 ^ 63 ∧ a.length * k.toNat ≤ sizeLine) ∧ Q (List.replicate k.toNat a).flatten | _, _ => False
theorem kl_rep : KL2 C rRep kRepL := fun G _ n O H x y d e Qd Q W rx ry hk q => by
  unfold kRepL at hk
  split at hk
  · obtain ⟨a, xs, rfl, e1, r1⟩ := rx.list
    cases ry.int
    obtain ⟨⟨h1, h2, h3⟩, hq⟩ := hk
    exact ⟨a, _, xs, rfl, rfl, e1, h1, h2, by rw [r1.length]; exact h3, fun p hp => q _ p _ _ hq (Grow.new _ hp) (Wd.okNew hp W.ok) hp upd_same ((r1.flat _).mono (add_le (G := G) hp))⟩
  · exact hk.elim
def kCatT : D → D → (D → Prop) → Prop := fun x y Q => match x, y with | .tup a, .tup b => a.length + b.length ≤ sizeLine ∧ Q (.tup (a ++ b)) | _, _ => False
theorem Rr.tup' {G : Cfg} {O : Addr → Prop} {H : Hp} {v : V} {ds : List D} (r : Rr G O H v (.tup ds)) : Rp (Sh O H) v (.tup ds) := by
  cases r with | dat r => exact r
theorem k2_catT : K2 C (rCatA K) kCatT := fun G _ n O H x y d e Qd Q W rx ry hk q => by
  unfold kCatT at hk
  split at hk
  · rename_i a b
    have qx := rx.tup'
    have qy := ry.tup'
    obtain ⟨p1, xs, rfl, e1, r1⟩ := rx.tuple
    obtain ⟨p2, ys, rfl, e2, r2⟩ := ry.tuple
    refine ⟨p1, p2, xs, ys, rfl, rfl, sqT e1, sqT e2, by rw [r1.length, r2.length]; exact hk.1, fun z => ?_, fun _ z => ?_, fun _ _ p hp => q _ _ _ hk.2 (Grow.new _ hp) (Wd.okNew hp W.ok) (new_tup W hp (r1.append r2))⟩
    · subst z
      cases r1
      exact q _ _ H hk.2 (Grow.refl _ _) W.ok qy
    · subst z
      cases r2
      have := hk.2
      rw [List.append_nil] at this
      exact q _ _ H this (Grow.refl _ _) W.ok qx
  · exact hk.elim
/-! ### slices -/
def SO (C : Wd → XC → Prop) (c : Nat) (t : TO) (m : Ev → (Option Int → Prop) → Prop) : Prop := ∀ G, C G.w G.x → ∀ n O env σ H (Qd : Option Int → Prop) (Q : Option Int → Hp → Prop), n + c ≤ G.x.lim → Fr G n O env σ H → m env Qd → (∀ b H', Qd b → Grow G.w H H' → G.w.ok (n + c) H' → Q b H') → t σ H Q
def oNone : Ev → (Option Int → Prop) → Prop := fun _ Q => Q none
def oSome (m : EM) : Ev → (Option Int → Prop) → Prop := fun env Q => m env fun d => match d with | .int i => Q (some i) | _ => False
theorem so_none : SO C 0 tNoPart oNone := fun G _ n O env σ H Qd Q hL F hm k => k none H hm (Grow.refl _ _) F.wl.ok
theorem so_some (h : SE C c te m) : SO C c (tPart te) (oSome m) := fun G c n O env σ H Qd Q hL F hm k =>
  h G c n O env σ H _ _ hL F hm fun d v H1 h1 g1 ok1 r1 => by
    split at h1
    · cases r1; exact ⟨_, rfl, k _ H1 h1 g1 ok1⟩
    · exact h1.elim
/-- the items of xs[lo:hi] -/
def cutD (ds : List D) (lo hi : Option Int) : List D := (ds.drop (HT.sIx ds.length 0 lo)).take (HT.sIx ds.length ds.length hi - HT.sIx ds.length 0 lo)
theorem RpL.cut {A : At} {xs : List V} {ds : List D} (r : RpL A xs ds) (lo hi : Option Int) : RpL A (cutV xs lo hi) (cutD ds lo hi) := by
  unfold cutV cutD
  rw [r.length]
  exact (r.drop _).take _
variable {tl th : TO} {ol oh : Ev → (Option Int → Prop) → Prop}
def mSlL (m : EM) (l h : Ev → (Option Int → Prop) → Prop) : AM := fun env Q => m env fun x => l env fun a => h env fun b => match x with | .lst ds => Q (cutD ds a b) | _ => False
theorem sl_slL (h : SR C c1 te m) (h1 : SO C c2 tl ol) (h2 : SO C c3 th oh) : SL C (c1 + (c2 + c3)) (tSl (rSlL K) te tl th) (mSlL m ol oh) := fun G c n O env σ H Qd Q hL F hm q =>
  h G c n O env σ H _ _ (by omega) F hm fun x v H1 q1 g1 ok1 r1 => h1 G c _ O env σ H1 _ _ (by omega) (F.grow g1 ok1) q1 fun a H2 q2 g2 ok2 => h2 G c _ O env σ H2 _ _ (by omega) ((F.grow g1 ok1).grow g2 ok2) q2 fun b H3 q3 g3 ok3 => by
    rw [Nat.add_assoc, Nat.add_assoc, ← Nat.add_assoc c1, Nat.add_assoc c1] at ok3
    split at q3
    · obtain ⟨p, xs, rfl, e, r⟩ := ((r1.grow (F.wl.grow g1 ok1) g2).grow ((F.wl.grow g1 ok1).grow g2 ok2) g3).list
      exact ⟨p, xs, rfl, sqL e, fun u hu => q _ u _ _ q3 ((g1.trans (g2.trans g3)).trans (Grow.new _ hu)) (Wd.okNew hu ok3) (g1.free ok1 (g2.free ok2 (g3.free ok3 hu))) upd_same ((r.cut _ _).mono (add_le (G := G) hu))⟩
    · exact q3.elim
def mSlT (m : EM) (l h : Ev → (Option Int → Prop) → Prop) : EM := fun env Q => m env fun x => l env fun a => h env fun b => match x with | .tup ds => Q (.tup (cutD ds a b)) | _ => False
theorem cut_whole {ds : List D} {lo hi : Option Int} (h : HT.sIx ds.length 0 lo = 0 ∧ HT.sIx ds.length ds.length hi = ds.length) : cutD ds lo hi = ds := by
  unfold cutD
  rw [h.1, h.2, List.drop_zero, Nat.sub_zero, List.take_length]
theorem se_slT (h : SR C c1 te m) (h1 : SO C c2 tl ol) (h2 : SO C c3 th oh) : SE C (c1 + (c2 + c3)) (tSl (rSlA K) te tl th) (mSlT m ol oh) := fun G c n O env σ H Qd Q hL F hm q =>
  h G c n O env σ H _ _ (by omega) F hm fun x v H1 q1 g1 ok1 r1 => h1 G c _ O env σ H1 _ _ (by omega) (F.grow g1 ok1) q1 fun a H2 q2 g2 ok2 => h2 G c _ O env σ H2 _ _ (by omega) ((F.grow g1 ok1).grow g2 ok2) q2 fun b H3 q3 g3 ok3 => by
    have W3 := ((F.wl.grow g1 ok1).grow g2 ok2).grow g3 ok3
    rw [Nat.add_assoc, Nat.add_assoc, ← Nat.add_assoc c1, Nat.add_assoc c1] at ok3
    split at q3
    · have rr := (r1.grow (F.wl.grow g1 ok1) g2).grow ((F.wl.grow g1 ok1).grow g2 ok2) g3
      have qx := rr.tup'
      obtain ⟨p, xs, rfl, e, r⟩ := rr.tuple
      have gg := g1.trans (g2.trans g3)
      refine ⟨p, xs, rfl, sqT e, fun z => ?_, fun _ u hu => q _ _ _ q3 (gg.trans (Grow.new _ hu)) (Wd.okNew hu ok3) (new_tup W3 hu (r.cut _ _))⟩
      rw [r.length] at z
      rw [cut_whole z] at q3
      exact q _ _ H3 q3 gg ok3 qx
    · exact q3.elim
/-! ### one-place operators, calls of numbers, chains -/
def mNeg (m : EM) : EM := fun env Q => m env fun d => match d with | .int i => Q (.int (-i)) | _ => False
theorem se_neg (h : SE C c te m) : SE C c (tUn (rU fun i => .int (-i)) te) (mNeg m) := fun G c n O env σ H Qd Q hL F hm k =>
  h G c n O env σ H _ _ hL F hm fun d v H1 h1 g1 ok1 r1 => by
    split at h1
    · cases r1; exact ⟨_, rfl, k _ _ H1 h1 g1 ok1 (.int _)⟩
    · exact h1.elim
def kInt1 : List D → (D → Prop) → Prop := fun ds Q => match ds with | [.int i] => Q (.int i) | _ => False
theorem kc_int1 : KC C (fun xs H Q => (∃ i, xs = [.int i] ∧ Q (.int i) H) ∨ ∃ k, xs = [.bl k] ∧ Q (.int (if k then 1 else 0)) H) kInt1 := fun G _ n O H vs ds Qd Q W r h q => by
  unfold kInt1 at h
  split at h
  · obtain ⟨v, rfl, r1⟩ := r.one
    cases r1.int
    exact .inl ⟨_, rfl, q _ _ H h (Grow.refl _ _) W.ok (.int _)⟩
  · exact h.elim
def kAbs : List D → (D → Prop) → Prop := fun ds Q => match ds with | [.int i] => Q (.int (if i < 0 then -i else i)) | _ => False
theorem kc_abs : KC C (fun xs H Q => ∃ i, xs = [.int i] ∧ Q (.int (if i < 0 then -i else i)) H) kAbs := fun G _ n O H vs ds Qd Q W r h q => by
  unfold kAbs at h
  split at h
  · obtain ⟨v, rfl, r1⟩ := r.one
    cases r1.int
    exact ⟨_, rfl, q _ _ H h (Grow.refl _ _) W.ok (.int _)⟩
  · exact h.elim
/-- a op b op c, each answer a truth value by ints -/
def mChain (ma mb mc : EM) (p q : Int → Int → Bool) : EM := fun env Q => ma env fun x => mb env fun y => match x, y with
  | .int a, .int b => if p a b = true then mc env fun z => (match z with | .int c => Q (.bl (q b c)) | _ => False) else Q (.bl false)
  | _, _ => False
theorem se_chain {p q : Int → Int → Bool} (ha : SE C c1 ta ma) (hb : SE C c2 tb mb) (hc : SE C c3 tc mc) : SE C (c1 + (c2 + c3)) (tChain (rI0 fun i j => .bl (p i j)) (rI0 fun i j => .bl (q i j)) ta tb tc) (mChain ma mb mc p q) := fun G c n O env σ H Qd Q hL F hm k =>
  ha G c n O env σ H _ _ (by omega) F hm fun x v H1 h1 g1 ok1 r1 => hb G c _ O env σ H1 _ _ (by omega) (F.grow g1 ok1) h1 fun y u H2 h2 g2 ok2 r2 => by
    split at h2
    · rename_i a b
      cases r1; cases r2
      refine ⟨_, _, rfl, rfl, p a b, rfl, ?_⟩
      by_cases hp : p a b = true
      · rw [hp]
        rw [if_pos hp] at h2
        refine iteT (hc G c _ O env σ H2 _ _ (by omega) ((F.grow g1 ok1).grow g2 ok2) h2 fun z w H3 h3 g3 ok3 r3 => ?_)
        rw [Nat.add_assoc, Nat.add_assoc, ← Nat.add_assoc c1, Nat.add_assoc c1] at ok3
        split at h3
        · cases r3
          exact ⟨_, _, rfl, rfl, k _ _ H3 h3 (g1.trans (g2.trans g3)) ok3 (.bl _)⟩
        · exact h3.elim
      · rw [if_neg hp] at h2
        rw [Bool.eq_false_iff.mpr hp]
        exact iteF (k _ _ H2 h2 (g1.trans g2) (ok_le (by omega) (ok_as ok2)) (.bl false))
    · exact h2.elim
/-! ### isinstance -/
def D.ty : D → Option String
  | .non => some "NoneType"
  | .bl _ => some "bool"
  | .int _ => some "int"
  | .str _ => some "str"
  | .tup _ => some "tuple"
  | .lst _ => some "list"
  | .dic _ => some "dict"
  | .opq _ => none
  | .ftp _ => some "tuple"
  | .exc _ _ _ => none
  | .lam _ _ => none
  | .ins _ _ _ => none
theorem dgetK {H : Hp} {a : Addr} {kvs : List (Key × V)} {k : Key} (e : Rk H a (.dK kvs)) : DGet H a (kV k) (valV kvs k) := .inl ⟨kvs, k, rk_rd e, rfl, rfl⟩
theorem Rr.tyOf {G : Cfg} {O : Addr → Prop} {H : Hp} {v : V} {d : D} {s : String} (r : Rr G O H v d) (h : d.ty = some s) : TyX K H v (.type s) := by
  cases r with
  | dat r =>
    cases r with
    | non => cases h; exact .base .non
    | bl b => cases h; exact .base (.bl b)
    | int b => cases h; exact .base (.int b)
    | str b => cases h; exact .base (.str b)
    | opq v => cases h
    | tup e r =>
      cases h
      rcases rk_tup e.1 with e | ⟨_, e⟩
      · exact .base (.tup e)
      · exact .fTuple e
    | ftp e d r => cases h; exact .fTuple (rk_frz e.1)
    | exc0 e => cases h
    | exc1 e d l r => cases h
    | lam e u => cases h
    | ins e l r => cases h
    | lst e r => cases h; exact .base (.lst (rk_lst e.1))
    | dic e r =>
      cases h
      rcases e.1 with e | ⟨_, _, _, e⟩
      · exact .base (.dK e)
      · exact .fDict e
  | own e z r => cases h; exact .base (.lst e)
  | owd e z r => cases h; exact .base (.dK e)
/-- is a value of the type a an instance of b -/
def tyIs (a b : String) : Bool := a == b || (a == "bool" && b == "int")
theorem kitB_int : ∀ a ∈ ["NoneType", "bool", "int", "str", "tuple", "list", "dict"], ∀ b ∈ ["bool", "int", "str", "tuple", "list", "dict"], kitB a b = some (tyIs a b) := by decide +kernel
def kIsi (T : String) : List D → (D → Prop) → Prop := fun ds Q => match ds with
  | [d, .opq (.ty b)] => b = T ∧ (match d.ty with | some a => Q (.bl (tyIs a T)) | none => False)
  | _ => False
theorem kc_isi {T : String} (hT : T ∈ ["bool", "int", "str", "tuple", "list", "dict"]) : KC C (rIsi K) (kIsi T) := fun G _ n O H vs ds Qd Q W r h q => by
  unfold kIsi at h
  split at h
  · rename_i d b
    obtain ⟨v, w, rfl, r1, r2⟩ := r.two
    have ew : w = .ty b := by
      cases r2 with | dat r => cases r; rfl
    subst ew
    obtain ⟨rfl, h⟩ := h
    split at h
    · rename_i a ha
      have hin : a ∈ ["NoneType", "bool", "int", "str", "tuple", "list", "dict"] := by
        cases d <;> cases ha <;> decide
      exact ⟨v, _, _, _, _, rfl, .ty b, r1.tyOf ha, kit_ty (kitB_int a hin b hT), q _ _ H h (Grow.refl _ _) W.ok (.bl _)⟩
    · exact h.elim
  · exact h.elim
/-! ### dicts -/
def D.key : D → Option Key
  | .int i => some (.inl i)
  | .str s => some (.inr s)
  | _ => none
def getD (kvs : List (Key × D)) (k : Key) : Option D := (kvs.find? fun kv => decide (kv.1 = k)).map (·.2)
theorem RpD.get {A : At} {k : Key} : ∀ {xs : List (Key × V)} {ds : List (Key × D)}, RpD A xs ds → (match getD ds k with | some d => ∃ v, valV xs k = some v ∧ Rp A v d | none => valV xs k = none)
  | _, _, .nil => rfl
  | _, _, @RpD.cons _ k' v xs d ds a r => by
    unfold getD valV
    rw [List.find?_cons, List.find?_cons]
    by_cases h : k' = k
    · rw [decide_eq_true h]
      exact ⟨v, rfl, a⟩
    · rw [decide_eq_false h]
      exact RpD.get r
theorem Rr.key {G : Cfg} {O : Addr → Prop} {H : Hp} {v : V} {d : D} {k : Key} (r : Rr G O H v d) (h : d.key = some k) : v = kV k := by
  cases d <;> cases h
  · cases r.int; rfl
  · cases r.str; rfl
def mGet (md mk : EM) : EM := fun env Q => md env fun x => mk env fun y => match x, y.key with
  | .dic kvs, some k => (match getD kvs k with | some d => Q d | none => False)
  | _, _ => False
theorem se_get (hd : SR C c1 ta m) (hk : SE C c2 tk mk) : SE C (c1 + c2) (tDGet ta tk) (mGet m mk) := fun G c n O env σ H Qd Q hL F hm q =>
  hd G c n O env σ H _ _ (by omega) F hm fun x v H1 h1 g1 ok1 r1 => hk G c _ O env σ H1 _ _ (by omega) (F.grow g1 ok1) h1 fun y u H2 h2 g2 ok2 r2 => by
    split at h2
    · rename_i kvs k hk'
      have W2 := (F.wl.grow g1 ok1).grow g2 ok2
      obtain ⟨a, xs, rfl, e, r⟩ := (r1.grow (F.wl.grow g1 ok1) g2).dict
      have eu := (Rr.dat (G := G) r2).key hk'
      subst eu
      have := r.get (k := k)
      split at h2
      · rename_i d hg
        rw [hg] at this
        obtain ⟨w, hw, rw'⟩ := this
        exact ⟨a, w, rfl, by rw [← hw]; exact dgetK e, q _ _ H2 h2 (g1.trans g2) (ok_as ok2) rw'⟩
      · exact h2.elim
    · exact h2.elim
def mInD (p : Bool → Bool) (mk md : EM) : EM := fun env Q => mk env fun y => md env fun x => match x, y.key with
  | .dic kvs, some k => Q (.bl (p (getD kvs k).isSome))
  | _, _ => False
theorem se_inD (hk : SE C c1 tk mk) (hd : SR C c2 ta m) : SE C (c1 + c2) (tDIn tk ta) (mInD id mk m) := fun G c n O env σ H Qd Q hL F hm q =>
  hk G c n O env σ H _ _ (by omega) F hm fun y u H1 h1 g1 ok1 r1 => hd G c _ O env σ H1 _ _ (by omega) (F.grow g1 ok1) h1 fun x v H2 h2 g2 ok2 r2 => by
    split at h2
    · rename_i kvs k hk'
      obtain ⟨a, xs, rfl, e, r⟩ := r2.dict
      have eu := (Rr.dat (G := G) r1).key hk'
      subst eu
      have this := r.get (k := k)
      refine ⟨a, valV xs k, rfl, dgetK e, ?_⟩
      have es : (valV xs k).isSome = (getD kvs k).isSome := by
        cases hg : getD kvs k with
        | none => rw [hg] at this; rw [this]; rfl
        | some d => rw [hg] at this; obtain ⟨w, hw, _⟩ := this; rw [hw]; rfl
      rw [es]
      exact q _ _ H2 h2 (g1.trans g2) (ok_as ok2) (.bl _)
    · exact h2.elim
theorem se_notInD (hk : SE C c1 tk mk) (hd : SR C c2 ta m) : SE C (c1 + c2) (tDNotIn tk ta) (mInD not mk m) := fun G c n O env σ H Qd Q hL F hm q =>
  hk G c n O env σ H _ _ (by omega) F hm fun y u H1 h1 g1 ok1 r1 => hd G c _ O env σ H1 _ _ (by omega) (F.grow g1 ok1) h1 fun x v H2 h2 g2 ok2 r2 => by
    split at h2
    · rename_i kvs k hk'
      obtain ⟨a, xs, rfl, e, r⟩ := r2.dict
      have eu := (Rr.dat (G := G) r1).key hk'
      subst eu
      have this := r.get (k := k)
      refine ⟨a, valV xs k, rfl, dgetK e, ?_⟩
      have es : (valV xs k).isSome = (getD kvs k).isSome := by
        cases hg : getD kvs k with
        | none => rw [hg] at this; rw [this]; rfl
        | some d => rw [hg] at this; obtain ⟨w, hw, _⟩ := this; rw [hw]; rfl
      rw [es]
      exact q _ _ H2 h2 (g1.trans g2) (ok_as ok2) (.bl _)
    · exact h2.elim
end
end PL

namespace PL
open PySem PySem.Spec PyProof.Rows L2
def putD (kvs : List (Key × D)) (k : Key) (d : D) : List (Key × D) := if (kvs.any fun kv => decide (kv.1 = k)) = true then kvs.map (fun kv => if kv.1 = k then (kv.1, d) else kv) else kvs ++ [(k, d)]
theorem RpD.any {A : At} {k : Key} : ∀ {xs : List (Key × V)} {ds : List (Key × D)}, RpD A xs ds → (xs.any fun kv => decide (kv.1 = k)) = (ds.any fun kv => decide (kv.1 = k))
  | _, _, .nil => rfl
  | _, _, .cons a r => by rw [List.any_cons, List.any_cons, RpD.any r]
theorem RpD.upd {A : At} {k : Key} {v : V} {d : D} (h : Rp A v d) : ∀ {xs : List (Key × V)} {ds : List (Key × D)}, RpD A xs ds → RpD A (xs.map fun kv => if kv.1 = k then (kv.1, v) else kv) (ds.map fun kv => if kv.1 = k then (kv.1, d) else kv)
  | _, _, .nil => .nil
  | _, _, @RpD.cons _ k' v' xs d' ds a r => by
    rw [List.map_cons, List.map_cons]
    by_cases e : k' = k
    · simp only [if_pos e]; exact .cons h (RpD.upd h r)
    · simp only [if_neg e]; exact .cons a (RpD.upd h r)
theorem RpD.app {A : At} : ∀ {xs ys : List (Key × V)} {ds es : List (Key × D)}, RpD A xs ds → RpD A ys es → RpD A (xs ++ ys) (ds ++ es)
  | _, _, _, _, .nil, s => s
  | _, _, _, _, .cons a r, s => .cons a (RpD.app r s)
theorem RpD.put {A : At} {k : Key} {v : V} {d : D} {xs : List (Key × V)} {ds : List (Key × D)} (r : RpD A xs ds) (h : Rp A v d) : RpD A (putK xs k v) (putD ds k d) := by
  unfold putK putD
  rw [r.any]
  split
  · exact r.upd h
  · exact r.app (.cons h .nil)
section
variable {C : Wd → XC → Prop} {K : PySem.W.Frag} {te ta tb tc tk ti to : TE} {tt tu : TT} {t tr : TA} {m ma mb mc mk mi : EM} {mt mu : TM} {mx my : XM} {am ar : AM} {i j c c1 c2 c3 : Nat} {ts tz : TS} {sm sz : SM}
/-- d[k] = e -/
def sPutD (i : Nat) (mk m : EM) : SM := fun env P => match env[i]? with
  | some (.owd kvs) => m env fun d => mk env fun y => (match y.key with | some k => kvs.length < sizeLine ∧ P.nx (env.set i (.owd (putD kvs k d))) | none => False)
  | _ => False
theorem ss_putD (hk : SE C c2 tk mk) (h : SE C c1 te m) : SS C (c1 + c2) (sDPut (tVar i) tk te) (sPutD i mk m) := fun G c n O env σ H P D hL F hm e => by
  unfold sPutD at hm
  split at hm
  · rename_i kvs ei
    obtain ⟨v, es, s⟩ := F.sl i _ ei (by intro z; cases z)
    cases s with
    | @owd a xs _ eh oa r =>
      refine h G c n O env σ H _ _ (by omega) F hm fun d v H1 q1 g1 ok1 rv => ?_
      have F1 := F.grow g1 ok1
      refine ⟨_, es, ?_⟩
      refine hk G c _ O env σ H1 _ _ (by omega) F1 q1 fun y u H2 q2 g2 ok2 rk => ?_
      have g := g1.trans g2
      have eh2 := g _ _ eh oa.z
      have r2 := r.mono (sh_grow F.wl.zo g)
      split at q2
      · rename_i k hk'
        have eu := (Rr.dat (G := G) rk).key hk'
        subst eu
        exact ⟨a, _, rfl, DPut.k eh2 (by rw [r2.length]; exact q2.1), e.nx O _ _ _ ((sh_grow F.wl.zo g).trans (own_le oa)) ((F.grow g (ok_as ok2)).mut ei es rfl rfl oa fun H' l e' => .owd e' oa ((r2.put (rv.mono (sh_grow F.wl.zo g2))).mono l)) q2.2⟩
      · exact q2.elim
  · exact hm.elim
/-- {k: v, ..}: few entries -/
def mPairs : List (EM × EM) → Ev → (List (D × D) → Prop) → Prop
  | [], _, Q => Q []
  | (a, b) :: r, env, Q => a env fun x => b env fun y => mPairs r env fun ps => Q ((x, y) :: ps)
def mkKvs : List (D × D) → Option (List (Key × D))
  | [] => some []
  | (x, y) :: r => match x.key, mkKvs r with | some k, some kv => some ((k, y) :: kv) | _, _ => none
def mergeD (kvs more : List (Key × D)) : List (Key × D) := more.foldl (fun acc kv => putD acc kv.1 kv.2) kvs
theorem RpD.merge {A : At} : ∀ {ys : List (Key × V)} {es : List (Key × D)}, RpD A ys es → ∀ {xs : List (Key × V)} {ds : List (Key × D)}, RpD A xs ds → RpD A (mergeK xs ys) (mergeD ds es)
  | _, _, .nil, _, _, r => r
  | _, _, @RpD.cons _ k v ys d es a q, xs, ds, r => by
    show RpD A (mergeK (putK xs k v) ys) (mergeD (putD ds k d) es)
    exact RpD.merge q (r.put a)
inductive SPs (C : Wd → XC → Prop) : Nat → List (TE × TE) → List (EM × EM) → Prop
  | nil : SPs C 0 [] []
  | cons {a b c : Nat} {ta tb : TE} {ma mb : EM} {r : List (TE × TE)} {s : List (EM × EM)} : SE C a ta ma → SE C b tb mb → SPs C c r s → SPs C (a + (b + c)) ((ta, tb) :: r) ((ma, mb) :: s)
inductive RpP (A : At) : List (V × V) → List (D × D) → Prop
  | nil : RpP A [] []
  | cons {v w : V} {x y : D} {r : List (V × V)} {s : List (D × D)} : Rp A v x → Rp A w y → RpP A r s → RpP A ((v, w) :: r) ((x, y) :: s)
theorem RpP.mono {A B : At} (h : LeA A B) : ∀ {r : List (V × V)} {s : List (D × D)}, RpP A r s → RpP B r s
  | _, _, .nil => .nil
  | _, _, .cons a b r => .cons (a.mono h) (b.mono h) (RpP.mono h r)
theorem pairs_run {C : Wd → XC → Prop} {G : Cfg} (g : C G.w G.x) {O : Addr → Prop} {env : Ev} {σ : L2.St} : ∀ {c : Nat} {l : List (TE × TE)} {ms : List (EM × EM)}, SPs C c l ms → ∀ {n : Nat} {H : Hp} {Qd : List (D × D) → Prop} {Q : List (V × V) → Hp → Prop}, n + c ≤ G.x.lim → Fr G n O env σ H → mPairs ms env Qd →
    (∀ ps vs H', Qd ps → Grow G.w H H' → G.w.ok (n + c) H' → RpP (Sh O H') vs ps → Q vs H') → tPairs l σ H Q
  | _, _, _, .nil, n, H, Qd, Q, hL, F, hm, k => k [] [] H hm (Grow.refl _ _) F.wl.ok .nil
  | _, _, _, @SPs.cons _ a b c _ _ _ _ _ _ ha hb r, n, H, Qd, Q, hL, F, hm, k => by
    unfold tPairs
    refine ha G g n O env σ H _ _ (by omega) F hm fun x v H1 h1 g1 ok1 r1 => hb G g _ O env σ H1 _ _ (by omega) (F.grow g1 ok1) h1 fun y w H2 h2 g2 ok2 r2 => ?_
    refine pairs_run g r (by omega) ((F.grow g1 ok1).grow g2 ok2) h2 fun ps vs H3 h3 g3 ok3 r3 => ?_
    exact k _ _ H3 h3 (g1.trans (g2.trans g3)) (by rw [show n + (a + (b + c)) = n + a + b + c by omega]; exact ok3) (.cons (r1.mono (sh_grow F.wl.zo (g2.trans g3))) (r2.mono (sh_grow F.wl.zo g3)) r3)
theorem kvs_of {A : At} : ∀ {vs : List (V × V)} {ps : List (D × D)} {kvs : List (Key × D)}, RpP A vs ps → mkKvs ps = some kvs → ∃ kv : List (Key × V), vs = kv.map (fun kv => (kV kv.1, kv.2)) ∧ RpD A kv kvs
  | _, _, _, .nil, h => by cases h; exact ⟨[], rfl, .nil⟩
  | _, _, _, @RpP.cons _ v w x y r s a b q, h => by
    unfold mkKvs at h
    split at h
    · rename_i k kv hk hr
      cases h
      obtain ⟨kv', e, r'⟩ := kvs_of q hr
      have ev : v = kV k := by
        cases x <;> cases hk
        · cases a; rfl
        · cases a; rfl
      subst ev
      exact ⟨(k, w) :: kv', by rw [e]; rfl, .cons b r'⟩
    · cases h
def xDisp (ms : List (EM × EM)) : XM := fun env Q => mPairs ms env fun ps => match mkKvs ps with | some kvs => kvs.length ≤ 15 ∧ Q (.owd (mergeD [] kvs)) | none => False
theorem sx_disp {l : List (TE × TE)} {ms : List (EM × EM)} (h : SPs C c l ms) : SX C c (tDisp l) (xDisp ms) := fun G c n O env σ H Qd Q hL F hm k => by
  intro p hp
  have ok0 := Wd.okNew (o := HO.dK []) hp F.wl.ok
  have g0 : Grow G.w H (upd H p (.dK [])) := Grow.new _ hp
  have nO : ¬ O p := F.wl.free hp
  have nZ : ¬ G.w.Z p := fun z => nO (F.wl.zo p z)
  have n0 : G.H0 p = none := by
    cases q : G.H0 p with
    | none => rfl
    | some u => rw [F.wl.base p u q nZ] at hp; cases hp
  have F0 := F.grow g0 ok0
  -- p is hidden meanwhile
  have FO : Fr G n (fun b => O b ∨ b = p) env σ (upd H p (.dK [])) := ⟨⟨ok0, fun b z => .inl (F.wl.zo b z), fun b z => .inl (F.wl.co b z), fun b z => by
      by_cases hb : b = p
      · rw [hb, upd_same]; exact ⟨_, rfl, fun _ q => nomatch q⟩
      · exact F0.wl.tr b (z.elim id fun y => absurd y hb), F0.wl.base⟩, F.len, fun j d e n => let ⟨u, h1, h2⟩ := F.sl j d e n; ⟨u, h1, h2.le g0 (add_le (G := G) hp) fun _ z => .inl z⟩, F.uq⟩
  refine pairs_run c h hL FO hm fun ps vs H1 h1 g1 ok1 r1 => ?_
  have e1 : H1 p = some (.dK []) := g1 _ _ upd_same nZ
  refine ⟨e1, ?_⟩
  split at h1
  · rename_i kvs hk
    obtain ⟨kv, ev, rk⟩ := kvs_of r1 hk
    have F1 := FO.grow g1 ok1
    have oa : OwnAt G (fun b => O b ∨ b = p) p := ⟨.inr rfl, nZ, n0⟩
    have le := own_le (G := G) (H := H1) (o := HO.dK (mergeK [] kv)) oa
    have gg : Grow G.w H (upd H1 p (.dK (mergeK [] kv))) := fun b u hb z => by
      rw [upd_ne (ne_of_none hb hp)]; exact (g0.trans g1) b u hb z
    refine ⟨kv, ev, by rw [rk.length]; exact h1.1, k (.owd (mergeD [] kvs)) _ (fun b => O b ∨ b = p) _ h1.2 gg ⟨st_upd nZ (fun φ z => by rw [e1] at z; cases z) ok1, F1.wl.zo, F1.wl.co, fun b z => ?_, fun b u hb z => ?_⟩ (fun b u hb => ?_) (fun _ z => .inl z) (.owd upd_same oa ((RpD.merge rk .nil).mono le)) (by intro z; cases z) fun a ea _ => by cases ea; exact hp⟩
    · by_cases hb : b = p
      · rw [hb, upd_same]; exact ⟨_, rfl, fun _ q => nomatch q⟩
      · rw [upd_ne hb]; exact F1.wl.tr b z
    · rw [upd_ne (fun q => by rw [q, n0] at hb; cases hb)]; exact F1.wl.base b u hb z
    · exact le _ _ (sh_grow FO.wl.zo g1 _ _ (add_le (G := G) hp _ _ hb))
  · exact h1.elim
/-! ### x += e -/
def sAug (i : Nat) (m : EM) (f : Int → Int → Int) : SM := fun env P => match env[i]? with
  | some (.dat (.int x)) => m env fun d => (match d with | .int y => P.nx (env.set i (.dat (.int (f x y)))) | _ => False)
  | _ => False
theorem ss_aug {f : Int → Int → Int} (h : SE C c te m) : SS C c (tAug i te (ipI f)) (sAug i m f) := fun G c n O env σ H P D hL F hm e => by
  unfold sAug at hm
  split at hm
  · rename_i x ei
    obtain ⟨v, es, s⟩ := F.sl i _ ei (by intro z; cases z)
    cases s with
    | dat r =>
      cases r
      refine ⟨_, es, h G c n O env σ H _ _ hL F hm fun d v H1 q1 g1 ok1 rv => ?_⟩
      split at q1
      · cases rv
        have F1 := F.grow g1 ok1
        exact ⟨_, _, rfl, rfl, e.nx O _ _ H1 (sh_grow F.wl.zo g1) (F1.set (Grow.refl _ _) F1.wl (LeA.refl _) (fun _ z => z) (.dat (.int _)) fun _ _ z => by cases z) q1⟩
      · exact q1.elim
  · exact hm.elim
/-- x[k] += e, x an own list of ints -/
def sAugIx (i : Nat) (mi m : EM) (f : Int → Int → Int) : SM := fun env P => match env[i]? with
  | some (.own ds) => mi env fun k => (match k with
    | .int k => (match ixN ds.length k with
      | some j => (match ds[j]? with
        | some (.int x) => m env fun d => (match d with | .int y => P.nx (env.set i (.own (ds.set j (.int (f x y))))) | _ => False)
        | _ => False)
      | none => False)
    | _ => False)
  | _ => False
theorem ss_augIx {f : Int → Int → Int} (hi : SE C c1 ti mi) (h : SE C c2 te m) : SS C (c1 + c2) (tAugS (tVar i) ti te (rIxL K) (ipI f) rSetL) (sAugIx i mi m f) := fun G c n O env σ H P D hL F hm e => by
  unfold sAugIx at hm
  split at hm
  · rename_i ds ei
    obtain ⟨v, es, s⟩ := F.sl i _ ei (by intro z; cases z)
    cases s with
    | @own a xs _ eh oa r =>
      refine ⟨_, es, hi G c n O env σ H _ _ (by omega) F hm fun k u H1 q1 g1 ok1 rk => ?_⟩
      have F1 := F.grow g1 ok1
      split at q1
      · split at q1
        · rename_i j hj
          split at q1
          · rename_i x hx
            cases rk
            have eh1 := g1 _ _ eh oa.z
            have r1 := r.mono (sh_grow F.wl.zo g1)
            obtain ⟨w, hw, rw'⟩ := r1.get hx
            cases rw'
            refine ⟨a, xs, _, _, rfl, rfl, sqL eh1, by unfold atI; rw [r1.length, hj]; exact hw, ?_⟩
            refine h G c _ O env σ H1 _ _ (by omega) F1 q1 fun d v H2 q2 g2 ok2 rv => ?_
            split at q2
            · cases rv
              have g := g1.trans g2
              have eh2 := g _ _ eh oa.z
              have r2 := r.mono (sh_grow F.wl.zo g)
              refine ⟨_, _, rfl, rfl, a, xs, _, j, rfl, rfl, eh2, by rw [r2.length]; exact hj, ?_⟩
              exact e.nx O _ _ _ ((sh_grow F.wl.zo g).trans (own_le oa)) ((F.grow g (ok_as ok2)).mut ei es rfl rfl oa fun H' l e' => .own e' oa ((RpL.set j (.int _) r2).mono l)) q2
            · exact q2.elim
          · exact q1.elim
        · exact q1.elim
      · exact q1.elim
  · exact hm.elim
/-- y = x.pop() -/
def sPop (i j : Nat) : SM := fun env P => match env[i]? with
  | some (.own ds) => (match ds[ds.length - 1]? with | some d => P.nx ((env.set i (.own ds.dropLast)).set j (.dat d)) | none => False)
  | _ => False
theorem ss_pop : SS C 0 (tAsg (tBM0 K "list" rPop (tVar i)) (gName j)) (sPop i j) := fun G c n O env σ H P D hL F hm e => by
  unfold sPop at hm
  split at hm
  · rename_i ds ei
    obtain ⟨v, es, s⟩ := F.sl i _ ei (by intro z; cases z)
    cases s with
    | @own a xs _ eh oa r =>
      split at hm
      · rename_i d hd
        obtain ⟨w, hw, rw'⟩ := r.get hd
        refine ⟨_, es, .inl ⟨rfl, xs, sqL eh⟩, a, xs, w, rfl, rfl, eh, by rw [r.length]; exact hw, ?_⟩
        have F1 := F.mut (c' := .own ds.dropLast) (o := .lst xs.dropLast) ei es rfl rfl oa fun H' l e' => .own e' oa (r.dropLast.mono l)
        exact e.nx O _ _ _ (own_le oa) (F1.set (i := j) (Grow.refl _ _) F1.wl (LeA.refl _) (fun _ z => z) (.dat (rw'.mono (own_le oa))) fun _ _ z => by cases z) hm
      · exact hm.elim
  · exact hm.elim
/-! ### calls of defs -/
def Mono (S : List D → (D → Prop) → Prop) : Prop := ∀ ds P Q, (∀ d, P d → Q d) → S ds P → S ds Q
/-- a def's promise over plain data: S tells of the arguments, and of the wanted answer, what is asked; at most k draws are made -/
def spP (C : Wd → Prop) (k : Nat) (S : List D → (D → Prop) → Prop) : Sp := fun vs H Q _ => ∃ (w : Wd) (n : Nat) (Oc : Addr → Prop) (ds : List D), C w ∧ n + k ≤ LIM ∧ w.ok n H ∧ (∀ b, w.Z b → Oc b) ∧ (∀ b, Oc b → Trk (H b)) ∧ RpL (Sh Oc H) vs ds ∧
  S ds fun d => ∀ v H', Grow w H H' → w.ok (n + k) H' → Rp (Sh Oc H') v d → Q v H'
/-- .. whatever the token of the world is -/
def spT (C : V → Wd → Prop) (k : Nat) (S : V → List D → (D → Prop) → Prop) : Sp := fun vs H Q E => ∃ tok, spP (C tok) k (S tok) vs H Q E
def mCall (a : AM) (S : List D → (D → Prop) → Prop) : EM := fun env Q => a env fun ds => S ds Q
theorem call_sp {C' : Wd → Prop} {k : Nat} {S : List D → (D → Prop) → Prop} {G : Cfg} {n : Nat} {O : Addr → Prop} {env : Ev} {σ : L2.St} {H : Hp} {vs : List V} {ds : List D} {Qd : D → Prop} {Q : VK} {E : XK} (c : C' G.w) (hS : Mono S) (hL : n + k ≤ LIM) (F : Fr G n O env σ H) (r : RpL (Sh O H) vs ds) (h : S ds Qd)
    (q : ∀ d v H', Qd d → Grow G.w H H' → G.w.ok (n + k) H' → Rp (Sh O H') v d → Q v H') : spP C' k S vs H Q E :=
  ⟨G.w, n, O, ds, c, hL, F.wl.ok, F.wl.zo, F.wl.tr, r, hS ds _ _ (fun d hd v H' g ok r => q d v H' hd g ok r) h⟩
theorem se_call {C' : Wd → Prop} {k : Nat} {S : List D → (D → Prop) → Prop} {E : XK} (h : SA C c t am) (hS : Mono S) (hC : ∀ w x, C w x → C' w) : SE C (c + k) (tCall (spP C' k S) [] E t) (mCall am S) := fun G c n O env σ H Qd Q hL F hm q =>
  h G c n O env σ H _ _ (by omega) F hm fun ds vs H1 h1 g1 ok1 r1 => by
    rw [List.append_nil]
    exact call_sp (hC _ _ c) hS (by have := G.x.le; omega) (F.grow g1 ok1) r1 h1 fun d v H' hd g ok r => q d v H' hd (g1.trans g) (ok_as ok) r
theorem se_callT {C' : V → Wd → Prop} {k : Nat} {S : V → List D → (D → Prop) → Prop} {E : XK} (tok : V) (h : SA (nx (C' tok)) c t am) (hS : Mono (S tok)) : SE (nx (C' tok)) (c + k) (tCall (spT C' k S) [] E t) (mCall am (S tok)) := fun G c n O env σ H Qd Q hL F hm q =>
  h G c n O env σ H _ _ (by omega) F hm fun ds vs H1 h1 g1 ok1 r1 => by
    rw [List.append_nil]
    exact ⟨tok, call_sp c hS (by have := G.x.le; omega) (F.grow g1 ok1) r1 h1 fun d v H' hd g ok r => q d v H' hd (g1.trans g) (ok_as ok) r⟩
/-- f(a, .., k = b): the arguments by a rearrangement -/
theorem se_callK {C' : Wd → Prop} {k : Nat} {S : List D → (D → Prop) → Prop} {E : XK} {gV : List V → List V → List V} (gD : List D → List D → List D) (hg : ∀ (A : At) vs zs ds es, RpL A vs ds → RpL A zs es → RpL A (gV vs zs) (gD ds es)) (h : SA C c1 t am) (h' : SA C c2 tr ar) (hS : Mono S) (hC : ∀ w x, C w x → C' w) :
    SE C (c1 + (c2 + k)) (tCallK (spP C' k S) gV E t tr) (fun env Q => am env fun ds => ar env fun es => S (gD ds es) Q) := fun G c n O env σ H Qd Q hL F hm q =>
  h G c n O env σ H _ _ (by omega) F hm fun ds vs H1 h1 g1 ok1 r1 => h' G c _ O env σ H1 _ _ (by omega) (F.grow g1 ok1) h1 fun es zs H2 h2 g2 ok2 r2 => 
    call_sp (hC _ _ c) hS (by have := G.x.le; omega) ((F.grow g1 ok1).grow g2 ok2) (hg _ vs zs ds es (r1.mono (sh_grow F.wl.zo g2)) r2) h2 fun d v H' hd g ok r => q d v H' hd (g1.trans (g2.trans g)) (by rw [show n + (c1 + (c2 + k)) = n + c1 + c2 + k by omega]; exact ok) r
/-! ### defs -/
def env0 (N : List Str) (ds : List D) : Ev := ds.map .dat ++ List.replicate (N.length - ds.length) .un
theorem RpL.at {A : At} {xs : List V} {ds : List D} (r : RpL A xs ds) (N : List Str) : ∀ (i : Nat) (c : Sv), (env0 N ds)[i]? = some c → c ≠ .un → ∃ v d, (L2.start N xs)[i]? = some (some v) ∧ c = .dat d ∧ Rp A v d := by
  intro i c h n
  unfold env0 at h
  unfold L2.start
  by_cases hi : i < ds.length
  · rw [List.getElem?_append_left (by rw [List.length_map]; exact hi), List.getElem?_map, List.getElem?_eq_getElem hi] at h
    cases h
    obtain ⟨v, hv, rv⟩ := r.get (List.getElem?_eq_getElem hi)
    refine ⟨v, _, ?_, rfl, rv⟩
    rw [List.getElem?_append_left (by rw [List.length_map, r.length]; exact hi), List.getElem?_map, hv]; rfl
  · rw [List.getElem?_append_right (by rw [List.length_map]; omega)] at h
    have := List.mem_of_getElem? h
    exact absurd (List.eq_of_mem_replicate this) n
theorem fr_start {w : Wd} {n : Nat} {Oc : Addr → Prop} {H : Hp} {vs : List V} {ds : List D} {N : List Str} (ok : w.ok n H) (zo : ∀ b, w.Z b → Oc b) (tr : ∀ b, Oc b → Trk (H b)) (r : RpL (Sh Oc H) vs ds) : Fr (Cfg.nx w H Oc tr) n Oc (env0 N ds) (L2.start N vs) H := by
  refine ⟨⟨ok, zo, fun _ z => z, tr, Grow.refl _ _⟩, ?_, fun i c h n => ?_, fun i j a ⟨c, h, o⟩ _ _ _ => ?_⟩
  · unfold env0 L2.start
    rw [List.length_append, List.length_append, List.length_map, List.length_map, List.length_replicate, List.length_replicate, r.length]
  · obtain ⟨v, d, h1, rfl, h2⟩ := r.at N i c h n
    exact ⟨v, h1, .dat h2⟩
  · obtain ⟨v, d, h1, rfl, h2⟩ := r.at N i c h (by intro z; rw [z] at o; cases o)
    cases o
variable {P : Program} {w : World} {mg : Str → Option Value} {base : Heap}
theorem pl_body {C : Wd → Prop} {S : List D → (D → Prop) → Prop} {k c : Nat} {N : List Str} {ts : TS} {sm : SM} {vs : List V} {H : Hp} {Q : VK} {E : XK} (hs : SS (nx C) c ts sm) (hc : c ≤ k) (hb : ∀ ds Q, S ds Q → sm (env0 N ds) { nx := fun _ => Q .non, rt := Q }) (h : spP C k S vs H Q E) :
    ts { nx := fun _ H' => Q .non H', rt := Q } (L2.start N vs) H := by
  obtain ⟨wd, n, Oc, ds, g, hL, ok, zo, tr, r, h⟩ := h
  exact hs (Cfg.nx wd H Oc tr) g n Oc (env0 N ds) (L2.start N vs) H _ _ (by show n + c ≤ LIM; omega) (fr_start ok zo tr r) (hb ds _ h) ⟨fun O' env' σ' H' l F' q => q .non H' F'.wl.base (ok_le hc F'.wl.ok) .non, fun d v O' H' W rv q => q v H' W.base (ok_le hc W.ok) (rv.mono fun b u ⟨h1, h2⟩ => ⟨h1, fun z => h2 (W.co b z)⟩), fun _ _ _ _ _ _ q => q, fun _ _ _ _ _ _ q => q⟩
theorem pl_ok {C : Wd → Prop} {S : List D → (D → Prop) → Prop} {x qual : Str} {st : Stmt} {f : Addr} {fd : FuncData} {N ps : List Str} {k kd : Nat} (F : Fun K x qual st f fd) (sc : FnScope N ps (defScope st)) (len : ∀ ds Q, S ds Q → ds.length = ps.length)
    (body : ∀ (cdv : Value) (A : Around) (outer : List Env) (s : Shared) (H : Hp) (E : XK), Room k (A.deeper (envOfC qual (defScope st) s.heap.objs.size f cdv)) →
      ∃ t m c, PSs (cxOf CX0 P w K mg base N qual (defScope st) f cdv A outer s H E).nox (defBody st) t ∧ SS (nx C) c t m ∧ c ≤ kd ∧ ∀ ds Q, S ds Q → m (env0 N ds) { nx := fun _ => Q .non, rt := Q }) :
    FnOk P w K mg base CX0 (k + 1) f fd ps (spP C kd S) := by
  refine F.ok sc (fun vs H Q E ⟨_, _, _, ds, _, _, _, _, _, r, h⟩ => by rw [r.length]; exact len ds _ h) fun cdv A outer s H vs Q E hr h => ?_
  obtain ⟨t, m, c, ht, hs, hc, hb⟩ := body cdv A outer s H E hr
  exact ⟨t, ht, pl_body hs hc hb h⟩
theorem pl_okT {CT : V → Wd → Prop} {S : V → List D → (D → Prop) → Prop} {x qual : Str} {st : Stmt} {f : Addr} {fd : FuncData} {N ps : List Str} {k kd : Nat} (F : Fun K x qual st f fd) (sc : FnScope N ps (defScope st)) (len : ∀ tok ds Q, S tok ds Q → ds.length = ps.length)
    (body : ∀ (cdv : Value) (A : Around) (outer : List Env) (s : Shared) (H : Hp) (E : XK), Room k (A.deeper (envOfC qual (defScope st) s.heap.objs.size f cdv)) →
      ∃ t, PSs (cxOf CX0 P w K mg base N qual (defScope st) f cdv A outer s H E).nox (defBody st) t ∧ ∀ tok, ∃ m c, SS (nx (CT tok)) c t m ∧ c ≤ kd ∧ ∀ ds Q, S tok ds Q → m (env0 N ds) { nx := fun _ => Q .non, rt := Q }) :
    FnOk P w K mg base CX0 (k + 1) f fd ps (spT CT kd S) := by
  refine F.ok sc (fun vs H Q E ⟨_, _, _, _, ds, _, _, _, _, _, r, h⟩ => by rw [r.length]; exact len _ ds _ h) fun cdv A outer s H vs Q E hr ⟨tok, h⟩ => ?_
  obtain ⟨t, ht, hb⟩ := body cdv A outer s H E hr
  obtain ⟨m, c, hs, hc, hb⟩ := hb tok
  exact ⟨t, ht, pl_body hs hc hb h⟩
/-- a def of the module that may be called -/
structure Pr (P : Program) (w : World) (K : PySem.W.Frag) (mg : Str → Option Value) (base : Heap) (x : Str) (k : Nat) (ps : List Str) (sp : Sp) : Prop where
  ex : ∃ f fd, FnOk P w K mg base CX0 k f fd ps sp ∧ mg x = some (.ref f) ∧ PySem.W.keepIn K (.ref f) = true ∧ Binds K fd ps []
theorem pe_callP {X : Cx} {x : Str} {k : Nat} {ps : List Str} {sp : Sp} {p pos : Pos} {e : Expr} {es : List Expr} {t : TA} (h : Pr X.prog X.w X.K X.mg X.base x k ps sp) (hr : Room k X.A) (hg : Gl X x) (ha : PA X (e :: es) t)
    (hdb : (x == ("__debug__" : Str)) = false := by decide) (he : starEach (e :: es) X.env = (false, eval e X.env) :: starEach es X.env := by rfl) (hpl : (backTo pos (starEach es X.env)).any (·.1) = false := by rfl) :
    PE X (.Call (.Name x p) (e :: es) [] pos) (tCall sp [] E0 t) := by
  obtain ⟨f, fd, h1, h2, h3, h4⟩ := h.ex
  exact pe_call h1 hr hg h2 h3 h4 .nil pass0 ha hdb he hpl
end
end PL

namespace PL
open PySem L2
/-! ### a dict is walked while it is locked -/
theorem nf_ftp (ob : Obj) (xs : List V) : ∀ od kvs, HO.frz ob (.tup xs) ≠ .frz od (.dK kvs) := fun _ _ z => by injection z with _ z; cases z
theorem nf_exc (c : Value) (d : Option Addr) (a : Addr) : ∀ od kvs, ExcK c d a ≠ .frz od (.dK kvs) := fun _ _ z => nomatch z
theorem nf_lam (F : Heap → Prop) : ∀ od kvs, (HO.ext F) ≠ .frz od (.dK kvs) := fun _ _ z => nomatch z
theorem nf_ins (C dx : Addr) (fs : List (Str × V)) : ∀ od kvs, HO.ins C dx fs ≠ .frz od (.dK kvs) := fun _ _ z => nomatch z
theorem nf_xd (fs : List (Str × V)) : ∀ od kvs, HO.xd fs ≠ .frz od (.dK kvs) := fun _ _ z => nomatch z
theorem nf_tup (xs : List V) : ∀ ob kvs, HO.tup xs ≠ .frz ob (.dK kvs) := fun _ _ z => nomatch z
theorem nf_lst (xs : List V) : ∀ ob kvs, HO.lst xs ≠ .frz ob (.dK kvs) := fun _ _ z => nomatch z
theorem nf_dK (xs : List (Key × V)) : ∀ ob kvs, HO.dK xs ≠ .frz ob (.dK kvs) := fun _ _ z => nomatch z
mutual
theorem Rp.monoD {A B : At} (h : ∀ a o, (∀ ob kvs, o ≠ .frz ob (.dK kvs)) → A a o → B a o) : ∀ {v : V} {d : D}, Rp A v d → Rp B v d
  | _, _, .non => .non
  | _, _, .bl b => .bl b
  | _, _, .int i => .int i
  | _, _, .str s => .str s
  | _, _, .opq v => .opq v
  | _, _, .tup e r => .tup (h _ _ (nf_tup _) e) (RpL.monoD h r)
  | _, _, .lst e r => .lst (h _ _ (nf_lst _) e) (RpL.monoD h r)
  | _, _, .dic e r => .dic (h _ _ (nf_dK _) e) (RpD.monoD h r)
  | _, _, .ftp e d r => .ftp (h _ _ (nf_ftp _ _) e) d (RpL.monoD h r)
  | _, _, .exc0 e => .exc0 (h _ _ (nf_exc _ _ _) e)
  | _, _, .exc1 e d l r => .exc1 (h _ _ (nf_exc _ _ _) e) (h _ _ (nf_xd _) d) l (RpL.monoD h r)
  | _, _, .lam e u => .lam (h _ _ (nf_lam _) e) (h _ _ (nf_lam _) u)
  | _, _, .ins e l r => .ins (h _ _ (nf_ins _ _ _) e) l (RpL.monoD h r)
theorem RpL.monoD {A B : At} (h : ∀ a o, (∀ ob kvs, o ≠ .frz ob (.dK kvs)) → A a o → B a o) : ∀ {v : List V} {d : List D}, RpL A v d → RpL B v d
  | _, _, .nil => .nil
  | _, _, .cons a r => .cons (Rp.monoD h a) (RpL.monoD h r)
theorem RpD.monoD {A B : At} (h : ∀ a o, (∀ ob kvs, o ≠ .frz ob (.dK kvs)) → A a o → B a o) : ∀ {v : List (Key × V)} {d : List (Key × D)}, RpD A v d → RpD B v d
  | _, _, .nil => .nil
  | _, _, .cons a r => .cons (Rp.monoD h a) (RpD.monoD h r)
end
/-- own things are not seen within -/
def unOwn (env : Ev) : Ev := env.map fun c => match c with
  | .dat d => .dat d
  | _ => .un
theorem unOwn_at {env : Ev} {i : Nat} {c : Sv} (h : (unOwn env)[i]? = some c) (n : c ≠ .un) : ∃ d, c = .dat d ∧ env[i]? = some (.dat d) := by
  unfold unOwn at h
  rw [List.getElem?_map] at h
  cases e : env[i]? with
  | none => rw [e] at h; cases h
  | some u =>
    rw [e] at h
    cases u with
    | dat d => cases h; exact ⟨d, rfl, rfl⟩
    | un => cases h; exact absurd rfl n
    | own d => cases h; exact absurd rfl n
    | owd d => cases h; exact absurd rfl n
def keyD : Key → D
  | .inl i => .int i
  | .inr s => .str s
theorem keyD_rp {A : At} (k : Key) : Rp A (kV k) (keyD k) := by
  cases k with
  | inl i => exact .int i
  | inr s => exact .str s
theorem RpD.keyAt {A : At} : ∀ {xs : List (Key × V)} {ds : List (Key × D)} {i : Nat} {k : Key} {v : V}, RpD A xs ds → xs[i]? = some (k, v) → (ds.map fun kv => keyD kv.1)[i]? = some (keyD k)
  | _, _, _, _, _, .nil, h => by cases h
  | _, _, 0, _, _, .cons _ _, h => by cases h; rfl
  | _, _, i + 1, _, _, .cons _ r, h => RpD.keyAt (i := i) r h
theorem walks_keys {G : Cfg} {O : Addr → Prop} {H : Hp} {a : Addr} {od : Obj} {xs : List (Key × V)} {kvs : List (Key × D)} (e : H a = some (.frz od (.dK xs))) (n : ¬ O a) (r : RpD (Sh O H) xs kvs) : Walks G (Itk a od xs) O H (kvs.map fun kv => keyD kv.1) := fun n' O' H' l W i => by
  have e' : H' a = some (.frz od (.dK xs)) := by
    rcases (l a (.frz od (.dK xs)) ⟨.inl e, n⟩).1 with q | ⟨_, _, q, _⟩
    · exact q
    · rcases q with ⟨_, q⟩ | ⟨_, q⟩ <;> cases q
  have hl : (kvs.map fun kv => keyD kv.1).length = xs.length := by rw [List.length_map, r.length]
  rw [hl]
  refine ⟨fun hi => ⟨⟨e', hi⟩, fun x H'' ⟨eH, k, v, hk, ex⟩ => ?_⟩, fun hi => ⟨e', hi⟩⟩
  subst eH; subst ex
  exact ⟨Grow.refl _ _, W.ok, _, r.keyAt hk, keyD_rp k⟩
def tAlt (t u : TE) : TE := fun σ H Q => t σ H Q ∨ u σ H Q
theorem pe_alt {X : Cx} {e : Expr} {t u : TE} (h1 : PE X e t) (h2 : PE X e u) : PE X e (tAlt t u) := ⟨fun pins s σ H Q I h => h.elim (fun q => h1.run pins s σ H Q I q) fun q => h2.run pins s σ H Q I q⟩
theorem pe_lcK {X : Cx} {e : Expr} {t : TE} (h : PE X e t) : PE X e (tAlt (tLockE t) t) := pe_alt (pe_lock h) h
section
variable {C : Wd → Prop} {g : TG} {mg : GM} {tt : TT} {mt : TM} {te : TE} {m : EM} {vs : List Nat}
def mLcK (i : Nat) (g : GM) (t : TM) (m : EM) (vs : List Nat) : AM := fun env Q => match env[i]? with
  | some (.dat (.dic kvs)) => lcP g t m (wipeE (unOwn env) vs) (kvs.map fun kv => keyD kv.1) [] Q
  | _ => False
theorem sl_lcK {C' : Wd → XC → Prop} {i : Nat} (hg : SG (nx C) vs g mg) (ht : ST (nx C) 0 tt mt) (he : SE (nx C) 0 te m) (hC : ∀ w x, C' w x → C w) : SL C' 0 (tAlt (tLockE (tLc (iKeys (tVar i)) g tt te vs)) (tLc (iKeys (tVar i)) g tt te vs)) (mLcK i mg mt m vs) := fun G c' n O env σ H Qd Q hL F hm k => by
  have c : nx C G.w G.x := hC _ _ c'
  unfold mLcK at hm
  split at hm
  · rename_i kvs ei
    obtain ⟨v, es, s⟩ := F.sl i _ ei (by intro z; cases z)
    cases s with
    | dat r =>
      cases r with
      | @dic a xs _ ea r =>
        have nO : ¬ O a := ea.2
        have nZ : ¬ G.w.Z a := fun z => nO (F.wl.zo a z)
        have fu : ∀ {G' : Cfg} {H' : Hp}, G'.w = G.w → Wl G' n O H' → LeA (Sh O H) (Sh O H') → Fr G' n O (unOwn env) σ H' := fun {G' H'} hw W l => by
          refine ⟨W, ?_, fun j d ed nd => ?_, fun j l a ⟨d, ed, od⟩ _ _ _ => ?_⟩
          · unfold unOwn; rw [List.length_map]; exact F.len
          · obtain ⟨d, rfl, e⟩ := unOwn_at ed nd
            obtain ⟨u, h1, h2⟩ := F.sl j _ e (by intro z; cases z)
            cases h2 with
            | dat r => exact ⟨u, h1, .dat (r.mono l)⟩
          · obtain ⟨d', rfl, _⟩ := unOwn_at ed (by intro z; rw [z] at od; cases od)
            cases od
        rcases ea.1 with e | ⟨ob, _, _, e⟩
        · refine .inl ⟨a, _, e, trivial, fun od => ?_⟩
          have n1 : ∀ b, G.w.Z b → b ≠ a := fun b z q => nZ (by rw [← q]; exact z)
          have ok1 : G.w.ok n (upd H a (.frz od (.dK xs))) := st_upd nZ (fun φ z => by rw [e] at z; cases z) F.wl.ok
          have tr1 : ∀ b, O b → Trk (upd H a (.frz od (.dK xs)) b) := fun b z => by
            rw [upd_ne (fun q => nO (by rw [← q]; exact z))]; exact F.wl.tr b z
          have l1 : LeA (Sh O H) (Sh O (upd H a (.frz od (.dK xs)))) := fun b u ⟨h, nb⟩ => by
            by_cases hb : b = a
            · subst hb
              rcases h with h | ⟨_, _, _, h⟩
              · rw [e] at h; cases h
                exact ⟨.inr ⟨od, (), .inl ⟨xs, rfl⟩, upd_same⟩, nb⟩
              · rw [e] at h; cases h
            · exact ⟨rd_upd hb h, nb⟩
          have W1 : Wl (Cfg.nx G.w (upd H a (.frz od (.dK xs))) G.Oc fun b z => tr1 b (F.wl.co b z)) n O (upd H a (.frz od (.dK xs))) := ⟨ok1, F.wl.zo, F.wl.co, tr1, Grow.refl _ _⟩
          refine lc_run (C := nx C) (c1 := 0) (c2 := 0) (c3 := 0) (T := 0) (am := fun env Q => Q (kvs.map fun kv => keyD kv.1)) (X := fun env ds Q => lcP mg mt m env ds [] Q) (fun _ _ _ h => ⟨by simp, h⟩) hg ht he (G := Cfg.nx G.w (upd H a (.frz od (.dK xs))) G.Oc fun b z => tr1 b (F.wl.co b z)) c Qd _ (Nat.le_trans hL G.x.le) (fu rfl W1 l1) (fun Qd' R h k' => ?_) hm fun ds p ys H' hd g1 ok2 hp ep rp => ?_
          · exact ⟨_, es, a, od, rfl, .inl ⟨xs, upd_same, k' _ _ _ h (Grow.refl _ _) ok1 (walks_g (walks_keys upd_same nO (r.mono l1)))⟩⟩
          · have ea' := g1 _ _ upd_same nZ
            have pa : p ≠ a := fun q => by rw [q, upd_same] at hp; cases hp
            refine ⟨ea', k ds p ys _ hd (fun b u hb z => ?_) (st_upd nZ (fun φ z => by rw [ea'] at z; cases z) ok2) (by rw [upd_ne pa] at hp; exact hp) (by rw [upd_ne pa]; exact ep) (rp.monoD fun b u nf ⟨h, nb⟩ => ?_)⟩
            · by_cases hb' : b = a
              · subst hb'; rw [upd_same, ← hb, e]
              · rw [upd_ne hb']; exact g1 b u (by rw [upd_ne hb']; exact hb) z
            · by_cases hb' : b = a
              · subst hb'
                rcases h with h | ⟨_, _, _, h⟩
                · rw [ea'] at h; cases h; exact absurd rfl (nf _ _)
                · rw [ea'] at h; cases h; exact ⟨.inl upd_same, nb⟩
              · exact ⟨rd_upd hb' h, nb⟩
        · refine .inr (lc_run (C := nx C) (c1 := 0) (c2 := 0) (c3 := 0) (T := 0) (am := fun env Q => Q (kvs.map fun kv => keyD kv.1)) (X := fun env ds Q => lcP mg mt m env ds [] Q) (fun _ _ _ h => ⟨by simp, h⟩) hg ht he c Qd _ hL (fu rfl F.wl (LeA.refl _)) (fun Qd' R h k' => ?_) hm k)
          exact ⟨_, es, a, ob, rfl, .inl ⟨xs, e, k' _ _ _ h (Grow.refl _ _) F.wl.ok (walks_g (walks_keys e nO r))⟩⟩
  · exact hm.elim
end
end PL

namespace L2
open PySem PySem.Spec PyProof.Rows
def rIsiTR (K : PySem.W.Frag) : List V → Hp → VK → Prop := fun xs H Q => ∃ (x : V) (tp : Addr) (cs : List V) (t : Value) (us : List Value) (b : Bool), xs = [x, .ref tp] ∧ Rd H tp (.tup cs) ∧ Paired ClsV cs us ∧ TyX K H x t ∧ PySem.W.kitAny K t us = some b ∧ Q (.bl b) H
theorem call_isiTR {X : Cx} : CallR X (.builtin "isinstance") (rIsiTR X.K) := by
  intro pins s σ H xs us Q I r h
  obtain ⟨x, tp, cs, t, ws, b, rfl, hT, k, ty, e, q⟩ := h
  obtain ⟨u1, u2, rfl, r1, r2⟩ := vals2 r
  cases (show u2 = Value.ref tp from r2)
  obtain ⟨P, Z, p, hx⟩ := kit_of I r1 ty
  obtain ⟨_, its, rv, o, h1, h2, n, h3⟩ := (show ObjOk X.prog X.w H s.heap tp (.tup cs) from hT.ok I.hok)
  have e3 := ClsV.all k rv
  subst e3
  obtain ⟨oc, od, dt, sl⟩ := o
  simp only at h2 h3
  subst h2 h3
  exact PySem.W.kia_tup Z I.kIn p h1 e hx fun tk => ⟨.bl b, H, I.tok tk, rfl, q⟩
end L2
namespace PL
open PySem L2
section
variable {C : Wd → XC → Prop} {K : PySem.W.Frag} {te ta tb tc tk ti to : TE} {t tr : TA} {m ma mb mc mk mi : EM} {am ar : AM} {i j c c1 c2 c3 : Nat}
/-! ### enumerate, reversed -/
def enumD : Nat → List D → List D
  | _, [] => []
  | i, d :: r => .tup [.int (i : Int), d] :: enumD (i + 1) r
theorem enumD_get : ∀ {l : List D} {s i : Nat} {d : D}, l[i]? = some d → (enumD s l)[i]? = some (.tup [.int ((s + i : Nat) : Int), d])
  | [], _, _, _, h => by cases h
  | x :: r, s, 0, d, h => by cases h; rfl
  | x :: r, s, i + 1, d, h => by
    have ih := enumD_get (l := r) (s := s + 1) (i := i) h
    rw [show s + 1 + i = s + (i + 1) by omega] at ih
    exact ih
theorem enumD_len : ∀ (l : List D) (s : Nat), (enumD s l).length = l.length
  | [], _ => rfl
  | x :: r, s => congrArg Nat.succ (enumD_len r (s + 1))
theorem walks_enum {G : Cfg} {O : Addr → Prop} {H : Hp} {a : Addr} {xs : List V} {ds : List D} (e : Sh O H a (.lst xs)) (r : RpL (Sh O H) xs ds) : Walks G (Ite K a) O H (enumD 0 ds) := fun n O' H' l W i => by
  have e' := rk_lst (l _ _ e).1
  have r' := r.mono l
  rw [enumD_len]
  refine ⟨fun hi => ?_, fun hi => ⟨xs, sqL e', by rw [r.length]; exact hi⟩⟩
  obtain ⟨v, hv, rv⟩ := r'.get (List.getElem?_eq_getElem hi)
  refine ⟨⟨xs, v, sqL e', hv⟩, fun x H'' ⟨T, y, ex, nT, eH, hx⟩ => ?_⟩
  subst eH; subst ex
  have := hx xs (sqL e')
  rw [hv] at this; cases this
  refine ⟨Grow.new _ nT, Wd.okNew nT W.ok, _, enumD_get (List.getElem?_eq_getElem hi), ?_⟩
  rw [Nat.zero_add]
  exact new_tup W nT (.cons (.int _) (.cons rv .nil))
def iE (a : AM) : AM := fun env Q => a env fun ds => match ds with | [.lst l] => Q (enumD 0 l) | _ => False
theorem si_enum (h : SA C c t am) : SI C c (iEnum K t) (iE am) := fun G c n O env σ H Qd R hL F hm k =>
  h G c n O env σ H _ _ hL F hm fun ds vs H1 q g ok r => by
    split at q
    · cases r with
      | cons a r =>
        cases r
        cases a with
        | lst e r => exact ⟨_, _, rfl, sqL (rk_lst e.1), k _ _ H1 q g ok (walks_enum e r)⟩
    · exact q.elim
theorem walks_rev {G : Cfg} {O : Addr → Prop} {H : Hp} {a : Addr} {xs : List V} {ds : List D} (e : Sh O H a (.lst xs)) (r : RpL (Sh O H) xs ds) : Walks G (Itv K a xs.length) O H ds.reverse := fun n O' H' l W i => by
  have e' := rk_lst (l _ _ e).1
  have r' := r.mono l
  have hl := r.length
  rw [List.length_reverse]
  refine ⟨fun hi => ?_, fun hi => by show xs.length ≤ i; omega⟩
  have hi2 : ds.length - 1 - i < ds.length := by omega
  obtain ⟨v, hv, rv⟩ := r'.get (List.getElem?_eq_getElem hi2)
  rw [← hl] at hv
  refine ⟨⟨by show i < xs.length; omega, xs, v, sqL e', hv⟩, fun x H'' ⟨eH, hx⟩ => ?_⟩
  subst eH
  have := hx xs (sqL e')
  rw [hv] at this; cases this
  exact ⟨Grow.refl _ _, W.ok, _, by rw [List.getElem?_reverse hi]; exact List.getElem?_eq_getElem hi2, rv⟩
theorem walks_revT {G : Cfg} {O : Addr → Prop} {H : Hp} {a : Addr} {xs : List V} {ds : List D} (e : Sh O H a (.tup xs)) (r : RpL (Sh O H) xs ds) : Walks G (RT.ItvT K a xs.length) O H ds.reverse := fun n O' H' l W i => by
  have e' := rk_tup (l _ _ e).1
  have r' := r.mono l
  have hl := r.length
  rw [List.length_reverse]
  refine ⟨fun hi => ?_, fun hi => by show xs.length ≤ i; omega⟩
  have hi2 : ds.length - 1 - i < ds.length := by omega
  obtain ⟨v, hv, rv⟩ := r'.get (List.getElem?_eq_getElem hi2)
  rw [← hl] at hv
  refine ⟨⟨by show i < xs.length; omega, xs, v, sqT e', hv⟩, fun x H'' ⟨eH, hx⟩ => ?_⟩
  subst eH
  have := hx xs (sqT e')
  rw [hv] at this; cases this
  exact ⟨Grow.refl _ _, W.ok, _, by rw [List.getElem?_reverse hi]; exact List.getElem?_eq_getElem hi2, rv⟩
def iRv (m : EM) : AM := fun env Q => m env fun d => match d with | .lst l => Q l.reverse | .tup l => Q l.reverse | _ => False
theorem si_rev (h : SE C c te m) : SI C c (RT.iRevA K te) (iRv m) := fun G c n O env σ H Qd R hL F hm k =>
  h G c n O env σ H _ _ hL F hm fun d v H1 q g ok r => by
    split at q
    · cases r with
      | lst e r => exact ⟨_, _, rfl, .inl ⟨sqL (rk_lst e.1), k _ _ H1 q g ok (walks_rev e r)⟩⟩
    · cases r with
      | tup e r => exact ⟨_, _, rfl, .inr ⟨sqT (rk_tup e.1), k _ _ H1 q g ok (walks_revT e r)⟩⟩
    · exact q.elim
/-! ### x.extend(l), x.remove(k) -/
def sExt (i : Nat) (m : EM) : SM := fun env P => match env[i]? with
  | some (.own ds) => m env fun d => (match d with | .lst es => ds.length + es.length ≤ sizeLine ∧ P.nx (env.set i (.own (ds ++ es))) | _ => False)
  | _ => False
theorem ss_ext (h : SE C c te m) : SS C c (tDrop (tBM K "list" rExtend (tVar i) (tCons te tNil))) (sExt i m) := fun G c n O env σ H P D hL F hm e => by
  unfold sExt at hm
  split at hm
  · rename_i ds ei
    obtain ⟨v, es, s⟩ := F.sl i _ ei (by intro z; cases z)
    cases s with
    | @own a xs _ eh oa r =>
      refine ⟨_, es, .inl ⟨rfl, xs, sqL eh⟩, ?_⟩
      refine h G c n O env σ H _ _ hL F hm fun d v H1 q1 g ok rv => ?_
      split at q1
      · cases rv with
        | @lst b zs _ eb rb =>
          have F1 := F.grow g ok
          have eh1 := g _ _ eh oa.z
          have r1 := r.mono (sh_grow F.wl.zo g)
          refine ⟨a, b, xs, zs, rfl, rfl, eh1, rk_lst eb.1, by rw [r1.length, rb.length]; exact q1.1, ?_⟩
          exact e.nx O _ _ _ ((sh_grow F.wl.zo g).trans (own_le oa)) (F1.mut ei es rfl rfl oa fun H' l e' => .own e' oa ((r1.append rb).mono l)) q1.2
      · exact q1.elim
  · exact hm.elim
/-- x.remove(k), x an own list of ints that holds k -/
def sRem (i : Nat) (m : EM) : SM := fun env P => match env[i]? with
  | some (.own ds) => m env fun d => ∃ (ns : List Int) (k : Int), ds = ns.map D.int ∧ d = .int k ∧ k ∈ ns ∧ P.nx (env.set i (.own ((ns.eraseIdx (ns.idxOf k)).map D.int)))
  | _ => False
theorem ss_rem (h : SE C c te m) : SS C c (tDrop (tBM K "list" rRemI (tVar i) (tCons te tNil))) (sRem i m) := fun G c n O env σ H P D hL F hm e => by
  unfold sRem at hm
  split at hm
  · rename_i ds ei
    obtain ⟨v, es, s⟩ := F.sl i _ ei (by intro z; cases z)
    cases s with
    | @own a xs _ eh oa r =>
      refine ⟨_, es, .inl ⟨rfl, xs, sqL eh⟩, ?_⟩
      refine h G c n O env σ H _ _ hL F hm fun d v H1 q1 g ok rv => ?_
      obtain ⟨ns, k, rfl, rfl, hk, q1⟩ := q1
      cases rv
      have F1 := F.grow g ok
      have eh1 := g _ _ eh oa.z
      have ex := r.ints
      subst ex
      have hlt := List.idxOf_lt_length_of_mem hk
      refine ⟨a, ns, k, ns.idxOf k, rfl, rfl, eh1, ?_, fun z hz hq => ?_, ?_⟩
      · rw [List.getElem?_eq_getElem hlt, List.getElem_idxOf hlt]
      · obtain ⟨hzl, ez⟩ := List.getElem?_eq_some_iff.mp hq
        have := List.not_of_lt_findIdx (p := (· == k)) (xs := ns) (i := z) hz
        rw [ez] at this
        simp at this
      · exact e.nx O _ _ _ ((sh_grow F.wl.zo g).trans (own_le oa)) (F1.mut ei es rfl rfl oa fun H' l e' => .own e' oa (.ofInts _)) q1
  · exact hm.elim
/-! ### list(range(n)) -/
def mLrg (m : EM) : AM := fun env Q => m env fun d => match d with | .int j => RgOk 0 j ∧ Q (rng 0 j.toNat) | _ => False
theorem sl_lrg (h : SE C c te m) : SL C c (tLstRg (tRg1 te)) (mLrg m) := fun G c n O env σ H Qd Q hL F hm k =>
  h G c n O env σ H _ _ hL F hm fun d v H1 q g ok r => by
    split at q
    · cases r
      rename_i j
      refine ⟨_, rfl, q.1, fun p hp => k _ p (rgV 0 j) _ q.2 (g.trans (Grow.new _ hp)) (Wd.okNew hp ok) (g.free ok hp) upd_same ?_⟩
      have e : rgV 0 j = ((List.range (j - 0).toNat).map fun i : Nat => (0 : Int) + (i : Int)).map V.int := by unfold rgV; rw [List.map_map]; rfl
      have e2 : rng 0 j.toNat = ((List.range (j - 0).toNat).map fun i : Nat => (0 : Int) + (i : Int)).map D.int := by unfold rng; rw [List.map_map, show (j - 0).toNat = j.toNat by omega]; rfl
      rw [e, e2]
      exact .ofInts _
    · exact q.elim
/-! ### a, b, c = x, y, z, through a tuple: names that a comprehension reads are cells -/
def sPar3 (i j l : Nat) (x y z : XM) : SM := fun env P => x env fun c => y env fun d => z env fun e => P.nx (((env.set i c).set j d).set l e)
theorem ss_parA3 {i j l : Nat} {mx my mz : XM} (h : SX C c1 ta mx) (h' : SX C c2 tb my) (h'' : SX C c3 tc mz) :
    SS C (c1 + (c2 + c3)) (tAsg (tTup (tCons ta (tCons tb (tCons tc tNil)))) (gTup K 3 (gCons (gName i) (gCons (gName j) (gCons (gName l) gNil))))) (sPar3 i j l mx my mz) := fun G c n O env σ H P D hL F hm e =>
  h G c n O env σ H _ _ (by omega) F hm fun x1 v O1 H1 q g W l1 mo s nn f => by
    have F1 : Fr G (n + c1) O1 env σ H1 := ⟨W, F.len, fun k d e n => let ⟨u, h1, h2⟩ := F.sl k d e n; ⟨u, h1, h2.le g l1 mo⟩, F.uq⟩
    refine h' G c _ O1 env σ H1 _ _ (by omega) F1 q fun x2 u O2 H2 q2 g2 W2 l2 mo2 s2 n2 f2 => ?_
    have F2 : Fr G (n + c1 + c2) O2 env σ H2 := ⟨W2, F.len, fun k d e n => let ⟨u, h1, h2⟩ := F1.sl k d e n; ⟨u, h1, h2.le g2 l2 mo2⟩, F.uq⟩
    refine h'' G c _ O2 env σ H2 _ _ (by omega) F2 q2 fun x3 w O3 H3 q3 g3 W3 l3 mo3 s3 n3 f3 => ?_
    have en : n + c1 + c2 + c3 = n + (c1 + (c2 + c3)) := by omega
    refine ⟨by show 3 ≤ sizeLine; decide, fun T hT => ⟨T, _, rfl, sqT (.inl upd_same), rfl, v, [u, w], rfl, u, [w], rfl, w, [], rfl, rfl, ?_⟩⟩
    have F3 := ((F.set (i := i) g W l1 mo s f).set (i := j) g2 W2 l2 mo2 s2 f2).set (i := l) g3 W3 l3 mo3 s3 f3
    rw [en] at F3
    have gT : Grow G.w H3 (upd H3 T (.tup [v, u, w])) := Grow.new _ hT
    exact e.nx O3 _ _ _ (l1.trans (l2.trans (l3.trans (sh_grow F3.wl.zo gT)))) (F3.grow gT (Wd.okNew hT F3.wl.ok)) q3
/-! ### isinstance(x, (list, tuple)) -/
theorem kitAny_two {K : PySem.W.Frag} {t a b : Value} {x y : Bool} (h1 : PySem.W.kitOne K t a = some x) (h2 : PySem.W.kitOne K t b = some y) : PySem.W.kitAny K t [a, b] = some (x || y) := by
  unfold PySem.W.kitAny
  rw [h1]
  cases x with
  | true => rfl
  | false =>
    show PySem.W.kitAny K t [b] = some y
    unfold PySem.W.kitAny
    rw [h2]
    cases y with
    | true => rfl
    | false => show PySem.W.kitAny K t [] = some false; unfold PySem.W.kitAny; rfl
def kIsi2 (S T : String) : List D → (D → Prop) → Prop := fun ds Q => match ds with
  | [d, .tup [.opq (.ty a), .opq (.ty b)]] => a = S ∧ b = T ∧ (match d.ty with | some t => Q (.bl (tyIs t S || tyIs t T)) | none => False)
  | _ => False
theorem kc_isi2 {S T : String} (hS : S ∈ ["bool", "int", "str", "tuple", "list", "dict"]) (hT : T ∈ ["bool", "int", "str", "tuple", "list", "dict"]) : KC C (rIsiTR K) (kIsi2 S T) := fun G _ n O H vs ds Qd Q W r h q => by
  unfold kIsi2 at h
  split at h
  · rename_i d a b
    obtain ⟨v, w, rfl, r1, r2⟩ := r.two
    obtain ⟨p, xs, rfl, ep, rp⟩ := r2.tuple
    cases rp with
    | cons p1 rp =>
      cases rp with
      | cons p2 rp =>
        cases rp
        cases p1
        cases p2
        obtain ⟨rfl, rfl, h⟩ := h
        split at h
        · rename_i t ht
          have hin : t ∈ ["NoneType", "bool", "int", "str", "tuple", "list", "dict"] := by
            cases d <;> cases ht <;> decide
          exact ⟨v, p, _, _, _, _, rfl, ep, .cons (.ty a) (.cons (.ty b) .nil), r1.tyOf ht, kitAny_two (kit_ty (kitB_int t hin a hS)) (kit_ty (kitB_int t hin b hT)), q _ _ H h (Grow.refl _ _) W.ok (.bl _)⟩
        · exact h.elim
  · exact h.elim
end
end PL

namespace PL
open PySem L2
section
variable {C : Wd → XC → Prop} {K : PySem.W.Frag} {t : TA} {am : AM} {c : Nat}
/-! ### zip of two lists, of two tuples -/
def zipD : List D → List D → List D
  | x :: xs, y :: ys => .tup [x, y] :: zipD xs ys
  | _, _ => []
theorem zipD_get : ∀ {xs ys : List D} {i : Nat} {x y : D}, xs[i]? = some x → ys[i]? = some y → (zipD xs ys)[i]? = some (.tup [x, y])
  | [], _, _, _, _, h, _ => by cases h
  | _ :: _, [], _, _, _, _, h => by cases h
  | a :: xs, b :: ys, 0, x, y, h1, h2 => by cases h1; cases h2; rfl
  | a :: xs, b :: ys, i + 1, x, y, h1, h2 => zipD_get (xs := xs) (ys := ys) (i := i) h1 h2
theorem zipD_len : ∀ (xs ys : List D), (zipD xs ys).length = min xs.length ys.length
  | [], ys => by cases ys <;> simp [zipD]
  | a :: xs, [] => by simp [zipD]
  | a :: xs, b :: ys => by
    show (zipD xs ys).length + 1 = _
    rw [zipD_len xs ys, List.length_cons, List.length_cons]; omega
theorem walks_zip {G : Cfg} {O : Addr → Prop} {H : Hp} {a b : Addr} {xs ys : List V} {ds es : List D} (ea : Sh O H a (.lst xs)) (eb : Sh O H b (.lst ys)) (r : RpL (Sh O H) xs ds) (q : RpL (Sh O H) ys es) : Walks G (Itz K a b) O H (zipD ds es) := fun n O' H' l W i => by
  have ea' := rk_lst (l _ _ ea).1
  have eb' := rk_lst (l _ _ eb).1
  have r' := r.mono l
  have q' := q.mono l
  have l1 := r.length
  have l2 := q.length
  rw [zipD_len]
  refine ⟨fun hi => ?_, fun hi => ⟨xs, ys, sqL ea', sqL eb', by omega⟩⟩
  have h1 : i < ds.length := by omega
  have h2 : i < es.length := by omega
  obtain ⟨v, hv, rv⟩ := r'.get (List.getElem?_eq_getElem h1)
  obtain ⟨u, hu, ru⟩ := q'.get (List.getElem?_eq_getElem h2)
  refine ⟨⟨xs, ys, v, u, sqL ea', sqL eb', hv, hu⟩, fun x H'' ⟨T, y, z, ex, nT, eH, hx, hy⟩ => ?_⟩
  subst eH; subst ex
  have e1 := hx xs (sqL ea')
  rw [hv] at e1; cases e1
  have e2 := hy ys (sqL eb')
  rw [hu] at e2; cases e2
  exact ⟨Grow.new _ nT, Wd.okNew nT W.ok, _, zipD_get (List.getElem?_eq_getElem h1) (List.getElem?_eq_getElem h2), new_tup W nT (.cons rv (.cons ru .nil))⟩
theorem walks_zipT {G : Cfg} {O : Addr → Prop} {H : Hp} {a b : Addr} {xs ys : List V} {ds es : List D} (ea : Sh O H a (.tup xs)) (eb : Sh O H b (.tup ys)) (r : RpL (Sh O H) xs ds) (q : RpL (Sh O H) ys es) : Walks G (RZ.ItzT K a b) O H (zipD ds es) := fun n O' H' l W i => by
  have ea' := rk_tup (l _ _ ea).1
  have eb' := rk_tup (l _ _ eb).1
  have r' := r.mono l
  have q' := q.mono l
  have l1 := r.length
  have l2 := q.length
  rw [zipD_len]
  refine ⟨fun hi => ?_, fun hi => ⟨xs, ys, sqT ea', sqT eb', by omega⟩⟩
  have h1 : i < ds.length := by omega
  have h2 : i < es.length := by omega
  obtain ⟨v, hv, rv⟩ := r'.get (List.getElem?_eq_getElem h1)
  obtain ⟨u, hu, ru⟩ := q'.get (List.getElem?_eq_getElem h2)
  refine ⟨⟨xs, ys, v, u, sqT ea', sqT eb', hv, hu⟩, fun x H'' ⟨T, y, z, ex, nT, eH, hx, hy⟩ => ?_⟩
  subst eH; subst ex
  have e1 := hx xs (sqT ea')
  rw [hv] at e1; cases e1
  have e2 := hy ys (sqT eb')
  rw [hu] at e2; cases e2
  exact ⟨Grow.new _ nT, Wd.okNew nT W.ok, _, zipD_get (List.getElem?_eq_getElem h1) (List.getElem?_eq_getElem h2), new_tup W nT (.cons rv (.cons ru .nil))⟩
def iZ (a : AM) : AM := fun env Q => a env fun ds => match ds with | [.lst l, .lst k] => Q (zipD l k) | [.tup l, .tup k] => Q (zipD l k) | _ => False
theorem si_zip (h : SA C c t am) : SI C c (RZ.iZipA K t) (iZ am) := fun G c n O env σ H Qd R hL F hm k =>
  h G c n O env σ H _ _ hL F hm fun ds vs H1 q g ok r => by
    split at q
    · cases r with
      | cons a r =>
        cases r with
        | cons b r =>
          cases r
          cases a with
          | lst e1 r1 =>
            cases b with
            | lst e2 r2 => exact ⟨_, _, _, _, rfl, .inl ⟨sqL (rk_lst e1.1), sqL (rk_lst e2.1), k _ _ H1 q g ok (walks_zip e1 e2 r1 r2)⟩⟩
    · cases r with
      | cons a r =>
        cases r with
        | cons b r =>
          cases r
          cases a with
          | tup e1 r1 =>
            cases b with
            | tup e2 r2 => exact ⟨_, _, _, _, rfl, .inr ⟨sqT (rk_tup e1.1), sqT (rk_tup e2.1), k _ _ H1 q g ok (walks_zipT e1 e2 r1 r2)⟩⟩
    · exact q.elim
end
end PL

namespace L2
open PySem PySem.Spec PyProof.Rows
theorem tuple_mul1 (l : Addr) (items : Array Value) (n : Nat) (sl : Array (Option Value)) (dd : Option Addr) (u : Tok) :
    Meets (Builtin.«tuple.__mul__» ⟨[.ref l, .int 1 u], []⟩) (fun _ R s => s.heap.get? l = some { cls := .type "tuple", dict := dd, data := .seq items n, slots := sl } ∧
      R (.ok (.ret (Value.ref l))) s) :=
  .of_wp fun prog w A R s h => by
    obtain ⟨hp, g, d, tk, os⟩ := s
    obtain ⟨hl, h⟩ := h
    have f1 := AutoSeq1.idx_int
    have c0 : (decide ((1 : Int) < -(2 ^ 63)) || decide ((1 : Int) ≥ 2 ^ 63)) = false := by decide
    have c1 : (items.isEmpty || (1 : Int) == 1) = true := by simp
    wp_walk using wpAny_loadPart' hl
    repeat (first
      | (refine wpAny_ite_false (decide_eq_false (by rw [c0]; exact Bool.false_ne_true)) ?_; wp_walk using wpAny_loadPart' hl)
      | (refine wpAny_ite_true (decide_eq_true (by rw [c1])) ?_; wp_walk using wpAny_loadPart' hl))
    exact ⟨_, rfl, h⟩
section
variable {X : Cx}
/-- t * k -/
def rRepTA (K : PySem.W.Frag) : R2 := fun x y H Q => ∃ l k xs, x = .ref l ∧ y = .int k ∧ SqT K H l xs ∧ xs ≠ [] ∧ 1 ≤ k ∧ k ≤ 1000 ∧ xs.length ≤ 1000 ∧ (k = 1 → Q (.ref l) H) ∧ (k ≠ 1 → ∀ p, H p = none → Q (.ref p) (upd H p (.tup (List.replicate k.toNat xs).flatten)))
theorem op_repTA : OpR X (binaryOp .Mult) (rRepTA X.K) := by
  intro pins s σ H x y v u Q I rx ry h
  obtain ⟨l, k, xs, rfl, rfl, hT, hne, h1, h2, hz, q1, q2⟩ := h
  by_cases hk : k = 1
  · subst hk
    cases rx
    obtain ⟨t, rfl⟩ := ry
    obtain ⟨its, r, ⟨⟨cls, dd, data, sl⟩, ho, hc, n, hd⟩, hs⟩ := I.tuple hT
    simp only at hc hd
    subst hc hd
    refine wpAny_binaryOp_repeat_ref (T := "tuple") (U := "int") (by decide) ⟨_, ho, rfl⟩ (fun s' => typeIs_int s' 1 t) noFill_tuple_mul F.fills_int_mul F.slot_int_rmul repeat_tuple F.slot_int_index.lookup
      (call_meets F.slot_int_rmul (typeIs_int s 1 t) F.entry_int_rmul (F.args_int_rmul_2 _ _) (int_rmul_tuple 1 t l its.toArray n dd sl)
        ⟨ho, rfl, ⟨_, ho, rfl⟩, call_meets F.slot_tuple_mul ⟨_, ho, rfl⟩ F.entry_tuple_mul (F.args_tuple_mul_2 _ _) (tuple_mul1 l its.toArray n sl dd t) ⟨ho, ?_⟩⟩)
    exact ⟨.ref l, H, I, rfl, q1 rfl⟩
  · exact op_repT pins s σ H _ _ v u Q I rx ry ⟨l, k, xs, rfl, rfl, hT, hne, by omega, h2, hz, q2 hk⟩
/-- xs[i], for xs[i] += .. -/
theorem get_list : PGet X (rIxL X.K) := by
  intro pins s σ H x y v u Q I rx ry h
  obtain ⟨p, xs, i, z, rfl, rfl, hq, he, q⟩ := h
  cases rx
  obtain ⟨t, rfl⟩ := ry
  obtain ⟨its, r, pl, hz⟩ := I.list hq
  obtain ⟨j, h1, h2, h3, h4, h5⟩ := atI_get he
  obtain ⟨w, ew, rw'⟩ := r.get h2
  have hl := r.length
  have hn := line63
  have fin : EP X pins σ Q w s := ⟨z, H, I, rw', q⟩
  by_cases h0 : 0 ≤ i
  · have hj : i.toNat = j := by
      rw [seqIndex_of h0 h5] at h1
      exact Option.some.inj h1
    exact wpAny_getItem_list pl.isList h0 (by omega) (by rw [hj]; simpa using ew) fin
  · have hj : (i + (its.toArray.size : Int)).toNat = j := by
      rw [seqIndex_neg (by omega) h4] at h1
      rw [List.size_toArray, ← hl]
      exact Option.some.inj h1
    exact wpAny_getItem_list_neg pl.isList (by omega) (by rw [List.size_toArray] <;> omega) (by omega) (by rw [hj]; simpa using ew) fin
/-- f(k = b, ..): keywords alone -/
theorem pe_callK0 {CX : CXT} {k : Nat} {f : Addr} {fd : FuncData} {ps ks : List Str} {sp : Sp} {E : XK} {x : Str} {p pos : Pos} {kws : List Keyword} {tk : TA} {g : List Value → List Value → List Value} {gV : List V → List V → List V}
    (F : FnOk X.prog X.w X.K X.mg X.base CX k f fd ps sp) (hr : Room k X.A) (hg : Gl X x) (hm : X.mg x = some (.ref f)) (hk : PySem.W.keepIn X.K (.ref f) = true) (hb : KBinds X.K fd ps ks g gV) (hx : Passes CX X E)
    (hkw : PK X kws tk) (hall : (backToKw pos (keywordEach kws X.env)).all (·.1.isSome) = true := by rfl) (hks : (backToKw pos (keywordEach kws X.env)).filterMap (·.1) = ks := by rfl)
    (hdb : (x == ("__debug__" : Str)) = false := by decide) (hpl : ((backTo pos (starEach [] X.env)).any (·.1) || (backToKw pos (keywordEach kws X.env)).any (·.1.isNone)) = false := by rfl) :
    PE X (.Call (.Name x p) [] kws pos) (tCallK sp gV E tNil tk) := by
  refine ⟨fun pins s σ H Q I h => ?_⟩
  refine wpAny_Call_Name_kw (ld_glob I hg hm ?_ hdb)
  refine PySem.W.callWith_KW0 (h₀ := X.base) I.ok.mod.kin hk hall ?_ hpl
  refine thn (hkw.run pos pins s σ H _ I h) fun ws s2 ⟨zs, H2, I2, rz, q2⟩ => ⟨I2.kIn, ?_⟩
  rw [hks]
  exact run_fnk F hr hb hx I2 .nil rz q2
end
end L2

namespace PL
open PySem PySem.Spec PyProof.Rows L2
section
variable {C : Wd → XC → Prop} {K : PySem.W.Frag}
/-- t * k -/
def kRepT : D → D → (D → Prop) → Prop := fun x y Q => match x, y with | .tup a, .int k => (a ≠ [] ∧ 1 ≤ k ∧ k ≤ 1000 ∧ a.length ≤ 1000) ∧ Q (.tup (List.replicate k.toNat a).flatten) | _, _ => False
theorem k2_repT : K2 C (rRepTA K) kRepT := fun G _ n O H x y d e Qd Q W rx ry hk q => by
  unfold kRepT at hk
  split at hk
  · have qx := rx.tup'
    obtain ⟨a, xs, rfl, e1, r1⟩ := rx.tuple
    cases ry.int
    obtain ⟨⟨h0, h1, h2, h3⟩, hq⟩ := hk
    refine ⟨a, _, xs, rfl, rfl, sqT e1, fun z => ?_, h1, h2, by rw [r1.length]; exact h3, fun z => ?_, fun _ p hp => q _ _ _ hq (Grow.new _ hp) (Wd.okNew hp W.ok) (new_tup W hp (r1.flat _))⟩
    · subst z; cases r1; exact h0 rfl
    · subst z
      refine q _ _ H ?_ (Grow.refl _ _) W.ok qx
      have e : ∀ l : List D, (List.replicate (Int.toNat 1) l).flatten = l := fun l => List.append_nil l
      rw [e] at hq
      exact hq
  · exact hk.elim
/-- sorted(d), few ints as keys -/
def kSortedD : List D → (List D → Prop) → Prop := fun ds Q => ∃ (kvs : List (Key × D)) (ns : List Int), ds = [.dic kvs] ∧ kvs.map (·.1) = ns.map Sum.inl ∧ ns.length < 64 ∧ ∀ ns' : List Int, ns'.Perm ns → ns'.Pairwise (· ≤ ·) → Q (ns'.map D.int)
theorem RpD.keys {A : At} : ∀ {xs : List (Key × V)} {ds : List (Key × D)}, RpD A xs ds → xs.map (·.1) = ds.map (·.1)
  | _, _, .nil => rfl
  | _, _, .cons _ r => by rw [List.map_cons, List.map_cons, RpD.keys r]
theorem kl_sortedD : KL C (fun xs H Q => ∃ (a : Addr) (kvs : List (Key × V)) (ks : List Int), xs = [.ref a] ∧ Rd H a (.dK kvs) ∧ kvs.map (·.1) = ks.map Sum.inl ∧ ks.length < 64 ∧
    ∀ (ys : List Int) (p : Addr), ys.Perm ks → ys.Pairwise (· ≤ ·) → H p = none → Q (.ref p) (upd H p (.lst (ys.map V.int)))) kSortedD := fun G _ n O H vs ds Qd Q W r h q => by
  obtain ⟨kvs, ns, rfl, hk, h64, h⟩ := h
  obtain ⟨v, rfl, r1⟩ := r.one
  obtain ⟨a, xs, rfl, e, r⟩ := r1.dict
  exact ⟨a, xs, ns, rfl, rk_rd e, r.keys.trans hk, h64, fun ns' p hp hs hn => q _ p _ _ (h ns' hp hs) (Grow.new _ hn) (Wd.okNew hn W.ok) hn upd_same (.ofInts ns')⟩
end
abbrev rTupleOf (K : PySem.W.Frag) : List V → Hp → VK → Prop := fun xs H Q => ∃ p ys, xs = [.ref p] ∧ ((SqL K H p ys ∧ ∀ l, H l = none → Q (.ref l) (upd H l (.tup ys))) ∨ (SqT K H p ys ∧ Q (.ref p) H))
abbrev rListOf (K : PySem.W.Frag) : List V → Hp → VK → Prop := fun xs H Q => ∃ p ys, xs = [.ref p] ∧ (SqL K H p ys ∨ SqT K H p ys) ∧ ∀ l, H l = none → Q (.ref l) (upd H l (.lst ys))
/-! ### loops and comprehensions, by words -/
theorem loop_inv {g : GM} {b : SM} {P : Pe} (I : Nat → Ev → Prop) : ∀ (ds : List D) (k : Nat) (env : Ev), (∀ i d env (N : Ev → Prop), ds[i]? = some d → I (k + i) env → (∀ e, I (k + i + 1) e → N e) → g env d fun e1 => b e1 { P with nx := N, ct := N, bk := P.nx }) → I k env → (∀ e, I (k + ds.length) e → P.nx e) → loopP g b ds env P
  | [], k, env, _, h0, hd => hd env h0
  | d :: r, k, env, hs, h0, hd => hs 0 d env _ rfl h0 fun e he => loop_inv I r (k + 1) e (fun i d' env' N hi hI hN => hs (i + 1) d' env' N hi (by rw [show k + (i + 1) = k + 1 + i by omega]; exact hI) fun e he => hN e (by rw [show k + 1 + i + 1 = k + (i + 1) + 1 by omega]; exact he)) he fun e he => hd e (by rw [List.length_cons, show k + (r.length + 1) = k + 1 + r.length by omega]; exact he)
theorem loop_by {g : GM} {b : SM} {P : Pe} {ds : List D} {env : Ev} (I : Nat → Ev → Prop) (h0 : I 0 env) (hs : ∀ i d env (N : Ev → Prop), ds[i]? = some d → I i env → (∀ e, I (i + 1) e → N e) → g env d fun e1 => b e1 { P with nx := N, ct := N, bk := P.nx }) (hd : ∀ e, I ds.length e → P.nx e) : loopP g b ds env P :=
  loop_inv I ds 0 env (fun i d env N hi hI hN => hs i d env N hi (by rw [Nat.zero_add] at hI; exact hI) (by rw [Nat.zero_add] at hN; exact hN)) h0 (by rw [Nat.zero_add]; exact hd)
theorem lcP_map {i : Nat} {m : EM} {env : Ev} (f : D → D) : ∀ (ds acc : List D) (Q : List D → Prop), (∀ d ∈ ds, ∀ R : D → Prop, R (f d) → m (env.set i (.dat d)) R) → acc.length + ds.length ≤ sizeLine → Q (acc ++ ds.map f) → lcP (gN i) tmYes m env ds acc Q
  | [], acc, Q, _, _, q => by rw [List.map_nil, List.append_nil] at q; exact q
  | d :: r, acc, Q, h, hl, q => by
    show if true = true then m (env.set i (.dat d)) (fun y => acc.length < sizeLine ∧ lcP (gN i) tmYes m env r (acc ++ [y]) Q) else lcP (gN i) tmYes m env r acc Q
    rw [if_pos rfl]
    rw [List.length_cons] at hl
    refine h d List.mem_cons_self _ ⟨by omega, lcP_map f r _ Q (fun d' hd' => h d' (List.mem_cons_of_mem _ hd')) (by rw [List.length_append, List.length_singleton]; omega) ?_⟩
    rw [List.append_assoc]; exact q
theorem lcP_all {i : Nat} {m : EM} {env : Ev} (p : D → Prop) : ∀ (ds acc : List D) (Q : List D → Prop), (∀ d ∈ ds, ∀ R : D → Prop, (∀ y, p y → R y) → m (env.set i (.dat d)) R) → acc.length + ds.length ≤ sizeLine → (∀ ys, ys.length = ds.length → (∀ y ∈ ys, p y) → Q (acc ++ ys)) → lcP (gN i) tmYes m env ds acc Q
  | [], acc, Q, _, _, q => by have := q [] rfl (fun _ h => nomatch h); rw [List.append_nil] at this; exact this
  | d :: r, acc, Q, h, hl, q => by
    show if true = true then m (env.set i (.dat d)) (fun y => acc.length < sizeLine ∧ lcP (gN i) tmYes m env r (acc ++ [y]) Q) else lcP (gN i) tmYes m env r acc Q
    rw [if_pos rfl]
    rw [List.length_cons] at hl
    refine h d List.mem_cons_self _ fun y hy => ⟨by omega, lcP_all p r _ Q (fun d' hd' => h d' (List.mem_cons_of_mem _ hd')) (by rw [List.length_append, List.length_singleton]; omega) fun ys h1 h2 => ?_⟩
    rw [List.append_assoc]
    exact q (y :: ys) (by rw [List.length_cons, List.length_cons, h1]) fun z hz => by
      rcases List.mem_cons.mp hz with e | e
      · rw [e]; exact hy
      · exact h2 z e
/-- a loop is a fold -/
theorem loop_fold {α β : Type} {g : GM} {b : SM} {P : Pe} (enc : α → D) (stp : β → α → β) (I : β → Ev → Prop) : ∀ (l : List α) (s : β) (env : Ev), I s env → (∀ x ∈ l, ∀ s env (N : Ev → Prop), I s env → (∀ e, I (stp s x) e → N e) → g env (enc x) fun e1 => b e1 { P with nx := N, ct := N, bk := P.nx }) → (∀ e, I (l.foldl stp s) e → P.nx e) → loopP g b (l.map enc) env P
  | [], s, env, h0, _, hd => hd env h0
  | x :: r, s, env, h0, hs, hd => hs x List.mem_cons_self s env _ h0 fun e he => loop_fold enc stp I r (stp s x) e he (fun y hy => hs y (List.mem_cons_of_mem _ hy)) hd
theorem lcP_enc {α : Type} {i : Nat} {m : EM} {env : Ev} (enc f : α → D) : ∀ (l : List α) (acc : List D) (Q : List D → Prop), (∀ x ∈ l, ∀ R : D → Prop, R (f x) → m (env.set i (.dat (enc x))) R) → acc.length + l.length ≤ sizeLine → Q (acc ++ l.map f) → lcP (gN i) tmYes m env (l.map enc) acc Q
  | [], acc, Q, _, _, q => by rw [List.map_nil, List.append_nil] at q; exact q
  | d :: r, acc, Q, h, hl, q => by
    show if true = true then m (env.set i (.dat (enc d))) (fun y => acc.length < sizeLine ∧ lcP (gN i) tmYes m env (r.map enc) (acc ++ [y]) Q) else lcP (gN i) tmYes m env (r.map enc) acc Q
    rw [if_pos rfl]
    rw [List.length_cons] at hl
    refine h d List.mem_cons_self _ ⟨by omega, lcP_enc enc f r _ Q (fun d' hd' => h d' (List.mem_cons_of_mem _ hd')) (by rw [List.length_append, List.length_singleton]; omega) ?_⟩
    rw [List.append_assoc]; exact q
/-- .. of those that pass -/
theorem lcP_flt {α : Type} {i : Nat} {t : TM} {m : EM} {env : Ev} (enc : α → D) (p : α → Bool) (f : α → D) : ∀ (l : List α) (acc : List D) (Q : List D → Prop), (∀ x ∈ l, ∀ R : Bool → Prop, R (p x) → t (env.set i (.dat (enc x))) R) → (∀ x ∈ l, p x = true → ∀ R : D → Prop, R (f x) → m (env.set i (.dat (enc x))) R) → acc.length + l.length ≤ sizeLine → Q (acc ++ (l.filter p).map f) → lcP (gN i) t m env (l.map enc) acc Q
  | [], acc, Q, _, _, _, q => by rw [List.filter_nil, List.map_nil, List.append_nil] at q; exact q
  | d :: r, acc, Q, ht, hm, hl, q => by
    rw [List.length_cons] at hl
    show t (env.set i (.dat (enc d))) fun b => if b = true then m (env.set i (.dat (enc d))) (fun y => acc.length < sizeLine ∧ lcP (gN i) t m env (r.map enc) (acc ++ [y]) Q) else lcP (gN i) t m env (r.map enc) acc Q
    refine ht d List.mem_cons_self _ ?_
    cases hp : p d with
    | true =>
      rw [if_pos rfl]
      refine hm d List.mem_cons_self hp _ ⟨by omega, lcP_flt enc p f r _ Q (fun x hx => ht x (List.mem_cons_of_mem _ hx)) (fun x hx => hm x (List.mem_cons_of_mem _ hx)) (by rw [List.length_append, List.length_singleton]; omega) ?_⟩
      rw [List.filter_cons, hp, if_pos rfl, List.map_cons] at q
      rw [List.append_assoc]; exact q
    | false =>
      rw [if_neg Bool.false_ne_true]
      rw [List.filter_cons, hp, if_neg Bool.false_ne_true] at q
      exact lcP_flt enc p f r _ Q (fun x hx => ht x (List.mem_cons_of_mem _ hx)) (fun x hx => hm x (List.mem_cons_of_mem _ hx)) (by omega) q
theorem ixN_nat {n i : Nat} (h : i < n) : ixN n (i : Int) = some i := by
  unfold ixN
  rw [if_pos (by omega), if_pos (by omega)]; simp
/-! ### the worlds -/
def CA : Wd → Prop := fun _ => True
theorem se_callA {C : Wd → XC → Prop} {c : Nat} {t : TA} {am : AM} {S : List D → (D → Prop) → Prop} {E : XK} (h : SA C c t am) (hS : Mono S) : SE C c (tCall (spP CA 0 S) [] E t) (mCall am S) := se_call (k := 0) h hS fun _ _ _ => trivial
/-! ### keywords alone -/
def g0 {α : Type} (us ws : List α) : List α := match us with
  | [] => ws
  | _ :: _ => []
structure PrK (P : Program) (w : World) (K : PySem.W.Frag) (mg : Str → Option Value) (base : Heap) (x : Str) (k : Nat) (ps : List Str) (sp : Sp) : Prop where
  ex : ∃ f fd, FnOk P w K mg base CX0 k f fd ps sp ∧ mg x = some (.ref f) ∧ PySem.W.keepIn K (.ref f) = true ∧ KBinds K fd ps ps g0 g0
theorem kb_mk {K : PySem.W.Frag} {x qual : Str} {st : Stmt} {f : Addr} {fd : FuncData} {ps : List Str} (F : Fun K x qual st f fd) (hps : ps ≠ [])
    (h : ∀ (kV doc pm : Value) (an : Option Addr) (cdv ct : Value) (ws : List Value), ws.length = ps.length → bindArgs (PySem.W.fnOf x qual (defArgs st) (defBody st) (defScope st) .none kV doc pm an cdv ct) ⟨[], ps.zip ws⟩ = pure (ps.zip ws)) : KBinds K fd ps ps g0 g0 := by
  obtain ⟨oc, od, kV, doc, pm, an, cdv, ct, osl, rfl, lk, hcd⟩ := F.ex
  refine ⟨fun s us ws _ hl => ?_, fun {vs us zs ws} r rz => ?_⟩
  · cases us with
    | nil => exact .of_eq (h kV doc pm an cdv ct ws hl)
    | cons u us => exact absurd (List.length_eq_zero_iff.mp hl.symm) hps
  · cases r with
    | nil => exact rz
    | cons a r => exact .nil
theorem pe_callKP {X : Cx} {x : Str} {k : Nat} {ps : List Str} {sp : Sp} {p pos : Pos} {kws : List Keyword} {t : TA} (h : PrK X.prog X.w X.K X.mg X.base x k ps sp) (hr : Room k X.A) (hg : Gl X x) (ha : PK X kws t)
    (hall : (backToKw pos (keywordEach kws X.env)).all (·.1.isSome) = true := by rfl) (hks : (backToKw pos (keywordEach kws X.env)).filterMap (·.1) = ps := by rfl)
    (hdb : (x == ("__debug__" : Str)) = false := by decide) (hpl : ((backTo pos (starEach [] X.env)).any (·.1) || (backToKw pos (keywordEach kws X.env)).any (·.1.isNone)) = false := by rfl) :
    PE X (.Call (.Name x p) [] kws pos) (tCallK sp g0 E0 tNil t) := by
  obtain ⟨f, fd, h1, h2, h3, h4⟩ := h.ex
  exact pe_callK0 h1 hr hg h2 h3 h4 pass0 ha hall hks hdb hpl
theorem g0_rp {A : PL.At} : ∀ (vs zs : List V) (ds es : List D), RpL A vs ds → RpL A zs es → RpL A (g0 vs zs) (g0 ds es)
  | _, _, _, _, .nil, r => r
  | _, _, _, _, .cons _ _, _ => .nil
theorem se_callKA {C : Wd → XC → Prop} {c : Nat} {t : TA} {am : AM} {S : List D → (D → Prop) → Prop} {E : XK} (h : SA C c t am) (hS : Mono S) : SE C (0 + (c + 0)) (tCallK (spP CA 0 S) g0 E tNil t) (mCall am S) := se_callK (k := 0) g0 (fun A vs zs ds es r1 r2 => g0_rp vs zs ds es r1 r2) sa_nil h hS fun _ _ _ => trivial
/-! ### numbers and texts that are judged -/
def big : Int := 1000000000000000000
def isNum : D → Bool
  | .int i => decide (-big < i) && decide (i < big)
  | _ => false
end PL

namespace GaT
open PySem PyProof.Rows Srt SrtO
section
variable {prog : Program} {w : World} {A : Around} {E : Value → Shared → Prop} {s : Shared}
/-- a tuple's items gathered -/
theorem gather_tup {l : Addr} {o : Obj} {n : Nat} {vs : List Value} {Q : List Value → Shared → Prop} (g1 : s.heap.get? l = some o) (g2 : o.cls = .type "tuple") (g3 : o.data = .seq vs.toArray n)
    (fin : Q vs { s with heap := (s.heap.push (seqObj "list" #[] 0)).update s.heap.objs.size (Obj.mapSeq (· ++ vs.toArray)) }) (few : vs.length ≤ sizeLine) :
    wpAny (model prog w) A (collect (.ref l)) Q E s := by
  unfold collect
  refine wpAny_bind (wpAny_runValue (codeAny_builtin entry_proto_collect' ?_))
  show wpAny _ _ (do again (.builtin "list.__iadd__" ⟨[← newList [], .ref l], []⟩)) _ _ s
  refine wpAny_bind (wpAny_newList (wpAny_pure ⟨Code.quiet_builtin _ (by decide +kernel), codeAny_builtin entry_list_iadd' ?_⟩))
  have g1' : (s.heap.push (seqObj "list" #[] 0)).get? l = some o := Heap.get?_push_of_some _ g1
  have new : (s.heap.push (seqObj "list" #[] 0)).get? s.heap.objs.size = some (seqObj "list" #[] 0) := Heap.get?_push_size _ rfl
  show wpAny _ _ (Builtin.List.listExtendWith (.ref s.heap.objs.size) (.ref l) (.ref s.heap.objs.size)) _ _ { s with heap := s.heap.push (seqObj "list" #[] 0) }
  unfold Builtin.List.listExtendWith
  refine wpAny_bind (wpAny_typeOf (T := "tuple") ⟨o, g1', g2⟩ ?_)
  have tt : (Value.type "tuple" == Value.type "tuple") = true := by rfl
  rw [if_pos (by rw [tt, Bool.or_true])]
  refine wpAny_bind (listItems_at g1' g3 (wpAny_bind (listItems_at (xs := #[]) (n := 0) new rfl ?_)))
  rw [if_neg (by simp)]
  refine wpAny_bind (listUpdate_at (xs := #[]) (n := 0) new rfl ?_ (Nat.zero_le _) (by simp only [Array.size_append, List.size_toArray, List.length_nil]; omega))
  refine wpAny_pure ?_
  show wpAny (model prog w) A (do
      let o ← load s.heap.objs.size
      match o.data with
      | .seq xs _ => pure xs.toList
      | _ => unsupported "internal:collect") Q E { s with heap := (s.heap.push (seqObj "list" #[] 0)).update s.heap.objs.size (Obj.mapSeq (· ++ vs.toArray)) }
  refine wpAny_bind (wpAny_load (get?_update_seq new _) ?_)
  have back : ((#[] : Array Value) ++ vs.toArray).toList = vs := by simp
  show wpAny _ _ (pure ((#[] : Array Value) ++ vs.toArray).toList) Q E _
  rw [back]
  exact wpAny_pure fin
/-- sorted(t), t a tuple -/
theorem sorted_tup {l : Addr} {o : Obj} {n : Nat} {vs : List Value} {lt : Value → Value → Bool} {Q : Value → Shared → Prop} (O : Swo lt) (g1 : s.heap.get? l = some o) (g2 : o.cls = .type "tuple") (g3 : o.data = .seq vs.toArray n) (few : vs.length ≤ sizeLine)
    (ask : 2 ≤ vs.length → ∀ (h₁ : Heap) (a : Addr), SortableO prog w A.in1.in1 { s with heap := h₁ } a vs lt)
    (fin : ∀ out : List Value, Srtd lt out → Stb lt out vs → Q (.ref (s.heap.objs.size + 1)) { s with heap := sortedAll s.heap vs out.toArray }) :
    wpAny (model prog w) A (call (.builtin "sorted") [.ref l]) Q E s := by
  refine Calls.call_function_entry kind_sorted plain_sorted entry_sorted (args_sorted1 _) ?_
  unfold Builtin.«sorted»
  refine wpAny_bind (m := checkCount "sorted" 1 1 _) (wpAny_pure (wpAny_bind (gather_tup g1 g2 g3 (wpAny_bind (wpAny_newList ?_ few)) few)))
  generalize hg : (s.heap.push (seqObj "list" #[] 0)).update s.heap.objs.size (Obj.mapSeq (· ++ vs.toArray)) = G
  have size : G.objs.size = s.heap.objs.size + 1 := by rw [← hg, Heap.size_update, size_push']
  have there : (G.push (seqObj "list" vs.toArray 0)).get? (s.heap.objs.size + 1) = some (seqObj "list" vs.toArray 0) := by rw [← size]; exact Heap.get?_push_size _ rfl
  show wpAny _ _ _ _ _ { s with heap := G.push (seqObj "list" vs.toArray 0) }
  rw [size]
  refine wpAny_bind (wpAny_holding (wpAny_call_entry slot_list_sort ⟨_, there, rfl⟩ entry_list_sort (list_sort_ord O there few (fun two => ask two _ _) fun out r1 r2 => ⟨_, rfl, ?_⟩) (args_list_sort _)))
  refine wpAny_pure ⟨_, rfl, ?_⟩
  have := fin out r1 r2
  unfold sortedAll at this
  rw [hg] at this
  exact this
end
end GaT
namespace L2
open PySem PySem.Spec PyProof.Rows
section
variable {X : Cx}
/-- sorted(t), t a tuple of ints -/
def rSortedTI (K : PySem.W.Frag) : List V → Hp → VK → Prop := fun vs H Q => ∃ (a : Addr) (ns : List Int), vs = [V.ref a] ∧ SqT K H a (ns.map V.int) ∧
  ∀ (ms : List Int) (p : Addr), ms.Perm ns → ms.Pairwise (· ≤ ·) → H p = none → Q (.ref p) (upd H p (.lst (ms.map V.int)))
theorem cr_sortedTI : CallR X (.builtin "sorted") (rSortedTI X.K) := by
  intro pins s σ H vs us Q I r h
  obtain ⟨a, ns, rfl, hs, q⟩ := h
  obtain ⟨its, rv, ⟨o, g1, g2, n, g3⟩, hz⟩ := I.tuple hs
  rw [Vals.ref1 r]
  have hi := rv.ints
  have lz : its.length ≤ sizeLine := by rw [← rv.length]; exact hz
  refine GaT.sorted_tup SrtO.swo_int g1 g2 g3 lz (fun two h₁ b => SrtO.ints_sortable hi two) fun out e1 e2 => ?_
  obtain ⟨k1, k2, k3⟩ := SrtO.ints_out hi e1 e2
  obtain ⟨ep, at'⟩ := PyProof.Rows.sortedAll_at s.heap its out.toArray
  have lo : ((out.map SrtO.iv).map V.int).length ≤ sizeLine := by
    rw [List.length_map, k2.length_eq]
    rw [List.length_map] at hz; exact hz
  exact ⟨.ref _, upd H (s.heap.objs.size + 1) (.lst ((out.map SrtO.iv).map V.int)), I.laid (t' := s.toks) (fun _ _ => PyProof.Rows.sortedAll_old) (Nat.le_succ _) ⟨lo, out, ep, vals_of_ints k1, at'⟩, rfl, q _ _ k2 k3 (I.hok.fresh (Nat.le_succ _))⟩
/-- t.index(i), t a tuple of ints, the first place -/
def rIndexTI (K : PySem.W.Frag) : V → List V → Hp → VK → Prop := fun x xs H Q => ∃ (p : Addr) (ns : List Int) (i : Int) (j : Nat), x = .ref p ∧ xs = [.int i] ∧ SqT K H p (ns.map V.int) ∧ ns[j]? = some i ∧ (∀ m, m < j → ns[m]? ≠ some i) ∧ Q (.int (j : Nat)) H
theorem flat_is (ns : List Int) : (ns.map V.int).all flatV = true := by induction ns with | nil => rfl | cons n ns ih => simp [flatV, ih]
theorem mt_tindex : MtR X "tuple.index" (rIndexTI X.K) := by
  intro pins s σ H x xs v us Q I rx rs h
  obtain ⟨p, ns, i, j, rfl, rfl, hq, hy, hno, q⟩ := h
  cases rx
  obtain ⟨u, rfl, t, rfl⟩ := vals1 rs
  obtain ⟨its, r, ⟨⟨cls, dd, dt, sl⟩, ho, hc, n, hd⟩, hz⟩ := I.tuple hq
  dsimp only at hc hd
  subst hc hd
  have sz : its.toArray.size = ns.length := by rw [List.size_toArray, ← r.length, List.length_map]
  have item : ∀ (m : Nat) (hm : m < its.toArray.size), ∃ k t', ns[m]? = some k ∧ its.toArray[m] = Value.int k t' := fun m hm => by
    have hm' : m < ns.length := by omega
    obtain ⟨w, hw, t', ew⟩ := r.get (i := m) (x := .int ns[m]) (by simp [hm'])
    refine ⟨ns[m], t', List.getElem?_eq_getElem hm', ?_⟩
    rw [← ew, ← (List.getElem?_eq_some_iff.mp hw).2]; simp
  have hj : j < its.toArray.size := by rw [sz]; exact (List.getElem?_eq_some_iff.mp hy).1
  refine call_meets PySem.F.slot_tuple_index ⟨_, ho, rfl⟩ PySem.F.entry_tuple_index (PySem.F.args_tuple_index_2 _ _) (TI.tuple_indexAt p its.toArray n dd sl (.int i t) (eqU (.int i)) j hj ?_ ?_)
    ⟨ho, fun w hw => mem_eqAt (x := .int i) ⟨t, rfl⟩ rfl r (flat_is ns) w (by simpa using hw), ⟨.int (j : Nat), H, I.tok _, ⟨_, rfl⟩, q⟩⟩
  · obtain ⟨k, t', e1, e2⟩ := item j hj
    rw [hy] at e1; cases e1
    rw [e2]; show (i == i) = true; exact beq_self_eq_true i
  · intro m hm hmj
    obtain ⟨k, t', e1, e2⟩ := item m hm
    rw [e2]; show (k == i) = false
    exact beq_eq_false_iff_ne.mpr fun e => hno m hmj (e ▸ e1)
end
end L2

namespace PL
open PySem PySem.Spec PyProof.Rows L2
section
variable {C : Wd → XC → Prop} {K : PySem.W.Frag} {te ta tb tc tk ti to : TE} {tt tu : TT} {t tr : TA} {m ma mb mc mk mi : EM} {mt mu : TM} {mx my : XM} {am ar : AM} {i j c c1 c2 c3 : Nat} {ts tz : TS} {sm sz : SM}
/-! ### is, is not of truth values -/
def kIsB (p : Bool → Bool) : D → D → (D → Prop) → Prop := fun x y Q => match x, y with | .bl a, .bl b => Q (.bl (p (decide (a = b)))) | _, _ => False
theorem k2_isB : K2 C rIsB (kIsB id) := fun G _ n O H x y d e Qd Q W rx ry hk q => by
  unfold kIsB at hk
  split at hk
  · exact ⟨_, _, rx.bl, ry.bl, q _ _ H hk (Grow.refl _ _) W.ok (.bl _)⟩
  · exact hk.elim
theorem k2_notB : K2 C rNotB (kIsB not) := fun G _ n O H x y d e Qd Q W rx ry hk q => by
  unfold kIsB at hk
  split at hk
  · exact ⟨_, _, rx.bl, ry.bl, q _ _ H hk (Grow.refl _ _) W.ok (.bl _)⟩
  · exact hk.elim
/-! ### sorted(t), t.index(i), xs[::-1] -/
def kSortedTI : List D → (List D → Prop) → Prop := fun ds Q => ∃ ns : List Int, ds = [.tup (ns.map D.int)] ∧ ∀ ns' : List Int, ns'.Perm ns → ns'.Pairwise (· ≤ ·) → Q (ns'.map D.int)
theorem kl_sortedTI : KL C (rSortedTI K) kSortedTI := fun G _ n O H vs ds Qd Q W r h q => by
  obtain ⟨ns, rfl, h⟩ := h
  obtain ⟨v, rfl, r1⟩ := r.one
  obtain ⟨a, xs, rfl, e, r⟩ := r1.tuple
  rw [r.ints] at e
  exact ⟨a, ns, rfl, sqT e, fun ns' p hp hs hn => q _ p _ _ (h ns' hp hs) (Grow.new _ hn) (Wd.okNew hn W.ok) hn upd_same (.ofInts ns')⟩
def mRevL (m : EM) : AM := fun env Q => m env fun d => match d with | .lst l => Q l.reverse | _ => False
theorem sl_revL (h : SR C c te m) : SL C c (tRevL K te) (mRevL m) := fun G c n O env σ H Qd Q hL F hm k =>
  h G c n O env σ H _ _ hL F hm fun d v H1 h1 g1 ok1 r1 => by
    split at h1
    · obtain ⟨a, xs, rfl, e, r⟩ := r1.list
      exact ⟨a, xs, rfl, sqL e, fun p hp => k _ p _ _ h1 (g1.trans (Grow.new _ hp)) (Wd.okNew hp ok1) (g1.free ok1 hp) upd_same (r.rev.mono (add_le (G := G) hp))⟩
    · exact h1.elim
end
end PL

namespace PL
open PySem PySem.Spec PyProof.Rows L2
section
variable {C : Wd → XC → Prop} {K : PySem.W.Frag} {te ta tb tc tk ti to : TE} {tt tu : TT} {t tr : TA} {m ma mb mc mk mi : EM} {mt mu : TM} {mx my : XM} {am ar : AM} {i j c c1 c2 c3 : Nat} {ts tz : TS} {sm sz : SM}
/-! ### == of truth values -/
def kEqB (p : Bool → Bool) : D → D → (D → Prop) → Prop := fun x y Q => match x, y with | .bl a, .bl b => Q (.bl (p (decide (a = b)))) | _, _ => False
theorem k2_eqB : K2 C rEq (kEqB id) := fun G _ n O H x y d e Qd Q W rx ry hk q => by
  unfold kEqB at hk
  split at hk
  · cases rx.bl; cases ry.bl
    refine ⟨rfl, q _ _ H hk (Grow.refl _ _) W.ok ?_⟩
    have e : ∀ i j : Bool, decide (V.bl i = V.bl j) = decide (i = j) := fun i j => by simp
    rw [e]; exact .bl _
  · exact hk.elim
theorem k2_neB : K2 C rNe (kEqB not) := fun G _ n O H x y d e Qd Q W rx ry hk q => by
  unfold kEqB at hk
  split at hk
  · cases rx.bl; cases ry.bl
    refine ⟨rfl, q _ _ H hk (Grow.refl _ _) W.ok ?_⟩
    have e : ∀ i j : Bool, decide (V.bl i = V.bl j) = decide (i = j) := fun i j => by simp
    rw [e]; exact .bl _
  · exact hk.elim
/-! ### x.append(y.pop(e)) -/
def sAppPop (i j : Nat) (m : EM) : SM := fun env P => match env[i]?, env[j]? with
  | some (.own xs), some (.own ys) => i ≠ j ∧ m env fun d => (match d with | .int k => (match ys[k.toNat]? with | some y => (0 ≤ k ∧ ys.length ≤ sizeLine ∧ xs.length < sizeLine) ∧ P.nx ((env.set j (.own (ys.eraseIdx k.toNat))).set i (.own (xs ++ [y]))) | none => False) | _ => False)
  | _, _ => False
theorem ss_appPop (h : SE C c te m) : SS C c (tDrop (tBM K "list" rAppend (tVar i) (tCons (tBM K "list" rPopAt (tVar j) (tCons te tNil)) tNil))) (sAppPop i j m) := fun G cg n O env σ H P D hL F hm e => by
  unfold sAppPop at hm
  split at hm
  · rename_i ds es ei ej
    obtain ⟨hij, hm⟩ := hm
    obtain ⟨v, esi, s⟩ := F.sl i _ ei (by intro z; cases z)
    obtain ⟨u, esj, s'⟩ := F.sl j _ ej (by intro z; cases z)
    cases s with
    | @own a xs _ eh oa r =>
      cases s' with
      | @own b ys _ eh' ob r' =>
        refine ⟨_, esi, .inl ⟨rfl, xs, sqL eh⟩, _, esj, .inl ⟨rfl, ys, sqL eh'⟩, ?_⟩
        refine h G cg n O env σ H _ _ hL F hm fun d w H1 q1 g ok rv => ?_
        split at q1
        · rename_i k
          split at q1
          · rename_i y hy
            obtain ⟨⟨h0, hl, hl2⟩, q⟩ := q1
            cases rv
            have F1 := F.grow g ok
            have eh1 := g _ _ eh oa.z
            have eh1' := g _ _ eh' ob.z
            have r1 := r.mono (sh_grow F.wl.zo g)
            have r1' := r'.mono (sh_grow F.wl.zo g)
            obtain ⟨z, hz, rz⟩ := r1'.get hy
            have hlt := (List.getElem?_eq_some_iff.mp hz).1
            have hk : k = (k.toNat : Int) := by omega
            have hsl := sizeLine_eq
            have hll := r1'.length
            have six : seqIndex? k ys.length = some k.toNat := by
              have h3 : k < (ys.length : Int) := by omega
              unfold seqIndex?
              simp only [if_neg (show ¬ k < 0 by omega)]
              rw [decide_eq_true h0, decide_eq_true h3]
              rfl
            refine ⟨b, ys, k, k.toNat, z, rfl, rfl, eh1', by omega, by omega, six, hz, ?_⟩
            have hab : a ≠ b := fun z => by
              subst z
              exact hij (F.uq i j a ⟨_, ei, rfl⟩ ⟨_, ej, rfl⟩ esi esj)
            have le1 : LeA (Sh O H1) (Sh O (upd H1 b (.lst (ys.eraseIdx k.toNat)))) := own_le ob
            have F2 := F1.mut (c' := .own (es.eraseIdx k.toNat)) (o := .lst (ys.eraseIdx k.toNat)) ej esj rfl rfl ob fun H' l e' => .own e' ob ((r1'.eraseIdx k.toNat).mono l)
            have ei2 : (env.set j (.own (es.eraseIdx k.toNat)))[i]? = some (.own ds) := by rw [List.getElem?_set_ne hij.symm]; exact ei
            refine ⟨a, xs, z, rfl, rfl, by rw [upd_ne hab]; exact eh1, by rw [r.length]; exact hl2, ?_⟩
            have F3 := F2.mut (c' := .own (ds ++ [y])) (o := .lst (xs ++ [z])) ei2 esi rfl rfl oa fun H' l e' => .own e' oa (((r1.mono le1).append (.cons (rz.mono le1) .nil)).mono l)
            exact e.nx O _ _ _ ((sh_grow F.wl.zo g).trans (le1.trans (own_le oa))) F3 q
          · exact q1.elim
        · exact q1.elim
  · exact hm.elim
end
end PL

namespace PL
open PySem PySem.Spec PyProof.Rows L2
section
variable {C : Wd → XC → Prop} {K : PySem.W.Frag} {te ta tb tc tk tl ti to : TE} {tt tu : TT} {t tr : TA} {m ma mb mc mk ml mi : EM} {mt mu : TM} {mx my : XM} {am ar : AM} {i j c c1 c2 c3 c4 : Nat} {ts tz : TS} {sm sz : SM}
/-- d.get(k, x) -/
def mGet2 (md mk mx : EM) : EM := fun env Q => md env fun x => match x with
  | .dic kvs => mk env fun y => mx env fun z => (match y.key with | some k => Q ((getD kvs k).getD z) | none => False)
  | _ => False
theorem se_get2 (hd : SR C c1 ta m) (hk : SE C c2 tk mk) (hx : SE C c3 tb mb) : SE C (c1 + (c2 + c3)) (tDGet2 ta tk tb) (mGet2 m mk mb) := fun G c n O env σ H Qd Q hL F hm q =>
  hd G c n O env σ H _ _ (by omega) F hm fun x v H1 h1 g1 ok1 r1 => by
    have F1 := F.grow g1 ok1
    split at h1
    · rename_i kvs
      obtain ⟨a, xs, ev, e, r⟩ := r1.dict
      refine ⟨a, ev, .inl ⟨xs, rk_rd e⟩, hk G c _ O env σ H1 _ _ (by omega) F1 h1 fun y u H2 h2 g2 ok2 r2 => hx G c _ O env σ H2 _ _ (by omega) (F1.grow g2 ok2) h2 fun z w H3 h3 g3 ok3 r3 => ?_⟩
      have W2 := F1.wl.grow g2 ok2
      subst ev
      obtain ⟨a', xs', ea, e', r'⟩ := ((r1.grow F1.wl g2).grow W2 g3).dict
      cases ea
      split at h3
      · rename_i k hk'
        have eu := (Rr.dat (G := G) r2).key hk'
        subst eu
        have this := r'.get (k := k)
        refine ⟨valV xs' k, dgetK e', ?_⟩
        have fin := q _ ((valV xs' k).getD w) H3 h3 (g1.trans (g2.trans g3)) (by rw [show n + (c1 + (c2 + c3)) = n + c1 + c2 + c3 by omega]; exact ok3)
        cases hg : getD kvs k with
        | none =>
          rw [hg] at this fin
          rw [this] at fin ⊢
          exact fin r3
        | some d =>
          rw [hg] at this fin
          obtain ⟨w', hw, rw'⟩ := this
          rw [hw] at fin ⊢
          exact fin rw'
      · exact h3.elim
    · exact h1.elim
/-- x[k], y[l] = (a, b): two own dicts -/
def sPut2 (N i j : Nat) (mk ml ma mb : EM) : SM := fun env P => match env[i]?, env[j]? with
  | some (.owd kx), some (.owd ky) => (i ≠ j ∧ 2 = N) ∧ ma env fun a => mb env fun b => mk env fun u => (match u.key with
    | some k => (2 ≤ sizeLine ∧ kx.length < sizeLine ∧ ky.length < sizeLine) ∧ ml (env.set i (.owd (putD kx k a))) fun v => (match v.key with
      | some l => P.nx ((env.set i (.owd (putD kx k a))).set j (.owd (putD ky l b)))
      | none => False)
    | none => False)
  | _, _ => False
theorem ss_put2 {N : Nat} (hk : SE C c3 tk mk) (hl : SE C c4 tl ml) (ha : SE C c1 ta ma) (hb : SE C c2 tb mb) : SS C (c1 + (c2 + (c3 + c4))) (tAsg (tTup (tCons ta (tCons tb tNil))) (gTup K N (gCons (gSub (tVar i) tk rSetD) (gCons (gSub (tVar j) tl rSetD) gNil)))) (sPut2 N i j mk ml ma mb) := fun G c n O env σ H P D hL F hm e => by
  unfold sPut2 at hm
  split at hm
  · rename_i kx ky ei ej
    obtain ⟨⟨hij, hN⟩, hm⟩ := hm
    subst hN
    refine ha G c n O env σ H _ _ (by omega) F hm fun d v H1 q1 g1 ok1 r1 => hb G c _ O env σ H1 _ _ (by omega) (F.grow g1 ok1) q1 fun d' u H2 q2 g2 ok2 r2 => ?_
    refine ⟨(by show 2 ≤ sizeLine; rw [sizeLine_eq]; omega), fun p hp => ?_⟩
    have F2 := (F.grow g1 ok1).grow g2 ok2
    have g3 : Grow G.w H2 (upd H2 p (.tup [v, u])) := Grow.new _ hp
    have ok3 := Wd.okNew (o := HO.tup [v, u]) hp ok2
    have F3 := F2.grow g3 ok3
    have rv := r1.mono (sh_grow F.wl.zo (g2.trans g3))
    have ru := r2.mono (sh_grow F.wl.zo g3)
    refine ⟨p, [v, u], rfl, sqT (.inl upd_same), rfl, v, [u], rfl, ?_⟩
    obtain ⟨vi, esi, si⟩ := F3.sl i _ ei (by intro z; cases z)
    obtain ⟨vj, esj, sj⟩ := F3.sl j _ ej (by intro z; cases z)
    cases si with
    | @owd a xs _ eh oa r =>
      cases sj with
      | @owd b ys _ eh' ob r' =>
        have hab : a ≠ b := fun z => by subst z; exact hij (F3.uq i j a ⟨_, ei, rfl⟩ ⟨_, ej, rfl⟩ esi esj)
        refine ⟨_, esi, hk G c _ O env σ _ _ _ (by omega) F3 q2 fun y w H4 q4 g4 ok4 r4 => ?_⟩
        split at q4
        · rename_i k hk'
          obtain ⟨⟨_, l1, l2⟩, q4⟩ := q4
          have eu := (Rr.dat (G := G) r4).key hk'
          subst eu
          have F4 := F3.grow g4 ok4
          have eh4 := g4 _ _ eh oa.z
          have r5 := r.mono (sh_grow F3.wl.zo g4)
          refine ⟨a, _, rfl, DPut.k eh4 (by rw [r5.length]; exact l1), ?_⟩
          have M1 := F4.mut (c' := .owd (putD kx k d)) (o := .dK (putK xs k v)) ei esi rfl rfl oa fun H' l e' => .owd e' oa ((r5.put (rv.mono (sh_grow F3.wl.zo g4))).mono l)
          have le1 : LeA (Sh O H4) (Sh O (upd H4 a (.dK (putK xs k v)))) := own_le oa
          refine ⟨u, [], rfl, _, esj, hl G c _ O _ σ _ _ _ (by omega) M1 q4 fun y2 w2 H5 q5 g5 ok5 rk5 => ?_⟩
          split at q5
          · rename_i l hl'
            have eu := (Rr.dat (G := G) rk5).key hl'
            subst eu
            have M2 := M1.grow g5 ok5
            have eh5 : H5 b = some (.dK ys) := g5 _ _ (by rw [upd_ne hab.symm]; exact g4 _ _ eh' ob.z) ob.z
            have r6 := ((r'.mono (sh_grow F3.wl.zo g4)).mono le1).mono (sh_grow M1.wl.zo g5)
            have ru6 := ((ru.mono (sh_grow F3.wl.zo g4)).mono le1).mono (sh_grow M1.wl.zo g5)
            refine ⟨b, _, rfl, DPut.k eh5 (by rw [r6.length]; exact l2), rfl, ?_⟩
            have ej2 : (env.set i (.owd (putD kx k d)))[j]? = some (.owd ky) := by rw [List.getElem?_set_ne hij]; exact ej
            have M3 := M2.mut (c' := .owd (putD ky l d')) (o := .dK (putK ys l u)) ej2 esj rfl rfl ob fun H' l e' => .owd e' ob ((r6.put ru6).mono l)
            have en : n + c1 + c2 + c3 + c4 = n + (c1 + (c2 + (c3 + c4))) := by omega
            rw [en] at M3
            exact e.nx O _ _ _ ((sh_grow F.wl.zo (g1.trans (g2.trans (g3.trans g4)))).trans (le1.trans ((sh_grow M1.wl.zo g5).trans (own_le ob)))) M3 q5
          · exact q5.elim
        · exact q4.elim
  · exact hm.elim
end
end PL

/-! enumerate(tuple) -/
namespace PySem
open Sem (wp)
theorem meets_enumerate_newB1 {v : Value} {o : Obj} {H : Heap → Prop} (B : Begins v o H) :
    Meets (Builtin.«enumerate.__new__» ⟨[.type "enumerate", v], []⟩) (fun _ R s => H s.heap ∧
      R (.ok (.ret (.ref (s.heap.push o).objs.size))) { s with heap := (s.heap.push o).push { cls := .type "enumerate", data := .fields #[.none, .bool false, .ref s.heap.objs.size, rawInt 0, .none, .none] } }) :=
  .of_wp fun prog w A R s h => by
    obtain ⟨hp, g, d, tk, os⟩ := s; obtain ⟨h1, h⟩ := h
    have hsub := sub_enumerate
    have q1 : ∀ {A' : Around} {E : Value → Shared → Prop} {Q : Value → Shared → Prop}, Q (.ref hp.objs.size) ⟨hp.push o, g, d, tk, os⟩ → wpAny (model prog w) A' (pyIter v) Q E ⟨hp, g, d, tk, os⟩ :=
      fun q => B.iter prog w _ _ ⟨hp, g, d, tk, os⟩ _ h1 q
    wp_walk using q1
    refine wpAny_stack_any fun st => wpAny_pure ?_
    split
    · rename_i c _ _ _ _ _
      cases (c == Value.type "enumerate")
      · wp_walk using q1
        exact ⟨_, rfl, h⟩
      · wp_walk using q1
        exact ⟨_, rfl, h⟩
    · wp_walk using q1
      exact ⟨_, rfl, h⟩
section
variable {prog : Program} {w : World} {A : Around} {E : Value → Shared → Prop} {s : Shared}
theorem enum_begins1 {v : Value} {o : Obj} {H : Heap → Prop} {Q : Value → Shared → Prop} (B : Begins v o H) (h1 : H s.heap)
    (h : ∀ h', IsEnum h' (s.heap.objs.size + 1) s.heap.objs.size 0 .none → h'.get? s.heap.objs.size = some o → h'.objs.size = s.heap.objs.size + 2 →
      (∀ b o, s.heap.get? b = some o → h'.get? b = some o) → Q (.ref (s.heap.objs.size + 1)) { s with heap := h' }) :
    wpAny (model prog w) A (call (.type "enumerate") [v]) Q E s := by
  refine callType_new F.called_enumerate (by decide) (F.typeCall_enumerate_1 _) (F.newCall_enumerate_1 _) (fun obj => F.args_object_init_2 obj _) F.entry_enumerate_new
    (meets_enumerate_newB1 B) ⟨h1, ?_⟩
  have hz : (s.heap.push o).objs.size = s.heap.objs.size + 1 := Heap.size_push ..
  show _ ∧ _
  rw [hz]
  have he : IsEnum ((s.heap.push o).push { cls := .type "enumerate", data := .fields #[.none, .bool false, .ref s.heap.objs.size, rawInt 0, .none, .none] }) (s.heap.objs.size + 1) s.heap.objs.size 0 .none := by
    have := Heap.get?_push_size (s.heap.push o) (o := { cls := .type "enumerate", data := .fields #[.none, .bool false, .ref s.heap.objs.size, rawInt 0, .none, .none] }) rfl
    rw [hz] at this; exact this
  refine ⟨⟨_, he, rfl⟩, h _ he (Heap.get?_push_of_some _ (Heap.get?_push_size _ B.free)) (by rw [Heap.size_push, hz]) fun b o x => Heap.get?_push_of_some _ (Heap.get?_push_of_some _ x)⟩
end
end PySem
namespace L2
open PySem PySem.Spec PyProof.Rows
def IteT (K : PySem.W.Frag) (a : Addr) : It :=
  ⟨fun i H => ∃ (xs : List V) (x : V), SqT K H a xs ∧ xs[i]? = some x, fun i H v H' => ∃ T x, v = .ref T ∧ H T = none ∧ H' = upd H T (.tup [.int (i : Nat), x]) ∧ ∀ xs, SqT K H a xs → xs[i]? = some x, fun i H => ∃ xs : List V, SqT K H a xs ∧ xs.length ≤ i⟩
theorem turn_enumT {P : Program} {w : World} {K : PySem.W.Frag} {elts : List Expr} {kk : Nat} {tpos : Pos} (a e it : Addr) :
    Turn P w K (.Tuple elts kk tpos) (IteT K a) [e, it] e (fun i h => (∃ old, IsEnum h e it ((i : Nat) : Int) old) ∧ h.IsTupleIter it a i ∧ e ≠ it ∧ a ≠ it ∧ e ≠ a) where
  mem := by simp
  obj := fun i h st b hb => by
    obtain ⟨⟨old, he⟩, ⟨o, ho, hc, hd⟩, _⟩ := st
    have e' : b = e ∨ b = it := by simpa using hb
    rcases e' with z | z
    · rw [z]; exact ⟨_, he, fun v q => nomatch q⟩
    · rw [z]; exact ⟨o, ho, fun v q => by rw [hd] at q; cases q⟩
  keep := fun i h h' st k => let ⟨⟨old, he⟩, hi, hne⟩ := st; ⟨⟨old, k e (by simp) _ he⟩, hi.at fun o q => k it (by simp) o q, hne⟩
  item := by
    intro X hP hw hK hc i pins s σ H E I hf st hg
    subst hP hw hK
    obtain ⟨⟨old, he⟩, hit, hne, hai, hea⟩ := st
    obtain ⟨xs, x, hq, hx⟩ := hg
    obtain ⟨its, rv, p, hz⟩ := I.tuple hq
    obtain ⟨u, hu, ru⟩ := rv.get hx
    have hel : e < s.heap.objs.size := Heap.lt_size he
    have hil : it < s.heap.objs.size := by obtain ⟨_, q, _⟩ := hit; exact Heap.lt_size q
    have hlt : i < its.toArray.size := by
      have := (List.getElem?_eq_some_iff.mp hu).1
      simpa using this
    have DD : Draws X.prog X.w X.A.in1 it [it, a] its.toArray.size (fun i v => its.toArray[i]? = some v) (fun i h => h.IsTupleIter it a i ∧ h.IsTuple a its.toArray) := Draws.tuple (A := X.A.in1) (show X.A.in1.handled = none from I.ok.hd hc) it a hai its.toArray
    refine wpAny_pyNext_enum_itemD DD he ⟨hit, p⟩ hlt hne (by simp [hne, hea]) fun y h' tk hy ho hit' hT hsz hk => ?_
    have ey : y = u := by
      have h2 : its.toArray[i]? = some u := by simpa using hu
      rw [h2] at hy; cases hy; rfl
    subst ey
    refine ⟨_, rfl, wpAny_letOwnedTupleGo_enum (s := { s with heap := h', toks := tk + 1 }) ho fun h'' he' sb => ?_⟩
    have hT2 : h''.get? s.heap.objs.size = some { cls := .type "tuple", data := .seq #[.int i tk, y] } := (sb.2 _ (Nat.ne_of_gt hel)).trans hT
    have new : ObjOk X.prog X.w (upd H s.heap.objs.size (.tup [.int (i : Nat), x])) h'' s.heap.objs.size (.tup [.int (i : Nat), x]) :=
      ⟨by show 2 ≤ sizeLine; decide, [.int i tk, y], .cons ⟨_, rfl⟩ (.cons ru .nil), ⟨_, hT2, rfl, _, rfl⟩⟩
    have I1 : Inv X pins σ (upd H s.heap.objs.size (.tup [.int (i : Nat), x])) { s with heap := h'', toks := tk + 1 } :=
      I.turnedNew (ch := [e, it]) (fun b ob hb q => (sb.2 b (fun z => hb (by simp [z]))).trans (hk b ob (fun z => hb (by simp [z])) (fun z => hb (by simp [z])) q)) hf (Nat.le_refl _) new
    refine ⟨.ref s.heap.objs.size, _, I1, rfl, ⟨_, x, rfl, I.hok.fresh (Nat.le_refl _), rfl, fun ys hy => by rw [I.tuple_inj hy hq]; exact hx⟩, ⟨⟨y, ?_⟩, hit'.1.at fun o q => (sb.2 it (Ne.symm hne)).trans q, hne, hai, hea⟩, fun b hb => ?_⟩
    · have e1 : ((i + 1 : Nat) : Int) = (i : Int) + 1 := by omega
      rw [e1]; exact he'
    · have hb' : b < s.heap.objs.size := by
        have e' : b = e ∨ b = it := by simpa using hb
        rcases e' with z | z
        · rw [z]; exact hel
        · rw [z]; exact hil
      rw [upd_ne (Nat.ne_of_lt hb')]
      exact (hf b hb).1
  done := by
    intro X hP hw hK hc i pins s σ H E I hf st hg
    subst hP hw hK
    obtain ⟨⟨old, he⟩, hit, hne, hai, hea⟩ := st
    obtain ⟨xs, hq, hx⟩ := hg
    obtain ⟨its, rv, p, hz⟩ := I.tuple hq
    obtain ⟨f0, f1, f2, f3, f4, f5⟩ := hf it (by simp)
    have hl := rv.length
    have hT : s.TypeIs (.ref e) "enumerate" := ⟨_, he, rfl⟩
    unfold pyNext
    refine wpAny_bind (wpAny_attempt (wpAny_callSpecial?_slot (name := Str.ofString "__next__") hT F.slot_enumerate_next
      (wpAny_call_entry F.slot_enumerate_next hT F.entry_enumerate_next ?_ (F.args_enumerate_next_1 _))))
    show wpAny _ _ (field (.ref e) 2 >>= _) _ _ _
    refine wpAny_bind (wpAny_field he rfl (x := .ref it) rfl ?_)
    refine wpAny_bind (wpAny_nextOf_tuple_end (I.ok.hd hc) hit p (by simp; omega) fun h' x he' hx' => ?_)
    obtain ⟨o, ho, hc'⟩ := hx'
    refine wpAny_bind (wpAny_isInstance (T := "StopIteration") (b := true) ⟨o, ho, hc'⟩ isSubtype_stop ?_)
    exact wpAny_pure ⟨rfl, I.turned (t' := s.toks) (fun b o hb q => he' b o hb q) f0 f1 f3 f4 f5⟩
  self := fun A i s Q E st h => let ⟨⟨_, he⟩, _⟩ := st; wpAny_pyIter_enum he h
def iEnumT (K : PySem.W.Frag) (ta : TA) : TI := fun σ H R => ta σ H fun vs H1 => ∃ a xs, vs = [.ref a] ∧ SqT K H1 a xs ∧ R (IteT K a) H1
theorem pi_enumT {X : Cx} {e : Expr} {ta : TA} {p pos tpos : Pos} {elts : List Expr} {kk : Nat} (hg : Gl X "enumerate") (hm : X.mg "enumerate" = none) (ha : PA X [e] ta) (hs : starEach [e] X.env = [(false, eval e X.env)] := by rfl) :
    PI X (.Tuple elts kk tpos) (.Call (.Name "enumerate" p) [e] [] pos) (iEnumT X.K ta) := by
  refine ⟨fun pins s σ H R I h => ?_⟩
  refine Call_ (ld_blt I hg hm boot_enumerate (PyProof.Rows.callWith_type1 (thn (ha.run pos pins s σ H _ I h) fun us s1 ⟨vs, H1, I1, r1, q1⟩ => ?_) hs rfl))
  obtain ⟨a, xs, ex, hq, q⟩ := q1
  subst ex
  cases r1 with
  | cons r rr =>
    cases rr
    cases r
    obtain ⟨its, rv, p', hz⟩ := I1.tuple hq
    have hal : a < s1.heap.objs.size := by obtain ⟨_, q, _⟩ := p'; exact Heap.lt_size q
    refine enum_begins1 (begins_tuple a its.toArray) p' fun h' he hit hsz hk => wpAny_pyIter_enum he ?_
    have I2 : Inv X pins σ H1 { s1 with heap := h' } := I1.kept (t' := s1.toks) hk
    refine ⟨s1.heap.objs.size + 1, [s1.heap.objs.size + 1, s1.heap.objs.size], _, _, H1, rfl, I2, turn_enumT a (s1.heap.objs.size + 1) s1.heap.objs.size, ⟨⟨.none, he⟩, ⟨_, hit, rfl, rfl⟩, Nat.succ_ne_self _, Nat.ne_of_lt hal, Nat.ne_of_gt (Nat.lt_succ_of_lt hal)⟩, fun b hb => ?_, q⟩
    have e' : b = s1.heap.objs.size + 1 ∨ b = s1.heap.objs.size := by simpa using hb
    have hle : s1.heap.objs.size ≤ b := by
      rcases e' with z | z
      · rw [z]; exact Nat.le_add_right _ _
      · rw [z]; exact Nat.le_refl _
    exact I1.fpOk hle (I1.hok.fresh hle)
end L2

namespace PL
open PySem PySem.Spec PyProof.Rows L2
section
variable {C : Wd → XC → Prop} {K : PySem.W.Frag} {te ta tb tc tk tl ti to : TE} {tt tu : TT} {t tr : TA} {m ma mb mc mk ml mi : EM} {mt mu : TM} {mx my mz : XM} {am ar : AM} {i j l c c1 c2 c3 c4 : Nat} {ts tz : TS} {sm sz : SM}
/-! ### a, b, c = x, y, z: plain names -/
theorem ss_par3 (h : SX C c1 ta mx) (h' : SX C c2 tb my) (h'' : SX C c3 tc mz) :
    SS C (c1 + (c2 + c3)) (tPar3 i j l (tCons ta (tCons tb (tCons tc tNil)))) (sPar3 i j l mx my mz) := fun G c n O env σ H P D hL F hm e =>
  h G c n O env σ H _ _ (by omega) F hm fun x1 v O1 H1 q g W l1 mo s nn f => by
    have F1 : Fr G (n + c1) O1 env σ H1 := ⟨W, F.len, fun k d e n => let ⟨u, h1, h2⟩ := F.sl k d e n; ⟨u, h1, h2.le g l1 mo⟩, F.uq⟩
    refine h' G c _ O1 env σ H1 _ _ (by omega) F1 q fun x2 u O2 H2 q2 g2 W2 l2 mo2 s2 n2 f2 => ?_
    have F2 : Fr G (n + c1 + c2) O2 env σ H2 := ⟨W2, F.len, fun k d e n => let ⟨u, h1, h2⟩ := F1.sl k d e n; ⟨u, h1, h2.le g2 l2 mo2⟩, F.uq⟩
    refine h'' G c _ O2 env σ H2 _ _ (by omega) F2 q2 fun x3 w O3 H3 q3 g3 W3 l3 mo3 s3 n3 f3 => ?_
    have en : n + c1 + c2 + c3 = n + (c1 + (c2 + c3)) := by omega
    have F3 := ((F.set (i := i) g W l1 mo s f).set (i := j) g2 W2 l2 mo2 s2 f2).set (i := l) g3 W3 l3 mo3 s3 f3
    rw [en] at F3
    exact ⟨v, u, w, rfl, e.nx O3 _ _ _ (l1.trans (l2.trans l3)) F3 q3⟩
/-! ### enumerate(tuple) -/
theorem walks_enumT {G : Cfg} {O : Addr → Prop} {H : Hp} {a : Addr} {xs : List V} {ds : List D} (e : Sh O H a (.tup xs)) (r : RpL (Sh O H) xs ds) : Walks G (IteT K a) O H (enumD 0 ds) := fun n O' H' l W i => by
  have e' := rk_tup (l _ _ e).1
  have r' := r.mono l
  rw [enumD_len]
  refine ⟨fun hi => ?_, fun hi => ⟨xs, sqT e', by rw [r.length]; exact hi⟩⟩
  obtain ⟨v, hv, rv⟩ := r'.get (List.getElem?_eq_getElem hi)
  refine ⟨⟨xs, v, sqT e', hv⟩, fun x H'' ⟨T, y, ex, nT, eH, hx⟩ => ?_⟩
  subst eH; subst ex
  have := hx xs (sqT e')
  rw [hv] at this; cases this
  refine ⟨Grow.new _ nT, Wd.okNew nT W.ok, _, enumD_get (List.getElem?_eq_getElem hi), ?_⟩
  rw [Nat.zero_add]
  exact new_tup W nT (.cons (.int _) (.cons rv .nil))
def iET (a : AM) : AM := fun env Q => a env fun ds => match ds with | [.tup l] => Q (enumD 0 l) | _ => False
theorem si_enumT (h : SA C c t am) : SI C c (iEnumT K t) (iET am) := fun G c n O env σ H Qd R hL F hm k =>
  h G c n O env σ H _ _ hL F hm fun ds vs H1 q g ok r => by
    split at q
    · cases r with
      | cons a r =>
        cases r
        cases a with
        | tup e r => exact ⟨_, _, rfl, sqT (rk_tup e.1), k _ _ H1 q g ok (walks_enumT e r)⟩
    · exact q.elim
end
end PL

namespace L2
open PySem PySem.Spec PyProof.Rows
section
variable {X : Cx}
/-- tuple(xs), the new object known -/
theorem call_tuple_ofF : CallR X (.type "tuple") (fun xs H Q => ∃ p ys, xs = [.ref p] ∧ SqL X.K H p ys ∧ ∀ l ob, H l = none → ob.dict = none → Q (.ref l) (upd H l (.frz ob (.tup ys)))) := by
  intro pins s σ H xs us Q I r h
  obtain ⟨p, ys, rfl, hq, q⟩ := h
  obtain ⟨u, rfl, rx⟩ := vals1 r
  cases rx
  obtain ⟨its, r', pl, hz⟩ := I.list hq
  have hlen := r'.length
  refine call_tuple_list pl.isList (fun h' kp => ?_) (by simp only [List.size_toArray] <;> omega)
  have I1 : Inv X pins σ H { s with heap := h' } := I.kept (t' := s.toks) kp
  have I2 : Inv X pins σ (upd H h'.objs.size (.frz { cls := .type "tuple", data := .seq its.toArray } (.tup ys))) { s with heap := h'.push { cls := .type "tuple", data := .seq its.toArray } } :=
    I1.laid (t' := s.toks) (fun b o e => Heap.get?_push_of_some _ e) (Nat.le_refl _) (show ObjOk X.prog X.w _ _ _ (.frz _ (.tup ys)) from ⟨Heap.get?_push_size _ rfl, hz, its, r', IsTup.new _ _⟩)
  exact ⟨.ref h'.objs.size, _, I2, rfl, q _ _ (I1.hok.fresh (Nat.le_refl _)) rfl⟩
/-- a method of such a tuple -/
def tBMF (r : V → List V → Hp → VK → Prop) (to : TE) (t : TA) : TE := fun σ H Q => to σ H fun x H1 => (∃ p ob ys, x = .ref p ∧ H1 p = some (.frz ob (.tup ys)) ∧ ob.dict = none) ∧ t σ H1 fun xs H2 => r x xs H2 Q
variable {o e : Expr} {es : List Expr} {to : TE} {t : TA} {name : Str} {apos cpos : Pos} {id : String} {r : V → List V → Hp → VK → Prop}
theorem pe_bmF (pa : PlainAttrs "tuple") (slot : Slot "tuple" name id) (hty : typeOf (.builtin id) = pure (.type "method_descriptor")) (hm : MtR X id r) (ho : PE X o to) (ha : PA X (e :: es) t)
    (hbase : attributeBase o name X.env (eval o X.env) = eval o X.env := by rfl)
    (hfew : ((backTo cpos (starEach (e :: es) X.env)).all (fun x => !x.1) && (backToKw cpos (keywordEach [] X.env)).all (fun x => x.1.isSome)
      && decide ((e :: es).length + ([] : List Keyword).length + (if ([] : List Keyword).isEmpty then 0 else 1) < 30)) = true := by rfl)
    (hline : (apos.endLine == cpos.line) = true := by rfl) (hs : starEach (e :: es) X.env = (false, eval e X.env) :: starEach es X.env := by rfl) (hplain : (backTo cpos (starEach es X.env)).any (·.1) = false := by rfl) :
    PE X (.Call (.Attribute o name apos) (e :: es) [] cpos) (tBMF r to t) := by
  refine ⟨fun pins s σ H Q I h => ?_⟩
  refine wpAny_Call_method_late hbase hfew hline rfl (thn (ho.run pins s σ H _ I h) fun v s1 ⟨x, H1, I1, r1, ⟨p, ob, ys, ex, hp, hd⟩, q1⟩ => ?_)
  subst ex
  cases r1
  obtain ⟨g1, _, its, _, o', g2, hc, _⟩ := (show ObjOk X.prog X.w H1 s1.heap p (.frz ob (.tup ys)) from I1.hok p _ hp)
  refine ⟨"tuple", id, pa, slot, hty, ⟨o', g2, hc⟩, fun a e => ?_, ?_⟩
  · cases e
    exact ⟨ob, g1, hd⟩
  have hA := ha.run cpos pins s1 σ H1 _ I1 q1
  rw [hs] at hA ⊢
  refine Calls.callWith_builtin (by show (false || (backTo cpos (starEach es X.env)).any (·.1)) = false; rw [hplain] <;> rfl) (Calls.evalArgs_plain ?_)
  exact thn hA fun us s2 ⟨vs, H2, I2, r2, q2⟩ => hm pins s2 σ H2 (.ref p) vs _ us Q I2 rfl r2 q2
end
end L2
namespace PL
open PySem PySem.Spec PyProof.Rows L2
section
variable {C : Wd → XC → Prop} {K : PySem.W.Frag} {te ta tb tc tk tl ti to : TE} {tt tu : TT} {t tr : TA} {m ma mb mc mk ml mi : EM} {mt mu : TM} {mx my mz : XM} {am ar : AM} {i j l c c1 c2 c3 c4 : Nat} {ts tz : TS} {sm sz : SM}
/-- such a tuple read as any -/
def mWk (i : Nat) : EM := fun env Q => match env[i]? with
  | some (.dat (.ftp l)) => Q (.tup l)
  | _ => False
theorem Rp.wk {O : Addr → Prop} {H : Hp} {v : V} {l : List D} (r : Rp (Sh O H) v (.ftp l)) : Rp (Sh O H) v (.tup l) := by
  cases r with
  | ftp e d r => exact .tup ⟨.inr ⟨_, (), .inr ⟨_, rfl⟩, rk_frz e.1⟩, e.2⟩ r
theorem se_wk {i : Nat} : SE C 0 (tVar i) (mWk i) := fun G _ n O env σ H Qd Q hl F hm k => by
  unfold mWk at hm
  split at hm
  · rename_i l ei
    obtain ⟨v, es, s⟩ := F.sl i _ ei (by intro z; cases z)
    cases s with
    | dat r => exact ⟨v, es, k _ _ H hm (Grow.refl _ _) F.wl.ok r.wk⟩
  · exact hm.elim
def kTupleF : List D → (D → Prop) → Prop := fun ds Q => match ds with | [.lst l] => Q (.ftp l) | _ => False
theorem kc_tupleF : KC C (fun xs H Q => ∃ p ys, xs = [.ref p] ∧ SqL K H p ys ∧ ∀ l ob, H l = none → ob.dict = none → Q (.ref l) (upd H l (.frz ob (.tup ys)))) kTupleF := fun G _ n O H vs ds Qd Q W r h q => by
  unfold kTupleF at h
  split at h
  · obtain ⟨v, rfl, r1⟩ := r.one
    obtain ⟨a, xs, rfl, e, r⟩ := r1.list
    exact ⟨a, xs, rfl, sqL e, fun p ob hp hd => q _ _ _ h (Grow.new _ hp) (Wd.okNew hp W.ok) (.ftp ⟨.inl upd_same, W.free hp⟩ hd (r.mono (sh_grow W.zo (Grow.new _ hp))))⟩
  · exact h.elim
def mTIx (i : Nat) (m : EM) : EM := fun env Q => match env[i]? with
  | some (.dat (.ftp l)) => m env fun d => ∃ (ns : List Int) (k : Int), l = ns.map D.int ∧ d = .int k ∧ k ∈ ns ∧ Q (.int (ns.idxOf k))
  | _ => False
theorem se_tindex {i : Nat} (h : SE C c te m) : SE C c (tBMF (rIndexTI K) (tVar i) (tCons te tNil)) (mTIx i m) := fun G cg n O env σ H Qd Q hL F hm k => by
  unfold mTIx at hm
  split at hm
  · rename_i l ei
    obtain ⟨v, es, s⟩ := F.sl i _ ei (by intro z; cases z)
    cases s with
    | dat r =>
      cases r with
      | @ftp a ob xs _ e d r =>
        have ea := rk_frz e.1
        refine ⟨_, es, ⟨a, ob, xs, rfl, ea, d⟩, h G cg n O env σ H _ _ hL F hm fun dd w H1 ⟨ns, j, h1, h2, h3, q⟩ g ok rw' => ?_⟩
        subst h1; subst h2
        cases rw'
        have nz : ¬ G.w.Z a := fun z => e.2 (F.wl.zo a z)
        have ex := r.ints
        subst ex
        have hlt : ns.idxOf j < ns.length := List.idxOf_lt_length_iff.mpr h3
        refine ⟨a, ns, j, ns.idxOf j, rfl, rfl, .inl (.inr ⟨ob, g _ _ ea nz⟩), by rw [List.getElem?_eq_getElem hlt, List.getElem_idxOf hlt], fun k hk hz => ?_, k _ _ H1 q g ok (.int _)⟩
        have hkl : k < ns.length := by omega
        rw [List.getElem?_eq_getElem hkl] at hz
        injection hz with hz
        have hm : j ∈ ns.take (ns.idxOf j) := by
          rw [List.mem_take_iff_getElem]
          exact ⟨k, by omega, hz⟩
        exact idx_take j ns hm
  · exact hm.elim
end
end PL

namespace L2
open PySem PySem.Spec PyProof.Rows
/-- a op1 b op2 c op3 d, as a test -/
def tChain3 (r r' r'' : R2) (ta tb tc td : TE) : TT := fun σ H Q => ta σ H fun x H1 => tb σ H1 fun y H2 => r x y H2 fun z H3 => ∃ k, z = .bl k ∧
  (if k = true then tc σ H3 fun z' H4 => r' y z' H4 fun w H5 => ∃ k', w = .bl k' ∧ (if k' = true then td σ H5 fun u H6 => r'' z' u H6 fun w2 H7 => ∃ k2, w2 = .bl k2 ∧ Q k2 H7 else Q false H5) else Q false H3)
section
variable {X : Cx} {a b c d : Expr} {ta tb tc td : TE} {pos : Pos}
theorem pt_chain3 {op op' op'' : CmpOp} {r r' r'' : R2} (ho : OpR X (compareOp op) r) (ho' : OpR X (compareOp op') r') (ho'' : OpR X (compareOp op'') r'') (ha : PE X a ta) (hb : PE X b tb) (hc : PE X c tc) (hd : PE X d td)
    (hm : lastMarks [op, op', op''] [b, c, d] = false := by with_unfolding_all rfl) : PT X (.Compare a [op, op', op''] [b, c, d] pos) (tChain3 r r' r'' ta tb tc td) := by
  refine ⟨fun pins s σ H Q I h => ?_⟩
  refine isTrue_chain (thn (ha.run pins s σ H _ I h) fun v s1 ⟨x, H1, I1, r1, q1⟩ => test_link (thn (hb.run pins s1 σ H1 _ I1 q1) fun u s2 ⟨y, H2, I2, r2, q2⟩ =>
    thn (ho pins s2 σ H2 x y v u _ I2 r1 r2 q2) fun d s3 ⟨z, H3, I3, r3, k, e, q3⟩ => ?_)) hm
  subst e
  cases r3
  refine wpAny_truthy_bool ?_
  cases k with
  | false => exact ite_ff ⟨H3, I3, q3⟩
  | true =>
    refine ite_tt (test_link (thn (hc.run pins s3 σ H3 _ I3 q3) fun w' s4 ⟨z', H4, I4, r4, q4⟩ => thn (ho' pins s4 σ H4 y z' u w' _ I4 r2 r4 q4) fun d' s5 ⟨z2, H5, I5, r5, k2, e2, q5⟩ => ?_))
    subst e2
    cases r5
    refine wpAny_truthy_bool ?_
    cases k2 with
    | false => exact ite_ff ⟨H5, I5, q5⟩
    | true =>
      refine ite_tt (test_last (thn (hd.run pins s5 σ H5 _ I5 q5) fun w2 s6 ⟨z3, H6, I6, r6, q6⟩ => thn (ho'' pins s6 σ H6 z' z3 w' w2 _ I6 r4 r6 q6) fun d'' s7 ⟨z4, H7, I7, r7, k3, e3, q7⟩ => ?_))
      subst e3
      cases r7
      exact wpAny_truthy_bool ⟨H7, I7, q7⟩
end
end L2
namespace PL
open PySem PySem.Spec PyProof.Rows L2
section
variable {C : Wd → XC → Prop} {K : PySem.W.Frag} {te ta tb tc td tk tl ti to : TE} {m ma mb mc md : EM} {c c1 c2 c3 c4 : Nat}
/-- .. of ints -/
def mChain3 (ma mb mc md : EM) (p q r : Int → Int → Bool) : TM := fun env Q => ma env fun x => mb env fun y => match x, y with
  | .int a, .int b => if p a b = true then mc env fun z => (match z with | .int c => if q b c = true then md env fun u => (match u with | .int d => Q (r c d) | _ => False) else Q false | _ => False) else Q false
  | _, _ => False
theorem st_chain3 {p q r : Int → Int → Bool} (ha : SE C c1 ta ma) (hb : SE C c2 tb mb) (hc : SE C c3 tc mc) (hd : SE C c4 td md) : ST C (c1 + (c2 + (c3 + c4))) (tChain3 (rI0 fun i j => .bl (p i j)) (rI0 fun i j => .bl (q i j)) (rI0 fun i j => .bl (r i j)) ta tb tc td) (mChain3 ma mb mc md p q r) := fun G cg n O env σ H Qd Q hL F hm k =>
  ha G cg n O env σ H _ _ (by omega) F hm fun x v H1 h1 g1 ok1 r1 => hb G cg _ O env σ H1 _ _ (by omega) (F.grow g1 ok1) h1 fun y u H2 h2 g2 ok2 r2 => by
    have F2 := (F.grow g1 ok1).grow g2 ok2
    split at h2
    · rename_i a b
      cases r1; cases r2
      refine ⟨_, _, rfl, rfl, p a b, rfl, ?_⟩
      by_cases hp : p a b = true
      · rw [hp]
        rw [if_pos hp] at h2
        refine iteT (hc G cg _ O env σ H2 _ _ (by omega) F2 h2 fun z w H3 h3 g3 ok3 r3 => ?_)
        split at h3
        · rename_i cc
          cases r3
          refine ⟨_, _, rfl, rfl, q b cc, rfl, ?_⟩
          by_cases hq : q b cc = true
          · rw [hq]
            rw [if_pos hq] at h3
            refine iteT (hd G cg _ O env σ H3 _ _ (by omega) (F2.grow g3 ok3) h3 fun z2 w2 H4 h4 g4 ok4 r4 => ?_)
            split at h4
            · cases r4
              exact ⟨_, _, rfl, rfl, _, rfl, k _ H4 h4 (g1.trans (g2.trans (g3.trans g4))) (by rw [show n + (c1 + (c2 + (c3 + c4))) = n + c1 + c2 + c3 + c4 by omega]; exact ok4)⟩
            · exact h4.elim
          · rw [if_neg hq] at h3
            rw [Bool.eq_false_iff.mpr hq]
            exact iteF (k _ H3 h3 (g1.trans (g2.trans g3)) (G.w.up _ _ _ (by omega) ok3))
        · exact h3.elim
      · rw [if_neg hp] at h2
        rw [Bool.eq_false_iff.mpr hp]
        exact iteF (k _ H2 h2 (g1.trans g2) (G.w.up _ _ _ (by omega) ok2))
    · exact h2.elim
end
end PL

/-! XA: what leaves a def by raise; raise; calls that may raise. -/
namespace PL
open PySem PySem.Spec PyProof.Rows L2
/-- worlds in which what leaves is taken by Er, and wanted by X0 -/
def exC (C : Wd → Prop) (Er : XK) (X0 : Exn → Prop) : Wd → XC → Prop := fun w x => C w ∧ x.E = Er ∧ x.X = X0
abbrev XS := List D → (D → Prop) → (Exn → Prop) → Prop
def MonoX (S : XS) : Prop := ∀ ds P Q Y Z, (∀ d, P d → Q d) → (∀ e, Y e → Z e) → S ds P Y → S ds Q Z
/-- a def's promise that may end by an exception -/
def spX (C : Wd → Prop) (k : Nat) (S : XS) : Sp := fun vs H Q E => ∃ (w : Wd) (n : Nat) (Oc : Addr → Prop) (ds : List D), C w ∧ n + k ≤ LIM ∧ w.ok n H ∧ (∀ b, w.Z b → Oc b) ∧ (∀ b, Oc b → Trk (H b)) ∧ RpL (Sh Oc H) vs ds ∧
  S ds (fun d => ∀ v H', Grow w H H' → w.ok (n + k) H' → Rp (Sh Oc H') v d → Q v H') (fun e => ∀ c d H', Grow w H H' → w.ok (n + k) H' → ExnAt (Sh Oc H') c d e → E c d H')
section
variable {C : Wd → XC → Prop} {C0 : Wd → Prop} {K : PySem.W.Frag} {te : TE} {ta : TA} {m : EM} {am : AM} {c k : Nat} {S : XS} {Er : XK} {X0 : Exn → Prop}
/-- out of a body -/
theorem go_out {G : Cfg} {n : Nat} {O : Addr → Prop} {H : Hp} {cv : Value} {d : Option Addr} {e : Exn} (hn : n ≤ G.x.lim) (W : Wl G n O H) (a : ExnAt (Sh O H) cv d e) (q : G.x.X e) : G.x.E cv d H :=
  G.door n H cv d e hn W.ok (G.hb.trans W.base) (a.mono fun b u ⟨h1, h2⟩ => ⟨h1, fun z => h2 (W.co b z)⟩) q
theorem se_callX (h : SA (exC C0 Er X0) c ta am) (hS : MonoX S) : SE (exC C0 Er X0) (c + k) (tCall (spX CA k S) [] Er ta) (fun env Q => am env fun ds => S ds Q X0) := fun G g n O env σ H Qd Q hL F hm q =>
  h G g n O env σ H _ _ (by omega) F hm fun ds vs H1 h1 g1 ok1 r1 => by
    have F1 := F.grow g1 ok1
    obtain ⟨_, eE, eX⟩ := g
    rw [List.append_nil]
    refine ⟨G.w, n + c, O, ds, trivial, by have := G.x.le; omega, ok1, F1.wl.zo, F1.wl.tr, r1, hS ds _ _ _ _ (fun d hd v H' g' ok r => q d v H' hd (g1.trans g') (ok_as ok) r) (fun e he cv dd H' g' ok a => ?_) h1⟩
    rw [← eE]
    exact go_out (by omega) (F1.wl.grow g' ok) a (by rw [eX]; exact he)
/-- where nothing is raised -/
theorem se_callN {C' : Wd → Prop} {E : XK} (h : SA C c ta am) (hS : MonoX S) (hC : ∀ w x, C w x → C' w) : SE C (c + k) (tCall (spX C' k S) [] E ta) (fun env Q => am env fun ds => S ds Q fun _ => False) := fun G g n O env σ H Qd Q hL F hm q =>
  h G g n O env σ H _ _ (by omega) F hm fun ds vs H1 h1 g1 ok1 r1 => by
    have F1 := F.grow g1 ok1
    rw [List.append_nil]
    exact ⟨G.w, n + c, O, ds, hC _ _ g, by have := G.x.le; omega, ok1, F1.wl.zo, F1.wl.tr, r1, hS ds _ _ _ _ (fun d hd v H' g' ok r => q d v H' hd (g1.trans g') (ok_as ok) r) (fun e he => he.elim) h1⟩
theorem se_callNA {E : XK} (h : SA C c ta am) (hS : MonoX S) : SE C c (tCall (spX CA 0 S) [] E ta) (fun env Q => am env fun ds => S ds Q fun _ => False) := se_callN (k := 0) h hS fun _ _ _ => trivial
theorem se_callXA (h : SA (exC C0 Er X0) c ta am) (hS : MonoX S) : SE (exC C0 Er X0) c (tCall (spX CA 0 S) [] Er ta) (fun env Q => am env fun ds => S ds Q X0) := se_callX (k := 0) h hS
/-- by keywords alone -/
theorem se_callNK {E : XK} (h : SA C c ta am) (hS : MonoX S) : SE C (0 + (c + 0)) (tCallK (spX CA 0 S) g0 E tNil ta) (fun env Q => am env fun ds => S ds Q fun _ => False) := fun G g n O env σ H Qd Q hL F hm q =>
  show ta σ H _ from h G g n O env σ H _ _ (by omega) F hm fun ds vs H1 h1 g1 ok1 r1 =>
    have F1 := F.grow g1 ok1
    ⟨G.w, n + c, O, ds, trivial, by have := G.x.le; omega, ok1, F1.wl.zo, F1.wl.tr, r1, hS ds _ _ _ _ (fun d hd v H' g' ok r => q d v H' hd (g1.trans g') (ok_le (by omega) (ok_as ok)) r) (fun e he => he.elim) h1⟩
theorem se_callXKA (h : SA (exC C0 Er X0) c ta am) (hS : MonoX S) : SE (exC C0 Er X0) c (tCallK (spX CA 0 S) g0 Er tNil ta) (fun env Q => am env fun ds => S ds Q X0) := fun G g n O env σ H Qd Q hL F hm q =>
  show ta σ H _ from h G g n O env σ H _ _ (by omega) F hm fun ds vs H1 h1 g1 ok1 r1 =>
    have F1 := F.grow g1 ok1
    ⟨G.w, n + c, O, ds, trivial, by have := G.x.le; omega, ok1, F1.wl.zo, F1.wl.tr, r1, hS ds _ _ _ _ (fun d hd v H' g' ok r => q d v H' hd (g1.trans g') ok r) (fun e he cv dd H' g' ok a => by
      obtain ⟨_, eE, eX⟩ := g
      rw [← eE]
      exact go_out (by omega) (F1.wl.grow g' ok) a (by rw [eX]; exact he)) h1⟩
/-! ### raise -/
/-- raise X('..') -/
theorem ss_raise0 {c0 : Value} : SS (exC C0 Er X0) 0 (fun _ _ H => Er c0 none H) (fun _ _ => X0 (c0, [], [])) := fun G g n O env σ H P D hL F hm e => by
  obtain ⟨_, eE, eX⟩ := g
  rw [← eE]
  exact go_out (e := (c0, [], [])) (by omega) F.wl ⟨rfl, .inl ⟨rfl, rfl, rfl⟩⟩ (by rw [eX]; exact hm)
/-- the init of a class of exceptions with one attribute -/
def spI (K : PySem.W.Frag) (f : Str) : Sp := fun vs H Q _ => ∃ (a C : Addr) (y : V), vs = [.ref a, y] ∧ H a = some (exo a C none) ∧ OexC K C ∧ PySem.W.findIn K (.ref C) f = some none ∧ ∀ dx, H dx = none → dx ≠ a → Q .non (upd (upd H dx (exd dx [(f, y)])) a (exo a C (some dx)))
theorem del_upd {H : Hp} {a dx : Addr} {o1 o2 o3 o4 : HO} (hn : H a = none) (ne : dx ≠ a) : upd (del (upd (upd (upd H a o1) dx o2) a o3) a) dx o4 = upd H dx o4 := by
  funext b
  by_cases h1 : b = dx
  · rw [h1, upd_same, upd_same]
  · rw [upd_ne h1, upd_ne h1]
    by_cases h2 : b = a
    · rw [h2, del_same, hn]
    · rw [del_ne h2, upd_ne h2, upd_ne h1, upd_ne h2]
/-- raise X(e) -/
theorem ss_raise1 {C1 : Addr} {f : Str} (T : OexC K C1) (hno : PySem.W.findIn K (.ref C1) f = some none) (h : SA (exC C0 Er X0) c ta am) : SS (exC C0 Er X0) c (fun _ σ H => tMkO C1 (spI K f) [] ta σ H fun cls d H' => Er cls d H') (fun env _ => am env fun ds => ∃ y, ds = [y] ∧ X0 (.ref C1, [f], [y])) := fun G g n O env σ H P D hL F hm e =>
  h G g n O env σ H _ _ (by omega) F hm fun ds vs H1 ⟨y, ey, hx⟩ g1 ok1 r1 => by
    subst ey
    cases r1 with
    | cons ry rn =>
      rename_i v us
      cases rn
      have W1 := F.wl.grow g1 ok1
      refine ⟨by show 1 ≤ 1000; decide, fun a ha => ⟨a, C1, v, rfl, upd_same, T, hno, fun dx hdx ne => ⟨rfl, dx, [(f, v)], upd_same, by rw [upd_ne ne, upd_same], ?_, ?_⟩⟩⟩
      · rw [upd_ne ne] at hdx; exact hdx
      · rw [upd_ne ne] at hdx
        rw [del_upd ha ne]
        obtain ⟨_, eE, eX⟩ := g
        rw [← eE]
        have W2 : Wl G (n + c) O (upd H1 dx (.xd [(f, v)])) := W1.grow (Grow.new _ hdx) (Wd.okNew hdx ok1)
        exact go_out (e := (.ref C1, [f], [y])) (by omega) W2 ⟨rfl, .inr ⟨dx, [v], rfl, ⟨.inl upd_same, W1.free hdx⟩, rfl, .cons (ry.mono (sh_grow W1.zo (Grow.new _ hdx))) .nil⟩⟩ (by rw [eX]; exact hx)
end
/-! ### defs that may raise -/
section
variable {P : Program} {w : World} {K : PySem.W.Frag} {mg : Str → Option Value} {base : Heap}
theorem pl_bodyX {C : Wd → Prop} {S : XS} {k c : Nat} {N : List Str} {ts : TS} {vs : List V} {H : Hp} {Q : VK} {E : XK} (hs : ∀ X0, ∃ sm : SM, SS (exC C E X0) c ts sm ∧ ∀ ds Q, S ds Q X0 → sm (env0 N ds) { nx := fun _ => Q .non, rt := Q }) (hc : c ≤ k) (h : spX C k S vs H Q E) :
    ts { nx := fun _ H' => Q .non H', rt := Q } (L2.start N vs) H := by
  obtain ⟨wd, n, Oc, ds, g, hL, ok, zo, tr, r, h⟩ := h
  obtain ⟨sm, hs, hb⟩ := hs (fun e => ∀ c d H', Grow wd H H' → wd.ok (n + k) H' → ExnAt (Sh Oc H') c d e → E c d H')
  have F0 : Fr (Cfg.nx wd H Oc tr) n Oc (env0 N ds) (L2.start N vs) H := fr_start ok zo tr r
  refine hs (⟨wd, H, Oc, tr, ⟨n + k, hL, H, E, fun e => ∀ c d H', Grow wd H H' → wd.ok (n + k) H' → ExnAt (Sh Oc H') c d e → E c d H'⟩, Grow.refl _ _, fun n' H' cv d e hn ok' gr a q => q cv d H' gr (wd.up _ _ _ hn ok') a⟩ : Cfg) ⟨g, rfl, rfl⟩ n Oc (env0 N ds) (L2.start N vs) H _ _ (by show n + c ≤ n + k; omega) ⟨⟨ok, zo, fun _ z => z, tr, Grow.refl _ _⟩, F0.len, fun i c e ne => ?_, F0.uq⟩ (hb ds _ h) ⟨fun O' env' σ' H' l F' q => q .non H' F'.wl.base (ok_le hc F'.wl.ok) .non, fun d v O' H' W rv q => q v H' W.base (ok_le hc W.ok) (rv.mono fun b u ⟨h1, h2⟩ => ⟨h1, fun z => h2 (W.co b z)⟩), fun _ _ _ _ _ _ q => q, fun _ _ _ _ _ _ q => q⟩
  obtain ⟨v, d, h1, rfl, h2⟩ := r.at N i c e ne
  exact ⟨v, h1, .dat h2⟩
theorem pl_okX {C : Wd → Prop} {S : XS} {x qual : Str} {st : Stmt} {f : Addr} {fd : FuncData} {N ps : List Str} {k kd : Nat} (F : Fun K x qual st f fd) (sc : FnScope N ps (defScope st)) (len : ∀ ds Q Y, S ds Q Y → ds.length = ps.length)
    (body : ∀ (cdv : Value) (A : Around) (outer : List Env) (s : Shared) (H : Hp) (E : XK), Room k (A.deeper (envOfC qual (defScope st) s.heap.objs.size f cdv)) →
      PassesOwn (model P w) (cxOf (L2.CX P w) P w K mg base N qual (defScope st) f cdv A outer s H E).A (cxOf (L2.CX P w) P w K mg base N qual (defScope st) f cdv A outer s H E).env (cxOf (L2.CX P w) P w K mg base N qual (defScope st) f cdv A outer s H E).xe →
      Takes (cxOf (L2.CX P w) P w K mg base N qual (defScope st) f cdv A outer s H E) (fun cls d _ H => E cls d H) →
      ∃ t c, PSs (cxOf (L2.CX P w) P w K mg base N qual (defScope st) f cdv A outer s H E) (defBody st) t ∧ c ≤ kd ∧ ∀ X0, ∃ m : SM, SS (exC C E X0) c t m ∧ ∀ ds Q, S ds Q X0 → m (env0 N ds) { nx := fun _ => Q .non, rt := Q }) :
    FnOk P w K mg base (L2.CX P w) (k + 1) f fd ps (spX C kd S) := by
  refine F.okX sc (fun vs H Q E ⟨_, _, _, ds, _, _, _, _, _, r, h⟩ => by rw [r.length]; exact len ds _ _ h) fun cdv A outer s H vs Q E hr h => ?_
  obtain ⟨t, c, ht, hc, hs⟩ := body cdv A outer s H E hr (passes_of rfl) (takes_of rfl rfl rfl rfl)
  exact ⟨t, ht, pl_bodyX hs hc h⟩
/-- a def of the module that may raise -/
structure PrX (P : Program) (w : World) (K : PySem.W.Frag) (mg : Str → Option Value) (base : Heap) (x : Str) (k : Nat) (ps : List Str) (sp : Sp) : Prop where
  ex : ∃ f fd, FnOk P w K mg base (L2.CX P w) k f fd ps sp ∧ mg x = some (.ref f) ∧ PySem.W.keepIn K (.ref f) = true ∧ Binds K fd ps [] ∧ KBinds K fd ps ps g0 g0
variable {X : Cx} {x : Str} {k : Nat} {ps : List Str} {sp : Sp} {p pos : Pos} {e : Expr} {es : List Expr} {t : TA} {E : XK}
theorem pe_callX (h : PrX X.prog X.w X.K X.mg X.base x k ps sp) (hr : Room k X.A) (tk : Takes X (fun cls d _ H => E cls d H)) (hg : Gl X x) (ha : PA X (e :: es) t)
    (hdb : (x == ("__debug__" : Str)) = false := by decide) (he : starEach (e :: es) X.env = (false, eval e X.env) :: starEach es X.env := by rfl) (hpl : (backTo pos (starEach es X.env)).any (·.1) = false := by rfl) :
    PE X (.Call (.Name x p) (e :: es) [] pos) (tCall sp [] E t) := by
  obtain ⟨f, fd, h1, h2, h3, h4, _⟩ := h.ex
  exact pe_call h1 hr hg h2 h3 h4 .nil (passes_call tk fun _ _ _ _ z => z) ha hdb he hpl
/-- .. where nothing is raised -/
theorem pe_callNK {kws : List Keyword} (h : PrX X.prog X.w X.K X.mg X.base x k ps sp) (hr : Room k X.A) (hg : Gl X x) (ha : PK X kws t)
    (hall : (backToKw pos (keywordEach kws X.env)).all (·.1.isSome) = true := by rfl) (hks : (backToKw pos (keywordEach kws X.env)).filterMap (·.1) = ps := by rfl)
    (hdb : (x == ("__debug__" : Str)) = false := by decide) (hpl : ((backTo pos (starEach [] X.env)).any (·.1) || (backToKw pos (keywordEach kws X.env)).any (·.1.isNone)) = false := by rfl) :
    PE X (.Call (.Name x p) [] kws pos) (tCallK sp g0 E0 tNil t) := by
  obtain ⟨f, fd, h1, h2, h3, _, h4⟩ := h.ex
  exact pe_callK0 h1 hr hg h2 h3 h4 passL ha hall hks hdb hpl
theorem pe_callXK {kws : List Keyword} (h : PrX X.prog X.w X.K X.mg X.base x k ps sp) (hr : Room k X.A) (tk : Takes X (fun cls d _ H => E cls d H)) (hg : Gl X x) (ha : PK X kws t)
    (hall : (backToKw pos (keywordEach kws X.env)).all (·.1.isSome) = true := by rfl) (hks : (backToKw pos (keywordEach kws X.env)).filterMap (·.1) = ps := by rfl)
    (hdb : (x == ("__debug__" : Str)) = false := by decide) (hpl : ((backTo pos (starEach [] X.env)).any (·.1) || (backToKw pos (keywordEach kws X.env)).any (·.1.isNone)) = false := by rfl) :
    PE X (.Call (.Name x p) [] kws pos) (tCallK sp g0 E tNil t) := by
  obtain ⟨f, fd, h1, h2, h3, _, h4⟩ := h.ex
  exact pe_callK0 h1 hr hg h2 h3 h4 (passes_call tk fun _ _ _ _ z => z) ha hall hks hdb hpl
theorem pe_callN (h : PrX X.prog X.w X.K X.mg X.base x k ps sp) (hr : Room k X.A) (hg : Gl X x) (ha : PA X (e :: es) t)
    (hdb : (x == ("__debug__" : Str)) = false := by decide) (he : starEach (e :: es) X.env = (false, eval e X.env) :: starEach es X.env := by rfl) (hpl : (backTo pos (starEach es X.env)).any (·.1) = false := by rfl) :
    PE X (.Call (.Name x p) (e :: es) [] pos) (tCall sp [] E0 t) := by
  obtain ⟨f, fd, h1, h2, h3, h4, _⟩ := h.ex
  exact pe_call h1 hr hg h2 h3 h4 .nil passL ha hdb he hpl
end
end PL

/-! XB: a caught exception stays known. -/
namespace PL
open PySem PySem.Spec PyProof.Rows L2
theorem excK_ok {P : Program} {w : World} {H : Hp} {h : Heap} {a : Addr} {c : Value} {d : Option Addr} {o : Obj} {vs : Array Value} (e : h.get? a = some o) (z : Zc c d o) (f : o.data = .fields vs) : ObjOk P w H h a (ExcK c d a) := ⟨⟨o, vs, e, z, f⟩, ⟨o, e⟩, fun _ _ ⟨u, us, h1, h2, h3⟩ k => ⟨u, us, k u h1, h2, h3⟩⟩
section
variable {X : Cx} {pins : List (Addr × Obj)} {σ : L2.St} {H : Hp} {s : Shared}
/-- an object of a caught exception is known from now on -/
theorem inv_track {a : Addr} {c : Value} {d : Option Addr} {o : Obj} {vs : Array Value} (I : Inv X pins σ H s) (hx : X.ex = []) (e : s.heap.get? a = some o) (z : Zc c d o) (f : o.data = .fields vs) (na : H a = none) (nL : a ≠ X.env.locals) (n0 : X.s_0.heap.get? a = none)
    (np : ∀ p ∈ X.pn ++ pins, p.1 ≠ a) : Inv X pins σ (upd H a (ExcK c d a)) s := by
  have sm : ∀ {b u}, H b = some u → upd H a (ExcK c d a) b = some u := fun {b u} q => (upd_ne (ne_of_none q na)).trans q
  have nn : ∀ {b}, b ≠ a → H b = none → upd H a (ExcK c d a) b = none := fun {b} q r => (upd_ne q).trans r
  refine ⟨I.ok, I.os, I.bare, ⟨I.base.keep, I.base.slot, fun b u q n x => nn (fun y => ?_) (I.base.free b u q n x), I.base.there, fun b xs q => sm (I.base.tups b xs q), fun b u w q => sm (I.base.frzs b u w q), fun b ps q => (I.base.tbls b ps q).imp fun more r => sm r⟩, I.loc, I.cell, nn nL.symm I.free, fun x k q => nn (fun y => ?_) (I.freeC x k q), fun p hp => ?_, fun b u q => ?_, I.len⟩
  · rw [y, n0] at q; cases q
  · obtain ⟨v, u, h1, h2⟩ := I.cell x k q
    rw [y, e] at h1; cases h1
    rw [f] at h2; cases h2
  · obtain ⟨h1, h2, h3⟩ := I.pin p hp
    exact ⟨h1, nn (np p hp) h2, h3⟩
  · by_cases hb : b = a
    · rw [hb, upd_same] at q
      cases q
      rw [hb]
      exact excK_ok e z f
    · rw [upd_ne hb] at q
      exact (I.hok b u q).stay (fun _ _ _ r => r) (fun _ r => sm r) fun _ _ r => sm r
end
/-- what 'except x as n' wishes, where the caught object is known behind the try -/
def wKp (K : PySem.W.Frag) (cx : Value) (i : Nat) (ts : Addr → Value → Option Addr → TS) (D : Ends) : WX := fun c d σ H => PySem.W.exmOne K c cx = some true ∧ ∀ a, H a = none → ts a c d { nx := fun σ' H' => D.nx (σ'.set i none) (upd H' a (ExcK c d a)), rt := fun _ _ => False } (σ.set i (some (.ref a))) H
section
variable {X : Cx} {x n : Str} {cx : Value} {i : Nat} {body suite : List Stmt} {b1 : Stmt} {np pos pos' : Pos} {tb : WX → TS} {ts : Addr → Value → Option Addr → TS}
theorem ps_try_kept (hs : X.stack = X.env :: X.outer) (hf : X.env.frame = some X.env.locals) (hex : X.ex = []) (hN : X.N.Nodup) (hi : X.N[i]? = some n) (hln : X.env.kindOf n = some .local) (hc : Names X x cx)
    (hb : ∀ (W : WX) (pn : List (Addr × Obj)) (xe : Value → Shared → Prop), Takes (X.tr pn xe) W → PSs (X.tr pn xe) body (tb W))
    (hsu : ∀ (a : Addr) (o : Obj) (c : Value) (d : Option Addr) (pn : List (Addr × Obj)), Zc c d o → (∃ vs, o.data = .fields vs) → PSs (X.suite a ((a, o) :: pn)) (b1 :: suite) (ts a c d)) :
    PS X (.Try body [.ExceptHandler (some (.Name x np)) (some n) (b1 :: suite) pos'] [] [] pos) (fun D σ H => tb (wKp X.K cx i ts D) D σ H) := by
  constructor
  intro pins s σ H D I h
  have ok := I.ok
  have hfr : X.A.frames = some (X.env :: X.outer) := ok.frames.trans (congrArg some hs)
  apply wpAny_Try_except
  let xe' : Value → Shared → Prop := fun u t1 => wpAny (model X.prog X.w) X.A (noteFrame u X.env) (fun _ t2 => wpAny (model X.prog X.w) X.A (setFlight u none)
      (fun _ t3 => wpAny (model X.prog X.w) X.A (handleBy u X.env [.ExceptHandler (some (.Name x np)) (some n) (b1 :: suite) pos']) (SP X pins D) X.xe t3) X.xe t2) X.xe t1
  have tk : Takes (X.tr (X.pn ++ pins) xe') (wKp X.K cx i ts D) := by
    intro u s1 ex
    obtain ⟨a, B, sI, pins', σ', H', c, d, rfl, J0, nb, up, sky, na, os, ag, hm, hyes⟩ := ex
    have J : Inv X pins σ' H' sI := Inv.ofTry J0 ok
    have sky2 : Sky B (X.env :: X.outer) a (Zc c d) X.env.locals s1.heap := hs ▸ sky
    show wpAny (model X.prog X.w) X.A (noteFrame (.ref a) X.env) _ _ _
    refine Sky.land Zc.steady hfr hf sky2 fun h3 fl3 up3 => ?_
    have J3 := J.landed (s' := { s1 with heap := h3 }) nb fl3.1 (up.trans up3) os ag
    obtain ⟨o3, vs3, he3, hz3, hd3⟩ := fl3.there
    have out : a ∉ frs (X.env :: X.outer) := fun hm => by
      obtain ⟨_, o', e', hnf⟩ := Heap.FunFrames.mem fl3.2.2.1 hm
      rw [he3] at e'; cases e'
      exact hnf _ hd3
    have nL : a ≠ X.env.locals := fun z => out (List.mem_filterMap.mpr ⟨X.env, List.mem_cons_self, hf.trans (congrArg some z.symm)⟩)
    have nF : a ∉ X.fs := fun hm => let ⟨e, he, q⟩ := List.mem_filterMap.mp hm; out (List.mem_filterMap.mpr ⟨e, List.mem_cons_of_mem _ he, q⟩)
    have gI : sI.heap.get? a = none := by
      cases q : sI.heap.get? a with
      | none => rfl
      | some o =>
        have := nb a o q (by rw [hs]; exact out)
        rw [fl3.2.1] at this; cases this
    have g0 : X.s_0.heap.get? a = none := by
      cases q : X.s_0.heap.get? a with
      | none => rfl
      | some o =>
        obtain ⟨o', q'⟩ := J.base.there a o q (by rw [hex]; exact fun z => nomatch z)
        rw [gI] at q'; cases q'
    have npn : ∀ p ∈ X.pn ++ pins, p.1 ≠ a := fun p hp z => by
      have := (J.pin p hp).1
      rw [z, gI] at this; cases this
    have S3 := J3.suite he3 hd3 na nL nF
    refine wpAny_handleBy_cons (codeAny_handlers_test ?_) (fun q => nomatch q)
    have LT : PySem.W.Looks (model X.prog X.w) h3 (typeOf (.ref a)) c := fun A Q E s k q => wpAny_typeOf_ref (k _ _ he3) (hz3.1.symm ▸ q)
    have test : ∀ {Q E : Value → Shared → Prop}, Q cx { s1 with heap := h3 } → wpAny (model X.prog X.w) (X.A.mark (some (.ref a))) (eval (.Name x np) X.env) Q E { s1 with heap := h3 } := fun {Q E} q => by
      rcases hc with ⟨hg, hdb, hm | ⟨hm, hv, hnn⟩⟩
      · exact ld_glob (X := X.suite a ((a, o3) :: (X.pn ++ pins))) S3 hg hm q hdb
      · exact ld_blt (X := X.suite a ((a, o3) :: (X.pn ++ pins))) S3 hg hm hv q hnn hdb
    refine test ((PySem.W.exm_one (M := model X.prog X.w) J3.kIn LT hm).here (codeAny_handlers_suite_as (HandSPX.lands_againZ fl3 fun h4 fl4 up4 => ?_)))
    have J4 := J.landed (s' := { s1 with heap := h4 }) nb fl4.1 (up.trans (up3.trans up4)) os ag
    obtain ⟨o4, vs4, he4, hz4, hd4⟩ := fl4.there
    refine store_ok (X := X.suite a ((a, o4) :: (X.pn ++ pins))) (v := .ref a) (J4.suite he4 hd4 na nL nF) hN hi (.inl hln) rfl (fun s5 S5 => ?_) (.inr hln)
    refine wpAny_mono ((hsu a o4 c d (X.pn ++ pins) hz4 ⟨_, hd4⟩).run [] s5 _ H' _ S5 (hyes a na)) (fun f s6 q => ?_) fun _ _ z => z.elim
    cases f with
    | next =>
      obtain ⟨σ6, H6, S6, q6⟩ := q
      refine gone_ok (X := X.suite a ((a, o4) :: (X.pn ++ pins))) S6 hN hi hln fun s7 S7 => ?_
      obtain ⟨e7, n7, _⟩ := S7.pin (a, o4) (List.mem_append_left _ List.mem_cons_self)
      exact ⟨_, _, inv_track (S7.unsuite ok) hex e7 hz4 hd4 n7 nL g0 npn, q6⟩
    | brk => obtain ⟨_, _, _, q⟩ := q; exact q.elim
    | cont => obtain ⟨_, _, _, q⟩ := q; exact q.elim
    | ret u => obtain ⟨_, _, _, _, _, q⟩ := q; exact q.elim
  refine wpAny_mono ((hb _ _ _ tk).run [] s σ H D (I.toTry _) h) (fun f s1 q => ?_) fun _ _ z => z
  cases f with
  | next =>
    obtain ⟨τ, L, J, q⟩ := q
    exact wpAny_execs_nil ⟨τ, L, J.ofTry ok, q⟩
  | brk =>
    obtain ⟨τ, L, J, q⟩ := q
    exact ⟨τ, L, J.ofTry ok, q⟩
  | cont =>
    obtain ⟨τ, L, J, q⟩ := q
    exact ⟨τ, L, J.ofTry ok, q⟩
  | ret u =>
    obtain ⟨v, τ, L, J, r, q⟩ := q
    exact ⟨v, τ, L, J.ofTry ok, r, q⟩
end
end PL

/-! XL: a lambda without parameters, handed to the def that catches. -/
namespace PL
open PySem PySem.Spec PyProof.Rows L2 LamX
/-- all but the table at P stays -/
def ExtP (P : Addr) (H H1 : Hp) : Prop := ∀ b o, H b = some o → b ≠ P → H1 b = some o
section
variable {X : Cx} {pins : List (Addr × Obj)} {σ : L2.St} {H : Hp} {s : Shared}
theorem lam_made {T : List (Addr × Str)} {c P : Addr} {pa : Arguments} {body : Expr} {sc : Scope} {pos : Pos} {E Q : Value → Shared → Prop} (I : Inv X pins σ H s) (TB : TabB X.base X.mg c P) (hcode : X.env.code = .ref c) (hm : (P, X.env.qual ++ "<lambda>") ∈ T)
    (hu : ∀ p ∈ T, p.1 = P → p.2 = X.env.qual ++ "<lambda>") (hT : Tabs T H) (hdef : defaultsOf pa X.env = ([], [])) (hfree : ∀ y ∈ sc.names, y.2 = .free → ∃ c, X.env.cells.lookup y.1 = some c)
    (h : ∀ (f c' : Addr) (pm ctv : Value) (H1 : Hp) (s' : Shared), Inv X pins σ H1 s' → ExtP P H H1 → Tabs T H1 → s'.heap.get? f = some (PySem.W.kla_obj "<lambda>" (X.env.qual ++ "<lambda>") pa body sc (cloFrom X.env.cells sc.names []) pm c' ctv) → H1 f = none → f ∉ frs X.stack →
      H1 c' = some (CodeO c' (X.env.qual ++ "<lambda>")) → Q (.ref f) s') : wpAny (model X.prog X.w) X.A (eval (.Lambda pa body sc pos) X.env) Q E s := by
  obtain ⟨ps, hP, ht, ha⟩ := hT _ hm
  apply PySem.W.kla_eval hdef
  have hP2 : s.heap.get? P = some { cls := .none, data := .fields ps } := I.hok P _ hP
  have nofr : ∀ {f}, s.heap.objs.size ≤ f → f ∉ frs X.stack := fun {f} hf z => (List.mem_cons.mp (I.stkSub _ z)).elim (fun e => Nat.lt_irrefl _ (Nat.lt_of_lt_of_le (e ▸ I.lt) hf)) (I.nofs hf)
  generalize hw : codeAmong pos ps.toList = found
  cases found with
  | none =>
    refine PySem.W.kla_makeFunction (mg := X.mg) (c := c) (P := P) (ps := ps) (closure_ok hfree) I.ok.glob (I.mod.glob.keeps I.bk) hcode (TB.code.keeps I.bk) hP2 ht hw TB.gP (TB.bm.keeps I.bk) fun c' ctv h' tk hx hge hlt hrec htb => ?_
    obtain ⟨_, oc, vs, t, e2, hoc, hd, hv⟩ := hrec
    cases e2
    have hsz := Nat.le_trans hge (Nat.le_of_lt hlt)
    have nC : H c' = none := I.hok.fresh hge
    have nPC := ne_of_none hP nC
    generalize hmore : ps ++ #[rawInt pos.line, rawInt pos.col, .ref c'] = ps2 at htb
    have eL : ps2.toList = ps.toList ++ [rawInt pos.line, rawInt pos.col, .ref c'] := by rw [← hmore]; simp
    generalize hob : PySem.W.kla_obj "<lambda>" (X.env.qual ++ "<lambda>") pa body sc (cloFrom X.env.cells sc.names []) ((X.mg "__name__").getD .none) c' ctv = ob
    have I1 := inv_table (t' := tk) (h' := h'.push ob) I hP (fun b o hb e => Heap.get?_push_of_some _ (hx b o hb e)) (by rw [hmore]; exact Heap.get?_push_of_some _ htb) hge ⟨oc, vs, t, Heap.get?_push_of_some _ hoc, hd, hv⟩
    rw [hmore] at I1
    have hE : ExtP P H (upd (upd H P (.tbl ps2)) c' (CodeO c' (X.env.qual ++ "<lambda>"))) := fun b o e n => by rw [upd_ne (ne_of_none e nC), upd_ne n]; exact e
    have nco : ∀ {b q}, H b = some (CodeO b q) → b ≠ P := fun {b q} e z => by
      rw [z, hP] at e
      exact codeO_ne ps (Option.some.inj e).symm
    refine h h'.objs.size c' _ ctv _ _ I1 hE (fun p hp => ?_) (by rw [hob]; exact Heap.get?_push_size _ (by rw [← hob]; rfl)) ?_ (nofr hsz) upd_same
    · by_cases hb : p.1 = P
      · refine ⟨ps2, by rw [hb, upd_ne nPC, upd_same], by rw [eL]; exact PySem.TriplesOk_snoc _ _ _ _ ht, fun p' cv hcv => ?_⟩
        rw [hu p hp hb]
        rcases among_app _ ht (eL ▸ hcv) with z | z
        · obtain ⟨c0, e1, e2⟩ := ha p' cv z
          exact ⟨c0, e1, hE _ _ e2 (nco e2)⟩
        · exact ⟨c', z, upd_same⟩
      · obtain ⟨qs, a1, a2, a3⟩ := hT p hp
        exact ⟨qs, hE _ _ a1 hb, a2, fun p' cv hcv => let ⟨c0, e1, e2⟩ := a3 p' cv hcv; ⟨c0, e1, hE _ _ e2 (nco e2)⟩⟩
    · rw [upd_ne (Nat.ne_of_gt hlt), upd_ne (Nat.ne_of_gt (Nat.lt_of_lt_of_le (Heap.lt_size hP2) hsz))]
      exact I.hok.fresh hsz
  | some cv =>
    obtain ⟨c', rfl, hco⟩ := ha pos cv hw
    refine PySem.W.kla_makeFunctionHit (mg := X.mg) (c := c) (P := P) (ps := ps) (closure_ok hfree) I.ok.glob (I.mod.glob.keeps I.bk) hcode (TB.code.keeps I.bk) hP2 ht hw (TB.bm.keeps I.bk) fun ctv h' tk hx hsz => ?_
    exact h _ c' _ ctv H _ (I.kept (t' := tk) fun b o e => Heap.get?_push_of_some _ (hx b o e)) (fun _ _ e _ => e) hT (Heap.get?_push_size _ rfl) (I.hok.fresh hsz) (nofr hsz) hco
/-- f(lambda: ..) -/
def tLamP (P : Addr) (T : List (Addr × Str)) (TT : (XK → Hp → VK → Prop) → Hp → VK → Prop) (t : XK → TE) : TE := fun σ H Q => Tabs T H ∧ ∀ H1, ExtP P H H1 → Tabs T H1 → TT (fun E H' Q' => t E σ H' Q') H1 Q
theorem pe_lamP {T : List (Addr × Str)} {TT : (XK → Hp → VK → Prop) → Hp → VK → Prop} {x a : Str} {g c P : Addr} {k : Nat} {pg pa : Arguments} {bg : List Stmt} {sg sc : Scope} {dV kV doc pm cdv ct oc : Value} {an od : Option Addr} {osl : Array (Option Value)} {Ng : List Str} {body : Expr} {t : XK → TE} {p lp pos : Pos}
    (hg : Gl X x) (hm : X.mg x = some (.ref g)) (hk : PySem.W.keepIn X.K (.ref g) = true) (lk : X.K.lookup g = some ⟨oc, od, .func (PySem.W.fnOf x x pg bg sg dV kV doc pm an cdv ct), osl⟩) (hcg : PySem.W.codeIn X.K cdv x = true)
    (hb : L2.Binds X.K (PySem.W.fnOf x x pg bg sg dV kV doc pm an cdv ct) [a] []) (Sg : FnScope Ng [a] sg) (hNg : Ng[0]? = some a) (hva : Vis sg a) (hG : GivesTo X Ng x sg g cdv bg a (X.env.qual ++ "<lambda>") TT) (TB : TabB X.base X.mg c P) (hcode : X.env.code = .ref c)
    (hmT : (P, X.env.qual ++ "<lambda>") ∈ T) (hu : ∀ p ∈ T, p.1 = P → p.2 = X.env.qual ++ "<lambda>") (hr : Room (k + 2) X.A) (L : LamS X.env.scope sc) (hdef : defaultsOf pa X.env = ([], []))
    (hbind : ∀ (q : Str) (cl : List (Str × Addr)) (pm cv ctv : Value), bindArgs (PySem.W.kla_fn "<lambda>" q pa body sc cl pm cv ctv) ⟨[], []⟩ = pure [])
    (hbody : ∀ (A : Around) (outer : List Env) (s : Shared) (H : Hp) (E : XK) (f c' : Addr), Room k (A.deeper (lamEnv X sc s.heap.objs.size f c')) → PE (lamCx X A outer s H E sc f c') body (t E))
    (hdb : (x == ("__debug__" : Str)) = false := by decide) (hd : (a == ("__debug__" : Str)) = false := by decide) (hcd : (a == ("__classdict__" : Str)) = false := by decide) : PE X (.Call (.Name x p) [.Lambda pa body sc lp] [] pos) (tLamP P T TT t) := by
  constructor
  intro pins s σ H Q I ⟨hT, h⟩
  apply wpAny_Call_Name_kw
  refine ld_glob I hg hm (PySem.W.callWith_K (h₀ := X.base) I.ok.mod.kin hk ?_ (by rfl) (by rfl)) hdb
  show wpAny _ _ (spliced ((false, eval (.Lambda pa body sc lp) X.env) :: backTo pos (starEach [] X.env))) _ _ s
  apply Calls.spliced_cons
  refine lam_made I TB hcode hmT hu hT hdef (L.has I.ok) fun f c' pm' ctv H1 s' I1 eN T1 hf hfn hfr hco => Calls.spliced_nil ⟨I1.kIn, ?_⟩
  have run : codeAny (model X.prog X.w) X.A (.call (.ref g) ⟨[.ref f], []⟩) (CR C8.CX0 X.stack X.prog X.w H1 s' Q C8.E0) s' := run_ofS (N := Ng) (ps := [a]) (us := [.ref f]) (vs := [.ref f]) lk hcg Sg hr I1.env0 (hb s' [.ref f] I1.kIn rfl) (.cons rfl .nil) rfl fun hr2 => by
    obtain ⟨t2, ht2, hq2⟩ := hG f c' s' H1 Q (fun E H' Q' => t E σ H' Q') (fun W pn xe E p1 p2 tk hW => pe_act (i := 0) I1 L hf hfn hfr (hbind _ _ _ _ _) tk hW hr2 (fun A outer s H r3 => hbody A outer s H E f c' r3) hNg hva hd hcd) hco (h H1 eN T1)
    exact ⟨t2, ht2.nox, hq2⟩
  refine wpAny_call (codeAny_mono run fun r s2 hq => ?_)
  match r, hq with
  | .error e, hq => exact (show False from hq).elim
  | .ok (.ret u), hq => exact I1.after hq
  | .ok .next, hq => exact hq.elim
  | .ok .brk, hq => exact hq.elim
  | .ok .cont, hq => exact hq.elim
end
end PL

/-! XG: the def that catches. -/
namespace PL
open PySem PySem.Spec PyProof.Rows L2 LamX
/-- caught = None / try: work() / except CopyError as error: caught = error / return caught -/
def TCaught (K : PySem.W.Frag) (CE : Addr) : (XK → Hp → VK → Prop) → Hp → VK → Prop := fun tl H Q => tl (fun c d H' => PySem.W.exmOne K c (.ref CE) = some true ∧ ∀ a, H' a = none → Q (.ref a) (upd H' a (ExcK c d a))) H fun _ H' => Q .non H'
def cNames : List Str := ["work", "caught", "error"]
def cBody (p1 p2 p3 q1 q2 q3 q4 q5 q6 q7 q8 q9 r1 r2 : Pos) (j : Nat) : List Stmt := [.Assign [.Name "caught" p1] (.Constant .none j p2) p3,
  .Try [.Expr (.Call (.Name "work" q1) [] [] q2) q3] [.ExceptHandler (some (.Name "CopyError" q4)) (some "error") [.Assign [.Name "caught" q5] (.Name "error" q6) q7] q8] [] [] q9, .Return (some (.Name "caught" r1)) r2]
theorem takes_len {X : Cx} {W : WX} (tk : Takes X W) : Takes X (fun c d σ H => σ.length = X.N.length → W c d σ H) := fun u s' ⟨a, B, sI, pins, σ, H, cls, d, e, I, nb, up, sky, na, os, ag, w⟩ => tk u s' ⟨a, B, sI, pins, σ, H, cls, d, e, I, nb, up, sky, na, os, ag, w I.len⟩
section
variable {X : Cx}
theorem caught_gives {x q : Str} {sg : Scope} {g CE : Addr} {cdg : Value} {p1 p2 p3 q1 q2 q3 q4 q5 q6 q7 q8 q9 r1 r2 : Pos} {j : Nat} (S : FnScope cNames ["work"] sg) (hk : ∀ y ∈ cNames, sg.names.lookup y = some .local) (hge : sg.names.lookup ("CopyError" : Str) = some .globalImplicit) (hme : X.mg "CopyError" = some (.ref CE)) :
    GivesTo X cNames x sg g cdg (cBody p1 p2 p3 q1 q2 q3 q4 q5 q6 q7 q8 q9 r1 r2 j) "work" q (TCaught X.K CE) := by
  intro f c' s H Q tl act hc h
  have hgl : Gl (cxOf C8.CX0 X.prog X.w X.K X.mg X.base cNames x sg g cdg X.A X.stack s H C8.E0).nox "CopyError" := hge
  have k0 := hk "work" (by simp [cNames])
  have k1 := hk "caught" (by simp [cNames])
  have k2 := hk "error" (by simp [cNames])
  refine ⟨_, pss_cons (ps_set (i := 1) S.nd rfl (.inl k1) pe_non) (pss_cons (ps_try_kept (X := (cxOf C8.CX0 X.prog X.w X.K X.mg X.base cNames x sg g cdg X.A X.stack s H C8.E0).nox) (cx := .ref CE) (i := 2)
      (tb := fun W D σ H => ∃ Ech : XK, (∀ cls d σ' H', Ech cls d H' → σ'.length = 3 → W cls d σ' H') ∧ σ[0]? = some (some (.ref f)) ∧ H c' = some (CodeO c' q) ∧ tl Ech H fun _ H' => D.nx σ H')
      rfl rfl rfl S.nd rfl k2 ⟨hgl, by decide, .inl hme⟩ (fun W pn xe tk => ?_) (fun a o c d pn _ _ => pss_one (ps_set (i := 1) S.nd rfl (.inl k1) (pv 2 (hv := .inl k2))))) (pss_one (ps_ret (pv 1 (hv := .inl k1))))), ?_⟩
  · constructor
    rintro pins s' σ H' D I ⟨Ech, hW, h1, h2, h3⟩
    have hp := act _ pn xe Ech q1 q2 (takes_len tk) (fun cls d σ' H' z l => hW cls d σ' H' z l)
    exact (pss_one (ps_expr hp)).run pins s' σ H' D I ⟨h1, h2, h3⟩
  · refine ⟨fun c d H' => PySem.W.exmOne X.K c (.ref CE) = some true ∧ ∀ a, H' a = none → Q (.ref a) (upd H' a (ExcK c d a)), ?_, rfl, hc, ?_⟩
    · rintro c d σ' H' ⟨h1, h2⟩ hl
      match σ', hl with
      | [x0, x1, x2], _ => exact ⟨h1, fun a na => ⟨_, rfl, ⟨_, rfl, h2 a na⟩⟩⟩
    · have e : (fun (_ : V) (H' : Hp) => tRet (tVar 1) { nx := fun _ H' => Q .non H', rt := Q } ((L2.start cNames [V.ref f]).set 1 (some .non)) H') = fun _ H' => Q .non H' := by
        funext v H'
        exact propext ⟨fun ⟨u, hu, q⟩ => by cases hu; exact q, fun q => ⟨_, rfl, q⟩⟩
      show tl _ H (fun (_ : V) (H' : Hp) => tRet (tVar 1) { nx := fun _ H' => Q .non H', rt := Q } ((L2.start cNames [V.ref f]).set 1 (some .non)) H')
      rw [e]
      exact h
end
end PL

/-! XE: what is caught, as data; isinstance and attributes of it. -/
namespace PL
open PySem PySem.Spec PyProof.Rows L2 LamX
theorem Fr.unOwn {G G' : Cfg} {n n' : Nat} {O O' : Addr → Prop} {env : Ev} {σ : L2.St} {H H' : Hp} (F : Fr G n O env σ H) (W : Wl G' n' O' H') (l : LeA (Sh O H) (Sh O' H')) : Fr G' n' O' (unOwn env) σ H' := by
  refine ⟨W, by unfold PL.unOwn; rw [List.length_map]; exact F.len, fun j d ed nd => ?_, fun j q a ⟨d, ed, od⟩ _ _ _ => ?_⟩
  · obtain ⟨d, rfl, e⟩ := unOwn_at ed nd
    obtain ⟨u, h1, h2⟩ := F.sl j _ e fun z => nomatch z
    cases h2 with
    | dat r => exact ⟨u, h1, .dat (r.mono l)⟩
  · obtain ⟨d', rfl, _⟩ := unOwn_at ed (by intro z; rw [z] at od; cases od)
    cases od
/-- the tables of code objects are the world's own -/
structure TbW (P : Addr) (T : List (Addr × Str)) (w : Wd) : Prop where
  z : w.Z P
  t : ∀ n H, w.ok n H → Tabs T H
  x : ∀ n H H1, w.ok n H → ExtP P H H1 → Tabs T H1 → w.ok n H1
theorem exn_rp {A B : At} {c : Value} {d : Option Addr} {e : Exn} {a : Addr} (h : ExnAt A c d e) (l : LeA A B) (hb : B a (ExcK c d a)) : Rp B (.ref a) (.exc e.1 e.2.1 e.2.2) := by
  obtain ⟨h1, ⟨h2, h3, h4⟩ | ⟨dd, xs, h2, h3, h4, h5⟩⟩ := h
  · rw [h3, h4, ← h1]
    rw [h2] at hb
    exact .exc0 hb
  · rw [← h1]
    rw [h2] at hb
    exact .exc1 hb (l _ _ h3) h4 (h5.mono l)
section
variable {C : Wd → XC → Prop} {C0 : Wd → Prop} {K : PySem.W.Frag} {te : TE} {ta : TA} {m : EM} {am : AM} {c k : Nat}
/-- _law_caught(lambda: ..) -/
def mCaught (K : PySem.W.Frag) (CE : Addr) (mx : (Exn → Prop) → EM) : EM := fun env Q => mx (fun e => PySem.W.exmOne K e.1 (.ref CE) = some true ∧ Q (.exc e.1 e.2.1 e.2.2)) (unOwn env) fun _ => Q .non
theorem se_caught {P CE : Addr} {T : List (Addr × Str)} (hW : ∀ w x, C w x → TbW P T w ∧ C0 w) {t : XK → TE} {mx : (Exn → Prop) → EM} (ht : ∀ E X0, SE (exC C0 E X0) 0 (t E) (mx X0)) : SE C 0 (tLamP P T (TCaught K CE) t) (mCaught K CE mx) := fun G g n O env σ H Qd Q hL F hm q => by
  obtain ⟨B, c0⟩ := hW _ _ g
  refine ⟨B.t n H F.wl.ok, fun H1 ex T1 => ?_⟩
  have gr : Grow G.w H H1 := fun b o e z => ex b o e fun y => z (y ▸ B.z)
  have ok1 := B.x n H H1 F.wl.ok ex T1
  have F1 := F.grow gr ok1
  show t _ σ H1 _
  refine ht _ (fun e => PySem.W.exmOne K e.1 (.ref CE) = some true ∧ Qd (.exc e.1 e.2.1 e.2.2)) (⟨G.w, H1, O, F1.wl.tr, ⟨n, Nat.le_trans (Nat.le_trans (Nat.le_add_right _ _) hL) G.x.le, H1, fun c d H' => PySem.W.exmOne K c (.ref CE) = some true ∧ ∀ a, H' a = none → Q (.ref a) (upd H' a (ExcK c d a)), fun e => PySem.W.exmOne K e.1 (.ref CE) = some true ∧ Qd (.exc e.1 e.2.1 e.2.2)⟩, Grow.refl _ _, fun n' H' cv d e hn ok' g' a z => ?_⟩ : Cfg) ⟨c0, rfl, rfl⟩ n O (unOwn env) σ H1 (fun _ => Qd .non) (fun _ H' => Q .non H') (Nat.le_refl _) (F1.unOwn ⟨ok1, F1.wl.zo, fun _ y => y, F1.wl.tr, Grow.refl _ _⟩ (LeA.refl _)) hm (fun d v H' hd g' ok' r => q .non .non H' hd (gr.trans g') ok' .non)
  refine ⟨by rw [a.1]; exact z.1, fun ad hn2 => ?_⟩
  have ok2 := G.w.up _ _ _ hn ok'
  have W2 := F1.wl.grow g' ok2
  have g2 : Grow G.w H' (upd H' ad (ExcK cv d ad)) := Grow.new _ hn2
  exact q _ _ _ z.2 (gr.trans (g'.trans g2)) (Wd.okNew hn2 ok2) (exn_rp a (sh_grow W2.zo g2) ⟨.inl upd_same, W2.free hn2⟩)
/-! ### isinstance -/
structure IsX (K : PySem.W.Frag) (C : Addr) : Prop where
  cl : (PySem.W.clsIn K C).isSome = true
  ga : PySem.W.findIn K (.ref C) "__getattribute__" = some (some (.builtin "BaseException.__getattribute__"))
  gg : PySem.W.findIn K (.ref C) "__getattr__" = some none
  sb : PySem.W.subIn K (.ref C) (.type "BaseException") = some true
  ca : PySem.W.findIn K (.ref C) "__class__" = some (some (.builtin "object.__class__"))
  cn : PySem.W.specialIn K (.builtin "object.__class__") "__get__" = some (some (.builtin "getset_descriptor.__get__"))
  ct : PySem.W.takesIn K (.builtin "object.__class__") = some true
  cm : PySem.W.mroIn K C (.type "object") = some true
theorem inst_of {P : Program} {w : World} {H : Hp} {h : Heap} {a C1 : Addr} {d : Option Addr} (hok : HOk P w H h) (e : H a = some (ExcK (.ref C1) d a)) (hd : ∀ dd, d = some dd → ∃ fs, H dd = some (.xd fs)) : ∃ (o : Obj) (od : Option Obj), PySem.W.InstAt h a o C1 od := by
  obtain ⟨⟨o, vs, h1, ⟨h2, h3⟩, h4⟩, _, _⟩ := hok a _ e
  have no : PySem.W.notCls o = true := by unfold PySem.W.notCls; rw [h4] <;> rfl
  cases d with
  | none => exact ⟨o, none, h1, h2, no, by rw [h3]; trivial⟩
  | some dd =>
    obtain ⟨fs, ed⟩ := hd dd rfl
    have hx : ObjOk P w H h dd (.xd fs) := hok dd _ ed
    obtain ⟨mA, hns, _⟩ := hx
    obtain ⟨od, ho, _⟩ := lookIn_ns hns
    exact ⟨o, some od, h1, h2, no, by rw [h3]; exact ho⟩
def rIsX (K : PySem.W.Frag) : List V → Hp → VK → Prop := fun xs H Q => ∃ (a C1 : Addr) (d : Option Addr), xs = [.ref a, .ref C1] ∧ H a = some (ExcK (.ref C1) d a) ∧ (∀ dd, d = some dd → ∃ fs, H dd = some (.xd fs)) ∧ IsX K C1 ∧ Q (.bl true) H
theorem call_isX {X : Cx} : CallR X (.builtin "isinstance") (rIsX X.K) := by
  rintro pins s σ H xs us Q I r ⟨a, C1, d, rfl, e, hd, T, q⟩
  cases r with
  | cons rx rr =>
    cases rr with
    | cons rt rr =>
      cases rr; cases rx; cases rt
      obtain ⟨o, od, J⟩ := inst_of I.hok e hd
      exact PySem.W.kia_one (b := true) (PySem.W.kitx_exc T.cl T.ga T.gg T.sb T.ca T.cn T.ct T.cm) I.kIn J (by unfold PySem.W.kitOne; rw [if_pos (beq_self_eq_true _)]) (fun z => nomatch z) fun tk => ⟨.bl true, H, I.kept (t' := tk) fun _ _ z => z, rfl, q⟩
/-- isinstance(e, its class) -/
def kIsX (C1 : Addr) : List D → (D → Prop) → Prop := fun ds Q => ∃ ns l, ds = [.exc (.ref C1) ns l, .opq (.ref C1)] ∧ Q (.bl true)
theorem exc_at {A : At} {v : V} {c : Value} {ns : List Str} {l : List D} (r : Rp A v (.exc c ns l)) : ∃ a d, v = .ref a ∧ A a (ExcK c d a) ∧ ((d = none ∧ l = []) ∨ ∃ dd xs, d = some dd ∧ A dd (.xd (ns.zip xs)) ∧ ns.length = xs.length ∧ RpL A xs l) := by
  cases r with
  | exc0 h => exact ⟨_, _, rfl, h, .inl ⟨rfl, rfl⟩⟩
  | exc1 h1 h2 h3 h4 => exact ⟨_, _, rfl, h1, .inr ⟨_, _, rfl, h2, h3, h4⟩⟩
theorem rk_ext {H : Hp} {a : Addr} {φ : Heap → Prop} (h : Rk H a (.ext φ)) : H a = some (.ext φ) := h.elim id fun ⟨_, _, e, _⟩ => e.elim (fun ⟨_, e⟩ => nomatch e) fun ⟨_, e⟩ => nomatch e
theorem rk_xd {H : Hp} {a : Addr} {fs : List (Str × V)} (h : Rk H a (.xd fs)) : H a = some (.xd fs) := h.elim id fun ⟨_, _, e, _⟩ => e.elim (fun ⟨_, e⟩ => nomatch e) fun ⟨_, e⟩ => nomatch e
theorem Rr.exc {G : Cfg} {O : Addr → Prop} {H : Hp} {v : V} {c : Value} {ns : List Str} {l : List D} (r : Rr G O H v (.exc c ns l)) : Rp (Sh O H) v (.exc c ns l) := by
  cases r with | dat r => exact r
theorem kc_isX {C1 : Addr} (T : IsX K C1) : KC C (rIsX K) (kIsX C1) := fun G _ n O H vs ds Qd Q W r h q => by
  obtain ⟨ns, l, rfl, h⟩ := h
  obtain ⟨v, w, rfl, r1, r2⟩ := r.two
  have ew : w = .ref C1 := by
    cases r2 with | dat r => cases r; rfl
  subst ew
  obtain ⟨a, d, rfl, e, hd⟩ := exc_at r1.exc
  refine ⟨a, C1, d, rfl, rk_ext e.1, fun dd ed => ?_, T, q _ _ H h (Grow.refl _ _) W.ok (.bl _)⟩
  rcases hd with ⟨z, _⟩ | ⟨d2, xs, z, hx, _⟩
  · rw [z] at ed; cases ed
  · rw [z] at ed; cases ed
    exact ⟨_, rk_xd hx.1⟩
/-! ### e.f -/
def tXg (K : PySem.W.Frag) (f : Str) (te : TE) : TE := fun σ H Q => te σ H fun x H1 => ∃ (a C1 dd : Addr) (fs : List (Str × V)) (v : V), x = .ref a ∧ H1 a = some (ExcK (.ref C1) (some dd) a) ∧ H1 dd = some (.xd fs) ∧ fs.lookup f = some v ∧ XfC K C1 ∧ PySem.W.findIn K (.ref C1) f = some none ∧ Q v H1
theorem pe_xg {X : Cx} {e : Expr} {pos : Pos} {f : Str} (he : PE X e te) (hb : attributeBase e f X.env (eval e X.env) = eval e X.env := by rfl) : PE X (.Attribute e f pos) (tXg X.K f te) := by
  constructor
  intro pins s σ H Q I h
  refine attr_of hb (thn (he.run pins s σ H _ I h) fun u s1 ⟨x, H1, I1, rx, a, C1, dd, fs, v, ex, e1, e2, e3, T, hno, q⟩ => ?_)
  subst ex
  obtain rfl : u = Value.ref a := rx
  obtain ⟨⟨o, vs, h1, h2, h4⟩, _, _⟩ := I1.hok a _ e1
  have hx : ObjOk X.prog X.w H1 s1.heap dd (.xd fs) := I1.hok dd _ e2
  obtain ⟨mA, hns, hr⟩ := hx
  obtain ⟨od, ho, hl⟩ := lookIn_ns hns
  obtain ⟨u, hu, ru⟩ := RelO.some_of (v := v) (o := mA f) (e3 ▸ hr f)
  have J : PySem.W.InstAt s1.heap a o C1 (some od) := ⟨h1, h2.1, by unfold PySem.W.notCls; rw [h4] <;> rfl, by rw [h2.2]; exact ho⟩
  exact HandSPX.exc_get I1.kIn J T.ga T.gg T.exC (PySem.W.findObj_own T.hdC hno rfl (by rw [hl, hu])) (handed_of ru) ⟨v, H1, I1.tok _, ru, q⟩
theorem zip_look {A : At} {f : Str} {d : D} : ∀ {ns : List Str} {xs : List V} {l : List D}, RpL A xs l → (ns.zip l).lookup f = some d → ∃ v, (ns.zip xs).lookup f = some v ∧ Rp A v d
  | [], _, _, _, h => by simp at h
  | n :: ns, _, _, .nil, h => by simp at h
  | n :: ns, _, _, .cons (v := v) a r, h => by
    rw [List.zip_cons_cons, List.lookup_cons] at h ⊢
    by_cases e : f == n
    · rw [e] at h ⊢
      cases h
      exact ⟨v, rfl, a⟩
    · rw [Bool.eq_false_iff.mpr e] at h ⊢
      exact zip_look r h
def mXg (C1 : Addr) (f : Str) (m : EM) : EM := fun env Q => m env fun x => ∃ ns l d, x = .exc (.ref C1) ns l ∧ (ns.zip l).lookup f = some d ∧ Q d
theorem se_xg {C1 : Addr} {f : Str} (T : XfC K C1) (hno : PySem.W.findIn K (.ref C1) f = some none) (h : SE C c te m) : SE C c (tXg K f te) (mXg C1 f m) := fun G g n O env σ H Qd Q hL F hm q =>
  h G g n O env σ H _ _ hL F hm fun x v H1 ⟨ns, l, d, ex, hl, qd⟩ gr ok r => by
    subst ex
    obtain ⟨a, dd, rfl, e, hd⟩ := exc_at r
    rcases hd with ⟨_, z⟩ | ⟨d2, xs, z, hx, _, rl⟩
    · rw [z] at hl; cases ns <;> simp at hl
    · subst z
      obtain ⟨u, hu, ru⟩ := zip_look rl hl
      exact ⟨a, C1, d2, _, u, rfl, rk_ext e.1, rk_xd hx.1, hu, T, hno, q d u H1 qd gr ok ru⟩
end
end PL

/-! XR: the program's own classes of exceptions. -/
namespace PL
open PySem PySem.Spec PyProof.Rows L2
/-- where the class under the name stands -/
def er (mg : Str → Option Value) (x : Str) : Addr := match mg x with
  | some (.ref C) => C
  | _ => 0
theorem er_of {mg : Str → Option Value} {x : Str} {C : Addr} (g : mg x = some (.ref C)) : er mg x = C := by unfold er; rw [g]
/-- a class without an init of its own -/
structure Ex0 (K : PySem.W.Frag) (mg : Str → Option Value) (x : Str) : Prop where
  g : mg x = some (.ref (er mg x))
  k : PySem.W.keepIn K (.ref (er mg x)) = true
  xi : PySem.W.excIn K (er mg x) [.type "ValueError", .type "Exception", .type "BaseException", .type "object"] "ValueError.__new__" = true
  t : PySem.W.typeIn K (.ref (er mg x)) = some (.type "type")
  i : IsX K (er mg x)
  m : PySem.W.exmOne K (.ref (er mg x)) (.ref (er mg "CopyError")) = some true
/-- one with an init that sets one attribute -/
structure Ex1 (P : Program) (w : World) (K : PySem.W.Frag) (mg : Str → Option Value) (base : Heap) (x f : Str) : Prop where
  g : mg x = some (.ref (er mg x))
  o : OexC K (er mg x)
  i : IsX K (er mg x)
  m : PySem.W.exmOne K (.ref (er mg x)) (.ref (er mg "CopyError")) = some true
  xf : XfC K (er mg x)
  no : PySem.W.findIn K (.ref (er mg x)) f = some none
  iC : ∃ fI fd, PySem.W.findIn K (.ref (er mg x)) "__init__" = some (some (.ref fI)) ∧ PySem.W.typeIn K (.ref fI) = some (.type "function") ∧ FnOk P w K mg base CX0 1 fI fd ["self", f] (spI K f) ∧ Binds K fd ["self", f] []
section
variable {X : Cx}
theorem pmk_x0 {x m : Str} {j : Nat} {p p2 pos : Pos} (T : Ex0 X.K X.mg x) (hg : Gl X x) (hdb : (x == ("__debug__" : Str)) = false := by decide) : PMk X (.Call (.Name x p) [.Constant (.str m) j p2] [] pos) (fun _ H Q => Q (.ref (er X.mg x)) none H) :=
  pmk_own PySem.F.excBase_ValueError T.xi T.g T.k (raises_own T.i.sb T.t) hg hdb
theorem pmk_x1 {x f : Str} {k : Nat} {e : Expr} {ta : TA} {p pos : Pos} (T : Ex1 X.prog X.w X.K X.mg X.base x f) (hr : Room k X.A) (hk : 2 ≤ k) (hg : Gl X x) (ha : PA X [e] ta) (hdb : (x == ("__debug__" : Str)) = false := by decide)
    (he : starEach [e] X.env = (false, eval e X.env) :: starEach [] X.env := by rfl) (hpl : (backTo pos (starEach [] X.env)).any (·.1) = false := by rfl) : PMk X (.Call (.Name x p) [e] [] pos) (tMkO (er X.mg x) (spI X.K f) [] ta) := by
  obtain ⟨fI, fd, h1, h2, h3, h4⟩ := T.iC
  exact pmk_oex T.o h1 h2 h3 (hr.mono hk) h4 .nil pass0 hg T.g ha hdb he hpl
end
section
variable {P : Program} {w : World} {K : PySem.W.Frag} {mg : Str → Option Value} {base : Heap} {x f : Str}
theorem isx_mk {C : Addr} (h1 : (PySem.W.clsIn K C).isSome = true) (h2 : PySem.W.findIn K (.ref C) "__getattribute__" = some (some (.builtin "BaseException.__getattribute__"))) (h3 : PySem.W.findIn K (.ref C) "__getattr__" = some none) (h4 : PySem.W.subIn K (.ref C) (.type "BaseException") = some true)
    (h5 : PySem.W.findIn K (.ref C) "__class__" = some (some (.builtin "object.__class__"))) (h6 : PySem.W.specialIn K (.builtin "object.__class__") "__get__" = some (some (.builtin "getset_descriptor.__get__"))) (h7 : PySem.W.takesIn K (.builtin "object.__class__") = some true) (h8 : PySem.W.mroIn K C (.type "object") = some true) : IsX K C := ⟨h1, h2, h3, h4, h5, h6, h7, h8⟩
theorem ex0_mk {C CE : Addr} (g : mg x = some (.ref C)) (ge : mg "CopyError" = some (.ref CE)) (k : PySem.W.keepIn K (.ref C) = true) (h : PySem.W.excIn K C [.type "ValueError", .type "Exception", .type "BaseException", .type "object"] "ValueError.__new__" = true) (t : PySem.W.typeIn K (.ref C) = some (.type "type")) (i : IsX K C)
    (m : PySem.W.exmOne K (.ref C) (.ref CE) = some true) : Ex0 K mg x := by
  have e := er_of g
  have e2 := er_of ge
  exact ⟨by rw [e]; exact g, by rw [e]; exact k, by rw [e]; exact h, by rw [e]; exact t, by rw [e]; exact i, by rw [e, e2]; exact m⟩
theorem ex1_mk {C CE fI : Addr} {fd : FuncData} (g : mg x = some (.ref C)) (ge : mg "CopyError" = some (.ref CE)) (o : OexC K C) (i : IsX K C) (m : PySem.W.exmOne K (.ref C) (.ref CE) = some true) (hd : PySem.W.hasDictIn K C = true) (no : PySem.W.findIn K (.ref C) f = some none)
    (h1 : PySem.W.findIn K (.ref C) "__init__" = some (some (.ref fI))) (h2 : PySem.W.typeIn K (.ref fI) = some (.type "function")) (h3 : FnOk P w K mg base CX0 1 fI fd ["self", f] (spI K f)) (h4 : Binds K fd ["self", f] []) : Ex1 P w K mg base x f := by
  have e := er_of g
  have e2 := er_of ge
  exact ⟨by rw [e]; exact g, by rw [e]; exact o, by rw [e]; exact i, by rw [e, e2]; exact m, by rw [e]; exact ⟨i.ga, i.gg, i.sb, hd⟩, by rw [e]; exact no, by rw [e]; exact ⟨fI, fd, h1, h2, h3, h4⟩⟩
/-- self.f = f -/
def iBody (f : Str) (p1 p2 p3 p4 : Pos) : List Stmt := [.Assign [.Attribute (.Name "self" p1) f p2] (.Name f p3) p4]
theorem ok_init {qual : Str} {st : Stmt} {fI : Addr} {fd : FuncData} {p1 p2 p3 p4 : Pos} (F : Fun K "__init__" qual st fI fd) (sc : FnScope ["self", f] ["self", f] (defScope st)) (hb : defBody st = iBody f p1 p2 p3 p4) (h0 : (defScope st).names.lookup ("self" : Str) = some .local) (h1 : (defScope st).names.lookup f = some .local)
    (hd : (f == ("__debug__" : Str)) = false) (hc : (f == ("__classdict__" : Str)) = false) : FnOk P w K mg base CX0 1 fI fd ["self", f] (spI K f) := by
  refine F.ok sc (fun vs H Q E ⟨_, _, _, e, _⟩ => by rw [e]; rfl) fun cdv A outer s H vs Q E hr ⟨a, C, y, e, h2, h3, h4, h5⟩ => ?_
  subst e
  rw [hb]
  exact ⟨_, pss_one (ps_ost (pv 0 (hv := .inl h0)) (pv 1 (hv := .inl h1) (hd := hd) (hcd := hc))), y, rfl, _, rfl, a, C, rfl, h3, h4, .inl ⟨h2, fun dx n1 n2 => h5 dx n1 n2⟩⟩
end
end PL

/-! XI: a list or a tuple is walked. -/
namespace PL
open PySem PySem.Spec PyProof.Rows L2
def wAlt (a b : TI) : TI := fun σ H R => a σ H R ∨ b σ H R
theorem pi_alt {X : Cx} {tg e : Expr} {a b : TI} (h1 : PI X tg e a) (h2 : PI X tg e b) : PI X tg e (wAlt a b) := ⟨fun pins s σ H R I h => h.elim (fun q => h1.run pins s σ H R I q) fun q => h2.run pins s σ H R I q⟩
def iAlt (m1 m2 : AM) : AM := fun env Q => m1 env Q ∨ m2 env Q
theorem si_alt {C : Wd → XC → Prop} {c : Nat} {a b : TI} {m1 m2 : AM} (h1 : SI C c a m1) (h2 : SI C c b m2) : SI C c (wAlt a b) (iAlt m1 m2) := fun G g n O env σ H Qd R hL F hm k => hm.elim (fun q => .inl (h1 G g n O env σ H Qd R hL F q k)) fun q => .inr (h2 G g n O env σ H Qd R hL F q k)
end PL

/-! XY: try within a def, whose handler returns a constant; constants of the module that are not numbers. -/
namespace PL
open PySem PySem.Spec PyProof.Rows L2
/-- try: .. except X: return v -/
def tTryC (K : PySem.W.Frag) (cx : Value) (tz : TS) (tb : XK → TS) : TS := fun D σ H => ∃ Er : XK, (∀ c d σ' H', Er c d H' → PySem.W.exmOne K c cx = some true ∧ tz D σ' H') ∧ tb Er D σ H
theorem takes_never {X : Cx} : Takes X (fun _ _ _ _ => False) := fun u s' ⟨a, B, sI, pins, σ, H, cls, d, e, I, nb, up, sky, na, os, ag, w⟩ => w.elim
theorem ps_tryC {X : Cx} {x : Str} {cx : Value} {body suite : List Stmt} {b0 : Stmt} {np pos pos' : Pos} {tb : XK → TS} {tz : TS} (hs : X.stack = X.env :: X.outer) (hf : X.env.frame = some X.env.locals) (hc : Names X x cx)
    (hb : ∀ (Er : XK) (pn : List (Addr × Obj)) (xe : Value → Shared → Prop), Takes (X.tr pn xe) (fun cls d _ H => Er cls d H) → PassesOwn (model X.prog X.w) X.A X.env xe → PSs (X.tr pn xe) body (tb Er))
    (hsu : ∀ (a : Addr) (oe : Obj) (pn : List (Addr × Obj)), PSs (X.suite a ((a, oe) :: pn)) (b0 :: suite) tz) :
    PS X (.Try body [.ExceptHandler (some (.Name x np)) none (b0 :: suite) pos'] [] [] pos) (tTryC X.K cx tz tb) := by
  constructor
  rintro pins s σ H D I ⟨Er, h1, h2⟩
  refine (ps_try_only (tb := fun W D σ H => ∃ Er : XK, (∀ c d σ' H', Er c d H' → W c d σ' H') ∧ tb Er D σ H) (ts := fun _ _ _ => tz) hs hf hc takes_never (fun W pn xe tk hp => ?_) (fun a oe cls d pn _ _ => hsu a oe pn)).run pins s σ H D I ⟨Er, fun c d σ' H' e => ⟨true, (h1 c d σ' H' e).1, fun _ a _ => (h1 c d σ' H' e).2, fun z => nomatch z⟩, h2⟩
  constructor
  rintro pins' s' σ' H' D' I' ⟨Ech, hW, h3⟩
  exact (hb Ech pn xe (fun u s1 ⟨a, B, sI, ps, τ, L, cls, d, e, J, nb, up, sky, na, os, ag, w⟩ => tk u s1 ⟨a, B, sI, ps, τ, L, cls, d, e, J, nb, up, sky, na, os, ag, hW _ _ _ _ w⟩) hp).run pins' s' σ' H' D' I' h3
theorem pe_callXt {X : Cx} {pn : List (Addr × Obj)} {xe : Value → Shared → Prop} {x : Str} {k : Nat} {ps : List Str} {sp : Sp} {p pos : Pos} {e : Expr} {es : List Expr} {t : TA} {E : XK} (h : PrX X.prog X.w X.K X.mg X.base x k ps sp) (hr : Room k X.A) (tk : Takes (X.tr pn xe) (fun cls d _ H => E cls d H)) (hg : Gl X x) (ha : PA (X.tr pn xe) (e :: es) t)
    (hdb : (x == ("__debug__" : Str)) = false := by decide) (he : starEach (e :: es) X.env = (false, eval e X.env) :: starEach es X.env := by rfl) (hpl : (backTo pos (starEach es X.env)).any (·.1) = false := by rfl) :
    PE (X.tr pn xe) (.Call (.Name x p) (e :: es) [] pos) (tCall sp [] E t) := pe_callX (X := X.tr pn xe) h hr tk hg ha hdb he hpl
section
variable {C : Wd → XC → Prop} {C0 : Wd → Prop} {K : PySem.W.Frag} {c : Nat}
theorem Slv.sw {w : Wd} {H0 : Hp} {Oc : Addr → Prop} {ct ct' : ∀ b, Oc b → Trk (H0 b)} {x x' : XC} {hb : Grow w x.xb H0} {hb' : Grow w x'.xb H0} {dr dr' O H v e} (h : Slv ⟨w, H0, Oc, ct, x, hb, dr⟩ O H v e) : Slv ⟨w, H0, Oc, ct', x', hb', dr'⟩ O H v e := by
  cases h with
  | dat r => exact .dat r
  | own e o r => exact .own e ⟨o.o, o.z, o.n⟩ r
  | owd e o r => exact .owd e ⟨o.o, o.z, o.n⟩ r
theorem Wl.sw {w : Wd} {H0 : Hp} {Oc : Addr → Prop} {ct ct' : ∀ b, Oc b → Trk (H0 b)} {x x' : XC} {hb : Grow w x.xb H0} {hb' : Grow w x'.xb H0} {dr dr' n O H} (h : Wl ⟨w, H0, Oc, ct, x, hb, dr⟩ n O H) : Wl ⟨w, H0, Oc, ct', x', hb', dr'⟩ n O H := ⟨h.ok, h.zo, h.co, h.tr, h.base⟩
theorem Fr.sw {w : Wd} {H0 : Hp} {Oc : Addr → Prop} {ct ct' : ∀ b, Oc b → Trk (H0 b)} {x x' : XC} {hb : Grow w x.xb H0} {hb' : Grow w x'.xb H0} {dr dr' n O env σ H} (h : Fr ⟨w, H0, Oc, ct, x, hb, dr⟩ n O env σ H) : Fr ⟨w, H0, Oc, ct', x', hb', dr'⟩ n O env σ H :=
  ⟨h.wl.sw, h.len, fun i e a b => let ⟨v, p, q⟩ := h.sl i e a b; ⟨v, p, q.sw⟩, h.uq⟩
/-- try: .. except X: return v -/
theorem ss_tryC {sm : (Exn → Prop) → SM} {tb : XK → TS} {te : TE} {v : V} {dv : D} {cx : Value} (hC : ∀ w x, C w x → C0 w) (hv : ∀ A, Rp A v dv) (hte : ∀ σ H Q, Q v H → te σ H Q) (hb : ∀ Er X0, SS (exC C0 Er X0) c (tb Er) (sm X0)) :
    SS C c (tTryC K cx (tRet te) tb) (fun env P => sm (fun e => PySem.W.exmOne K e.1 cx = some true ∧ P.rt dv) env P) := fun G g n O env σ H P D hL F hm e => by
  obtain ⟨w, H0, Oc, ct, x, hbx, door⟩ := G
  have hle := x.le
  refine ⟨fun cv d H' => ∃ n' ex, n' ≤ n + c ∧ w.ok n' H' ∧ Grow w H0 H' ∧ ExnAt (Sh Oc H') cv d ex ∧ PySem.W.exmOne K ex.1 cx = some true ∧ P.rt dv, ?_, ?_⟩
  · rintro cv d σ' H' ⟨n', ex, h1, h2, h3, h4, h5, h6⟩
    refine ⟨by rw [h4.1]; exact h5, hte _ _ _ (e.rt dv v (fun b => Oc b ∨ w.Z b) H' ⟨w.up _ _ _ h1 h2, fun b z => .inr z, fun b z => .inl z, fun b z => ?_, h3⟩ (hv _) h6)⟩
    by_cases hz : w.Z b
    · exact w.tr _ H' b h2 hz
    · rcases z with z | z
      · obtain ⟨o, e0, nx⟩ := ct b z
        exact ⟨o, h3 b o e0 hz, nx⟩
      · exact absurd z hz
  · refine hb _ _ ⟨w, H0, Oc, ct, ⟨n + c, Nat.le_trans hL hle, H0, _, _⟩, Grow.refl _ _, fun n' H' cv d ex a1 a2 a3 a4 a5 => ⟨n', ex, a1, a2, a3, a4, a5⟩⟩ ⟨hC _ _ g, rfl, rfl⟩ n O env σ H P D (Nat.le_refl _) F.sw hm ⟨fun O' env' σ' H' l f q => e.nx O' env' σ' H' l f.sw q, fun d v O' H' W r q => e.rt d v O' H' W.sw r q, fun O' env' σ' H' l f q => e.bk O' env' σ' H' l f.sw q, fun O' env' σ' H' l f q => e.ct O' env' σ' H' l f.sw q⟩
/-! ### a tuple of one text that stands in the module -/
/-- the object of a constant tuple of one text -/
def KT1 (K : PySem.W.Frag) (a : Addr) (s : Str) : Prop := ∀ H : Hp, SqT K H a [.str s]
theorem KT1.of {K : PySem.W.Frag} {a : Addr} {s : Str} {o : Obj} {its : Array Value} {n : Nat} (h1 : K.lookup a = some o) (h2 : o.cls = .type "tuple") (h3 : o.data = .seq its n) (h4 : its.size ≤ sizeLine) (h5 : Vals [.str s] its.toList) : KT1 K a s := fun _ => .inr ⟨o, its, n, h1, h2, h3, h4, h5⟩
/-- a constant of the module -/
structure KCt (K : PySem.W.Frag) (mg : Str → Option Value) (x s : Str) : Prop where
  g : mg x = some (.ref (er mg x))
  k : KT1 K (er mg x) s
/-- what an opaque constant is as data -/
def unO (s : Str) : D → D
  | .opq _ => .tup [.str s]
  | d => d
def kEqO (a : Addr) (s : Str) : D → D → (D → Prop) → Prop := fun x y Q => (x = .opq (.ref a) ∨ x.pl 60 = true) ∧ (y = .opq (.ref a) ∨ y.pl 60 = true) ∧ (unO s x = unO s y → Q (.bl true)) ∧ (unO s x ≠ unO s y → Q (.bl false))
theorem unO_pl {s : Str} {d : D} (h : d.pl 60 = true) : unO s d = d := by
  cases d with
  | opq v => simp [D.pl] at h
  | _ => rfl
theorem dpO {G : Cfg} {O : Addr → Prop} {H : Hp} {v : V} {d : D} {a : Addr} {s : Str} (kt : KT1 K a s) (hs : (D.tup [.str s]).pl 60 = true) (h : d = .opq (.ref a) ∨ d.pl 60 = true) (r : Rr G O H v d) : (unO s d).pl 60 = true ∧ Dp K H v (toPy (unO s d)) := by
  rcases h with h | h
  · subst h
    cases r with
    | dat r =>
      cases r
      exact ⟨hs, .tup (kt H) (.cons (.str s) .nil)⟩
  · rw [unO_pl h]
    exact ⟨h, r.dp h⟩
theorem k2_eqO {a : Addr} {s : Str} (kt : KT1 K a s) (hs : (D.tup [.str s]).pl 60 = true) : K2 C (rEqD K) (kEqO a s) := fun G _ n O H x y d e Qd Q W rx ry ⟨h1, h2, h3, h4⟩ q => by
  obtain ⟨p1, d1⟩ := dpO kt hs h1 rx
  obtain ⟨p2, d2⟩ := dpO kt hs h2 ry
  refine ⟨_, _, d1, d2, shaped_pl p1, shaped_pl p2, ?_⟩
  by_cases e' : unO s d = unO s e
  · rw [(eqv_pl 60 60 _ _ p1 p2).mpr e']
    exact q _ _ H (h3 e') (Grow.refl _ _) W.ok (.bl true)
  · have : PyData.eqv (toPy (unO s d)) (toPy (unO s e)) = false := by
      cases q : PyData.eqv (toPy (unO s d)) (toPy (unO s e)) with
      | false => rfl
      | true => exact absurd ((eqv_pl 60 60 _ _ p1 p2).mp q) e'
    rw [this]
    exact q _ _ H (h4 e') (Grow.refl _ _) W.ok (.bl false)
end
end PL

/-! XZ: a call by keywords alone, in another sequence than the params. -/
namespace PL
open PySem PySem.Spec PyProof.Rows L2
def gP {α : Type} (ix : List Nat) (us ws : List α) : List α := match us with
  | [] => ix.filterMap fun i => ws[i]?
  | _ :: _ => []
theorem vals_get : ∀ {zs : List V} {ws : List Value} (i : Nat), Vals zs ws → (zs[i]? = none ∧ ws[i]? = none) ∨ ∃ v u, zs[i]? = some v ∧ ws[i]? = some u ∧ RelV v u
  | _, _, _, .nil => .inl ⟨rfl, rfl⟩
  | _, _, 0, .cons a r => .inr ⟨_, _, rfl, rfl, a⟩
  | _, _, i + 1, .cons a r => vals_get i r
theorem gP_vals {zs : List V} {ws : List Value} (h : Vals zs ws) : ∀ ix : List Nat, Vals (ix.filterMap fun i => zs[i]?) (ix.filterMap fun i => ws[i]?)
  | [] => .nil
  | i :: ix => by
    rcases vals_get i h with ⟨h1, h2⟩ | ⟨v, u, h1, h2, r⟩
    · rw [List.filterMap_cons_none h1, List.filterMap_cons_none h2]; exact gP_vals h ix
    · rw [List.filterMap_cons_some h1, List.filterMap_cons_some h2]; exact .cons r (gP_vals h ix)
theorem gP_rp {A : At} {zs : List V} {ds : List D} (h : RpL A zs ds) : ∀ ix : List Nat, RpL A (ix.filterMap fun i => zs[i]?) (ix.filterMap fun i => ds[i]?)
  | [] => .nil
  | i :: ix => by
    cases e : ds[i]? with
    | none =>
      have e2 : zs[i]? = none := by
        rw [List.getElem?_eq_none_iff] at e ⊢
        rw [h.length]; exact e
      rw [List.filterMap_cons_none e, List.filterMap_cons_none e2]; exact gP_rp h ix
    | some d =>
      obtain ⟨v, hv, r⟩ := h.get e
      rw [List.filterMap_cons_some e, List.filterMap_cons_some hv]; exact .cons r (gP_rp h ix)
/-- a def that may raise, called by keywords in the sequence ks -/
structure PrXP (P : Program) (w : World) (K : PySem.W.Frag) (mg : Str → Option Value) (base : Heap) (x : Str) (k : Nat) (ps ks : List Str) (ix : List Nat) (sp : Sp) : Prop where
  ex : ∃ f fd, FnOk P w K mg base (L2.CX P w) k f fd ps sp ∧ mg x = some (.ref f) ∧ PySem.W.keepIn K (.ref f) = true ∧ KBinds K fd ps ks (gP ix) (gP ix)
theorem PrXP.up {P : Program} {w : World} {K : PySem.W.Frag} {mg : Str → Option Value} {base : Heap} {x : Str} {j k : Nat} {ps ks : List Str} {ix : List Nat} {sp : Sp} (h : PrXP P w K mg base x j ps ks ix sp) (hk : j ≤ k) : PrXP P w K mg base x k ps ks ix sp := by
  obtain ⟨f, fd, h1, h2, h3, h4⟩ := h.ex
  exact ⟨⟨f, fd, h1.mono hk, h2, h3, h4⟩⟩
theorem kbP_mk {K : PySem.W.Frag} {x qual : Str} {st : Stmt} {f : Addr} {fd : FuncData} {ps ks : List Str} {ix : List Nat} (F : Fun K x qual st f fd) (hps : ps ≠ [])
    (h : ∀ (kV doc pm : Value) (an : Option Addr) (cdv ct : Value) (ws : List Value), (gP ix [] ws).length = ps.length → bindArgs (PySem.W.fnOf x qual (defArgs st) (defBody st) (defScope st) .none kV doc pm an cdv ct) ⟨[], ks.zip ws⟩ = pure (ps.zip (gP ix [] ws))) : KBinds K fd ps ks (gP ix) (gP ix) := by
  obtain ⟨oc, od, kV, doc, pm, an, cdv, ct, osl, rfl, lk, hcd⟩ := F.ex
  refine ⟨fun s us ws _ hl => ?_, fun {vs us zs ws} r rz => ?_⟩
  · cases us with
    | nil => exact .of_eq (h kV doc pm an cdv ct ws hl)
    | cons u us => exact absurd (List.length_eq_zero_iff.mp hl.symm) hps
  · cases r with
    | nil => exact gP_vals rz ix
    | cons a r => exact .nil
theorem pe_callXKP {X : Cx} {x : Str} {k : Nat} {ps ks : List Str} {ix : List Nat} {sp : Sp} {p pos : Pos} {kws : List Keyword} {t : TA} {E : XK} (h : PrXP X.prog X.w X.K X.mg X.base x k ps ks ix sp) (hr : Room k X.A) (tk : Takes X (fun cls d _ H => E cls d H)) (hg : Gl X x) (ha : PK X kws t)
    (hall : (backToKw pos (keywordEach kws X.env)).all (·.1.isSome) = true := by rfl) (hks : (backToKw pos (keywordEach kws X.env)).filterMap (·.1) = ks := by rfl)
    (hdb : (x == ("__debug__" : Str)) = false := by decide) (hpl : ((backTo pos (starEach [] X.env)).any (·.1) || (backToKw pos (keywordEach kws X.env)).any (·.1.isNone)) = false := by rfl) :
    PE X (.Call (.Name x p) [] kws pos) (tCallK sp (gP ix) E tNil t) := by
  obtain ⟨f, fd, h1, h2, h3, h4⟩ := h.ex
  exact pe_callK0 h1 hr hg h2 h3 h4 (passes_call tk fun _ _ _ _ z => z) ha hall hks hdb hpl
theorem se_callXKP {C0 : Wd → Prop} {ta : TA} {am : AM} {c : Nat} {S : XS} {Er : XK} {X0 : Exn → Prop} {ix : List Nat} (h : SA (exC C0 Er X0) c ta am) (hS : MonoX S) : SE (exC C0 Er X0) c (tCallK (spX CA 0 S) (gP ix) Er tNil ta) (fun env Q => am env fun ds => S (ix.filterMap fun i => ds[i]?) Q X0) := fun G g n O env σ H Qd Q hL F hm q =>
  show ta σ H _ from h G g n O env σ H _ _ (by omega) F hm fun ds vs H1 h1 g1 ok1 r1 => by
    have F1 := F.grow g1 ok1
    refine ⟨G.w, n + c, O, _, trivial, by have := G.x.le; omega, ok1, F1.wl.zo, F1.wl.tr, gP_rp r1 ix, hS _ _ _ _ _ (fun d hd v H' g' ok r => q d v H' hd (g1.trans g') (ok_as ok) r) (fun e he cv dd H' g' ok a => ?_) h1⟩
    obtain ⟨_, eE, eX⟩ := g
    rw [← eE]
    exact go_out (by omega) (F1.wl.grow g' ok) a (by rw [eX]; exact he)
end PL

/-! XW: x = y.pop(), y an own list. -/
namespace PL
open PySem PySem.Spec PyProof.Rows L2
section
variable {C : Wd → XC → Prop} {K : PySem.W.Frag} {i j : Nat}
def sSetPop (i j : Nat) : SM := fun env P => match env[j]? with
  | some (.own ys) => ∃ A y, ys = A ++ [y] ∧ P.nx ((env.set j (.own A)).set i (.dat y))
  | _ => False
theorem ss_setPop : SS C 0 (tAsg (tBM0 K "list" rPop (tVar j)) (gName i)) (sSetPop i j) := fun G cg n O env σ H P D hL F hm e => by
  unfold sSetPop at hm
  split at hm
  · rename_i es ej
    obtain ⟨A, y, rfl, q⟩ := hm
    obtain ⟨u, esj, s'⟩ := F.sl j _ ej (by intro z; cases z)
    cases s' with
    | @own b ys _ eh' ob r' =>
      have hll := r'.length
      rw [List.length_append, List.length_singleton] at hll
      obtain ⟨z, hz, rz⟩ := r'.get (i := A.length) (d := y) (by rw [List.getElem?_append_right (Nat.le_refl _), Nat.sub_self]; rfl)
      have r2 := r'.dropLast
      rw [List.dropLast_concat] at r2
      refine ⟨_, esj, .inl ⟨rfl, ys, sqL eh'⟩, b, ys, z, rfl, rfl, eh', by rw [show ys.length - 1 = A.length by omega]; exact hz, ?_⟩
      have le1 : LeA (Sh O H) (Sh O (upd H b (.lst ys.dropLast))) := own_le ob
      have F2 := F.mut (c' := .own A) (o := .lst ys.dropLast) ej esj rfl rfl ob fun H' l e' => .own e' ob (r2.mono l)
      have F3 := F2.set (i := i) (v := z) (c := .dat y) (Grow.refl _ _) F2.wl (fun _ _ h => h) (fun _ h => h) (.dat (rz.mono le1)) (fun a _ z => by cases z)
      exact e.nx O _ _ _ le1 F3 q
  · exact hm.elim
end
/-! ### a def that may raise, called by keywords in another sequence where nothing is raised -/
theorem pe_callNKP {X : Cx} {x : Str} {k : Nat} {ps ks : List Str} {ix : List Nat} {sp : Sp} {p pos : Pos} {kws : List Keyword} {t : TA} (h : PrXP X.prog X.w X.K X.mg X.base x k ps ks ix sp) (hr : Room k X.A) (hg : Gl X x) (ha : PK X kws t)
    (hall : (backToKw pos (keywordEach kws X.env)).all (·.1.isSome) = true := by rfl) (hks : (backToKw pos (keywordEach kws X.env)).filterMap (·.1) = ks := by rfl)
    (hdb : (x == ("__debug__" : Str)) = false := by decide) (hpl : ((backTo pos (starEach [] X.env)).any (·.1) || (backToKw pos (keywordEach kws X.env)).any (·.1.isNone)) = false := by rfl) :
    PE X (.Call (.Name x p) [] kws pos) (tCallK sp (gP ix) E0 tNil t) := by
  obtain ⟨f, fd, h1, h2, h3, h4⟩ := h.ex
  exact pe_callK0 h1 hr hg h2 h3 h4 passL ha hall hks hdb hpl
theorem se_callNKP {C : Wd → XC → Prop} {ta : TA} {am : AM} {c : Nat} {S : XS} {E : XK} {ix : List Nat} (h : SA C c ta am) (hS : MonoX S) : SE C (0 + (c + 0)) (tCallK (spX CA 0 S) (gP ix) E tNil ta) (fun env Q => am env fun ds => S (ix.filterMap fun i => ds[i]?) Q fun _ => False) := fun G g n O env σ H Qd Q hL F hm q =>
  show ta σ H _ from h G g n O env σ H _ _ (by omega) F hm fun ds vs H1 h1 g1 ok1 r1 =>
    have F1 := F.grow g1 ok1
    ⟨G.w, n + c, O, _, trivial, by have := G.x.le; omega, ok1, F1.wl.zo, F1.wl.tr, gP_rp r1 ix, hS _ _ _ _ _ (fun d hd v H' g' ok r => q d v H' hd (g1.trans g') (ok_le (by omega) (ok_as ok)) r) (fun e he => he.elim) h1⟩
end PL

/-! XU: more rules for comprehensions; sizes. -/
namespace PL
open PySem PySem.Spec PyProof.Rows L2
theorem sl_le {n : Nat} (h : n ≤ 16777215) : n ≤ sizeLine := by rw [sizeLine_eq]; omega
theorem sl_lt {n : Nat} (h : n ≤ 16777215) : n < sizeLine := by rw [sizeLine_eq]; omega
theorem lcP_fmU {g : GM} {t : TM} {m : EM} {env : Ev} (h : D → Option D) : ∀ (ds acc : List D) (Q : List D → Prop), (∀ d ∈ ds, ∀ R : Option D → Prop, R (h d) → g env d fun e1 => t e1 fun b => if b = true then m e1 fun y => R (some y) else R none) → acc.length + ds.length ≤ sizeLine → Q (acc ++ ds.filterMap h) → lcP g t m env ds acc Q
  | [], acc, Q, _, _, q => by rw [List.filterMap_nil, List.append_nil] at q; exact q
  | d :: ds, acc, Q, hp, hl, q => by
    have ih := fun acc' hl' q' => lcP_fmU (g := g) (t := t) (m := m) (env := env) h ds acc' Q (fun d' hd' => hp d' (List.mem_cons_of_mem _ hd')) hl' q'
    rw [List.length_cons] at hl
    unfold lcP
    refine hp d List.mem_cons_self (fun o => match o with | some y => acc.length < sizeLine ∧ lcP g t m env ds (acc ++ [y]) Q | none => lcP g t m env ds acc Q) ?_
    cases e : h d with
    | none =>
      rw [List.filterMap_cons_none e] at q
      exact ih acc (by omega) q
    | some y =>
      rw [List.filterMap_cons_some e] at q
      exact ⟨by omega, ih (acc ++ [y]) (by rw [List.length_append, List.length_singleton]; omega) (by rw [List.append_assoc]; exact q)⟩
theorem enumD_map {α : Type} (enc : α → D) : ∀ (l : List α) (s : Nat), enumD s (l.map enc) = (l.zipIdx s).map fun p => .tup [.int ((p.2 : Nat) : Int), enc p.1]
  | [], _ => rfl
  | x :: l, s => by
    rw [List.zipIdx_cons, List.map_cons, List.map_cons, ← enumD_map enc l (s + 1)]
    rfl
theorem zip_range {α β : Type} (d : α) (f : Nat → α → Option β) (l : List α) : (l.zipIdx).filterMap (fun p => f p.2 p.1) = (List.range l.length).filterMap fun i => f i ((l[i]?).getD d) := by
  have : l.zipIdx = (List.range l.length).map fun i => ((l[i]?).getD d, i) := by
    refine List.ext_getElem (by simp) fun i h1 h2 => ?_
    simp at h1
    simp [h1]
  rw [this, List.filterMap_map]; rfl
theorem fm_congr {α β : Type} {f g : α → Option β} : ∀ {l : List α}, (∀ x ∈ l, f x = g x) → l.filterMap f = l.filterMap g
  | [], _ => rfl
  | x :: l, h => by rw [List.filterMap_cons, List.filterMap_cons, h x List.mem_cons_self, fm_congr fun y hy => h y (List.mem_cons_of_mem _ hy)]
/-- [e for i, x in enumerate(xs) if t] -/
theorem lcP_enumF {α : Type} {g : GM} {t : TM} {m : EM} {env : Ev} (enc : α → D) (dft : α) (h : Nat → α → Option D) (l : List α) (acc : List D) (Q : List D → Prop)
    (hs : ∀ i x, l[i]? = some x → ∀ R : Option D → Prop, R (h i x) → g env (.tup [.int (i : Int), enc x]) fun e1 => t e1 fun b => if b = true then m e1 fun y => R (some y) else R none)
    (hl : acc.length + l.length ≤ sizeLine) (q : Q (acc ++ (List.range l.length).filterMap fun i => h i ((l[i]?).getD dft))) : lcP g t m env (enumD 0 (l.map enc)) acc Q := by
  rw [← zip_range dft h] at q
  refine lcP_fmU (fun d => match d with | .tup [.int i, _] => (l[i.toNat]?).bind (h i.toNat) | _ => none) _ _ _ (fun d hd R hR => ?_) (by rw [enumD_len, List.length_map]; exact hl) ?_
  · rw [enumD_map] at hd
    obtain ⟨p, hp, rfl⟩ := List.mem_map.mp hd
    obtain ⟨x, i⟩ := p
    have hx := List.mem_zipIdx hp
    have hi : l[i]? = some x := by
      obtain ⟨_, h2, h3⟩ := hx
      rw [List.getElem?_eq_getElem (by omega), h3]; simp
    refine hs i x hi R ?_
    have hR : R ((l[((i : Nat) : Int).toNat]?).bind (h ((i : Nat) : Int).toNat)) := hR
    rw [Int.toNat_natCast, hi] at hR
    exact hR
  · rw [enumD_map, List.filterMap_map]
    have : (l.zipIdx).filterMap ((fun d => match d with | D.tup [.int i, _] => (l[i.toNat]?).bind (h i.toNat) | _ => none) ∘ fun p : α × Nat => D.tup [.int ((p.2 : Nat) : Int), enc p.1]) = (l.zipIdx).filterMap fun p => h p.2 p.1 := by
      refine fm_congr fun p hp => ?_
      obtain ⟨x, i⟩ := p
      have hx := List.mem_zipIdx hp
      have hi : l[i]? = some x := by
        obtain ⟨_, h2, h3⟩ := hx
        rw [List.getElem?_eq_getElem (by omega), h3]; simp
      show (l[((i : Nat) : Int).toNat]?).bind (h ((i : Nat) : Int).toNat) = h i x
      rw [Int.toNat_natCast, hi]; rfl
    rw [this]; exact q
/-- [e for i in range(n) if t] -/
theorem lcP_rngF {g : GM} {t : TM} {m : EM} {env : Ev} (h : Nat → Option D) (n : Nat) (acc : List D) (Q : List D → Prop)
    (hs : ∀ i, i < n → ∀ R : Option D → Prop, R (h i) → g env (.int (i : Int)) fun e1 => t e1 fun b => if b = true then m e1 fun y => R (some y) else R none)
    (hl : acc.length + n ≤ sizeLine) (q : Q (acc ++ (List.range n).filterMap h)) : lcP g t m env (rng 0 n) acc Q := by
  have e : rng 0 n = (List.range n).map fun i : Nat => D.int (i : Int) := by
    unfold rng
    refine List.map_congr_left fun i _ => ?_
    rw [Int.zero_add]
  refine lcP_fmU (fun d => match d with | .int i => h i.toNat | _ => none) _ _ _ (fun d hd R hR => ?_) (by rw [rng_length]; exact hl) ?_
  · rw [e] at hd
    obtain ⟨i, hi, rfl⟩ := List.mem_map.mp hd
    refine hs i (List.mem_range.mp hi) R ?_
    have hR : R (h ((i : Nat) : Int).toNat) := hR
    rw [Int.toNat_natCast] at hR; exact hR
  · rw [e, List.filterMap_map]
    exact q
theorem of_all {α : Type} {enc : α → D} {p : α → Prop} : ∀ {ys : List D}, (∀ y ∈ ys, ∃ v, p v ∧ y = enc v) → ∃ l : List α, ys = l.map enc ∧ ∀ v ∈ l, p v
  | [], _ => ⟨[], rfl, fun _ z => nomatch z⟩
  | y :: ys, h => by
    obtain ⟨v, hv, rfl⟩ := h y List.mem_cons_self
    obtain ⟨l, rfl, hl⟩ := of_all (ys := ys) fun y hy => h y (List.mem_cons_of_mem _ hy)
    refine ⟨v :: l, rfl, fun u hu => ?_⟩
    rcases List.mem_cons.mp hu with e | e
    · rw [e]; exact hv
    · exact hl u e
theorem plL_mem' {n : Nat} : ∀ {l : List D}, (∀ d ∈ l, D.pl n d = true) → D.plL n l = true
  | [], _ => by unfold D.plL; rfl
  | d :: l, h => by
    unfold D.plL
    rw [h d List.mem_cons_self, plL_mem' (l := l) fun x hx => h x (List.mem_cons_of_mem _ hx)]; rfl
theorem plL_of {n : Nat} : ∀ {l : List D}, D.plL n l = true → ∀ d ∈ l, D.pl n d = true
  | d :: l, h, x, hx => by
    unfold D.plL at h
    rw [Bool.and_eq_true] at h
    rcases List.mem_cons.mp hx with e | e
    · rw [e]; exact h.1
    · exact plL_of h.2 x e
theorem pl_lst' {n : Nat} {l : List D} (h : ∀ d ∈ l, D.pl n d = true) : D.pl (n + 1) (.lst l) = true := by unfold D.pl; exact plL_mem' h
theorem pl_tup' {n : Nat} {l : List D} (h : ∀ d ∈ l, D.pl n d = true) : D.pl (n + 1) (.tup l) = true := by unfold D.pl; exact plL_mem' h
/-! ### in, not in: plain data of any depth in a list -/
def kInD (p : Bool → Bool) : D → D → (D → Prop) → Prop := fun x y Q => ∃ ys, (y = .lst ys ∨ y = .tup ys) ∧ x.pl 60 = true ∧ y.pl 60 = true ∧ (x ∈ ys → Q (.bl (p true))) ∧ (x ∉ ys → Q (.bl (p false)))
theorem toPyL_map : ∀ l : List D, toPyL l = l.map toPy
  | [] => rfl
  | d :: l => congrArg _ (toPyL_map l)
theorem any_pl {x : D} {ys : List D} {n : Nat} (hx : x.pl 60 = true) (h : ∀ d ∈ ys, d.pl n = true) : ((toPyL ys).any fun z => PyData.eqv z (toPy x)) = true ↔ x ∈ ys := by
  rw [toPyL_map, List.any_map, List.any_eq_true]
  constructor
  · rintro ⟨d, hd, e⟩
    rw [← (eqv_pl n 60 d x (h d hd) hx).mp e]; exact hd
  · intro hm
    exact ⟨x, hm, (eqv_pl n 60 x x (h x hm) hx).mpr rfl⟩
/-- x in y, y a list or a tuple of data of any depth -/
def rInS (K : PySem.W.Frag) (b : Bool) : R2 := fun x y H Q => ∃ d ds, Dp K H x d ∧ (Dp K H y (.list ds) ∨ Dp K H y (.tuple ds)) ∧ d.canLay0 = true ∧ PyData.canLayAll0 ds = true ∧ d.depth ≤ 60 ∧ Q (.bl (b ^^ ds.any fun z => PyData.eqv z d)) H
theorem roomS {u : Nat} {ds : List PyData} {d : PyData} (hu : u + 64 < cLine) (h : d.depth ≤ 60) : u + 1 + min (PyData.depthAll ds) d.depth < cLine := by
  have h2 : min (PyData.depthAll ds) d.depth ≤ d.depth := Nat.min_le_right _ _
  omega
section
variable {X : Cx}
theorem op_inS (hu : X.A.units + 64 < cLine) : OpR X (compareOp .In) (rInS X.K false) := by
  intro pins s σ H x y v u Q I rx ry h
  obtain ⟨d, ds, hd, he, sd, se, dp, q⟩ := h
  obtain ⟨as, r1⟩ := Dp.reads I d x v hd rx
  rw [Bool.false_xor] at q
  rcases he with he | he
  · obtain ⟨bs, r2⟩ := Dp.reads I (.list ds) y u he ry
    exact SeqAt.in_list_reads r2 r1 se sd (roomS hu dp) ⟨.bl _, H, I, rfl, q⟩
  · obtain ⟨bs, r2⟩ := Dp.reads I (.tuple ds) y u he ry
    exact SeqAt.in_tuple_reads r2 r1 se sd (roomS hu dp) ⟨.bl _, H, I, rfl, q⟩
theorem op_notInS (hu : X.A.units + 64 < cLine) : OpR X (compareOp .NotIn) (rInS X.K true) := by
  intro pins s σ H x y v u Q I rx ry h
  obtain ⟨d, ds, hd, he, sd, se, dp, q⟩ := h
  obtain ⟨as, r1⟩ := Dp.reads I d x v hd rx
  rw [Bool.true_xor] at q
  rcases he with he | he
  · obtain ⟨bs, r2⟩ := Dp.reads I (.list ds) y u he ry
    exact SeqAt.notIn_list_reads r2 r1 se sd (roomS hu dp) ⟨.bl _, H, I, rfl, q⟩
  · obtain ⟨bs, r2⟩ := Dp.reads I (.tuple ds) y u he ry
    exact SeqAt.notIn_tuple_reads r2 r1 se sd (roomS hu dp) ⟨.bl _, H, I, rfl, q⟩
end
section
variable {C : Wd → XC → Prop} {K : PySem.W.Frag}
theorem k2_inS {b : Bool} {p : Bool → Bool} (hp : ∀ c, p c = (b ^^ c)) : K2 C (rInS K b) (kInD p) := fun G _ n O H x y d e Qd Q W rx ry ⟨ys, ey, h1, h2, h3, h4⟩ q => by
  have hl : ∀ z ∈ ys, z.pl 59 = true := plL_of (by rcases ey with rfl | rfl <;> (unfold D.pl at h2; exact h2))
  have hc : PyData.canLayAll0 (toPyL ys) = true := by
    have := (pl_shaped 60 e h2).1
    rcases ey with rfl | rfl <;> exact this
  have hd : Dp K H y (.list (toPyL ys)) ∨ Dp K H y (.tuple (toPyL ys)) := by
    have := ry.dp (K := K) h2
    rcases ey with rfl | rfl
    · exact .inl this
    · exact .inr this
  refine ⟨toPy d, toPyL ys, rx.dp h1, hd, (pl_shaped 60 d h1).1, hc, (pl_shaped 60 d h1).2, ?_⟩
  rw [← hp]
  by_cases e' : d ∈ ys
  · rw [(any_pl h1 hl).mpr e']
    exact q _ _ H (h3 e') (Grow.refl _ _) W.ok (.bl _)
  · rw [Bool.eq_false_iff.mpr fun z => e' ((any_pl h1 hl).mp z)]
    exact q _ _ H (h4 e') (Grow.refl _ _) W.ok (.bl _)
theorem k2_inD : K2 C (rInS K false) (kInD id) := k2_inS fun c => by cases c <;> rfl
theorem k2_notInD : K2 C (rInS K true) (kInD not) := k2_inS fun c => by cases c <;> rfl
end
theorem atI_c {l : List D} {i : Nat} {d : D} (h : l[i]? = some d) : atI l (i : Int) = some d := by
  unfold atI
  rw [ixN_nat (List.getElem?_eq_some_iff.mp h).1]; exact h
theorem atI_c0 {a : D} {l : List D} : atI (a :: l) 0 = some a := atI_c (i := 0) rfl
theorem atI_c1 {a b : D} {l : List D} : atI (a :: b :: l) 1 = some b := atI_c (i := 1) rfl
theorem atI_c2 {a b c : D} {l : List D} : atI (a :: b :: c :: l) 2 = some c := atI_c (i := 2) rfl
theorem atI_c3 {a b c d : D} {l : List D} : atI (a :: b :: c :: d :: l) 3 = some d := atI_c (i := 3) rfl
/-- int(x) of an int or a bool -/
def kIntB : List D → (D → Prop) → Prop := fun ds Q => match ds with | [.int i] => Q (.int i) | [.bl b] => Q (.int (b.toNat : Int)) | _ => False
theorem kc_intB {C : Wd → XC → Prop} : KC C (fun xs H Q => (∃ i, xs = [.int i] ∧ Q (.int i) H) ∨ ∃ k, xs = [.bl k] ∧ Q (.int (if k then 1 else 0)) H) kIntB := fun G _ n O H vs ds Qd Q W r h q => by
  unfold kIntB at h
  split at h
  · obtain ⟨v, rfl, r1⟩ := r.one
    cases r1.int
    exact .inl ⟨_, rfl, q _ _ H h (Grow.refl _ _) W.ok (.int _)⟩
  · rename_i b
    obtain ⟨v, rfl, r1⟩ := r.one
    cases r1.bl
    refine .inr ⟨_, rfl, ?_⟩
    have e : (b.toNat : Int) = if b = true then 1 else 0 := by cases b <;> rfl
    rw [e] at h
    exact q _ _ H h (Grow.refl _ _) W.ok (.int _)
  · exact h.elim
theorem filter_no {α : Type} : ∀ (l : List α), l.filter (fun _ => false) = []
  | [] => rfl
  | _ :: l => by rw [List.filter_cons_of_neg (by decide)]; exact filter_no l
end PL

/-! XN: list(enumerate(tuple)): the tuples that were handed out stay alive. -/
namespace PySem
open Sem (wp)
namespace F
theorem enum_no_len : typeLookup (.type "enumerate") "__len__" = pure none := by rw [typeLookup_type, builtinLookup_eq_fast]; kernel_rfl
theorem enum_no_hint : typeLookup (.type "enumerate") "__length_hint__" = pure none := by rw [typeLookup_type, builtinLookup_eq_fast]; kernel_rfl
end F
/-- an enumerate whose tuple a is out; f: it is known to be held elsewhere -/
abbrev IsEnO (h : Heap) (e it : Addr) (i : Int) (item : Value) (a : Addr) (f : Bool) : Prop :=
  h.get? e = some { cls := .type "enumerate", dict := none, data := .fields #[rawInt a, .bool f, .ref it, rawInt i, .none, item], slots := #[] }
section
variable {prog : Program} {w : World} {A : Around} {E : Value → Shared → Prop} {s : Shared}
theorem enumerate_next_outD {e it a : Addr} {fp : List Addr} {n i : Nat} {P : Nat → Value → Prop} {St : Nat → Heap → Prop} {old : Value} {f : Bool} {oa : Obj} {Q : Value → Shared → Prop}
    (D : Draws prog w A it fp n P St) (he : IsEnO s.heap e it i old a f) (ha : s.heap.get? a = some oa) (hae : a ≠ e) (hai : a ≠ it) (hst : St i s.heap) (hlt : i < n) (hne : e ≠ it) (hef : e ∉ fp)
    (hQ : ∀ x h' tk, P i x → IsEnO h' e it ((i : Int) + 1) old a true → St (i + 1) h' →
      h'.get? s.heap.objs.size = some { cls := .type "tuple", data := .seq #[.int i tk, x] } → h'.objs.size = s.heap.objs.size + 1 →
      (∀ b o, b ≠ e → b ≠ it → s.heap.get? b = some o → h'.get? b = some o) → Q (.ref s.heap.objs.size) { s with heap := h', toks := tk + 1 }) :
    wpAny (model prog w) A (Builtin.«enumerate.__next__» ⟨[.ref e], []⟩) (fun fin s' => ∃ v, fin = .done (.ret v) ∧ Q v s') E s := by
  obtain ⟨hp, g, d, tk₀, os⟩ := s
  show wpAny _ _ (field (.ref e) 2 >>= _) _ _ _
  refine wpAny_bind (wpAny_field he rfl (x := .ref it) rfl ?_)
  refine wpAny_bind (D.item i _ _ _ hlt hst fun x h₁ tk hPx hit₁ hs₁ => ?_)
  replace hs₁ : Heap.SameBut it hp h₁ := hs₁
  have he₁ : IsEnO h₁ e it i old a f := (hs₁.2 e hne).trans he
  show wpAny _ _ (field (.ref e) 3 >>= _) _ _ ⟨h₁, g, d, tk, os⟩
  refine wpAny_bind (wpAny_field he₁ rfl (x := rawInt i) rfl ?_)
  show wpAny _ _ (field (.ref e) 4 >>= _) _ _ ⟨h₁, g, d, tk, os⟩
  refine wpAny_bind (wpAny_field he₁ rfl (x := .none) rfl ?_)
  show wpAny _ _ (mkInt i >>= _) _ _ ⟨h₁, g, d, tk, os⟩
  refine wpAny_bind (wpAny_mkInt ?_)
  show wpAny _ _ (setField (.ref e) 3 (rawInt ((i : Int) + 1)) >>= _) _ _ ⟨h₁, g, d, tk + 1, os⟩
  refine wpAny_bind (wpAny_setField_rec he₁ (by simp) fun h₂ he₂ hs₂ => ?_)
  replace hs₂ : Heap.SameBut e h₁ h₂ := hs₂
  replace he₂ : IsEnO h₂ e it ((i : Int) + 1) old a f := he₂
  show wpAny _ _ (setField (.ref e) 4 .none >>= _) _ _ ⟨h₂, g, d, tk + 1, os⟩
  refine wpAny_bind (wpAny_setField_rec he₂ (by simp) fun h₃ he₃ hs₃ => ?_)
  replace hs₃ : Heap.SameBut e h₂ h₃ := hs₃
  replace he₃ : IsEnO h₃ e it ((i : Int) + 1) old a f := he₃
  show wpAny _ _ (newTuple [.int i tk, x] >>= _) _ _ ⟨h₃, g, d, tk + 1, os⟩
  refine wpAny_bind (wpAny_newTuple ?_)
  have he₄ : IsEnO (h₃.push { cls := .type "tuple", data := .seq #[.int i tk, x] }) e it ((i : Int) + 1) old a f := Heap.get?_push_of_some _ he₃
  generalize hh₄ : h₃.push { cls := .type "tuple", data := .seq #[.int i tk, x] } = h₄ at he₄
  have hsz : h₃.objs.size = hp.objs.size := by rw [hs₃.1, hs₂.1, hs₁.1]
  have hel : e < hp.objs.size := Heap.lt_size he
  have ht₄ : h₄.get? hp.objs.size = some { cls := .type "tuple", data := .seq #[.int i tk, x] } := by rw [← hh₄, ← hsz]; exact Heap.get?_push_size _ rfl
  have hz₄ : h₄.objs.size = hp.objs.size + 1 := by rw [← hh₄, Heap.size_push, hsz]
  have hk₄ : ∀ b o, b ≠ e → b ≠ it → hp.get? b = some o → h₄.get? b = some o := fun b o hbe hbi hb => by
    rw [← hh₄]; exact Heap.get?_push_of_some _ (hs₃.extBut b o hbe (hs₂.extBut b o hbe (hs₁.extBut b o hbi hb)))
  have hit₄ : St (i + 1) h₄ := D.frame _ _ _ hit₁ fun b hb o y => by
    have hbe : b ≠ e := fun q => hef (q ▸ hb)
    rw [← hh₄]; exact Heap.get?_push_of_some _ (hs₃.extBut b o hbe (hs₂.extBut b o hbe y))
  show wpAny _ _ (Builtin.SmallTypes.ownedTupleIsFree (.ref e) >>= _) _ _ ⟨h₄, g, d, tk + 1, os⟩
  rw [hsz]
  clear hh₄ he₃ hs₃ he₂ hs₂ he₁ hs₁ hit₁ hsz h₃ h₂ h₁
  have ha₄ : h₄.get? a = some oa := hk₄ a oa hae hai ha
  refine wpAny_bind ?_
  unfold Builtin.SmallTypes.ownedTupleIsFree
  refine wpAny_bind (wpAny_field he₄ rfl (x := rawInt a) rfl ?_)
  show wpAny _ _ (loadIfAlive ((a : Int).toNat) >>= _) _ _ _
  rw [Int.toNat_natCast]
  refine wpAny_bind (PySem.W.kdx_alive ha₄ ?_)
  simp only [Option.isNone_some, Bool.false_eq_true, if_false]
  refine wpAny_bind (wpAny_field he₄ rfl (x := .bool f) rfl ?_)
  have fin : ∀ h₅ : Heap, IsEnO h₅ e it ((i : Int) + 1) old a true → Heap.SameBut e h₄ h₅ → Q (.ref hp.objs.size) ⟨h₅, g, d, tk + 1, os⟩ := fun h₅ he₅ hs₅ =>
    hQ x h₅ tk hPx he₅ (D.frame _ _ _ hit₄ fun b hb o y => hs₅.extBut b o (fun q => hef (q ▸ hb)) y) (by exact hs₅.extBut _ _ (Nat.ne_of_gt hel) ht₄) (by show h₅.objs.size = hp.objs.size + 1; rw [hs₅.1, hz₄]) fun b o hbe hbi hb => hs₅.extBut b o hbe (hk₄ b o hbe hbi hb)
  cases f with
  | true =>
    rw [if_neg (show ¬ ((Value.bool true != Value.bool true) = true) from Bool.false_ne_true)]
    refine wpAny_pure ?_
    simp only [Bool.false_eq_true, if_false]
    exact wpAny_pure ⟨_, rfl, fin h₄ he₄ (Heap.SameBut.refl _ _)⟩
  | false =>
    rw [if_pos (show (Value.bool false != Value.bool true) = true from rfl)]
    refine wpAny_bind (wpAny_setField_rec he₄ (by simp) fun h₅ he₅ hs₅ => ?_)
    replace hs₅ : Heap.SameBut e h₄ h₅ := hs₅
    replace he₅ : IsEnO h₅ e it ((i : Int) + 1) old a true := he₅
    refine wpAny_pure ?_
    simp only [Bool.false_eq_true, if_false]
    exact wpAny_pure ⟨_, rfl, fin h₅ he₅ hs₅⟩
theorem pyNext_enum_outD {e it a : Addr} {fp : List Addr} {n i : Nat} {P : Nat → Value → Prop} {St : Nat → Heap → Prop} {old : Value} {f : Bool} {oa : Obj} {Q : Option Value → Shared → Prop}
    (D : Draws prog w A.in1 it fp n P St) (he : IsEnO s.heap e it i old a f) (ha : s.heap.get? a = some oa) (hae : a ≠ e) (hai : a ≠ it) (hst : St i s.heap) (hlt : i < n) (hne : e ≠ it) (hef : e ∉ fp)
    (hQ : ∀ x h' tk, P i x → IsEnO h' e it ((i : Int) + 1) old a true → St (i + 1) h' →
      h'.get? s.heap.objs.size = some { cls := .type "tuple", data := .seq #[.int i tk, x] } → h'.objs.size = s.heap.objs.size + 1 →
      (∀ b o, b ≠ e → b ≠ it → s.heap.get? b = some o → h'.get? b = some o) → Q (some (.ref s.heap.objs.size)) { s with heap := h', toks := tk + 1 }) :
    wpAny (model prog w) A (pyNext (.ref e)) Q E s := by
  have hT : s.TypeIs (.ref e) "enumerate" := ⟨_, he, rfl⟩
  unfold pyNext
  exact wpAny_bind (wpAny_attempt (wpAny_callSpecial?_slot (name := Str.ofString "__next__") hT F.slot_enumerate_next
    (wpAny_call_entry F.slot_enumerate_next hT F.entry_enumerate_next
      (enumerate_next_outD D he ha hae hai hst hlt hne hef fun x h' tk a b c d k q => wpAny_pure (hQ x h' tk a b c d k q)) (F.args_enumerate_next_1 _))))
theorem pyNext_enum_endO {e it a : Addr} {fp : List Addr} {n : Nat} {P : Nat → Value → Prop} {St : Nat → Heap → Prop} {i : Int} {old : Value} {f : Bool} {Q : Option Value → Shared → Prop}
    (D : Draws prog w A.in1 it fp n P St) (he : IsEnO s.heap e it i old a f) (hst : St n s.heap)
    (hQ : ∀ h', Heap.ExtBut it s.heap h' → Q none { s with heap := h' }) : wpAny (model prog w) A (pyNext (.ref e)) Q E s := by
  have hT : s.TypeIs (.ref e) "enumerate" := ⟨_, he, rfl⟩
  unfold pyNext
  refine wpAny_bind (wpAny_attempt (wpAny_callSpecial?_slot (name := Str.ofString "__next__") hT F.slot_enumerate_next
    (wpAny_call_entry F.slot_enumerate_next hT F.entry_enumerate_next ?_ (F.args_enumerate_next_1 _))))
  show wpAny _ _ (field (.ref e) 2 >>= _) _ _ _
  refine wpAny_bind (wpAny_field he rfl (x := .ref it) rfl ?_)
  refine wpAny_bind (D.done _ _ _ hst fun h' x he' hx' => ?_)
  obtain ⟨o, ho, hc⟩ := hx'
  refine wpAny_bind (wpAny_isInstance (T := "StopIteration") (b := true) ⟨o, ho, hc⟩ isSubtype_stop ?_)
  exact wpAny_pure (hQ _ he')
theorem enum_hint {r : Addr} {Q : Bool → Shared → Prop} (hT : s.TypeIs (.ref r) "enumerate") (h : Q true s) : wpAny (model prog w) A (Builtin.List.listLengthHint (.ref r)) Q E s := by
  unfold Builtin.List.listLengthHint
  refine wpAny_bind (wpAny_specialOf hT F.enum_no_len ?_)
  refine wpAny_ite_split (fun hab => absurd hab (by decide)) (fun _ => ?_)
  refine wpAny_ite_split (fun hab => absurd hab (by decide)) (fun _ => ?_)
  refine wpAny_bind (wpAny_specialOf hT F.enum_no_hint ?_)
  exact wpAny_pure h
end
end PySem

namespace L2
open PySem PySem.Spec PyProof.Rows
/-- an enumerate, its tuple kept or out -/
def EnSt (h : Heap) (e it S : Addr) (i : Nat) : Prop := (∃ old, IsEnum h e it ((i : Nat) : Int) old) ∨ ∃ old a f oa, IsEnO h e it ((i : Nat) : Int) old a f ∧ h.get? a = some oa ∧ a ≠ e ∧ a ≠ it ∧ a ≠ S
theorem EnSt.ty {h : Heap} {e it S : Addr} {i : Nat} (E : EnSt h e it S i) : ∃ o, h.get? e = some o ∧ o.cls = .type "enumerate" := by
  rcases E with ⟨old, he⟩ | ⟨old, a, f, oa, he, _⟩
  · exact ⟨_, he, rfl⟩
  · exact ⟨_, he, rfl⟩
theorem EnSt.keep {h h' : Heap} {e it S : Addr} {i : Nat} (hS : e ≠ S) (k : ∀ b o, b ≠ S → h.get? b = some o → h'.get? b = some o) (E : EnSt h e it S i) : EnSt h' e it S i := by
  rcases E with ⟨old, he⟩ | ⟨old, a, f, oa, he, ha, h1, h2, h3⟩
  · exact .inl ⟨old, k _ _ hS he⟩
  · exact .inr ⟨old, a, f, oa, k _ _ hS he, k _ _ h3 ha, h1, h2, h3⟩
theorem sqT_up {K : PySem.W.Frag} {H1 H : Hp} {a : Addr} {xs : List V} (up : ∀ b o, H1 b = some o → H b = some o) (h : SqT K H1 a xs) : SqT K H a xs := h.imp (fun r => r.elim (fun e => .inl (up _ _ e)) fun ⟨ob, e⟩ => .inr ⟨ob, up _ _ e⟩) id
/-- what the list holds: pairs of a place and an item -/
structure Enl (H1 H : Hp) (S : Addr) (xs : List V) (acc : List Addr) : Prop where
  up : ∀ b o, H1 b = some o → H b = some o
  lst : H S = some (.lst (acc.map V.ref))
  at_ : ∀ (j : Nat) (t : Addr), acc[j]? = some t → ∃ x, xs[j]? = some x ∧ H t = some (.tup [.int (j : Nat), x])
  new : ∀ t ∈ acc, H1 t = none ∧ t ≠ S
section
variable {X : Cx} {pins : List (Addr × Obj)} {σ : L2.St} {H1 : Hp} {A1 : Around} {Rs : Result → Shared → Prop} {e it S a : Addr} {xs : List V}
theorem en_loop (hh : A1.handled = none) (hne : e ≠ it) (hai : a ≠ it) (hea : e ≠ a) (heS : e ≠ S) (hiS : it ≠ S) (hS1 : H1 S = none) (hq : SqT X.K H1 a xs) (hz : xs.length ≤ sizeLine)
    (hdone : ∀ acc H s, Inv X pins σ H s → Enl H1 H S xs acc → acc.length = xs.length → Rs (.ok (.ret .none)) s) :
    ∀ (m i : Nat) (acc : List Addr) (H : Hp) (s : Shared), xs.length - i = m → i ≤ xs.length → Inv X pins σ H s → Enl H1 H S xs acc → acc.length = i → (∀ b ∈ [e, it], FpOk X pins H b) → EnSt s.heap e it S i → s.heap.IsTupleIter it a i →
      codeAny (model X.prog X.w) A1 (.builtin "list.extend.loop" ⟨[.ref S, .ref e, .none], []⟩) Rs s := by
  intro m
  induction m with
  | zero =>
    intro i acc H s hm hi I L hl hf st hit
    have hix : i = xs.length := by omega
    refine codeAny_builtin PySem.F.entry_extend_loop ?_
    rw [Around.under_plainId PySem.F.plain_extend_loop _]
    show wpAny _ A1.in1 (pyNext (.ref e) >>= _) _ _ s
    have hq2 : SqT X.K H a xs := sqT_up L.up hq
    obtain ⟨its, rv, p, _⟩ := I.tuple hq2
    have hlv := rv.length
    have DD : Draws X.prog X.w A1.in1.in1 it [it, a] its.toArray.size (fun i v => its.toArray[i]? = some v) (fun i h => h.IsTupleIter it a i ∧ h.IsTuple a its.toArray) := Draws.tuple (A := A1.in1.in1) (show A1.in1.in1.handled = none from hh) it a hai its.toArray
    have hsz : its.toArray.size = i := by rw [List.size_toArray]; omega
    obtain ⟨f0, f1, f2, f3, f4, f5⟩ := hf it (by simp)
    have fin : ∀ h', Heap.ExtBut it s.heap h' → wpAny (model X.prog X.w) A1.in1 (pure (Fin.done (.ret .none))) (fun fin s' => match fin with | .done f => Rs (.ok f) s' | .again c' => c'.quiet = true ∧ codeAny (model X.prog X.w) A1 c' Rs s') (fun e s' => Rs (.error e) s') { s with heap := h' } := fun h' he' =>
      wpAny_pure (hdone acc H _ (I.turned (t' := s.toks) (fun b o hb q => he' b o hb q) f0 f1 f3 f4 f5) L (by omega))
    rcases st with ⟨old, he⟩ | ⟨old, a', f, oa, he, ha, h1, h2, h3⟩
    · exact wpAny_bind (wpAny_pyNext_enum_endD DD he (by rw [hsz]; exact ⟨hit, p⟩) fin)
    · exact wpAny_bind (pyNext_enum_endO DD he (by rw [hsz]; exact ⟨hit, p⟩) fin)
  | succ m ih =>
    intro i acc H s hm hi I L hl hf st hit
    have hlt : i < xs.length := by omega
    refine codeAny_builtin PySem.F.entry_extend_loop ?_
    rw [Around.under_plainId PySem.F.plain_extend_loop _]
    show wpAny _ A1.in1 (pyNext (.ref e) >>= _) _ _ s
    have hq2 : SqT X.K H a xs := sqT_up L.up hq
    obtain ⟨its, rv, p, _⟩ := I.tuple hq2
    have hlv := rv.length
    obtain ⟨x, hx⟩ : ∃ x, xs[i]? = some x := ⟨_, List.getElem?_eq_getElem hlt⟩
    obtain ⟨u, hu, ru⟩ := rv.get hx
    have DD : Draws X.prog X.w A1.in1.in1 it [it, a] its.toArray.size (fun i v => its.toArray[i]? = some v) (fun i h => h.IsTupleIter it a i ∧ h.IsTuple a its.toArray) := Draws.tuple (A := A1.in1.in1) (show A1.in1.in1.handled = none from hh) it a hai its.toArray
    have hsz : i < its.toArray.size := by rw [List.size_toArray]; omega
    have hil : it < s.heap.objs.size := by obtain ⟨_, q, _⟩ := hit; exact Heap.lt_size q
    have hel : e < s.heap.objs.size := by obtain ⟨_, q, _⟩ := st.ty; exact Heap.lt_size q
    have hSl : S < s.heap.objs.size := by obtain ⟨_, _, _, _, _, q⟩ := I.lstM L.lst; exact Heap.lt_size q
    have nT : H s.heap.objs.size = none := I.hok.fresh (Nat.le_refl _)
    have n1T : H1 s.heap.objs.size = none := by
      cases z : H1 s.heap.objs.size with
      | none => rfl
      | some o => rw [L.up _ _ z] at nT; cases nT
    have step : ∀ (y : Value) (h' : Heap) (tk : Nat), its.toArray[i]? = some y → EnSt h' e it S (i + 1) → h'.IsTupleIter it a (i + 1) → h'.get? s.heap.objs.size = some { cls := .type "tuple", data := .seq #[.int i tk, y] } → (∀ b o, b ≠ e → b ≠ it → s.heap.get? b = some o → h'.get? b = some o) →
        wpAny (model X.prog X.w) A1.in1 (updateSeq S (·.push (Value.ref s.heap.objs.size)) >>= fun _ => again (.builtin "list.extend.loop" ⟨[.ref S, .ref e, .none], []⟩)) (fun fin s' => match fin with | .done f => Rs (.ok f) s' | .again c' => c'.quiet = true ∧ codeAny (model X.prog X.w) A1 c' Rs s') (fun e s' => Rs (.error e) s') { s with heap := h', toks := tk + 1 } := fun y h' tk hy st' hit' hT hk => by
      have ey : y = u := by
        have h2 : its.toArray[i]? = some u := by simpa using hu
        rw [h2] at hy; exact (Option.some.inj hy).symm
      subst ey
      have new : ObjOk X.prog X.w (upd H s.heap.objs.size (.tup [.int (i : Nat), x])) h' s.heap.objs.size (.tup [.int (i : Nat), x]) :=
        ⟨by show 2 ≤ sizeLine; rw [sizeLine_eq]; decide, [.int i tk, y], .cons ⟨_, rfl⟩ (.cons ru .nil), ⟨_, hT, rfl, _, rfl⟩⟩
      have I1 : Inv X pins σ (upd H s.heap.objs.size (.tup [.int (i : Nat), x])) { s with heap := h', toks := tk + 1 } :=
        I.turnedNew (ch := [e, it]) (fun b ob hb q => hk b ob (fun z => hb (by simp [z])) (fun z => hb (by simp [z])) q) hf (Nat.le_refl _) new
      have hTS : s.heap.objs.size ≠ S := Nat.ne_of_gt hSl
      have hS' : upd H s.heap.objs.size (.tup [.int (i : Nat), x]) S = some (.lst (acc.map V.ref)) := by rw [upd_ne (Ne.symm hTS)]; exact L.lst
      obtain ⟨z, itsS, kS, r2, hl2, e2⟩ := I1.lstM hS'
      rw [List.length_map] at hl2
      refine wpAny_bind (wpAny_updateSeq e2 rfl (wpAny_pure ⟨plainId_quiet PySem.F.plain_extend_loop _, ?_⟩) (by rw [List.size_toArray]; omega) (by show (itsS.toArray.push _).size ≤ sizeLine + 1; rw [Array.size_push, List.size_toArray]; omega))
      have oth : ∀ b o, b ≠ S → h'.get? b = some o → (h'.update S (Obj.mapSeq (·.push (Value.ref s.heap.objs.size)))).get? b = some o := fun b o hb q => (Heap.get?_update_other _ _ (Ne.symm hb)).trans q
      have hup : ∀ b o, H b = some o → b ≠ S → upd (upd H s.heap.objs.size (.tup [.int (i : Nat), x])) S (.lst (acc.map V.ref ++ [.ref s.heap.objs.size])) b = some o := fun b o q n => by
        rw [upd_ne n, upd_ne (ne_of_none q nT)]; exact q
      refine ih (i + 1) (acc ++ [s.heap.objs.size]) _ _ (by omega) hlt (I1.lset (its' := itsS ++ [Value.ref s.heap.objs.size]) (ys := acc.map V.ref ++ [.ref s.heap.objs.size]) (t' := tk + 1) hS' e2 (by simp) (r2.append (.cons (show RelV (V.ref s.heap.objs.size) (Value.ref s.heap.objs.size) from rfl) .nil)) (by rw [List.length_append, List.length_map, List.length_singleton]; omega)) ⟨fun b o q => hup b o (L.up b o q) (fun z => by rw [z, hS1] at q; cases q), by rw [upd_same, List.map_append]; rfl, fun j t hj => ?_, fun t ht => ?_⟩ (by rw [List.length_append, hl]; rfl) (fun b hb => ?_) (st'.keep heS oth) ?_
      · by_cases hj2 : j < acc.length
        · rw [List.getElem?_append_left hj2] at hj
          obtain ⟨x', h1, h2⟩ := L.at_ j t hj
          exact ⟨x', h1, hup t _ h2 (L.new t (List.mem_of_getElem? hj)).2⟩
        · have hlen := (List.getElem?_eq_some_iff.mp hj).1
          rw [List.length_append, List.length_singleton] at hlen
          have ej : j = acc.length := by omega
          subst ej
          rw [List.getElem?_append_right (Nat.le_refl _), Nat.sub_self] at hj
          cases hj
          refine ⟨x, by rw [hl]; exact hx, ?_⟩
          rw [upd_ne hTS, upd_same, hl]
      · rcases List.mem_append.mp ht with h | h
        · exact L.new t h
        · rw [List.mem_singleton.mp h]; exact ⟨n1T, hTS⟩
      · obtain ⟨f0, fr⟩ := hf b hb
        have hb' : b ≠ S ∧ b < s.heap.objs.size := by
          have e' : b = e ∨ b = it := by simpa using hb
          rcases e' with z | z
          · rw [z]; exact ⟨heS, hel⟩
          · rw [z]; exact ⟨hiS, hil⟩
        refine ⟨?_, fr⟩
        rw [upd_ne hb'.1, upd_ne (Nat.ne_of_lt hb'.2)]; exact f0
      · exact hit'.at fun o q => oth it o hiS q
    rcases st with ⟨old, he⟩ | ⟨old, a', f, oa, he, ha, h1, h2, h3⟩
    · refine wpAny_bind (wpAny_pyNext_enum_itemD DD he ⟨hit, p⟩ hsz hne (by simp [hne, hea]) fun y h' tk hy ho hit' hT hz' hk => ?_)
      refine step y h' tk hy (.inr ⟨y, s.heap.objs.size, false, _, ?_, hT, Nat.ne_of_gt hel, Nat.ne_of_gt hil, Nat.ne_of_gt hSl⟩) hit'.1 hT hk
      have e1 : ((i + 1 : Nat) : Int) = (i : Int) + 1 := by omega
      rw [e1]; exact ho
    · refine wpAny_bind (pyNext_enum_outD DD he ha h1 h2 ⟨hit, p⟩ hsz hne (by simp [hne, hea]) fun y h' tk hy ho hit' hT hz' hk => ?_)
      refine step y h' tk hy (.inr ⟨old, a', true, oa, ?_, hk a' oa h1 h2 ha, h1, h2, h3⟩) hit'.1 hT hk
      have e1 : ((i + 1 : Nat) : Int) = (i : Int) + 1 := by omega
      rw [e1]; exact ho
end
/-- list(enumerate(e)), e a tuple -/
def tListEnT (K : PySem.W.Frag) (ta : TA) : TE := fun σ H Q => ta σ H fun vs H1 => ∃ a xs, vs = [.ref a] ∧ SqT K H1 a xs ∧ xs.length ≤ sizeLine ∧ ∀ H' p acc, H1 p = none → Enl H1 H' p xs acc → acc.length = xs.length → Q (.ref p) H'
theorem pe_listEnT {X : Cx} {e : Expr} {ta : TA} {p p2 pos pos2 : Pos} (hc : X.calm = true) (hgl : Gl X "list") (hml : X.mg "list" = none) (hg : Gl X "enumerate") (hm : X.mg "enumerate" = none) (ha : PA X [e] ta) (hs : starEach [e] X.env = [(false, eval e X.env)] := by rfl)
    (hs2 : starEach [.Call (.Name "enumerate" p2) [e] [] pos2] X.env = (false, eval (.Call (.Name "enumerate" p2) [e] [] pos2) X.env) :: starEach [] X.env := by rfl) :
    PE X (.Call (.Name "list" p) [.Call (.Name "enumerate" p2) [e] [] pos2] [] pos) (tListEnT X.K ta) := by
  refine ⟨fun pins s σ H Q I h => ?_⟩
  refine wpAny_Call_Name_kw (ld_blt I hgl hml boot_list ?_)
  refine PyProof.Rows.callWith_type1 ?_ hs2 rfl
  rw [hs2]
  show wpAny _ _ (spliced ((false, eval (.Call (.Name "enumerate" p2) [e] [] pos2) X.env) :: backTo pos (starEach [] X.env))) _ _ s
  refine Calls.spliced_cons ?_
  refine Call_ (ld_blt I hg hm boot_enumerate (PyProof.Rows.callWith_type1 (thn (ha.run pos2 pins s σ H _ I h) fun us s1 ⟨vs, H1, I1, r1, q1⟩ => ?_) hs rfl))
  obtain ⟨a, xs, ex, hq, hxl, q⟩ := q1
  subst ex
  cases r1 with
  | cons r rr =>
    cases rr
    cases r
    obtain ⟨its, rv, p', hz⟩ := I1.tuple hq
    have hal : a < s1.heap.objs.size := by obtain ⟨_, q, _⟩ := p'; exact Heap.lt_size q
    refine enum_begins1 (begins_tuple a its.toArray) p' fun h' he hit hsz hk => Calls.spliced_nil ?_
    have I2 : Inv X pins σ H1 { s1 with heap := h' } := I1.kept (t' := s1.toks) hk
    have hit2 : h'.IsTupleIter s1.heap.objs.size a 0 := ⟨_, hit, rfl, rfl⟩
    refine callType_codes (Q₁ := fun obj s₁ => obj = .ref h'.objs.size ∧ s₁ = { s1 with heap := h'.push { cls := .type "list", data := .seq #[] } }) PySem.F.called_list (PySem.F.typeCall_list_1 _) PySem.F.entry_list_init
      (code_list_new _ ⟨rfl, rfl⟩) fun obj s₁ h₁ => ?_
    obtain ⟨rfl, rfl⟩ := h₁
    have hS : (h'.push { cls := .type "list", data := .seq #[] }).get? h'.objs.size = some { cls := .type "list", data := .seq #[] } := Heap.get?_push_size _ rfl
    refine ⟨⟨_, hS, rfl⟩, PySem.F.args_list_init_2 _ _, ?_⟩
    have fr : H1 h'.objs.size = none := I2.hok.fresh (Nat.le_refl _)
    have I3 : Inv X pins σ (upd H1 h'.objs.size (.lst [])) { s1 with heap := h'.push { cls := .type "list", data := .seq #[] } } := I2.lnew (its := []) (t' := s1.toks) .nil (Nat.zero_le _)
    show wpAny _ _ (do let old ← Builtin.List.listItems (.ref h'.objs.size); Builtin.List.listUpdate (.ref h'.objs.size) (fun _ => #[]); letGo old.toList.reverse; Builtin.List.listExtendWith (.ref h'.objs.size) (.ref (s1.heap.objs.size + 1)) .none) _ _ _
    refine wpAny_bind ?_
    unfold Builtin.List.listItems
    refine wpAny_bind (wpAny_seqItems hS rfl (wpAny_pure ?_))
    show wpAny _ _ (updateSeq h'.objs.size (fun _ => #[]) >>= fun _ => letGo (#[] : Array Value).toList.reverse >>= fun _ => Builtin.List.listExtendWith (.ref h'.objs.size) (.ref (s1.heap.objs.size + 1)) .none) _ _ _
    refine wpAny_bind (wpAny_updateSeq hS rfl ?_)
    have I4 := I3.lset (f := fun _ => #[]) (its := []) (its' := []) (ys := []) (t' := s1.toks) upd_same hS rfl .nil (Nat.zero_le _)
    rw [upd_upd] at I4
    refine wpAny_bind (wpAny_letGo ?_)
    have heS : s1.heap.objs.size + 1 ≠ h'.objs.size := by omega
    have hiS : s1.heap.objs.size ≠ h'.objs.size := by omega
    have hfp : ∀ b ∈ [s1.heap.objs.size + 1, s1.heap.objs.size], FpOk X pins (upd H1 h'.objs.size (.lst [])) b := fun b hb => by
      have hle : s1.heap.objs.size ≤ b ∧ b ≠ h'.objs.size := by
        have e' : b = s1.heap.objs.size + 1 ∨ b = s1.heap.objs.size := by simpa using hb
        rcases e' with z | z
        · rw [z]; exact ⟨Nat.le_add_right _ _, heS⟩
        · rw [z]; exact ⟨Nat.le_refl _, hiS⟩
      obtain ⟨f0, f1⟩ := I1.fpOk hle.1 (I1.hok.fresh hle.1)
      exact ⟨by rw [upd_ne hle.2]; exact f0, f1⟩
    generalize h'.objs.size = S at *
    generalize hh4 : (h'.push { cls := .type "list", data := .seq #[] }).update S (Obj.mapSeq fun _ => #[]) = h4 at I4 ⊢
    have oth : ∀ b o, b ≠ S → h'.get? b = some o → h4.get? b = some o := fun b o hb q => by
      rw [← hh4]; exact (Heap.get?_update_other _ _ (Ne.symm hb)).trans (Heap.get?_push_of_some _ q)
    have he4 := oth _ _ heS he
    have hit4 : h4.IsTupleIter s1.heap.objs.size a 0 := hit2.at fun o q => oth _ o hiS q
    have hT4 : Shared.TypeIs { s1 with heap := h4 } (.ref (s1.heap.objs.size + 1)) "enumerate" := ⟨_, he4, rfl⟩
    obtain ⟨z, itsS, kS, r2, hl2, e2⟩ := I4.lstM upd_same
    cases r2
    unfold Builtin.List.listExtendWith
    refine wpAny_bind (wpAny_typeOf hT4 ?_)
    have h1 : Builtin.List.listSameRef (.ref S) (.ref (s1.heap.objs.size + 1)) = false := by simp [Builtin.List.listSameRef, Ne.symm heS]
    have h2 : (Value.type "enumerate" == Value.type "list") = false := by decide
    have h3 : (Value.type "enumerate" == Value.type "tuple") = false := by decide
    simp only [h1, h2, h3, Bool.or_false, Bool.false_eq_true, if_false]
    refine wpAny_bind (wpAny_pyIter_enum he4 ?_)
    refine wpAny_bind (wpAny_holding (enum_hint hT4 ?_))
    refine wpAny_ite_split (fun _ => ?_) (fun hab => absurd rfl hab)
    refine wpAny_bind (wpAny_rule ?_)
    refine wpAny_bind ?_
    show wpAny _ _ (updateSeq S (·.push .none) >>= fun _ => updateSeq S (·.pop)) _ _ _
    refine wpAny_bind (wpAny_updateSeq e2 rfl ?_)
    have J2 := I4.lset (f := (·.push Value.none)) (its' := [Value.none]) (ys := [.non]) (t' := s1.toks) upd_same e2 (by simp) (.cons rfl .nil) (by rw [List.length_singleton, sizeLine_eq]; decide)
    rw [upd_upd] at J2
    obtain ⟨z4, its4, k4, r4, hl4, e4⟩ := J2.lstM upd_same
    obtain ⟨u4, rfl, ru4⟩ := r4.one
    refine wpAny_updateSeq e4 rfl ?_ (by show 1 ≤ sizeLine; rw [sizeLine_eq]; decide) (by show 0 ≤ sizeLine + 1; exact Nat.zero_le _)
    have J3 := J2.lset (f := (·.pop)) (its := [u4]) (its' := []) (ys := []) (t' := s1.toks) upd_same e4 (by rfl) .nil (Nat.zero_le _)
    rw [upd_upd] at J3
    generalize hh5 : (h4.update S (Obj.mapSeq (·.push Value.none))).update S (Obj.mapSeq (·.pop)) = h5 at J3 ⊢
    have oth5 : ∀ b o, b ≠ S → h4.get? b = some o → h5.get? b = some o := fun b o hb q => by
      rw [← hh5]; exact (Heap.get?_update_other _ _ (Ne.symm hb)).trans ((Heap.get?_update_other _ _ (Ne.symm hb)).trans q)
    refine wpAny_pure ⟨plainId_quiet PySem.F.plain_extend_loop _, en_loop (A1 := X.A.in1) (H1 := H1) (xs := xs) (I1.ok.hd hc) (Nat.succ_ne_self _) (Nat.ne_of_lt hal) (Nat.ne_of_gt (Nat.lt_succ_of_lt hal)) heS hiS fr hq hxl (fun acc H s I L hl => ⟨rfl, .ref S, H, I, rfl, q H S acc fr L hl⟩) xs.length 0 [] _ _ (Nat.sub_zero _) (Nat.zero_le _) J3 ⟨fun b o q => by rw [upd_ne (fun z => by rw [z, fr] at q; cases q)]; exact q, by rw [upd_same]; rfl, fun j t z => (by cases z), fun t z => (by cases z)⟩ rfl hfp (.inl ⟨.none, oth5 _ _ heS he4⟩) (hit4.at fun o q => oth5 _ o hiS q)⟩
end L2

namespace PL
open PySem PySem.Spec PyProof.Rows L2
theorem rpl_of {A : At} : ∀ {xs : List V} {ds : List D}, xs.length = ds.length → (∀ (j : Nat) v d, xs[j]? = some v → ds[j]? = some d → Rp A v d) → RpL A xs ds
  | [], [], _, _ => .nil
  | [], _ :: _, h, _ => by cases h
  | _ :: _, [], h, _ => by cases h
  | x :: xs, d :: ds, h, k => .cons (k 0 x d rfl rfl) (rpl_of (Nat.succ.inj h) fun j v e h1 h2 => k (j + 1) v e h1 h2)
section
variable {C : Wd → XC → Prop} {K : PySem.W.Frag} {c : Nat} {ta : TA} {am : AM}
theorem sl_listEnT (h : SA C c ta am) : SL C c (tListEnT K ta) (fun env Q => am env fun ds => match ds with | [.tup l] => l.length ≤ sizeLine ∧ Q (enumD 0 l) | _ => False) := fun G cg n O env σ H Qd Q hL F hm q =>
  show ta σ H _ from h G cg n O env σ H _ _ hL F hm fun ds vs H1 h1 g1 ok1 r1 => by
    split at h1
    · rename_i l
      obtain ⟨hl, hq⟩ := h1
      cases r1 with
      | cons r rr =>
        cases rr
        cases r with
        | @tup a xs _ ea rx =>
          have W1 := F.wl.grow g1 ok1
          have hlx := rx.length
          refine ⟨a, xs, rfl, sqT (rk_tup ea.1), by omega, fun H' p acc hp L hacc => ?_⟩
          have gr : Grow G.w H1 H' := fun b o e _ => L.up b o e
          have ok2 : G.w.ok (n + c) H' := G.w.st _ _ _ (fun b o _ e => L.up b o e) (fun b φ e => L.up b _ e) ok1
          have le : LeA (Sh O H1) (Sh (fun b => O b ∨ b = p) H') := fun b o ⟨h1, h2⟩ => ⟨rd_mv (fun o e => L.up b o e) h1, fun z => z.elim h2 fun z => rd_ne h1 (n := hp) z⟩
          refine q _ p _ H' hq (g1.trans gr) ok2 (Grow.free g1 ok1 hp) L.lst (rpl_of (by rw [List.length_map, enumD_len]; omega) fun j v d hv hd => ?_)
          rw [List.getElem?_map] at hv
          cases et : acc[j]? with
          | none => rw [et] at hv; cases hv
          | some t =>
            rw [et] at hv
            cases hv
            obtain ⟨x, hx, ht⟩ := L.at_ j t et
            obtain ⟨n1, n2⟩ := L.new t (List.mem_of_getElem? et)
            obtain ⟨d', hd', rd'⟩ := rx.getV hx
            have e1 := enumD_get (s := 0) hd'
            rw [Nat.zero_add] at e1
            rw [e1] at hd
            cases hd
            exact .tup ⟨.inl ht, fun z => z.elim (W1.free n1) n2⟩ (.cons (.int _) (.cons (rd'.mono le) .nil))
    · exact h1.elim
end
end PL

/-! XP: a, b = x, y with a cell among the names. -/
namespace PL
open PySem PySem.Spec PyProof.Rows L2
section
variable {C : Wd → XC → Prop} {K : PySem.W.Frag} {ta tb : TE} {c1 c2 : Nat}
theorem ss_parA2 {i j : Nat} {mx my : XM} (h : SX C c1 ta mx) (h' : SX C c2 tb my) :
    SS C (c1 + c2) (tAsg (tTup (tCons ta (tCons tb tNil))) (gTup K 2 (gCons (gName i) (gCons (gName j) gNil)))) (sPar i j mx my) := fun G c n O env σ H P D hL F hm e =>
  h G c n O env σ H _ _ (by omega) F hm fun x1 v O1 H1 q g W l1 mo s nn f => by
    have F1 : Fr G (n + c1) O1 env σ H1 := ⟨W, F.len, fun k d e n => let ⟨u, h1, h2⟩ := F.sl k d e n; ⟨u, h1, h2.le g l1 mo⟩, F.uq⟩
    refine h' G c _ O1 env σ H1 _ _ (by omega) F1 q fun x2 u O2 H2 q2 g2 W2 l2 mo2 s2 n2 f2 => ?_
    have en : n + c1 + c2 = n + (c1 + c2) := by omega
    refine ⟨by show 2 ≤ sizeLine; decide, fun T hT => ⟨T, _, rfl, sqT (.inl upd_same), rfl, v, [u], rfl, u, [], rfl, rfl, ?_⟩⟩
    have F3 := (F.set (i := i) g W l1 mo s f).set (i := j) g2 W2 l2 mo2 s2 f2
    rw [en] at F3
    have gT : Grow G.w H2 (upd H2 T (.tup [v, u])) := Grow.new _ hT
    exact e.nx O2 _ _ _ (l1.trans (l2.trans (sh_grow F3.wl.zo gT))) (F3.grow gT (Wd.okNew hT F3.wl.ok)) q2
end
end PL

/-! XM: calls f(a, .., k = b, ..): some by position, the others by keywords in any sequence. -/
namespace PL
open PySem PySem.Spec PyProof.Rows L2
def gM {α : Type} (m : Nat) (ix : List Nat) (us ws : List α) : List α := if us.length = m then us ++ ix.filterMap fun i => ws[i]? else []
theorem gM_vals {vs : List V} {us : List Value} {zs : List V} {ws : List Value} (m : Nat) (ix : List Nat) (r : Vals vs us) (rz : Vals zs ws) : Vals (gM m ix vs zs) (gM m ix us ws) := by
  unfold gM
  by_cases h : us.length = m
  · rw [if_pos h, if_pos (by rw [r.length]; exact h)]
    exact r.append (gP_vals rz ix)
  · rw [if_neg h, if_neg (by rw [r.length]; exact h)]
    exact .nil
theorem gM_rp {A : At} {vs zs : List V} {ds es : List D} (m : Nat) (ix : List Nat) (r : RpL A vs ds) (rz : RpL A zs es) : RpL A (gM m ix vs zs) (gM m ix ds es) := by
  unfold gM
  by_cases h : ds.length = m
  · rw [if_pos h, if_pos (by rw [r.length]; exact h)]
    exact r.append (gP_rp rz ix)
  · rw [if_neg h, if_neg (by rw [r.length]; exact h)]
    exact .nil
structure PrM (P : Program) (w : World) (K : PySem.W.Frag) (mg : Str → Option Value) (base : Heap) (x : Str) (k : Nat) (ps : List Str) (m : Nat) (ks : List Str) (ix : List Nat) (sp : Sp) : Prop where
  ex : ∃ f fd, FnOk P w K mg base CX0 k f fd ps sp ∧ mg x = some (.ref f) ∧ PySem.W.keepIn K (.ref f) = true ∧ KBinds K fd ps ks (gM m ix) (gM m ix)
structure PrXM (P : Program) (w : World) (K : PySem.W.Frag) (mg : Str → Option Value) (base : Heap) (x : Str) (k : Nat) (ps : List Str) (m : Nat) (ks : List Str) (ix : List Nat) (sp : Sp) : Prop where
  ex : ∃ f fd, FnOk P w K mg base (L2.CX P w) k f fd ps sp ∧ mg x = some (.ref f) ∧ PySem.W.keepIn K (.ref f) = true ∧ KBinds K fd ps ks (gM m ix) (gM m ix)
theorem PrM.up {P : Program} {w : World} {K : PySem.W.Frag} {mg : Str → Option Value} {base : Heap} {x : Str} {j k m : Nat} {ps ks : List Str} {ix : List Nat} {sp : Sp} (h : PrM P w K mg base x j ps m ks ix sp) (hk : j ≤ k) : PrM P w K mg base x k ps m ks ix sp := by
  obtain ⟨f, fd, h1, h2, h3, h4⟩ := h.ex
  exact ⟨⟨f, fd, h1.mono hk, h2, h3, h4⟩⟩
theorem PrXM.up {P : Program} {w : World} {K : PySem.W.Frag} {mg : Str → Option Value} {base : Heap} {x : Str} {j k m : Nat} {ps ks : List Str} {ix : List Nat} {sp : Sp} (h : PrXM P w K mg base x j ps m ks ix sp) (hk : j ≤ k) : PrXM P w K mg base x k ps m ks ix sp := by
  obtain ⟨f, fd, h1, h2, h3, h4⟩ := h.ex
  exact ⟨⟨f, fd, h1.mono hk, h2, h3, h4⟩⟩
theorem kbM_mk {K : PySem.W.Frag} {x qual : Str} {st : Stmt} {f : Addr} {fd : FuncData} {ps ks : List Str} {m : Nat} {ix : List Nat} (F : Fun K x qual st f fd) (hps : ps ≠ [])
    (h : ∀ (kV doc pm : Value) (an : Option Addr) (cdv ct : Value) (us ws : List Value), us.length = m → (gM m ix us ws).length = ps.length → bindArgs (PySem.W.fnOf x qual (defArgs st) (defBody st) (defScope st) .none kV doc pm an cdv ct) ⟨us, ks.zip ws⟩ = pure (ps.zip (gM m ix us ws))) : KBinds K fd ps ks (gM m ix) (gM m ix) := by
  obtain ⟨oc, od, kV, doc, pm, an, cdv, ct, osl, rfl, lk, hcd⟩ := F.ex
  refine ⟨fun s us ws _ hl => ?_, fun {vs us zs ws} r rz => gM_vals m ix r rz⟩
  by_cases hu : us.length = m
  · exact .of_eq (h kV doc pm an cdv ct us ws hu hl)
  · unfold gM at hl
    rw [if_neg hu] at hl
    exact absurd (List.length_eq_zero_iff.mp hl.symm) hps
section
variable {X : Cx} {x : Str} {k m : Nat} {ps ks : List Str} {ix : List Nat} {sp : Sp} {p pos : Pos} {e : Expr} {es : List Expr} {kws : List Keyword} {t tk : TA} {E : XK}
theorem pe_callM (h : PrM X.prog X.w X.K X.mg X.base x k ps m ks ix sp) (hr : Room k X.A) (hg : Gl X x) (ha : PA X (e :: es) t) (hkw : PK X kws tk)
    (hall : (backToKw pos (keywordEach kws X.env)).all (·.1.isSome) = true := by rfl) (hks : (backToKw pos (keywordEach kws X.env)).filterMap (·.1) = ks := by rfl)
    (hdb : (x == ("__debug__" : Str)) = false := by decide) (he : starEach (e :: es) X.env = (false, eval e X.env) :: starEach es X.env := by rfl)
    (hpl : ((backTo pos (starEach (e :: es) X.env)).any (·.1) || (backToKw pos (keywordEach kws X.env)).any (·.1.isNone)) = false := by rfl) :
    PE X (.Call (.Name x p) (e :: es) kws pos) (tCallK sp (gM m ix) E0 t tk) := by
  obtain ⟨f, fd, h1, h2, h3, h4⟩ := h.ex
  exact pe_callK h1 hr hg h2 h3 h4 pass0 ha hkw hall hks hdb he hpl
theorem pe_callNM (h : PrXM X.prog X.w X.K X.mg X.base x k ps m ks ix sp) (hr : Room k X.A) (hg : Gl X x) (ha : PA X (e :: es) t) (hkw : PK X kws tk)
    (hall : (backToKw pos (keywordEach kws X.env)).all (·.1.isSome) = true := by rfl) (hks : (backToKw pos (keywordEach kws X.env)).filterMap (·.1) = ks := by rfl)
    (hdb : (x == ("__debug__" : Str)) = false := by decide) (he : starEach (e :: es) X.env = (false, eval e X.env) :: starEach es X.env := by rfl)
    (hpl : ((backTo pos (starEach (e :: es) X.env)).any (·.1) || (backToKw pos (keywordEach kws X.env)).any (·.1.isNone)) = false := by rfl) :
    PE X (.Call (.Name x p) (e :: es) kws pos) (tCallK sp (gM m ix) E0 t tk) := by
  obtain ⟨f, fd, h1, h2, h3, h4⟩ := h.ex
  exact pe_callK h1 hr hg h2 h3 h4 passL ha hkw hall hks hdb he hpl
theorem pe_callXM (h : PrXM X.prog X.w X.K X.mg X.base x k ps m ks ix sp) (hr : Room k X.A) (tkk : Takes X (fun cls d _ H => E cls d H)) (hg : Gl X x) (ha : PA X (e :: es) t) (hkw : PK X kws tk)
    (hall : (backToKw pos (keywordEach kws X.env)).all (·.1.isSome) = true := by rfl) (hks : (backToKw pos (keywordEach kws X.env)).filterMap (·.1) = ks := by rfl)
    (hdb : (x == ("__debug__" : Str)) = false := by decide) (he : starEach (e :: es) X.env = (false, eval e X.env) :: starEach es X.env := by rfl)
    (hpl : ((backTo pos (starEach (e :: es) X.env)).any (·.1) || (backToKw pos (keywordEach kws X.env)).any (·.1.isNone)) = false := by rfl) :
    PE X (.Call (.Name x p) (e :: es) kws pos) (tCallK sp (gM m ix) E t tk) := by
  obtain ⟨f, fd, h1, h2, h3, h4⟩ := h.ex
  exact pe_callK h1 hr hg h2 h3 h4 (passes_call tkk fun _ _ _ _ z => z) ha hkw hall hks hdb he hpl
end
section
variable {c1 c2 m : Nat} {ix : List Nat} {t tr : TA} {am ar : AM} {E : XK}
theorem se_callM {C : Wd → XC → Prop} {S : List D → (D → Prop) → Prop} (h : SA C c1 t am) (h' : SA C c2 tr ar) (hS : Mono S) : SE C (c1 + (c2 + 0)) (tCallK (spP CA 0 S) (gM m ix) E t tr) (fun env Q => am env fun ds => ar env fun es => S (gM m ix ds es) Q) :=
  se_callK (k := 0) (gM m ix) (fun A vs zs ds es r1 r2 => gM_rp m ix r1 r2) h h' hS fun _ _ _ => trivial
theorem se_callNM {C : Wd → XC → Prop} {S : XS} (h : SA C c1 t am) (h' : SA C c2 tr ar) (hS : MonoX S) : SE C (c1 + c2) (tCallK (spX CA 0 S) (gM m ix) E t tr) (fun env Q => am env fun ds => ar env fun es => S (gM m ix ds es) Q fun _ => False) := fun G g n O env σ H Qd Q hL F hm q =>
  h G g n O env σ H _ _ (by omega) F hm fun ds vs H1 h1 g1 ok1 r1 => h' G g _ O env σ H1 _ _ (by omega) (F.grow g1 ok1) h1 fun es zs H2 h2 g2 ok2 r2 =>
    have F2 := (F.grow g1 ok1).grow g2 ok2
    ⟨G.w, n + c1 + c2, O, _, trivial, by have := G.x.le; omega, ok2, F2.wl.zo, F2.wl.tr, gM_rp m ix (r1.mono (sh_grow F.wl.zo g2)) r2, hS _ _ _ _ _ (fun d hd v H' g' ok r => q d v H' hd (g1.trans (g2.trans g')) (ok_le (by omega) (ok_as ok)) r) (fun e he => he.elim) h2⟩
theorem se_callXM {C0 : Wd → Prop} {S : XS} {Er : XK} {X0 : Exn → Prop} (h : SA (exC C0 Er X0) c1 t am) (h' : SA (exC C0 Er X0) c2 tr ar) (hS : MonoX S) : SE (exC C0 Er X0) (c1 + c2) (tCallK (spX CA 0 S) (gM m ix) Er t tr) (fun env Q => am env fun ds => ar env fun es => S (gM m ix ds es) Q X0) := fun G g n O env σ H Qd Q hL F hm q =>
  h G g n O env σ H _ _ (by omega) F hm fun ds vs H1 h1 g1 ok1 r1 => h' G g _ O env σ H1 _ _ (by omega) (F.grow g1 ok1) h1 fun es zs H2 h2 g2 ok2 r2 => by
    have F2 := (F.grow g1 ok1).grow g2 ok2
    refine ⟨G.w, n + c1 + c2, O, _, trivial, by have := G.x.le; omega, ok2, F2.wl.zo, F2.wl.tr, gM_rp m ix (r1.mono (sh_grow F.wl.zo g2)) r2, hS _ _ _ _ _ (fun d hd v H' g' ok r => q d v H' hd (g1.trans (g2.trans g')) (by rw [← Nat.add_assoc]; exact ok_as ok) r) (fun e he cv dd H' g' ok a => ?_) h2⟩
    obtain ⟨_, eE, eX⟩ := g
    rw [← eE]
    exact go_out (by omega) (F2.wl.grow g' ok) a (by rw [eX]; exact he)
end
end PL

/-! XV: calls of a local that holds one of several defs. -/
namespace PL
open PySem PySem.Spec PyProof.Rows L2
structure HeldX (P : Program) (w : World) (K : PySem.W.Frag) (mg : Str → Option Value) (base : Heap) (k : Nat) (f : Addr) (sp : Sp) : Prop where
  ex : ∃ (fd : FuncData) (ps : List Str), FnOk P w K mg base (L2.CX P w) k f fd ps sp ∧ PySem.W.keepIn K (.ref f) = true ∧ Binds K fd ps []
theorem PrX.held {P : Program} {w : World} {K : PySem.W.Frag} {mg : Str → Option Value} {base : Heap} {x : Str} {k : Nat} {ps : List Str} {sp : Sp} (h : PrX P w K mg base x k ps sp) : HeldX P w K mg base k (er mg x) sp ∧ mg x = some (.ref (er mg x)) := by
  obtain ⟨f, fd, h1, h2, h3, h4, _⟩ := h.ex
  have e : er mg x = f := by unfold er; rw [h2]
  rw [e]
  exact ⟨⟨⟨fd, ps, h1, h3, h4⟩⟩, h2⟩
def tCallV (i : Nat) (L : List (Addr × Sp)) (E : XK) (t : TA) : TE := fun σ H Q => ∃ f sp, σ[i]? = some (some (.ref f)) ∧ (f, sp) ∈ L ∧ t σ H fun vs H1 => sp vs H1 Q E
section
variable {X : Cx} {k i : Nat} {E : XK} {x : Str} {p pos : Pos} {e : Expr} {es : List Expr} {t : TA} {L : List (Addr × Sp)}
theorem pe_callV (A : ∀ q ∈ L, HeldX X.prog X.w X.K X.mg X.base k q.1 q.2) (hr : Room k X.A) (tk : Takes X (fun cls d _ H => E cls d H)) (hN : X.N[i]? = some x) (hv : Vis X.env.scope x) (ha : PA X (e :: es) t)
    (hdb : (x == ("__debug__" : Str)) = false := by decide) (hcd : (x == ("__classdict__" : Str)) = false := by decide)
    (he : starEach (e :: es) X.env = (false, eval e X.env) :: starEach es X.env := by rfl) (hpl : (backTo pos (starEach es X.env)).any (·.1) = false := by rfl) : PE X (.Call (.Name x p) (e :: es) [] pos) (tCallV i L E t) := by
  refine ⟨fun pins s σ H Q I h => ?_⟩
  obtain ⟨f, sp, hs, hS, ht⟩ := h
  obtain ⟨fd, ps, F, hk, hb⟩ := (A (f, sp) hS).ex
  refine (pe_callL (i := i) (f := f) (sp := sp) (dvs := []) (E := E) F hr hN hv hk hb .nil (passes_call tk fun _ _ _ _ z => z) ha hdb hcd he hpl).run pins s σ H Q I ⟨hs, ?_⟩
  have e0 : (fun (vs : List V) (H1 : Hp) => sp (vs ++ []) H1 Q E) = fun vs H1 => sp vs H1 Q E := by
    funext vs H1
    rw [List.append_nil]
  show t σ H (fun vs H1 => sp (vs ++ []) H1 Q E)
  rw [e0]
  exact ht
end
/-- what is asked where slot i holds one of the defs of L -/
def mCallV (i : Nat) (L : List (Addr × XS)) (a : AM) (X0 : Exn → Prop) : EM := fun env Q => ∃ q ∈ L, env[i]? = some (.dat (.opq (.ref q.1))) ∧ a env fun ds => q.2 ds Q X0
section
variable {C0 : Wd → Prop} {ta : TA} {am : AM} {c i : Nat} {Er : XK} {X0 : Exn → Prop} {L : List (Addr × XS)}
theorem se_callV (h : SA (exC C0 Er X0) c ta am) (hS : ∀ q ∈ L, MonoX q.2) : SE (exC C0 Er X0) c (tCallV i (L.map fun q => (q.1, spX CA 0 q.2)) Er ta) (mCallV i L am X0) := fun G g n O env σ H Qd Q hL F ⟨q, hq, hi, hm⟩ k => by
  obtain ⟨v, hv, sl⟩ := F.sl i _ hi (by intro z; cases z)
  cases sl with
  | dat r =>
    cases r
    have h2 : tCall (spX CA 0 q.2) [] Er ta σ H Q := se_callXA h (hS q hq) G g n O env σ H Qd Q hL F hm k
    have e0 : (fun (vs : List V) (H1 : Hp) => spX CA 0 q.2 (vs ++ []) H1 Q Er) = fun vs H1 => spX CA 0 q.2 vs H1 Q Er := by
      funext vs H1
      rw [List.append_nil]
    have h3 : ta σ H fun vs H1 => spX CA 0 q.2 (vs ++ []) H1 Q Er := h2
    rw [e0] at h3
    exact ⟨q.1, _, hv, List.mem_map.mpr ⟨q, hq, rfl⟩, h3⟩
end
end PL

/-! XO: == of any data with a text. -/
namespace PL
open PySem PySem.Spec PySem.Calls PyProof.Rows L2 PySem.SeqAt
section
variable {A : Around} {s : Shared}
theorem str_eq_declines_obj (b : Str) (u : Tok) (l : Addr) (o : Obj) (es : Array DictEntry) (ep : Nat) (hc : o.cls = .type "dict") (hd : o.data = .dict es ep) :
    Meets (Builtin.«str.__eq__» ⟨[.str b u, .ref l], []⟩) (fun _ R s => s.heap.get? l = some o ∧ R (.ok (.ret .notImplemented)) s) := by
  obtain ⟨cls, dd, data, sl⟩ := o
  simp only at hc hd
  subst hc hd
  exact .of_wp fun prog w A R s h => by obtain ⟨hp, g, d, tk, os⟩ := s; obtain ⟨hl, h⟩ := h; wp_walk using wpAny_loadPart' hl, wpAny_load hl; exact ⟨_, rfl, h⟩
theorem rc_dict_str {l : Addr} {o : Obj} (b : Str) (u : Tok) (hl : s.heap.get? l = some o) (hc : o.cls = .type "dict") {es : Array DictEntry} {ep : Nat} (hd : o.data = .dict es ep) (hu : A.units < cLine) : RcAt A s (.ref l) (.str b u) false := fun prog w E Q h => by
  have ty : s.TypeIs (.ref l) "dict" := ⟨o, hl, hc⟩
  refine rc_eq_decline_or (k := false) ty (typeIs_str s b u) (by decide) F.sub_str_dict F.slot_dict_eq F.slot_str_eq_refl
    (fun Q' hq => wpAny_call_entry F.slot_dict_eq ty F.entry_dict_eq ?_ (F.args_dict_eq_2 _ _))
    (fun _ hq => call_meets F.slot_str_eq_refl (typeIs_str s b u) F.entry_str_eq (F.args_str_eq_2 _ _) (str_eq_declines_obj b u l o es ep hc hd) ⟨hl, hq⟩)
    (fun _ hq => wpAny_of_eq (rfl : isSame (.ref l) (.str b u) = pure false) hq) (.inr hu) h
  show wpAny _ _ (Builtin.Dict.dictSlotArgs "__eq__" ⟨[.ref l, .str b u], []⟩ >>= _) _ _ s
  refine wpAny_bind ?_
  unfold Builtin.Dict.dictSlotArgs
  refine wpAny_bind (wpAny_notOrdered_dict ty ?_)
  show wpAny _ _ (pure (Value.ref l, Value.str b u)) _ _ s
  refine wpAny_pure ?_
  refine wpAny_bind (wpAny_isInstance (T := "str") (typeIs_str s b u) F.sub_str_dict ?_)
  simp only [Bool.not_false, if_true]
  exact wpAny_bind (wpAny_rule (wpAny_of_eq (rfl : ret Value.notImplemented = pure _) ⟨_, rfl, hq⟩))
end
/-- x == y, y a text, x whatever -/
def rEqT (K : PySem.W.Frag) : R2 := fun x y H Q => ∃ t b, y = .str t ∧ Q (.bl b) H ∧ ((scal x y = true ∧ b = decide (x = .str t)) ∨ b = false ∧ ∃ a, x = .ref a ∧ ((∃ xs, SqL K H a xs) ∨ (∃ xs, SqT K H a xs) ∨ ∃ ks, Rd H a (.dK ks)))
theorem op_eqT {X : Cx} (hu : X.A.units + 64 < cLine) : OpR X (compareOp .Eq) (rEqT X.K) := by
  intro pins s σ H x y v u Q I rx ry h
  obtain ⟨t, b, rfl, q, h⟩ := h
  rcases h with ⟨hs, rfl⟩ | ⟨rfl, a, rfl, h⟩
  · exact op_eq pins s σ H x (.str t) v u Q I rx ry ⟨hs, q⟩
  · obtain rfl : v = Value.ref a := rx
    obtain ⟨tk, rfl⟩ : ∃ tk, u = Value.str t tk := ry
    have hu' : X.A.units < cLine := by omega
    rcases h with ⟨xs, h⟩ | ⟨xs, h⟩ | ⟨ks, h⟩
    · obtain ⟨its, _, hl, _⟩ := I.list h
      exact RcAt.list_str t tk hl.isList hu' _ _ _ _ ⟨.bl _, H, I, rfl, q⟩
    · obtain ⟨its, _, hl, _⟩ := I.tuple h
      exact RcAt.tuple_str t tk (show s.heap.IsTuple a its.toArray from hl) hu' _ _ _ _ ⟨.bl _, H, I, rfl, q⟩
    · obtain ⟨_, ya, va, ra, o, es, ep, ho, hc, hd, _⟩ := h.ok I.hok
      exact rc_dict_str t tk ho hc.1 hd hu' _ _ _ _ ⟨.bl _, H, I, rfl, q⟩
def D.eqs (t : Str) : D → Bool
  | .str s => decide (s = t)
  | _ => false
/-- what can be held against a text -/
def kEqT (p : Bool → Bool) : D → D → (D → Prop) → Prop := fun x y Q => ∃ t, y = .str t ∧ x.ty ≠ none ∧ Q (.bl (p (x.eqs t)))
theorem k2_eqT {C : Wd → XC → Prop} {K : PySem.W.Frag} : K2 C (rEqT K) (kEqT id) := fun G _ n O H x y d e Qd Q W rx ry ⟨t, ey, ht, hq⟩ q => by
  subst ey
  have ys : y = .str t := by
    cases ry with
    | dat r => cases r; rfl
  have fin := q _ _ H hq (Grow.refl _ _) W.ok (.bl _)
  refine ⟨t, d.eqs t, ys, fin, ?_⟩
  cases rx with
  | own e1 z r => exact .inr ⟨rfl, _, rfl, .inl ⟨_, sqL e1⟩⟩
  | owd e1 z r => exact .inr ⟨rfl, _, rfl, .inr (.inr ⟨_, .inl e1⟩)⟩
  | dat r =>
    cases r with
    | non => exact .inl ⟨by rw [ys]; rfl, (decide_eq_false (fun z => nomatch z)).symm⟩
    | bl b => exact .inl ⟨by rw [ys]; rfl, (decide_eq_false (fun z => nomatch z)).symm⟩
    | int b => exact .inl ⟨by rw [ys]; rfl, (decide_eq_false (fun z => nomatch z)).symm⟩
    | str b => exact .inl ⟨by rw [ys]; rfl, decide_eq_decide.mpr ⟨fun z => by cases z; rfl, fun z => by cases z; rfl⟩⟩
    | tup e r => exact .inr ⟨rfl, _, rfl, .inr (.inl ⟨_, sqT (rk_tup e.1)⟩)⟩
    | lst e r => exact .inr ⟨rfl, _, rfl, .inl ⟨_, sqL (rk_lst e.1)⟩⟩
    | dic e r => exact .inr ⟨rfl, _, rfl, .inr (.inr ⟨_, rk_rd e.1⟩)⟩
    | ftp e dn r =>
      have r' : Rp (Sh O H) _ (.tup _) := Rp.wk (.ftp e dn r)
      cases r' with
      | tup e2 r2 => exact .inr ⟨rfl, _, rfl, .inr (.inl ⟨_, sqT (rk_tup e2.1)⟩)⟩
    | opq v => exact absurd rfl ht
    | exc0 e => exact absurd rfl ht
    | exc1 e dd l r => exact absurd rfl ht
    | lam e u => exact absurd rfl ht
    | ins e l r => exact absurd rfl ht
/-- x == (), x a tuple -/
def rEqU (K : PySem.W.Frag) : R2 := fun x y H Q => ∃ a b xs, x = .ref a ∧ y = .ref b ∧ SqT K H a xs ∧ SqT K H b [] ∧ Q (.bl xs.isEmpty) H
theorem op_eqU {X : Cx} (hu : X.A.units + 64 < cLine) : OpR X (compareOp .Eq) (rEqU X.K) := by
  intro pins s σ H x y v u Q I rx ry h
  obtain ⟨a, b, xs, rfl, rfl, h1, h2, q⟩ := h
  obtain rfl : v = Value.ref a := rx
  obtain rfl : u = Value.ref b := ry
  obtain ⟨its, rv, hl, _⟩ := I.tuple h1
  obtain ⟨its2, rv2, hl2, _⟩ := I.tuple h2
  have e2 : its2 = [] := by cases rv2; rfl
  subst e2
  refine eq_tupleAt (e := fun _ => true) (show s.heap.IsTuple a its.toArray from hl) (show s.heap.IsTuple b #[] from hl2) (by omega) (fun j _ h => absurd h (Nat.not_lt_zero j)) ⟨.bl _, H, I, rfl, ?_⟩
  have hx : xs.length = its.length := rv.length
  have e3 : ((List.range (min its.toArray.size (#[] : Array Value).size)).all (fun _ => true) && its.toArray.size == (#[] : Array Value).size) = xs.isEmpty := by
    cases xs with
    | nil =>
      cases its with
      | nil => rfl
      | cons i r => cases hx
    | cons x r =>
      cases its with
      | nil => cases hx
      | cons i r => simp
  rw [e3]
  exact q
def kEqU (p : Bool → Bool) : D → D → (D → Prop) → Prop := fun x y Q => ∃ l, x = .tup l ∧ y = .tup [] ∧ Q (.bl (p l.isEmpty))
theorem k2_eqU {C : Wd → XC → Prop} {K : PySem.W.Frag} : K2 C (rEqU K) (kEqU id) := fun G _ n O H x y d e Qd Q W rx ry ⟨l, e1, e2, hq⟩ q => by
  subst e1
  subst e2
  have fin := q _ _ H hq (Grow.refl _ _) W.ok (.bl _)
  cases rx with
  | dat r =>
    cases r with
    | tup ea ra =>
      cases ry with
      | dat r2 =>
        cases r2 with
        | tup eb rb =>
          cases rb
          refine ⟨_, _, _, rfl, rfl, sqT (rk_tup ea.1), sqT (rk_tup eb.1), ?_⟩
          cases ra with
          | nil => exact fin
          | cons a r => exact fin
end PL

/-! XD: lambdas kept as values. -/
namespace PL
open PySem PySem.Spec PyProof.Rows L2 LamX
/-- the lambda's object at f, its code object at c -/
def LamP (q : Str) (pa : Arguments) (body : Expr) (sc : Scope) (clo : List (Str × Addr)) (f c : Addr) (h : Heap) : Prop := ∃ pm ctv : Value, h.get? f = some (PySem.W.kla_obj "<lambda>" q pa body sc clo pm c ctv)
/-- a code object at c of the name q -/
def CodP (q : Str) (c : Addr) (h : Heap) : Prop := ∃ (oc : Obj) (vs : Array Value) (t : Tok), h.get? c = some oc ∧ oc.data = .fields vs ∧ vs[1]? = some (.str q t)
theorem codP_eq (c : Addr) (q : Str) : CodeO c q = .ext (CodP q c) := rfl
section
variable {X : Cx} {pins : List (Addr × Obj)} {σ : L2.St} {H : Hp} {s : Shared}
theorem lam_track {T : List (Addr × Str)} {c P : Addr} {pa : Arguments} {body : Expr} {sc : Scope} {pos : Pos} {E Q : Value → Shared → Prop} (I : Inv X pins σ H s) (TB : TabB X.base X.mg c P) (hcode : X.env.code = .ref c) (hm : (P, X.env.qual ++ "<lambda>") ∈ T)
    (hu : ∀ p ∈ T, p.1 = P → p.2 = X.env.qual ++ "<lambda>") (hT : Tabs T H) (hdef : defaultsOf pa X.env = ([], [])) (hfree : ∀ y ∈ sc.names, y.2 = .free → ∃ c, X.env.cells.lookup y.1 = some c)
    (h : ∀ (f c' : Addr) (H1 : Hp) (s' : Shared), ExtP P H H1 → Tabs T H1 → H1 f = none → H1 c' = some (CodeO c' (X.env.qual ++ "<lambda>")) → Inv X pins σ (upd H1 f (.ext (LamP (X.env.qual ++ "<lambda>") pa body sc (cloFrom X.env.cells sc.names []) f c'))) s' → Q (.ref f) s') : wpAny (model X.prog X.w) X.A (eval (.Lambda pa body sc pos) X.env) Q E s := by
  obtain ⟨ps, hP, ht, ha⟩ := hT _ hm
  apply PySem.W.kla_eval hdef
  have hP2 : s.heap.get? P = some { cls := .none, data := .fields ps } := I.hok P _ hP
  have nofr : ∀ {f}, s.heap.objs.size ≤ f → f ∉ frs X.stack := fun {f} hf z => (List.mem_cons.mp (I.stkSub _ z)).elim (fun e => Nat.lt_irrefl _ (Nat.lt_of_lt_of_le (e ▸ I.lt) hf)) (I.nofs hf)
  generalize hw : codeAmong pos ps.toList = found
  cases found with
  | none =>
    refine PySem.W.kla_makeFunction (mg := X.mg) (c := c) (P := P) (ps := ps) (closure_ok hfree) I.ok.glob (I.mod.glob.keeps I.bk) hcode (TB.code.keeps I.bk) hP2 ht hw TB.gP (TB.bm.keeps I.bk) fun c' ctv h' tk hx hge hlt hrec htb => ?_
    obtain ⟨_, oc, vs, t, e2, hoc, hd, hv⟩ := hrec
    cases e2
    have hsz := Nat.le_trans hge (Nat.le_of_lt hlt)
    have nC : H c' = none := I.hok.fresh hge
    have nPC := ne_of_none hP nC
    generalize hmore : ps ++ #[rawInt pos.line, rawInt pos.col, .ref c'] = ps2 at htb
    have eL : ps2.toList = ps.toList ++ [rawInt pos.line, rawInt pos.col, .ref c'] := by rw [← hmore]; simp
    generalize hob : PySem.W.kla_obj "<lambda>" (X.env.qual ++ "<lambda>") pa body sc (cloFrom X.env.cells sc.names []) ((X.mg "__name__").getD .none) c' ctv = ob
    have I0 := inv_table (t' := tk) (h' := h') I hP (fun b o hb e => hx b o hb e) (by rw [hmore]; exact htb) hge ⟨oc, vs, t, hoc, hd, hv⟩
    rw [hmore] at I0
    have hE : ExtP P H (upd (upd H P (.tbl ps2)) c' (CodeO c' (X.env.qual ++ "<lambda>"))) := fun b o e n => by rw [upd_ne (ne_of_none e nC), upd_ne n]; exact e
    have nco : ∀ {b q}, H b = some (CodeO b q) → b ≠ P := fun {b q} e z => by
      rw [z, hP] at e
      exact codeO_ne ps (Option.some.inj e).symm
    have hob2 : (h'.push ob).get? h'.objs.size = some ob := Heap.get?_push_size _ (by rw [← hob]; rfl)
    have I1 := I0.laid (t' := tk) (h' := h'.push ob) (o := .ext (LamP (X.env.qual ++ "<lambda>") pa body sc (cloFrom X.env.cells sc.names []) h'.objs.size c')) (fun b u e => Heap.get?_push_of_some _ e) (Nat.le_refl _) ⟨⟨_, ctv, by rw [hob2, ← hob]⟩, ⟨_, hob2⟩, fun h1 h2 ⟨pm, cv, e⟩ k => ⟨pm, cv, k _ e⟩⟩
    refine h h'.objs.size c' _ _ hE (fun p hp => ?_) ?_ upd_same I1
    · by_cases hb : p.1 = P
      · refine ⟨ps2, by rw [hb, upd_ne nPC, upd_same], by rw [eL]; exact PySem.TriplesOk_snoc _ _ _ _ ht, fun p' cv hcv => ?_⟩
        rw [hu p hp hb]
        rcases among_app _ ht (eL ▸ hcv) with z | z
        · obtain ⟨c0, e1, e2⟩ := ha p' cv z
          exact ⟨c0, e1, hE _ _ e2 (nco e2)⟩
        · exact ⟨c', z, upd_same⟩
      · obtain ⟨qs, a1, a2, a3⟩ := hT p hp
        exact ⟨qs, hE _ _ a1 hb, a2, fun p' cv hcv => let ⟨c0, e1, e2⟩ := a3 p' cv hcv; ⟨c0, e1, hE _ _ e2 (nco e2)⟩⟩
    · rw [upd_ne (Nat.ne_of_gt hlt), upd_ne (Nat.ne_of_gt (Nat.lt_of_lt_of_le (Heap.lt_size hP2) hsz))]
      exact I.hok.fresh hsz
  | some cv =>
    obtain ⟨c', rfl, hco⟩ := ha pos cv hw
    refine PySem.W.kla_makeFunctionHit (mg := X.mg) (c := c) (P := P) (ps := ps) (closure_ok hfree) I.ok.glob (I.mod.glob.keeps I.bk) hcode (TB.code.keeps I.bk) hP2 ht hw (TB.bm.keeps I.bk) fun ctv h' tk hx hsz => ?_
    have hob2 : (h'.push (PySem.W.kla_obj "<lambda>" (X.env.qual ++ "<lambda>") pa body sc (cloFrom X.env.cells sc.names []) ((X.mg "__name__").getD .none) c' ctv)).get? h'.objs.size = some (PySem.W.kla_obj "<lambda>" (X.env.qual ++ "<lambda>") pa body sc (cloFrom X.env.cells sc.names []) ((X.mg "__name__").getD .none) c' ctv) := Heap.get?_push_size _ rfl
    have I1 := I.laid (t' := tk) (h' := h'.push (PySem.W.kla_obj "<lambda>" (X.env.qual ++ "<lambda>") pa body sc (cloFrom X.env.cells sc.names []) ((X.mg "__name__").getD .none) c' ctv)) (o := .ext (LamP (X.env.qual ++ "<lambda>") pa body sc (cloFrom X.env.cells sc.names []) h'.objs.size c')) (fun b u e => Heap.get?_push_of_some _ (hx b u e)) hsz ⟨⟨_, ctv, hob2⟩, ⟨_, hob2⟩, fun h1 h2 ⟨pm, cv, e⟩ k => ⟨pm, cv, k _ e⟩⟩
    exact h h'.objs.size c' H _ (fun _ _ e _ => e) hT (I.hok.fresh hsz) hco I1

/-- lambda: .. -/
def tLamV (P : Addr) (T : List (Addr × Str)) (F : Addr → Addr → Heap → Prop) (q : Str) : TE := fun σ H Q => Tabs T H ∧ ∀ (f c : Addr) (H1 : Hp), ExtP P H H1 → Tabs T H1 → H1 f = none → H1 c = some (CodeO c q) → Q (.ref f) (upd H1 f (.ext (F f c)))
theorem pe_lamV {T : List (Addr × Str)} {c P : Addr} {pa : Arguments} {sc : Scope} {body : Expr} {lp : Pos} (TB : TabB X.base X.mg c P) (hcode : X.env.code = .ref c)
    (hmT : (P, X.env.qual ++ "<lambda>") ∈ T) (hu : ∀ p ∈ T, p.1 = P → p.2 = X.env.qual ++ "<lambda>") (L : LamS X.env.scope sc) (hdef : defaultsOf pa X.env = ([], [])) :
    PE X (.Lambda pa body sc lp) (tLamV P T (LamP (X.env.qual ++ "<lambda>") pa body sc (cloFrom X.env.cells sc.names [])) (X.env.qual ++ "<lambda>")) := by
  constructor
  intro pins s σ H Q I ⟨hT, h⟩
  exact lam_track I TB hcode hmT hu hT hdef (L.has I.ok) fun f c' H1 s' eN T1 hfn hco I1 => ⟨.ref f, _, I1, rfl, h f c' H1 eN T1 hfn hco⟩
end
theorem se_lamV {C : Wd → XC → Prop} {P : Addr} {T : List (Addr × Str)} {F : Addr → Addr → Heap → Prop} {q : Str} (hW : ∀ w x, C w x → TbW P T w) : SE C 0 (tLamV P T F q) (mC (.lam F (CodP q))) := fun G g n O env σ H Qd Q hL Fr hm k => by
  have B := hW _ _ g
  refine ⟨B.t n H Fr.wl.ok, fun f c H1 ex T1 hf hc => ?_⟩
  have gr : Grow G.w H H1 := fun b o e z => ex b o e fun y => z (y ▸ B.z)
  have ok1 := B.x n H H1 Fr.wl.ok ex T1
  have W1 := Fr.wl.grow gr ok1
  have ncf : c ≠ f := fun z => by rw [z, hf] at hc; cases hc
  exact k _ _ _ hm (gr.trans (Grow.new _ hf)) (Wd.okNew hf ok1) (.lam ⟨.inl upd_same, W1.free hf⟩ ⟨.inl (by rw [upd_ne ncf]; exact hc), W1.nox hc⟩)
end PL

/-! XD2: f(x), x a lambda that was kept, f the def that catches. -/
namespace PL
open PySem PySem.Spec PyProof.Rows L2 LamX
/-- what is known of a lambda of this def: its body's reading -/
structure LamI (X : Cx) (k : Nat) (F : Addr → Addr → Heap → Prop) (t : XK → TE) : Prop where
  ex : ∃ (pa : Arguments) (body : Expr) (sc : Scope), F = LamP (X.env.qual ++ "<lambda>") pa body sc (cloFrom X.env.cells sc.names []) ∧ LamS X.env.scope sc ∧
    (∀ (q : Str) (cl : List (Str × Addr)) (pm cv ctv : Value), bindArgs (PySem.W.kla_fn "<lambda>" q pa body sc cl pm cv ctv) ⟨[], []⟩ = pure []) ∧
    (∀ (A : Around) (outer : List Env) (s : Shared) (H : Hp) (E : XK) (f c' : Addr), Room k (A.deeper (lamEnv X sc s.heap.objs.size f c')) → PE (lamCx X A outer s H E sc f c') body (t E))
section
variable {X : Cx} {pins : List (Addr × Obj)} {σ : L2.St} {H HZ : Hp} {s s1 : Shared}
/-- x(), in the def that got the lambda, told of as lasting -/
theorem pe_actV {CXg : CXT} {Eg : XK} {Ng : List Str} {qg : Str} {sg : Scope} {g f c' : Addr} {cdg : Value} {params : Arguments} {body : Expr} {scope : Scope} {k i : Nat} {a : Str} {pn : List (Addr × Obj)} {xe : Value → Shared → Prop} {W : WX} {E : XK} {tb : TE} {p1 p2 : Pos}
    (I : Inv X pins σ H s) (L : LamS X.env.scope scope) (hbind : ∀ pm ctv : Value, bindArgs (PySem.W.kla_fn "<lambda>" (X.env.qual ++ "<lambda>") params body scope (cloFrom X.env.cells scope.names []) pm (.ref c') ctv) ⟨[], []⟩ = pure [])
    (tk : Takes ((cxOf CXg X.prog X.w X.K X.mg X.base Ng qg sg g cdg X.A X.stack s H Eg).tr pn xe) W) (hW : ∀ cls d σ' H', E cls d H' → W cls d σ' H') (hr : Room (k + 1) (X.A.deeper (envOfC qg sg s.heap.objs.size g cdg)))
    (hbody : ∀ (A : Around) (outer : List Env) (s : Shared) (H : Hp), Room k (A.deeper (lamEnv X scope s.heap.objs.size f c')) → PE (lamCx X A outer s H E scope f c') body tb)
    (hN : Ng[i]? = some a) (hv : Vis sg a) (hd : (a == ("__debug__" : Str)) = false := by decide) (hcd : (a == ("__classdict__" : Str)) = false := by decide) :
    PE ((cxOf CXg X.prog X.w X.K X.mg X.base Ng qg sg g cdg X.A X.stack s H Eg).tr pn xe) (.Call (.Name a p1) [] [] p2)
      (fun σZ HZ Q => σZ[i]? = some (some (.ref f)) ∧ HZ c' = some (CodeO c' (X.env.qual ++ "<lambda>")) ∧ (HZ f = some (.ext (LamP (X.env.qual ++ "<lambda>") params body scope (cloFrom X.env.cells scope.names []) f c')) ∧ tb σ HZ Q)) := by
  refine ⟨fun pinsZ sZ σZ HZ Q IZ ⟨hs, hc, hf, ht⟩ => ?_⟩
  refine wpAny_Call_Name_kw (thn ((pe_var (pos := p1) (i := i) hN hv hd hcd).run pinsZ sZ σZ HZ (fun v H1 => v = .ref f ∧ H1 = HZ) IZ ⟨.ref f, hs, rfl, rfl⟩) fun u s1 ⟨v, H1, I1, r1, ev, eH⟩ => ?_)
  subst ev
  rw [eH] at I1
  obtain rfl : u = Value.ref f := r1
  obtain ⟨⟨pm, ctv, of1⟩, _, _⟩ := I1.hok f _ hf
  refine PySem.W.callWith_F0 ⟨_, _, _, _, of1⟩ ?_
  have un : Un (frs X.stack) [] H HZ s.heap s1.heap := I1.base
  obtain ⟨⟨oc, vs, t, hoc, hdc, hvc⟩, _, _⟩ := I1.hok c' _ hc
  have rc : codeAny (model X.prog X.w) (X.A.deeper (envOfC qg sg s.heap.objs.size g cdg)) (.call (.ref f) ⟨[], []⟩) (CR (L2.CX X.prog X.w) (envOfC qg sg s.heap.objs.size g cdg :: X.stack) X.prog X.w HZ s1 Q E) s1 := by
    refine PySem.W.kla_callFunE hr.depth of1 rfl L.co L.gen rfl ⟨c', oc, vs, t, rfl, hoc, hdc, hvc⟩ ?_
    rw [hbind]
    refine wpAny_pure (wpAny_newFunctionEnv (fun y hy => (L.own y hy).2) (fun y hy => absurd hy (by simp)) (fun h₁ hns hsb => ⟨I1.nolimit.fresh _ hsb, ?_⟩) L.kind)
    have kp : ∀ b o, s1.heap.get? b = some o → h₁.get? b = some o := fun b o e => hsb.extBut b o (Nat.ne_of_lt (Heap.lt_size e)) (Heap.get?_push_of_some _ e)
    have J : Inv (lamCx X (X.A.deeper (envOfC qg sg s.heap.objs.size g cdg)) (envOfC qg sg s.heap.objs.size g cdg :: X.stack) s1 HZ E scope f c') [] σ HZ { s1 with heap := h₁, toks := s1.toks + ([] : List (Str × Value)).length } :=
      lam_start2 I L I1.env0 hr.hd un hns kp
    refine PySem.W.kla_codeExpr (wpAny_mono ((hbody _ _ s1 HZ (hr.deeper _)).run [] _ _ HZ Q J ht) (fun v s' ⟨w', H', J', rv, q⟩ => ⟨w', H', J'.os, J'.bare, J'.base, J'.hok, rv, q⟩) fun e s' hq => hq)
  have hx : Passes (L2.CX X.prog X.w) ((cxOf CXg X.prog X.w X.K X.mg X.base Ng qg sg g cdg X.A X.stack s H Eg).tr pn xe) E := passes_call tk hW
  refine wpAny_call (codeAny_mono rc fun r s' hq => ?_)
  cases r with
  | error e => exact hx pinsZ σZ HZ s1 e s' I1 hq
  | ok fl =>
    cases fl with
    | ret u => exact I1.after hq
    | next => exact False.elim hq
    | brk => exact False.elim hq
    | cont => exact False.elim hq
/-- f(e), e one of some lambdas of this def -/
def tLamC (q : Str) (L : List ((Addr → Addr → Heap → Prop) × (XK → TE))) (TT : (XK → Hp → VK → Prop) → Hp → VK → Prop) (ta : TA) : TE := fun σ H Q => ta σ H fun vs H1 => ∃ (f c' : Addr), ∃ p ∈ L, vs = [.ref f] ∧ H1 f = some (.ext (p.1 f c')) ∧ H1 c' = some (CodeO c' q) ∧ TT (fun E H' Q' => H' f = some (.ext (p.1 f c')) ∧ p.2 E σ H' Q') H1 Q
theorem pe_lamC {L : List ((Addr → Addr → Heap → Prop) × (XK → TE))} {TT : (XK → Hp → VK → Prop) → Hp → VK → Prop} {x a : Str} {g : Addr} {k : Nat} {pg : Arguments} {bg : List Stmt} {sg : Scope} {dV kV doc pm cdv ct oc : Value} {an od : Option Addr} {osl : Array (Option Value)} {Ng : List Str} {e : Expr} {ta : TA} {p pos : Pos}
    (hg : Gl X x) (hm : X.mg x = some (.ref g)) (hk : PySem.W.keepIn X.K (.ref g) = true) (lk : X.K.lookup g = some ⟨oc, od, .func (PySem.W.fnOf x x pg bg sg dV kV doc pm an cdv ct), osl⟩) (hcg : PySem.W.codeIn X.K cdv x = true)
    (hb : L2.Binds X.K (PySem.W.fnOf x x pg bg sg dV kV doc pm an cdv ct) [a] []) (Sg : FnScope Ng [a] sg) (hNg : Ng[0]? = some a) (hva : Vis sg a) (hG : GivesTo X Ng x sg g cdv bg a (X.env.qual ++ "<lambda>") TT)
    (hr : Room (k + 2) X.A) (hL : ∀ q ∈ L, LamI X k q.1 q.2) (ha : PA X [e] ta) (he : starEach [e] X.env = (false, eval e X.env) :: starEach [] X.env := by rfl) (hpl : (backTo pos (starEach [] X.env)).any (·.1) = false := by rfl)
    (hdb : (x == ("__debug__" : Str)) = false := by decide) (hd : (a == ("__debug__" : Str)) = false := by decide) (hcd : (a == ("__classdict__" : Str)) = false := by decide) : PE X (.Call (.Name x p) [e] [] pos) (tLamC (X.env.qual ++ "<lambda>") L TT ta) := by
  constructor
  intro pins s σ H Q I h
  apply wpAny_Call_Name_kw
  refine ld_glob I hg hm ?_ hdb
  refine PySem.W.callWith_K (h₀ := X.base) I.ok.mod.kin hk (thn (ha.run pos pins s σ H _ I h) fun us s1 ⟨vs, H1, I1, r, f, c', q, hq, ev, hf, hco, hTT⟩ => ⟨I1.kIn, ?_⟩) he hpl
  subst ev
  obtain rfl : us = [Value.ref f] := by
    cases r with | cons a r => cases r; cases a; rfl
  obtain ⟨pa, body, sc, eF, L1, hbind, hbody⟩ := (hL q hq).ex
  have run : codeAny (model X.prog X.w) X.A (.call (.ref g) ⟨[.ref f], []⟩) (CR C8.CX0 X.stack X.prog X.w H1 s1 Q C8.E0) s1 := run_ofS (N := Ng) (ps := [a]) (us := [.ref f]) (vs := [.ref f]) lk hcg Sg hr I1.env0 (hb s1 [.ref f] I1.kIn rfl) (.cons rfl .nil) rfl fun hr2 => by
    obtain ⟨t2, ht2, hq2⟩ := hG f c' s1 H1 Q (fun E H' Q' => H' f = some (.ext (q.1 f c')) ∧ q.2 E σ H' Q') (fun W pn xe E p1 p2 tk hW => by
      rw [eF]
      exact pe_actV (i := 0) I1 L1 (fun _ _ => hbind _ _ _ _ _) tk hW hr2 (fun A outer s H r3 => hbody A outer s H E f c' r3) hNg hva hd hcd) hco hTT
    exact ⟨t2, ht2.nox, hq2⟩
  refine wpAny_call (codeAny_mono run fun r s2 hq => ?_)
  match r, hq with
  | .error e, hq => exact (show False from hq).elim
  | .ok (.ret u), hq => exact I1.after hq
  | .ok .next, hq => exact hq.elim
  | .ok .brk, hq => exact hq.elim
  | .ok .cont, hq => exact hq.elim
end
/-- one of some lambdas: its mark, its run, what it asks -/
abbrev LamT := (Addr → Addr → Heap → Prop) × (XK → TE) × ((Exn → Prop) → EM)
/-- _law_caught(x), x a lambda that was kept -/
def mCaughtV (K : PySem.W.Frag) (CE : Addr) (q : Str) (L : List LamT) (m : EM) : EM := fun env Q => m env fun d => ∃ p ∈ L, d = .lam p.1 (CodP q) ∧ p.2.2 (fun e => PySem.W.exmOne K e.1 (.ref CE) = some true ∧ Q (.exc e.1 e.2.1 e.2.2)) (unOwn env) fun _ => Q .non
section
variable {C : Wd → XC → Prop} {C0 : Wd → Prop} {K : PySem.W.Frag} {te : TE} {m : EM} {c : Nat} {q : Str} {L : List LamT}
theorem se_caughtV {CE : Addr} (h : SE C c te m) (hW : ∀ w x, C w x → C0 w) (ht : ∀ p ∈ L, ∀ E X0, SE (exC C0 E X0) 0 (p.2.1 E) (p.2.2 X0)) : SE C c (tLamC q (L.map fun p => (p.1, p.2.1)) (TCaught K CE) (tCons te tNil)) (mCaughtV K CE q L m) := fun G g n O env σ H Qd Q hL F hm k =>
  show te σ H _ from h G g n O env σ H _ _ hL F hm fun d v H1 ⟨p, hp, ed, hq⟩ gr ok1 r => by
    subst ed
    have F1 := F.grow gr ok1
    have c0 := hW _ _ g
    cases r with
    | lam e1 e2 =>
      have hf := rk_ext e1.1
      have hc := rk_ext e2.1
      refine ⟨_, _, (p.1, p.2.1), List.mem_map.mpr ⟨p, hp, rfl⟩, rfl, hf, hc, hf, ?_⟩
      refine ht p hp _ (fun e => PySem.W.exmOne K e.1 (.ref CE) = some true ∧ Qd (.exc e.1 e.2.1 e.2.2)) (⟨G.w, H1, O, F1.wl.tr, ⟨n + c, Nat.le_trans hL G.x.le, H1, fun c d H' => PySem.W.exmOne K c (.ref CE) = some true ∧ ∀ a, H' a = none → Q (.ref a) (upd H' a (ExcK c d a)), fun e => PySem.W.exmOne K e.1 (.ref CE) = some true ∧ Qd (.exc e.1 e.2.1 e.2.2)⟩, Grow.refl _ _, fun n' H' cv d e hn ok' g' a z => ?_⟩ : Cfg) ⟨c0, rfl, rfl⟩ (n + c) O (unOwn env) σ H1 (fun _ => Qd .non) (fun _ H' => Q .non H') (Nat.le_refl _) (F1.unOwn ⟨ok1, F1.wl.zo, fun _ y => y, F1.wl.tr, Grow.refl _ _⟩ (LeA.refl _)) hq (fun d v H' hd g' ok' r => k .non .non H' hd (gr.trans g') ok' .non)
      refine ⟨by rw [a.1]; exact z.1, fun ad hn2 => ?_⟩
      have ok2 := G.w.up _ _ _ hn ok'
      have W2 := F1.wl.grow g' ok2
      have g2 : Grow G.w H' (upd H' ad (ExcK cv d ad)) := Grow.new _ hn2
      exact k _ _ _ z.2 (gr.trans (g'.trans g2)) (Wd.okNew hn2 ok2) (exn_rp a (sh_grow W2.zo g2) ⟨.inl upd_same, W2.free hn2⟩)
end
end PL

/-! XD3: kept lambdas called from a comprehension's block. -/
namespace PL
open PySem PySem.Spec PyProof.Rows L2 LamX
/-- a block's turns tell what the def around knows -/
def Bk (X Y : Cx) (σ : L2.St) : Prop := ∀ pins' σ' H' s', Inv Y pins' σ' H' s' → ∃ pins, Inv X pins σ H' s'
/-- on the way of a turn: but for the block's own names all is as before -/
def tGd (vs : List Nat) (σ0 : L2.St) (t : TT) : TT := fun σ H Q => L2.wipe σ vs = L2.wipe σ0 vs → t σ H Q
def tGdE (vs : List Nat) (σ0 : L2.St) (t : TE) : TE := fun σ H Q => L2.wipe σ vs = L2.wipe σ0 vs → t σ H Q
section
variable {X : Cx}
theorem bk_of {pins : List (Addr × Obj)} {σ : L2.St} {H3 : Hp} {s3 : Shared} {scope : Scope} {ce : Env} {fp : List Addr} (I3 : Inv X pins σ H3 s3) (f3 : ∀ b ∈ fp, FpOk X pins H3 b) : Bk X (X.blk s3 H3 scope ce fp) σ := fun _ _ _ _ I' => ⟨pins, I3.call' (ch := fp) I'.os I'.base I'.hok I'.bare fun b hb =>
  let ⟨_, b1, b2, b3, b4, b5⟩ := f3 b hb
  ⟨b3, b1, b4, b5⟩⟩
abbrev tLcB (wi : TI) (g : TG) (tt : L2.St → TT) (te : TE) (vs : List Nat) : TE := fun σ H Q => tLc wi g (tGd vs σ (tt σ)) te vs σ H Q
theorem pe_lcB {elt tg iter : Expr} {ifs : List Expr} {scope : Scope} {own : List (Str × Nat)} {pos : Pos} {wi : TI} {g : TG} {tt : L2.St → TT} {te : TE} (hc : X.calm = true) (hN : X.N.Nodup) (hi : PI X tg iter wi) (ok : BlkOk X.N X.env.scope scope own)
    (hg : ∀ (s : Shared) (H : Hp) (C : Addr) (cl : List (Str × Addr)) (fp : List Addr), PG (X.blk s H scope (compEnvC scope cl C X.env) fp) tg g)
    (ht : ∀ (σ0 : L2.St) (s : Shared) (H : Hp) (C : Addr) (cl : List (Str × Addr)) (fp : List Addr), Bk X (X.blk s H scope (compEnvC scope cl C X.env) fp) σ0 → PTs (X.blk s H scope (compEnvC scope cl C X.env) fp) ifs (tt σ0))
    (he : ∀ (s : Shared) (H : Hp) (C : Addr) (cl : List (Str × Addr)) (fp : List Addr), PE (X.blk s H scope (compEnvC scope cl C X.env) fp) elt te) (hs : ∀ x, foldedSetIterable iter X.env x = pure x := by intro _; rfl) :
    PE X (.ListComp elt [⟨tg, iter, ifs, 0⟩] scope pos) (tLcB wi g tt te (own.map (·.2))) := by
  refine ⟨fun pins s σ H Q I h => ?_⟩
  generalize hvs : own.map (·.2) = vs at h
  rw [eval_ListComp]
  have cells : ∀ y ∈ scope.names, y.2 = .free → ∃ c, X.env.cells.lookup y.1 = some c := fun y hy e => (ok.free y hy e).elim (fun k => I.ok.has _ (.inl k)) fun k => I.ok.has _ (.inr k)
  refine wpAny_comprehension_free rfl hs (closure_ok cells) ok.kind (fun y hy e => by rw [ok.uniq y hy, e]) (thn (hi.run pins s σ H _ I h) fun _ _ hx => thn hx fun _ s2 ⟨it, fp, tn, J, H2, e, I2, T, st2, f2, q⟩ => ?_)
  subst e
  refine wpAny_newObj_type (newEnv_comp ?_) (Nat.zero_le _)
  -- the new list at D
  obtain ⟨D, hD⟩ : ∃ D, D = s2.heap.objs.size := ⟨_, rfl⟩
  have free : H2 D = none := I2.hok.fresh (Nat.le_of_eq hD.symm)
  obtain ⟨W, ⟨m0, w0⟩, turn⟩ := q D free
  rw [← hD]
  obtain ⟨s3, hs3⟩ : ∃ s3 : Shared, s3 = { s2 with heap := s2.heap.push { cls := .type "list", data := .seq ([] : List Value).toArray } } := ⟨_, rfl⟩
  rw [← hs3]
  have I3 : Inv X pins σ (upd H2 D (.lst [])) s3 := by
    rw [hs3]
    refine I2.laid (t' := s2.toks) (fun b o e => Heap.get?_push_of_some _ e) (Nat.le_of_eq hD.symm) ⟨Nat.zero_le _, [], 0, .nil, ?_⟩
    rw [hD]
    exact Heap.get?_push_size _ rfl
  have lt2 : ∀ b ∈ fp, b < s2.heap.objs.size := fun b hb => let ⟨_, e, _⟩ := T.obj _ _ st2 b hb; Heap.lt_size e
  have sz3 : s3.heap.objs.size = s2.heap.objs.size + 1 := by rw [hs3]; exact Heap.size_push ..
  have f3 : ∀ b ∈ fp, FpOk X pins (upd H2 D (.lst [])) b := fun b hb => ⟨by rw [upd_ne (by rw [hD]; exact Nat.ne_of_lt (lt2 b hb))]; exact (f2 b hb).1, (f2 b hb).2⟩
  have st3 : tn 0 s3.heap := T.keep _ _ _ st2 fun b _ o e => by rw [hs3]; exact Heap.get?_push_of_some _ e
  -- the block's own names
  have I4 := block_start I3 ok hN fun b hb => ⟨f3 b hb, by rw [sz3]; exact Nat.lt_succ_of_lt (lt2 b hb)⟩
  rw [hvs] at I4
  have st4 : tn 0 (pushCells (s3.heap.push { cls := .type "dict", data := .dict #[] }) scope.names) := T.keep _ _ _ st3 fun b _ o e => pushCells_keeps _ _ _ _ (Heap.get?_push_of_some _ e)
  show codeAny _ _ (.compStart _ 0 (.ref it) (.ref D) (compEnvC scope (cellsFrom (s3.heap.objs.size + 1) scope.names (cloFrom X.env.cells scope.names [])) s3.heap.objs.size X.env)) (compPost (model X.prog X.w) X.A X.xe _ _ (.ref D) s3.heap.objs.size) { s3 with heap := pushCells (s3.heap.push { cls := .type "dict", data := .dict #[] }) scope.names }
  generalize cellsFrom (s3.heap.objs.size + 1) scope.names (cloFrom X.env.cells scope.names []) = cl at I4 ⊢
  generalize upd H2 D (.lst []) = H3 at I3 I4 w0 f3
  have hbk : Bk X (X.blk s3 H3 scope (compEnvC scope cl s3.heap.objs.size X.env) fp) σ := bk_of I3 f3
  have aG := hg s3 H3 s3.heap.objs.size cl fp
  have aT := ht σ s3 H3 s3.heap.objs.size cl fp hbk
  have aE := he s3 H3 s3.heap.objs.size cl fp
  have stay : ∀ {σ' : L2.St} {H' : Hp} {s' : Shared}, Inv (X.blk s3 H3 scope (compEnvC scope cl s3.heap.objs.size X.env) fp) [] σ' H' s' → (∀ b ∈ fp, H' b = none) → ∀ b ∈ fp, FpOk (X.blk s3 H3 scope (compEnvC scope cl s3.heap.objs.size X.env) fp) [] H' b := fun I' hn b hb =>
    ⟨hn b hb, (I'.ok.exf b hb).1, I'.ok.exfs b hb, .inl hb, (I'.ok.exf b hb).2, fun p hp => absurd (show p ∈ ([] : List (Addr × Obj)) ++ [] from hp) (by simp)⟩
  have go : ∀ s4 : Shared, Inv (X.blk s3 H3 scope (compEnvC scope cl s3.heap.objs.size X.env) fp) [] (L2.wipe σ vs) H3 s4 → tn 0 s4.heap → codeAny (model X.prog X.w) X.A (.compLoop (.ListComp elt [⟨tg, iter, ifs, 0⟩] scope pos) 0 (.ref it) (.ref D) (compEnvC scope cl s3.heap.objs.size X.env)) (compPost (model X.prog X.w) X.A X.xe none (fun v s' => ∃ w' H', Inv X pins σ H' s' ∧ RelV w' v ∧ Q w' H') (.ref D) s3.heap.objs.size) s4 := fun s4 I4 st4 => by
    refine compLoop_any (fun n s' => ∃ i H', Inv (X.blk s3 H3 scope (compEnvC scope cl s3.heap.objs.size X.env) fp) [] (L2.wipe σ vs) H' s' ∧ tn i s'.heap ∧ (∀ b ∈ fp, H' b = none) ∧ W i n H') ?_ m0 ⟨0, H3, I4, st4, fun b hb => (f3 b hb).1, w0⟩
    rintro n s5 ⟨i, H5, I5, st5, n5, w5⟩
    rcases turn i n H5 w5 with ⟨stop, qq⟩ | ⟨goes, Nx, hNx, step⟩
    · refine thnF (T.done (X.blk s3 H3 scope (compEnvC scope cl s3.heap.objs.size X.env) fp) rfl rfl rfl hc i [] s5 _ H5 (fun _ _ => False) I5 (stay I5 n5) st5 stop) fun r s6 ⟨hr, I6⟩ => ?_
      subst hr
      have I7 : Inv X pins σ H5 s6 := I3.call' (ch := fp) I6.os I6.base I6.hok I6.bare fun b hb => let ⟨_, b1, b2, b3, b4, b5⟩ := f3 b hb; ⟨b3, b1, b4, b5⟩
      obtain ⟨m, hn, _⟩ := I6.loc
      refine ⟨m, hn, fun h'' sb => ?_⟩
      obtain ⟨g0, g1, g2, g3, g4, g5⟩ := I3.fpOk (Nat.le_refl _) (show H5 s3.heap.objs.size = none from I6.free)
      exact ⟨.ref D, H5, I7.turned (t' := s6.toks) (fun b o hb e => (sb.2 b hb).trans e) g0 g1 g3 g4 g5, rfl, qq⟩
    · refine thnF (T.item (X.blk s3 H3 scope (compEnvC scope cl s3.heap.objs.size X.env) fp) rfl rfl rfl hc i [] s5 _ H5 (fun _ _ => False) I5 (stay I5 n5) st5 goes) fun r s6 ⟨u, hr, h6⟩ => ?_
      subst hr
      refine thnF h6 fun _ s7 ⟨x, H7, I7, r7, y7, st7, n7⟩ => ?_
      refine thnF (aG.run _ s7 _ H7 x u _ (I7.pinned (stay I7 n7) (T.obj _ _ st7)) r7 (step x H7 y7)) fun _ s8 ⟨σ8, H8, I8, hw8, q8⟩ => ?_
      refine thnF (aT.run _ s8 σ8 H8 _ I8 (q8 hw8)) fun b s9 ⟨H9, I9, q9⟩ => ?_
      have again : ∀ {s' : Shared} {H' : Hp}, Inv (X.blk s3 H3 scope (compEnvC scope cl s3.heap.objs.size X.env) fp) ([] ++ pinsAt fp s7.heap) σ8 H' s' → Nx H' → ∃ m, m < n ∧ ∃ i H', Inv (X.blk s3 H3 scope (compEnvC scope cl s3.heap.objs.size X.env) fp) [] (L2.wipe σ vs) H' s' ∧ tn i s'.heap ∧ (∀ b ∈ fp, H' b = none) ∧ W i m H' := fun {s' H'} I' nx => by
        obtain ⟨m', hm, w'⟩ := hNx H' nx
        have held : ∀ b ∈ fp, ∀ o, s7.heap.get? b = some o → s'.heap.get? b = some o ∧ H' b = none := fun b hb o e =>
          have z := I'.pin (b, o) (List.mem_append_right _ (List.mem_append_right _ (mem_pinsAt hb e)))
          ⟨z.1, z.2.1⟩
        have ew : L2.wipe σ8 vs = L2.wipe σ vs := hw8
        exact ⟨m', hm, i + 1, H', (I'.unpinned (pins := [])).weak (by rw [← ew, L2.wipe_length]) (fun j v e => by rw [← ew] at e; exact (L2.wipe_some e).1), T.keep _ _ _ st7 fun b hb o e => (held b hb o e).1, fun b hb => let ⟨o, e, _⟩ := T.obj _ _ st7 b hb; (held b hb o e).2, w'⟩
      cases b with
      | false =>
        rw [if_neg Bool.false_ne_true] at q9 ⊢
        exact again I9 q9
      | true =>
        rw [if_pos rfl] at q9 ⊢
        exact thnF (aE.run _ s9 σ8 H9 _ I9 q9) fun _ _ ⟨_, _, I10, r10, _, hd, hz, nx⟩ => app_ok (X := X.blk s3 H3 scope (compEnvC scope cl s3.heap.objs.size X.env) fp) I10 hd hz r10 fun _ I11 => again I11 nx
  exact codeAny_compStart_list (go _ I4 st4) (T.self X.A 0 _ _ _ st4 (go _ I4 st4))
/-- x(), x a kept lambda of the def around, within the def that catches, which a block of that def called -/
theorem pe_actB {pins : List (Addr × Obj)} {σ0 : L2.St} {H : Hp} {s : Shared} {CXg : CXT} {Eg : XK} {Ng : List Str} {qg : Str} {sg : Scope} {g f c' : Addr} {cdg : Value} {params : Arguments} {body : Expr} {scope : Scope} {k i : Nat} {a : Str} {pn : List (Addr × Obj)} {xe : Value → Shared → Prop} {W : WX} {E : XK} {tb : TE} {p1 p2 : Pos}
    (I : Inv X pins σ0 H s) (L : LamS X.env.scope scope) (hbind : ∀ pm ctv : Value, bindArgs (PySem.W.kla_fn "<lambda>" (X.env.qual ++ "<lambda>") params body scope (cloFrom X.env.cells scope.names []) pm (.ref c') ctv) ⟨[], []⟩ = pure [])
    (tk : Takes ((cxOf CXg X.prog X.w X.K X.mg X.base Ng qg sg g cdg X.A X.stack s H Eg).tr pn xe) W) (hW : ∀ cls d σ' H', E cls d H' → W cls d σ' H') (hr : Room (k + 1) (X.A.deeper (envOfC qg sg s.heap.objs.size g cdg)))
    (hbody : ∀ (A : Around) (outer : List Env) (s : Shared) (H : Hp), Room k (A.deeper (lamEnv X scope s.heap.objs.size f c')) → PE (lamCx X A outer s H E scope f c') body tb)
    (hN : Ng[i]? = some a) (hv : Vis sg a) (hd : (a == ("__debug__" : Str)) = false) (hcd : (a == ("__classdict__" : Str)) = false) :
    PE ((cxOf CXg X.prog X.w X.K X.mg X.base Ng qg sg g cdg X.A X.stack s H Eg).tr pn xe) (.Call (.Name a p1) [] [] p2)
      (fun σZ HZ Q => σZ[i]? = some (some (.ref f)) ∧ HZ c' = some (CodeO c' (X.env.qual ++ "<lambda>")) ∧ (HZ f = some (.ext (LamP (X.env.qual ++ "<lambda>") params body scope (cloFrom X.env.cells scope.names []) f c')) ∧ tb σ0 HZ Q)) :=
  pe_actV I L hbind tk hW hr hbody hN hv hd hcd
/-- f(e) in a block, e one of some lambdas of the def around -/
def tLamB (σ0 : L2.St) (q : Str) (L : List ((Addr → Addr → Heap → Prop) × (XK → TE))) (TT : (XK → Hp → VK → Prop) → Hp → VK → Prop) (ta : TA) : TE := fun σ H Q => ta σ H fun vs H1 => ∃ (f c' : Addr), ∃ p ∈ L, vs = [.ref f] ∧ H1 f = some (.ext (p.1 f c')) ∧ H1 c' = some (CodeO c' q) ∧ TT (fun E H' Q' => H' f = some (.ext (p.1 f c')) ∧ p.2 E σ0 H' Q') H1 Q
theorem pe_lamB {σ0 : L2.St} {s0 : Shared} {H0 : Hp} {bsc : Scope} {ce : Env} {fp : List Addr} {L : List ((Addr → Addr → Heap → Prop) × (XK → TE))} {TT : (XK → Hp → VK → Prop) → Hp → VK → Prop} {x a : Str} {g : Addr} {k : Nat} {pg : Arguments} {bg : List Stmt} {sg : Scope} {dV kV doc pm cdv ct oc : Value} {an od : Option Addr} {osl : Array (Option Value)} {Ng : List Str} {e : Expr} {ta : TA} {p pos : Pos}
    (hbk : Bk X (X.blk s0 H0 bsc ce fp) σ0) (hg : Gl (X.blk s0 H0 bsc ce fp) x) (hm : X.mg x = some (.ref g)) (hk : PySem.W.keepIn X.K (.ref g) = true) (lk : X.K.lookup g = some ⟨oc, od, .func (PySem.W.fnOf x x pg bg sg dV kV doc pm an cdv ct), osl⟩) (hcg : PySem.W.codeIn X.K cdv x = true)
    (hb : L2.Binds X.K (PySem.W.fnOf x x pg bg sg dV kV doc pm an cdv ct) [a] []) (Sg : FnScope Ng [a] sg) (hNg : Ng[0]? = some a) (hva : Vis sg a) (hG : GivesTo X Ng x sg g cdv bg a (X.env.qual ++ "<lambda>") TT)
    (hr : Room (k + 2) X.A) (hL : ∀ q ∈ L, LamI X k q.1 q.2) (ha : PA (X.blk s0 H0 bsc ce fp) [e] ta) (he : starEach [e] ce = (false, eval e ce) :: starEach [] ce) (hpl : (backTo pos (starEach [] ce)).any (·.1) = false)
    (hdb : (x == ("__debug__" : Str)) = false) (hd : (a == ("__debug__" : Str)) = false) (hcd : (a == ("__classdict__" : Str)) = false) : PE (X.blk s0 H0 bsc ce fp) (.Call (.Name x p) [e] [] pos) (tLamB σ0 (X.env.qual ++ "<lambda>") L TT ta) := by
  constructor
  intro pins s σ H Q I h
  apply wpAny_Call_Name_kw
  refine ld_glob I hg hm ?_ hdb
  refine PySem.W.callWith_K (h₀ := X.base) I.ok.mod.kin hk (thn (ha.run pos pins s σ H _ I h) fun us s1 ⟨vs, H1, I1, r, f, c', q, hq, ev, hf, hco, hTT⟩ => ⟨I1.kIn, ?_⟩) he hpl
  subst ev
  obtain rfl : us = [Value.ref f] := by
    cases r with | cons a r => cases r; cases a; rfl
  obtain ⟨pa, body, sc, eF, L1, hbind, hbody⟩ := (hL q hq).ex
  obtain ⟨pins0, J1⟩ := hbk _ _ _ _ I1
  have run : codeAny (model X.prog X.w) X.A (.call (.ref g) ⟨[.ref f], []⟩) (CR C8.CX0 X.stack X.prog X.w H1 s1 Q C8.E0) s1 := run_ofS (N := Ng) (ps := [a]) (us := [.ref f]) (vs := [.ref f]) lk hcg Sg hr J1.env0 (hb s1 [.ref f] J1.kIn rfl) (.cons rfl .nil) rfl fun hr2 => by
    obtain ⟨t2, ht2, hq2⟩ := hG f c' s1 H1 Q (fun E H' Q' => H' f = some (.ext (q.1 f c')) ∧ q.2 E σ0 H' Q') (fun W pn xe E p1 p2 tk hW => by
      rw [eF]
      exact pe_actB (i := 0) J1 L1 (fun _ _ => hbind _ _ _ _ _) tk hW hr2 (fun A outer s H r3 => hbody A outer s H E f c' r3) hNg hva hd hcd) hco hTT
    exact ⟨t2, ht2.nox, hq2⟩
  refine wpAny_call (codeAny_mono run fun r s2 hq => ?_)
  match r, hq with
  | .error e, hq => exact (show False from hq).elim
  | .ok (.ret u), hq => exact I1.after hq
  | .ok .next, hq => exact hq.elim
  | .ok .brk, hq => exact hq.elim
  | .ok .cont, hq => exact hq.elim
end
theorem Fr.back {G : Cfg} {n : Nat} {O : Addr → Prop} {env : Ev} {σ σ0 : L2.St} {H : Hp} {vs : List Nat} (F : Fr G n O env σ H) (e : L2.wipe σ vs = L2.wipe σ0 vs) : Fr G n O (wipeE env vs) σ0 H := by
  have F := F.wipe vs
  rw [e] at F
  refine ⟨F.wl, by rw [F.len, L2.wipe_length], fun i c h n => ?_, fun i j a oi oj hi hj => ?_⟩
  · obtain ⟨v, h1, h2⟩ := F.sl i c h n
    exact ⟨v, (L2.wipe_some h1).1, h2⟩
  · have key : ∀ k, IsOwn (wipeE env vs) k → σ0[k]? = some (some (.ref a)) → (L2.wipe σ0 vs)[k]? = some (some (.ref a)) := fun k ⟨d, ed, od⟩ hk => by
      obtain ⟨v, h1, _⟩ := F.sl k d ed (fun z => by rw [z] at od; cases od)
      have := (L2.wipe_some h1).1
      rw [hk] at this
      rw [h1, ← this]
    exact F.uq i j a oi oj (key i oi hi) (key j oj hj)
/-- _law_caught(x) in a block, x a kept lambda of the def around -/
def mCaughtB (K : PySem.W.Frag) (CE : Addr) (q : Str) (L : List LamT) (m : EM) (vs : List Nat) : EM := fun env Q => m env fun d => ∃ p ∈ L, d = .lam p.1 (CodP q) ∧ p.2.2 (fun e => PySem.W.exmOne K e.1 (.ref CE) = some true ∧ Q (.exc e.1 e.2.1 e.2.2)) (unOwn (wipeE env vs)) fun _ => Q .non
section
variable {C : Wd → XC → Prop} {C0 : Wd → Prop} {K : PySem.W.Frag} {te : TE} {m : EM} {c : Nat} {q : Str} {L : List LamT} {vs : List Nat} {σ0 : L2.St}
theorem se_caughtB {CE : Addr} (h : SE C c te m) (hW : ∀ w x, C w x → C0 w) (ht : ∀ p ∈ L, ∀ E X0, SE (exC C0 E X0) 0 (p.2.1 E) (p.2.2 X0)) : SE C c (tGdE vs σ0 (tLamB σ0 q (L.map fun p => (p.1, p.2.1)) (TCaught K CE) (tCons te tNil))) (mCaughtB K CE q L m vs) := fun G g n O env σ H Qd Q hL F hm k eg =>
  show te σ H _ from h G g n O env σ H _ _ hL F hm fun d v H1 ⟨p, hp, ed, hq⟩ gr ok1 r => by
    subst ed
    have F1 := (F.grow gr ok1).back eg
    have c0 := hW _ _ g
    cases r with
    | lam e1 e2 =>
      have hf := rk_ext e1.1
      have hc := rk_ext e2.1
      refine ⟨_, _, (p.1, p.2.1), List.mem_map.mpr ⟨p, hp, rfl⟩, rfl, hf, hc, hf, ?_⟩
      refine ht p hp _ (fun e => PySem.W.exmOne K e.1 (.ref CE) = some true ∧ Qd (.exc e.1 e.2.1 e.2.2)) (⟨G.w, H1, O, F1.wl.tr, ⟨n + c, Nat.le_trans hL G.x.le, H1, fun c d H' => PySem.W.exmOne K c (.ref CE) = some true ∧ ∀ a, H' a = none → Q (.ref a) (upd H' a (ExcK c d a)), fun e => PySem.W.exmOne K e.1 (.ref CE) = some true ∧ Qd (.exc e.1 e.2.1 e.2.2)⟩, Grow.refl _ _, fun n' H' cv d e hn ok' g' a z => ?_⟩ : Cfg) ⟨c0, rfl, rfl⟩ (n + c) O (unOwn (wipeE env vs)) σ0 H1 (fun _ => Qd .non) (fun _ H' => Q .non H') (Nat.le_refl _) (F1.unOwn ⟨ok1, F1.wl.zo, fun _ y => y, F1.wl.tr, Grow.refl _ _⟩ (LeA.refl _)) hq (fun d v H' hd g' ok' r => k .non .non H' hd (gr.trans g') ok' .non)
      refine ⟨by rw [a.1]; exact z.1, fun ad hn2 => ?_⟩
      have ok2 := G.w.up _ _ _ hn ok'
      have W2 := F1.wl.grow g' ok2
      have g2 : Grow G.w H' (upd H' ad (ExcK cv d ad)) := Grow.new _ hn2
      exact k _ _ _ z.2 (gr.trans (g'.trans g2)) (Wd.okNew hn2 ok2) (exn_rp a (sh_grow W2.zo g2) ⟨.inl upd_same, W2.free hn2⟩)
end
section
variable {C : Wd → XC → Prop} {c c1 : Nat} {wi : TI} {g : TG} {te : TE} {am : AM} {mg : GM} {mt : TM} {m : EM} {vs : List Nat}
/-- a filter that calls them -/
theorem st_gd {σ0 : L2.St} {F : TE → TT} {t : TE} (h : ST C c (F (tGdE vs σ0 t)) mt) (hF : ∀ (t : TE) σ, F t σ = F (fun _ => t σ) σ) : ST C c (tGd vs σ0 (F t)) mt := fun G g n O env σ H Qd Q hL Fr hm k eg => by
  have := h G g n O env σ H Qd Q hL Fr hm k
  rw [hF] at this ⊢
  have e : tGdE vs σ0 t σ = t σ := funext fun H => funext fun Q => propext ⟨fun z => z eg, fun z _ => z⟩
  rw [e] at this
  exact this
theorem sl_lcB {F : TE → TT} {t : L2.St → TE} (hi : SI C c1 wi am) (hg : SG C vs g mg) (ht : ∀ σ0, ST C 0 (F (tGdE vs σ0 (t σ0))) mt) (he : SE C 0 te m) (hF : ∀ (t : TE) σ, F t σ = F (fun _ => t σ) σ := by intro _ _; rfl) : SL C c1 (tLcB wi g (fun σ0 => F (t σ0)) te vs) (mLc am mg mt m vs) := fun G c n O env σ H Qd Q hL Fr hm k =>
  sl_lc hi hg (st_gd (ht σ) hF) he G c n O env σ H Qd Q hL Fr hm k
end
end PL

/-! XD4: kept lambdas of one parameter. -/
namespace PL
open PySem PySem.Spec PyProof.Rows L2 LamX
/-- one parameter x, no other name of its own: captured ones and globals -/
structure LamS1 (N : List Str) (sc scope : Scope) (x : Str) : Prop where
  kind : scope.kind = .function
  co : scope.isCoroutine = false
  gen : scope.isGenerator = false
  par : scope.names.lookup x = some .local
  own : ∀ y ∈ scope.names, y.2 ≠ .cell ∧ (y.2 = .local → y.1 = x)
  free : ∀ y ∈ scope.names, y.2 = .free → sc.names.lookup y.1 = some .cell ∨ sc.names.lookup y.1 = some .free
  new : x ∉ N
def lamS1B (N : List Str) (sc scope : Scope) (x : Str) : Bool :=
  decide (scope.kind = .function) && !scope.isCoroutine && !scope.isGenerator && decide (scope.names.lookup x = some .local) && (scope.names.all fun y => !decide (y.2 = .cell) && (!decide (y.2 = .local) || decide (y.1 = x)) && (!decide (y.2 = .free) || decide (sc.names.lookup y.1 = some .cell) || decide (sc.names.lookup y.1 = some .free))) && !N.contains x
theorem lamS1_by {N : List Str} {sc scope : Scope} {x : Str} (h : lamS1B N sc scope x = true) : LamS1 N sc scope x := by
  unfold lamS1B at h
  simp only [Bool.and_eq_true, Bool.or_eq_true, Bool.not_eq_true', decide_eq_true_eq, decide_eq_false_iff_not, List.all_eq_true] at h
  obtain ⟨⟨⟨⟨⟨h1, h2⟩, h3⟩, h4⟩, h5⟩, h6⟩ := h
  refine ⟨h1, h2, h3, h4, fun y hy => ⟨(h5 y hy).1.1, fun e => ?_⟩, fun y hy e => ?_, fun z => ?_⟩
  · rcases (h5 y hy).1.2 with z | z
    · exact absurd e z
    · exact z
  · rcases (h5 y hy).2 with (z | z) | z
    · exact absurd e z
    · exact .inl z
    · exact .inr z
  · rw [List.contains_iff_mem.mpr z] at h6; cases h6
theorem LamS1.has {X : Cx} {N : List Str} {scope : Scope} {x : Str} (L : LamS1 N X.env.scope scope x) (ok : X.Ok) : ∀ y ∈ scope.names, y.2 = .free → ∃ c, X.env.cells.lookup y.1 = some c := fun y hy e => by
  rcases L.free y hy e with k | k
  · exact ok.has _ (.inl k)
  · exact ok.has _ (.inr k)
/-- the context of its body: the parameter comes behind the names around -/
def lamCx1 (X : Cx) (A : Around) (outer : List Env) (s : Shared) (H : Hp) (E : XK) (scope : Scope) (f c' : Addr) (x : Str) : Cx := { lamCx X A outer s H E scope f c' with N := X.N ++ [x] }
section
variable {X : Cx} {pins : List (Addr × Obj)} {σ : L2.St} {H HZ : Hp} {s s1 : Shared}
theorem lam_start1 {A : Around} {outer : List Env} {E : XK} {scope : Scope} {f c' : Addr} {h₁ : Heap} {tk : Nat} {x : Str} {v : V} {u : Value} (I : Inv X pins σ H s) (L : LamS1 X.N X.env.scope scope x) (rv : RelV v u) (e0 : Env0 X.prog X.w X.K X.mg X.base A outer s1 HZ) (hd : A.handled = none)
    (un : Un (frs X.stack) [] H HZ s.heap s1.heap) (hns : h₁.Ns s1.heap.objs.size fun y => [(x, u)].reverse.lookup y) (kp : ∀ b o, s1.heap.get? b = some o → h₁.get? b = some o) :
    Inv (lamCx1 X A outer s1 HZ E scope f c' x) [] (σ ++ [some v]) HZ { s1 with heap := h₁, toks := tk } := by
  have hfree := L.has I.ok
  -- what it captured are the cells of the def around
  have cap : ∀ {y c}, (cloFrom X.env.cells scope.names []).lookup y = some c → X.env.cells.lookup y = some c := fun {y c} e => by
    rcases cloFrom_mem (PySem.mem_of_lookup e) with hm | ⟨h1, h2⟩
    · cases hm
    · obtain ⟨c1, hc⟩ := hfree _ h1 rfl
      have hc : X.env.cells.lookup y = some c1 := hc
      rw [h2, hc] at *
      first | exact hc | rfl
  have got : ∀ {y}, scope.names.lookup y = some .free → ∃ c, (cloFrom X.env.cells scope.names []).lookup y = some c := fun {y} hl => mem_lookup (cloFrom_has (cells := X.env.cells) (acc := []) (show (y, NameKind.free) ∈ scope.names from PySem.mem_of_lookup hl))
  have still : ∀ {c : Addr} {v : Option Value}, H c = none → s.heap.IsCell c v → h₁.IsCell c v := fun {c v} n ⟨o, ho, hd⟩ =>
    let ⟨_, q⟩ := un.any ho n (by simp)
    ⟨_, kp _ _ q, hd⟩
  have noA : ∀ b : Addr, b ∉ (lamCx1 X A outer s1 HZ E scope f c' x).ex := fun b z => absurd (show b ∈ ([] : List Addr) from z) (by simp)
  have nocell : ∀ {y}, scope.names.lookup y ≠ some .cell := fun {y} e => (L.own _ (PySem.mem_of_lookup e)).1 rfl
  have nfree : ∀ y, scope.names.lookup y = some .free → X.env.scope.names.lookup y ≠ some .local := fun y k e => by
    rcases L.free _ (PySem.mem_of_lookup k) rfl with k2 | k2 <;> rw [show X.env.scope.names.lookup y = _ from k2] at e <;> cases e
  have ok : (lamCx1 X A outer s1 HZ E scope f c' x).Ok := ⟨e0.mod, L.kind, rfl, rfl, Nat.le_refl _, fun y z c e1 e2 => I.ok.inj y z c (cap e1) (cap e2),
    fun y hy => (show scope.names.lookup y = some .cell ∨ scope.names.lookup y = some .free from hy).elim (fun z => absurd z nocell) got, fun y c z _ => (by cases (show false = true from z)), fun _ => hd, Around.frames_deeper e0.frames, .inr ⟨rfl, rfl⟩, fun b z => absurd z (noA b), e0.bs, e0.bsz, fun b _ _ => noA b, fun b z => absurd z (noA b), e0.funs, e0.frf⟩
  refine ⟨ok, rfl, e0.bare, Un.kept kp, ⟨_, hns, fun i y w e1 e2 e3 => ?_⟩, fun y c e => ?_, e0.hok.fresh (Nat.le_refl _), fun y c e => ?_, fun q hq => absurd (show q ∈ ([] : List (Addr × Obj)) ++ [] from hq) (by simp), e0.hok.kept kp, by show (σ ++ [some v]).length = (X.N ++ [x]).length; rw [List.length_append, List.length_append, I.len]; rfl⟩
  · have e1 : (X.N ++ [x])[i]? = some y := e1
    have e3 : Vis scope y := e3
    by_cases hi : i < X.N.length
    · rw [List.getElem?_append_left hi] at e1
      rw [List.getElem?_append_left (by rw [I.len]; exact hi)] at e2
      have hyx : y ≠ x := fun z => L.new (z ▸ List.mem_of_getElem? e1)
      rcases e3 with k | k | k
      · exact absurd ((L.own _ (PySem.mem_of_lookup k)).2 rfl) hyx
      · exact absurd k nocell
      · obtain ⟨m, hn, hl⟩ := I.loc
        obtain ⟨w', r, q⟩ := hl i y w e1 e2 ((L.free _ (PySem.mem_of_lookup k) rfl).elim (fun k => .inr (.inl k)) (fun k => .inr (.inr k)))
        obtain ⟨c2, h2⟩ := got k
        refine ⟨w', r, .inr ⟨.inr k, c2, h2, ?_⟩⟩
        rcases q with ⟨k', _⟩ | ⟨_, c3, e', z⟩
        · exact absurd k' (nfree y k)
        · rw [cap h2] at e'
          cases e'
          exact still (I.freeC y _ (cap h2)) z
    · have hl : (X.N ++ [x]).length = X.N.length + 1 := by rw [List.length_append]; rfl
      have hil := (List.getElem?_eq_some_iff.mp e1).1
      have ei : i = X.N.length := by omega
      subst ei
      rw [List.getElem?_append_right (Nat.le_refl _), Nat.sub_self] at e1
      rw [List.getElem?_append_right (by rw [I.len]; exact Nat.le_refl _), I.len, Nat.sub_self] at e2
      cases e1
      cases e2
      exact ⟨u, rv, .inl ⟨L.par, by show ([(x, u)] : List (Str × Value)).lookup x = some u; rw [List.lookup_cons, beq_self_eq_true]⟩⟩
  · obtain ⟨w', z⟩ := I.cell y c (cap e)
    exact ⟨w', still (I.freeC y c (cap e)) z⟩
  · obtain ⟨_, o, ho, _⟩ := I.cell y c (cap e)
    exact un.free c o ho (I.freeC y c (cap e)) (by simp)
/-- x(e), in the def that got the lambda, told of as lasting -/
theorem pe_act1 {CXg : CXT} {Eg : XK} {Ng : List Str} {qg : Str} {sg : Scope} {g f c' : Addr} {cdg : Value} {params : Arguments} {body : Expr} {scope : Scope} {k i : Nat} {a x : Str} {pn : List (Addr × Obj)} {xe : Value → Shared → Prop} {W : WX} {E : XK} {tb : TE} {e : Expr} {te : TA} {p1 p2 : Pos}
    (I : Inv X pins σ H s) (L : LamS1 X.N X.env.scope scope x) (hbind : ∀ (u pm ctv : Value), bindArgs (PySem.W.kla_fn "<lambda>" (X.env.qual ++ "<lambda>") params body scope (cloFrom X.env.cells scope.names []) pm (.ref c') ctv) ⟨[u], []⟩ = pure [(x, u)])
    (tk : Takes ((cxOf CXg X.prog X.w X.K X.mg X.base Ng qg sg g cdg X.A X.stack s H Eg).tr pn xe) W) (hW : ∀ cls d σ' H', E cls d H' → W cls d σ' H') (hr : Room (k + 1) (X.A.deeper (envOfC qg sg s.heap.objs.size g cdg)))
    (hbody : ∀ (A : Around) (outer : List Env) (s : Shared) (H : Hp), Room k (A.deeper (lamEnv X scope s.heap.objs.size f c')) → PE (lamCx1 X A outer s H E scope f c' x) body tb)
    (ha : PA ((cxOf CXg X.prog X.w X.K X.mg X.base Ng qg sg g cdg X.A X.stack s H Eg).tr pn xe) [e] te)
    (hN : Ng[i]? = some a) (hv : Vis sg a) (he : starEach [e] (envOfC qg sg s.heap.objs.size g cdg) = (false, eval e (envOfC qg sg s.heap.objs.size g cdg)) :: starEach [] (envOfC qg sg s.heap.objs.size g cdg)) (hpl : (backTo p2 (starEach [] (envOfC qg sg s.heap.objs.size g cdg))).any (·.1) = false) (hd : (a == ("__debug__" : Str)) = false := by decide) (hcd : (a == ("__classdict__" : Str)) = false := by decide) :
    PE ((cxOf CXg X.prog X.w X.K X.mg X.base Ng qg sg g cdg X.A X.stack s H Eg).tr pn xe) (.Call (.Name a p1) [e] [] p2)
      (fun σZ HZ Q => σZ[i]? = some (some (.ref f)) ∧ HZ f = some (.ext (LamP (X.env.qual ++ "<lambda>") params body scope (cloFrom X.env.cells scope.names []) f c')) ∧ te σZ HZ fun vs H1 => ∃ v, vs = [v] ∧ H1 c' = some (CodeO c' (X.env.qual ++ "<lambda>")) ∧ H1 f = some (.ext (LamP (X.env.qual ++ "<lambda>") params body scope (cloFrom X.env.cells scope.names []) f c')) ∧ tb (σ ++ [some v]) H1 Q) := by
  refine ⟨fun pinsZ sZ σZ HZ Q IZ ⟨hs, hf0, ht⟩ => ?_⟩
  refine wpAny_Call_Name_kw (thn ((pe_var (pos := p1) (i := i) hN hv hd hcd).run pinsZ sZ σZ HZ (fun v H1 => v = .ref f ∧ H1 = HZ) IZ ⟨.ref f, hs, rfl, rfl⟩) fun u s1 ⟨v, H1, I1, r1, ev, eH⟩ => ?_)
  subst ev
  rw [eH] at I1
  obtain rfl : u = Value.ref f := r1
  obtain ⟨⟨pm0, ctv0, of0⟩, _, _⟩ := I1.hok f _ hf0
  refine PySem.W.callWith_F ⟨_, _, _, _, of0⟩ (thn (ha.run p2 pinsZ s1 σZ HZ _ I1 ht) fun us s2 ⟨vs, H2, I2, rs, v, ev, hc, hf, hb⟩ => ?_) he hpl
  subst ev
  obtain ⟨u, rv, rfl⟩ : ∃ u, RelV v u ∧ us = [u] := by
    cases rs with | cons a r => cases r; exact ⟨_, a, rfl⟩
  obtain ⟨⟨pm, ctv, of1⟩, _, _⟩ := I2.hok f _ hf
  refine ⟨⟨_, _, _, _, of1⟩, ?_⟩
  have un : Un (frs X.stack) [] H H2 s.heap s2.heap := I2.base
  obtain ⟨⟨oc, ws, t, hoc, hdc, hvc⟩, _, _⟩ := I2.hok c' _ hc
  have rc : codeAny (model X.prog X.w) (X.A.deeper (envOfC qg sg s.heap.objs.size g cdg)) (.call (.ref f) ⟨[u], []⟩) (CR (L2.CX X.prog X.w) (envOfC qg sg s.heap.objs.size g cdg :: X.stack) X.prog X.w H2 s2 Q E) s2 := by
    refine PySem.W.kla_callFunE hr.depth of1 rfl L.co L.gen rfl ⟨c', oc, ws, t, rfl, hoc, hdc, hvc⟩ ?_
    rw [hbind]
    refine wpAny_pure (wpAny_newFunctionEnv (fun y hy => (L.own y hy).1) (fun y hy => by rw [List.mem_singleton.mp hy]; exact L.par) (fun h₁ hns hsb => ⟨I2.nolimit.fresh _ hsb, ?_⟩) L.kind)
    have kp : ∀ b o, s2.heap.get? b = some o → h₁.get? b = some o := fun b o e => hsb.extBut b o (Nat.ne_of_lt (Heap.lt_size e)) (Heap.get?_push_of_some _ e)
    have J : Inv (lamCx1 X (X.A.deeper (envOfC qg sg s.heap.objs.size g cdg)) (envOfC qg sg s.heap.objs.size g cdg :: X.stack) s2 H2 E scope f c' x) [] (σ ++ [some v]) H2 { s2 with heap := h₁, toks := s2.toks + [(x, u)].length } :=
      lam_start1 I L rv I2.env0 hr.hd un hns kp
    exact PySem.W.kla_codeExpr (wpAny_mono ((hbody _ _ s2 H2 (hr.deeper _)).run [] _ _ H2 Q J hb) (fun v s' ⟨w', H', J', rv, q⟩ => ⟨w', H', J'.os, J'.bare, J'.base, J'.hok, rv, q⟩) fun e s' hq => hq)
  have hx : Passes (L2.CX X.prog X.w) ((cxOf CXg X.prog X.w X.K X.mg X.base Ng qg sg g cdg X.A X.stack s H Eg).tr pn xe) E := passes_call tk hW
  refine wpAny_call (codeAny_mono rc fun r s' hq => ?_)
  cases r with
  | error e => exact hx pinsZ σZ H2 s2 e s' I2 hq
  | ok fl =>
    cases fl with
    | ret u => exact I2.after hq
    | next => exact False.elim hq
    | brk => exact False.elim hq
    | cont => exact False.elim hq
end
end PL
namespace PL
open PySem PySem.Spec PyProof.Rows L2 LamX
/-- a def of two parameters, the second one called with one argument: TT what it makes of the first and of the lambda's reading -/
def GivesTo2 (X : Cx) (Ng : List Str) (x : Str) (sg : Scope) (g : Addr) (cdg : Value) (bg : List Stmt) (a : Str) (q : Str) (TT : V → (XK → V → Hp → VK → Prop) → Hp → VK → Prop) : Prop :=
  ∀ (f c' : Addr) (F : Addr → Addr → Heap → Prop) (s : Shared) (H : Hp) (Q : VK) (v0 : V) (tl : XK → V → Hp → VK → Prop),
    (∀ (W : WX) (pn : List (Addr × Obj)) (xe : Value → Shared → Prop) (E : XK) (e : Expr) (te : TA) (p1 p2 : Pos), Takes ((cxOf C8.CX0 X.prog X.w X.K X.mg X.base Ng x sg g cdg X.A X.stack s H C8.E0).tr pn xe) W → (∀ cls d σ' H', E cls d H' → W cls d σ' H') →
      PA ((cxOf C8.CX0 X.prog X.w X.K X.mg X.base Ng x sg g cdg X.A X.stack s H C8.E0).tr pn xe) [e] te →
      starEach [e] (envOfC x sg s.heap.objs.size g cdg) = (false, eval e (envOfC x sg s.heap.objs.size g cdg)) :: starEach [] (envOfC x sg s.heap.objs.size g cdg) → (backTo p2 (starEach [] (envOfC x sg s.heap.objs.size g cdg))).any (·.1) = false →
      PE ((cxOf C8.CX0 X.prog X.w X.K X.mg X.base Ng x sg g cdg X.A X.stack s H C8.E0).tr pn xe) (.Call (.Name a p1) [e] [] p2) (fun σZ HZ Q => σZ[1]? = some (some (.ref f)) ∧ HZ f = some (.ext (F f c')) ∧ te σZ HZ fun vs H1 => ∃ v, vs = [v] ∧ H1 c' = some (CodeO c' q) ∧ H1 f = some (.ext (F f c')) ∧ tl E v H1 Q)) →
    H c' = some (CodeO c' q) → H f = some (.ext (F f c')) → TT v0 (fun E v H' Q' => H' c' = some (CodeO c' q) ∧ H' f = some (.ext (F f c')) ∧ tl E v H' Q') H Q →
    ∃ t, PSs (cxOf C8.CX0 X.prog X.w X.K X.mg X.base Ng x sg g cdg X.A X.stack s H C8.E0).nox bg t ∧ t { nx := fun _ H' => Q .non H', rt := Q } (L2.start Ng [v0, .ref f]) H
/-- what is known of a lambda of one parameter of this def -/
structure LamI1 (X : Cx) (k : Nat) (F : Addr → Addr → Heap → Prop) (t : XK → TE) : Prop where
  ex : ∃ (pa : Arguments) (body : Expr) (sc : Scope) (x : Str), F = LamP (X.env.qual ++ "<lambda>") pa body sc (cloFrom X.env.cells sc.names []) ∧ LamS1 X.N X.env.scope sc x ∧
    (∀ (u : Value) (q : Str) (cl : List (Str × Addr)) (pm cv ctv : Value), bindArgs (PySem.W.kla_fn "<lambda>" q pa body sc cl pm cv ctv) ⟨[u], []⟩ = pure [(x, u)]) ∧
    (∀ (A : Around) (outer : List Env) (s : Shared) (H : Hp) (E : XK) (f c' : Addr), Room k (A.deeper (lamEnv X sc s.heap.objs.size f c')) → PE (lamCx1 X A outer s H E sc f c' x) body (t E))
/-- f(e0, e), e a kept lambda of this def -/
def tLamC2 (q : Str) (F : Addr → Addr → Heap → Prop) (t : XK → TE) (TT : V → (XK → V → Hp → VK → Prop) → Hp → VK → Prop) (ta : TA) : TE := fun σ H Q => ta σ H fun vs H1 => ∃ (f c' : Addr) (v0 : V), vs = [v0, .ref f] ∧ H1 f = some (.ext (F f c')) ∧ H1 c' = some (CodeO c' q) ∧
  TT v0 (fun E v H' Q' => H' c' = some (CodeO c' q) ∧ H' f = some (.ext (F f c')) ∧ t E (σ ++ [some v]) H' Q') H1 Q
section
variable {X : Cx}
theorem pe_lamC2 {F : Addr → Addr → Heap → Prop} {t : XK → TE} {TT : V → (XK → V → Hp → VK → Prop) → Hp → VK → Prop} {x a0 a : Str} {g : Addr} {k : Nat} {pg : Arguments} {bg : List Stmt} {sg : Scope} {dV kV doc pm cdv ct oc : Value} {an od : Option Addr} {osl : Array (Option Value)} {Ng : List Str} {e0 e : Expr} {ta : TA} {p pos : Pos}
    (hg : Gl X x) (hm : X.mg x = some (.ref g)) (hk : PySem.W.keepIn X.K (.ref g) = true) (lk : X.K.lookup g = some ⟨oc, od, .func (PySem.W.fnOf x x pg bg sg dV kV doc pm an cdv ct), osl⟩) (hcg : PySem.W.codeIn X.K cdv x = true)
    (hb : L2.Binds X.K (PySem.W.fnOf x x pg bg sg dV kV doc pm an cdv ct) [a0, a] []) (Sg : FnScope Ng [a0, a] sg) (hNg : Ng[1]? = some a) (hva : Vis sg a) (hG : GivesTo2 X Ng x sg g cdv bg a (X.env.qual ++ "<lambda>") TT)
    (hr : Room (k + 2) X.A) (hL : LamI1 X k F t) (ha : PA X [e0, e] ta) (hst : starEach [e0, e] X.env = (false, eval e0 X.env) :: starEach [e] X.env := by rfl) (hpl : (backTo pos (starEach [e] X.env)).any (·.1) = false := by rfl)
    (hdb : (x == ("__debug__" : Str)) = false := by decide) (hd : (a == ("__debug__" : Str)) = false := by decide) (hcd : (a == ("__classdict__" : Str)) = false := by decide) : PE X (.Call (.Name x p) [e0, e] [] pos) (tLamC2 (X.env.qual ++ "<lambda>") F t TT ta) := by
  constructor
  intro pins s σ H Q I h
  apply wpAny_Call_Name_kw
  refine ld_glob I hg hm ?_ hdb
  refine PySem.W.callWith_K (h₀ := X.base) I.ok.mod.kin hk (thn (ha.run pos pins s σ H _ I h) fun us s1 ⟨vs, H1, I1, r, f, c', v0, ev, hf, hco, hTT⟩ => ⟨I1.kIn, ?_⟩) hst hpl
  subst ev
  obtain ⟨u0, rv0, rfl⟩ : ∃ u0, RelV v0 u0 ∧ us = [u0, Value.ref f] := by
    cases r with | cons a r => cases r with | cons b r => cases r; exact ⟨_, a, by rw [show _ = Value.ref f from b]⟩
  obtain ⟨pa, body, sc, y, eF, L1, hbind, hbody⟩ := hL.ex
  have run : codeAny (model X.prog X.w) X.A (.call (.ref g) ⟨[u0, .ref f], []⟩) (CR C8.CX0 X.stack X.prog X.w H1 s1 Q C8.E0) s1 := run_ofS (N := Ng) (ps := [a0, a]) (us := [u0, .ref f]) (vs := [v0, .ref f]) lk hcg Sg hr I1.env0 (hb s1 [u0, .ref f] I1.kIn rfl) (.cons rv0 (.cons rfl .nil)) rfl fun hr2 => by
    obtain ⟨t2, ht2, hq2⟩ := hG f c' F s1 H1 Q v0 (fun E v H' Q' => t E (σ ++ [some v]) H' Q') (fun W pn xe E e te p1 p2 tk hW hpa he hp => by
      rw [eF]
      exact pe_act1 (i := 1) I1 L1 (fun u _ _ => hbind u _ _ _ _ _) tk hW hr2 (fun A outer s H r3 => hbody A outer s H E f c' r3) hpa hNg hva he hp hd hcd) hco hf hTT
    exact ⟨t2, ht2.nox, hq2⟩
  refine wpAny_call (codeAny_mono run fun r s2 hq => ?_)
  match r, hq with
  | .error e, hq => exact (show False from hq).elim
  | .ok (.ret u), hq => exact I1.after hq
  | .ok .next, hq => exact hq.elim
  | .ok .brk, hq => exact hq.elim
  | .ok .cont, hq => exact hq.elim
end
/-- what a count of the first ones leaves: n things, p of each, the first that has it not (as far as it looked) -/
def Bs (n : Nat) (p : Nat → Bool) (r : Nat) : Prop := r ≤ n ∧ (r = 0 ∨ p (r - 1) = true) ∧ (r = n ∨ p r = false)
def TCount : V → (XK → V → Hp → VK → Prop) → Hp → VK → Prop := fun v0 tl H Q => ∃ (n : Nat) (p : Nat → Bool) (W : Hp → Prop), v0 = .int (n : Int) ∧ W H ∧ (∀ i, i < n → ∀ H', W H' → ∀ Q' : VK, (∀ H'', W H'' → Q' (.bl (p i)) H'') → tl (fun _ _ _ => False) (.int (i : Int)) H' Q') ∧ ∀ r H', W H' → Bs n p r → Q (.int (r : Int)) H'
theorem Fr.snoc {G : Cfg} {n : Nat} {O : Addr → Prop} {env : Ev} {σ : L2.St} {H : Hp} {v : V} {d : D} (F : Fr G n O env σ H) (r : Rp (Sh O H) v d) : Fr G n O (env ++ [.dat d]) (σ ++ [some v]) H := by
  have own : ∀ {i}, IsOwn (env ++ [.dat d]) i → IsOwn env i := fun {i} ⟨c, e, o⟩ => by
    by_cases hi : i < env.length
    · rw [List.getElem?_append_left hi] at e; exact ⟨c, e, o⟩
    · rw [List.getElem?_append_right (by omega)] at e
      cases hj : i - env.length with
      | zero => rw [hj] at e; cases e; cases o
      | succ j => rw [hj] at e; cases e
  have lt : ∀ {i}, IsOwn env i → i < σ.length := fun {i} ⟨c, e, _⟩ => by rw [← F.len]; exact (List.getElem?_eq_some_iff.mp e).1
  refine ⟨F.wl, by rw [List.length_append, List.length_append, F.len]; rfl, fun i c e nn => ?_, fun i j a oi oj hi hj => ?_⟩
  · by_cases hi : i < env.length
    · rw [List.getElem?_append_left hi] at e
      obtain ⟨w, h1, h2⟩ := F.sl i c e nn
      exact ⟨w, by rw [List.getElem?_append_left (by rw [← F.len]; exact hi)]; exact h1, h2⟩
    · rw [List.getElem?_append_right (by omega)] at e
      cases hj : i - env.length with
      | zero =>
        rw [hj] at e
        cases e
        exact ⟨v, by rw [List.getElem?_append_right (by rw [← F.len]; omega), ← F.len, hj]; rfl, .dat r⟩
      | succ j => rw [hj] at e; cases e
  · have hi' := own oi
    have hj' := own oj
    rw [List.getElem?_append_left (lt hi')] at hi
    rw [List.getElem?_append_left (lt hj')] at hj
    exact F.uq i j a hi' hj' hi hj
/-- count_first(n, x), x a kept lambda -/
def mCount (q : Str) (F : Addr → Addr → Heap → Prop) (m : EM) (am : AM) : EM := fun env Q => am env fun ds => ∃ (n : Nat) (p : Nat → Bool), ds = [.int (n : Int), .lam F (CodP q)] ∧ (∀ i, i < n → m (unOwn env ++ [.dat (.int (i : Int))]) fun d => d = .bl (p i)) ∧ ∀ r, Bs n p r → Q (.int (r : Int))
theorem se_count {C : Wd → XC → Prop} {q : Str} {F : Addr → Addr → Heap → Prop} {t : XK → TE} {m : EM} {ta : TA} {am : AM} {c : Nat} (h : SA C c ta am) (ht : SE (nx CA) 0 (t fun _ _ _ => False) m) : SE C c (tLamC2 q F t TCount ta) (mCount q F m am) := fun G g n O env σ H Qd Q hL Fr hm k =>
  h G g n O env σ H _ _ hL Fr hm fun ds vs H1 ⟨nn, p, ed, hp, hq⟩ gr ok1 r => by
    subst ed
    have F1 := Fr.grow gr ok1
    cases r with
    | cons a r =>
      cases a
      cases r with
      | cons b r =>
        cases r
        cases b with
        | lam e1 e2 =>
          have z1 := fun z => e1.2 (F1.wl.zo _ z)
          have z2 := fun z => e2.2 (F1.wl.zo _ z)
          refine ⟨_, _, _, rfl, rk_ext e1.1, rk_ext e2.1, nn, p, fun H' => Grow G.w H1 H' ∧ G.w.ok (n + c) H', rfl, ⟨Grow.refl _ _, ok1⟩, fun i hi H' ⟨g', ok'⟩ Q' hQ' => ⟨g' _ _ (rk_ext e2.1) z2, g' _ _ (rk_ext e1.1) z1, ?_⟩, fun r H' ⟨g', ok'⟩ b => k _ _ H' (hq r b) (gr.trans g') ok' (.int _)⟩
          have F2 := F1.grow g' ok'
          refine ht (Cfg.nx G.w H' O F2.wl.tr) trivial (n + c) O _ _ H' (fun d => d = .bl (p i)) Q' (Nat.le_trans hL G.x.le) ((F2.unOwn (G' := Cfg.nx G.w H' O F2.wl.tr) ⟨ok', F2.wl.zo, fun _ y => y, F2.wl.tr, Grow.refl _ _⟩ (LeA.refl _)).snoc (.int (i : Int))) (hp i hi) fun d v H'' hd g'' ok'' r => ?_
          subst hd
          cases r
          exact hQ' H'' ⟨g'.trans g'', ok''⟩
/-- lambda x: .., kept -/
theorem pe_lamV1 {X : Cx} {T : List (Addr × Str)} {c P : Addr} {pa : Arguments} {sc : Scope} {body : Expr} {lp : Pos} {x : Str} (TB : TabB X.base X.mg c P) (hcode : X.env.code = .ref c)
    (hmT : (P, X.env.qual ++ "<lambda>") ∈ T) (hu : ∀ p ∈ T, p.1 = P → p.2 = X.env.qual ++ "<lambda>") (L : LamS1 X.N X.env.scope sc x) (hdef : defaultsOf pa X.env = ([], [])) :
    PE X (.Lambda pa body sc lp) (tLamV P T (LamP (X.env.qual ++ "<lambda>") pa body sc (cloFrom X.env.cells sc.names [])) (X.env.qual ++ "<lambda>")) :=
  ⟨fun pins s σ H Q I ⟨hT, h⟩ => lam_track I TB hcode hmT hu hT hdef (L.has I.ok) fun f c' H1 s' eN T1 hfn hco I1 => ⟨.ref f, _, I1, rfl, h f c' H1 eN T1 hfn hco⟩⟩
end PL

/-! XD5: dict(list of pairs). -/
namespace PL
open PySem PySem.Spec PyProof.Rows L2
def kD : Key → D
  | .inl i => .int i
  | .inr s => .str s
def pairD (es : List (Key × D)) : List D := es.map fun kv => .tup [kD kv.1, kv.2]
theorem pairs_of {K : PySem.W.Frag} {O : Addr → Prop} {H : Hp} : ∀ {es : List (Key × D)} {xs : List V}, RpL (Sh O H) xs (pairD es) → ∃ (ps : List Addr) (kvs : List (Key × V)), xs = ps.map V.ref ∧ Paired (fun p (kv : Key × V) => SqT K H p [kV kv.1, kv.2]) ps kvs ∧ RpD (Sh O H) kvs es
  | [], _, .nil => ⟨[], [], rfl, .nil, .nil⟩
  | (k, d) :: es, _, .cons a r => by
    obtain ⟨ps, kvs, rfl, h1, h2⟩ := pairs_of (K := K) (es := es) r
    have a : Rp (Sh O H) _ (.tup [kD k, d]) := a
    cases a with
    | tup e q =>
      cases q with
      | cons b q =>
        cases q with
        | cons c q =>
          cases q
          rename_i x1 x2
          have e1 : x1 = kV k := by
            cases k with
            | inl i => cases b; rfl
            | inr s => cases b; rfl
          subst e1
          exact ⟨_ :: ps, (k, _) :: kvs, rfl, .cons (sqT (rk_tup e.1)) h1, .cons c h2⟩
def kDictP : List D → (D → Prop) → Prop := fun ds Q => ∃ es : List (Key × D), ds = [.lst (pairD es)] ∧ Q (.dic (mergeD [] es))
theorem kc_dictP {C : Wd → XC → Prop} {K : PySem.W.Frag} : KC C (fun xs H Q => ∃ (a : Addr) (ps : List Addr) (kvs : List (Key × V)), xs = [.ref a] ∧ SqL K H a (ps.map V.ref) ∧ Paired (fun p kv => SqT K H p [kV kv.1, kv.2]) ps kvs ∧ ∀ p, H p = none → Q (.ref p) (upd H p (.dK (mergeK [] kvs)))) kDictP := fun G _ n O H vs ds Qd Q W r ⟨es, ed, h⟩ q => by
  subst ed
  obtain ⟨v, rfl, r1⟩ := r.one
  obtain ⟨a, xs, rfl, e, r⟩ := r1.list
  obtain ⟨ps, kvs, rfl, h1, h2⟩ := pairs_of (K := K) r
  exact ⟨a, ps, kvs, rfl, sqL e, h1, fun p hp => q _ _ _ h (Grow.new _ hp) (Wd.okNew hp W.ok) (.dic ⟨.inl upd_same, W.free hp⟩ ((RpD.merge h2 .nil).mono (sh_grow W.zo (Grow.new _ hp))))⟩
/-- _law_caught(lambda: ..) whose body draws k times -/
theorem se_caughtC {C : Wd → XC → Prop} {C0 : Wd → Prop} {K : PySem.W.Frag} {P CE : Addr} {T : List (Addr × Str)} {k : Nat} (hW : ∀ w x, C w x → TbW P T w ∧ C0 w) {t : XK → TE} {mx : (Exn → Prop) → EM} (ht : ∀ E X0, SE (exC C0 E X0) k (t E) (mx X0)) : SE C k (tLamP P T (TCaught K CE) t) (mCaught K CE mx) := fun G g n O env σ H Qd Q hL F hm q => by
  obtain ⟨B, c0⟩ := hW _ _ g
  refine ⟨B.t n H F.wl.ok, fun H1 ex T1 => ?_⟩
  have gr : Grow G.w H H1 := fun b o e z => ex b o e fun y => z (y ▸ B.z)
  have F1 := F.grow gr (B.x n H H1 F.wl.ok ex T1)
  show t _ σ H1 _
  refine ht _ (fun e => PySem.W.exmOne K e.1 (.ref CE) = some true ∧ Qd (.exc e.1 e.2.1 e.2.2)) (⟨G.w, H1, O, F1.wl.tr, ⟨n + k, Nat.le_trans hL G.x.le, H1, fun c d H' => PySem.W.exmOne K c (.ref CE) = some true ∧ ∀ a, H' a = none → Q (.ref a) (upd H' a (ExcK c d a)), fun e => PySem.W.exmOne K e.1 (.ref CE) = some true ∧ Qd (.exc e.1 e.2.1 e.2.2)⟩, Grow.refl _ _, fun n' H' cv d e hn ok' g' a z => ?_⟩ : Cfg) ⟨c0, rfl, rfl⟩ n O (unOwn env) σ H1 (fun _ => Qd .non) (fun _ H' => Q .non H') (Nat.le_refl _) (F1.unOwn ⟨F1.wl.ok, F1.wl.zo, fun _ y => y, F1.wl.tr, Grow.refl _ _⟩ (LeA.refl _)) hm (fun d v H' hd g' ok' r => q .non .non H' hd (gr.trans g') ok' .non)
  refine ⟨by rw [a.1]; exact z.1, fun ad hn2 => ?_⟩
  have ok2 := G.w.up _ _ _ hn ok'
  have W2 := F1.wl.grow g' ok2
  have g2 : Grow G.w H' (upd H' ad (ExcK cv d ad)) := Grow.new _ hn2
  exact q _ _ _ z.2 (gr.trans (g'.trans g2)) (Wd.okNew hn2 ok2) (exn_rp a (sh_grow W2.zo g2) ⟨.inl upd_same, W2.free hn2⟩)
/-- a raising def whose world must hold more than any -/
theorem se_callXC {C0 C' : Wd → Prop} {ta : TA} {am : AM} {c k : Nat} {S : XS} {Er : XK} {X0 : Exn → Prop} (h : SA (exC C0 Er X0) c ta am) (hS : MonoX S) (hC : ∀ w, C0 w → C' w) : SE (exC C0 Er X0) (c + k) (tCall (spX C' k S) [] Er ta) (fun env Q => am env fun ds => S ds Q X0) := fun G g n O env σ H Qd Q hL F hm q =>
  h G g n O env σ H _ _ (by omega) F hm fun ds vs H1 h1 g1 ok1 r1 => by
    have F1 := F.grow g1 ok1
    obtain ⟨c0, eE, eX⟩ := g
    rw [List.append_nil]
    refine ⟨G.w, n + c, O, ds, hC _ c0, by have := G.x.le; omega, ok1, F1.wl.zo, F1.wl.tr, r1, hS ds _ _ _ _ (fun d hd v H' g' ok r => q d v H' hd (g1.trans g') (ok_as ok) r) (fun e he cv dd H' g' ok a => ?_) h1⟩
    rw [← eE]
    exact go_out (by omega) (F1.wl.grow g' ok) a (by rw [eX]; exact he)
theorem se_callNMC {C : Wd → XC → Prop} {C' : Wd → Prop} {c1 c2 m : Nat} {ix : List Nat} {t tr : TA} {am ar : AM} {E : XK} {S : XS} (h : SA C c1 t am) (h' : SA C c2 tr ar) (hS : MonoX S) (hC : ∀ w x, C w x → C' w) : SE C (c1 + c2) (tCallK (spX C' 0 S) (gM m ix) E t tr) (fun env Q => am env fun ds => ar env fun es => S (gM m ix ds es) Q fun _ => False) := fun G g n O env σ H Qd Q hL F hm q =>
  h G g n O env σ H _ _ (by omega) F hm fun ds vs H1 h1 g1 ok1 r1 => h' G g _ O env σ H1 _ _ (by omega) (F.grow g1 ok1) h1 fun es zs H2 h2 g2 ok2 r2 =>
    have F2 := (F.grow g1 ok1).grow g2 ok2
    ⟨G.w, n + c1 + c2, O, _, hC _ _ g, by have := G.x.le; omega, ok2, F2.wl.zo, F2.wl.tr, gM_rp m ix (r1.mono (sh_grow F.wl.zo g2)) r2, hS _ _ _ _ _ (fun d hd v H' g' ok r => q d v H' hd (g1.trans (g2.trans g')) (ok_le (by omega) (ok_as ok)) r) (fun e he => he.elim) h2⟩
/-- a drawing def from within what may raise -/
theorem se_callTC {C : Wd → XC → Prop} {C' : V → Wd → Prop} {c k : Nat} {t : TA} {am : AM} {S : V → List D → (D → Prop) → Prop} {E : XK} (tok : V) (h : SA C c t am) (hS : Mono (S tok)) (hC : ∀ w x, C w x → C' tok w) : SE C (c + k) (tCall (spT C' k S) [] E t) (mCall am (S tok)) := fun G g n O env σ H Qd Q hL F hm q =>
  h G g n O env σ H _ _ (by omega) F hm fun ds vs H1 h1 g1 ok1 r1 => by
    rw [List.append_nil]
    exact ⟨tok, call_sp (hC _ _ g) hS (by have := G.x.le; omega) (F.grow g1 ok1) r1 h1 fun d v H' hd g ok r => q d v H' hd (g1.trans g) (ok_as ok) r⟩
/-- a if t else b, as a test -/
def tIfT (tc ta tb : TT) : TT := fun σ H Q => tc σ H fun z H1 => if z = true then ta σ H1 Q else tb σ H1 Q
theorem pt_ifT {X : Cx} {c a b : Expr} {tc ta tb : TT} {pos : Pos} (hc : PT X c tc) (ha : PT X a ta) (hb : PT X b tb) : PT X (.IfExp c a b pos) (tIfT tc ta tb) := by
  refine ⟨fun pins s σ H Q I h => ?_⟩
  show wpAny _ _ (do if ← isTrue c X.env (eval c X.env) then isTrue a X.env (eval a X.env) else isTrue b X.env (eval b X.env)) _ _ s
  refine wpAny_bind (thn (hc.run pins s σ H _ I h) fun z s1 ⟨H1, I1, q1⟩ => ?_)
  cases z with
  | true =>
    rw [if_pos rfl] at q1 ⊢
    exact ha.run pins s1 σ H1 Q I1 q1
  | false =>
    rw [if_neg Bool.false_ne_true] at q1 ⊢
    exact hb.run pins s1 σ H1 Q I1 q1
def mIfT (mc ma mb : TM) : TM := fun env Q => mc env fun z => if z = true then ma env Q else mb env Q
theorem st_ifT {C : Wd → XC → Prop} {c1 c2 c3 : Nat} {tc ta tb : TT} {mc ma mb : TM} (hc : ST C c1 tc mc) (ha : ST C c2 ta ma) (hb : ST C c3 tb mb) : ST C (c1 + (c2 + c3)) (tIfT tc ta tb) (mIfT mc ma mb) := fun G g n O env σ H Qd Q hL F hm k =>
  hc G g n O env σ H _ _ (by omega) F hm fun z H1 h1 g1 ok1 => by
    have F1 := F.grow g1 ok1
    cases z with
    | true =>
      rw [if_pos rfl] at h1 ⊢
      exact ha G g (n + c1) O env σ H1 Qd Q (by omega) F1 h1 fun z H2 h2 g2 ok2 => k z H2 h2 (g1.trans g2) (ok_le (by omega) (ok_as ok2))
    | false =>
      rw [if_neg Bool.false_ne_true] at h1 ⊢
      exact hb G g (n + c1) O env σ H1 Qd Q (by omega) F1 h1 fun z H2 h2 g2 ok2 => k z H2 h2 (g1.trans g2) (ok_le (by omega) (ok_as ok2))
end PL

/-! XMK: min(xs, key=lambda x: ..): the first one of the least. -/
namespace PL
open PySem PySem.Spec PyProof.Rows L2 LamX
structure Fp0 (X : Cx) (pins : List (Addr × Obj)) (b : Addr) : Prop where
  l : b ≠ X.env.locals
  f : b ∉ X.fs
  x : b ∈ X.ex ∨ X.s_0.heap.objs.size ≤ b
  c : ∀ x c, X.env.cells.lookup x = some c → c ≠ b
  p : ∀ p ∈ X.pn ++ pins, p.1 ≠ b
section
variable {X : Cx} {pins : List (Addr × Obj)} {σ : L2.St} {H : Hp} {s : Shared}
theorem fp0_new (I : Inv X pins σ H s) {b : Addr} (hb : s.heap.objs.size ≤ b) : Fp0 X pins b := by
  obtain ⟨_, h1, h2, h3, h4, h5⟩ := I.fpOk hb (I.hok.fresh hb)
  exact ⟨h1, h2, h3, h4, h5⟩
theorem repin {pl pl' : List (Addr × Obj)} {it : Addr} {h' : Heap} {t' : Nat} (I : Inv X (pins ++ pl) σ H s) (F : Fp0 X pins it) (hn : H it = none) (k : ∀ b o, b ≠ it → s.heap.get? b = some o → h'.get? b = some o)
    (hp : ∀ p ∈ pl', h'.get? p.1 = some p.2 ∧ H p.1 = none ∧ p.1 ≠ X.env.locals ∧ p.1 ∉ X.fs ∧ ∀ v, p.2.data ≠ .cell v) : Inv X (pins ++ pl') σ H { s with heap := h', toks := t' } :=
  have I1 : Inv X pins σ H { s with heap := h', toks := t' } := I.unpinned.turned k hn F.l F.x F.c F.p
  I1.pins_of fun p h => (List.mem_append.mp h).elim (fun z => I1.pin p (List.mem_append_right _ z)) (hp p)
theorem vals_at : ∀ {xs : List V} {us : List Value} {i : Nat} {u : Value}, Vals xs us → us[i]? = some u → ∃ x, xs[i]? = some x ∧ RelV x u
  | _, _, _, _, .nil, h => by cases h
  | _, _, 0, _, .cons a _, h => by cases h; exact ⟨_, rfl, a⟩
  | _, _, i + 1, _, .cons _ r, h => vals_at (i := i) r h
/-- a lambda of one parameter, called by a built-in -/
theorem lam_called {params : Arguments} {body : Expr} {scope : Scope} {f c' : Addr} {x : Str} {k : Nat} {tb : TE} {v : V} {u : Value} {Q : VK} (I : Inv X pins σ H s) (L : LamS1 X.N X.env.scope scope x)
    (hbind : ∀ (u pm ctv : Value), bindArgs (PySem.W.kla_fn "<lambda>" (X.env.qual ++ "<lambda>") params body scope (cloFrom X.env.cells scope.names []) pm (.ref c') ctv) ⟨[u], []⟩ = pure [(x, u)]) (hr : Room (k + 2) X.A)
    (hbody : ∀ (A : Around) (outer : List Env) (s : Shared) (H : Hp), Room k (A.deeper (lamEnv X scope s.heap.objs.size f c')) → PE (lamCx1 X A outer s H (fun _ _ _ => False) scope f c' x) body tb)
    (hf : H f = some (.ext (LamP (X.env.qual ++ "<lambda>") params body scope (cloFrom X.env.cells scope.names []) f c'))) (hc : H c' = some (CodeO c' (X.env.qual ++ "<lambda>"))) (rv : RelV v u) (hb : tb (σ ++ [some v]) H Q) :
    wpAny (model X.prog X.w) X.A.in1 (call (.ref f) [u]) (EP X pins σ Q) (fun _ _ => False) s := by
  obtain ⟨⟨pm, ctv, of1⟩, _, _⟩ := I.hok f _ hf
  obtain ⟨⟨oc, ws, t, hoc, hdc, hvc⟩, _, _⟩ := I.hok c' _ hc
  have hr1 : Room (k + 1) X.A.in1 := hr.in1
  have rc : codeAny (model X.prog X.w) X.A.in1 (.call (.ref f) ⟨[u], []⟩) (CR (L2.CX X.prog X.w) X.stack X.prog X.w H s Q (fun _ _ _ => False)) s := by
    refine PySem.W.kla_callFunE hr1.depth of1 rfl L.co L.gen rfl ⟨c', oc, ws, t, rfl, hoc, hdc, hvc⟩ ?_
    rw [hbind]
    refine wpAny_pure (wpAny_newFunctionEnv (fun y hy => (L.own y hy).1) (fun y hy => by rw [List.mem_singleton.mp hy]; exact L.par) (fun h₁ hns hsb => ⟨I.nolimit.fresh _ hsb, ?_⟩) L.kind)
    have kp : ∀ b o, s.heap.get? b = some o → h₁.get? b = some o := fun b o e => hsb.extBut b o (Nat.ne_of_lt (Heap.lt_size e)) (Heap.get?_push_of_some _ e)
    have J : Inv (lamCx1 X X.A.in1 X.stack s H (fun _ _ _ => False) scope f c' x) [] (σ ++ [some v]) H { s with heap := h₁, toks := s.toks + [(x, u)].length } :=
      lam_start1 I L rv I.env0.in1 hr1.hd Un.refl hns kp
    exact PySem.W.kla_codeExpr (wpAny_mono ((hbody _ _ s H (hr1.deeper _)).run [] _ _ H Q J hb) (fun v s' ⟨w', H', J', rv, q⟩ => ⟨w', H', J'.os, J'.bare, J'.base, J'.hok, rv, q⟩) fun e s' hq => hq)
  refine wpAny_call (codeAny_mono rc fun r s' hq => ?_)
  match r, hq with
  | .error e, hq =>
    obtain ⟨_, _, _, _, _, _, _, _, _, _, _, _, z⟩ := hq
    exact z.elim
  | .ok (.ret u), hq => exact I.after hq
  | .ok .next, hq => exact hq.elim
  | .ok .brk, hq => exact hq.elim
  | .ok .cont, hq => exact hq.elim

theorem min_loop {k : Nat} {a J S q : Addr} {xs : List V} {kf : Nat → Int} {W : Hp → Prop} {R : Result → Shared → Prop} (hr : Room k X.A) (hJS : S ≠ J) (haJ : a ≠ J) (haS : a ≠ S) (FJ : Fp0 X pins J) (FS : Fp0 X pins S) (hW : ∀ H, W H → SqL X.K H a xs)
    (turn : ∀ (i : Nat) v, xs[i]? = some v → ∀ pins s H u, Inv X pins σ H s → W H → RelV v u → wpAny (model X.prog X.w) X.A.in1 (call (.ref q) [u]) (EP X pins σ fun w H' => w = .int (kf i) ∧ W H') (fun _ _ => False) s)
    (hR : ∀ (i : Nat) v H s u, xs[i]? = some v → (∀ j, j < xs.length → kf i ≤ kf j ∧ (j < i → kf i < kf j)) → Inv X pins σ H s → W H → RelV v u → R (.ok (.ret u)) s) :
    ∀ (r j i : Nat) (s : Shared) (H : Hp) (v : V) (vb : Value) (tb : Tok) (c : Nat) (oJ : Obj), xs.length - (j + 1) = r → j + 1 ≤ xs.length → Inv X (pins ++ [(S, seqObj "list" #[vb, .int (kf i) tb] c), (J, oJ)]) σ H s → W H → s.heap.IsListIter J a (j + 1) → xs[i]? = some v → RelV v vb → i ≤ j →
      (∀ j', j' ≤ j → kf i ≤ kf j' ∧ (j' < i → kf i < kf j')) → codeAny (model X.prog X.w) X.A (.builtin "min.loop" ⟨[.ref J, .ref q, .ref S], []⟩) R s := by
  have hname : (toString "min" ++ toString ".loop" : String) = "min.loop" := by decide
  have hh : X.A.in1.handled = none := hr.hd
  intro r
  induction r with
  | zero =>
    intro j i s H v vb tb c oJ hr0 hj I w hit hvb rv hij hbest
    have hin : j + 1 = xs.length := by omega
    obtain ⟨its, rvs, hpl, hz⟩ := I.list (hW H w)
    have nS := I.pin (S, seqObj "list" #[vb, .int (kf i) tb] c) (List.mem_append_right _ (List.mem_append_right _ (.head _)))
    have nJ := I.pin (J, oJ) (List.mem_append_right _ (List.mem_append_right _ (.tail _ (.head _))))
    have Wk := Walks.list (prog := X.prog) (w := X.w) (A := X.A.in1) hh J a haJ its.toArray
    have hsz : its.toArray.size = xs.length := (List.size_toArray ..).trans rvs.length.symm
    refine codeAny_builtin PySem.F.entry_min_loop ?_
    rw [Around.under_plainId PySem.F.plain_min_loop _]
    show wpAny _ X.A.in1 (seqItems? (.ref S) >>= _) _ _ _
    refine wpAny_bind (wpAny_seqItems nS.1 rfl ?_)
    show wpAny _ X.A.in1 (tryCatch (pyNext (.ref J)) _ >>= _) _ _ _
    refine wpAny_bind (wpAny_tryCatch (Wk.done _ _ _ ⟨by rw [hsz, ← hin]; exact hit, hpl.isList⟩ fun h' tk' hk' => ?_))
    have hS' := hk' S _ (by simpa using hJS) nS.1
    have I1 : Inv X (pins ++ [(S, seqObj "list" #[vb, .int (kf i) tb] c)]) σ H { s with heap := h', toks := tk' } := repin I FJ nJ.2.1 (fun b o hb e => hk' b o (by simpa using hb) e) fun p hp => by
      rw [List.mem_singleton.mp hp]; exact ⟨hS', nS.2⟩
    have s1 := Heap.SameBut.update h' S (Obj.mapSeq fun _ => (#[] : Array Value))
    show wpAny _ X.A.in1 (updateSeq S (fun _ => #[]) >>= _) _ _ _
    refine wpAny_bind ?_
    refine wpAny_updateSeq hS' rfl (wpAny_bind (wpAny_letGo (wpAny_pure ?_)))
    have I2 := repin (pl' := []) (t' := tk') (h' := h'.update S (Obj.mapSeq fun _ => (#[] : Array Value))) I1 FS nS.2.1 (fun b o hb e => (s1.2 b hb).trans e) (fun p hp => absurd hp List.not_mem_nil)
    rw [List.append_nil] at I2
    exact hR i v H _ vb hvb (fun j' hj' => hbest j' (by omega)) I2 w rv
  | succ r ih =>
    intro j i s H v vb tb c oJ hr0 hj I w hit hvb rv hij hbest
    have hlt : j + 1 < xs.length := by omega
    obtain ⟨its, rvs, hpl, hz⟩ := I.list (hW H w)
    have nS := I.pin (S, seqObj "list" #[vb, .int (kf i) tb] c) (List.mem_append_right _ (List.mem_append_right _ (.head _)))
    have nJ := I.pin (J, oJ) (List.mem_append_right _ (List.mem_append_right _ (.tail _ (.head _))))
    have Wk := Walks.list (prog := X.prog) (w := X.w) (A := X.A.in1) hh J a haJ its.toArray
    have hsz : its.toArray.size = xs.length := (List.size_toArray ..).trans rvs.length.symm
    refine codeAny_builtin PySem.F.entry_min_loop ?_
    rw [Around.under_plainId PySem.F.plain_min_loop _]
    show wpAny _ X.A.in1 (seqItems? (.ref S) >>= _) _ _ _
    refine wpAny_bind (wpAny_seqItems nS.1 rfl ?_)
    show wpAny _ X.A.in1 (tryCatch (pyNext (.ref J)) _ >>= _) _ _ _
    refine wpAny_bind (wpAny_tryCatch (Wk.item (j + 1) _ _ _ (by rw [hsz]; exact hlt) ⟨hit, hpl.isList⟩ fun y h' tk' hP hst' hk' => ?_))
    have hy : its[j + 1]? = some y := by simpa using hP
    obtain ⟨x, hx, rx⟩ := vals_at rvs hy
    obtain ⟨oJ', hoJ', hoc, hod⟩ := id hst'.1
    have I1 : Inv X (pins ++ [(S, seqObj "list" #[vb, .int (kf i) tb] c), (J, oJ')]) σ H { s with heap := h', toks := tk' } := repin I FJ nJ.2.1 (fun b o hb e => hk' b o (by simpa using hb) e) fun p hp => by
      rcases List.mem_cons.mp hp with rfl | hp
      · exact ⟨hk' S _ (by simpa using hJS) nS.1, nS.2⟩
      · rw [List.mem_singleton.mp hp]
        exact ⟨hoJ', nJ.2.1, nJ.2.2.1, nJ.2.2.2.1, fun v z => by rw [hod] at z; cases z⟩
    show wpAny _ X.A.in1 (tryCatch (holding [y] (call (.ref q) [y])) _ >>= _) _ _ _
    refine wpAny_bind (wpAny_tryCatch (wpAny_holding (wpAny_mono (turn (j + 1) x hx _ _ H y I1 w rx) (fun z s'' he => ?_) fun _ _ hF => hF.elim)))
    obtain ⟨v2, H2, I2, r2, e2, w2⟩ := he
    subst e2
    obtain ⟨t2, rfl⟩ : ∃ t2, z = .int (kf (j + 1)) t2 := r2
    have nS2 := I2.pin (S, seqObj "list" #[vb, .int (kf i) tb] c) (List.mem_append_right _ (List.mem_append_right _ (.head _)))
    have nJ2 := I2.pin (J, oJ') (List.mem_append_right _ (List.mem_append_right _ (.tail _ (.head _))))
    have hit2 : s''.heap.IsListIter J a (j + 1 + 1) := ⟨oJ', nJ2.1, hoc, hod⟩
    show wpAny _ X.A.in1 (tryCatch (holding [y, .int (kf (j + 1)) t2] (richCompare .Lt (.int (kf (j + 1)) t2) (.int (kf i) tb) >>= _)) _ >>= _) _ _ _
    refine wpAny_bind (wpAny_tryCatch (wpAny_holding (wpAny_bind (CmpOf.ints_lt (prog := X.prog) (w := X.w) (A := X.A.in1) (P := fun i v => ∃ t, v = .int (kf i) t) kf (fun i v h => h) (j + 1) i _ _ _ _ _ ⟨t2, rfl⟩ ⟨tb, rfl⟩ ?_))))
    refine wpAny_bind (wpAny_holding (wpAny_truthy_bool ?_))
    refine wpAny_bind (wpAny_letGo (wpAny_pure ?_))
    by_cases hb' : kf (j + 1) < kf i
    · have s1 := Heap.SameBut.update s''.heap S (Obj.mapSeq fun _ => #[y, .int (kf (j + 1)) t2])
      obtain ⟨c2, hc2⟩ : ∃ c2, (s''.heap.update S (Obj.mapSeq fun _ => #[y, .int (kf (j + 1)) t2])).get? S = some (seqObj "list" #[y, .int (kf (j + 1)) t2] c2) := ⟨_, get?_update_seq nS2.1 fun _ => #[y, .int (kf (j + 1)) t2]⟩
      simp only [hb', decide_true, if_true]
      refine wpAny_bind ?_
      refine wpAny_updateSeq nS2.1 rfl (wpAny_bind (wpAny_letGo ?_))
      rw [hname]
      have I3 := repin (pl' := [(S, seqObj "list" #[y, .int (kf (j + 1)) t2] c2), (J, oJ')]) (t' := s''.toks) (h' := s''.heap.update S (Obj.mapSeq fun _ => #[y, .int (kf (j + 1)) t2])) I2 FS nS2.2.1 (fun b o hb e => (s1.2 b hb).trans e) (fun p hp => by
        rcases List.mem_cons.mp hp with rfl | hp
        · exact ⟨hc2, nS2.2.1, nS2.2.2.1, nS2.2.2.2.1, fun v z => by cases z⟩
        · rw [List.mem_singleton.mp hp]
          exact ⟨(s1.2 J hJS.symm).trans nJ2.1, nJ2.2⟩)
      refine wpAny_pure ⟨plainId_quiet PySem.F.plain_min_loop _, ih (j + 1) (j + 1) _ H2 x y t2 c2 oJ' (by omega) hlt I3 w2 ⟨oJ', (s1.2 J hJS.symm).trans nJ2.1, hoc, hod⟩ hx rx (Nat.le_refl _) fun j' hj' => ?_⟩
      by_cases e : j' = j + 1
      · subst e
        exact ⟨by omega, fun _ => by omega⟩
      · have hb1 := hbest j' (by omega)
        have hb2 := hb1.1
        exact ⟨by omega, fun _ => by omega⟩
    · simp only [hb', decide_false, Bool.false_eq_true, if_false]
      refine wpAny_bind (wpAny_letGo ?_)
      rw [hname]
      refine wpAny_pure ⟨plainId_quiet PySem.F.plain_min_loop _, ih (j + 1) i _ H2 v vb tb c oJ' (by omega) hlt I2 w2 hit2 hvb rv (by omega) fun j' hj' => ?_⟩
      by_cases e : j' = j + 1
      · subst e
        exact ⟨by omega, fun _ => by omega⟩
      · exact hbest j' (by omega)

theorem min_call {k : Nat} {a q : Addr} {xs : List V} {kf : Nat → Int} {W : Hp → Prop} {Q : VK} {E : Value → Shared → Prop} (hr : Room k X.A) (I : Inv X pins σ H s) (hW : ∀ H, W H → SqL X.K H a xs) (w : W H) (hne : 0 < xs.length)
    (turn : ∀ (i : Nat) v, xs[i]? = some v → ∀ pins s H u, Inv X pins σ H s → W H → RelV v u → wpAny (model X.prog X.w) X.A.in1 (call (.ref q) [u]) (EP X pins σ fun w H' => w = .int (kf i) ∧ W H') (fun _ _ => False) s)
    (hQ : ∀ (i : Nat) v H, xs[i]? = some v → (∀ j, j < xs.length → kf i ≤ kf j ∧ (j < i → kf i < kf j)) → W H → Q v H) :
    wpAny (model X.prog X.w) X.A (call (.builtin "min") [.ref a] [(Str.ofString "key", .ref q)]) (EP X pins σ Q) E s := by
  have hname : (toString "min" ++ toString ".loop" : String) = "min.loop" := by decide
  have hh : X.A.in1.handled = none := hr.hd
  obtain ⟨its, rvs, hpl, hz⟩ := I.list (hW H w)
  have hls := hpl.isList
  obtain ⟨ol, hol, _⟩ := id hls
  have hll : a < s.heap.objs.size := Heap.lt_size hol
  refine kmk_tree PySem.F.kind_min PySem.F.plain_min PySem.F.entry_min (kmk_min_key _ _) ?_
  show wpAny _ _ (Builtin.Builtins.bindParams "min" ["key", "default"] 0 ⟨[], [(Str.ofString "key", .ref q)]⟩ >>= _) _ _ s
  refine wpAny_bind (wpAny_of_eq (show Builtin.Builtins.bindParams "min" ["key", "default"] 0 ⟨[], [(Str.ofString "key", .ref q)]⟩ = pure [some (.ref q), none] from rfl) ?_)
  refine wpAny_bind (wpAny_pure ?_)
  refine wpAny_bind (wpAny_pyIter_list hls ?_)
  refine wpAny_bind (wpAny_newList ?_ (Nat.zero_le _))
  rw [hname]
  have hS : (s.heap.push { cls := .type "list_iterator", data := .fields #[.ref a, .int 0 0] }).objs.size = s.heap.objs.size + 1 := size_push' ..
  have haJ : a ≠ s.heap.objs.size := Nat.ne_of_lt hll
  have hSJ : (s.heap.push { cls := .type "list_iterator", data := .fields #[.ref a, .int 0 0] }).objs.size ≠ s.heap.objs.size := by rw [hS]; exact Nat.ne_of_gt (Nat.lt_succ_self _)
  have haS : a ≠ (s.heap.push { cls := .type "list_iterator", data := .fields #[.ref a, .int 0 0] }).objs.size := by rw [hS]; exact Nat.ne_of_lt (Nat.lt_succ_of_lt hll)
  refine wpAny_pure ⟨plainId_quiet PySem.F.plain_min_loop _, ?_⟩
  have FJ := fp0_new I (Nat.le_refl s.heap.objs.size)
  have FS := fp0_new I (b := (s.heap.push { cls := .type "list_iterator", data := .fields #[.ref a, .int 0 0] }).objs.size) (by rw [hS]; exact Nat.le_succ _)
  have gJ : ((s.heap.push { cls := .type "list_iterator", data := .fields #[.ref a, .int 0 0] }).push (seqObj "list" #[] 0)).get? s.heap.objs.size = some { cls := .type "list_iterator", data := .fields #[.ref a, .int 0 0] } :=
    Heap.get?_push_of_some _ (Heap.get?_push_size _ rfl)
  have gS : ((s.heap.push { cls := .type "list_iterator", data := .fields #[.ref a, .int 0 0] }).push (seqObj "list" #[] 0)).get? (s.heap.push { cls := .type "list_iterator", data := .fields #[.ref a, .int 0 0] }).objs.size = some (seqObj "list" #[] 0) := Heap.get?_push_size _ rfl
  have kp : ∀ b o, s.heap.get? b = some o → ((s.heap.push { cls := .type "list_iterator", data := .fields #[.ref a, .int 0 0] }).push (seqObj "list" #[] 0)).get? b = some o := fun b o e => Heap.get?_push_of_some _ (Heap.get?_push_of_some _ e)
  have hJn : H s.heap.objs.size = none := I.hok.fresh (Nat.le_refl _)
  have hSn : H (s.heap.push { cls := .type "list_iterator", data := .fields #[.ref a, .int 0 0] }).objs.size = none := I.hok.fresh (by rw [hS]; exact Nat.le_succ _)
  generalize hSd : (s.heap.push { cls := .type "list_iterator", data := .fields #[.ref a, .int 0 0] }).objs.size = S at *
  generalize hJd : s.heap.objs.size = J at *
  generalize hhd : (s.heap.push { cls := .type "list_iterator", data := .fields #[.ref a, .int 0 0] }).push (seqObj "list" #[] 0) = h1 at *
  have I0 : Inv X pins σ H { s with heap := h1, toks := s.toks } := I.kept kp
  have Wk := Walks.list (prog := X.prog) (w := X.w) (A := X.A.in1) hh J a haJ its.toArray
  have hsz : its.toArray.size = xs.length := (List.size_toArray ..).trans rvs.length.symm
  obtain ⟨its1, rvs1, hpl1, hz1⟩ := I0.list (hW H w)
  have Wk := Walks.list (prog := X.prog) (w := X.w) (A := X.A.in1) hh J a haJ its1.toArray
  have hsz : its1.toArray.size = xs.length := (List.size_toArray ..).trans rvs1.length.symm
  refine codeAny_builtin PySem.F.entry_min_loop ?_
  rw [Around.under_plainId PySem.F.plain_min_loop _]
  show wpAny _ X.A.in1 (seqItems? (.ref _) >>= _) _ _ _
  refine wpAny_bind (wpAny_seqItems gS rfl ?_)
  show wpAny _ X.A.in1 (tryCatch (pyNext (.ref J)) _ >>= _) _ _ _
  refine wpAny_bind (wpAny_tryCatch (Wk.item 0 _ _ _ (by rw [hsz]; exact hne) ⟨⟨_, gJ, rfl, rfl⟩, hpl1.isList⟩ fun y h' tk' hP hst' hk' => ?_))
  have hy : its1[0]? = some y := by simpa using hP
  obtain ⟨x, hx, rx⟩ := vals_at rvs1 hy
  obtain ⟨oJ', hoJ', hoc, hod⟩ := id hst'.1
  have I1 : Inv X (pins ++ [(S, seqObj "list" #[] 0), (J, oJ')]) σ H { s with heap := h', toks := tk' } := repin (s := { s with heap := h1, toks := s.toks }) (pl := []) (by rw [List.append_nil]; exact I0) FJ hJn (fun b o hb e => hk' b o (by simpa using hb) e) fun p hp => by
    rcases List.mem_cons.mp hp with rfl | hp
    · exact ⟨hk' S _ (by simpa using hSJ) gS, hSn, FS.l, FS.f, fun v z => by cases z⟩
    · rw [List.mem_singleton.mp hp]
      exact ⟨hoJ', hJn, FJ.l, FJ.f, fun v z => by rw [hod] at z; cases z⟩
  show wpAny _ X.A.in1 (tryCatch (holding [y] (call (.ref q) [y])) _ >>= _) _ _ _
  refine wpAny_bind (wpAny_tryCatch (wpAny_holding (wpAny_mono (turn 0 x hx _ _ H y I1 w rx) (fun z s'' he => ?_) fun _ _ hF => hF.elim)))
  obtain ⟨v2, H2, I2, r2, e2, w2⟩ := he
  subst e2
  obtain ⟨t2, rfl⟩ : ∃ t2, z = .int (kf 0) t2 := r2
  have nS2 := I2.pin (S, seqObj "list" #[] 0) (List.mem_append_right _ (List.mem_append_right _ (.head _)))
  have nJ2 := I2.pin (J, oJ') (List.mem_append_right _ (List.mem_append_right _ (.tail _ (.head _))))
  have s1 := Heap.SameBut.update s''.heap S (Obj.mapSeq fun _ => #[y, .int (kf 0) t2])
  obtain ⟨c2, hc2⟩ : ∃ c2, (s''.heap.update S (Obj.mapSeq fun _ => #[y, .int (kf 0) t2])).get? S = some (seqObj "list" #[y, .int (kf 0) t2] c2) := ⟨_, get?_update_seq nS2.1 fun _ => #[y, .int (kf 0) t2]⟩
  show wpAny _ X.A.in1 (updateSeq S (fun _ => #[y, .int (kf 0) t2]) >>= _) _ _ _
  refine wpAny_bind ?_
  refine wpAny_updateSeq nS2.1 rfl ?_
  rw [hname]
  have I3 := repin (pl' := [(S, seqObj "list" #[y, .int (kf 0) t2] c2), (J, oJ')]) (t' := s''.toks) (h' := s''.heap.update S (Obj.mapSeq fun _ => #[y, .int (kf 0) t2])) I2 FS nS2.2.1 (fun b o hb e => (s1.2 b hb).trans e) (fun p hp => by
    rcases List.mem_cons.mp hp with rfl | hp
    · exact ⟨hc2, nS2.2.1, nS2.2.2.1, nS2.2.2.2.1, fun v z => by cases z⟩
    · rw [List.mem_singleton.mp hp]
      exact ⟨(s1.2 J hSJ.symm).trans nJ2.1, nJ2.2⟩)
  refine wpAny_pure ⟨plainId_quiet PySem.F.plain_min_loop _, min_loop hr hSJ haJ haS FJ FS hW turn (R := fun r s' => match r with | .ok (.ret v) => EP X pins σ Q v s' | .ok _ => False | .error e => E e s') (fun i v H s u h1 h2 h3 h4 h5 => ⟨v, H, h3, h5, hQ i v H h1 h2 h4⟩) _ 0 0 _ H2 x y t2 c2 oJ' rfl hne I3 w2 ⟨oJ', (s1.2 J hSJ.symm).trans nJ2.1, hoc, hod⟩ hx rx (Nat.le_refl _) fun j' hj' => ?_⟩
  have e : j' = 0 := by omega
  subst e
  exact ⟨by omega, fun h => absurd h (Nat.lt_irrefl _)⟩
/-- min(xs, key=x), x a kept lambda of this def -/
def tMinK (K : PySem.W.Frag) (q : Str) (F : Addr → Addr → Heap → Prop) (t : XK → TE) (ta tk : TA) : TE := fun σ H Q => ta σ H fun vs H1 => tk σ H1 fun zs H2 => ∃ (a f c' : Addr) (xs : List V) (kf : Nat → Int) (W : Hp → Prop), vs = [.ref a] ∧ zs = [.ref f] ∧ 0 < xs.length ∧ W H2 ∧
  (∀ H', W H' → SqL K H' a xs ∧ H' f = some (.ext (F f c')) ∧ H' c' = some (CodeO c' q)) ∧ (∀ (i : Nat) v, xs[i]? = some v → ∀ H', W H' → t (fun _ _ _ => False) (σ ++ [some v]) H' fun u H'' => u = .int (kf i) ∧ W H'') ∧
  ∀ (i : Nat) v H', xs[i]? = some v → (∀ j, j < xs.length → kf i ≤ kf j ∧ (j < i → kf i < kf j)) → W H' → Q v H'
theorem pe_minK {k : Nat} {F : Addr → Addr → Heap → Prop} {t : XK → TE} {e ek : Expr} {ta tk : TA} {p pos kp : Pos} (hr : Room (k + 2) X.A) (hL : LamI1 X k F t) (hg : Gl X "min") (hm : X.mg "min" = none) (ha : PA X [e] ta) (hk : PK X [⟨some "key", ek, kp⟩] tk)
    (he : backTo pos (starEach [e] X.env) = (false, eval e X.env) :: backTo pos (starEach [] X.env) := by rfl) (hpl : (backTo pos (starEach [e] X.env)).any (·.1) = false := by rfl)
    (hall : (backToKw pos (keywordEach [⟨some "key", ek, kp⟩] X.env)).all (·.1.isSome) = true := by rfl) (hnone : (backToKw pos (keywordEach [⟨some "key", ek, kp⟩] X.env)).any (·.1.isNone) = false := by rfl) (hks : (backToKw pos (keywordEach [⟨some "key", ek, kp⟩] X.env)).filterMap (·.1) = [Str.ofString "key"] := by rfl) :
    PE X (.Call (.Name "min" p) [e] [⟨some "key", ek, kp⟩] pos) (tMinK X.K (X.env.qual ++ "<lambda>") F t ta tk) := by
  refine ⟨fun pins s σ H Q I h => ?_⟩
  refine wpAny_Call_Name_kw (ld_blt (u := .builtin "min") I hg hm (by decide +kernel) ?_ (by decide) (by decide))
  refine PyProof.Rows.callWith_kw (thn (ha.run pos pins s σ H _ I h) fun us s1 ⟨vs, H1, I1, r1, q1⟩ => thn (hk.run pos pins s1 σ H1 _ I1 q1) fun ws s2 ⟨zs, H2, I2, r2, q2⟩ => ?_) he hpl hall hnone
  rw [hks]
  obtain ⟨a, f, c', xs, kf, W, e1, e2, hne, w, hW, hT, hQ⟩ := q2
  subst e1
  subst e2
  obtain rfl := Vals.ref1 r1
  obtain rfl := Vals.ref1 r2
  obtain ⟨pa, body, sc, y, eF, L1, hbind, hbody⟩ := hL.ex
  refine min_call hr I2 (fun H h => (hW H h).1) w hne (fun i v hv pins s H u I w rv => ?_) (fun i v H h1 h2 h3 => hQ i v H h1 h2 h3)
  obtain ⟨_, h2, h3⟩ := hW H w
  exact lam_called I L1 (fun u _ _ => hbind u _ _ _ _ _) hr (fun A outer s H r3 => hbody A outer s H _ f c' r3) (by rw [← eF]; exact h2) h3 rv (hT i v hv H w)
end
/-- the same, as data -/
def mMinK (q : Str) (F : Addr → Addr → Heap → Prop) (m : EM) (am ak : AM) : EM := fun env Q => am env fun ds => ak env fun es => ∃ (l : List D) (kf : Nat → Int), ds = [.lst l] ∧ es = [.lam F (CodP q)] ∧ 0 < l.length ∧ (∀ (i : Nat) d, l[i]? = some d → m (unOwn env ++ [.dat d]) fun d' => d' = .int (kf i)) ∧
  ∀ (i : Nat) d, l[i]? = some d → (∀ j, j < l.length → kf i ≤ kf j ∧ (j < i → kf i < kf j)) → Q d
theorem se_minK {C : Wd → XC → Prop} {K : PySem.W.Frag} {q : Str} {F : Addr → Addr → Heap → Prop} {t : XK → TE} {m : EM} {ta tk : TA} {am ak : AM} {c1 c2 : Nat} (h : SA C c1 ta am) (hk : SA C c2 tk ak) (ht : SE (nx CA) 0 (t fun _ _ _ => False) m) : SE C (c1 + c2) (tMinK K q F t ta tk) (mMinK q F m am ak) := fun G g n O env σ H Qd Q hL Fr hm k =>
  h G g n O env σ H _ _ (by omega) Fr hm fun ds vs H1 h1 gr1 ok1 r1 => hk G g _ O env σ H1 _ _ (by omega) (Fr.grow gr1 ok1) h1 fun es zs H2 ⟨l, kf, e1, e2, hne, hp, hq⟩ gr2 ok2 r2 => by
    subst e1
    subst e2
    have F2 := (Fr.grow gr1 ok1).grow gr2 ok2
    have r1' := r1.mono (sh_grow (Fr.grow gr1 ok1).wl.zo gr2)
    cases r1' with
    | cons a r =>
      cases r
      cases r2 with
      | cons b r =>
        cases r
        cases a with
        | lst ea ra =>
          cases b with
          | lam e1 e2 =>
            have ea1 := rk_lst ea.1
            have z1 := fun z => e1.2 (F2.wl.zo _ z)
            have z2 := fun z => e2.2 (F2.wl.zo _ z)
            have z3 := fun z => ea.2 (F2.wl.zo _ z)
            refine ⟨_, _, _, _, kf, fun H' => Grow G.w H2 H' ∧ G.w.ok (n + c1 + c2) H', rfl, rfl, by rw [ra.length]; exact hne, ⟨Grow.refl _ _, ok2⟩, fun H' ⟨g', ok'⟩ => ⟨sqL (g' _ _ ea1 z3), g' _ _ (rk_ext e1.1) z1, g' _ _ (rk_ext e2.1) z2⟩, fun i v hv H' ⟨g', ok'⟩ => ?_, fun i v H' hv hb ⟨g', ok'⟩ => ?_⟩
            · obtain ⟨d, hd, rd⟩ := ra.getV hv
              have F3 := F2.grow g' ok'
              have rd3 := rd.mono (sh_grow F2.wl.zo g')
              refine ht (Cfg.nx G.w H' O F3.wl.tr) trivial (n + c1 + c2) O _ _ H' (fun d => d = .int (kf i)) _ (by have := G.x.le; show _ ≤ LIM; omega) ((F3.unOwn (G' := Cfg.nx G.w H' O F3.wl.tr) ⟨ok', F3.wl.zo, fun _ y => y, F3.wl.tr, Grow.refl _ _⟩ (LeA.refl _)).snoc rd3) (hp i d hd) fun d v H'' hd g'' ok'' r => ?_
              subst hd
              cases r
              exact ⟨rfl, g'.trans g'', ok''⟩
            · obtain ⟨d, hd, rd⟩ := ra.getV hv
              exact k d v H' (hq i d hd (by rw [← ra.length]; exact hb)) (gr1.trans (gr2.trans g')) (ok_le (by omega) (ok_as ok')) (rd.mono (sh_grow F2.wl.zo g'))
end PL

/-! XM2: max of two ints, tuple(reversed(list)), a list unpacked. -/
namespace PL
open PySem PySem.Spec PyProof.Rows L2
section
variable {C : Wd → XC → Prop} {K : PySem.W.Frag}
def kMax2 : List D → (D → Prop) → Prop := fun ds Q => match ds with | [.int i, .int j] => Q (.int (if j > i then j else i)) | _ => False
theorem kc_max2 : KC C (fun xs H Q => ∃ i j, xs = [.int i, .int j] ∧ Q (.int (if j > i then j else i)) H) kMax2 := fun G _ n O H vs ds Qd Q W r h q => by
  unfold kMax2 at h
  split at h
  · obtain ⟨v, w, rfl, r1, r2⟩ := r.two
    cases r1.int; cases r2.int
    exact ⟨_, _, rfl, q _ _ H h (Grow.refl _ _) W.ok (.int _)⟩
  · exact h.elim
def mTupRev (m : EM) : EM := fun env Q => m env fun d => match d with | .lst l => Q (.tup l.reverse) | _ => False
theorem se_tupRev {c : Nat} {te : TE} {m : EM} (h : SR C c te m) : SE C c (RT.tTupRev K te) (mTupRev m) := fun G g n O env σ H Qd Q hL F hm k =>
  h G g n O env σ H _ _ hL F hm fun d v H1 h1 g1 ok1 r1 => by
    split at h1
    · obtain ⟨a, xs, rfl, e, r⟩ := r1.list
      refine ⟨a, xs, rfl, sqL e, fun p hp => k _ _ _ h1 (g1.trans (Grow.new _ hp)) (Wd.okNew hp ok1) ?_⟩
      exact new_tup (F.wl.grow g1 ok1) hp r.rev
    · exact h1.elim
def gU (n : Nat) (ms : GMs) : GM := fun env d Q => match d with | .lst ds => ds.length = n ∧ ms env ds Q | _ => False
theorem sg_unl {vs : List Nat} {gs : TGs} {mgs : GMs} {l : Nat} (h : SGs C vs gs mgs) : SG C vs (gUnl K l gs) (gU l mgs) := fun G c n O env σ H d v Qd Q F r hm k => by
  unfold gU at hm
  split at hm
  · cases r with
    | lst e r => exact ⟨_, _, rfl, sqL (rk_lst e.1), by rw [r.length]; exact hm.1, h G c n O env σ H _ _ _ _ F r hm.2 k⟩
  · exact hm.elim
def kMinL : List D → (D → Prop) → Prop := fun ds Q => ∃ ns : List Int, ds = [.lst (ns.map D.int)] ∧ 0 < ns.length ∧ ∀ M, M ∈ ns → (∀ a ∈ ns, M ≤ a) → Q (.int M)
theorem kc_minL : KC C (rMin K) kMinL := fun G _ n O H vs ds Qd Q W r h q => by
  obtain ⟨ns, rfl, hne, h⟩ := h
  obtain ⟨v, rfl, r1⟩ := r.one
  obtain ⟨a, xs, rfl, e, r⟩ := r1.list
  have e2 := r.ints
  subst e2
  exact ⟨a, ns, rfl, sqL e, hne, fun M h1 h2 => q _ _ H (h M h1 h2) (Grow.refl _ _) W.ok (.int _)⟩
theorem se_callXMC {C0 C' : Wd → Prop} {c1 c2 m : Nat} {ix : List Nat} {t tr : TA} {am ar : AM} {S : XS} {Er : XK} {X0 : Exn → Prop} (h : SA (exC C0 Er X0) c1 t am) (h' : SA (exC C0 Er X0) c2 tr ar) (hS : MonoX S) (hC : ∀ w, C0 w → C' w) : SE (exC C0 Er X0) (c1 + c2) (tCallK (spX C' 0 S) (gM m ix) Er t tr) (fun env Q => am env fun ds => ar env fun es => S (gM m ix ds es) Q X0) := fun G g n O env σ H Qd Q hL F hm q =>
  h G g n O env σ H _ _ (by omega) F hm fun ds vs H1 h1 g1 ok1 r1 => h' G g _ O env σ H1 _ _ (by omega) (F.grow g1 ok1) h1 fun es zs H2 h2 g2 ok2 r2 => by
    have F2 := (F.grow g1 ok1).grow g2 ok2
    obtain ⟨c0, eE, eX⟩ := g
    refine ⟨G.w, n + c1 + c2, O, _, hC _ c0, by have := G.x.le; omega, ok2, F2.wl.zo, F2.wl.tr, gM_rp m ix (r1.mono (sh_grow F.wl.zo g2)) r2, hS _ _ _ _ _ (fun d hd v H' g' ok r => q d v H' hd (g1.trans (g2.trans g')) (by rw [← Nat.add_assoc]; exact ok_as ok) r) (fun e he cv dd H' g' ok a => ?_) h2⟩
    rw [← eE]
    exact go_out (by omega) (F2.wl.grow g' ok) a (by rw [eX]; exact he)
end
end PL

/-! XF: a new list or dict as data at once. -/
namespace PL
open PySem PySem.Spec PyProof.Rows L2
def svD (Q : D → Prop) : Sv → Prop
  | .dat d => Q d
  | .own l => Q (.lst l)
  | .owd l => Q (.dic l)
  | .un => False
def mXe (x : XM) : EM := fun env Q => x env (svD Q)
theorem SX.e {C : Wd → XC → Prop} {c : Nat} {te : TE} {mx : XM} (h : SX C c te mx) : SE C c te (mXe mx) := fun G g n O env σ H Qd Q hL F hm k =>
  h G g n O env σ H _ _ hL F hm fun z v O' H' hq gr W l m s hne fr => by
    have le : LeA (Sh O' H') (Sh O H') := fun b u ⟨x, y⟩ => ⟨x, fun z => y (m _ z)⟩
    cases s with
    | dat r => exact k _ _ _ hq gr W.ok (r.mono le)
    | own e o r => exact k _ _ _ hq gr W.ok (.lst ⟨.inl e, F.wl.free (fr _ rfl rfl)⟩ (r.mono le))
    | owd e o r => exact k _ _ _ hq gr W.ok (.dic ⟨.inl e, F.wl.free (fr _ rfl rfl)⟩ (r.mono le))
end PL

/-! XK: objects that nobody changes any more, as data. -/
namespace PL
open PySem PySem.Spec PyProof.Rows L2
theorem rk_ins {H : Hp} {a : Addr} {C dx : Addr} {fs : List (Str × V)} (h : Rk H a (.ins C dx fs)) : H a = some (.ins C dx fs) := h.elim id fun ⟨_, _, e, _⟩ => e.elim (fun ⟨_, e⟩ => nomatch e) fun ⟨_, e⟩ => nomatch e
theorem fld_at {A : At} {f : Str} : ∀ {ns : List Str} {xs : List V} {ds : List D} {d : D}, RpL A xs ds → (ns.zip ds).lookup f = some d → ∃ v, (ns.zip xs).lookup f = some v ∧ Rp A v d
  | [], _, _, _, _, h => by cases h
  | n :: ns, _, _, _, .nil, h => by cases h
  | n :: ns, _, _, _, .cons (v := v) (xs := xs) (d := d) (ds := ds) a r, h => by
    have h : ((n, d) :: ns.zip ds).lookup f = some _ := h
    show ∃ v', ((n, v) :: ns.zip xs).lookup f = some v' ∧ _
    rw [List.lookup_cons] at h ⊢
    cases e : (f == n) with
    | true => rw [e] at h; cases h; exact ⟨_, rfl, a⟩
    | false => rw [e] at h; exact fld_at r h
theorem fld_no {f : Str} : ∀ {ns : List Str} {xs : List V}, f ∉ ns → (ns.zip xs).lookup f = none
  | [], _, _ => rfl
  | n :: ns, [], _ => rfl
  | n :: ns, x :: xs, h => by
    show ((n, x) :: ns.zip xs).lookup f = none
    rw [List.lookup_cons]
    have e : (f == n) = false := beq_false_of_ne fun z => h (by rw [z]; exact List.mem_cons_self)
    rw [e]
    exact fld_no fun z => h (List.mem_cons_of_mem _ z)
/-- o.f -/
def mFld (C0 : Addr) (f : Str) (m : EM) : EM := fun env Q => m env fun d => ∃ ns l d', d = .ins C0 ns l ∧ (ns.zip l).lookup f = some d' ∧ Q d'
def tSelf (C0 : Addr) (m0 : Str) (ta : TE) : TE := fun σ H Q => ta σ H fun x H1 => ∃ a dx fs, x = .ref a ∧ H1 a = some (.ins C0 dx fs) ∧ fs.lookup m0 = none ∧ Q x H1
def mSelf (C0 : Addr) (m0 : Str) (m : EM) : EM := fun env Q => m env fun d => ∃ ns l, d = .ins C0 ns l ∧ m0 ∉ ns ∧ Q d
section
variable {C : Wd → XC → Prop} {C1 : Wd → Prop} {K : PySem.W.Frag} {te : TE} {ta : TA} {m : EM} {am : AM} {c c1 c2 : Nat} {C0 : Addr} {f m0 : Str} {Er : XK} {X0 : Exn → Prop}
theorem se_fld (hc : Cls K C0) (hn : NoAttr K C0 f) (h : SE C c te m) : SE C c (tFld K te f) (mFld C0 f m) := fun G g n O env σ H Qd Q hL F hm k =>
  h G g n O env σ H _ _ hL F hm fun d v H1 ⟨ns, l, d', e, hf, q⟩ gr ok r => by
    subst e
    cases r with
    | ins e hl r =>
      obtain ⟨v', hv, rv⟩ := fld_at r hf
      exact ⟨_, C0, _, _, v', rfl, rk_ins e.1, hc, hn, hv, k _ _ H1 q gr ok rv⟩
theorem se_self (h : SE C c te m) : SE C c (tSelf C0 m0 te) (mSelf C0 m0 m) := fun G g n O env σ H Qd Q hL F hm k =>
  h G g n O env σ H _ _ hL F hm fun d v H1 ⟨ns, l, e, hf, q⟩ gr ok r => by
    subst e
    have r0 := r
    cases r with
    | ins e hl r => exact ⟨_, _, _, rfl, rk_ins e.1, fld_no hf, k _ _ H1 q gr ok r0⟩
theorem se_methP {S : List D → (D → Prop) → Prop} {E : XK} (h : SE C c1 te m) (ha : SA C c2 ta am) (hS : Mono S) : SE C (c1 + c2) (tMeth C0 m0 (spP CA 0 S) [] E te ta) (mCall (aCons (mSelf C0 m0 m) am) S) :=
  show SE C (c1 + c2) (tCall (spP CA 0 S) [] E (tCons (tSelf C0 m0 te) ta)) _ from se_callA (sa_cons (se_self h) ha) hS
theorem se_methX {S : XS} (h : SE (exC C1 Er X0) c1 te m) (ha : SA (exC C1 Er X0) c2 ta am) (hS : MonoX S) : SE (exC C1 Er X0) (c1 + c2) (tMeth C0 m0 (spX CA 0 S) [] Er te ta) (fun env Q => aCons (mSelf C0 m0 m) am env fun ds => S ds Q X0) :=
  show SE (exC C1 Er X0) (c1 + c2) (tCall (spX CA 0 S) [] Er (tCons (tSelf C0 m0 te) ta)) _ from se_callXA (sa_cons (se_self h) ha) hS
end
/-- a class of the module -/
structure GCls (K : PySem.W.Frag) (mg : Str → Option Value) (x : Str) : Prop where
  cl : Cls K (er mg x)
  g : mg x = some (.ref (er mg x))
/-- a method that raises nothing -/
structure MtP (P : Program) (w : World) (K : PySem.W.Frag) (mg : Str → Option Value) (base : Heap) (C : Addr) (x : Str) (k : Nat) (ps : List Str) (sp : Sp) : Prop where
  ex : ∃ f fd, FnOk P w K mg base CX0 k f fd ps sp ∧ Meth K C x f ∧ Binds K fd ps []
/-- .. that may -/
structure MtX (P : Program) (w : World) (K : PySem.W.Frag) (mg : Str → Option Value) (base : Heap) (C : Addr) (x : Str) (k : Nat) (ps : List Str) (sp : Sp) : Prop where
  ex : ∃ f fd, FnOk P w K mg base (L2.CX P w) k f fd ps sp ∧ Meth K C x f ∧ Binds K fd ps []
section
variable {X : Cx} {m : Str} {k : Nat} {ps : List Str} {sp : Sp} {apos pos : Pos} {o e : Expr} {es : List Expr} {t : TA} {te : TE} {E : XK} {C0 : Addr} {pl : Sem Bool}
theorem pe_methP (c : Cls X.K C0) (h : MtP X.prog X.w X.K X.mg X.base C0 m k ps sp) (hr : Room k X.A) (he : PE X o te) (ha : PA X (e :: es) t)
    (hst : starEach (e :: es) X.env = (false, eval e X.env) :: starEach es X.env := by rfl) (hpl : (backTo pos (starEach es X.env)).any (·.1) = false := by rfl)
    (ht : eval (.Call (.Attribute o m apos) (e :: es) [] pos) X.env = (do
      let ov ← eval o X.env
      standAt apos.atName
      let (f, first) ← holding [ov] (getMethod ov m pl)
      callWith pos f first (backTo pos (starEach (e :: es) X.env)) (backToKw pos (keywordEach [] X.env))) := by rfl) : PE X (.Call (.Attribute o m apos) (e :: es) [] pos) (tMeth C0 m sp [] E0 te t) := by
  obtain ⟨f, fd, h1, h2, h3⟩ := h.ex
  exact pe_meth he c h2 h1 hr h3 .nil pass0 ha hst hpl ht
theorem pe_methX (c : Cls X.K C0) (h : MtX X.prog X.w X.K X.mg X.base C0 m k ps sp) (hr : Room k X.A) (tk : Takes X (fun cls d _ H => E cls d H)) (he : PE X o te) (ha : PA X (e :: es) t)
    (hst : starEach (e :: es) X.env = (false, eval e X.env) :: starEach es X.env := by rfl) (hpl : (backTo pos (starEach es X.env)).any (·.1) = false := by rfl)
    (ht : eval (.Call (.Attribute o m apos) (e :: es) [] pos) X.env = (do
      let ov ← eval o X.env
      standAt apos.atName
      let (f, first) ← holding [ov] (getMethod ov m pl)
      callWith pos f first (backTo pos (starEach (e :: es) X.env)) (backToKw pos (keywordEach [] X.env))) := by rfl) : PE X (.Call (.Attribute o m apos) (e :: es) [] pos) (tMeth C0 m sp [] E te t) := by
  obtain ⟨f, fd, h1, h2, h3⟩ := h.ex
  exact pe_meth he c h2 h1 hr h3 .nil (passes_call tk fun _ _ _ _ z => z) ha hst hpl ht
end
end PL

/-! XH: hidden objects, by hand. -/
namespace PL
open PySem PySem.Spec PyProof.Rows L2
theorem Fr.hid {G : Cfg} {n : Nat} {O : Addr → Prop} {env : Ev} {σ : L2.St} {H H' : Hp} (F : Fr G n O env σ H) (hn : ∀ c ∈ env, c.isOwn = false) (hz : ∀ b, G.w.Z b → H' b = H b) (hx : ∀ b φ, H b = some (.ext φ) → H' b = some (.ext φ))
    (hc : ∀ b o, ¬ O b → H b = some o → H' b = some o) (ht : ∀ b, O b → Trk (H' b)) (hb : ∀ b o, G.H0 b = some o → ¬ G.w.Z b → H' b = H b) : Fr G n O env σ H' := by
  have le : LeA (Sh O H) (Sh O H') := fun a o ⟨h, z⟩ => ⟨rd_mv (fun o e => hc a o z e) h, z⟩
  refine ⟨⟨G.w.st _ _ _ (fun b o z e => by rw [hz b z]; exact e) hx F.wl.ok, F.wl.zo, F.wl.co, ht, fun b o e z => by rw [hb b o e z]; exact F.wl.base b o e z⟩, F.len, fun i c e n => ?_, F.uq⟩
  obtain ⟨v, h1, h2⟩ := F.sl i c e n
  refine ⟨v, h1, ?_⟩
  cases h2 with
  | dat r => exact .dat (r.mono le)
  | own eh o r => exact absurd (hn _ (List.mem_of_getElem? e)) (fun z => nomatch (show true = false from z))
  | owd eh o r => exact absurd (hn _ (List.mem_of_getElem? e)) (fun z => nomatch (show true = false from z))
theorem Fr.hidNew {G : Cfg} {n : Nat} {O N : Addr → Prop} {env : Ev} {σ : L2.St} {H H' : Hp} (F : Fr G n O env σ H) (hN : ∀ b, N b → H b = none) (hs : ∀ b o, H b = some o → H' b = some o) (ht : ∀ b, N b → Trk (H' b)) : Fr G n (fun b => O b ∨ N b) env σ H' := by
  have nN : ∀ {b o}, H b = some o → ¬ N b := fun {b o} e z => by rw [hN b z] at e; cases e
  have gr : Grow G.w H H' := fun b o e _ => hs b o e
  have le : LeA (Sh O H) (Sh (fun b => O b ∨ N b) H') := fun a o ⟨h, z⟩ => ⟨rd_mv (fun o e => hs a o e) h, fun y => y.elim z (h.elim (fun e => nN e) fun ⟨_, _, _, e⟩ => nN e)⟩
  have ok : G.w.ok n H' := G.w.st _ _ _ (fun b o z e => hs b o e) (fun b φ e => hs b _ e) F.wl.ok
  refine ⟨⟨ok, fun b z => .inl (F.wl.zo b z), fun b z => .inl (F.wl.co b z), fun b z => ?_, F.wl.base.trans gr⟩, F.len, fun i c e n => ?_, F.uq⟩
  · rcases z with z | z
    · obtain ⟨u, e, x⟩ := F.wl.tr b z
      exact ⟨u, hs b u e, x⟩
    · exact ht b z
  · obtain ⟨v, h1, h2⟩ := F.sl i c e n
    exact ⟨v, h1, h2.le gr le fun _ z => .inl z⟩
end PL

/-! XO2: methods by keywords, without arguments, where nothing is raised. -/
namespace PL
open PySem PySem.Spec PyProof.Rows L2
theorem passL0 {X : Cx} : Passes (L2.CX X.prog X.w) X (fun _ _ _ => False) := passL
def tMethK (C : Addr) (m : Str) (sp : Sp) (gV : List V → List V → List V) (E : XK) (ta : TE) (tk : TA) : TE := fun σ H Q => ta σ H fun x H1 => ∃ a dx fs, x = .ref a ∧ H1 a = some (.ins C dx fs) ∧ fs.lookup m = none ∧ tk σ H1 fun zs H2 => sp (gV [x] zs) H2 Q E
structure MtXM (P : Program) (w : World) (K : PySem.W.Frag) (mg : Str → Option Value) (base : Heap) (C : Addr) (x : Str) (k : Nat) (ps ks : List Str) (ix : List Nat) (sp : Sp) : Prop where
  ex : ∃ f fd, FnOk P w K mg base (L2.CX P w) k f fd ps sp ∧ Meth K C x f ∧ KBinds K fd ps ks (gM 1 ix) (gM 1 ix)
section
variable {X : Cx} {CX : CXT} {m : Str} {k : Nat} {ps ks : List Str} {ix : List Nat} {sp : Sp} {apos pos : Pos} {o e : Expr} {es : List Expr} {kws : List Keyword} {t tk : TA} {te : TE} {E : XK} {C0 f : Addr} {fd : FuncData} {pl : Sem Bool} {g : List Value → List Value → List Value} {gV : List V → List V → List V}
theorem pe_methK (he : PE X o te) (c : Cls X.K C0) (hm : Meth X.K C0 m f) (F : FnOk X.prog X.w X.K X.mg X.base CX k f fd ps sp) (hr : Room k X.A) (hb : KBinds X.K fd ps ks g gV) (hx : Passes CX X E) (hkw : PK X kws tk)
    (hall : (backToKw pos (keywordEach kws X.env)).all (·.1.isSome) = true := by rfl) (hks : (backToKw pos (keywordEach kws X.env)).filterMap (·.1) = ks := by rfl)
    (hpl : ((backTo pos (starEach [] X.env)).any (·.1) || (backToKw pos (keywordEach kws X.env)).any (·.1.isNone)) = false := by rfl)
    (ht : eval (.Call (.Attribute o m apos) [] kws pos) X.env = (do
      let ov ← eval o X.env
      standAt apos.atName
      let (f, first) ← holding [ov] (getMethod ov m pl)
      callWith pos f first (backTo pos (starEach [] X.env)) (backToKw pos (keywordEach kws X.env))) := by rfl) :
    PE X (.Call (.Attribute o m apos) [] kws pos) (tMethK C0 m sp gV E te tk) := by
  refine ⟨fun pins s σ H Q I h => ?_⟩
  refine PySem.W.methodCall_KW (pl := pl) (thn (he.run pins s σ H _ I h) fun u s1 ⟨x, H1, I1, rx, a, dx, fs, ex, ea, l, q⟩ => ?_) ht
  subst ex
  obtain rfl : u = Value.ref a := rx
  refine getmeth_ok I1 ea c hm l ?_
  refine PySem.W.callWith_KW0 (first := [.ref a]) (h₀ := X.base) I.ok.mod.kin hm.kp hall ?_ hpl
  refine thn (hkw.run pos pins s1 σ H1 _ I1 q) fun ws s2 ⟨zs, H2, I2, rz, q2⟩ => ⟨I2.kIn, ?_⟩
  rw [hks]
  exact run_fnk (us := [.ref a]) (vs := [.ref a]) F hr hb hx I2 (.cons rfl .nil) rz q2
theorem pe_methKN (c : Cls X.K C0) (h : MtXM X.prog X.w X.K X.mg X.base C0 m k ps ks ix sp) (hr : Room k X.A) (he : PE X o te) (hkw : PK X kws tk)
    (hall : (backToKw pos (keywordEach kws X.env)).all (·.1.isSome) = true := by rfl) (hks : (backToKw pos (keywordEach kws X.env)).filterMap (·.1) = ks := by rfl)
    (hpl : ((backTo pos (starEach [] X.env)).any (·.1) || (backToKw pos (keywordEach kws X.env)).any (·.1.isNone)) = false := by rfl)
    (ht : eval (.Call (.Attribute o m apos) [] kws pos) X.env = (do
      let ov ← eval o X.env
      standAt apos.atName
      let (f, first) ← holding [ov] (getMethod ov m pl)
      callWith pos f first (backTo pos (starEach [] X.env)) (backToKw pos (keywordEach kws X.env))) := by rfl) :
    PE X (.Call (.Attribute o m apos) [] kws pos) (tMethK C0 m sp (gM 1 ix) E0 te tk) := by
  obtain ⟨f, fd, h1, h2, h3⟩ := h.ex
  exact pe_methK he c h2 h1 hr h3 passL hkw hall hks hpl ht
/-- a method that may raise, where nothing is raised -/
theorem pe_methN (c : Cls X.K C0) (h : MtX X.prog X.w X.K X.mg X.base C0 m k ps sp) (hr : Room k X.A) (he : PE X o te) (ha : PA X (e :: es) t)
    (hst : starEach (e :: es) X.env = (false, eval e X.env) :: starEach es X.env := by rfl) (hpl : (backTo pos (starEach es X.env)).any (·.1) = false := by rfl)
    (ht : eval (.Call (.Attribute o m apos) (e :: es) [] pos) X.env = (do
      let ov ← eval o X.env
      standAt apos.atName
      let (f, first) ← holding [ov] (getMethod ov m pl)
      callWith pos f first (backTo pos (starEach (e :: es) X.env)) (backToKw pos (keywordEach [] X.env))) := by rfl) : PE X (.Call (.Attribute o m apos) (e :: es) [] pos) (tMeth C0 m sp [] E0 te t) := by
  obtain ⟨f, fd, h1, h2, h3⟩ := h.ex
  exact pe_meth he c h2 h1 hr h3 .nil passL ha hst hpl ht
/-- o.m() -/
theorem pe_methP0 (c : Cls X.K C0) (h : MtP X.prog X.w X.K X.mg X.base C0 m k ps sp) (hr : Room k X.A) (he : PE X o te)
    (ht : eval (.Call (.Attribute o m apos) [] [] pos) X.env = (do
      let ov ← eval o X.env
      standAt apos.atName
      let (f, first) ← holding [ov] (getMethod ov m pl)
      callWith pos f first (backTo pos (starEach [] X.env)) (backToKw pos (keywordEach [] X.env))) := by rfl) : PE X (.Call (.Attribute o m apos) [] [] pos) (tMeth C0 m sp [] E0 te tNil) := by
  obtain ⟨f, fd, h1, h2, h3⟩ := h.ex
  exact pe_meth0 he c h2 h1 hr h3 .nil pass0 ht
end
section
variable {C : Wd → XC → Prop} {te : TE} {ta tk : TA} {m : EM} {am ak : AM} {c c1 c2 : Nat} {C0 : Addr} {m0 : Str} {ix : List Nat}
theorem se_methN {S : XS} (h : SE C c1 te m) (ha : SA C c2 ta am) (hS : MonoX S) : SE C (c1 + c2) (tMeth C0 m0 (spX CA 0 S) [] E0 te ta) (fun env Q => aCons (mSelf C0 m0 m) am env fun ds => S ds Q fun _ => False) :=
  show SE C (c1 + c2) (tCall (spX CA 0 S) [] E0 (tCons (tSelf C0 m0 te) ta)) _ from se_callNA (sa_cons (se_self h) ha) hS
theorem se_methKN {S : XS} (h : SE C c1 te m) (hk : SA C c2 tk ak) (hS : MonoX S) : SE C (c1 + 0 + c2) (tMethK C0 m0 (spX CA 0 S) (gM 1 ix) E0 te tk) (fun env Q => aCons (mSelf C0 m0 m) aNil env fun ds => ak env fun es => S (gM 1 ix ds es) Q fun _ => False) :=
  show SE C (c1 + 0 + c2) (tCallK (spX CA 0 S) (gM 1 ix) E0 (tCons (tSelf C0 m0 te) tNil) tk) _ from se_callNM (sa_cons (se_self h) sa_nil) hk hS
/-- a statement that is never reached -/
theorem ss_dead {t : TS} : SS C c t (fun _ _ => False) := fun G g n O env σ H P D hL F hm e => hm.elim
end
end PL

namespace Law
/-! ### the line of a tree of versions -/
def insA : List Nat → Nat → Nat → List Nat
  | [], _, _ => []
  | x :: l, p, m => if x = p then x :: m :: l else x :: insA l p m
theorem insA_cons (x : Nat) (l : List Nat) (p m : Nat) : insA (x :: l) p m = if x = p then x :: m :: l else x :: insA l p m := rfl
theorem insA_no {p m : Nat} : ∀ {l : List Nat}, p ∉ l → insA l p m = l
  | [], _ => rfl
  | x :: l, h => by
    rw [List.mem_cons, not_or] at h
    unfold insA
    rw [if_neg fun z => h.1 z.symm, insA_no h.2]
theorem insA_app {p m : Nat} : ∀ {X Y : List Nat}, insA (X ++ Y) p m = if p ∈ X then insA X p m ++ Y else X ++ insA Y p m
  | [], Y => by simp [insA]
  | x :: X, Y => by
    have ih := insA_app (p := p) (m := m) (X := X) (Y := Y)
    rw [List.cons_append, insA_cons, insA_cons]
    by_cases hx : x = p
    · rw [if_pos hx, if_pos hx, if_pos (List.mem_cons.mpr (.inl hx.symm)), List.cons_append, List.cons_append]
    · rw [if_neg hx, if_neg hx, ih]
      by_cases hp : p ∈ X
      · rw [if_pos hp, if_pos (List.mem_cons_of_mem _ hp), List.cons_append]
      · rw [if_neg hp, if_neg (fun z => hp ((List.mem_cons.mp z).resolve_left fun e => hx e.symm)), List.cons_append]
theorem mem_insA {p m x : Nat} : ∀ {l : List Nat}, p ∈ l → (x ∈ insA l p m ↔ x = m ∨ x ∈ l)
  | [], h => by cases h
  | y :: l, h => by
    unfold insA
    by_cases hy : y = p
    · rw [if_pos hy]
      simp only [List.mem_cons]
      constructor
      · rintro (h | h | h)
        · exact .inr (.inl h)
        · exact .inl h
        · exact .inr (.inr h)
      · rintro (h | h | h)
        · exact .inr (.inl h)
        · exact .inl h
        · exact .inr (.inr h)
    · rw [if_neg hy, List.mem_cons, mem_insA ((List.mem_cons.mp h).resolve_left fun e => hy e.symm), List.mem_cons]
      constructor
      · rintro (h | h | h)
        · exact .inr (.inl h)
        · exact .inl h
        · exact .inr (.inr h)
      · rintro (h | h | h)
        · exact .inr (.inl h)
        · exact .inl h
        · exact .inr (.inr h)
theorem insA_sub {p m x : Nat} {l : List Nat} (h : x ∈ insA l p m) : x = m ∨ x ∈ l := by
  by_cases hp : p ∈ l
  · exact (mem_insA hp).mp h
  · rw [insA_no hp] at h; exact .inr h
theorem nodup_insA {p m : Nat} : ∀ {l : List Nat}, l.Nodup → m ∉ l → (insA l p m).Nodup
  | [], _, _ => by unfold insA; exact List.nodup_nil
  | x :: l, h, hm => by
    rw [List.nodup_cons] at h
    rw [List.mem_cons, not_or] at hm
    unfold insA
    by_cases hx : x = p
    · rw [if_pos hx, List.nodup_cons, List.nodup_cons, List.mem_cons, not_or]
      exact ⟨⟨fun e => hm.1 e.symm, h.1⟩, hm.2, h.2⟩
    · rw [if_neg hx, List.nodup_cons]
      exact ⟨fun z => (insA_sub z).elim (fun e => hm.1 e.symm) h.1, nodup_insA h.2 hm.2⟩
theorem insA_idx {p m : Nat} : ∀ {l : List Nat}, p ∈ l → insA l p m = l.take (l.idxOf p + 1) ++ m :: l.drop (l.idxOf p + 1)
  | [], h => by cases h
  | x :: l, h => by
    unfold insA
    by_cases hx : x = p
    · subst hx
      rw [if_pos rfl, List.idxOf_cons_self]; rfl
    · rw [if_neg hx, insA_idx ((List.mem_cons.mp h).resolve_left fun e => hx e.symm), List.idxOf_cons, beq_false_of_ne hx]; rfl
/-- version v's parent -/
def par (ps : List Nat) (v : Nat) : Nat := ps[v - 1]?.getD 0
def PsOk (ps : List Nat) : Prop := ∀ v, 0 < v → v ≤ ps.length → par ps v < v
def lineN (ps : List Nat) : Nat → List Nat
  | 0 => [0]
  | n + 1 => insA (lineN ps n) (par ps (n + 1)) (n + 1)
/-- v's children among 0 .. n, the youngest first -/
def kids (ps : List Nat) (n v : Nat) : List Nat := ((List.range (n + 1)).filter fun c => decide (0 < c ∧ par ps c = v)).reverse
theorem kids_mem {ps : List Nat} {n v c : Nat} : c ∈ kids ps n v ↔ c ≤ n ∧ 0 < c ∧ par ps c = v := by
  unfold kids
  rw [List.mem_reverse, List.mem_filter, List.mem_range, decide_eq_true_eq]
  omega
theorem kids_succ (ps : List Nat) (n v : Nat) : kids ps (n + 1) v = if par ps (n + 1) = v then (n + 1) :: kids ps n v else kids ps n v := by
  unfold kids
  rw [List.range_succ, List.filter_append, List.reverse_append]
  by_cases h : par ps (n + 1) = v
  · rw [if_pos h, List.filter_cons, if_pos (by rw [decide_eq_true_eq]; exact ⟨by omega, h⟩)]; rfl
  · rw [if_neg h, List.filter_cons, if_neg (by rw [decide_eq_true_eq]; exact fun z => h z.2)]; rfl
theorem kids_desc (ps : List Nat) (n v : Nat) : (kids ps n v).Pairwise (· > ·) := by
  unfold kids
  rw [List.pairwise_reverse]
  exact List.pairwise_lt_range.filter _
def pre (ps : List Nat) (n : Nat) : Nat → Nat → List Nat
  | 0, v => [v]
  | f + 1, v => v :: (kids ps n v).flatMap (pre ps n f)
theorem flatMap_cong {α β : Type} {f g : α → List β} : ∀ {l : List α}, (∀ x ∈ l, f x = g x) → l.flatMap f = l.flatMap g
  | [], _ => rfl
  | x :: l, h => by
    rw [List.flatMap_cons, List.flatMap_cons, h x List.mem_cons_self, flatMap_cong fun y hy => h y (List.mem_cons_of_mem _ hy)]
theorem kid_gt {ps : List Nat} (ok : PsOk ps) {n v c : Nat} (hn : n ≤ ps.length) (h : c ∈ kids ps n v) : v < c ∧ c ≤ n := by
  obtain ⟨h1, h2, h3⟩ := kids_mem.mp h
  have := ok c h2 (by omega)
  omega
theorem pre_stable {ps : List Nat} (ok : PsOk ps) {n : Nat} (hn : n ≤ ps.length) : ∀ (f g v : Nat), n ≤ f + v → n ≤ g + v → v ≤ n → pre ps n f v = pre ps n g v
  | 0, 0, _, _, _, _ => rfl
  | 0, g + 1, v, h, _, h2 => by
    have e : kids ps n v = [] := by
      cases k : kids ps n v with
      | nil => rfl
      | cons c r =>
        have := kid_gt ok hn (c := c) (v := v) (by rw [k]; exact List.mem_cons_self)
        omega
    unfold pre
    rw [e]; rfl
  | f + 1, 0, v, _, h, h2 => by
    have e : kids ps n v = [] := by
      cases k : kids ps n v with
      | nil => rfl
      | cons c r =>
        have := kid_gt ok hn (c := c) (v := v) (by rw [k]; exact List.mem_cons_self)
        omega
    unfold pre
    rw [e]; rfl
  | f + 1, g + 1, v, h, h1, h2 => by
    unfold pre
    rw [flatMap_cong fun c hc => ?_]
    have := kid_gt ok hn hc
    exact pre_stable ok hn f g c (by omega) (by omega) this.2
/-- what comes of v, in its sequence -/
def Pn (ps : List Nat) (n v : Nat) : List Nat := pre ps n n v
theorem Pn_eq {ps : List Nat} (ok : PsOk ps) {n : Nat} (hn : n ≤ ps.length) {v : Nat} (hv : v ≤ n) : Pn ps n v = v :: (kids ps n v).flatMap (Pn ps n) := by
  unfold Pn
  rw [pre_stable ok hn n (n + 1) v (by omega) (by omega) hv]
  rfl
theorem Pn_bd {ps : List Nat} (ok : PsOk ps) {n : Nat} (hn : n ≤ ps.length) : ∀ (d v : Nat), n - v ≤ d → v ≤ n → ∀ x ∈ Pn ps n v, v ≤ x ∧ x ≤ n
  | d, v, hd, hv, x, hx => by
    rw [Pn_eq ok hn hv] at hx
    rcases List.mem_cons.mp hx with e | hx
    · omega
    · obtain ⟨c, hc, hx⟩ := List.mem_flatMap.mp hx
      have := kid_gt ok hn hc
      match d with
      | 0 => omega
      | d + 1 =>
        have := Pn_bd ok hn d c (by omega) this.2 x hx
        omega
theorem Pn_bound {ps : List Nat} (ok : PsOk ps) {n v x : Nat} (hn : n ≤ ps.length) (hv : v ≤ n) (hx : x ∈ Pn ps n v) : v ≤ x ∧ x ≤ n := Pn_bd ok hn (n - v) v (Nat.le_refl _) hv x hx
theorem fm_ins {g : Nat → List Nat} {p m : Nat} : ∀ {cs : List Nat}, (cs.flatMap g).Nodup → cs.flatMap (fun c => insA (g c) p m) = insA (cs.flatMap g) p m
  | [], _ => rfl
  | c :: cs, h => by
    rw [List.flatMap_cons] at h
    rw [List.flatMap_cons, List.flatMap_cons, insA_app]
    have hn := List.nodup_append.mp h
    by_cases hp : p ∈ g c
    · rw [if_pos hp]
      congr 1
      refine flatMap_cong fun x hx => insA_no fun z => ?_
      exact hn.2.2 p hp p (List.mem_flatMap.mpr ⟨x, hx, z⟩) rfl
    · rw [if_neg hp, insA_no hp, fm_ins hn.2.1]
theorem Pn_last {ps : List Nat} (ok : PsOk ps) {n : Nat} (hn : n ≤ ps.length) : Pn ps n n = [n] := by
  unfold Pn
  rw [pre_stable ok hn n 0 n (by omega) (by omega) (Nat.le_refl _)]; rfl
theorem Pn_succ {ps : List Nat} (ok : PsOk ps) {n : Nat} (hn : n + 1 ≤ ps.length) (nd : ∀ v, v ≤ n → (Pn ps n v).Nodup) : ∀ (d v : Nat), n - v ≤ d → v ≤ n → Pn ps (n + 1) v = insA (Pn ps n v) (par ps (n + 1)) (n + 1)
  | d, v, hd, hv => by
    have hp := ok (n + 1) (by omega) hn
    have ih : ∀ c ∈ kids ps n v, Pn ps (n + 1) c = insA (Pn ps n c) (par ps (n + 1)) (n + 1) := fun c hc => by
      have := kid_gt ok (by omega) hc
      match d with
      | 0 => omega
      | d + 1 => exact Pn_succ ok hn nd d c (by omega) this.2
    rw [Pn_eq ok hn (by omega), kids_succ, Pn_eq ok (by omega) hv]
    unfold insA
    by_cases h : par ps (n + 1) = v
    · rw [if_pos h, if_pos h.symm, List.flatMap_cons, Pn_last ok hn]
      refine congrArg (fun z => v :: (n + 1) :: z) (flatMap_cong fun c hc => ?_)
      rw [ih c hc, insA_no fun z => ?_]
      have h1 := kid_gt ok (by omega) hc
      have h2 := Pn_bound ok (by omega) h1.2 z
      omega
    · rw [if_neg h, if_neg fun z => h z.symm, flatMap_cong ih, fm_ins]
      have := nd v hv
      rw [Pn_eq ok (by omega) hv] at this
      exact (List.nodup_cons.mp this).2
theorem Pn_nodup {ps : List Nat} (ok : PsOk ps) : ∀ {n : Nat}, n ≤ ps.length → ∀ v, v ≤ n → (Pn ps n v).Nodup
  | 0, hn, v, hv => by
    have : v = 0 := by omega
    subst this
    rw [Pn_last ok hn]
    exact List.pairwise_singleton _ _
  | n + 1, hn, v, hv => by
    have nd := Pn_nodup ok (n := n) (by omega)
    by_cases h : v = n + 1
    · subst h
      rw [Pn_last ok hn]
      exact List.pairwise_singleton _ _
    · rw [Pn_succ ok hn nd (n - v) v (Nat.le_refl _) (by omega)]
      exact nodup_insA (nd v (by omega)) fun z => by
        have := Pn_bound ok (by omega) (show v ≤ n by omega) z
        omega
theorem line_Pn {ps : List Nat} (ok : PsOk ps) : ∀ {n : Nat}, n ≤ ps.length → lineN ps n = Pn ps n 0
  | 0, hn => by rw [Pn_last ok hn]; rfl
  | n + 1, hn => by
    rw [Pn_succ ok hn (Pn_nodup ok (by omega)) n 0 (by omega) (by omega), ← line_Pn ok (n := n) (by omega)]; rfl
/-- behind what comes of v stands nothing, or an elder version -/
def Beh (v : Nat) (B : List Nat) : Prop := ∀ b, B[0]? = some b → b < v
theorem split {ps : List Nat} (ok : PsOk ps) {n : Nat} (hn : n ≤ ps.length) : ∀ (v : Nat), v ≤ n → ∃ A B, lineN ps n = A ++ Pn ps n v ++ B ∧ Beh v B := by
  intro v
  induction v using Nat.strongRecOn with
  | _ v ih =>
    intro hv
    by_cases h0 : v = 0
    · subst h0
      exact ⟨[], [], by rw [line_Pn ok hn, List.nil_append, List.append_nil], fun b hb => (nomatch hb)⟩
    · have hp := ok v (by omega) (by omega)
      obtain ⟨A, B, e, hB⟩ := ih (par ps v) hp (by omega)
      have hk : v ∈ kids ps n (par ps v) := kids_mem.mpr ⟨hv, by omega, rfl⟩
      obtain ⟨K1, K2, ek⟩ := List.append_of_mem hk
      refine ⟨A ++ par ps v :: K1.flatMap (Pn ps n), K2.flatMap (Pn ps n) ++ B, ?_, fun b hb => ?_⟩
      · rw [e, Pn_eq ok hn (show par ps v ≤ n by omega), ek, List.flatMap_append, List.flatMap_cons]
        simp only [List.append_assoc, List.cons_append]
      · cases K2 with
        | nil =>
          have := hB b hb
          omega
        | cons c K2 =>
          have hd := kids_desc ps n (par ps v)
          rw [ek] at hd
          have hc : c ∈ kids ps n (par ps v) := by rw [ek]; simp
          have hcn := kid_gt ok hn hc
          rw [List.flatMap_cons, Pn_eq ok hn hcn.2] at hb
          have : b = c := by
            have : some c = some b := hb
            injection this with this; exact this.symm
          subst this
          have := (List.pairwise_append.mp hd).2.1
          exact (List.pairwise_cons.mp this).1 b List.mem_cons_self
theorem Pn_self {ps : List Nat} (ok : PsOk ps) {n v : Nat} (hn : n ≤ ps.length) (hv : v ≤ n) : v ∈ Pn ps n v := by
  rw [Pn_eq ok hn hv]; exact List.mem_cons_self
theorem Pn_down {ps : List Nat} (ok : PsOk ps) {n : Nat} (hn : n ≤ ps.length) : ∀ (d v : Nat), n - v ≤ d → v ≤ n → ∀ x ∈ Pn ps n v, ∀ c ∈ kids ps n x, c ∈ Pn ps n v
  | d, v, hd, hv, x, hx, c, hc => by
    rw [Pn_eq ok hn hv] at hx ⊢
    rcases List.mem_cons.mp hx with e | hx
    · subst e
      exact List.mem_cons_of_mem _ (List.mem_flatMap.mpr ⟨c, hc, Pn_self ok hn (kid_gt ok hn hc).2⟩)
    · obtain ⟨k, hk, hx⟩ := List.mem_flatMap.mp hx
      have := kid_gt ok hn hk
      match d with
      | 0 => omega
      | d + 1 => exact List.mem_cons_of_mem _ (List.mem_flatMap.mpr ⟨k, hk, Pn_down ok hn d k (by omega) this.2 x hx c hc⟩)
theorem Pn_up {ps : List Nat} (ok : PsOk ps) {n : Nat} (hn : n ≤ ps.length) : ∀ (d v : Nat), n - v ≤ d → v ≤ n → ∀ x ∈ Pn ps n v, x ≠ v → par ps x ∈ Pn ps n v
  | d, v, hd, hv, x, hx, hne => by
    rw [Pn_eq ok hn hv] at hx ⊢
    rcases List.mem_cons.mp hx with e | hx
    · exact absurd e hne
    · obtain ⟨k, hk, hx⟩ := List.mem_flatMap.mp hx
      have hb := kid_gt ok hn hk
      by_cases e : x = k
      · subst e
        rw [(kids_mem.mp hk).2.2]
        exact List.mem_cons_self
      · match d with
        | 0 => omega
        | d + 1 => exact List.mem_cons_of_mem _ (List.mem_flatMap.mpr ⟨k, hk, Pn_up ok hn d k (by omega) hb.2 x hx e⟩)
/-- the way up -/
def wayF (ps : List Nat) : Nat → Nat → List Nat
  | 0, w => [w]
  | f + 1, w => if w = 0 then [w] else w :: wayF ps f (par ps w)
theorem wayF_st {ps : List Nat} (ok : PsOk ps) : ∀ (f g w : Nat), w ≤ f → w ≤ g → w ≤ ps.length → wayF ps f w = wayF ps g w
  | 0, 0, _, _, _, _ => rfl
  | 0, g + 1, w, h, _, _ => by
    have : w = 0 := by omega
    subst this
    unfold wayF; rw [if_pos rfl]
  | f + 1, 0, w, _, h, _ => by
    have : w = 0 := by omega
    subst this
    unfold wayF; rw [if_pos rfl]
  | f + 1, g + 1, w, h1, h2, h3 => by
    unfold wayF
    by_cases h : w = 0
    · rw [if_pos h, if_pos h]
    · have := ok w (by omega) h3
      rw [if_neg h, if_neg h, wayF_st ok f g (par ps w) (by omega) (by omega) (by omega)]
def way (ps : List Nat) (w : Nat) : List Nat := wayF ps w w
theorem way_zero (ps : List Nat) : way ps 0 = [0] := rfl
theorem way_eq {ps : List Nat} (ok : PsOk ps) {w : Nat} (h : 0 < w) (hw : w ≤ ps.length) : way ps w = w :: way ps (par ps w) := by
  have := ok w h hw
  unfold way
  rw [wayF_st ok w (w + 1) w (Nat.le_refl _) (by omega) hw]
  show (if w = 0 then [w] else w :: wayF ps w (par ps w)) = _
  rw [if_neg (by omega), wayF_st ok w (par ps w) (par ps w) (by omega) (Nat.le_refl _) (by omega)]
theorem way_le {ps : List Nat} (ok : PsOk ps) : ∀ (w : Nat), w ≤ ps.length → ∀ x ∈ way ps w, x ≤ w := by
  intro w
  induction w using Nat.strongRecOn with
  | _ w ih =>
    intro hw x hx
    by_cases h0 : w = 0
    · subst h0; rw [way_zero, List.mem_singleton] at hx; omega
    · rw [way_eq ok (by omega) hw] at hx
      have hp := ok w (by omega) hw
      rcases List.mem_cons.mp hx with e | hx
      · omega
      · have := ih (par ps w) hp (by omega) x hx
        omega
theorem way_iff {ps : List Nat} (ok : PsOk ps) {n : Nat} (hn : n ≤ ps.length) {v : Nat} (hv : v ≤ n) : ∀ w, w ≤ n → (v ∈ way ps w ↔ w ∈ Pn ps n v) := by
  intro w
  induction w using Nat.strongRecOn with
  | _ w ih =>
    intro hw
    rcases Nat.lt_trichotomy w v with h | h | h
    · exact ⟨fun z => by have := way_le ok w (by omega) v z; omega, fun z => by have := Pn_bound ok hn hv z; omega⟩
    · subst h
      refine ⟨fun _ => Pn_self ok hn hv, fun _ => ?_⟩
      by_cases h0 : w = 0
      · subst h0; rw [way_zero]; exact List.mem_cons_self
      · rw [way_eq ok (by omega) (by omega)]; exact List.mem_cons_self
    · have hp := ok w (by omega) (by omega)
      rw [way_eq ok (by omega) (by omega), List.mem_cons, or_iff_right (by omega), ih (par ps w) hp (by omega)]
      exact ⟨fun z => Pn_down ok hn (n - v) v (Nat.le_refl _) hv _ z w (kids_mem.mpr ⟨hw, by omega, rfl⟩), fun z => Pn_up ok hn (n - v) v (Nat.le_refl _) hv w z (by omega)⟩
theorem idx_app {α : Type} [BEq α] [LawfulBEq α] {A : List α} {x : α} {B : List α} (h : x ∉ A) : (A ++ x :: B).idxOf x = A.length := by
  rw [List.idxOf_append, if_neg h, List.idxOf_cons_self, Nat.zero_add]
theorem line_nodup {ps : List Nat} (ok : PsOk ps) {n : Nat} (hn : n ≤ ps.length) : (lineN ps n).Nodup := by rw [line_Pn ok hn]; exact Pn_nodup ok hn 0 (by omega)
theorem line_mem {ps : List Nat} (ok : PsOk ps) {n : Nat} (hn : n ≤ ps.length) {x : Nat} : x ∈ lineN ps n ↔ x ≤ n := by
  rw [line_Pn ok hn]
  refine ⟨fun h => (Pn_bound ok hn (Nat.zero_le _) h).2, fun h => (way_iff ok hn (Nat.zero_le n) x h).mp ?_⟩
  have : ∀ w, w ≤ n → 0 ∈ way ps w := by
    intro w
    induction w using Nat.strongRecOn with
    | _ w ih =>
      intro hw
      by_cases h0 : w = 0
      · subst h0; rw [way_zero]; exact List.mem_cons_self
      · have hp := ok w (by omega) (by omega)
        rw [way_eq ok (by omega) (by omega)]
        exact List.mem_cons_of_mem _ (ih _ hp (by omega))
  exact this x h
theorem line_len (ps : List Nat) : PsOk ps → ∀ n, n ≤ ps.length → (lineN ps n).length = n + 1 := fun ok n hn => by
  have h1 := line_nodup ok hn
  have h2 : (lineN ps n).Perm (List.range (n + 1)) := (List.perm_ext_iff_of_nodup h1 List.nodup_range).mpr fun x => by rw [line_mem ok hn, List.mem_range]; omega
  rw [h2.length_eq, List.length_range]
/-- the places of what comes of v -/
def fst' (ps : List Nat) (n v : Nat) : Nat := (lineN ps n).idxOf v
def lst' (ps : List Nat) (n v : Nat) : Nat := fst' ps n v + ((Pn ps n v).length - 1)
theorem split_at {ps : List Nat} (ok : PsOk ps) {n : Nat} (hn : n ≤ ps.length) {v : Nat} (hv : v ≤ n) {A B : List Nat} (e : lineN ps n = A ++ Pn ps n v ++ B) : fst' ps n v = A.length := by
  have nd := line_nodup ok hn
  unfold fst'
  rw [e, Pn_eq ok hn hv] at *
  rw [List.append_assoc, List.cons_append] at *
  have := (List.nodup_append.mp nd).2.2
  exact idx_app fun z => this v z v List.mem_cons_self rfl
/-- children side by side -/
theorem kids_at {ps : List Nat} (ok : PsOk ps) {n : Nat} (hn : n ≤ ps.length) {u : Nat} (hu : u ≤ n) {K1 K2 : List Nat} {c : Nat} (ek : kids ps n u = K1 ++ c :: K2) : fst' ps n c = fst' ps n u + 1 + (K1.flatMap (Pn ps n)).length := by
  obtain ⟨A, B, e, _⟩ := split ok hn u hu
  have hc : c ∈ kids ps n u := by rw [ek]; simp
  have hcn := kid_gt ok hn hc
  have e2 : lineN ps n = (A ++ u :: K1.flatMap (Pn ps n)) ++ Pn ps n c ++ (K2.flatMap (Pn ps n) ++ B) := by
    rw [e, Pn_eq ok hn hu, ek, List.flatMap_append, List.flatMap_cons]
    simp only [List.append_assoc, List.cons_append]
  rw [split_at ok hn hcn.2 e2, split_at ok hn hu e, List.length_append, List.length_cons]
  omega
theorem kids_next {ps : List Nat} (ok : PsOk ps) {n : Nat} (hn : n ≤ ps.length) {u : Nat} (hu : u ≤ n) {i : Nat} {c d : Nat} (hc : (kids ps n u)[i]? = some c) (hd : (kids ps n u)[i + 1]? = some d) : lst' ps n c + 1 = fst' ps n d := by
  obtain ⟨hi, ec⟩ := List.getElem?_eq_some_iff.mp hc
  obtain ⟨hj, ed⟩ := List.getElem?_eq_some_iff.mp hd
  have e1 : kids ps n u = (kids ps n u).take i ++ c :: (kids ps n u).drop (i + 1) := by
    rw [← ec, ← List.drop_eq_getElem_cons hi, List.take_append_drop]
  have e2 : kids ps n u = ((kids ps n u).take i ++ [c]) ++ d :: (kids ps n u).drop (i + 2) := by
    have : (kids ps n u).drop (i + 1) = d :: (kids ps n u).drop (i + 2) := by rw [List.drop_eq_getElem_cons hj, ed]
    rw [List.append_assoc, List.singleton_append, ← this]; exact e1
  have hcn := kid_gt ok hn (List.mem_of_getElem? hc)
  have l1 : 0 < (Pn ps n c).length := List.length_pos_iff.mpr fun z => by
    have := Pn_self ok hn hcn.2
    rw [z] at this; cases this
  unfold lst'
  rw [kids_at ok hn hu e1, kids_at ok hn hu e2, List.flatMap_append, List.length_append, List.flatMap_cons, List.flatMap_nil, List.append_nil]
  omega
theorem kids_first {ps : List Nat} (ok : PsOk ps) {n : Nat} (hn : n ≤ ps.length) {u : Nat} (hu : u ≤ n) {c : Nat} (hc : (kids ps n u)[0]? = some c) : fst' ps n c = fst' ps n u + 1 := by
  obtain ⟨hi, ec⟩ := List.getElem?_eq_some_iff.mp hc
  have e1 : kids ps n u = [] ++ c :: (kids ps n u).drop 1 := by
    rw [List.nil_append, ← ec, ← List.drop_eq_getElem_cons hi]; rfl
  rw [kids_at ok hn hu e1]; rfl
end Law

namespace Law
/-! M8: a line by a stack; a long row -/
def chl (ps : List Nat) (n v : Nat) : List Nat := (List.range (n + 1)).filter fun c => decide (0 < c ∧ par ps c = v)
theorem kids_chl (ps : List Nat) (n v : Nat) : kids ps n v = (chl ps n v).reverse := rfl
def stk (ps : List Nat) (n : Nat) (found left : List Nat) : Prop := found ++ left.reverse.flatMap (Pn ps n) = lineN ps n
theorem stk_step {ps : List Nat} (ok : PsOk ps) {n : Nat} (hn : n ≤ ps.length) {F L : List Nat} {v : Nat} (hv : v ≤ n) (h : stk ps n F (L ++ [v])) : stk ps n (F ++ [v]) (L ++ chl ps n v) := by
  unfold stk at *
  rw [List.reverse_append, List.reverse_singleton, List.singleton_append, List.flatMap_cons, Pn_eq ok hn hv] at h
  rw [List.reverse_append, ← kids_chl, List.flatMap_append, List.append_assoc, List.singleton_append]
  rw [List.cons_append] at h
  exact h
theorem stk_start {ps : List Nat} (ok : PsOk ps) : stk ps ps.length [] [0] := by
  unfold stk
  rw [List.reverse_singleton, List.flatMap_cons, List.flatMap_nil, List.append_nil, List.nil_append, line_Pn ok (Nat.le_refl _)]
theorem chl_le {ps : List Nat} {n v c : Nat} (h : c ∈ chl ps n v) : c ≤ n := by
  have := List.mem_range.mp (List.mem_filter.mp h).1
  omega
/-! ### a long row -/
def longP (many gap k : Nat) : List Nat := List.range (many - 1) ++ (List.range k).map (· * gap)
def rowL (many gap j : Nat) (n : Nat) : List Nat := (List.range n).flatMap fun v => if v % gap = 0 ∧ v / gap < j then [v, many + v / gap] else [v]
theorem longP_len (many gap k : Nat) : (longP many gap k).length = many - 1 + k := by unfold longP; rw [List.length_append, List.length_range, List.length_map, List.length_range]
theorem longP_lo {many gap k v : Nat} (h0 : 0 < v) (h : v < many) : par (longP many gap k) v = v - 1 := by
  unfold par longP
  rw [List.getElem?_append_left (by rw [List.length_range]; omega), List.getElem?_range (by omega)]; rfl
theorem longP_hi {many gap k j : Nat} (hm : 0 < many) (h : j < k) : par (longP many gap k) (many + j) = j * gap := by
  unfold par longP
  rw [List.getElem?_append_right (by rw [List.length_range]; omega), List.length_range, show many + j - 1 - (many - 1) = j by omega, List.getElem?_map, List.getElem?_range h]; rfl
theorem longP_ok {many gap k : Nat} (hm : 0 < many) (hk : ∀ j, j < k → j * gap < many) : PsOk (longP many gap k) := fun v h0 hv => by
  rw [longP_len] at hv
  by_cases h : v < many
  · rw [longP_lo h0 h]; omega
  · obtain ⟨j, rfl⟩ : ∃ j, v = many + j := ⟨v - many, by omega⟩
    rw [longP_hi hm (by omega)]
    have := hk j (by omega)
    omega
theorem long_lo {many gap k : Nat} : ∀ n, n < many → lineN (longP many gap k) n = List.range (n + 1)
  | 0, _ => rfl
  | n + 1, h => by
    show insA (lineN _ n) (par (longP many gap k) (n + 1)) (n + 1) = _
    rw [long_lo n (by omega), longP_lo (by omega) h, Nat.add_sub_cancel, List.range_succ, insA_app, if_neg (by rw [List.mem_range]; omega)]
    rw [insA_cons, if_pos rfl, List.range_succ (n := n + 1), List.range_succ]
    simp
theorem rowL_nil {many gap n : Nat} : rowL many gap 0 n = List.range n := by
  unfold rowL
  have : (fun v : Nat => if v % gap = 0 ∧ v / gap < 0 then [v, many + v / gap] else [v]) = fun v => [v] := by
    funext v
    rw [if_neg fun z => Nat.not_lt_zero _ z.2]
  rw [this]
  induction List.range n with
  | nil => rfl
  | cons a l ih => rw [List.flatMap_cons, ih]; rfl
theorem mem_rowL {many gap j n x : Nat} (h : x ∈ rowL many gap j n) : x < n ∨ many ≤ x := by
  unfold rowL at h
  obtain ⟨v, hv, hx⟩ := List.mem_flatMap.mp h
  rw [List.mem_range] at hv
  split at hx
  · simp only [List.mem_cons, List.not_mem_nil, or_false] at hx
    rcases hx with e | e
    · exact .inl (by omega)
    · exact .inr (by rw [e]; exact Nat.le_add_right _ _)
  · exact .inl (by rw [List.mem_singleton.mp hx]; exact hv)
theorem range_split {p n : Nat} (h : p < n) : List.range n = List.range p ++ p :: (List.range (n - p - 1)).map (· + (p + 1)) := by
  refine List.ext_getElem? fun i => ?_
  by_cases h1 : i < p
  · rw [List.getElem?_append_left (by rw [List.length_range]; exact h1), List.getElem?_range h1, List.getElem?_range (by omega)]
  · rw [List.getElem?_append_right (by rw [List.length_range]; omega), List.length_range]
    by_cases h2 : i = p
    · subst h2
      rw [Nat.sub_self, List.getElem?_cons_zero, List.getElem?_range h]
    · obtain ⟨k, hk⟩ : ∃ k, i - p = k + 1 := ⟨i - p - 1, by omega⟩
      rw [hk, List.getElem?_cons_succ, List.getElem?_map]
      by_cases h3 : i < n
      · rw [List.getElem?_range h3, List.getElem?_range (by omega)]
        show some i = some (k + (p + 1))
        congr 1; omega
      · rw [List.getElem?_eq_none (by rw [List.length_range]; omega), List.getElem?_eq_none (by rw [List.length_range]; omega)]; rfl
theorem rowL_step {many gap j : Nat} (hg : 0 < gap) (hj : j * gap < many) : insA (rowL many gap j many) (j * gap) (many + j) = rowL many gap (j + 1) many := by
  have hp1 : j * gap % gap = 0 := Nat.mul_mod_left j gap
  have hp2 : j * gap / gap = j := Nat.mul_div_cancel j hg
  generalize hp : j * gap = p at *
  have e1 : ∀ v, v < p → ((v % gap = 0 ∧ v / gap < j) ↔ (v % gap = 0 ∧ v / gap < j + 1)) := fun v hv => by
    constructor
    · exact fun ⟨a, b⟩ => ⟨a, by omega⟩
    · refine fun ⟨a, b⟩ => ⟨a, ?_⟩
      have h1 := Nat.div_add_mod v gap
      rw [a, Nat.add_zero] at h1
      rw [← hp, ← h1, Nat.mul_comm j gap] at hv
      exact Nat.lt_of_mul_lt_mul_left hv
  have e2 : ∀ v, p < v → ¬ (v % gap = 0 ∧ v / gap < j + 1) := fun v hv ⟨a, b⟩ => by
    have h1 := Nat.div_add_mod v gap
    rw [a, Nat.add_zero] at h1
    have h2 : gap * (v / gap) ≤ gap * j := Nat.mul_le_mul_left gap (by omega)
    rw [h1, Nat.mul_comm, hp] at h2
    omega
  unfold rowL
  rw [range_split hj, List.flatMap_append, List.flatMap_cons, List.flatMap_append, List.flatMap_cons, insA_app, if_neg ?_, if_neg (by rw [hp2]; omega), if_pos ⟨hp1, by rw [hp2]; omega⟩, List.singleton_append, insA_cons, if_pos rfl, hp2]
  · congr 1
    · exact flatMap_cong fun v hv => by
        rw [List.mem_range] at hv
        by_cases c : v % gap = 0 ∧ v / gap < j
        · rw [if_pos c, if_pos ((e1 v hv).mp c)]
        · rw [if_neg c, if_neg fun z => c ((e1 v hv).mpr z)]
    · show p :: (many + j) :: _ = [p, many + j] ++ _
      rw [List.cons_append, List.singleton_append]
      congr 2
      exact flatMap_cong fun v hv => by
        obtain ⟨u, _, rfl⟩ := List.mem_map.mp hv
        rw [if_neg fun z => e2 (u + (p + 1)) (by omega) ⟨z.1, by omega⟩, if_neg (e2 (u + (p + 1)) (by omega))]
  · intro z
    rcases mem_rowL (j := j) (gap := gap) (n := p) z with h | h <;> omega
theorem long_line {many gap k : Nat} (hg : 0 < gap) (hm : 0 < many) (hk : ∀ j, j < k → j * gap < many) : ∀ j, j ≤ k → lineN (longP many gap k) (many - 1 + j) = rowL many gap j many
  | 0, _ => by rw [Nat.add_zero, long_lo (many - 1) (by omega), rowL_nil, show many - 1 + 1 = many by omega]
  | j + 1, h => by
    show insA (lineN _ (many - 1 + j)) (par (longP many gap k) (many - 1 + j + 1)) (many - 1 + j + 1) = _
    rw [long_line hg hm hk j (by omega), show many - 1 + j + 1 = many + j by omega, longP_hi hm (by omega)]
    exact rowL_step hg (hk j (by omega))
end Law

namespace Law
/-! ### the tree of a line -/
/-- the nearest one ahead of v with a lesser number -/
def near (l : List Nat) (v : Nat) : Nat := ((l.takeWhile fun x => decide (x ≠ v)).filter fun x => decide (x < v)).getLast?.getD 0
theorem takeWhile_to {v : Nat} : ∀ {X Y : List Nat}, v ∉ X → (X ++ v :: Y).takeWhile (fun x => decide (x ≠ v)) = X
  | [], Y, _ => by
    rw [List.nil_append, List.takeWhile_cons]
    simp
  | x :: X, Y, h => by
    rw [List.mem_cons, not_or] at h
    have hx : decide (x ≠ v) = true := decide_eq_true (show x ≠ v from fun e => h.1 e.symm)
    rw [List.cons_append, List.takeWhile_cons_of_pos (p := fun x => decide (x ≠ v)) hx, takeWhile_to h.2]
theorem near_at {X Y : List Nat} {v : Nat} (h : v ∉ X) : near (X ++ v :: Y) v = (X.filter fun x => decide (x < v)).getLast?.getD 0 := by
  unfold near
  rw [takeWhile_to h]
theorem filter_nil_of {p : Nat → Bool} : ∀ {l : List Nat}, (∀ x ∈ l, p x = false) → l.filter p = []
  | [], _ => rfl
  | x :: l, h => by
    rw [List.filter_cons, h x List.mem_cons_self, if_neg Bool.false_ne_true]
    exact filter_nil_of fun y hy => h y (List.mem_cons_of_mem _ hy)
theorem near_line {ps : List Nat} (ok : PsOk ps) {n : Nat} (hn : n ≤ ps.length) {v : Nat} (h0 : 0 < v) (hv : v ≤ n) : near (lineN ps n) v = par ps v := by
  have hp := ok v h0 (by omega)
  have nd := line_nodup ok hn
  obtain ⟨A, B, e, _⟩ := split ok hn (par ps v) (by omega)
  have hk : v ∈ kids ps n (par ps v) := kids_mem.mpr ⟨hv, h0, rfl⟩
  obtain ⟨K1, K2, ek⟩ := List.append_of_mem hk
  have e2 : lineN ps n = (A ++ par ps v :: K1.flatMap (Pn ps n)) ++ v :: ((kids ps n v).flatMap (Pn ps n) ++ (K2.flatMap (Pn ps n) ++ B)) := by
    rw [e, Pn_eq ok hn (show par ps v ≤ n by omega), ek, List.flatMap_append, List.flatMap_cons, Pn_eq ok hn hv]
    simp only [List.append_assoc, List.cons_append]
  rw [e2] at nd ⊢
  have hd := kids_desc ps n (par ps v)
  rw [ek] at hd
  rw [near_at fun z => (List.nodup_append.mp nd).2.2 v z v List.mem_cons_self rfl, List.filter_append, List.filter_cons, if_pos (decide_eq_true hp), filter_nil_of (l := K1.flatMap (Pn ps n)) fun x hx => ?_]
  · rw [List.getLast?_append]; rfl
  · obtain ⟨c, hc, hx⟩ := List.mem_flatMap.mp hx
    have hcv := (List.pairwise_append.mp hd).2.2 c hc v List.mem_cons_self
    have hcn := kid_gt ok hn (c := c) (v := par ps v) (by rw [ek]; exact List.mem_append_left _ hc)
    have hb := Pn_bound ok hn hcn.2 hx
    exact decide_eq_false (by omega)
/-- all parents told by a line -/
def treeL (l : List Nat) (n : Nat) : List Nat := (List.range n).map fun k => near l (k + 1)
theorem treeL_par {l : List Nat} {n v : Nat} (h0 : 0 < v) (hv : v ≤ n) : par (treeL l n) v = near l v := by
  unfold par treeL
  rw [List.getElem?_map, List.getElem?_range (by omega)]
  show near l (v - 1 + 1) = _
  rw [Nat.sub_add_cancel h0]
theorem treeL_line {ps : List Nat} (ok : PsOk ps) : treeL (lineN ps ps.length) ps.length = ps := by
  refine List.ext_getElem? fun k => ?_
  unfold treeL
  rw [List.getElem?_map]
  by_cases hk : k < ps.length
  · rw [List.getElem?_range hk, List.getElem?_eq_getElem hk]
    show some (near _ (k + 1)) = _
    rw [near_line ok (Nat.le_refl _) (by omega) (by omega)]
    unfold par
    rw [Nat.add_sub_cancel, List.getElem?_eq_getElem hk]; rfl
  · rw [List.getElem?_eq_none (by rw [List.length_range]; omega), List.getElem?_eq_none (by omega)]; rfl
theorem line_cong {ps qs : List Nat} : ∀ n, (∀ v, 0 < v → v ≤ n → par ps v = par qs v) → lineN ps n = lineN qs n
  | 0, _ => rfl
  | n + 1, h => by
    show insA (lineN ps n) (par ps (n + 1)) (n + 1) = insA (lineN qs n) (par qs (n + 1)) (n + 1)
    rw [line_cong n fun v h0 hv => h v h0 (by omega), h (n + 1) (by omega) (Nat.le_refl _)]
theorem insA_at {X Y : List Nat} {p m : Nat} (h : p ∉ X) : insA (X ++ p :: Y) p m = X ++ p :: m :: Y := by
  rw [insA_app, if_neg h, insA_cons, if_pos rfl]
/-- each sequence that begins with 0 is the line of its tree -/
theorem line_tree : ∀ (n : Nat) (l : List Nat), l.Perm (List.range (n + 1)) → l.head? = some 0 → lineN (treeL l n) n = l ∧ ∀ v, 0 < v → v ≤ n → near l v < v
  | 0, l, hp, h0 => by
    have : l = [0] := by
      have := hp.length_eq
      cases l with
      | nil => cases h0
      | cons x r =>
        cases r with
        | nil => injection h0 with h0; rw [h0]
        | cons y r => simp at this
    subst this
    exact ⟨rfl, fun v h1 h2 => by omega⟩
  | n + 1, l, hp, h0 => by
    have nd : l.Nodup := hp.nodup_iff.mpr List.nodup_range
    have hm : n + 1 ∈ l := hp.mem_iff.mpr (List.mem_range.mpr (by omega))
    obtain ⟨X, Y, rfl⟩ := List.append_of_mem hm
    have hlt : ∀ x ∈ X ++ Y, x < n + 1 := fun x hx => by
      have h1 : x ∈ X ++ (n + 1) :: Y := by
        rcases List.mem_append.mp hx with z | z
        · exact List.mem_append_left _ z
        · exact List.mem_append_right _ (List.mem_cons_of_mem _ z)
      have h2 := List.mem_range.mp (hp.mem_iff.mp h1)
      have h3 : x ≠ n + 1 := fun e => by
        subst e
        have nd' := List.nodup_append.mp nd
        rcases List.mem_append.mp hx with z | z
        · exact nd'.2.2 _ z _ List.mem_cons_self rfl
        · exact (List.nodup_cons.mp nd'.2.1).1 z
      omega
    have hp' : (X ++ Y).Perm (List.range (n + 1)) := by
      have h1 : ((n + 1) :: (X ++ Y)).Perm ((n + 1) :: List.range (n + 1)) := by
        refine (List.perm_middle.symm.trans hp).trans ?_
        rw [List.range_succ (n := n + 1)]
        exact List.perm_append_comm
      exact h1.cons_inv
    have hX : X ≠ [] := fun e => by subst e; injection h0 with h0; omega
    have nX : n + 1 ∉ X := fun z => by have := hlt _ (List.mem_append_left _ z); omega
    obtain ⟨ih, ihl⟩ := line_tree n (X ++ Y) hp' (by
      cases X with
      | nil => exact absurd rfl hX
      | cons x X => exact h0)
    have hne : ∀ v, 0 < v → v ≤ n → near (X ++ (n + 1) :: Y) v = near (X ++ Y) v := fun v h1 h2 => by
      have hv : v ∈ X ++ Y := hp'.mem_iff.mpr (List.mem_range.mpr (by omega))
      by_cases hx : v ∈ X
      · obtain ⟨X1, X2, rfl⟩ := List.append_of_mem hx
        have nx : v ∉ X1 := fun z => by
          have := (List.nodup_append.mp (List.nodup_append.mp nd).1).2.2 v z v List.mem_cons_self
          exact this rfl
        rw [List.append_assoc, List.append_assoc, List.cons_append, List.cons_append, near_at nx, near_at nx]
      · have hy : v ∈ Y := (List.mem_append.mp hv).resolve_left hx
        have ndp := hp'.nodup_iff.mpr List.nodup_range
        obtain ⟨Y1, Y2, rfl⟩ := List.append_of_mem hy
        have ny : v ∉ Y1 := fun z => by
          have := (List.nodup_append.mp (List.nodup_append.mp ndp).2.1).2.2 v z v List.mem_cons_self
          exact this rfl
        have e1 : X ++ (n + 1) :: (Y1 ++ v :: Y2) = (X ++ (n + 1) :: Y1) ++ v :: Y2 := by rw [List.append_assoc, List.cons_append]
        have e2 : X ++ (Y1 ++ v :: Y2) = (X ++ Y1) ++ v :: Y2 := by rw [List.append_assoc]
        rw [e1, e2, near_at (fun z => ?_), near_at (fun z => ?_), List.filter_append, List.filter_append, List.filter_cons, if_neg (by rw [decide_eq_true_eq]; omega)]
        · exact (List.mem_append.mp z).elim hx ny
        · rcases List.mem_append.mp z with z | z
          · exact hx z
          · rcases List.mem_cons.mp z with z | z
            · omega
            · exact ny z
    obtain ⟨X', p, rfl⟩ : ∃ X' p, X = X' ++ [p] := by
      rcases List.eq_nil_or_concat X with e | ⟨a, b, e⟩
      · exact absurd e hX
      · exact ⟨a, b, by rw [e, List.concat_eq_append]⟩
    have hpm : near ((X' ++ [p]) ++ (n + 1) :: Y) (n + 1) = p := by
      rw [near_at nX, List.filter_eq_self.mpr fun x hx => decide_eq_true (hlt x (List.mem_append_left _ hx)), List.getLast?_append]; rfl
    have hpl : p < n + 1 := hlt p (by simp)
    have pX : p ∉ X' := fun z => by
      have := (List.nodup_append.mp (List.nodup_append.mp nd).1).2.2 p z p List.mem_cons_self
      exact this rfl
    refine ⟨?_, fun v h1 h2 => ?_⟩
    · show insA (lineN (treeL _ (n + 1)) n) (par (treeL _ (n + 1)) (n + 1)) (n + 1) = _
      rw [treeL_par (by omega) (Nat.le_refl _), hpm, line_cong (qs := treeL ((X' ++ [p]) ++ Y) n) n fun v h1 h2 => by rw [treeL_par h1 (by omega), treeL_par h1 h2, hne v h1 h2], ih, List.append_assoc, List.append_assoc, List.singleton_append, List.singleton_append, insA_at pX]
    · by_cases e : v = n + 1
      · subst e; rw [hpm]; exact hpl
      · rw [hne v h1 (by omega)]
        exact ihl v h1 (by omega)
/-- what comes of v, by places -/
theorem block_iff {ps : List Nat} (ok : PsOk ps) {n : Nat} (hn : n ≤ ps.length) {v w kv kw : Nat} (hv : v ≤ n) (ev : (lineN ps n)[kv]? = some v) (ew : (lineN ps n)[kw]? = some w) :
    w ∈ Pn ps n v ↔ kv ≤ kw ∧ ∀ k x, kv ≤ k → k ≤ kw → (lineN ps n)[k]? = some x → v ≤ x := by
  have nd := line_nodup ok hn
  obtain ⟨A, B, e, hB⟩ := split ok hn v hv
  have hA : (lineN ps n)[A.length]? = some v := by
    rw [e, List.append_assoc, List.getElem?_append_right (Nat.le_refl _), Nat.sub_self, Pn_eq ok hn hv]; rfl
  have hkv : kv = A.length := (List.getElem?_inj (List.getElem?_eq_some_iff.mp ev).1 nd).mp (ev.trans hA.symm)
  subst hkv
  have inn : ∀ k, k < (Pn ps n v).length → (lineN ps n)[A.length + k]? = (Pn ps n v)[k]? := fun k hk => by
    rw [e, List.append_assoc, List.getElem?_append_right (by omega), Nat.add_sub_cancel_left, List.getElem?_append_left hk]
  have out : (lineN ps n)[A.length + (Pn ps n v).length]? = B[0]? := by
    rw [e, List.append_assoc, List.getElem?_append_right (by omega), Nat.add_sub_cancel_left, List.getElem?_append_right (Nat.le_refl _), Nat.sub_self]
  constructor
  · intro hw
    obtain ⟨j, hj, ej⟩ := List.getElem_of_mem hw
    have e2 : (lineN ps n)[A.length + j]? = some w := by rw [inn j hj, List.getElem?_eq_getElem hj, ej]
    have hk : kw = A.length + j := (List.getElem?_inj (List.getElem?_eq_some_iff.mp ew).1 nd).mp (ew.trans e2.symm)
    refine ⟨by omega, fun k x h1 h2 hx => ?_⟩
    have e3 := inn (k - A.length) (by omega)
    rw [show A.length + (k - A.length) = k by omega, hx] at e3
    exact (Pn_bound ok hn hv (List.mem_of_getElem? e3.symm)).1
  · rintro ⟨h1, h2⟩
    by_cases h : kw < A.length + (Pn ps n v).length
    · have e3 := inn (kw - A.length) (by omega)
      rw [show A.length + (kw - A.length) = kw by omega, ew] at e3
      exact List.mem_of_getElem? e3.symm
    · have hl := (List.getElem?_eq_some_iff.mp ew).1
      have hb := List.getElem?_eq_getElem (show A.length + (Pn ps n v).length < (lineN ps n).length by omega)
      have g1 := h2 _ _ (by omega) (by omega) hb
      rw [out] at hb
      have g2 := hB _ hb
      omega
/-- the least number from u to w tells where they meet -/
theorem meet_least {ps : List Nat} (ok : PsOk ps) {n : Nat} (hn : n ≤ ps.length) {u w z ku kw kz : Nat} (eu : (lineN ps n)[ku]? = some u) (ew : (lineN ps n)[kw]? = some w) (ez : (lineN ps n)[kz]? = some z) (h1 : ku ≤ kz) (h2 : kz ≤ kw)
    (hl : ∀ k x, ku ≤ k → k ≤ kw → (lineN ps n)[k]? = some x → z ≤ x) :
    (z = u → w ∈ Pn ps n u) ∧ (z ≠ u → w ∉ Pn ps n u ∧ 0 < z ∧ u ∈ Pn ps n (par ps z) ∧ w ∈ Pn ps n (par ps z) ∧ ∀ c, c ≤ n → u ∈ Pn ps n c → w ∈ Pn ps n c → c ≤ par ps z) := by
  have hu := (line_mem ok hn).mp (List.mem_of_getElem? eu)
  have hz := (line_mem ok hn).mp (List.mem_of_getElem? ez)
  refine ⟨fun e => ?_, fun ne => ?_⟩
  · subst e
    exact (block_iff ok hn hu eu ew).mpr ⟨by omega, hl⟩
  · have hzu : z < u := by
      have := hl ku u (Nat.le_refl _) (by omega) eu
      omega
    have hne : ku ≠ kz := fun e => by
      subst e
      rw [eu] at ez; cases ez; exact ne rfl
    have hz0 : 0 < z := by
      rcases Nat.eq_zero_or_pos z with e | e
      · exfalso
        subst e
        have h0 : (lineN ps n)[0]? = some 0 := by
          rw [line_Pn ok hn, Pn_eq ok hn (Nat.zero_le _)]; rfl
        have := (List.getElem?_inj (List.getElem?_eq_some_iff.mp h0).1 (line_nodup ok hn)).mp (h0.trans ez.symm)
        omega
      · exact e
    have hp := ok z hz0 (by omega)
    have hql : par ps z ∈ lineN ps n := (line_mem ok hn).mpr (by omega)
    obtain ⟨kq, hkq, eq0⟩ := List.getElem_of_mem hql
    have eq1 : (lineN ps n)[kq]? = some (par ps z) := by rw [List.getElem?_eq_getElem hkq, eq0]
    have hzq : z ∈ Pn ps n (par ps z) := Pn_down ok hn (n - par ps z) _ (Nat.le_refl _) (by omega) _ (Pn_self ok hn (by omega)) z (kids_mem.mpr ⟨hz, hz0, rfl⟩)
    have bq := (block_iff ok hn (by omega) eq1 ez).mp hzq
    have kqu : kq < ku := by
      rcases Nat.lt_or_ge kq ku with h | h
      · exact h
      · have := hl kq _ h (by omega) eq1
        omega
    have all : ∀ k x, kq ≤ k → k ≤ kw → (lineN ps n)[k]? = some x → par ps z ≤ x := fun k x g1 g2 hx => by
      rcases Nat.lt_or_ge kz k with h | h
      · have := hl k x (by omega) g2 hx
        omega
      · exact bq.2 k x g1 h hx
    refine ⟨fun hw => ?_, hz0, (block_iff ok hn (by omega) eq1 eu).mpr ⟨by omega, fun k x g1 g2 hx => all k x g1 (by omega) hx⟩, (block_iff ok hn (by omega) eq1 ew).mpr ⟨by omega, all⟩, fun c hc hcu hcw => ?_⟩
    · have := ((block_iff ok hn hu eu ew).mp hw).2 kz z h1 h2 ez
      omega
    · obtain ⟨kc, hkc, ec0⟩ := List.getElem_of_mem ((line_mem ok hn).mpr hc)
      have ec : (lineN ps n)[kc]? = some c := by rw [List.getElem?_eq_getElem hkc, ec0]
      have b1 := (block_iff ok hn hc ec eu).mp hcu
      have b2 := (block_iff ok hn hc ec ew).mp hcw
      have hzc : z ∈ Pn ps n c := (block_iff ok hn hc ec ez).mpr ⟨by omega, fun k x g1 g2 hx => b2.2 k x g1 (by omega) hx⟩
      have nzc : z ≠ c := fun e => by
        subst e
        have := (List.getElem?_inj (List.getElem?_eq_some_iff.mp ez).1 (line_nodup ok hn)).mp (ez.trans ec.symm)
        omega
      exact (Pn_bound ok hn hc (Pn_up ok hn (n - c) c (Nat.le_refl _) hc z hzc nzc)).1
end Law

/-! M62: where two ways up meet, and what stands between both in the line. -/
namespace Law
namespace Mt
theorem self {ps : List Nat} (ok : PsOk ps) {w : Nat} (hw : w ≤ ps.length) : ∃ t, way ps w = w :: t := by
  by_cases h : w = 0
  · subst h; exact ⟨[], way_zero ps⟩
  · exact ⟨_, way_eq ok (by omega) hw⟩
def upto (ps : List Nat) (v m : Nat) : List Nat := (way ps v).takeWhile fun x => decide (x ≠ m)
theorem split {ps : List Nat} (ok : PsOk ps) {m : Nat} : ∀ v, v ≤ ps.length → m ∈ way ps v → way ps v = upto ps v m ++ way ps m ∧ ∀ x ∈ upto ps v m, m < x := by
  intro v
  induction v using Nat.strongRecOn with
  | ind v ih =>
    intro hv hm
    by_cases e : v = m
    · subst e
      obtain ⟨t, et⟩ := self ok hv
      have : upto ps v v = [] := by unfold upto; rw [et, List.takeWhile_cons_of_neg (by simp)]
      rw [this]
      exact ⟨rfl, fun x z => absurd z List.not_mem_nil⟩
    · have h0 : 0 < v := by
        rcases Nat.eq_zero_or_pos v with z | z
        · rw [z, way_zero, List.mem_singleton] at hm; omega
        · exact z
      have ew := way_eq ok h0 hv
      have hp := ok v h0 hv
      rw [ew, List.mem_cons] at hm
      have hm := hm.elim (fun z => absurd z.symm e) id
      obtain ⟨i1, i2⟩ := ih _ hp (by omega) hm
      have eu : upto ps v m = v :: upto ps (par ps v) m := by
        unfold upto; rw [ew, List.takeWhile_cons_of_pos (by exact decide_eq_true e)]
      have hml := way_le ok _ (by omega) m hm
      rw [eu]
      refine ⟨by rw [ew, i1]; rfl, fun x hx => ?_⟩
      rcases List.mem_cons.mp hx with rfl | hx
      · omega
      · exact i2 x hx
theorem sub {ps : List Nat} (ok : PsOk ps) {v m x : Nat} (hv : v ≤ ps.length) (hm : m ∈ way ps v) (hx : x ∈ way ps m) : x ∈ way ps v := by
  rw [(split ok v hv hm).1]; exact List.mem_append_right _ hx
theorem upto_self {ps : List Nat} (ok : PsOk ps) {v : Nat} (hv : v ≤ ps.length) : upto ps v v = [] := by
  obtain ⟨t, et⟩ := self ok hv
  unfold upto; rw [et, List.takeWhile_cons_of_neg (by simp)]
theorem upto_step {ps : List Nat} (ok : PsOk ps) {v m : Nat} (h0 : 0 < v) (hv : v ≤ ps.length) (e : v ≠ m) : upto ps v m = v :: upto ps (par ps v) m := by
  unfold upto; rw [way_eq ok h0 hv, List.takeWhile_cons_of_pos (by exact decide_eq_true e)]
section
variable {ps : List Nat} {a b m : Nat}
theorem both (ok : PsOk ps) (ha : a ≤ ps.length) (hb : b ≤ ps.length) (h1 : m ∈ way ps a) (h2 : m ∈ way ps b) (h3 : ∀ x, x ∈ way ps a → x ∈ way ps b → x ∈ way ps m) : (way ps a).filter (fun x => decide (x ∈ way ps b)) = way ps m := by
  obtain ⟨e1, e2⟩ := split ok a ha h1
  have hml := way_le ok a ha m h1
  conv => lhs; rw [e1]
  rw [List.filter_append, List.filter_eq_nil_iff.mpr (fun x hx z => ?_), List.nil_append, List.filter_eq_self.mpr fun x hx => decide_eq_true (sub ok hb h2 hx)]
  have z := of_decide_eq_true z
  have hxa : x ∈ way ps a := by rw [e1]; exact List.mem_append_left _ hx
  have := way_le ok m (by omega) x (h3 x hxa z)
  have := e2 x hx
  omega
theorem rest (ok : PsOk ps) (ha : a ≤ ps.length) (h1 : m ∈ way ps a) : (way ps a).filter (fun x => decide (x ∉ way ps m)) = upto ps a m := by
  obtain ⟨e1, e2⟩ := split ok a ha h1
  have hml := way_le ok a ha m h1
  conv => lhs; rw [e1]
  rw [List.filter_append, List.filter_eq_self.mpr (fun x hx => decide_eq_true (show ¬ x ∈ way ps m from fun z => ?_)), List.filter_eq_nil_iff.mpr (fun x hx z => (of_decide_eq_true z) hx), List.append_nil]
  have := way_le ok m (by omega) x z
  have := e2 x hx
  omega
theorem child (ok : PsOk ps) : ∀ b, b ≤ ps.length → m ∈ way ps b → m ≠ b → ∃ c, c ∈ way ps b ∧ 0 < c ∧ par ps c = m := by
  intro b
  induction b using Nat.strongRecOn with
  | ind b ih =>
    intro hb hm ne
    have h0 : 0 < b := by
      rcases Nat.eq_zero_or_pos b with z | z
      · rw [z, way_zero, List.mem_singleton] at hm; omega
      · exact z
    have ew := way_eq ok h0 hb
    have hp := ok b h0 hb
    rw [ew, List.mem_cons] at hm
    have hm := hm.elim (fun z => absurd z ne) id
    by_cases e : m = par ps b
    · exact ⟨b, by rw [ew]; exact List.mem_cons_self, h0, e.symm⟩
    · obtain ⟨c, h1, h2, h3⟩ := ih _ hp (by omega) hm e
      exact ⟨c, by rw [ew]; exact List.mem_cons_of_mem _ h1, h2, h3⟩
def dep (ps : List Nat) (v : Nat) : Nat := (way ps v).length
theorem dep_pos (ok : PsOk ps) {z : Nat} (hz : z ≤ ps.length) : 0 < dep ps z := by obtain ⟨t, et⟩ := self ok hz; unfold dep; rw [et]; exact Nat.succ_pos _
theorem dep_par (ok : PsOk ps) {z : Nat} (h0 : 0 < z) (hz : z ≤ ps.length) : dep ps z = dep ps (par ps z) + 1 := by unfold dep; rw [way_eq ok h0 hz]; rfl
theorem dep_le (ok : PsOk ps) {z : Nat} (hz : z ≤ ps.length) (hm : m ∈ way ps z) : dep ps m ≤ dep ps z ∧ (dep ps m = dep ps z → m = z) := by
  obtain ⟨e1, _⟩ := split ok z hz hm
  have el : dep ps z = (upto ps z m).length + dep ps m := by unfold dep; conv => lhs; rw [e1]
                                                             rw [List.length_append]
  refine ⟨by omega, fun e => ?_⟩
  have hn : upto ps z m = [] := List.length_eq_zero_iff.mp (by omega)
  rw [hn, List.nil_append] at e1
  obtain ⟨t, et⟩ := self ok hz
  have hml := way_le ok z hz m hm
  obtain ⟨t', et'⟩ := self ok (Nat.le_trans hml hz)
  rw [et, et'] at e1
  exact (List.cons.inj e1).1.symm
theorem dep_lt (ok : PsOk ps) {z : Nat} (hz : z ≤ ps.length) (hm : m ∈ way ps z) (ne : z ≠ m) : 0 < z ∧ m ∈ way ps (par ps z) ∧ dep ps m + 1 ≤ dep ps z ∧ (dep ps m + 1 = dep ps z → par ps z = m) := by
  have h0 : 0 < z := by
    rcases Nat.eq_zero_or_pos z with e | e
    · rw [e, way_zero, List.mem_singleton] at hm; omega
    · exact e
  have hp := ok z h0 hz
  have hd := dep_par ok h0 hz
  rw [way_eq ok h0 hz, List.mem_cons] at hm
  have hm := hm.elim (fun z => absurd z.symm ne) id
  obtain ⟨i1, i2⟩ := dep_le ok (by omega) hm
  exact ⟨h0, hm, by omega, fun e => (i2 (by omega)).symm⟩
/-- what stands between in the line -/
theorem between (ok : PsOk ps) {low high : Nat} (ea : (lineN ps ps.length)[low]? = some a) (eb : (lineN ps ps.length)[high]? = some b) (hlt : low < high) (h1 : m ∈ way ps a) (h2 : m ∈ way ps b) (h3 : ∀ x, x ∈ way ps a → x ∈ way ps b → x ∈ way ps m) :
    (∀ k z, low < k → k ≤ high → (lineN ps ps.length)[k]? = some z → m ∈ way ps z ∧ z ≠ m) ∧ (m ≠ a → ∃ k c, low < k ∧ k ≤ high ∧ (lineN ps ps.length)[k]? = some c ∧ 0 < c ∧ par ps c = m) := by
  have hn := Nat.le_refl ps.length
  have lm := fun x => line_mem ok hn (x := x)
  have nd := line_nodup ok hn
  have ha := (lm a).mp (List.mem_of_getElem? ea)
  have hb := (lm b).mp (List.mem_of_getElem? eb)
  have hm := way_le ok a ha m h1
  have at_ : ∀ x, x ≤ ps.length → ∃ k, (lineN ps ps.length)[k]? = some x := fun x hx => List.getElem?_of_mem ((lm x).mpr hx)
  have uniq : ∀ k k' x, (lineN ps ps.length)[k]? = some x → (lineN ps ps.length)[k']? = some x → k = k' := fun k k' x e1 e2 => (List.getElem?_inj (List.getElem?_eq_some_iff.mp e1).1 nd).mp (e1.trans e2.symm)
  obtain ⟨km, em⟩ := at_ m (by omega)
  have ba := (block_iff ok hn (by omega) em ea).mp ((way_iff ok hn (by omega) a ha).mp h1)
  have bb := (block_iff ok hn (by omega) em eb).mp ((way_iff ok hn (by omega) b hb).mp h2)
  refine ⟨fun k z hk1 hk2 ez => ⟨(way_iff ok hn (by omega) z ((lm z).mp (List.mem_of_getElem? ez))).mpr ((block_iff ok hn (by omega) em ez).mpr ⟨by omega, fun k' x g1 g2 hx => bb.2 k' x g1 (by omega) hx⟩), fun e => ?_⟩, fun ne => ?_⟩
  · subst e
    have := uniq _ _ _ em ez
    omega
  · have nb : m ≠ b := fun e => by
      subst e
      have := uniq _ _ _ em eb
      omega
    obtain ⟨c, c1, c2, c3⟩ := child ok b hb h2 nb
    have hc := way_le ok b hb c c1
    have hcm := ok c c2 (by omega)
    obtain ⟨kc, ec⟩ := at_ c (by omega)
    have bc := (block_iff ok hn (by omega) ec eb).mp ((way_iff ok hn (by omega) b hb).mp c1)
    refine ⟨kc, c, ?_, bc.1, ec, c2, c3⟩
    rcases Nat.lt_or_ge low kc with z | z
    · exact z
    · exfalso
      have ca : c ∈ way ps a := (way_iff ok hn (by omega) a ha).mpr ((block_iff ok hn (by omega) ec ea).mpr ⟨z, fun k' x g1 g2 hx => bc.2 k' x g1 (by omega) hx⟩)
      have := way_le ok m (by omega) c (h3 c ca c1)
      omega
end
end Mt
theorem way_len {ps : List Nat} (ok : PsOk ps) : ∀ v, v ≤ ps.length → (way ps v).length ≤ v + 1 := by
  intro v
  induction v using Nat.strongRecOn with
  | ind v ih =>
    intro hv
    by_cases h : v = 0
    · subst h; rw [way_zero]; exact Nat.le_refl _
    · have hp := ok v (by omega) hv
      have := ih _ hp (by omega)
      rw [way_eq ok (by omega) hv, List.length_cons]; omega
end Law

/-! M63: jumps: where they lead, and how few are needed. -/
namespace Law
namespace Ju
/-! ### digits -/
def wt (a : Nat) : Nat := 2 ^ a - 1
theorem wt_pos {a : Nat} (h : 1 ≤ a) : 1 ≤ wt a := by
  have : 2 ^ 1 ≤ 2 ^ a := Nat.pow_le_pow_right (by decide) h
  unfold wt; omega
theorem wt_succ (a : Nat) : wt (a + 1) = 2 * wt a + 1 := by
  have : 1 ≤ 2 ^ a := Nat.one_le_two_pow
  unfold wt; rw [Nat.pow_succ]; omega
def val : List Nat → Nat
  | [] => 0
  | a :: r => wt a + val r
def nxt : List Nat → List Nat
  | a :: b :: r => if a = b then (a + 1) :: r else 1 :: a :: b :: r
  | l => 1 :: l
def digs : Nat → List Nat
  | 0 => []
  | d + 1 => nxt (digs d)
def Inc : List Nat → Prop
  | [] => True
  | [a] => 1 ≤ a
  | a :: b :: r => 1 ≤ a ∧ a < b ∧ Inc (b :: r)
def Can (l : List Nat) : Prop := Inc l ∨ ∃ a r, l = a :: a :: r ∧ Inc (a :: r)
theorem inc_tail {a : Nat} {r : List Nat} (h : Inc (a :: r)) : Inc r := by
  cases r with
  | nil => trivial
  | cons b r => exact h.2.2
theorem inc_pos {a : Nat} {r : List Nat} (h : Inc (a :: r)) : 1 ≤ a := by
  cases r with
  | nil => exact h
  | cons b r => exact h.1
theorem can_tail {a : Nat} {r : List Nat} (h : Can (a :: r)) : Inc r := by
  rcases h with h | ⟨b, s, e, h⟩
  · exact inc_tail h
  · cases e; exact h
theorem can_pos {a : Nat} {r : List Nat} (h : Can (a :: r)) : 1 ≤ a := by
  rcases h with h | ⟨b, s, e, h⟩
  · exact inc_pos h
  · cases e; exact inc_pos h
/-- the one before -/
theorem can_pred {a : Nat} {r : List Nat} (h : Can (a :: r)) : ∃ p, Can p ∧ val p + 1 = val (a :: r) ∧ nxt p = a :: r ∧ (a ≠ 1 → p = (a - 1) :: (a - 1) :: r) := by
  have hp := can_pos h
  by_cases e : a = 1
  · subst e
    refine ⟨r, .inl (can_tail h), by show val r + 1 = wt 1 + val r; unfold wt; omega, ?_, fun z => absurd rfl z⟩
    cases r with
    | nil => rfl
    | cons b s =>
      cases s with
      | nil => rfl
      | cons c s =>
        have hi := can_tail h
        show (if b = c then _ else _) = _
        rw [if_neg (Nat.ne_of_lt hi.2.1)]
  · have h1 : Inc ((a - 1) :: r) := by
      cases r with
      | nil => show 1 ≤ a - 1; omega
      | cons b s =>
        have hi := can_tail h
        refine ⟨by omega, ?_, hi⟩
        rcases h with h | ⟨c, t, e2, h⟩
        · have := h.2.1; omega
        · cases e2; omega
    refine ⟨(a - 1) :: (a - 1) :: r, .inr ⟨_, _, rfl, h1⟩, ?_, ?_, fun _ => rfl⟩
    · have := wt_succ (a - 1)
      rw [show a - 1 + 1 = a by omega] at this
      show wt (a - 1) + (wt (a - 1) + val r) + 1 = wt a + val r
      omega
    · show (if a - 1 = a - 1 then _ else _) = _
      rw [if_pos rfl, show a - 1 + 1 = a by omega]
theorem digs_val : ∀ (n : Nat) (l : List Nat), val l = n → Can l → digs n = l := by
  intro n
  induction n with
  | zero =>
    intro l h c
    cases l with
    | nil => rfl
    | cons a r =>
      have := wt_pos (can_pos c)
      have h : wt a + val r = 0 := h
      omega
  | succ n ih =>
    intro l h c
    cases l with
    | nil => cases h
    | cons a r =>
      obtain ⟨p, p1, p2, p3, _⟩ := can_pred c
      show nxt (digs n) = _
      rw [ih p (by omega) p1, p3]
theorem can_nxt {l : List Nat} (h : Can l) : Can (nxt l) ∧ val (nxt l) = val l + 1 := by
  match l, h with
  | [], _ => exact ⟨.inl (Nat.le_refl _), rfl⟩
  | [a], h =>
    have ha := can_pos h
    refine ⟨?_, by show wt 1 + (wt a + 0) = wt a + 0 + 1; unfold wt; omega⟩
    by_cases e : a = 1
    · subst e; exact .inr ⟨1, [], rfl, Nat.le_refl _⟩
    · exact .inl ⟨Nat.le_refl _, by omega, ha⟩
  | a :: b :: r, h =>
    have hb := can_tail h
    have ha := can_pos h
    by_cases e : a = b
    · subst e
      have en : nxt (a :: a :: r) = (a + 1) :: r := if_pos rfl
      rw [en]
      refine ⟨?_, by show wt (a + 1) + val r = wt a + (wt a + val r) + 1; rw [wt_succ]; omega⟩
      cases r with
      | nil => exact .inl (by show 1 ≤ a + 1; omega)
      | cons c s =>
        have h1 := hb.2.1
        by_cases e : a + 1 = c
        · subst e; exact .inr ⟨a + 1, s, rfl, hb.2.2⟩
        · exact .inl ⟨by omega, by omega, hb.2.2⟩
    · have en : nxt (a :: b :: r) = 1 :: a :: b :: r := if_neg e
      rw [en]
      have hi : Inc (a :: b :: r) := by
        rcases h with h | ⟨c, t, e2, h⟩
        · exact h
        · cases e2; exact absurd rfl e
      refine ⟨?_, by show wt 1 + (wt a + (wt b + val r)) = _; show _ = wt a + (wt b + val r) + 1; unfold wt; omega⟩
      by_cases e1 : a = 1
      · subst e1; exact .inr ⟨1, b :: r, rfl, hi⟩
      · exact .inl ⟨Nat.le_refl _, by omega, hi⟩
theorem digs_can : ∀ d, Can (digs d) ∧ val (digs d) = d
  | 0 => ⟨.inl trivial, rfl⟩
  | d + 1 => by
    obtain ⟨h1, h2⟩ := digs_can d
    obtain ⟨h3, h4⟩ := can_nxt h1
    exact ⟨h3, by rw [show digs (d + 1) = nxt (digs d) from rfl, h4, h2]⟩
/-! ### the depth a jump leads to -/
def jd (d : Nat) : Nat := val (digs d).tail
theorem jd_zero : jd 0 = 0 := rfl
theorem digs_jd (d : Nat) : digs (jd d) = (digs d).tail := by
  obtain ⟨h1, h2⟩ := digs_can d
  cases hd : digs d with
  | nil => unfold jd; rw [hd]; rfl
  | cons a r =>
    rw [hd] at h1
    unfold jd
    rw [hd]
    exact digs_val _ _ rfl (.inl (can_tail h1))
theorem jd_lt {d : Nat} (h : 0 < d) : jd d < d := by
  obtain ⟨h1, h2⟩ := digs_can d
  cases hd : digs d with
  | nil => rw [hd] at h2; have h2 : 0 = d := h2; omega
  | cons a r =>
    rw [hd] at h1 h2
    have := wt_pos (can_pos h1)
    have h2 : wt a + val r = d := h2
    unfold jd
    rw [hd]
    show val r < d
    omega
theorem jd_le (d : Nat) : jd d ≤ d := by
  rcases Nat.eq_zero_or_pos d with e | e
  · subst e; exact Nat.le_refl _
  · exact Nat.le_of_lt (jd_lt e)
theorem wt_inj {a b : Nat} (ha : 1 ≤ a) (hb : 1 ≤ b) (h : wt a = wt b) : a = b := by
  have h1 : 1 ≤ 2 ^ a := Nat.one_le_two_pow
  have h2 : 1 ≤ 2 ^ b := Nat.one_le_two_pow
  unfold wt at h
  rcases Nat.lt_trichotomy a b with l | l | l
  · have := Nat.pow_lt_pow_right (a := 2) (by decide) l; omega
  · exact l
  · have := Nat.pow_lt_pow_right (a := 2) (by decide) l; omega
theorem jd_step (d : Nat) : jd (d + 1) = if d - jd d = jd d - jd (jd d) then jd (jd d) else d := by
  obtain ⟨h1, h2⟩ := digs_can d
  have hj := digs_jd d
  have e1 : jd (d + 1) = val (nxt (digs d)).tail := rfl
  rw [e1]
  cases hd : digs d with
  | nil =>
    rw [hd] at h2
    have h2 : 0 = d := h2
    subst h2; rfl
  | cons a r =>
    rw [hd] at h1 h2 hj
    have h2 : wt a + val r = d := h2
    have ja : jd d = val r := by unfold jd; rw [hd]; rfl
    have ha := wt_pos (can_pos h1)
    cases r with
    | nil =>
      have jb : jd d = 0 := ja
      rw [jb, jd_zero, if_neg (by omega)]
      show wt a + 0 = d
      have : val ([] : List Nat) = 0 := rfl
      omega
    | cons b s =>
      have jb : jd (jd d) = val s := by unfold jd at hj ⊢; rw [hj]; rfl
      have h3 : val (b :: s) = wt b + val s := rfl
      have hb := inc_pos (can_tail h1)
      rw [ja] at jb
      rw [ja, jb]
      by_cases e : a = b
      · subst e
        have en : nxt (a :: a :: s) = (a + 1) :: s := if_pos rfl
        rw [en, if_pos (by omega)]; rfl
      · have en : nxt (a :: b :: s) = 1 :: a :: b :: s := if_neg e
        rw [en, if_neg (fun z => e (wt_inj (can_pos h1) hb (by omega)))]
        show wt a + (wt b + val s) = d
        omega
/-! ### how many steps -/
def st : Nat → Nat → Nat → Nat
  | 0, _, _ => 0
  | f + 1, d, t => if d ≤ t then 0 else 1 + st f (if t ≤ jd d then jd d else d - 1) t
theorem st_fuel : ∀ (f g d t : Nat), d ≤ f → d ≤ g → st f d t = st g d t
  | 0, 0, _, _, _, _ => rfl
  | 0, g + 1, d, t, h, _ => by
    have : d = 0 := by omega
    subst this
    show 0 = if 0 ≤ t then 0 else _
    rw [if_pos (Nat.zero_le _)]
  | f + 1, 0, d, t, _, h => by
    have : d = 0 := by omega
    subst this
    show (if 0 ≤ t then 0 else _) = 0
    rw [if_pos (Nat.zero_le _)]
  | f + 1, g + 1, d, t, h1, h2 => by
    show (if d ≤ t then 0 else _) = (if d ≤ t then 0 else _)
    by_cases e : d ≤ t
    · rw [if_pos e, if_pos e]
    · rw [if_neg e, if_neg e]
      have := jd_lt (by omega : 0 < d)
      rw [st_fuel f g _ t (by split <;> omega) (by split <;> omega)]
def steps (d t : Nat) : Nat := st d d t
theorem steps_le {d t : Nat} (h : d ≤ t) : steps d t = 0 := by
  unfold steps
  cases d with
  | zero => rfl
  | succ d => show (if d + 1 ≤ t then 0 else _) = 0; rw [if_pos h]
theorem steps_go {d t : Nat} (h : t < d) : steps d t = 1 + steps (if t ≤ jd d then jd d else d - 1) t := by
  unfold steps
  cases d with
  | zero => omega
  | succ d =>
    show (if d + 1 ≤ t then 0 else _) = _
    rw [if_neg (by omega)]
    have := jd_lt (by omega : 0 < d + 1)
    rw [st_fuel d _ _ t (by split <;> omega) (Nat.le_refl _)]
theorem jd_val {a : Nat} {r : List Nat} (h : Can (a :: r)) : jd (val (a :: r)) = val r := by
  unfold jd
  rw [digs_val _ _ rfl h]; rfl
theorem in_block : ∀ (k : Nat) (r : List Nat) (t : Nat), Can (k :: r) → val r < t → steps (val (k :: r)) t ≤ 2 * (k - 1) := by
  intro k
  induction k with
  | zero => intro r t h; have := can_pos h; omega
  | succ k ih =>
    intro r t h ht
    by_cases hd : val ((k + 1) :: r) ≤ t
    · rw [steps_le hd]; exact Nat.zero_le _
    · have hv : val ((k + 1) :: r) = wt (k + 1) + val r := rfl
      have hk : 1 ≤ k := by
        rcases Nat.eq_zero_or_pos k with e | e
        · subst e
          have : wt (0 + 1) = 1 := rfl
          omega
        · exact e
      obtain ⟨p, p1, p2, p3, p4⟩ := can_pred h
      have p4 := p4 (by omega)
      rw [Nat.add_sub_cancel] at p4
      subst p4
      rw [steps_go (by omega), jd_val h, if_neg (by omega), show val ((k + 1) :: r) - 1 = val (k :: k :: r) by omega]
      by_cases h2 : val (k :: r) < t
      · have := ih (k :: r) t p1 h2
        omega
      · have hi : Can (k :: r) := .inl (can_tail p1)
        have hlt : t < val (k :: k :: r) := by
          have h3 : val (k :: k :: r) = wt k + val (k :: r) := rfl
          have := wt_pos hk
          omega
        rw [steps_go hlt, jd_val p1, if_pos (by omega)]
        have := ih r t hi ht
        omega
theorem inc_bound {K : Nat} : ∀ (l : List Nat) (a : Nat) (r : List Nat) (t : Nat), l = a :: r → Inc l → (∀ x ∈ l, x ≤ K) → steps (val l) t ≤ (K - a) + 2 * (K - 1) + 1 := by
  intro l
  induction l with
  | nil => intro a r t e; cases e
  | cons b l ih =>
    intro a r t e hi hk
    cases e
    have ha := hk b List.mem_cons_self
    have hb := inc_pos hi
    by_cases h : val l < t
    · have := in_block b l t (.inl hi) h
      omega
    · have hlt : t < val (b :: l) := by
        have h3 : val (b :: l) = wt b + val l := rfl
        have := wt_pos hb
        omega
      rw [steps_go hlt, jd_val (.inl hi), if_pos (by omega)]
      cases l with
      | nil =>
        have : val ([] : List Nat) = 0 := rfl
        rw [steps_le (by omega)]
        omega
      | cons c s =>
        have := ih c s t rfl hi.2.2 fun x hx => hk x (List.mem_cons_of_mem _ hx)
        have := hi.2.1
        have := hk c (List.mem_cons_of_mem _ List.mem_cons_self)
        omega
theorem inc_top : ∀ (l : List Nat), Inc l → l ≠ [] → ∃ K, (∀ x ∈ l, x ≤ K) ∧ 1 ≤ K ∧ wt K ≤ val l
  | [], _, h => absurd rfl h
  | [a], hi, _ => ⟨a, fun x hx => by rw [List.mem_singleton.mp hx]; exact Nat.le_refl _, hi, Nat.le_add_right _ _⟩
  | a :: b :: r, hi, _ => by
    obtain ⟨K, h1, h2, h3⟩ := inc_top (b :: r) hi.2.2 (by simp)
    refine ⟨K, fun x hx => ?_, h2, Nat.le_trans h3 (Nat.le_add_left _ _)⟩
    rcases List.mem_cons.mp hx with rfl | hx
    · have := h1 b List.mem_cons_self
      have := hi.2.1
      omega
    · exact h1 x hx
/-- so few steps -/
theorem few_steps (d t : Nat) : ∃ K, 2 ^ K ≤ d + 1 ∧ steps d t ≤ 3 * K := by
  obtain ⟨h1, h2⟩ := digs_can d
  by_cases e : digs d = []
  · rw [e] at h2
    have h2 : 0 = d := h2
    subst h2
    exact ⟨0, Nat.le_refl _, by rw [steps_le (Nat.zero_le _)]; exact Nat.le_refl _⟩
  · rcases h1 with h1 | ⟨a, r, e2, h1⟩
    · obtain ⟨K, k1, k2, k3⟩ := inc_top _ h1 e
      refine ⟨K, by unfold wt at k3; omega, ?_⟩
      cases hd : digs d with
      | nil => exact absurd hd e
      | cons b s =>
        rw [hd] at h1 h2 k1
        have hp := inc_pos h1
        have := inc_bound (b :: s) b s t rfl h1 k1
        rw [h2] at this
        omega
    · obtain ⟨K, k1, k2, k3⟩ := inc_top _ h1 (by simp)
      rw [e2] at h2
      have hc : Can (a :: a :: r) := .inr ⟨a, r, rfl, h1⟩
      have hp := inc_pos h1
      have hv : val (a :: a :: r) = wt a + val (a :: r) := rfl
      have haK := k1 a List.mem_cons_self
      refine ⟨K, by unfold wt at k3; omega, ?_⟩
      by_cases h : val (a :: r) < t
      · have := in_block a (a :: r) t hc h
        rw [h2] at this
        omega
      · have hlt : t < d := by
          have := wt_pos hp
          omega
        have e3 : jd d = val (a :: r) := by rw [← h2]; exact jd_val hc
        rw [steps_go hlt, e3, if_pos (by omega)]
        have := inc_bound (a :: r) a r t rfl h1 k1
        omega
end Ju
end Law
namespace Law
namespace Ju
/-! ### in a tree -/
def anc (ps : List Nat) : Nat → Nat → Nat
  | 0, v => v
  | i + 1, v => anc ps i (par ps v)
def dp (ps : List Nat) (v : Nat) : Nat := Mt.dep ps v - 1
def Jv (ps : List Nat) (v : Nat) : Nat := anc ps (dp ps v - jd (dp ps v)) v
section
variable {ps : List Nat}
theorem dp_zero : dp ps 0 = 0 := by unfold dp Mt.dep; rw [way_zero]; rfl
theorem dp_par (ok : PsOk ps) {v : Nat} (h0 : 0 < v) (hv : v ≤ ps.length) : dp ps v = dp ps (par ps v) + 1 := by
  have h1 := Mt.dep_par ok h0 hv
  have h2 := Mt.dep_pos ok (by have := ok v h0 hv; omega : par ps v ≤ ps.length)
  unfold dp; omega
theorem dp_pos (ok : PsOk ps) {v : Nat} (hv : v ≤ ps.length) (h : 0 < dp ps v) : 0 < v := by
  rcases Nat.eq_zero_or_pos v with e | e
  · subst e; rw [dp_zero] at h; omega
  · exact e
theorem dp_le (ok : PsOk ps) : ∀ v, v ≤ ps.length → dp ps v ≤ v := by
  intro v hv
  have := way_len ok v hv
  unfold dp Mt.dep; omega
theorem anc_add (i j v : Nat) : anc ps (i + j) v = anc ps j (anc ps i v) := by
  induction i generalizing v with
  | zero => rw [Nat.zero_add]; rfl
  | succ i ih => rw [show i + 1 + j = (i + j) + 1 by omega]; exact ih (par ps v)
theorem anc_ok (ok : PsOk ps) : ∀ (i v : Nat), v ≤ ps.length → i ≤ dp ps v → dp ps (anc ps i v) = dp ps v - i ∧ anc ps i v ≤ v ∧ (way ps v)[i]? = some (anc ps i v)
  | 0, v, hv, _ => by
    obtain ⟨t, et⟩ := Mt.self ok hv
    exact ⟨rfl, Nat.le_refl _, by rw [et]; rfl⟩
  | i + 1, v, hv, h => by
    have h0 := dp_pos ok hv (by omega)
    have hp := ok v h0 hv
    have hd := dp_par ok h0 hv
    obtain ⟨g1, g2, g3⟩ := anc_ok ok i (par ps v) (by omega) (by omega)
    refine ⟨by show dp ps (anc ps i (par ps v)) = _; omega, by show anc ps i (par ps v) ≤ v; omega, ?_⟩
    rw [way_eq ok h0 hv]
    exact g3
theorem Jv_ok (ok : PsOk ps) {v : Nat} (hv : v ≤ ps.length) : dp ps (Jv ps v) = jd (dp ps v) ∧ Jv ps v ≤ v := by
  obtain ⟨g1, g2, _⟩ := anc_ok ok (dp ps v - jd (dp ps v)) v hv (Nat.sub_le _ _)
  have := jd_le (dp ps v)
  exact ⟨by show dp ps (anc ps _ v) = _; omega, g2⟩
theorem Jv_zero : Jv ps 0 = 0 := by unfold Jv; rw [dp_zero]; rfl
theorem Jv_step (ok : PsOk ps) {v : Nat} (h0 : 0 < v) (hv : v ≤ ps.length) : Jv ps v = if dp ps (par ps v) - dp ps (Jv ps (par ps v)) = dp ps (Jv ps (par ps v)) - dp ps (Jv ps (Jv ps (par ps v))) then Jv ps (Jv ps (par ps v)) else par ps v := by
  have hp := ok v h0 hv
  have hd := dp_par ok h0 hv
  have hpn : par ps v ≤ ps.length := by omega
  obtain ⟨j1, j2⟩ := Jv_ok ok hpn
  obtain ⟨k1, k2⟩ := Jv_ok ok (by omega : Jv ps (par ps v) ≤ ps.length)
  rw [k1, j1]
  have e1 : Jv ps v = anc ps (dp ps v - jd (dp ps v)) v := rfl
  rw [e1, hd, jd_step]
  have l1 := jd_le (dp ps (par ps v))
  have l2 := jd_le (jd (dp ps (par ps v)))
  by_cases h : dp ps (par ps v) - jd (dp ps (par ps v)) = jd (dp ps (par ps v)) - jd (jd (dp ps (par ps v)))
  · rw [if_pos h, if_pos h]
    have e2 : Jv ps (Jv ps (par ps v)) = anc ps (jd (dp ps (par ps v)) - jd (jd (dp ps (par ps v)))) (anc ps (dp ps (par ps v) - jd (dp ps (par ps v))) (par ps v)) := by
      show anc ps (dp ps (Jv ps (par ps v)) - jd (dp ps (Jv ps (par ps v)))) (Jv ps (par ps v)) = _
      rw [j1]; rfl
    rw [e2, ← anc_add, show dp ps (par ps v) + 1 - jd (jd (dp ps (par ps v))) = (dp ps (par ps v) - jd (dp ps (par ps v)) + (jd (dp ps (par ps v)) - jd (jd (dp ps (par ps v))))) + 1 by omega]
    rfl
  · rw [if_neg h, if_neg h, show dp ps (par ps v) + 1 - dp ps (par ps v) = 0 + 1 by omega]
    rfl
/-- the one above v at a depth -/
def upA (ps : List Nat) (v t : Nat) : Nat := anc ps (dp ps v - t) v
theorem upA_self {v : Nat} : upA ps v (dp ps v) = v := by unfold upA; rw [Nat.sub_self]; rfl
theorem upA_step (ok : PsOk ps) {v t : Nat} (hv : v ≤ ps.length) (h : t < dp ps v) : (t ≤ dp ps (Jv ps v) → upA ps (Jv ps v) t = upA ps v t) ∧ upA ps (par ps v) t = upA ps v t ∧ 0 < v := by
  have h0 := dp_pos ok hv (by omega)
  have hd := dp_par ok h0 hv
  obtain ⟨j1, j2⟩ := Jv_ok ok hv
  refine ⟨fun hj => ?_, ?_, h0⟩
  · unfold upA
    rw [show dp ps v - t = (dp ps v - jd (dp ps v)) + (dp ps (Jv ps v) - t) by have := jd_le (dp ps v); omega, anc_add]; rfl
  · unfold upA
    rw [show dp ps v - t = (dp ps (par ps v) - t) + 1 by omega]; rfl
theorem Jv_way (ok : PsOk ps) {v : Nat} (hv : v ≤ ps.length) : Jv ps v ∈ way ps v := List.mem_of_getElem? (anc_ok ok _ v hv (Nat.sub_le _ _)).2.2
theorem Jv_lt (ok : PsOk ps) {v : Nat} (h0 : 0 < v) (hv : v ≤ ps.length) : Jv ps v < v := by
  have hd := dp_par ok h0 hv
  obtain ⟨j1, j2⟩ := Jv_ok ok hv
  have jl := jd_lt (by omega : 0 < dp ps v)
  rcases Nat.lt_or_eq_of_le j2 with h | h
  · exact h
  · rw [h] at j1
    omega
/-! ### marks -/
def MkOk (ps mk : List Nat) : Prop := mk.length = ps.length + 1 ∧ ∀ v, 0 < v → v ≤ ps.length → mk.getD (par ps v) 0 ≤ mk.getD v 0
def IsF (ps mk : List Nat) (L v w : Nat) : Prop := w ∈ way ps v ∧ L ≤ mk.getD w 0 ∧ (w = 0 ∨ mk.getD (par ps w) 0 < L)
theorem mk_up (ok : PsOk ps) {mk : List Nat} (M : MkOk ps mk) : ∀ v, v ≤ ps.length → ∀ w ∈ way ps v, mk.getD w 0 ≤ mk.getD v 0 := by
  intro v
  induction v using Nat.strongRecOn with
  | ind v ih =>
    intro hv w hw
    by_cases e : v = 0
    · subst e; rw [way_zero, List.mem_singleton] at hw; rw [hw]; exact Nat.le_refl _
    · have hp := ok v (by omega) hv
      rw [way_eq ok (by omega) hv, List.mem_cons] at hw
      rcases hw with rfl | hw
      · exact Nat.le_refl _
      · exact Nat.le_trans (ih _ hp (by omega) w hw) (M.2 v (by omega) hv)
theorem isF_uniq (ok : PsOk ps) {mk : List Nat} (M : MkOk ps mk) {L : Nat} : ∀ v, v ≤ ps.length → ∀ w w', IsF ps mk L v w → IsF ps mk L v w' → w = w' := by
  intro v
  induction v using Nat.strongRecOn with
  | ind v ih =>
    intro hv w w' h h'
    by_cases e : v = 0
    · subst e
      have h1 := h.1
      have h2 := h'.1
      rw [way_zero, List.mem_singleton] at h1 h2
      rw [h1, h2]
    · have hp := ok v (by omega) hv
      have ew := way_eq ok (by omega) hv
      have one : ∀ x y, IsF ps mk L v x → IsF ps mk L v y → x = v → y = v := fun x y hx hy ex => by
        have h1 := hy.1
        rw [ew, List.mem_cons] at h1
        rcases h1 with h1 | h1
        · exact h1
        · exfalso
          subst ex
          rcases hx.2.2 with z | z
          · omega
          · have := mk_up ok M _ (by omega) y h1
            have := hy.2.1
            omega
      by_cases e1 : w = v
      · rw [e1, one w w' h h' e1]
      · by_cases e2 : w' = v
        · exact absurd (one w' w h' h e2) e1
        · have g : ∀ x, IsF ps mk L v x → x ≠ v → IsF ps mk L (par ps v) x := fun x hx ne => by
            have h1 := hx.1
            rw [ew, List.mem_cons] at h1
            exact ⟨h1.elim (fun z => absurd z ne) id, hx.2⟩
          exact ih _ hp (by omega) w w' (g w h e1) (g w' h' e2)
end
end Ju
end Law
namespace Law
namespace Ju
/-! ### one more -/
section
variable {ps : List Nat} {p : Nat}
theorem par_app {v : Nat} (h0 : 0 < v) (hv : v ≤ ps.length) : par (ps ++ [p]) v = par ps v := by
  unfold par; rw [List.getElem?_append_left (by omega)]
theorem par_last : par (ps ++ [p]) (ps.length + 1) = p := by
  unfold par; rw [Nat.add_sub_cancel, List.getElem?_append_right (Nat.le_refl _), Nat.sub_self]; rfl
theorem ok_app (ok : PsOk ps) (hp : p ≤ ps.length) : PsOk (ps ++ [p]) := fun v h0 hv => by
  rw [List.length_append, List.length_singleton] at hv
  by_cases h : v ≤ ps.length
  · rw [par_app h0 h]; exact ok v h0 h
  · rw [show v = ps.length + 1 by omega, par_last]; omega
theorem way_app (ok : PsOk ps) (ok' : PsOk (ps ++ [p])) : ∀ v, v ≤ ps.length → way (ps ++ [p]) v = way ps v := by
  intro v
  induction v using Nat.strongRecOn with
  | ind v ih =>
    intro hv
    by_cases e : v = 0
    · subst e; rw [way_zero, way_zero]
    · have hp := ok v (by omega) hv
      rw [way_eq ok (by omega) hv, way_eq ok' (by omega) (by rw [List.length_append]; omega), par_app (by omega) hv, ih _ hp (by omega)]
theorem dp_app (ok : PsOk ps) (ok' : PsOk (ps ++ [p])) {v : Nat} (hv : v ≤ ps.length) : dp (ps ++ [p]) v = dp ps v := by
  unfold dp Mt.dep; rw [way_app ok ok' v hv]
theorem Jv_app (ok : PsOk ps) (ok' : PsOk (ps ++ [p])) {v : Nat} (hv : v ≤ ps.length) : Jv (ps ++ [p]) v = Jv ps v := by
  have h1 := (anc_ok ok (dp ps v - jd (dp ps v)) v hv (Nat.sub_le _ _)).2.2
  have h2 := (anc_ok ok' (dp (ps ++ [p]) v - jd (dp (ps ++ [p]) v)) v (by rw [List.length_append]; omega) (Nat.sub_le _ _)).2.2
  rw [way_app ok ok' v hv, dp_app ok ok' hv, h1] at h2
  have := Option.some.inj h2
  unfold Jv
  rw [dp_app ok ok' hv]
  exact this.symm
theorem dp_last (ok : PsOk ps) (hp : p ≤ ps.length) : dp (ps ++ [p]) (ps.length + 1) = dp ps p + 1 := by
  have ok' := ok_app ok hp
  rw [dp_par ok' (Nat.succ_pos _) (by rw [List.length_append]; exact Nat.le_refl _), par_last, dp_app ok ok' hp]
theorem Jv_last (ok : PsOk ps) (hp : p ≤ ps.length) : Jv (ps ++ [p]) (ps.length + 1) = if dp ps p - dp ps (Jv ps p) = dp ps (Jv ps p) - dp ps (Jv ps (Jv ps p)) then Jv ps (Jv ps p) else p := by
  have ok' := ok_app ok hp
  have j1 := (Jv_ok ok hp).2
  have j2 := (Jv_ok ok (by omega : Jv ps p ≤ ps.length)).2
  rw [Jv_step ok' (Nat.succ_pos _) (by rw [List.length_append]; exact Nat.le_refl _), par_last, Jv_app ok ok' hp, Jv_app ok ok' (by omega : Jv ps p ≤ ps.length), dp_app ok ok' hp, dp_app ok ok' (by omega), dp_app ok ok' (by omega)]
end
end Ju
end Law

namespace Law
open PySem PySem.Spec PyProof.Rows L2 PL
def top (i : Nat) : Stmt := PySem.Challenge.pw_asifcopied_k63_whole_jumps_are_short.main.body.getD i (.Pass ⟨0, 0, 0, 0⟩)
abbrev s_is_number : Stmt := top 8
theorem sc_is_number : FnScope ["value"] ["value"] (defScope s_is_number) := ⟨rfl, rfl, rfl, by decide +kernel, rfl, by decide +kernel, by decide +kernel⟩
abbrev s_is_from : Stmt := top 9
theorem sc_is_from : FnScope ["value", "least"] ["value", "least"] (defScope s_is_from) := ⟨rfl, rfl, rfl, by decide +kernel, rfl, by decide +kernel, by decide +kernel⟩
abbrev s_is_between : Stmt := top 10
theorem sc_is_between : FnScope ["value", "least", "most"] ["value", "least", "most"] (defScope s_is_between) := ⟨rfl, rfl, rfl, by decide +kernel, rfl, by decide +kernel, by decide +kernel⟩
abbrev s_is_list : Stmt := top 11
theorem sc_is_list : FnScope ["value"] ["value"] (defScope s_is_list) := ⟨rfl, rfl, rfl, by decide +kernel, rfl, by decide +kernel, by decide +kernel⟩
abbrev s_check_version : Stmt := top 13
theorem sc_check_version : FnScope ["parents", "version"] ["parents", "version"] (defScope s_check_version) := ⟨rfl, rfl, rfl, by decide +kernel, rfl, by decide +kernel, by decide +kernel⟩
abbrev s_Jumps___init__ : Stmt := inClass (top 15) 0
theorem sc_Jumps___init__ : FnScope ["self"] ["self"] (defScope s_Jumps___init__) := ⟨rfl, rfl, rfl, by decide +kernel, rfl, by decide +kernel, by decide +kernel⟩
abbrev s_Jumps__check : Stmt := inClass (top 15) 1
theorem sc_Jumps__check : FnScope ["self", "version"] ["self", "version"] (defScope s_Jumps__check) := ⟨rfl, rfl, rfl, by decide +kernel, rfl, by decide +kernel, by decide +kernel⟩
abbrev s_Jumps_grow : Stmt := inClass (top 15) 2
theorem sc_Jumps_grow : FnScope ["self", "parent", "middle", "top", "is_alike"] ["self", "parent"] (defScope s_Jumps_grow) := ⟨rfl, rfl, rfl, by decide +kernel, rfl, by decide +kernel, by decide +kernel⟩
abbrev s_Jumps_many : Stmt := inClass (top 15) 3
theorem sc_Jumps_many : FnScope ["self"] ["self"] (defScope s_Jumps_many) := ⟨rfl, rfl, rfl, by decide +kernel, rfl, by decide +kernel, by decide +kernel⟩
abbrev s_Jumps_parents : Stmt := inClass (top 15) 4
theorem sc_Jumps_parents : FnScope ["self"] ["self"] (defScope s_Jumps_parents) := ⟨rfl, rfl, rfl, by decide +kernel, rfl, by decide +kernel, by decide +kernel⟩
abbrev s_Jumps_jump : Stmt := inClass (top 15) 5
theorem sc_Jumps_jump : FnScope ["self", "version"] ["self", "version"] (defScope s_Jumps_jump) := ⟨rfl, rfl, rfl, by decide +kernel, rfl, by decide +kernel, by decide +kernel⟩
abbrev s_Jumps_up : Stmt := inClass (top 15) 6
theorem sc_Jumps_up : FnScope ["self", "version", "depth", "steps", "jump"] ["self", "version", "depth"] (defScope s_Jumps_up) := ⟨rfl, rfl, rfl, by decide +kernel, rfl, by decide +kernel, by decide +kernel⟩
abbrev s_Jumps_first_with : Stmt := inClass (top 15) 7
theorem sc_Jumps_first_with : FnScope ["self", "version", "marks", "least", "jump"] ["self", "version", "marks", "least"] (defScope s_Jumps_first_with) := ⟨rfl, rfl, rfl, by decide +kernel, rfl, by decide +kernel, by decide +kernel⟩
abbrev s_Jumps__are_marks : Stmt := inClass (top 15) 8
theorem sc_Jumps__are_marks : FnScope ["self", "marks", "at", "mark"] ["self", "marks"] (defScope s_Jumps__are_marks) := ⟨rfl, rfl, rfl, by decide +kernel, rfl, by decide +kernel, by decide +kernel⟩
abbrev s_l_begun : Stmt := top 17
theorem sc_l_begun : FnScope ["script", "great", "cell"] ["script"] (defScope s_l_begun) := ⟨rfl, rfl, rfl, by decide +kernel, rfl, by decide +kernel, by decide +kernel⟩
abbrev s_l_blended : Stmt := top 18
theorem sc_l_blended : FnScope ["state", "prime", "turn", "found", "blend", "cell"] ["state"] (defScope s_l_blended) := ⟨rfl, rfl, rfl, by decide +kernel, rfl, by decide +kernel, by decide +kernel⟩
abbrev s_l_draw : Stmt := top 19
theorem sc_l_draw : FnScope ["state", "size_here", "found"] ["state", "size_here"] (defScope s_l_draw) := ⟨rfl, rfl, rfl, by decide +kernel, rfl, by decide +kernel, by decide +kernel⟩
abbrev s_l_pick : Stmt := top 20
theorem sc_l_pick : FnScope ["state", "several"] ["state", "several"] (defScope s_l_pick) := ⟨rfl, rfl, rfl, by decide +kernel, rfl, by decide +kernel, by decide +kernel⟩
abbrev s_l_caught : Stmt := top 21
theorem sc_l_caught : FnScope ["work", "caught", "error"] ["work"] (defScope s_l_caught) := ⟨rfl, rfl, rfl, by decide +kernel, rfl, by decide +kernel, by decide +kernel⟩
abbrev s_l_ti_parents : Stmt := top 22
theorem sc_l_ti_parents : FnScope ["state", "most", "version", "many", "kind_here", "found", "parent"] ["state", "most"] (defScope s_l_ti_parents) := ⟨rfl, rfl, rfl, by decide +kernel, rfl, by decide +kernel, by decide +kernel⟩
abbrev s_l_ti_up : Stmt := top 23
theorem sc_l_ti_up : FnScope ["parents_here", "version", "found", "turn"] ["parents_here", "version"] (defScope s_l_ti_up) := ⟨rfl, rfl, rfl, by decide +kernel, rfl, by decide +kernel, by decide +kernel⟩
abbrev s_l_ti_odd_version : Stmt := top 24
theorem sc_l_ti_odd_version : FnScope ["state", "many"] ["state", "many"] (defScope s_l_ti_odd_version) := ⟨rfl, rfl, rfl, by decide +kernel, rfl, by decide +kernel, by decide +kernel⟩
abbrev s_l_ju_tree : Stmt := top 25
theorem sc_l_ju_tree : FnScope ["state", "many"] ["state"] (defScope s_l_ju_tree) := ⟨rfl, rfl, rfl, by decide +kernel, rfl, by decide +kernel, by decide +kernel⟩
abbrev s_l_ju_jumps : Stmt := top 26
theorem sc_l_ju_jumps : FnScope ["parents_here", "deep", "found", "parent", "near", "far"] ["parents_here", "deep"] (defScope s_l_ju_jumps) := ⟨rfl, rfl, rfl, by decide +kernel, rfl, by decide +kernel, by decide +kernel⟩
abbrev s_l_ju_steps : Stmt := top 27
theorem sc_l_ju_steps : FnScope ["parents_here", "jumps_here", "deep", "version", "depth", "turn", "many", "here"] ["parents_here", "jumps_here", "deep", "version", "depth"] (defScope s_l_ju_steps) := ⟨rfl, rfl, rfl, by decide +kernel, rfl, by decide +kernel, by decide +kernel⟩
abbrev s_l_ju_marks : Stmt := top 28
theorem sc_l_ju_marks : FnScope ["state", "parents_here", "found", "parent"] ["state", "parents_here"] (defScope s_l_ju_marks) := ⟨rfl, rfl, rfl, by decide +kernel, rfl, by decide +kernel, by decide +kernel⟩
abbrev s_l_ju_errors : Stmt := top 29
theorem sc_l_ju_errors : FnScope ["state", "jumps", "marks_here", "deep_here", "rest", "wrong", "least", "odd", "many"] ["state", "jumps", "marks_here"] (defScope s_l_ju_errors) := ⟨rfl, rfl, rfl, by decide +kernel, rfl, by decide +kernel, by decide +kernel⟩
abbrev s_law : Stmt := top 30
theorem sc_law : FnScope ["script", "state", "parents_here", "deep", "version", "due", "marks_here", "marks_told", "turn", "jumps", "many", "depth", "found", "above", "sizes_here", "figures", "least", "some", "due_here", "one"] ["script"] (defScope s_law) := ⟨rfl, rfl, rfl, by decide +kernel, rfl, by decide +kernel, by decide +kernel⟩
end Law

namespace Law
open PySem PySem.Spec PyProof.Rows L2 PL
/-! ### the source of draws -/
def stKvs (zg zc : Addr) (l t : Int) : List (Key × V) := [(Sum.inr ("great" : Str), .ref zg), (Sum.inr ("cells" : Str), .ref zc), (Sum.inr ("left" : Str), .int l), (Sum.inr ("turn" : Str), .int t)]
def StOk (za zg zc : Addr) (n : Nat) (H : Hp) : Prop := ∃ (g c : List Int) (l t : Int), H za = some (.dK (stKvs zg zc l t)) ∧ H zg = some (.lst (g.map V.int)) ∧ H zc = some (.lst (c.map V.int)) ∧ 0 ≤ t ∧ t ≤ (n : Int)
def stW (za zg zc : Addr) : Wd where
  Z := fun b => b = za ∨ b = zg ∨ b = zc
  ok := StOk za zg zc
  up := fun n k H h ⟨g, c, l, t, h1, h2, h3, h4, h5⟩ => ⟨g, c, l, t, h1, h2, h3, h4, by omega⟩
  st := fun n H H' h _ ⟨g, c, l, t, h1, h2, h3, h4, h5⟩ => ⟨g, c, l, t, h _ _ (.inl rfl) h1, h _ _ (.inr (.inl rfl)) h2, h _ _ (.inr (.inr rfl)) h3, h4, h5⟩
  tr := fun n H b ⟨g, c, l, t, h1, h2, h3, _⟩ z => by
    rcases z with z | z | z
    · rw [z, h1]; exact ⟨_, rfl, fun _ q => nomatch q⟩
    · rw [z, h2]; exact ⟨_, rfl, fun _ q => nomatch q⟩
    · rw [z, h3]; exact ⟨_, rfl, fun _ q => nomatch q⟩
def StW (tok : V) (w : Wd) : Prop := ∃ za zg zc, tok = .ref za ∧ zg ≠ zc ∧ w = stW za zg zc
theorem kv_great (zg zc : Addr) (l t : Int) : valV (stKvs zg zc l t) (Sum.inr ("great" : Str) : Key) = some (.ref zg) := by rfl
theorem ne_keys : (("great" : Str) ≠ "cells") ∧ (("great" : Str) ≠ "left") ∧ (("great" : Str) ≠ "turn") ∧ (("cells" : Str) ≠ "left") ∧ (("cells" : Str) ≠ "turn") ∧ (("left" : Str) ≠ "turn") := by decide +kernel
theorem kv_cells (zg zc : Addr) (l t : Int) : valV (stKvs zg zc l t) (Sum.inr ("cells" : Str) : Key) = some (.ref zc) := by
  unfold stKvs valV
  simp [ne_keys.1]
theorem kv_left (zg zc : Addr) (l t : Int) : valV (stKvs zg zc l t) (Sum.inr ("left" : Str) : Key) = some (.int l) := by
  unfold stKvs valV
  simp [ne_keys.2.1, ne_keys.2.2.2.1]
theorem kv_turn (zg zc : Addr) (l t : Int) : valV (stKvs zg zc l t) (Sum.inr ("turn" : Str) : Key) = some (.int t) := by
  unfold stKvs valV
  simp [ne_keys.2.2.1, ne_keys.2.2.2.2.1, ne_keys.2.2.2.2.2]
theorem put_left (zg zc : Addr) (l t y : Int) : putK (stKvs zg zc l t) (Sum.inr ("left" : Str) : Key) (.int y) = stKvs zg zc y t := by
  unfold stKvs putK
  have h := ne_keys
  simp [h.2.1, h.2.2.2.1, Ne.symm h.2.2.2.2.2]
theorem put_turn (zg zc : Addr) (l t y : Int) : putK (stKvs zg zc l t) (Sum.inr ("turn" : Str) : Key) (.int y) = stKvs zg zc l y := by
  unfold stKvs putK
  have h := ne_keys
  simp [h.2.2.1, h.2.2.2.2.1, h.2.2.2.2.2]
end Law

namespace Law
open PySem PySem.Spec PyProof.Rows L2 PL
/-- the built-ins' names mean what they mean -/
structure Bt (mg : Str → Option Value) : Prop where
  int : mg "int" = none
  len : mg "len" = none
  abs : mg "abs" = none
  isi : mg "isinstance" = none
  tuple : mg "tuple" = none
  list : mg "list" = none
  range : mg "range" = none
  min : mg "min" = none
  all : mg "all" = none
  sorted : mg "sorted" = none
  bool : mg "bool" = none
  enum : mg "enumerate" = none
  rev : mg "reversed" = none
  zip : mg "zip" = none
  str : mg "str" = none
section
variable {P : Program} {w : World} {K : PySem.W.Frag} {mg : Str → Option Value} {base : Heap} {f : Addr} {fd : FuncData}
def SBl (tok : V) (ds : List D) (Q : D → Prop) : Prop := ds = [.opq tok] ∧ ∀ z : Int, Q (.int z)
theorem mono_bl (tok : V) : Mono (SBl tok) := fun ds P Q h ⟨e, k⟩ => ⟨e, fun z => h _ (k z)⟩
theorem one_opq {A : PL.At} {vs : List V} {v : V} (r : RpL A vs [.opq v]) : vs = [v] := by
  cases r with | cons a r => cases a; cases r; rfl
theorem mod_lt {b p : Int} (h : 0 < p) (h2 : p < 2147483648) : (b.fmod p).natAbs < 2 ^ 64 := by
  have h1 := Int.fmod_nonneg_of_pos b h
  have h3 := Int.fmod_lt_of_pos b h
  omega
theorem ok_blended (F : Fun K "_law_blended" "_law_blended" s_l_blended f fd) (T : Bt mg) : FnOk P w K mg base CX0 1 f fd ["state"] (spT StW 1 SBl) := by
  refine F.ok sc_l_blended (fun vs H Q E ⟨_, _, _, _, ds, _, _, _, _, _, r, e, _⟩ => by rw [r.length, e]; rfl) fun cdv A outer s H vs Q E hr ⟨tok, wd, n, Oc, ds, ⟨za, zg, zc, et, hne, ew⟩, hL, ok, zo, tr, r, e, k⟩ => ?_
  subst e
  have ev := one_opq r
  subst ev
  subst et
  subst ew
  have hu := hu_of hr
  refine ⟨_, pss_cons (ps_par (i := 2) (j := 3) rfl sc_l_blended.nd rfl rfl (by decide) rfl rfl (pa_cons (pe_op op_add (pe_dget hu (pv 0) pe_str (fun _ _ => rfl)) pe_int) (pa_cons pe_int pa_nil)) (by rfl))
    (pss_cons (ps_dput hu (pv 0) pe_str (pv 2) rfl)
    (pss_cons (ps_for PassesOwn.never rfl (pi_list (pe_lst (pa_cons pe_int (pa_cons pe_int (pa_cons pe_int pa_nil))))) (pg_name (i := 1) sc_l_blended.nd rfl (Or.inl rfl))
      (pss_cons (ps_set (i := 4) sc_l_blended.nd rfl (Or.inl rfl) (pe_op op_add (pe_op op_mul pe_int (pv 2)) (pe_op op_fdiv (pv 1) pe_int)))
      (pss_cons (ps_for PassesOwn.never rfl (pi_list (pe_dget hu (pv 0) pe_str (fun _ _ => rfl))) (pg_name (i := 5) sc_l_blended.nd rfl (Or.inl rfl))
        (pss_one (ps_set (i := 4) sc_l_blended.nd rfl (Or.inl rfl) (pe_op op_modN (pe_callTy call_int1 rfl T.int boot_int (pa_cons (pe_op op_add (pe_op op_add (pe_op op_mul (pv 4) pe_int) (pv 5)) (pv 2)) pa_nil)) (pv 1)))))
      (pss_one (ps_set (i := 3) sc_l_blended.nd rfl (Or.inl rfl) (pe_op op_add (pe_op op_mul (pv 3) pe_int) (pe_op op_modN (pe_callTy call_int1 rfl T.int boot_int (pa_cons (pe_op op_pow (pv 4) pe_int) pa_nil)) (pv 1))))))))
    (pss_one (ps_ret (pv 3))))), ?_⟩
  obtain ⟨g, c, l, t, h1, h2, h3, h4, h5⟩ := ok
  have hL' : (n : Int) + 1 ≤ 1099511627776 := by have : n + 1 ≤ 1099511627776 := hL; omega
  have hza : za ≠ zg := ne_of h1 h2 (by intro z; cases z)
  have hzc : za ≠ zc := ne_of h1 h3 (by intro z; cases z)
  refine ⟨_, rfl, za, _, rfl, by rw [← kv_turn zg zc l t]; exact DGet.k (k := Sum.inr "turn") h1, _, _, rfl, rfl, _, _, rfl, ?_⟩
  refine ⟨_, rfl, _, rfl, za, _, rfl, DPut.k (k := Sum.inr "turn") h1 (by show 4 < sizeLine; decide), ?_⟩
  rw [put_turn]
  refine ⟨by show 3 ≤ sizeLine; decide, fun p hp => ?_⟩
  have ne1 : ∀ b, b = za ∨ b = zg ∨ b = zc → b ≠ p := fun b hb z => by
    rw [← z] at hp
    rcases hb with e | e | e
    · rw [e, upd_same] at hp; cases hp
    · rw [e, upd_ne hza.symm, h2] at hp; cases hp
    · rw [e, upd_ne hzc.symm, h3] at hp; cases hp
  have okp : StOk za zg zc (n + 1) (upd (upd H za (.dK (stKvs zg zc l (t + 1)))) p (.lst [.int 2147483353, .int 2147483323, .int 2147483269])) := ⟨g, c, l, t + 1, by rw [upd_ne (ne1 _ (.inl rfl)), upd_same], by rw [upd_ne (ne1 _ (.inr (.inl rfl))), upd_ne hza.symm]; exact h2, by rw [upd_ne (ne1 _ (.inr (.inr rfl))), upd_ne hzc.symm]; exact h3, by omega, by omega⟩
  have gr : Grow (stW za zg zc) H (upd (upd H za (.dK (stKvs zg zc l (t + 1)))) p (.lst [.int 2147483353, .int 2147483323, .int 2147483269])) := fun b o hb z => by
    have hbz : b ≠ za := fun e => z (.inl e)
    have hbp : b ≠ p := fun e => by rw [e] at hb; rw [upd_ne (fun q => by rw [← q] at hbz; exact hbz e)] at hp; rw [hp] at hb; cases hb
    rw [upd_ne hbp, upd_ne hbz]; exact hb
  generalize hH2 : upd (upd H za (.dK (stKvs zg zc l (t + 1)))) p (.lst [.int 2147483353, .int 2147483323, .int 2147483269]) = H2 at okp gr
  have hS : H2 p = some (.lst [.int 2147483353, .int 2147483323, .int 2147483269]) := by rw [← hH2, upd_same]
  have hA : H2 za = some (.dK (stKvs zg zc l (t + 1))) := by rw [← hH2, upd_ne (ne1 _ (.inl rfl)), upd_same]
  have hC : H2 zc = some (.lst (c.map V.int)) := by rw [← hH2, upd_ne (ne1 _ (.inr (.inr rfl))), upd_ne hzc.symm]; exact h3
  have fin : ∀ z : Int, Q (.int z) H2 := fun z => k z _ _ gr okp (.int z)
  refine ⟨p, rfl, ⟨_, .inl (.inl hS)⟩, for_list (K := K) (a := p) (xs := [.int 2147483353, .int 2147483323, .int 2147483269]) (fun i σ H3 => H3 = H2 ∧ ∃ (x1 : Option V) (fo : Int) (x4 x5 : Option V), σ = [some (.ref za), x1, some (.int (t + 1)), some (.int fo), x4, x5])
    ⟨rfl, _, _, _, _, rfl⟩ (fun i σ H3 _ ⟨e, _⟩ => by rw [e]; exact .inl (.inl hS)) ?_ ?_⟩
  · rintro i y σ H3 hi ⟨rfl, x1, fo, x4, x5, rfl⟩
    obtain ⟨pr, rfl, hp0, hp1⟩ : ∃ pr : Int, y = .int pr ∧ 0 < pr ∧ pr < 2147483648 := by
      match i, hi with
      | 0, hi => cases hi; exact ⟨_, rfl, by decide, by decide⟩
      | 1, hi => cases hi; exact ⟨_, rfl, by decide, by decide⟩
      | 2, hi => cases hi; exact ⟨_, rfl, by decide, by decide⟩
      | j + 3, hi => simp at hi
    refine ⟨_, rfl, _, _, rfl, rfl, .inl ⟨by decide, by decide⟩, _, rfl, _, _, rfl, rfl, ⟨by decide, by decide⟩, _, _, rfl, rfl, ?_⟩
    have hb0 : (41358 * (t + 1) + pr / 71).natAbs < 2 ^ 64 := by omega
    refine ⟨_, rfl, za, _, rfl, by rw [← kv_cells zg zc l (t + 1)]; exact DGet.k (k := Sum.inr "cells") hA, zc, rfl, ⟨_, .inl (.inl hC)⟩, for_list (K := K) (a := zc) (xs := c.map V.int) (fun i σ H4 => H4 = H3 ∧ ∃ (b : Int) (x5 : Option V), b.natAbs < 2 ^ 64 ∧ σ = [some (.ref za), some (.int pr), some (.int (t + 1)), some (.int fo), some (.int b), x5])
      ⟨rfl, 41358 * (t + 1) + pr / 71, _, hb0, rfl⟩ (fun i σ H4 _ ⟨e, _⟩ => by rw [e]; exact .inl (.inl hC)) ?_ ?_⟩
    · rintro j z σ H4 hz ⟨rfl, b, x5, hb, rfl⟩
      obtain ⟨ce, rfl⟩ : ∃ ce : Int, z = .int ce := by
        rw [List.getElem?_map] at hz
        cases e : c[j]? with
        | none => rw [e] at hz; cases hz
        | some q => rw [e] at hz; exact ⟨q, (Option.some.inj hz).symm⟩
      refine ⟨_, rfl, _, _, rfl, rfl, .inr ⟨by decide, by decide⟩, _, rfl, _, _, rfl, rfl, _, rfl, _, _, rfl, rfl, .inl ⟨_, rfl, _, rfl, _, _, rfl, rfl, by omega, ?_⟩⟩
      exact ⟨rfl, _, _, mod_lt hp0 hp1, rfl⟩
    · rintro σ H4 ⟨rfl, b, x5, hb, rfl⟩
      refine ⟨_, rfl, _, _, rfl, rfl, .inr ⟨by decide, by decide⟩, _, rfl, _, _, rfl, rfl, ⟨by decide, by decide, hb⟩, .inl ⟨_, rfl, _, rfl, _, _, rfl, rfl, by omega, _, _, rfl, rfl, ?_⟩⟩
      exact ⟨rfl, _, _, _, _, rfl⟩
  · rintro σ H3 ⟨rfl, x1, fo, x4, x5, rfl⟩
    exact ⟨_, rfl, fin fo⟩
end
end Law

namespace Law
open PySem PySem.Spec PyProof.Rows L2 PL
section
variable {P : Program} {w : World} {K : PySem.W.Frag} {mg : Str → Option Value} {base : Heap} {f : Addr} {fd : FuncData}
def SDr (tok : V) (ds : List D) (Q : D → Prop) : Prop := ∃ n : Int, ds = [.opq tok, .int n] ∧ 0 < n ∧ n.natAbs < 2 ^ 64 ∧ ∀ k, 0 ≤ k → k < n → Q (.int k)
theorem mono_dr (tok : V) : Mono (SDr tok) := fun ds P Q h ⟨n, e, h1, h2, k⟩ => ⟨n, e, h1, h2, fun z a b => h _ (k z a b)⟩
theorem two_opq {A : PL.At} {vs : List V} {v : V} {i : Int} (r : RpL A vs [.opq v, .int i]) : vs = [v, .int i] := by
  cases r with | cons a r => cases a; cases r with | cons b r => cases b; cases r; rfl
theorem grow_z {za zg zc b : Addr} {H : Hp} {o : HO} (h : b = za ∨ b = zg ∨ b = zc) : Grow (stW za zg zc) H (upd H b o) := fun c u hc z => by
  rw [upd_ne (fun e => z (by rw [e]; exact h))]; exact hc
theorem seq_rest {t u : TS} {D : Ends} {σ : L2.St} {H : Hp} (R : Hp → Prop) (rest : ∀ H1, R H1 → u D σ H1) (main : (∀ H1, R H1 → u D σ H1) → t { D with nx := u D } σ H) : tSeq t u D σ H := main rest
theorem ok_draw (F : Fun K "_law_draw" "_law_draw" s_l_draw f fd) (T : Bt mg) (hB : Pr P w K mg base "_law_blended" 1 ["state"] (spT StW 1 SBl)) : FnOk P w K mg base CX0 2 f fd ["state", "size_here"] (spT StW 1 SDr) := by
  refine F.ok sc_l_draw (fun vs H Q E ⟨_, _, _, _, ds, _, _, _, _, _, r, nn, e, _⟩ => by rw [r.length, e]; rfl) fun cdv A outer s H vs Q E hr ⟨tok, wd, n, Oc, ds, ⟨za, zg, zc, et, hne, ew⟩, hL, ok, zo, tr, r, sz, e, hs0, hs1, k⟩ => ?_
  subst e
  have ev := two_opq r
  subst ev
  subst et
  subst ew
  have hu := hu_of hr
  refine ⟨_, pss_cons (ps_if (pt_cmpR op_eq (pe_dget hu (pv 0) pe_str (fun _ _ => rfl)) pe_int (nomark _))
      (pss_one (ps_dput hu (pv 0) pe_str (pe_ifExp (pt_cmpR (op_neD hr.units) (pe_dget hu (pv 0) pe_str (fun _ _ => rfl)) (pe_lst pa_nil) (nomark _))
        (pe_bm PySem.F.plainAttrs_list PySem.F.slot_list_pop PySem.F.type_list_pop mt_popAt (pe_dget hu (pv 0) pe_str (fun _ _ => rfl)) (pa_cons pe_int pa_nil))
        (pe_callP hB hr rfl (pa_cons (pv 0) pa_nil))) rfl)) pss_nil)
    (pss_cons (ps_set (i := 2) sc_l_draw.nd rfl (Or.inl rfl) (pe_op op_modN (pe_callTy call_int1 rfl T.int boot_int (pa_cons (pe_dget hu (pv 0) pe_str (fun _ _ => rfl)) pa_nil)) (pv 1)))
    (pss_cons (ps_dput hu (pv 0) pe_str (pe_op op_fdivW (pe_dget hu (pv 0) pe_str (fun _ _ => rfl)) (pv 1)) rfl)
    (pss_one (ps_ret (pv 2))))), ?_⟩
  refine seq_rest (fun H1 => Grow (stW za zg zc) H H1 ∧ StOk za zg zc (n + 1) H1) (fun H1 ⟨gr, ok1⟩ => ?_) (fun rest => ?_)
  · -- what comes behind the first statement
    obtain ⟨g, c, l, t, h1, h2, h3, h4, h5⟩ := ok1
    have hza : za ≠ zg := ne_of h1 h2 (by intro z; cases z)
    have hzc : za ≠ zc := ne_of h1 h3 (by intro z; cases z)
    refine ⟨_, rfl, za, _, rfl, by rw [← kv_left zg zc l t]; exact DGet.k (k := Sum.inr "left") h1, .inl ⟨_, rfl, _, rfl, _, _, rfl, rfl, by omega, ?_⟩⟩
    refine ⟨_, rfl, za, _, rfl, by rw [← kv_left zg zc l t]; exact DGet.k (k := Sum.inr "left") h1, _, rfl, _, _, rfl, rfl, ⟨hs0, Nat.lt_of_lt_of_le (PySem.Flt.log2_lt_of (by decide) hs1) (by decide)⟩, _, rfl, za, _, rfl, DPut.k (k := Sum.inr "left") h1 (by show 4 < sizeLine; decide), _, rfl, ?_⟩
    rw [put_left]
    refine k _ (Int.fmod_nonneg_of_pos _ hs0) (Int.fmod_lt_of_pos _ hs0) _ _ (gr.trans (grow_z (.inl rfl))) ⟨g, c, _, t, upd_same, by rw [upd_ne hza.symm]; exact h2, by rw [upd_ne hzc.symm]; exact h3, h4, h5⟩ (.int _)
  obtain ⟨g, c, l, t, h1, h2, h3, h4, h5⟩ := ok
  have hza : za ≠ zg := ne_of h1 h2 (by intro z; cases z)
  have hzc : za ≠ zc := ne_of h1 h3 (by intro z; cases z)
  refine ⟨_, rfl, za, _, rfl, by rw [← kv_left zg zc l t]; exact DGet.k (k := Sum.inr "left") h1, rfl, _, rfl, ?_⟩
  refine ite2 (fun hc => ?_) (fun hc => ?_)
  · -- the source of digits
    refine ⟨_, rfl, za, _, rfl, by rw [← kv_great zg zc l t]; exact DGet.k (k := Sum.inr "great") h1, by show 0 ≤ sizeLine; decide, fun p hp => ?_⟩
    have ne1 : ∀ b, b = za ∨ b = zg ∨ b = zc → b ≠ p := fun b hb z => by
      rw [← z] at hp
      rcases hb with e | e | e
      · rw [e, h1] at hp; cases hp
      · rw [e, h2] at hp; cases hp
      · rw [e, h3] at hp; cases hp
    have e1 := (upd_ne (H := H) (o := HO.lst []) (ne1 za (.inl rfl))).trans h1
    have e2 := (upd_ne (H := H) (o := HO.lst []) (ne1 zg (.inr (.inl rfl)))).trans h2
    have e3 := (upd_ne (H := H) (o := HO.lst []) (ne1 zc (.inr (.inr rfl)))).trans h3
    have gp : Grow (stW za zg zc) H (upd H p (.lst [])) := Grow.new _ hp
    have d1 : Dp K (upd H p (.lst [])) (.ref zg) (.list (g.map PyData.int)) := .lst (.inl (.inl e2)) (by
      clear h2 e2
      induction g with
      | nil => exact .nil
      | cons a g ih => exact .cons (.int a) ih)
    have d2 : Dp K (upd H p (.lst [])) (.ref p) (.list []) := .lst (.inl (.inl upd_same)) .nil
    have sh : ∀ g : List Int, PyData.canLayAll0 (g.map PyData.int) = true ∧ PyData.depthAll (g.map PyData.int) ≤ 1 := fun g => by
      induction g with
      | nil => exact ⟨rfl, by simp [PyData.depthAll]⟩
      | cons a g ih => exact ⟨by simpa [PyData.canLayAll0, PyData.canLay0] using ih.1, by have := ih.2; simp only [List.map_cons, PyData.depthAll, PyData.depth]; omega⟩
    have s1 : SeqAt.shaped (.list (g.map PyData.int)) = true := by
      show (PyData.canLay0 _ && decide (PyData.depth _ ≤ 64)) = true
      rw [Bool.and_eq_true]
      exact ⟨by simp only [PyData.canLay0]; exact (sh g).1, decide_eq_true (by have := (sh g).2; simp only [PyData.depth]; omega)⟩
    refine ⟨_, _, d1, d2, s1, by rfl, _, rfl, ?_⟩
    cases g with
    | nil =>
      refine iteF ?_
      refine ⟨_, rfl, .ref za, stW za zg zc, n, Oc, [.opq (.ref za)], ⟨za, zg, zc, rfl, hne, rfl⟩, hL, ⟨[], c, l, t, e1, e2, e3, h4, h5⟩, zo, fun b hb => ?_, .cons (.opq _) .nil, rfl, fun z v H' g1 ok1 rv => ?_⟩
      · by_cases hbp : b = p
        · rw [hbp, upd_same]; exact ⟨_, rfl, fun _ q => nomatch q⟩
        · rw [upd_ne hbp]; exact tr b hb
      · cases rv
        obtain ⟨g', c', l', t', k1, k2, k3, k4, k5⟩ := ok1
        refine ⟨_, rfl, za, _, rfl, DPut.k (k := Sum.inr "left") k1 (by show 4 < sizeLine; decide), ?_⟩
        rw [put_left]
        exact rest _ ⟨gp.trans (g1.trans (grow_z (.inl rfl))), g', c', z, t', upd_same, by rw [upd_ne hza.symm]; exact k2, by rw [upd_ne hzc.symm]; exact k3, k4, k5⟩
    | cons a g =>
      refine iteT ?_
      refine ⟨_, rfl, za, .ref zg, rfl, by rw [← kv_great zg zc l t]; exact DGet.k (k := Sum.inr "great") e1, .inl ⟨rfl, _, .inl (.inl e2)⟩, zg, _, _, 0, .int a, rfl, rfl, e2, by decide, by decide, by simp [seqIndex?], rfl, _, rfl, za, _, rfl, DPut.k (k := Sum.inr "left") (by rw [upd_ne hza]; exact e1) (by show 4 < sizeLine; decide), ?_⟩
      rw [put_left]
      refine rest _ ⟨gp.trans ((grow_z (.inr (.inl rfl))).trans (grow_z (.inl rfl))), g, c, a, t, upd_same, by rw [upd_ne hza.symm, upd_same]; rfl, by rw [upd_ne hzc.symm, upd_ne hne.symm]; exact e3, h4, by omega⟩
  · exact rest H ⟨Grow.refl _ _, g, c, l, t, h1, h2, h3, h4, by omega⟩
end
end Law

namespace Law
open PySem PySem.Spec PyProof.Rows L2 PL
section
variable {P : Program} {w : World} {K : PySem.W.Frag} {mg : Str → Option Value} {base : Heap} {f : Addr} {fd : FuncData}
def spBg (K : PySem.W.Frag) : Sp := fun vs H Q _ => ∃ (a : Addr) (ns : List Int), vs = [.ref a] ∧ SqL K H a (ns.map V.int) ∧ ns.length ≤ 63 ∧
  ∀ za zg zc H', zg ≠ zc → Same H H' → H za = none → H zg = none → H zc = none → StOk za zg zc 0 H' → Q (.ref za) H'
theorem same_up {H H1 : Hp} {p : Addr} {o : HO} (s : Same H H1) (h : H p = none) : Same H (upd H1 p o) := fun b u hb => by
  rw [upd_ne (ne_of_none hb h)]; exact s b u hb
theorem nth_int {ns : List Int} {i : Nat} {y : V} (h : (ns.map V.int)[i]? = some y) : ∃ z : Int, y = .int z ∧ i < ns.length := by
  rw [List.getElem?_map] at h
  cases e : ns[i]? with
  | none => rw [e] at h; cases h
  | some z => rw [e] at h; exact ⟨z, (Option.some.inj h).symm, (List.getElem?_eq_some_iff.mp e).1⟩
theorem merge_st (zg zc : Addr) : mergeK [] [(Sum.inr ("great" : Str), V.ref zg), (Sum.inr ("cells" : Str), V.ref zc), (Sum.inr ("left" : Str), V.int 0), (Sum.inr ("turn" : Str), V.int 0)] = stKvs zg zc 0 0 := by
  unfold mergeK stKvs putK
  have h := ne_keys
  simp [h.1, h.2.1, h.2.2.1, h.2.2.2.1, h.2.2.2.2.1, h.2.2.2.2.2, putK]
theorem ok_begun (F : Fun K "_law_begun" "_law_begun" s_l_begun f fd) (T : Bt mg) : FnOk P w K mg base CX0 1 f fd ["script"] (spBg K) := by
  refine F.ok sc_l_begun (fun vs H Q E ⟨_, _, e, _⟩ => by rw [e]; rfl) fun cdv A outer s H vs Q E hr ⟨a, ns, e, hS, h63, k⟩ => ?_
  subst e
  refine ⟨_, pss_cons (ps_setLc (i := 1) (own := [("cell", 2)]) (g := gName 2) rfl sc_l_begun.nd rfl rfl (sw_true rfl rfl rfl (by decide +kernel)) (pi_list (pv 0)) (blkOk_by (N := ["script", "great", "cell"]) (sc := defScope s_l_begun) (by decide +kernel))
      (fun _ _ _ _ _ => pg_name (i := 2) sc_l_begun.nd rfl (Or.inl rfl)) (fun _ _ _ _ _ => pts_one (pt_cmpR op_ge (pe_callB call_abs (by rfl) T.abs boot_abs (pa_cons (pv 2) pa_nil)) (pe_op op_pow pe_int pe_int) (nomark _)))
      (fun _ _ _ _ _ => pe_op op_sub (pe_callB call_abs (by rfl) T.abs boot_abs (pa_cons (pv 2) pa_nil)) (pe_op op_pow pe_int pe_int)))
    (pss_one (ps_ret (pe_disp (pps_cons pe_str (pv 1) (pps_cons pe_str (pe_lc (own := [("cell", 2)]) (g := gName 2) (tt := tYes) rfl sc_l_begun.nd (pi_list (pv 0)) (blkOk_by (N := ["script", "great", "cell"]) (sc := defScope s_l_begun) (by decide +kernel))
      (fun _ _ _ _ _ => pg_name (i := 2) sc_l_begun.nd rfl (Or.inl rfl)) (fun _ _ _ _ _ => pts_nil) (fun _ _ _ _ _ => pe_callB call_abs (by rfl) T.abs boot_abs (pa_cons (pv 2) pa_nil)))
      (pps_cons pe_str pe_int (pps_cons pe_str pe_int pps_nil)))) (by rfl) (by rfl) (fun z => by cases z) (by decide)))), ?_⟩
  refine ⟨_, rfl, a, rfl, ⟨_, hS⟩, fun g hg => ?_⟩
  have sg : Same H (upd H g (.lst [])) := same_up (Same.refl H) hg
  refine lc_list (K := K) (a := a) (xs := ns.map V.int) (fun i H1 => Same H H1 ∧ ∃ acc : List Int, H1 g = some (.lst (acc.map V.int)) ∧ acc.length ≤ i) ⟨sg, [], upd_same, Nat.le_refl _⟩ (fun i H1 _ ⟨s1, _⟩ => s1.seq hS) ?_ ?_
  · rintro i y H1 hy ⟨s1, acc, e1, l1⟩
    obtain ⟨z, rfl, hlt⟩ := nth_int hy
    have hacc : (acc.map V.int).length < sizeLine := by rw [List.length_map, sizeLine_eq]; omega
    refine ⟨rfl, _, rfl, _, rfl, _, _, rfl, rfl, ⟨by decide, by decide, by decide⟩, _, _, rfl, rfl, _, rfl, ?_⟩
    refine ite2 (fun _ => ?_) (fun _ => ?_)
    · refine ⟨_, rfl, _, rfl, _, _, rfl, rfl, ⟨by decide, by decide, by decide⟩, _, _, rfl, rfl, _, e1, hacc, same_up s1 hg, acc ++ [(if z < 0 then -z else z) - 10 ^ Int.toNat 18], ?_, ?_⟩
      · rw [upd_same, List.map_append]; rfl
      · rw [List.length_append, List.length_singleton]; omega
    · exact ⟨s1, acc, e1, by omega⟩
  · rintro H1 ⟨s1, acc, e1, l1⟩
    have n1 : ∀ {p : Addr}, H1 p = none → H p = none := fun h => s1.free h
    intro p hp
    refine ⟨_, rfl, _, rfl, a, rfl, ⟨_, (same_up s1 (n1 hp)).seq hS⟩, fun c hc => ?_⟩
    have hcp : c ≠ p := fun q => by rw [q, upd_same] at hc; cases hc
    have hc1 : H1 c = none := by rw [upd_ne hcp] at hc; exact hc
    have hgp : g ≠ p := ne_of_none e1 hp
    have hgc : g ≠ c := ne_of_none e1 hc1
    refine lc_list (K := K) (a := a) (xs := ns.map V.int) (fun i H2 => Same H H2 ∧ H2 g = some (.lst (acc.map V.int)) ∧ H2 p = some (.dK []) ∧ ∃ bcc : List Int, H2 c = some (.lst (bcc.map V.int)) ∧ bcc.length ≤ i) ⟨same_up (same_up s1 (n1 hp)) (n1 hc1), by rw [upd_ne hgc, upd_ne hgp]; exact e1, by rw [upd_ne hcp.symm, upd_same], [], upd_same, Nat.le_refl _⟩ (fun i H2 _ ⟨s2, _⟩ => s2.seq hS) ?_ ?_
    · rintro i y H2 hy ⟨s2, e2, e3, bcc, e4, l2⟩
      obtain ⟨z, rfl, hlt⟩ := nth_int hy
      have hacc : (bcc.map V.int).length < sizeLine := by rw [List.length_map, sizeLine_eq]; omega
      refine ⟨rfl, ?_⟩
      dsimp only [tYes]
      rw [if_pos rfl]
      refine ⟨_, rfl, _, rfl, _, e4, hacc, same_up s2 (n1 hc1), by rw [upd_ne hgc]; exact e2, by rw [upd_ne hcp.symm]; exact e3, bcc ++ [if z < 0 then -z else z], ?_, ?_⟩
      · rw [upd_same, List.map_append]; rfl
      · rw [List.length_append, List.length_singleton]; omega
    · rintro H2 ⟨s2, e2, e3, bcc, e4, l2⟩
      refine ⟨e3, [(Sum.inr ("great" : Str), V.ref g), (Sum.inr ("cells" : Str), V.ref c), (Sum.inr ("left" : Str), V.int 0), (Sum.inr ("turn" : Str), V.int 0)], rfl, by show 4 ≤ 15; decide, ?_⟩
      rw [merge_st]
      exact k p g c _ hgc (same_up s2 (n1 hp)) (n1 hp) hg (n1 hc1) ⟨acc, bcc, 0, 0, upd_same, by rw [upd_ne hgp]; exact e2, by rw [upd_ne hcp]; exact e4, Int.le_refl _, Int.le_refl _⟩
end
end Law

namespace Law
open PySem PySem.Spec PyProof.Rows L2 PL
def Gc (mg : Str → Option Value) (x : Str) (v : Int) : Prop := ∃ t, mg x = some (.int v t)
/-! ### the data -/
/-- what a field holds -/
inductive Va where
  | non | num (i : Int) | ptr (r : Nat)
  deriving DecidableEq
def Va.enc : Va → D
  | .non => .non
  | .num i => .int i
  | .ptr r => .tup [.str "to", .int r]
abbrev Row := List Va
abbrev Hea := List Row
def encR (r : Row) : D := .tup (r.map Va.enc)
def encH (h : Hea) : D := .tup (h.map encR)
/-- a value in a heap of m records -/
def VaOk (m : Nat) : Va → Prop
  | .non => True
  | .num i => -1000000000000000000 < i ∧ i < 1000000000000000000
  | .ptr r => r < m
structure HeaOk (wide : Nat) (h : Hea) : Prop where
  w1 : 1 ≤ wide
  w6 : wide ≤ 6
  ne : h ≠ []
  few : h.length < 64
  row : ∀ r ∈ h, r.length = wide ∧ ∀ v ∈ r, VaOk h.length v
/-! ### what the small defs promise -/
def S_is_number (ds : List D) (Q : D → Prop) : Prop := ∃ d, ds = [d] ∧ d.ty ≠ none ∧ Q (.bl (isNum d))
def S_is_from (ds : List D) (Q : D → Prop) : Prop := ∃ i l : Int, ds = [.int i, .int l] ∧ Q (.bl (isNum (.int i) && decide (l ≤ i)))
def S_is_between (ds : List D) (Q : D → Prop) : Prop := ∃ i l m : Int, ds = [.int i, .int l, .int m] ∧ Q (.bl (isNum (.int i) && (decide (l ≤ i) && decide (i ≤ m))))
def Va.isP : Va → Bool
  | .ptr _ => true
  | _ => false
def pairB : D → Option Bool
  | .non => some false
  | .int _ => some false
  | .tup l => some (decide (l.length = 2))
  | _ => none
theorem pairB_va (v : Va) : pairB v.enc = some v.isP := by cases v <;> rfl
def S_is_pair (ds : List D) (Q : D → Prop) : Prop := ∃ d b, ds = [d] ∧ pairB d = some b ∧ Q (.bl b)
def S_is_pointer (ds : List D) (Q : D → Prop) : Prop := ∃ v : Va, ds = [v.enc] ∧ VaOk 1000000 v ∧ Q (.bl v.isP)
def S_is_value (ds : List D) (Q : D → Prop) : Prop := ∃ (v : Va) (m : Nat), ds = [v.enc, .int m] ∧ m ≤ 1000000 ∧ VaOk m v ∧ Q (.bl true)
def S_is_row (ds : List D) (Q : D → Prop) : Prop := ∃ (r : Row) (m : Nat), ds = [encR r, .int r.length, .int m] ∧ r.length ≤ 1000 ∧ m ≤ 1000000 ∧ (∀ v ∈ r, VaOk m v) ∧ Q (.bl true)
def S_check_wide (ds : List D) (Q : D → Prop) : Prop := ∃ w : Nat, ds = [.int w] ∧ 1 ≤ w ∧ w ≤ 6 ∧ Q .non
def S_is_heap (ds : List D) (Q : D → Prop) : Prop := ∃ (h : Hea) (w : Nat), ds = [encH h, .int w] ∧ HeaOk w h ∧ Q (.bl true)
def S_check_heap (ds : List D) (Q : D → Prop) : Prop := ∃ (h : Hea) (w : Nat), ds = [encH h, .int w] ∧ HeaOk w h ∧ Q .non
def S_is_lead (ds : List D) (Q : D → Prop) : Prop := ∃ v : Va, ds = [v.enc] ∧ Q (.bl v.isP)
theorem isNum_int (i : Int) : isNum (.int i) = (decide (-1000000000000000000 < i) && decide (i < 1000000000000000000)) := rfl
theorem iteT' {c A B : Prop} [Decidable c] (h : c) (a : A) : if c then A else B := by rw [if_pos h]; exact a
theorem iteF' {c A B : Prop} [Decidable c] (h : ¬ c) (b : B) : if c then A else B := by rw [if_neg h]; exact b
local macro_rules | `(tactic| walk_at "pl") => `(tactic| simp only [sRet, sRetN, sSeq, sNext, sNever, sSet, sPar, sIf, sDrop, sFor, mAndV, mOrV, mNotV, mAnd, mOr, mNot, mB, mIf, mTru, mCB, mCall, mC, mVar, mRd, aCons, aNil, mTup, mLst, mOwn, mDat, m2, ml2, mNeg, mChain, kIsi, kIx, kI, kIc, kIsN, kEqS, kLen, kTuple, kList, kInt1, env0, List.length_cons, List.length_nil, List.map_cons, List.map_nil, List.replicate, List.cons_append, List.nil_append, List.append_nil, List.getElem?_cons_zero, List.getElem?_cons_succ, Nat.sub_self, Nat.reduceAdd, Nat.reduceSub, D.ty, D.isN, if_true, if_false, Bool.false_eq_true, List.set, id])
theorem len_is_number {ds : List D} {Q : D → Prop} (h : S_is_number ds Q) : ds.length = 1 := by obtain ⟨_, e, _⟩ := h; rw [e]; rfl
theorem len_is_from {ds : List D} {Q : D → Prop} (h : S_is_from ds Q) : ds.length = 2 := by obtain ⟨_, _, e, _⟩ := h; rw [e]; rfl
theorem len_is_between {ds : List D} {Q : D → Prop} (h : S_is_between ds Q) : ds.length = 3 := by obtain ⟨_, _, _, e, _⟩ := h; rw [e]; rfl
theorem len_is_pair {ds : List D} {Q : D → Prop} (h : S_is_pair ds Q) : ds.length = 1 := by obtain ⟨_, _, e, _⟩ := h; rw [e]; rfl
theorem len_is_pointer {ds : List D} {Q : D → Prop} (h : S_is_pointer ds Q) : ds.length = 1 := by obtain ⟨_, e, _⟩ := h; rw [e]; rfl
theorem len_is_value {ds : List D} {Q : D → Prop} (h : S_is_value ds Q) : ds.length = 2 := by obtain ⟨_, _, e, _⟩ := h; rw [e]; rfl
theorem len_is_row {ds : List D} {Q : D → Prop} (h : S_is_row ds Q) : ds.length = 3 := by obtain ⟨_, _, e, _⟩ := h; rw [e]; rfl
theorem len_check_wide {ds : List D} {Q : D → Prop} (h : S_check_wide ds Q) : ds.length = 1 := by obtain ⟨_, e, _⟩ := h; rw [e]; rfl
theorem len_is_heap {ds : List D} {Q : D → Prop} (h : S_is_heap ds Q) : ds.length = 2 := by obtain ⟨_, _, e, _⟩ := h; rw [e]; rfl
theorem len_check_heap {ds : List D} {Q : D → Prop} (h : S_check_heap ds Q) : ds.length = 2 := by obtain ⟨_, _, e, _⟩ := h; rw [e]; rfl
theorem len_is_lead {ds : List D} {Q : D → Prop} (h : S_is_lead ds Q) : ds.length = 1 := by obtain ⟨_, e, _⟩ := h; rw [e]; rfl
theorem mono_is_number : Mono S_is_number := fun ds P Q h ⟨d, e, n, k⟩ => ⟨d, e, n, h _ k⟩
theorem mono_is_from : Mono S_is_from := fun ds P Q h ⟨d, l, e, k⟩ => ⟨d, l, e, h _ k⟩
theorem mono_is_between : Mono S_is_between := fun ds P Q h ⟨d, l, m, e, k⟩ => ⟨d, l, m, e, h _ k⟩
theorem mono_is_pair : Mono S_is_pair := fun ds P Q h ⟨d, b, e, n, k⟩ => ⟨d, b, e, n, h _ k⟩
theorem mono_is_pointer : Mono S_is_pointer := fun ds P Q h ⟨d, e, n, k⟩ => ⟨d, e, n, h _ k⟩
theorem mono_is_value : Mono S_is_value := fun ds P Q h ⟨d, m, e, n, l, k⟩ => ⟨d, m, e, n, l, h _ k⟩
theorem mono_is_row : Mono S_is_row := fun ds P Q h ⟨d, m, e, n, l, p, k⟩ => ⟨d, m, e, n, l, p, h _ k⟩
theorem mono_check_wide : Mono S_check_wide := fun ds P Q h ⟨d, e, n, l, k⟩ => ⟨d, e, n, l, h _ k⟩
theorem mono_is_heap : Mono S_is_heap := fun ds P Q h ⟨d, m, e, n, k⟩ => ⟨d, m, e, n, h _ k⟩
theorem mono_check_heap : Mono S_check_heap := fun ds P Q h ⟨d, m, e, n, k⟩ => ⟨d, m, e, n, h _ k⟩
theorem mono_is_lead : Mono S_is_lead := fun ds P Q h ⟨d, e, k⟩ => ⟨d, e, h _ k⟩
section
variable {P : Program} {w : World} {K : PySem.W.Frag} {mg : Str → Option Value} {base : Heap} {f : Addr} {fd : FuncData}
theorem ok_is_number {k : Nat} (F : Fun K "is_number" "is_number" s_is_number f fd) (T : Bt mg) (TC_TOO_GREAT : Gc mg "TOO_GREAT" 1000000000000000000)  : FnOk P w K mg base CX0 (k + 1) f fd ["value"] (spP CA 0 S_is_number) := by
  obtain ⟨tg_TOO_GREAT, c_TOO_GREAT⟩ := TC_TOO_GREAT
  refine pl_ok F sc_is_number (fun ds Q h => ?_) fun cdv A outer s H E hr => ?_
  · exact len_is_number h
  have hu := hu_of hr
  refine ⟨_, _, _, (pss_one (ps_ret (pe_and (pe_callB call_isi (by rfl) T.isi (by decide +kernel) (pa_cons (pv 0) (pa_cons (pe_bltn (v := V.ty "int") (u := Value.type "int") (by rfl) T.int (by decide +kernel) rfl) pa_nil))) (pe_and (pe_not (pe_callB call_isi (by rfl) T.isi (by decide +kernel) (pa_cons (pv 0) (pa_cons (pe_bltn (v := V.ty "bool") (u := Value.type "bool") (by rfl) T.bool (by decide +kernel) rfl) pa_nil)))) (pe_one (pe_chain op_lt op_lt (pe_un un_neg (pe_glob (v := V.int 1000000000000000000) rfl c_TOO_GREAT ⟨_, rfl⟩)) (pv 0) (pe_glob (v := V.int 1000000000000000000) rfl c_TOO_GREAT ⟨_, rfl⟩))))))), (ss_ret (se_andV (se_cb (sar_cons sr_var (sar_cons (SE.r se_opq) sar_nil)) (kc_isi (T := "int") (by decide))) (se_andV (se_notV (se_cb (sar_cons sr_var (sar_cons (SE.r se_opq) sar_nil)) (kc_isi (T := "bool") (by decide)))) (se_chain (se_neg se_int) se_var se_int)))), by decide, fun ds Q h => ?_⟩
  obtain ⟨d, rfl, hne, q⟩ := h
  cases d with
  | opq v => exact absurd rfl hne
  | exc x y z => exact absurd rfl hne
  | lam a b => exact absurd rfl hne
  | ins a b c => exact absurd rfl hne
  | int i =>
    walk_at "pl"
    refine ⟨trivial, ?_⟩
    show if tyIs "int" "int" = true then _ else _
    refine iteT' (by decide) ⟨trivial, ?_⟩
    show if (!tyIs "int" "bool") = true then _ else _
    refine iteT' (by decide) ?_
    show if decide (-1000000000000000000 < i) = true then _ else _
    rw [isNum_int] at q
    by_cases h1 : -1000000000000000000 < i
    · rw [decide_eq_true h1, Bool.true_and] at q
      exact iteT' (decide_eq_true h1) q
    · rw [decide_eq_false h1, Bool.false_and] at q
      exact iteF' (by rw [decide_eq_false h1]; exact Bool.false_ne_true) q
  | bl b =>
    walk_at "pl"
    refine ⟨trivial, ?_⟩
    show if tyIs "bool" "int" = true then _ else _
    refine iteT' (by decide) ⟨trivial, ?_⟩
    show if (!tyIs "bool" "bool") = true then _ else _
    exact iteF' (by decide) q
  | non =>
    walk_at "pl"
    refine ⟨trivial, ?_⟩
    show if tyIs "NoneType" "int" = true then _ else _
    exact iteF' (by decide) q
  | str b =>
    walk_at "pl"
    refine ⟨trivial, ?_⟩
    show if tyIs "str" "int" = true then _ else _
    exact iteF' (by decide) q
  | tup b =>
    walk_at "pl"
    refine ⟨trivial, ?_⟩
    show if tyIs "tuple" "int" = true then _ else _
    exact iteF' (by decide) q
  | ftp b =>
    walk_at "pl"
    refine ⟨trivial, ?_⟩
    show if tyIs "tuple" "int" = true then _ else _
    exact iteF' (by decide) q
  | lst b =>
    walk_at "pl"
    refine ⟨trivial, ?_⟩
    show if tyIs "list" "int" = true then _ else _
    exact iteF' (by decide) q
  | dic b =>
    walk_at "pl"
    refine ⟨trivial, ?_⟩
    show if tyIs "dict" "int" = true then _ else _
    exact iteF' (by decide) q

theorem ok_is_from {k : Nat} (F : Fun K "is_from" "is_from" s_is_from f fd) (T : Bt mg) (P_is_number : Pr P w K mg base "is_number" k ["value"] (spP CA 0 S_is_number)) : FnOk P w K mg base CX0 (k + 1) f fd ["value", "least"] (spP CA 0 S_is_from) := by
  refine pl_ok F sc_is_from (fun ds Q h => ?_) fun cdv A outer s H E hr => ?_
  · exact len_is_from h
  have hu := hu_of hr
  refine ⟨_, _, _, (pss_one (ps_ret (pe_and (pe_callP P_is_number hr rfl (pa_cons (pv 0) pa_nil)) (pe_one (pe_cmpR op_ge (pv 0) (pv 1) (nomark _)))))), (ss_ret (se_andV (se_callA (sa_cons se_var sa_nil) mono_is_number) (se_op sr_var sr_var k2_bl))), by decide, fun ds Q h => ?_⟩
  obtain ⟨i, l, rfl, q⟩ := h
  walk_at "pl"
  refine ⟨_, rfl, (fun z => nomatch z), ?_⟩
  show if isNum (.int i) = true then _ else _
  by_cases h1 : isNum (.int i) = true
  · rw [h1, Bool.true_and] at q
    exact iteT' h1 q
  · rw [Bool.eq_false_iff.mpr h1, Bool.false_and] at q
    exact iteF' h1 q

theorem ok_is_between {k : Nat} (F : Fun K "is_between" "is_between" s_is_between f fd) (T : Bt mg) (P_is_number : Pr P w K mg base "is_number" k ["value"] (spP CA 0 S_is_number)) : FnOk P w K mg base CX0 (k + 1) f fd ["value", "least", "most"] (spP CA 0 S_is_between) := by
  refine pl_ok F sc_is_between (fun ds Q h => ?_) fun cdv A outer s H E hr => ?_
  · exact len_is_between h
  have hu := hu_of hr
  refine ⟨_, _, _, (pss_one (ps_ret (pe_and (pe_callP P_is_number hr rfl (pa_cons (pv 0) pa_nil)) (pe_one (pe_chain op_le op_le (pv 1) (pv 0) (pv 2)))))), (ss_ret (se_andV (se_callA (sa_cons se_var sa_nil) mono_is_number) (se_chain se_var se_var se_var))), by decide, fun ds Q h => ?_⟩
  obtain ⟨i, l, m, rfl, q⟩ := h
  walk_at "pl"
  refine ⟨_, rfl, (fun z => nomatch z), ?_⟩
  show if isNum (.int i) = true then _ else _
  by_cases h1 : isNum (.int i) = true
  · rw [h1, Bool.true_and] at q
    refine iteT' h1 ?_
    show if decide (l ≤ i) = true then _ else _
    by_cases h2 : l ≤ i
    · rw [decide_eq_true h2, Bool.true_and] at q
      exact iteT' (decide_eq_true h2) q
    · rw [decide_eq_false h2, Bool.false_and] at q
      exact iteF' (by rw [decide_eq_false h2]; exact Bool.false_ne_true) q
  · rw [Bool.eq_false_iff.mpr h1, Bool.false_and] at q
    exact iteF' h1 q

end
end Law

namespace Law
open PL
/-! ### what is reached, and how it is seen -/
def meetV (o : List Nat) : Va → List Nat
  | .ptr k => if k ∈ o then o else o ++ [k]
  | _ => o
def meetRow (o : List Nat) (r : Row) : List Nat := r.foldl meetV o
def stepB (h : Hea) (t : Nat) (o : List Nat) : List Nat := match o[t]? with
  | some k => (match h[k]? with | some r => meetRow o r | none => o)
  | none => o
def bf (h : Hea) : Nat → List Nat
  | 0 => [0]
  | t + 1 => stepB h t (bf h t)
def ren (o : List Nat) : Va → Va
  | .ptr k => .ptr (o.idxOf k)
  | v => v
def rowAt (h : Hea) (k : Nat) : Row := (h[k]?).getD []
def met (h : Hea) : List Nat := bf h h.length
def seenH (h : Hea) : Hea := (met h).map fun k => (rowAt h k).map (ren (met h))
/-- pointers of a row lie in s -/
def Into (s : Nat → Prop) (r : Row) : Prop := ∀ k, Va.ptr k ∈ r → s k
theorem meetV_pre (o : List Nat) (v : Va) : ∃ e, meetV o v = o ++ e := by
  cases v with
  | ptr k =>
    show ∃ e, (if k ∈ o then o else o ++ [k]) = o ++ e
    split
    · exact ⟨[], (List.append_nil _).symm⟩
    · exact ⟨_, rfl⟩
  | non => exact ⟨[], (List.append_nil _).symm⟩
  | num i => exact ⟨[], (List.append_nil _).symm⟩
theorem meetRow_pre : ∀ (r : Row) (o : List Nat), ∃ e, meetRow o r = o ++ e
  | [], o => ⟨[], (List.append_nil _).symm⟩
  | v :: r, o => by
    obtain ⟨e, h⟩ := meetV_pre o v
    obtain ⟨f, g⟩ := meetRow_pre r (meetV o v)
    exact ⟨e ++ f, by rw [show meetRow o (v :: r) = meetRow (meetV o v) r from rfl, g, h, List.append_assoc]⟩
theorem stepB_pre (h : Hea) (t : Nat) (o : List Nat) : ∃ e, stepB h t o = o ++ e := by
  unfold stepB
  split
  · split
    · exact meetRow_pre _ _
    · exact ⟨[], (List.append_nil _).symm⟩
  · exact ⟨[], (List.append_nil _).symm⟩
theorem bf_pre (h : Hea) (t : Nat) : ∀ k, ∃ e, bf h (t + k) = bf h t ++ e
  | 0 => ⟨[], (List.append_nil _).symm⟩
  | k + 1 => by
    obtain ⟨e, he⟩ := bf_pre h t k
    obtain ⟨f, hf⟩ := stepB_pre h (t + k) (bf h (t + k))
    exact ⟨e ++ f, by rw [show bf h (t + (k + 1)) = stepB h (t + k) (bf h (t + k)) from rfl, hf, he, List.append_assoc]⟩
theorem meetV_ok {m : Nat} {o : List Nat} {v : Va} (nd : o.Nodup) (lt : ∀ k ∈ o, k < m) (hv : VaOk m v) : (meetV o v).Nodup ∧ ∀ k ∈ meetV o v, k < m := by
  cases v with
  | ptr k =>
    show (if k ∈ o then o else o ++ [k]).Nodup ∧ ∀ j ∈ (if k ∈ o then o else o ++ [k]), j < m
    split
    · exact ⟨nd, lt⟩
    · rename_i hk
      refine ⟨?_, fun j hj => ?_⟩
      · rw [List.nodup_append]
        exact ⟨nd, by simp, fun a ha b hb => by rw [List.mem_singleton] at hb; rw [hb]; intro e; exact hk (e ▸ ha)⟩
      · rcases List.mem_append.mp hj with e | e
        · exact lt j e
        · rw [List.mem_singleton] at e; rw [e]; exact hv
  | non => exact ⟨nd, lt⟩
  | num i => exact ⟨nd, lt⟩
theorem meetRow_ok {m : Nat} : ∀ {r : Row} {o : List Nat}, o.Nodup → (∀ k ∈ o, k < m) → (∀ v ∈ r, VaOk m v) → (meetRow o r).Nodup ∧ ∀ k ∈ meetRow o r, k < m
  | [], o, nd, lt, _ => ⟨nd, lt⟩
  | v :: r, o, nd, lt, h => by
    have h1 := meetV_ok nd lt (h v List.mem_cons_self)
    exact meetRow_ok (r := r) (o := meetV o v) h1.1 h1.2 fun u hu => h u (List.mem_cons_of_mem _ hu)
theorem bf_ok {h : Hea} (ne : h ≠ []) (ok : ∀ r ∈ h, ∀ v ∈ r, VaOk h.length v) : ∀ t, (bf h t).Nodup ∧ ∀ k ∈ bf h t, k < h.length
  | 0 => ⟨by simp [bf], fun k hk => by rw [show bf h 0 = [0] from rfl, List.mem_singleton] at hk; rw [hk]; exact List.length_pos_iff.mpr ne⟩
  | t + 1 => by
    have ih := bf_ok ne ok t
    show (stepB h t (bf h t)).Nodup ∧ ∀ k ∈ stepB h t (bf h t), k < h.length
    unfold stepB
    split
    · split
      · rename_i r hr
        exact meetRow_ok ih.1 ih.2 (ok r (List.mem_of_getElem? hr))
      · exact ih
    · exact ih
theorem nodup_le : ∀ {m : Nat} {l : List Nat}, l.Nodup → (∀ k ∈ l, k < m) → l.length ≤ m
  | 0, l, _, h => by
    cases l with
    | nil => exact Nat.le_refl _
    | cons a r => exact absurd (h a List.mem_cons_self) (Nat.not_lt_zero a)
  | m + 1, l, nd, h => by
    have h1 := nodup_le (m := m) (nd.erase m) fun k hk => by
      have h2 := (nd.mem_erase_iff).mp hk
      have := h k h2.2
      omega
    have h2 := List.length_erase (a := m) (l := l)
    split at h2 <;> omega
theorem bf_le {h : Hea} (ne : h ≠ []) (ok : ∀ r ∈ h, ∀ v ∈ r, VaOk h.length v) (t : Nat) : (bf h t).length ≤ h.length := nodup_le (bf_ok ne ok t).1 (bf_ok ne ok t).2
/-- at rest -/
theorem bf_rest {h : Hea} {t : Nat} (ht : (bf h t).length ≤ t) : ∀ k, bf h (t + k) = bf h t
  | 0 => rfl
  | k + 1 => by
    have ih := bf_rest ht k
    show stepB h (t + k) (bf h (t + k)) = bf h t
    rw [ih]; unfold stepB
    rw [List.getElem?_eq_none (by omega)]
theorem bf_met {h : Hea} (ne : h ≠ []) (ok : ∀ r ∈ h, ∀ v ∈ r, VaOk h.length v) {t : Nat} (ht : (bf h t).length ≤ t) : bf h t = met h := by
  unfold met
  rcases Nat.le_total t h.length with e | e
  · rw [show h.length = t + (h.length - t) by omega, bf_rest ht]
  · have := bf_rest (h := h) (t := h.length) (bf_le ne ok _) (t - h.length)
    rw [show h.length + (t - h.length) = t by omega] at this
    exact this
/-- a step at which the row ends -/
theorem meetRow_all : ∀ {r : Row} {o : List Nat} {k : Nat}, Va.ptr k ∈ r → k ∈ meetRow o r
  | v :: r, o, k, hk => by
    rcases List.mem_cons.mp hk with e | e
    · obtain ⟨f, g⟩ := meetRow_pre r (meetV o v)
      rw [show meetRow o (v :: r) = meetRow (meetV o v) r from rfl, g, ← e]
      refine List.mem_append_left _ ?_
      show k ∈ if k ∈ o then o else o ++ [k]
      split
      · assumption
      · exact List.mem_append_right _ List.mem_cons_self
    · exact meetRow_all (r := r) (o := meetV o v) e
theorem met_len {h : Hea} (ne : h ≠ []) (ok : ∀ r ∈ h, ∀ v ∈ r, VaOk h.length v) : bf h (met h).length = met h := by
  refine bf_met ne ok ?_
  have hl := bf_le ne ok h.length
  obtain ⟨e, he⟩ := bf_pre h (met h).length (h.length - (met h).length)
  rw [show (met h).length + (h.length - (met h).length) = h.length by unfold met; omega] at he
  have := congrArg List.length he
  rw [List.length_append] at this
  show _ ≤ (bf h h.length).length
  omega
theorem met_closed {h : Hea} (ne : h ≠ []) (ok : ∀ r ∈ h, ∀ v ∈ r, VaOk h.length v) {k : Nat} (hk : k ∈ met h) : Into (· ∈ met h) (rowAt h k) := by
  intro j hj
  obtain ⟨t, ht, e⟩ := List.getElem_of_mem hk
  have hl := bf_le ne ok h.length
  have h1 : t < (bf h t).length := by
    refine Nat.lt_of_not_le fun q => ?_
    rw [bf_met ne ok q] at q; omega
  obtain ⟨e1, he1⟩ := bf_pre h t (h.length - t)
  obtain ⟨e2, he2⟩ := bf_pre h (t + 1) (h.length - (t + 1))
  have htl : t < h.length := by unfold met at ht; omega
  rw [show t + (h.length - t) = h.length by omega] at he1
  rw [show t + 1 + (h.length - (t + 1)) = h.length by omega] at he2
  have h2 : (bf h t)[t]? = some k := by
    have : (met h)[t]? = some k := by rw [List.getElem?_eq_getElem ht, e]
    unfold met at this
    rw [he1, List.getElem?_append_left h1] at this; exact this
  show j ∈ bf h h.length
  rw [he2]
  refine List.mem_append_left _ ?_
  show j ∈ stepB h t (bf h t)
  unfold stepB rowAt at *
  rw [h2]
  cases hr : h[k]? with
  | none => rw [hr] at hj; cases hj
  | some r =>
    rw [hr] at hj
    show j ∈ match h[k]? with | some r => meetRow (bf h t) r | none => bf h t
    rw [hr]
    exact meetRow_all (r := r) hj
theorem idx_inj {o : List Nat} {a b : Nat} (ha : a ∈ o) (hb : b ∈ o) (e : o.idxOf a = o.idxOf b) : a = b := by
  have h1 := List.getElem_idxOf (List.idxOf_lt_length_of_mem ha)
  have h2 := List.getElem_idxOf (List.idxOf_lt_length_of_mem hb)
  rw [← h1, ← h2]; simp [e]
theorem mem_map_idx {o p : List Nat} (hp : ∀ k ∈ p, k ∈ o) {k : Nat} (hk : k ∈ o) : o.idxOf k ∈ p.map (o.idxOf ·) ↔ k ∈ p := by
  rw [List.mem_map]
  refine ⟨fun ⟨a, ha, e⟩ => by rw [← idx_inj (hp a ha) hk e]; exact ha, fun h => ⟨k, h, rfl⟩⟩
theorem meetV_map {o p : List Nat} (hp : ∀ k ∈ p, k ∈ o) {v : Va} (hv : ∀ k, v = .ptr k → k ∈ o) : meetV (p.map (o.idxOf ·)) (ren o v) = (meetV p v).map (o.idxOf ·) ∧ ∀ k ∈ meetV p v, k ∈ o := by
  cases v with
  | ptr k =>
    have hk := hv k rfl
    show (if o.idxOf k ∈ p.map (o.idxOf ·) then p.map (o.idxOf ·) else p.map (o.idxOf ·) ++ [o.idxOf k]) = (if k ∈ p then p else p ++ [k]).map (o.idxOf ·) ∧ ∀ j ∈ (if k ∈ p then p else p ++ [k]), j ∈ o
    by_cases c : k ∈ p
    · rw [if_pos c, if_pos ((mem_map_idx hp hk).mpr c)]; exact ⟨rfl, hp⟩
    · rw [if_neg c, if_neg (fun z => c ((mem_map_idx hp hk).mp z)), List.map_append]
      refine ⟨rfl, fun j hj => ?_⟩
      rcases List.mem_append.mp hj with e | e
      · exact hp j e
      · rw [List.mem_singleton] at e; rw [e]; exact hk
  | non => exact ⟨rfl, hp⟩
  | num i => exact ⟨rfl, hp⟩
theorem meetRow_map {o : List Nat} : ∀ {r : Row} {p : List Nat}, (∀ k ∈ p, k ∈ o) → Into (· ∈ o) r → meetRow (p.map (o.idxOf ·)) (r.map (ren o)) = (meetRow p r).map (o.idxOf ·) ∧ ∀ k ∈ meetRow p r, k ∈ o
  | [], p, hp, _ => ⟨rfl, hp⟩
  | v :: r, p, hp, hr => by
    have h1 := meetV_map (v := v) hp fun k e => hr k (by rw [e]; exact List.mem_cons_self)
    have h2 := meetRow_map (r := r) (p := meetV p v) h1.2 fun k hk => hr k (List.mem_cons_of_mem _ hk)
    refine ⟨?_, h2.2⟩
    rw [List.map_cons, show meetRow (p.map (o.idxOf ·)) (ren o v :: r.map (ren o)) = meetRow (meetV (p.map (o.idxOf ·)) (ren o v)) (r.map (ren o)) from rfl, h1.1]
    exact h2.1
theorem zero_met (h : Hea) : ∃ e, met h = 0 :: e := by
  obtain ⟨e, he⟩ := bf_pre h 0 h.length
  rw [Nat.zero_add] at he
  exact ⟨e, he⟩
theorem map_idx_self : ∀ {o : List Nat}, o.Nodup → o.map (o.idxOf ·) = List.range o.length := by
  intro o nd
  refine List.ext_getElem (by simp) fun i h1 h2 => ?_
  rw [List.getElem_map, List.getElem_range]
  rw [List.length_map] at h1
  exact nd.idxOf_getElem i h1
theorem seenH_row {h : Hea} {k : Nat} (hk : k ∈ met h) : (seenH h)[(met h).idxOf k]? = some ((rowAt h k).map (ren (met h))) := by
  unfold seenH
  have hl := List.idxOf_lt_length_of_mem hk
  rw [List.getElem?_map, List.getElem?_eq_getElem hl]
  show some _ = _
  rw [List.getElem_idxOf hl]
theorem bf_seen {h : Hea} (ne : h ≠ []) (ok : ∀ r ∈ h, ∀ v ∈ r, VaOk h.length v) : ∀ t, bf (seenH h) t = (bf h t).map ((met h).idxOf ·) ∧ ∀ k ∈ bf h t, k ∈ met h
  | 0 => by
    obtain ⟨e, he⟩ := zero_met h
    refine ⟨?_, fun k hk => ?_⟩
    · show [0] = [(met h).idxOf 0]
      rw [he]; simp
    · rw [show bf h 0 = [0] from rfl, List.mem_singleton] at hk
      rw [hk, he]; exact List.mem_cons_self
  | t + 1 => by
    obtain ⟨i1, i2⟩ := bf_seen ne ok t
    show stepB (seenH h) t (bf (seenH h) t) = (stepB h t (bf h t)).map _ ∧ ∀ k ∈ stepB h t (bf h t), k ∈ met h
    rw [i1]
    unfold stepB
    rw [List.getElem?_map]
    cases hk : (bf h t)[t]? with
    | none => exact ⟨rfl, i2⟩
    | some k =>
      have hm := i2 k (List.mem_of_getElem? hk)
      have hlt := (bf_ok ne ok t).2 k (List.mem_of_getElem? hk)
      have hr : h[k]? = some (rowAt h k) := by unfold rowAt; rw [List.getElem?_eq_getElem hlt]; rfl
      show (match (seenH h)[(met h).idxOf k]? with | some r => meetRow _ r | none => _) = (match h[k]? with | some r => meetRow (bf h t) r | none => bf h t).map _ ∧ ∀ j ∈ (match h[k]? with | some r => meetRow (bf h t) r | none => bf h t), j ∈ met h
      rw [seenH_row hm, hr]
      exact meetRow_map i2 (met_closed ne ok hm)
theorem seenH_len (h : Hea) : (seenH h).length = (met h).length := by unfold seenH; rw [List.length_map]
theorem seenH_ne (h : Hea) : seenH h ≠ [] := by
  obtain ⟨e, he⟩ := zero_met h
  intro q
  have := congrArg List.length q
  rw [seenH_len, he] at this; cases this
theorem seenH_ok {h : Hea} (ne : h ≠ []) (ok : ∀ r ∈ h, ∀ v ∈ r, VaOk h.length v) : ∀ r ∈ seenH h, ∀ v ∈ r, VaOk (seenH h).length v := by
  intro r hr v hv
  unfold seenH at hr
  obtain ⟨k, hk, rfl⟩ := List.mem_map.mp hr
  obtain ⟨u, hu, rfl⟩ := List.mem_map.mp hv
  have hlt := (bf_ok ne ok h.length).2 k hk
  cases u with
  | ptr j =>
    show (met h).idxOf j < (seenH h).length
    rw [seenH_len]
    exact List.idxOf_lt_length_of_mem (met_closed ne ok hk j hu)
  | non => trivial
  | num i =>
    have : h[k]? = some (rowAt h k) := by unfold rowAt; rw [List.getElem?_eq_getElem hlt]; rfl
    exact ok _ (List.mem_of_getElem? this) _ hu
theorem met_seen {h : Hea} (ne : h ≠ []) (ok : ∀ r ∈ h, ∀ v ∈ r, VaOk h.length v) : met (seenH h) = List.range (met h).length := by
  show bf (seenH h) (seenH h).length = _
  rw [seenH_len, (bf_seen ne ok _).1, met_len ne ok]
  exact map_idx_self (o := met h) (bf_ok ne ok h.length).1
/-- what is seen is seen as it is -/
theorem seen_seen {h : Hea} (ne : h ≠ []) (ok : ∀ r ∈ h, ∀ v ∈ r, VaOk h.length v) : seenH (seenH h) = seenH h := by
  have ok' := seenH_ok ne ok
  have hm := met_seen ne ok
  show (met (seenH h)).map (fun k => (rowAt (seenH h) k).map (ren (met (seenH h)))) = seenH h
  rw [hm]
  refine List.ext_getElem (by rw [List.length_map, List.length_range, seenH_len]) fun i h1 h2 => ?_
  rw [List.getElem_map, List.getElem_range]
  have hr : rowAt (seenH h) i = (seenH h)[i] := by unfold rowAt; rw [List.getElem?_eq_getElem h2]; rfl
  rw [hr]
  refine (List.map_congr_left fun v hv => ?_).trans (List.map_id _)
  have hv' := ok' _ (List.getElem_mem h2) v hv
  cases v with
  | ptr j =>
    have hj : j < (met h).length := by rw [seenH_len] at hv'; exact hv'
    show Va.ptr ((List.range (met h).length).idxOf j) = .ptr j
    congr 1
    have := (List.nodup_range (n := (met h).length)).idxOf_getElem j (by rw [List.length_range]; exact hj)
    rw [List.getElem_range] at this; exact this
  | non => rfl
  | num i => rfl
end Law

namespace Law
open PySem PySem.Spec PyProof.Rows L2 PL
local macro_rules | `(tactic| walk_at "pl") => `(tactic| simp only [sRet, sRetN, sSeq, sNext, sNever, sSet, sPar, sIf, sDrop, sFor, sApp, sAug, sAugIx, sPutD, mAndV, mOrV, mNotV, mAnd, mOr, mNot, mB, mIf, mTru, mCB, mCL, mCall, mC, mVar, mRd, aCons, aNil, mTup, mLst, mLc, mLcK, mOwn, mDat, m2, ml2, mNeg, mChain, iT, iL, kIsi, kIx, kI, kIc, kIsN, kEqS, kLen, kTuple, kList, kInt1, kRepL, env0, wipeE, frz, unOwn, gN, List.length_cons, List.length_nil, List.map_cons, List.map_nil, List.replicate, List.cons_append, List.nil_append, List.append_nil, List.getElem?_cons_zero, List.getElem?_cons_succ, Nat.sub_self, Nat.reduceAdd, Nat.reduceSub, D.ty, D.isN, D.tru, if_true, if_false, Bool.false_eq_true, List.set, id])
theorem Hea.pos {w : Nat} {h : Hea} (H : HeaOk w h) : 0 < h.length := List.length_pos_iff.mpr H.ne
theorem Hea.get {h : Hea} {k : Nat} (hk : k < h.length) : h[k]? = some (rowAt h k) := by unfold rowAt; rw [List.getElem?_eq_getElem hk]; rfl
theorem Hea.mem {h : Hea} {k : Nat} (hk : k < h.length) : rowAt h k ∈ h := List.mem_of_getElem? (Hea.get hk)
theorem HeaOk.va {w : Nat} {h : Hea} (H : HeaOk w h) : ∀ r ∈ h, ∀ v ∈ r, VaOk h.length v := fun r hr => (H.row r hr).2
theorem lineLe {n : Nat} (h : n ≤ 1000000) : n ≤ sizeLine := by rw [sizeLine_eq]; omega
theorem allT (n : Nat) : (List.replicate n true).all id = true := by induction n with | zero => rfl | succ n ih => rw [List.replicate_succ, List.all_cons, ih]; rfl
theorem mapT {α : Type} (l : List α) : l.map (fun _ => D.bl true) = (List.replicate l.length true).map D.bl := by induction l with | nil => rfl | cons a l ih => rw [List.map_cons, ih]; rfl
/-! ### the rest -/
/-- how often is each pointed at -/
def cntV (c : List Int) : Va → List Int
  | .ptr r => c.set r ((c[r]?).getD 0 + 1)
  | _ => c
def cntR (c : List Int) (r : Row) : List Int := r.foldl cntV c
def cnts (h : Hea) : List Int := h.foldl cntR (List.replicate h.length 0)
def encI (l : List Int) : List D := l.map D.int
theorem cntV_len (c : List Int) (v : Va) : (cntV c v).length = c.length := by
  cases v with
  | ptr r => exact List.length_set
  | non => rfl
  | num i => rfl
/-- the numbers that a row of records is given -/
def numFrom : Nat → List Nat → List (Key × D)
  | _, [] => []
  | s, k :: r => (Sum.inl (k : Int), D.int (s : Int)) :: numFrom (s + 1) r
def numD (o : List Nat) : List (Key × D) := numFrom 0 o
def encN (l : List Nat) : List D := l.map fun k : Nat => D.int (k : Int)
theorem numFrom_get : ∀ (o : List Nat) (s k : Nat), getD (numFrom s o) (.inl (k : Int)) = if k ∈ o then some (D.int ((s + o.idxOf k : Nat) : Int)) else none
  | [], s, k => rfl
  | j :: r, s, k => by
    unfold getD numFrom
    rw [List.find?_cons, List.idxOf_cons]
    by_cases e : j = k
    · subst e
      rw [decide_eq_true rfl, if_pos List.mem_cons_self]; simp
    · have ne : ¬ ((Sum.inl (j : Int) : Key) = .inl (k : Int)) := fun z => e (by injection z with z; omega)
      rw [decide_eq_false ne]
      have ih := numFrom_get r (s + 1) k
      unfold getD at ih
      rw [show (j == k) = false from beq_false_of_ne e]
      show ((numFrom (s + 1) r).find? _).map _ = _
      rw [ih]
      by_cases m : k ∈ r
      · rw [if_pos m, if_pos (List.mem_cons_of_mem _ m)]
        congr 2
        show ((s + 1 + r.idxOf k : Nat) : Int) = ((s + (r.idxOf k + 1) : Nat) : Int)
        omega
      · rw [if_neg m, if_neg (fun z => (List.mem_cons.mp z).elim (fun q => e q.symm) m)]
theorem numFrom_app : ∀ (o : List Nat) (s k : Nat), numFrom s (o ++ [k]) = numFrom s o ++ [(Sum.inl (k : Int), D.int ((s + o.length : Nat) : Int))]
  | [], s, k => rfl
  | j :: r, s, k => by
    show _ :: numFrom (s + 1) (r ++ [k]) = _ :: (numFrom (s + 1) r ++ _)
    rw [numFrom_app r (s + 1) k, List.length_cons, show s + 1 + r.length = s + (r.length + 1) by omega]
theorem numFrom_any : ∀ (o : List Nat) (s k : Nat), ((numFrom s o).any fun kv => decide (kv.1 = (.inl (k : Int) : Key))) = decide (k ∈ o)
  | [], s, k => rfl
  | j :: r, s, k => by
    show (decide ((.inl (j : Int) : Key) = .inl (k : Int)) || (numFrom (s + 1) r).any _) = _
    rw [numFrom_any r (s + 1) k]
    by_cases e : j = k
    · subst e; simp
    · have ne : ¬ ((Sum.inl (j : Int) : Key) = .inl (k : Int)) := fun z => e (by injection z with z; omega)
      rw [decide_eq_false ne, Bool.false_or]
      have : (k ∈ j :: r) ↔ k ∈ r := by
        rw [List.mem_cons]
        exact ⟨fun z => z.elim (fun q => absurd q.symm e) id, .inr⟩
      exact (decide_eq_decide.mpr this).symm
theorem numD_put {o : List Nat} {k : Nat} (h : k ∉ o) : putD (numD o) (.inl (k : Int)) (.int (o.length : Int)) = numD (o ++ [k]) := by
  unfold putD numD
  rw [numFrom_any, decide_eq_false h, if_neg Bool.false_ne_true, numFrom_app, Nat.zero_add]
theorem numFrom_keys : ∀ (o : List Nat) (s : Nat), ((numFrom s o).map fun kv => keyD kv.1) = encN o
  | [], _ => rfl
  | k :: r, s => congrArg (D.int (k : Int) :: ·) (numFrom_keys r (s + 1))
theorem numFrom_fst : ∀ (o : List Nat) (s : Nat), ((numFrom s o).map fun kv => kv.1) = (o.map fun k : Nat => (k : Int)).map Sum.inl
  | [], _ => rfl
  | k :: r, s => congrArg ((Sum.inl (k : Int) : Key) :: ·) (numFrom_fst r (s + 1))
theorem numFrom_len : ∀ (o : List Nat) (s : Nat), (numFrom s o).length = o.length
  | [], _ => rfl
  | k :: r, s => congrArg Nat.succ (numFrom_len r (s + 1))
theorem encN_at {o : List Nat} {t k : Nat} (h : o[t]? = some k) : atI (encN o) (t : Int) = some (.int (k : Int)) := by
  unfold atI encN
  obtain ⟨hl, e⟩ := List.getElem?_eq_some_iff.mp h
  rw [List.length_map, ixN_nat hl]
  show (o.map _)[t]? = _
  rw [List.getElem?_map, h]; rfl
theorem encH_at {h : Hea} {k : Nat} (hk : k < h.length) : atI (h.map encR) (k : Int) = some (encR (rowAt h k)) := by
  unfold atI
  rw [List.length_map, ixN_nat hk]
  show (h.map _)[k]? = _
  rw [List.getElem?_map, Hea.get hk]; rfl
def S_count_pointed (ds : List D) (Q : D → Prop) : Prop := ∃ (h : Hea) (w : Nat), ds = [encH h] ∧ HeaOk w h ∧ Q (.lst (encI (cnts h)))
def S_meet_all (ds : List D) (Q : D → Prop) : Prop := ∃ (h : Hea) (w : Nat), ds = [encH h] ∧ HeaOk w h ∧ Q (.dic (numD (met h)))
def S_led_anew (ds : List D) (Q : D → Prop) : Prop := ∃ (r : Row) (o : List Nat), ds = [encR r, .dic (numD o)] ∧ r.length ≤ 1000 ∧ o.Nodup ∧ Into (· ∈ o) r ∧ Q (encR (r.map (ren o)))
def S_seen_from_root (ds : List D) (Q : D → Prop) : Prop := ∃ (h : Hea) (w : Nat), ds = [encH h] ∧ HeaOk w h ∧ Q (encH (seenH h))
def S_pointed (ds : List D) (Q : D → Prop) : Prop := ∃ (h : Hea) (w : Nat), ds = [encH h, .int w] ∧ HeaOk w h ∧ Q (.tup (encI (cnts h)))
def S_reached (ds : List D) (Q : D → Prop) : Prop := ∃ (h : Hea) (w : Nat), ds = [encH h, .int w] ∧ HeaOk w h ∧ ∀ ns : List Int, ns.Perm ((met h).map fun k : Nat => (k : Int)) → ns.Pairwise (· ≤ ·) → Q (.tup (encI ns))
def S_seen (ds : List D) (Q : D → Prop) : Prop := ∃ (h : Hea) (w : Nat), ds = [encH h, .int w] ∧ HeaOk w h ∧ Q (encH (seenH h))
theorem len_count_pointed {ds : List D} {Q : D → Prop} (h : S_count_pointed ds Q) : ds.length = 1 := by obtain ⟨_, _, e, _⟩ := h; rw [e]; rfl
theorem len_meet_all {ds : List D} {Q : D → Prop} (h : S_meet_all ds Q) : ds.length = 1 := by obtain ⟨_, _, e, _⟩ := h; rw [e]; rfl
theorem len_led_anew {ds : List D} {Q : D → Prop} (h : S_led_anew ds Q) : ds.length = 2 := by obtain ⟨_, _, e, _⟩ := h; rw [e]; rfl
theorem len_seen_from_root {ds : List D} {Q : D → Prop} (h : S_seen_from_root ds Q) : ds.length = 1 := by obtain ⟨_, _, e, _⟩ := h; rw [e]; rfl
theorem len_pointed {ds : List D} {Q : D → Prop} (h : S_pointed ds Q) : ds.length = 2 := by obtain ⟨_, _, e, _⟩ := h; rw [e]; rfl
theorem len_reached {ds : List D} {Q : D → Prop} (h : S_reached ds Q) : ds.length = 2 := by obtain ⟨_, _, e, _⟩ := h; rw [e]; rfl
theorem len_seen {ds : List D} {Q : D → Prop} (h : S_seen ds Q) : ds.length = 2 := by obtain ⟨_, _, e, _⟩ := h; rw [e]; rfl
theorem mono_count_pointed : Mono S_count_pointed := fun ds P Q h ⟨d, m, e, n, k⟩ => ⟨d, m, e, n, h _ k⟩
theorem mono_meet_all : Mono S_meet_all := fun ds P Q h ⟨d, m, e, n, k⟩ => ⟨d, m, e, n, h _ k⟩
theorem mono_led_anew : Mono S_led_anew := fun ds P Q h ⟨d, m, e, n, l, p, k⟩ => ⟨d, m, e, n, l, p, h _ k⟩
theorem mono_seen_from_root : Mono S_seen_from_root := fun ds P Q h ⟨d, m, e, n, k⟩ => ⟨d, m, e, n, h _ k⟩
theorem mono_pointed : Mono S_pointed := fun ds P Q h ⟨d, m, e, n, k⟩ => ⟨d, m, e, n, h _ k⟩
theorem mono_reached : Mono S_reached := fun ds P Q h ⟨d, m, e, n, k⟩ => ⟨d, m, e, n, fun ns h1 h2 => h _ (k ns h1 h2)⟩
theorem mono_seen : Mono S_seen := fun ds P Q h ⟨d, m, e, n, k⟩ => ⟨d, m, e, n, h _ k⟩
section
variable {P : Program} {w : World} {K : PySem.W.Frag} {mg : Str → Option Value} {base : Heap} {f : Addr} {fd : FuncData}
end
end Law

namespace Law
open PySem PySem.Spec PyProof.Rows L2 PL
/-! ### what a deed does -/
inductive Ch where
  | make (r : Row) | set (a b : Nat) (v : Va)
def Ch.enc : Ch → D
  | .make r => .tup [.str "make", encR r]
  | .set a b v => .tup [.str "set", .int a, .int b, v.enc]
def chH (h : Hea) : Ch → Hea
  | .make r => h ++ [r]
  | .set a b v => h.set a ((rowAt h a).set b v)
def doneH (h : Hea) (d : List Ch) : Hea := d.foldl chH h
/-- a change that may be made on m records -/
def ChOk (wide m : Nat) : Ch → Prop
  | .make r => r.length = wide ∧ ∀ v ∈ r, VaOk (m + 1) v
  | .set a b v => a < m ∧ b < wide ∧ VaOk m v
def chN (m : Nat) : Ch → Nat
  | .make _ => m + 1
  | .set _ _ _ => m
def DeedOk (wide : Nat) : Nat → List Ch → Prop
  | _, [] => True
  | m, c :: d => ChOk wide m c ∧ DeedOk wide (chN m c) d
theorem VaOk.mono {m n : Nat} (h : m ≤ n) {v : Va} (hv : VaOk m v) : VaOk n v := by
  cases v with
  | ptr k => exact Nat.lt_of_lt_of_le hv h
  | non => exact hv
  | num i => exact hv
theorem chH_len {h : Hea} {c : Ch} : (chH h c).length = chN h.length c := by
  cases c with
  | make r => exact List.length_append
  | set a b v => exact List.length_set
/-- all but the count of records -/
structure HeaW (wide : Nat) (h : Hea) : Prop where
  ne : h ≠ []
  row : ∀ r ∈ h, r.length = wide ∧ ∀ v ∈ r, VaOk h.length v
theorem chH_ok {wide : Nat} {h : Hea} {c : Ch} (H : HeaW wide h) (hc : ChOk wide h.length c) : HeaW wide (chH h c) := by
  cases c with
  | make r =>
    refine ⟨by simp [chH], fun x hx => ?_⟩
    show x.length = wide ∧ ∀ v ∈ x, VaOk (h ++ [r]).length v
    rw [List.length_append, List.length_singleton]
    rcases List.mem_append.mp hx with e | e
    · exact ⟨(H.row x e).1, fun v hv => ((H.row x e).2 v hv).mono (Nat.le_succ _)⟩
    · rw [List.mem_singleton] at e; subst e; exact hc
  | set a b v =>
    obtain ⟨ha, hb, hv⟩ := hc
    refine ⟨fun z => H.ne (by have := congrArg List.length z; rw [chH_len] at this; exact List.eq_nil_of_length_eq_zero this), fun x hx => ?_⟩
    show x.length = wide ∧ ∀ u ∈ x, VaOk (h.set a ((rowAt h a).set b v)).length u
    rw [List.length_set]
    have hr := H.row _ (Hea.mem ha)
    rcases List.mem_or_eq_of_mem_set hx with e | e
    · exact H.row x e
    · subst e
      refine ⟨by rw [List.length_set]; exact hr.1, fun u hu => ?_⟩
      rcases List.mem_or_eq_of_mem_set hu with e | e
      · exact hr.2 u e
      · rw [e]; exact hv
theorem doneH_ok {wide : Nat} : ∀ {d : List Ch} {h : Hea}, HeaW wide h → DeedOk wide h.length d → HeaW wide (doneH h d)
  | [], _, H, _ => H
  | c :: d, h, H, hd => doneH_ok (d := d) (chH_ok H hd.1) (by rw [chH_len]; exact hd.2)
def S_l_as_done (ds : List D) (Q : D → Prop) : Prop := ∃ (h : Hea) (w : Nat) (d : List Ch), ds = [encH h, .lst (d.map Ch.enc)] ∧ HeaW w h ∧ w ≤ 6 ∧ DeedOk w h.length d ∧ h.length + d.length ≤ 100 ∧ Q (encH (doneH h d))
theorem len_l_as_done {ds : List D} {Q : D → Prop} (h : S_l_as_done ds Q) : ds.length = 2 := by obtain ⟨_, _, _, e, _⟩ := h; rw [e]; rfl
theorem mono_l_as_done : Mono S_l_as_done := fun ds P Q h ⟨d, m, e, n, l, x, p, q, k⟩ => ⟨d, m, e, n, l, x, p, q, h _ k⟩
/-! ### lists in a list -/
/-- the lists at `as` hold what `rows` tell, in a list at R; all of them are new -/
structure Nst (A : At) (H0 H : Hp) (R : Addr) (as : List Addr) (rows : List (List D)) : Prop where
  sm : Same H0 H
  rt : H R = some (.lst (as.map V.ref))
  r0 : H0 R = none
  ln : as.length = rows.length
  nd : as.Nodup
  nr : R ∉ as
  el : ∀ (i : Nat) (a : Addr), as[i]? = some a → H0 a = none ∧ ∃ xs ds, rows[i]? = some ds ∧ H a = some (.lst xs) ∧ RpL A xs ds
theorem Nst.add {A : At} {H0 H : Hp} {R : Addr} {as : List Addr} {rows : List (List D)} (N : Nst A H0 H R as rows) {a : Addr} {xs : List V} {ds : List D} (ha : H a = none) (r : RpL A xs ds) : Nst A H0 (upd (upd H a (.lst xs)) R (.lst (as.map V.ref ++ [.ref a]))) R (as ++ [a]) (rows ++ [ds]) := by
  have na : a ≠ R := fun z => by rw [z, N.rt] at ha; cases ha
  have nas : a ∉ as := fun z => by
    obtain ⟨i, hi, e⟩ := List.getElem_of_mem z
    obtain ⟨_, ys, _, _, h2, _⟩ := N.el i a (by rw [List.getElem?_eq_getElem hi, e])
    rw [h2] at ha; cases ha
  have h0a : H0 a = none := N.sm.free ha
  refine ⟨fun b o e => ?_, by rw [upd_same, List.map_append]; rfl, N.r0, by rw [List.length_append, List.length_append, N.ln]; rfl, ?_, ?_, fun i b hb => ?_⟩
  · rw [upd_ne (fun z => by rw [z, N.r0] at e; cases e), upd_ne (fun z => by rw [z, h0a] at e; cases e)]; exact N.sm b o e
  · rw [List.nodup_append]
    exact ⟨N.nd, by simp, fun x hx y hy => by rw [List.mem_singleton] at hy; rw [hy]; intro e; exact nas (e ▸ hx)⟩
  · intro z
    rcases List.mem_append.mp z with e | e
    · exact N.nr e
    · rw [List.mem_singleton] at e; exact na e.symm
  · by_cases hi : i < as.length
    · rw [List.getElem?_append_left hi] at hb
      obtain ⟨h1, ys, es, h2, h3, h4⟩ := N.el i b hb
      refine ⟨h1, ys, es, by rw [List.getElem?_append_left (by rw [← N.ln]; exact hi)]; exact h2, ?_, h4⟩
      rw [upd_ne (fun z => N.nr (by rw [← z]; exact List.mem_of_getElem? hb)), upd_ne (fun z => nas (by rw [← z]; exact List.mem_of_getElem? hb))]; exact h3
    · have h1 : i = as.length := by
        have := (List.getElem?_eq_some_iff.mp hb).1
        rw [List.length_append, List.length_singleton] at this; omega
      subst h1
      rw [List.getElem?_append_right (Nat.le_refl _), Nat.sub_self] at hb
      cases hb
      refine ⟨h0a, xs, ds, by rw [N.ln, List.getElem?_append_right (Nat.le_refl _), Nat.sub_self]; rfl, by rw [upd_ne na, upd_same], r⟩
theorem Nst.put {A : At} {H0 H : Hp} {R : Addr} {as : List Addr} {rows : List (List D)} (N : Nst A H0 H R as rows) {i : Nat} {a : Addr} {xs : List V} {ds : List D} (ha : as[i]? = some a) (r : RpL A xs ds) : Nst A H0 (upd H a (.lst xs)) R as (rows.set i ds) := by
  have ma := List.mem_of_getElem? ha
  have na : R ≠ a := fun z => N.nr (by rw [z]; exact ma)
  have h0 := (N.el i a ha).1
  refine ⟨fun b o e => by rw [upd_ne (fun z => by rw [z, h0] at e; cases e)]; exact N.sm b o e, by rw [upd_ne na]; exact N.rt, N.r0, by rw [List.length_set]; exact N.ln, N.nd, N.nr, fun j b hb => ?_⟩
  obtain ⟨h1, ys, es, h2, h3, h4⟩ := N.el j b hb
  by_cases hij : i = j
  · subst hij
    rw [ha] at hb; cases hb
    exact ⟨h1, xs, ds, by rw [List.getElem?_set_self (List.getElem?_eq_some_iff.mp h2).1], upd_same, r⟩
  · refine ⟨h1, ys, es, by rw [List.getElem?_set_ne hij]; exact h2, ?_, h4⟩
    rw [upd_ne (fun z => ?_)]; exact h3
    subst z
    exact hij ((List.getElem?_inj (List.getElem?_eq_some_iff.mp ha).1 N.nd).mp (ha.trans hb.symm))
theorem Nst.other {A : At} {H0 H : Hp} {R : Addr} {as : List Addr} {rows : List (List D)} (N : Nst A H0 H R as rows) {p : Addr} {o : HO} (h1 : p ≠ R) (h2 : p ∉ as) (h0 : H0 p = none) : Nst A H0 (upd H p o) R as rows :=
  ⟨fun b u e => by rw [upd_ne (ne_of_none e h0)]; exact N.sm b u e, by rw [upd_ne h1.symm]; exact N.rt, N.r0, N.ln, N.nd, N.nr, fun i a h => let ⟨g1, xs, ds, g2, g3, g4⟩ := N.el i a h; ⟨g1, xs, ds, g2, by rw [upd_ne (fun z => h2 (by rw [← z]; exact List.mem_of_getElem? h))]; exact g3, g4⟩⟩
theorem Nst.grow {A : At} {H0 H : Hp} {R : Addr} {as : List Addr} {rows : List (List D)} (N : Nst A H0 H R as rows) {p : Addr} {o : HO} (hp : H p = none) : Nst A H0 (upd H p o) R as rows := by
  have n1 : ∀ {b u}, H b = some u → b ≠ p := fun e z => by rw [z, hp] at e; cases e
  exact ⟨fun b u e => by rw [upd_ne (n1 (N.sm b u e))]; exact N.sm b u e, by rw [upd_ne (n1 N.rt)]; exact N.rt, N.r0, N.ln, N.nd, N.nr, fun i a h => let ⟨h1, xs, ds, h2, h3, h4⟩ := N.el i a h; ⟨h1, xs, ds, h2, by rw [upd_ne (n1 h3)]; exact h3, h4⟩⟩
def rowsD (h : Hea) : List (List D) := h.map fun r => r.map Va.enc
def doneTS (K : PySem.W.Frag) : TS :=
  tSeq (tAsg (tLc (iTup K (tVar 0)) (gName 4) tYes (tCB (rListOf K) (tCons (tVar 4) tNil)) [4]) (gName 2))
  (tSeq (tFor (iList K (tVar 1)) (gName 3)
    (tIfS (tTest (tOp rEq (tOp (rIx K) (tVar 3) (tC (V.int 0))) (tC (V.str "make"))))
      (tDrop (tBM K "list" rAppend (tVar 2) (tCons (tCB (rListOf K) (tCons (tOp (rIx K) (tVar 3) (tC (V.int 1))) tNil)) tNil)))
      (tAsg (tOp (rIx K) (tVar 3) (tC (V.int 3))) (gSub (tOp (rIx K) (tVar 2) (tOp (rIx K) (tVar 3) (tC (V.int 1)))) (tOp (rIx K) (tVar 3) (tC (V.int 2))) rSetL))))
   (tRet (tCB (rTupleOf K) (tCons (tLc (iList K (tVar 2)) (gName 4) tYes (tCB (rTupleOf K) (tCons (tVar 4) tNil)) [4]) tNil))))
theorem Rp.tupAt {O : Addr → Prop} {H : Hp} {v : V} {ds : List D} (r : Rp (Sh O H) v (.tup ds)) : ∃ b xs, v = .ref b ∧ Rd H b (.tup xs) ∧ RpL (Sh O H) xs ds := by
  cases r with
  | tup e r => exact ⟨_, _, rfl, rk_tup e.1, r⟩
theorem rd_ix {K : PySem.W.Frag} {H : Hp} {b : Addr} {xs : List V} {i : Nat} {v : V} {Q : VK} (e : Rd H b (.tup xs)) (h : xs[i]? = some v) (q : Q v H) : rIx K (.ref b) (.int (i : Int)) H Q := by
  refine .inr (.inl ⟨b, xs, _, v, rfl, rfl, sqT e, ?_, q⟩)
  unfold atI
  rw [ixN_nat (List.getElem?_eq_some_iff.mp h).1]; exact h
theorem done_app (h : Hea) (d : List Ch) (c : Ch) : doneH h (d ++ [c]) = chH (doneH h d) c := by unfold doneH; rw [List.foldl_append]; rfl
theorem take_one {α : Type} {l : List α} {i : Nat} {x : α} (h : l[i]? = some x) : l.take (i + 1) = l.take i ++ [x] := by rw [List.take_succ, h]; rfl
theorem drop_one {α : Type} {l : List α} {i : Nat} {x : α} (h : l[i]? = some x) : l.drop i = x :: l.drop (i + 1) := by
  obtain ⟨hi, e⟩ := List.getElem?_eq_some_iff.mp h
  rw [List.drop_eq_getElem_cons hi, e]
theorem chN_le (m : Nat) (c : Ch) : chN m c ≤ m + 1 := by cases c <;> simp [chN]
/-- the def, over what its arguments tell -/
theorem done_wp {K : PySem.W.Frag} {Oc : Addr → Prop} {H : Hp} {a0 a1 : Addr} {xs0 xs1 : List V} {h : Hea} {d : List Ch} {wide : Nat} {nx : L2.St → Hp → Prop} {Q : VK}
    (e0 : Rd H a0 (.tup xs0)) (q0 : RpL (Sh Oc H) xs0 (h.map encR)) (e1 : H a1 = some (.lst xs1)) (q1 : RpL (Sh Oc H) xs1 (d.map Ch.enc)) (HW : HeaW wide h) (h6 : wide ≤ 6) (hd : DeedOk wide h.length d) (hn : h.length + d.length ≤ 100)
    (tr : ∀ b, Oc b → H b ≠ none) (fin : ∀ v H', Same H H' → Rp (Sh Oc H') v (encH (doneH h d)) → Q v H') :
    doneTS K { nx := nx, rt := Q } [some (.ref a0), some (.ref a1), none, none, none] H := by
  refine ⟨_, rfl, a0, rfl, ⟨xs0, sqT e0⟩, fun R hR => ?_⟩
  refine lc_tup (K := K) (a := a0) (xs := xs0) (fun i H1 => ∃ as, Nst (Sh Oc H) H H1 R as (rowsD (h.take i)) ∧ i ≤ h.length) ⟨[], ⟨fun b o e => by rw [upd_ne (ne_of_none e hR)]; exact e, upd_same, hR, rfl, List.nodup_nil, (fun z => nomatch z), (fun i a z => nomatch z)⟩, Nat.zero_le _⟩ (fun i H1 _ ⟨as, N, _⟩ => sqT (rdS N.sm e0)) ?_ ?_
  · rintro i x H1 hx ⟨as, N, _⟩
    obtain ⟨dd, hdd, rx⟩ := q0.getV hx
    rw [List.getElem?_map] at hdd
    cases hr : h[i]? with
    | none => rw [hr] at hdd; cases hdd
    | some r =>
      rw [hr] at hdd
      cases hdd
      obtain ⟨b, ys, rfl, eb, rb⟩ := Rp.tupAt rx
      refine ⟨rfl, ?_⟩
      dsimp only [tYes]
      rw [if_pos rfl]
      refine ⟨_, rfl, b, ys, rfl, .inr (sqT (rdS N.sm eb)), fun l hl => ?_⟩
      have nl : R ≠ l := fun z => by rw [← z, N.rt] at hl; cases hl
      have hi := (List.getElem?_eq_some_iff.mp hr).1
      have hlen : as.length = i := by rw [N.ln]; unfold rowsD; rw [List.length_map, List.length_take]; omega
      refine ⟨as.map V.ref, by rw [upd_ne nl]; exact N.rt, by rw [List.length_map, hlen, sizeLine_eq]; omega, as ++ [l], ?_, hi⟩
      rw [take_one hr]
      unfold rowsD
      rw [List.map_append]
      exact N.add hl rb
  · rintro H1 ⟨as, N, _⟩
    have hl0 : xs0.length = h.length := by rw [q0.length, List.length_map]
    rw [hl0, List.take_length] at N
    refine ⟨_, rfl, a1, rfl, ⟨xs1, sqL (N.sm _ _ e1)⟩, ?_⟩
    refine for_list (K := K) (a := a1) (xs := xs1) (fun i σ' H' => ∃ as c3 c4, σ' = [some (.ref a0), some (.ref a1), some (.ref R), c3, c4] ∧ Nst (Sh Oc H) H H' R as (rowsD (doneH h (d.take i))) ∧ HeaW wide (doneH h (d.take i)) ∧ DeedOk wide (doneH h (d.take i)).length (d.drop i) ∧ (doneH h (d.take i)).length ≤ h.length + i ∧ i ≤ d.length) ⟨as, none, none, rfl, N, HW, hd, Nat.le_refl _, Nat.zero_le _⟩ (fun i σ' H' _ ⟨as, c3, c4, _, N, _⟩ => sqL (N.sm _ _ e1)) ?_ ?_
    · rintro i x σ' H' hx ⟨as, c3, c4, rfl, N, HW', hd', hl, _⟩
      obtain ⟨dd, hdd, rx⟩ := q1.getV hx
      rw [List.getElem?_map] at hdd
      cases hc : d[i]? with
      | none => rw [hc] at hdd; cases hdd
      | some c =>
        rw [hc] at hdd
        cases hdd
        have hi := (List.getElem?_eq_some_iff.mp hc).1
        rw [drop_one hc] at hd'
        have hk := chH_ok HW' hd'.1
        have hcl := chN_le (doneH h (d.take i)).length c
        have hal : as.length = (doneH h (d.take i)).length := by rw [N.ln]; unfold rowsD; rw [List.length_map]
        have rest : HeaW wide (doneH h (d.take (i + 1))) ∧ DeedOk wide (doneH h (d.take (i + 1))).length (d.drop (i + 1)) ∧ (doneH h (d.take (i + 1))).length ≤ h.length + (i + 1) ∧ i + 1 ≤ d.length := by
          rw [take_one hc, done_app]
          exact ⟨hk, by rw [chH_len]; exact hd'.2, by rw [chH_len]; omega, hi⟩
        cases c with
        | make r =>
          obtain ⟨b, ys, rfl, eb, rb⟩ := Rp.tupAt rx
          cases rb with
          | cons r0 rb =>
            cases r0
            cases rb with
            | @cons v1 _ _ _ r1 rb =>
              cases rb
              obtain ⟨b1, zs, rfl, eb1, rb1⟩ := Rp.tupAt r1
              refine ⟨_, rfl, rd_ix (i := 0) (rdS N.sm eb) rfl ⟨rfl, _, rfl, iteT' (decide_eq_true rfl) ?_⟩⟩
              refine ⟨_, rfl, .inl ⟨rfl, _, sqL N.rt⟩, ⟨_, rfl, rd_ix (i := 1) (rdS N.sm eb) rfl ⟨b1, zs, rfl, .inr (sqT (rdS N.sm eb1)), fun l hl => ?_⟩⟩⟩
              have nl : R ≠ l := fun z => by rw [← z, N.rt] at hl; cases hl
              refine ⟨R, as.map V.ref, _, rfl, rfl, by rw [upd_ne nl]; exact N.rt, by rw [List.length_map, sizeLine_eq]; omega, as ++ [l], _, _, rfl, ?_, rest⟩
              rw [take_one hc, done_app]
              unfold rowsD
              show Nst _ _ _ _ _ (((doneH h (d.take i)) ++ [r]).map fun r => r.map Va.enc)
              rw [List.map_append]
              exact N.add hl rb1
        | set p q v =>
          obtain ⟨b, ys, rfl, eb, rb⟩ := Rp.tupAt rx
          cases rb with
          | cons r0 rb =>
            cases r0
            cases rb with
            | cons r1 rb =>
              cases r1
              cases rb with
              | cons r2 rb =>
                cases r2
                cases rb with
                | @cons v3 _ _ _ r3 rb =>
                  cases rb
                  obtain ⟨⟨hp, hq, hv⟩, _⟩ := hd'
                  have ha : as[p]? = some (as[p]'(by omega)) := List.getElem?_eq_getElem (by omega)
                  generalize as[p]'(by omega) = aa at ha
                  obtain ⟨_, zs, ds, hds, eaa, raa⟩ := N.el p aa ha
                  have hrow : ds = (rowAt (doneH h (d.take i)) p).map Va.enc := by
                    unfold rowsD at hds
                    rw [List.getElem?_map, Hea.get hp] at hds
                    exact (Option.some.inj hds).symm
                  subst hrow
                  have hzl : zs.length = wide := by rw [raa.length, List.length_map]; exact (HW'.row _ (Hea.mem hp)).1
                  refine ⟨_, rfl, rd_ix (i := 0) (rdS N.sm eb) rfl ⟨rfl, _, rfl, iteF' (by decide) ?_⟩⟩
                  refine ⟨_, rfl, rd_ix (i := 3) (rdS N.sm eb) rfl ?_⟩
                  refine ⟨_, rfl, _, rfl, rd_ix (i := 1) (rdS N.sm eb) rfl (.inl ⟨R, as.map V.ref, _, .ref aa, rfl, rfl, sqL N.rt, ?_, ?_⟩)⟩
                  · unfold atI
                    rw [List.length_map, ixN_nat (by omega)]
                    show (as.map V.ref)[p]? = _
                    rw [List.getElem?_map, ha]; rfl
                  · refine ⟨_, rfl, rd_ix (i := 2) (rdS N.sm eb) rfl ⟨aa, zs, _, q, rfl, rfl, eaa, ixN_nat (by omega), as, _, _, rfl, ?_, rest⟩⟩
                    rw [take_one hc, done_app]
                    unfold rowsD
                    show Nst _ _ _ _ _ (((doneH h (d.take i)).set p ((rowAt (doneH h (d.take i)) p).set q v)).map fun r => r.map Va.enc)
                    rw [List.map_set, List.map_set]
                    exact N.put ha (raa.set q r3)
    · rintro σ' H' ⟨as, c3, c4, rfl, N, HW', _, hl, _⟩
      have hl1 : xs1.length = d.length := by rw [q1.length, List.length_map]
      rw [hl1, List.take_length] at N hl
      have hal : as.length = (doneH h d).length := by rw [N.ln]; unfold rowsD; rw [List.length_map]
      refine ⟨_, rfl, R, rfl, ⟨_, sqL N.rt⟩, fun E hE => ?_⟩
      have nER : E ≠ R := fun z => by rw [z, N.rt] at hE; cases hE
      have nEas : E ∉ as := fun z => by
        obtain ⟨i, hi, e⟩ := List.getElem_of_mem z
        obtain ⟨_, ys, _, _, h2, _⟩ := N.el i E (by rw [List.getElem?_eq_getElem hi, e])
        rw [h2] at hE; cases hE
      have h0E : H E = none := N.sm.free hE
      have nOE : ¬ Oc E := fun z => tr E z h0E
      refine lc_list (K := K) (a := R) (xs := as.map V.ref) (fun i H2 => Nst (Sh Oc H) H H2 R as (rowsD (doneH h d)) ∧ i ≤ as.length ∧ ∃ acc, H2 E = some (.lst acc) ∧ acc.length = i ∧ RpL (Sh (fun b => Oc b ∨ b = E) H2) acc (((doneH h d).take i).map encR)) ⟨N.other nER nEas h0E, Nat.zero_le _, [], upd_same, rfl, .nil⟩ (fun i H2 _ ⟨N2, _⟩ => sqL N2.rt) ?_ ?_
      · rintro i x H2 hx ⟨N2, _, acc, eE, la, ra⟩
        rw [List.getElem?_map] at hx
        cases ha : as[i]? with
        | none => rw [ha] at hx; cases hx
        | some aa =>
          rw [ha] at hx
          cases hx
          have hi := (List.getElem?_eq_some_iff.mp ha).1
          obtain ⟨_, zs, ds, hds, eaa, raa⟩ := N2.el i aa ha
          have hrow : ds = (rowAt (doneH h d) i).map Va.enc := by
            unfold rowsD at hds
            rw [List.getElem?_map, Hea.get (by omega)] at hds
            exact (Option.some.inj hds).symm
          subst hrow
          refine ⟨rfl, ?_⟩
          dsimp only [tYes]
          rw [if_pos rfl]
          refine ⟨_, rfl, aa, zs, rfl, .inl ⟨sqL eaa, fun l hl' => ?_⟩⟩
          have nlE : E ≠ l := fun z => by rw [← z, eE] at hl'; cases hl'
          have h0l : H l = none := N2.sm.free hl'
          have nlR : l ≠ R := fun z => by rw [z, N2.rt] at hl'; cases hl'
          have nlas : l ∉ as := fun z => by
            obtain ⟨j, hj, e⟩ := List.getElem_of_mem z
            obtain ⟨_, ys, _, _, h2, _⟩ := N2.el j l (by rw [List.getElem?_eq_getElem hj, e])
            rw [h2] at hl'; cases hl'
          have le : LeA (Sh (fun b => Oc b ∨ b = E) H2) (Sh (fun b => Oc b ∨ b = E) (upd (upd H2 l (.tup zs)) E (.lst (acc ++ [.ref l])))) := fun b u ⟨hb, nb⟩ => ⟨rd_upd (fun z => nb (.inr z)) (rd_upd (rd_ne hb hl') hb), nb⟩
          refine ⟨acc, by rw [upd_ne nlE]; exact eE, by rw [la, sizeLine_eq]; omega, (N2.other nlR nlas h0l).other nER nEas h0E, hi, acc ++ [.ref l], upd_same, by rw [List.length_append, la]; rfl, ?_⟩
          have hrow : (doneH h d)[i]? = some (rowAt (doneH h d) i) := Hea.get (by omega)
          rw [take_one hrow, List.map_append]
          refine (ra.mono le).append (.cons (.tup ⟨.inl (by rw [upd_ne nlE.symm, upd_same]), fun z => z.elim (fun z => tr l z h0l) nlE.symm⟩ (raa.mono fun b u ⟨hb, nb⟩ => ⟨?_, fun z => z.elim nb fun z => ?_⟩)) .nil)
          · exact rd_upd (fun z => rd_ne hb h0E z) (rd_upd (rd_ne hb h0l) (rd_mv (fun o e => N2.sm b o e) hb))
          · exact rd_ne hb h0E z
      · rintro H2 ⟨N2, _, acc, eE, la, ra⟩
        have hl3 : (as.map V.ref).length = (doneH h d).length := by rw [List.length_map, hal]
        rw [hl3, List.take_length] at ra
        refine ⟨E, acc, rfl, .inl ⟨sqL eE, fun l hl' => fin _ _ (fun b o e => by rw [upd_ne (ne_of_none (N2.sm b o e) hl')]; exact N2.sm b o e) ?_⟩⟩
        exact .tup ⟨.inl upd_same, fun z => tr l z (N2.sm.free hl')⟩ (ra.mono fun b u ⟨hb, nb⟩ => ⟨rd_upd (rd_ne hb hl') hb, fun z => nb (.inl z)⟩)
section
variable {P : Program} {w : World} {K : PySem.W.Frag} {mg : Str → Option Value} {base : Heap} {f : Addr} {fd : FuncData}
end
end Law

namespace Law
open PySem PySem.Spec PyProof.Rows L2 PL
local macro_rules | `(tactic| walk_at "pl") => `(tactic| simp only [sRet, sRetN, sSeq, sNext, sNever, sSet, sPar, sIf, sDrop, sFor, sApp, sAug, sAugIx, sPutD, mAndV, mOrV, mNotV, mAnd, mOr, mNot, mB, mIf, mTru, mCB, mCL, mCall, mC, mVar, mRd, aCons, aNil, mTup, mLst, mLc, mLcK, mOwn, mDat, m2, ml2, mNeg, mChain, iT, iL, kIsi, kIx, kI, kIc, kIsN, kEqS, kLen, kTuple, kList, kInt1, kRepL, sForL, mLcL, iR1, kMin2,  env0, wipeE, frz, unOwn, gN, List.length_cons, List.length_nil, List.map_cons, List.map_nil, List.replicate, List.cons_append, List.nil_append, List.append_nil, List.getElem?_cons_zero, List.getElem?_cons_succ, Nat.sub_self, Nat.reduceAdd, Nat.reduceSub, D.ty, D.isN, D.tru, if_true, if_false, Bool.false_eq_true, List.set, id])
def S_l_draw := SDr
theorem mono_l_draw (tok : V) : Mono (S_l_draw tok) := mono_dr tok
def S_l_pick (tok : V) (ds : List D) (Q : D → Prop) : Prop := ∃ l : List D, ds = [.opq tok, .lst l] ∧ l ≠ [] ∧ l.length < 1000000 ∧ ∀ d ∈ l, Q d
def S_l_as_value (tok : V) (ds : List D) (Q : D → Prop) : Prop := ∃ m : Nat, ds = [.opq tok, .int m] ∧ 0 < m ∧ m < 1000000 ∧ ∀ v : Va, VaOk m v → Q v.enc
/-- made records -/
def mks : List Ch → Nat
  | [] => 0
  | .make _ :: d => mks d + 1
  | .set _ _ _ :: d => mks d
def S_l_as_deed (tok : V) (ds : List D) (Q : D → Prop) : Prop := ∃ w m t : Nat, ds = [.opq tok, .int w, .int m, .int t] ∧ 1 ≤ w ∧ w ≤ 4 ∧ 0 < m ∧ m ≤ 1000 ∧ t ≤ 7 ∧ ∀ d : List Ch, d.length ≤ t → DeedOk w m d → Q (.lst (d.map Ch.enc))
/-- a version: its parent, its deed -/
abbrev Ver := Nat × List Ch
def Ver.enc (v : Ver) : D := .tup [.int v.1, .lst (v.2.map Ch.enc)]
/-- a story, its sizes known -/
def StoryOk (w t : Nat) : List Nat → List Ver → Prop
  | _, [] => True
  | s, (p, d) :: r => p < s.length ∧ d.length ≤ t ∧ DeedOk w (s[p]?.getD 0) d ∧ StoryOk w t (s ++ [s[p]?.getD 0 + mks d]) r
def S_l_as_story (tok : V) (ds : List D) (Q : D → Prop) : Prop := ∃ w n t : Nat, ds = [.opq tok, .int w, .int n, .int t] ∧ 1 ≤ w ∧ w ≤ 4 ∧ 0 ≤ n ∧ n ≤ 9 ∧ t ≤ 6 ∧ ∀ s : List Ver, s.length = n → StoryOk w t [1] s → Q (.lst (s.map Ver.enc))
def rootH (w : Nat) : Hea := [List.replicate w .non]
def heapsFrom (hs : List Hea) (s : List Ver) : List Hea := s.foldl (fun hs v => hs ++ [doneH (hs[v.1]?.getD []) v.2]) hs
def S_l_as_heaps (ds : List D) (Q : D → Prop) : Prop := ∃ (w t : Nat) (s : List Ver), ds = [.int w, .lst (s.map Ver.enc)] ∧ 1 ≤ w ∧ w ≤ 4 ∧ t ≤ 6 ∧ s.length ≤ 9 ∧ StoryOk w t [1] s ∧ Q (.lst ((heapsFrom [rootH w] s).map encH))
def S_l_as_is_to (ds : List D) (Q : D → Prop) : Prop := ∃ v : Va, ds = [v.enc] ∧ Q (.bl v.isP)
def S_l_as_met (ds : List D) (Q : D → Prop) : Prop := ∃ (h : Hea) (w : Nat), ds = [encH h] ∧ HeaOk w h ∧ Q (.lst (encN (met h)))
def S_l_as_seen (ds : List D) (Q : D → Prop) : Prop := ∃ (h : Hea) (w : Nat), ds = [encH h] ∧ HeaOk w h ∧ Q (encH (seenH h))
theorem atI_nat {α : Type} {l : List α} {i : Nat} {d : α} (h : l[i]? = some d) : atI l (i : Int) = some d := by
  unfold atI
  rw [ixN_nat (List.getElem?_eq_some_iff.mp h).1]; exact h
theorem draw_any {tok : V} {z : Int} {n : Nat} {Q : D → Prop} (e : z = (n : Int)) (h0 : 0 < n) (h1 : n < 10000000) (q : ∀ k : Nat, k < n → Q (.int (k : Int))) : S_l_draw tok [.opq tok, .int z] Q := by
  subst e
  refine ⟨n, rfl, by omega, by rw [Int.natAbs_natCast]; omega, fun k a b => ?_⟩
  obtain ⟨j, rfl⟩ := Int.eq_ofNat_of_zero_le a
  exact q j (by omega)
theorem rows_of {p : Va → Prop} : ∀ {ys : List D}, (∀ y ∈ ys, ∃ v, p v ∧ y = Va.enc v) → ∃ r : Row, ys = r.map Va.enc ∧ ∀ v ∈ r, p v
  | [], _ => ⟨[], rfl, fun _ z => nomatch z⟩
  | y :: ys, h => by
    obtain ⟨v, hv, e⟩ := h y List.mem_cons_self
    obtain ⟨r, e2, h2⟩ := rows_of (ys := ys) fun z hz => h z (List.mem_cons_of_mem _ hz)
    exact ⟨v :: r, by rw [e, e2]; rfl, fun u hu => (List.mem_cons.mp hu).elim (fun q => by rw [q]; exact hv) (h2 u)⟩
theorem mks_app : ∀ (d : List Ch) (c : Ch), mks (d ++ [c]) = mks d + mks [c]
  | [], c => (Nat.zero_add _).symm
  | .make r :: d, c => by show mks (d ++ [c]) + 1 = mks d + 1 + mks [c]; rw [mks_app d c]; omega
  | .set a b v :: d, c => mks_app d c
theorem deed_app {w : Nat} : ∀ {d : List Ch} {m : Nat} {c : Ch}, DeedOk w m d → ChOk w (m + mks d) c → DeedOk w m (d ++ [c])
  | [], m, c, _, hc => ⟨hc, trivial⟩
  | .make r :: d, m, c, h, hc => ⟨h.1, deed_app (d := d) h.2 (by show ChOk w (m + 1 + mks d) c; rw [show m + 1 + mks d = m + (mks d + 1) by omega]; exact hc)⟩
  | .set a b v :: d, m, c, h, hc => ⟨h.1, deed_app (d := d) h.2 hc⟩
theorem mks_le : ∀ d : List Ch, mks d ≤ d.length
  | [] => Nat.le_refl _
  | .make r :: d => Nat.succ_le_succ (mks_le d)
  | .set a b v :: d => Nat.le_succ_of_le (mks_le d)
theorem done_len : ∀ (d : List Ch) (h : Hea), (doneH h d).length = h.length + mks d
  | [], h => rfl
  | .make r :: d, h => by show (doneH (h ++ [r]) d).length = h.length + (mks d + 1); rw [done_len d, List.length_append, List.length_singleton]; omega
  | .set a b v :: d, h => by show (doneH (h.set a _) d).length = h.length + mks d; rw [done_len d, List.length_set]
def szs (s0 : List Nat) (s : List Ver) : List Nat := s.foldl (fun s v => s ++ [s[v.1]?.getD 0 + mks v.2]) s0
theorem szs_len : ∀ (s : List Ver) (s0 : List Nat), (szs s0 s).length = s0.length + s.length
  | [], s0 => rfl
  | v :: s, s0 => by show (szs (s0 ++ [_]) s).length = _; rw [szs_len s, List.length_append, List.length_singleton, List.length_cons]; omega
theorem szs_app (s : List Ver) (s0 : List Nat) (v : Ver) : szs s0 (s ++ [v]) = szs s0 s ++ [(szs s0 s)[v.1]?.getD 0 + mks v.2] := by unfold szs; rw [List.foldl_append]; rfl
theorem story_app {w t : Nat} : ∀ {s : List Ver} {s0 : List Nat} {p : Nat} {d : List Ch}, StoryOk w t s0 s → p < (szs s0 s).length → d.length ≤ t → DeedOk w ((szs s0 s)[p]?.getD 0) d → StoryOk w t s0 (s ++ [(p, d)])
  | [], s0, p, d, _, h1, h2, h3 => ⟨h1, h2, h3, trivial⟩
  | (q, e) :: s, s0, p, d, h, h1, h2, h3 => ⟨h.1, h.2.1, h.2.2.1, story_app (s := s) h.2.2.2 h1 h2 h3⟩
theorem foldl_map {α β : Type} (f : α → β) : ∀ (l : List α) (a : List β), l.foldl (fun acc x => acc ++ [f x]) a = a ++ l.map f
  | [], a => (List.append_nil a).symm
  | x :: l, a => by rw [List.foldl_cons, foldl_map f l, List.map_cons, List.append_assoc]; rfl
theorem encN_int (o : List Nat) : encN o = (o.map fun k : Nat => (k : Int)).map D.int := by unfold encN; rw [List.map_map]; rfl
theorem mem_cast {o : List Nat} {j : Nat} : ((j : Int) ∈ o.map fun k : Nat => (k : Int)) ↔ j ∈ o := by
  rw [List.mem_map]
  exact ⟨fun ⟨a, h, e⟩ => by rw [show j = a by omega]; exact h, fun h => ⟨j, h, rfl⟩⟩
theorem idx_cast : ∀ (o : List Nat) (j : Nat), (o.map fun k : Nat => (k : Int)).idxOf (j : Int) = o.idxOf j
  | [], _ => rfl
  | k :: o, j => by
    rw [List.map_cons, List.idxOf_cons, List.idxOf_cons, idx_cast o j]
    by_cases e : k = j
    · subst e; simp
    · rw [show (k == j) = false from beq_false_of_ne e, show ((k : Int) == (j : Int)) = false from beq_false_of_ne (by omega)]
theorem heaps_app (hs : List Hea) (s : List Ver) (v : Ver) : heapsFrom hs (s ++ [v]) = heapsFrom hs s ++ [doneH ((heapsFrom hs s)[v.1]?.getD []) v.2] := by unfold heapsFrom; rw [List.foldl_append]; rfl
theorem root_ok {w : Nat} : HeaW w (rootH w) := ⟨fun z => (nomatch z), fun r hr => by
  rw [show rootH w = [List.replicate w .non] from rfl, List.mem_singleton] at hr
  subst hr
  exact ⟨List.length_replicate, fun v hv => by rw [List.eq_of_mem_replicate hv]; trivial⟩⟩
/-- what is known of the heaps of a story -/
structure HsOk (w t i : Nat) (hs : List Hea) (rest : List Ver) : Prop where
  st : StoryOk w t (hs.map List.length) rest
  hw : ∀ h ∈ hs, HeaW w h ∧ h.length ≤ 1 + 6 * i
  ln : hs.length = i + 1
theorem HsOk.step {w t i p : Nat} {hs : List Hea} {rest : List Ver} {d : List Ch} (H : HsOk w t i hs ((p, d) :: rest)) (ht : t ≤ 6) : p < hs.length ∧ DeedOk w (hs[p]?.getD []).length d ∧ d.length ≤ 6 ∧ HeaW w (hs[p]?.getD []) ∧ (hs[p]?.getD []).length ≤ 1 + 6 * i ∧ HsOk w t (i + 1) (hs ++ [doneH (hs[p]?.getD []) d]) rest := by
  obtain ⟨h1, h2, h3, h4⟩ := H.st
  rw [List.length_map] at h1
  have hg : hs[p]? = some (hs[p]) := List.getElem?_eq_getElem h1
  have hm := H.hw _ (List.getElem_mem h1)
  generalize hs[p] = g at hg hm
  rw [List.getElem?_map, hg] at h3 h4
  rw [hg]
  have hk := mks_le d
  have hl := done_len d g
  refine ⟨h1, h3, by omega, hm.1, hm.2, ⟨?_, fun h hh => ?_, by rw [List.length_append, H.ln]; rfl⟩⟩
  · rw [List.map_append]
    show StoryOk w t (hs.map List.length ++ [(doneH g d).length]) rest
    rw [hl]; exact h4
  · rcases List.mem_append.mp hh with e | e
    · have := H.hw h e
      exact ⟨this.1, by omega⟩
    · rw [List.mem_singleton] at e
      subst e
      exact ⟨doneH_ok hm.1 h3, by show (doneH g d).length ≤ _; omega⟩
theorem hs_all {w t : Nat} {s : List Ver} (ok : StoryOk w t [1] s) (ht : t ≤ 6) : ∀ i, i ≤ s.length → HsOk w t i (heapsFrom [rootH w] (s.take i)) (s.drop i)
  | 0, _ => ⟨ok, fun h hh => by rw [show heapsFrom [rootH w] (s.take 0) = [rootH w] from rfl, List.mem_singleton] at hh; subst hh; exact ⟨root_ok, Nat.le_refl _⟩, rfl⟩
  | i + 1, hi => by
    have ih := hs_all ok ht i (by omega)
    have hg : s[i]? = some (s[i]) := List.getElem?_eq_getElem (by omega)
    generalize s[i] = v at hg
    rw [drop_one hg] at ih
    rw [take_one hg, heaps_app]
    exact (HsOk.step (p := v.1) (d := v.2) ih ht).2.2.2.2.2
theorem len_l_pick {tok : V} {ds : List D} {Q : D → Prop} (h : S_l_pick tok ds Q) : ds.length = 2 := by obtain ⟨_, e, _⟩ := h; rw [e]; rfl
theorem len_l_as_value {tok : V} {ds : List D} {Q : D → Prop} (h : S_l_as_value tok ds Q) : ds.length = 2 := by obtain ⟨_, e, _⟩ := h; rw [e]; rfl
theorem len_l_as_deed {tok : V} {ds : List D} {Q : D → Prop} (h : S_l_as_deed tok ds Q) : ds.length = 4 := by obtain ⟨_, _, _, e, _⟩ := h; rw [e]; rfl
theorem len_l_as_story {tok : V} {ds : List D} {Q : D → Prop} (h : S_l_as_story tok ds Q) : ds.length = 4 := by obtain ⟨_, _, _, e, _⟩ := h; rw [e]; rfl
theorem len_l_as_heaps {ds : List D} {Q : D → Prop} (h : S_l_as_heaps ds Q) : ds.length = 2 := by obtain ⟨_, _, _, e, _⟩ := h; rw [e]; rfl
theorem len_l_as_is_to {ds : List D} {Q : D → Prop} (h : S_l_as_is_to ds Q) : ds.length = 1 := by obtain ⟨_, e, _⟩ := h; rw [e]; rfl
theorem len_l_as_met {ds : List D} {Q : D → Prop} (h : S_l_as_met ds Q) : ds.length = 1 := by obtain ⟨_, _, e, _⟩ := h; rw [e]; rfl
theorem len_l_as_seen {ds : List D} {Q : D → Prop} (h : S_l_as_seen ds Q) : ds.length = 1 := by obtain ⟨_, _, e, _⟩ := h; rw [e]; rfl
theorem mono_l_pick (tok : V) : Mono (S_l_pick tok) := fun ds P Q h ⟨d, e, n, l, k⟩ => ⟨d, e, n, l, fun x hx => h _ (k x hx)⟩
theorem mono_l_as_value (tok : V) : Mono (S_l_as_value tok) := fun ds P Q h ⟨d, e, n, l, k⟩ => ⟨d, e, n, l, fun x hx => h _ (k x hx)⟩
theorem mono_l_as_deed (tok : V) : Mono (S_l_as_deed tok) := fun ds P Q h ⟨d, e, n, a1, a2, a3, a4, a5, a6, k⟩ => ⟨d, e, n, a1, a2, a3, a4, a5, a6, fun x h1 h2 => h _ (k x h1 h2)⟩
theorem mono_l_as_story (tok : V) : Mono (S_l_as_story tok) := fun ds P Q h ⟨d, e, n, a1, a2, a3, a4, a5, a6, k⟩ => ⟨d, e, n, a1, a2, a3, a4, a5, a6, fun x h1 h2 => h _ (k x h1 h2)⟩
theorem mono_l_as_heaps : Mono S_l_as_heaps := fun ds P Q h ⟨a, b, c, d, e, f, g, i, j, k⟩ => ⟨a, b, c, d, e, f, g, i, j, h _ k⟩
theorem mono_l_as_is_to : Mono S_l_as_is_to := fun ds P Q h ⟨d, e, k⟩ => ⟨d, e, h _ k⟩
theorem mono_l_as_met : Mono S_l_as_met := fun ds P Q h ⟨d, m, e, n, k⟩ => ⟨d, m, e, n, h _ k⟩
theorem mono_l_as_seen : Mono S_l_as_seen := fun ds P Q h ⟨d, m, e, n, k⟩ => ⟨d, m, e, n, h _ k⟩
section
variable {P : Program} {w : World} {K : PySem.W.Frag} {mg : Str → Option Value} {base : Heap} {f : Addr} {fd : FuncData}
theorem ok_l_pick {k : Nat} (F : Fun K "_law_pick" "_law_pick" s_l_pick f fd) (T : Bt mg) (P_l_draw : Pr P w K mg base "_law_draw" k ["state", "size_here"] (spT StW 1 S_l_draw)) : FnOk P w K mg base CX0 (k + 1) f fd ["state", "several"] (spT StW 1 S_l_pick) := by
  refine pl_okT F sc_l_pick (fun tok ds Q h => ?_) fun cdv A outer s H E hr => ?_
  · exact len_l_pick h
  have hu := hu_of hr
  refine ⟨_, (pss_one (ps_ret (pe_ix (show IxR _ (rIx K) from ix_seq) (pv 1) (pe_callP P_l_draw hr rfl (pa_cons (pv 0) (pa_cons (pe_callB (r := fun xs H Q => ∃ x n, xs = [x] ∧ LenV K x H n ∧ Q (.int n) H) call_len (by rfl) T.len PySem.boot_len (pa_cons (pv 1) pa_nil)) pa_nil))) (fun _ _ => rfl)))), fun tok => ⟨_, _, (ss_ret (se_op sr_var (SE.r (se_callT tok (sa_cons se_var (sa_cons (se_cb (sar_cons sr_var sar_nil) kc_len) sa_nil)) (mono_l_draw tok))) k2_ix)), by decide, fun ds Q h => ?_⟩⟩
  obtain ⟨l, rfl, hne, hl, q⟩ := h
  walk_at "pl"
  refine draw_any (n := l.length) rfl (List.length_pos_iff.mpr hne) (by omega) fun k hk => ?_
  show match atI l (k : Int) with | some d => Q d | none => False
  rw [atI_nat (List.getElem?_eq_getElem hk)]
  exact q _ (List.getElem_mem hk)

end
end Law

namespace Law
open PySem PySem.Spec PyProof.Rows L2 PL
local macro_rules | `(tactic| walk_at "pl") => `(tactic| simp only [sRet, sRetN, sSeq, sNext, sNever, sSet, sPar, sIf, sDrop, sFor, sApp, sAug, sAugIx, sPutD, mAndV, mOrV, mNotV, mAnd, mOr, mNot, mB, mIf, mTru, mCB, mCL, mCall, mC, mVar, mRd, aCons, aNil, mTup, mLst, mLc, mLcK, mOwn, mDat, m2, ml2, mNeg, mChain, iT, iL, kIsi, kIx, kI, kIc, kIsN, kEqS, kLen, kTuple, kList, kInt1, kRepL, sForL, mLcL, iR1, kMin2, sSetIx, sTo, sPar3, sExt, sRem, iE, iRv, kIsi2, mLrg, mSlT, mSlL, oNone, oSome, gT, gsC, gsN, kCatT, env0, wipeE, frz, unOwn, gN, List.length_cons, List.length_nil, List.map_cons, List.map_nil, List.replicate, List.cons_append, List.nil_append, List.append_nil, List.getElem?_cons_zero, List.getElem?_cons_succ, Nat.sub_self, Nat.reduceAdd, Nat.reduceSub, D.ty, D.isN, D.tru, if_true, if_false, Bool.false_eq_true, List.set, id])
def Ch.isM : Ch → Bool
  | .make _ => true
  | .set _ _ _ => false
def S_is_list (ds : List D) (Q : D → Prop) : Prop := ∃ l : List D, ds = [.lst l] ∧ Q (.bl true)
def S_is_set (ds : List D) (Q : D → Prop) : Prop := ∃ (a b : Nat) (v : Va) (w m : Nat), ds = [(Ch.set a b v).enc, .int w, .int m] ∧ w ≤ 6 ∧ m ≤ 1000 ∧ ChOk w m (.set a b v) ∧ Q (.bl true)
def S_is_make (ds : List D) (Q : D → Prop) : Prop := ∃ (c : Ch) (w m : Nat), ds = [c.enc, .int w, .int m] ∧ w ≤ 6 ∧ m ≤ 1000 ∧ ChOk w m c ∧ Q (.bl c.isM)
def S_check_deed (ds : List D) (Q : D → Prop) : Prop := ∃ (d : List Ch) (w m : Nat), ds = [.lst (d.map Ch.enc), .int w, .int m] ∧ w ≤ 6 ∧ m + d.length ≤ 1000 ∧ DeedOk w m d ∧ Q (.int ((m + mks d : Nat) : Int))
def S_with_field (ds : List D) (Q : D → Prop) : Prop := ∃ (r : Row) (b : Nat) (v : Va), ds = [encR r, .int b, v.enc] ∧ r.length ≤ 6 ∧ b < r.length ∧ Q (encR (r.set b v))
def S_done (ds : List D) (Q : D → Prop) : Prop := ∃ (h : Hea) (w : Nat) (d : List Ch), ds = [encH h, .lst (d.map Ch.enc)] ∧ HeaW w h ∧ w ≤ 6 ∧ DeedOk w h.length d ∧ h.length + d.length ≤ 1000 ∧ Q (encH (doneH h d))
def S_first_heap (ds : List D) (Q : D → Prop) : Prop := ∃ w : Nat, ds = [.int w] ∧ 1 ≤ w ∧ w ≤ 6 ∧ Q (encH (rootH w))
def S_is_story (ds : List D) (Q : D → Prop) : Prop := ∃ (w t : Nat) (s : List Ver), ds = [.lst (s.map Ver.enc), .int w] ∧ 1 ≤ w ∧ w ≤ 6 ∧ t ≤ 6 ∧ s.length ≤ 40 ∧ StoryOk w t [1] s ∧ Q (.bl true)
def S_check_story (ds : List D) (Q : D → Prop) : Prop := ∃ (w t : Nat) (s : List Ver), ds = [.lst (s.map Ver.enc), .int w] ∧ 1 ≤ w ∧ w ≤ 6 ∧ t ≤ 6 ∧ s.length ≤ 40 ∧ StoryOk w t [1] s ∧ Q .non
def S_heaps_of (ds : List D) (Q : D → Prop) : Prop := ∃ (w t : Nat) (s : List Ver), ds = [.lst (s.map Ver.enc), .int w] ∧ 1 ≤ w ∧ w ≤ 6 ∧ t ≤ 6 ∧ s.length ≤ 40 ∧ StoryOk w t [1] s ∧ Q (.tup ((heapsFrom [rootH w] s).map encH))
def S_heap_at (ds : List D) (Q : D → Prop) : Prop := ∃ (w t : Nat) (s : List Ver) (v : Nat), ds = [.lst (s.map Ver.enc), .int w, .int v] ∧ 1 ≤ w ∧ w ≤ 6 ∧ t ≤ 6 ∧ s.length ≤ 40 ∧ v ≤ s.length ∧ StoryOk w t [1] s ∧ Q (encH ((heapsFrom [rootH w] s)[v]?.getD []))
theorem btw_true {a m : Nat} (h : a < m) (hm : m ≤ 1000000) : (isNum (.int (a : Int)) && (decide ((0 : Int) ≤ (a : Int)) && decide ((a : Int) ≤ (m : Int) - 1))) = true := by
  rw [isNum_int, decide_eq_true (by omega : -1000000000000000000 < (a : Int)), decide_eq_true (by omega : (a : Int) < 1000000000000000000), decide_eq_true (by omega : (0 : Int) ≤ (a : Int)), decide_eq_true (by omega : (a : Int) ≤ (m : Int) - 1)]; rfl
theorem btw_le {a m : Nat} (h : a ≤ m) (hm : m ≤ 1000000) : (isNum (.int (a : Int)) && (decide ((0 : Int) ≤ (a : Int)) && decide ((a : Int) ≤ (m : Int)))) = true := by
  rw [isNum_int, decide_eq_true (by omega : -1000000000000000000 < (a : Int)), decide_eq_true (by omega : (a : Int) < 1000000000000000000), decide_eq_true (by omega : (0 : Int) ≤ (a : Int)), decide_eq_true (by omega : (a : Int) ≤ (m : Int))]; rfl
theorem cutD_to {l : List D} {b : Nat} (h : b ≤ l.length) : PL.cutD l none (some (b : Int)) = l.take b := by
  unfold PL.cutD
  rw [HT.sIx_none, HT.sIx_nat, List.drop_zero, Nat.min_eq_left h, Nat.sub_zero]
theorem cutD_from {l : List D} {b : Nat} (h : b ≤ l.length) : PL.cutD l (some (b : Int)) none = l.drop b := by
  unfold PL.cutD
  rw [HT.sIx_none, HT.sIx_nat, Nat.min_eq_left h]
  exact List.take_of_length_le (by rw [List.length_drop]; omega)
theorem deed_at {w : Nat} : ∀ {d : List Ch} {m i : Nat} {c : Ch}, DeedOk w m d → d[i]? = some c → ChOk w (m + mks (d.take i)) c
  | [], _, _, _, _, h => by cases h
  | x :: r, m, 0, c, hd, h => by cases h; exact hd.1
  | x :: r, m, i + 1, c, hd, h => by
    have ih := deed_at (d := r) (i := i) hd.2 h
    rw [List.take_succ_cons]
    cases x with
    | make y =>
      show ChOk w (m + (mks (r.take i) + 1)) c
      rw [show m + (mks (r.take i) + 1) = m + 1 + mks (r.take i) by omega]
      exact ih
    | set a b v => exact ih
theorem deed_cat {w : Nat} : ∀ {d e : List Ch} {m : Nat}, DeedOk w m d → DeedOk w (m + mks d) e → DeedOk w m (d ++ e)
  | [], e, m, _, h => h
  | .make r :: d, e, m, h, h2 => ⟨h.1, deed_cat (d := d) h.2 (by show DeedOk w (m + 1 + mks d) e; rw [show m + 1 + mks d = m + (mks d + 1) by omega]; exact h2)⟩
  | .set a b v :: d, e, m, h, h2 => ⟨h.1, deed_cat (d := d) h.2 h2⟩
theorem done_cat (h : Hea) (d e : List Ch) : doneH h (d ++ e) = doneH (doneH h d) e := by unfold doneH; rw [List.foldl_append]
theorem story_at {w t : Nat} : ∀ {s : List Ver} {s0 : List Nat} {i p : Nat} {d : List Ch}, StoryOk w t s0 s → s[i]? = some (p, d) → p < (szs s0 (s.take i)).length ∧ d.length ≤ t ∧ DeedOk w ((szs s0 (s.take i))[p]?.getD 0) d
  | [], _, _, _, _, _, h => by cases h
  | v :: r, s0, 0, p, d, hs, h => by cases h; exact ⟨hs.1, hs.2.1, hs.2.2.1⟩
  | (q, e) :: r, s0, i + 1, p, d, hs, h => story_at (s := r) (s0 := s0 ++ [s0[q]?.getD 0 + mks e]) (i := i) hs.2.2.2 h
theorem heaps_pre : ∀ (s : List Ver) (hs : List Hea), ∃ e, heapsFrom hs s = hs ++ e
  | [], hs => ⟨[], (List.append_nil _).symm⟩
  | v :: s, hs => by
    obtain ⟨e, h⟩ := heaps_pre s (hs ++ [doneH (hs[v.1]?.getD []) v.2])
    exact ⟨[doneH (hs[v.1]?.getD []) v.2] ++ e, by rw [show heapsFrom hs (v :: s) = heapsFrom (hs ++ [doneH (hs[v.1]?.getD []) v.2]) s from rfl, h, List.append_assoc]⟩
theorem heaps_cut (s : List Ver) (hs : List Hea) (k : Nat) : ∃ e, heapsFrom hs s = heapsFrom hs (s.take k) ++ e := by
  obtain ⟨e, h⟩ := heaps_pre (s.drop k) (heapsFrom hs (s.take k))
  refine ⟨e, ?_⟩
  rw [← h]
  unfold heapsFrom
  rw [← List.foldl_append, List.take_append_drop]
theorem flat_len {l : List (List Ch)} (h : ∀ x ∈ l, x.length ≤ 6) : l.flatten.length ≤ 6 * l.length := by
  induction l with
  | nil => simp
  | cons a l ih =>
    have h1 := h a List.mem_cons_self
    have h2 := ih fun x hx => h x (List.mem_cons_of_mem _ hx)
    rw [List.flatten_cons, List.length_append, List.length_cons]; omega
/-- the heap of a version -/
def hp (w : Nat) (s : List Ver) (v : Nat) : Hea := (heapsFrom [rootH w] s)[v]?.getD []
theorem hp_zero (w : Nat) (s : List Ver) : hp w s 0 = rootH w := by
  obtain ⟨e, h⟩ := heaps_pre s [rootH w]
  unfold hp
  rw [h]; rfl
theorem hp_take {w t : Nat} {s : List Ver} (ok : StoryOk w t [1] s) (ht : t ≤ 6) {k v : Nat} (hk : k ≤ s.length) (hv : v ≤ k) : (heapsFrom [rootH w] (s.take k))[v]?.getD [] = hp w s v := by
  obtain ⟨e, h⟩ := heaps_cut s [rootH w] k
  have hl := (hs_all ok ht k hk).ln
  unfold hp
  rw [h, List.getElem?_append_left (by omega)]
/-- a version's heap is its parent's, its deed done -/
theorem hp_step {w t : Nat} {s : List Ver} (ok : StoryOk w t [1] s) (ht : t ≤ 6) {i p : Nat} {d : List Ch} (h : s[i]? = some (p, d)) : p ≤ i ∧ d.length ≤ 6 ∧ HeaW w (hp w s p) ∧ (hp w s p).length ≤ 1 + 6 * i ∧ DeedOk w (hp w s p).length d ∧ hp w s (i + 1) = doneH (hp w s p) d := by
  have hi := (List.getElem?_eq_some_iff.mp h).1
  have H := hs_all ok ht i (by omega)
  rw [drop_one h] at H
  obtain ⟨k1, k2, k3, k4, k5, k6⟩ := H.step ht
  have hpi : p ≤ i := by have := H.ln; omega
  rw [hp_take ok ht (by omega) hpi] at k2 k4 k5
  refine ⟨hpi, k3, k4, k5, k2, ?_⟩
  have e1 := hp_take ok ht (k := i + 1) (v := i + 1) hi (Nat.le_refl _)
  rw [← e1, take_one h, heaps_app, List.getElem?_append_right (by rw [H.ln]; exact Nat.le_refl _), H.ln, Nat.sub_self]
  show doneH _ _ = _
  rw [hp_take ok ht (by omega) hpi]
def S_heap_by (ds : List D) (Q : D → Prop) : Prop := S_heap_at ds Q
theorem len_is_list {ds : List D} {Q : D → Prop} (h : S_is_list ds Q) : ds.length = 1 := by obtain ⟨_, e, _⟩ := h; rw [e]; rfl
theorem len_is_set {ds : List D} {Q : D → Prop} (h : S_is_set ds Q) : ds.length = 3 := by obtain ⟨_, _, _, _, _, e, _⟩ := h; rw [e]; rfl
theorem len_is_make {ds : List D} {Q : D → Prop} (h : S_is_make ds Q) : ds.length = 3 := by obtain ⟨_, _, _, e, _⟩ := h; rw [e]; rfl
theorem len_check_deed {ds : List D} {Q : D → Prop} (h : S_check_deed ds Q) : ds.length = 3 := by obtain ⟨_, _, _, e, _⟩ := h; rw [e]; rfl
theorem len_with_field {ds : List D} {Q : D → Prop} (h : S_with_field ds Q) : ds.length = 3 := by obtain ⟨_, _, _, e, _⟩ := h; rw [e]; rfl
theorem len_done {ds : List D} {Q : D → Prop} (h : S_done ds Q) : ds.length = 2 := by obtain ⟨_, _, _, e, _⟩ := h; rw [e]; rfl
theorem len_first_heap {ds : List D} {Q : D → Prop} (h : S_first_heap ds Q) : ds.length = 1 := by obtain ⟨_, e, _⟩ := h; rw [e]; rfl
theorem len_is_story {ds : List D} {Q : D → Prop} (h : S_is_story ds Q) : ds.length = 2 := by obtain ⟨_, _, _, e, _⟩ := h; rw [e]; rfl
theorem len_check_story {ds : List D} {Q : D → Prop} (h : S_check_story ds Q) : ds.length = 2 := by obtain ⟨_, _, _, e, _⟩ := h; rw [e]; rfl
theorem len_heaps_of {ds : List D} {Q : D → Prop} (h : S_heaps_of ds Q) : ds.length = 2 := by obtain ⟨_, _, _, e, _⟩ := h; rw [e]; rfl
theorem len_heap_at {ds : List D} {Q : D → Prop} (h : S_heap_at ds Q) : ds.length = 3 := by obtain ⟨_, _, _, _, e, _⟩ := h; rw [e]; rfl
theorem len_heap_by {ds : List D} {Q : D → Prop} (h : S_heap_by ds Q) : ds.length = 3 := by obtain ⟨_, _, _, _, e, _⟩ := h; rw [e]; rfl
theorem mono_is_list : Mono S_is_list := fun ds P Q h ⟨a, e, k⟩ => ⟨a, e, h _ k⟩
theorem mono_is_set : Mono S_is_set := fun ds P Q h ⟨a, b, c, d, e, f, g, i, j, k⟩ => ⟨a, b, c, d, e, f, g, i, j, h _ k⟩
theorem mono_is_make : Mono S_is_make := fun ds P Q h ⟨a, b, c, d, e, f, g, k⟩ => ⟨a, b, c, d, e, f, g, h _ k⟩
theorem mono_check_deed : Mono S_check_deed := fun ds P Q h ⟨a, b, c, d, e, f, g, k⟩ => ⟨a, b, c, d, e, f, g, h _ k⟩
theorem mono_with_field : Mono S_with_field := fun ds P Q h ⟨a, b, c, d, e, f, k⟩ => ⟨a, b, c, d, e, f, h _ k⟩
theorem mono_done : Mono S_done := fun ds P Q h ⟨a, b, c, d, e, f, g, i, k⟩ => ⟨a, b, c, d, e, f, g, i, h _ k⟩
theorem mono_first_heap : Mono S_first_heap := fun ds P Q h ⟨a, b, c, d, k⟩ => ⟨a, b, c, d, h _ k⟩
theorem mono_is_story : Mono S_is_story := fun ds P Q h ⟨a, b, c, d, e, f, g, i, j, k⟩ => ⟨a, b, c, d, e, f, g, i, j, h _ k⟩
theorem mono_check_story : Mono S_check_story := fun ds P Q h ⟨a, b, c, d, e, f, g, i, j, k⟩ => ⟨a, b, c, d, e, f, g, i, j, h _ k⟩
theorem mono_heaps_of : Mono S_heaps_of := fun ds P Q h ⟨a, b, c, d, e, f, g, i, j, k⟩ => ⟨a, b, c, d, e, f, g, i, j, h _ k⟩
theorem mono_heap_at : Mono S_heap_at := fun ds P Q h ⟨a, b, c, d, e, f, g, i, j, k, l, m⟩ => ⟨a, b, c, d, e, f, g, i, j, k, l, h _ m⟩
theorem mono_heap_by : Mono S_heap_by := mono_heap_at
section
variable {P : Program} {w : World} {K : PySem.W.Frag} {mg : Str → Option Value} {base : Heap} {f : Addr} {fd : FuncData}
theorem ok_is_list {k : Nat} (F : Fun K "is_list" "is_list" s_is_list f fd) (T : Bt mg)  : FnOk P w K mg base CX0 (k + 1) f fd ["value"] (spP CA 0 S_is_list) := by
  refine pl_ok F sc_is_list (fun ds Q h => ?_) fun cdv A outer s H E hr => ?_
  · exact len_is_list h
  have hu := hu_of hr
  refine ⟨_, _, _, (pss_one (ps_ret (pe_callB call_isiTR (by rfl) T.isi (by decide +kernel) (pa_cons (pv 0) (pa_cons (pe_tup (pa_cons (pe_bltn (v := V.ty "list") (u := Value.type "list") (by rfl) T.list (by decide +kernel) rfl) (pa_cons (pe_bltn (v := V.ty "tuple") (u := Value.type "tuple") (by rfl) T.tuple (by decide +kernel) rfl) pa_nil))) pa_nil))))), (ss_ret (se_cb (sar_cons sr_var (sar_cons (SE.r (se_tup (sa_cons se_opq (sa_cons se_opq sa_nil)))) sar_nil)) (kc_isi2 (S := "list") (T := "tuple") (by decide) (by decide)))), by decide, fun ds Q h => ?_⟩
  obtain ⟨l, rfl, q⟩ := h
  walk_at "pl"
  have e : (tyIs "list" "list" || tyIs "list" "tuple") = true := by decide
  exact ⟨by rw [sizeLine_eq]; decide, trivial, trivial, by rw [e]; exact q⟩

end
end Law

namespace Law
namespace W
open PySem PySem.Spec PyProof.Rows L2 PL
local macro_rules | `(tactic| walk_at "pl") => `(tactic| simp only [sRet, sRetN, sSeq, sNext, sNever, sSet, sPar, sPar3, sIf, sDrop, sFor, sForL, sApp, sAug, sAugIx, sPutD, sSetIx, sTo, sExt, sRem, sBreak, sCont, mAndV, mOrV, mNotV, mAnd, mOr, mNot, mB, mIf, mTru, mCB, mCL, mCall, mC, mVar, mRd, aCons, aNil, mTup, mLst, mLc, mLcK, mLcL, mLcO, mOwn, mDat, m2, ml2, mNeg, mChain, iT, iL, iR1, iR2, iE, iRv, iZ, iET, kIsi, kIsi2, kIx, kI, kIc, kIsN, kIsB, kEqS, kEqB, kLen, kTuple, kList, kInt1, kAbs, kRepL, kMin2, kCatT, kCatL, mGet, mInD, D.key, mLrg, mRevL, mGet2, sPut2, mSlT, mSlL, oNone, oSome, gT, gsC, gsN, env0, wipeE, frz, unOwn, gN, List.length_cons, List.length_nil, List.map_cons, List.map_nil, List.replicate, List.cons_append, List.nil_append, List.append_nil, List.getElem?_cons_zero, List.getElem?_cons_succ, Nat.sub_self, Nat.reduceAdd, Nat.reduceSub, D.ty, D.isN, D.tru, if_true, if_false, Bool.false_eq_true, List.set, id, kAll, iAlt, iET, iE])
/-- neither opaque, nor an exception, nor a tuple of the other kind -/
def Tame (d : D) : Prop := d.ty ≠ none ∧ ∀ l, d ≠ .ftp l
def geB (l : Int) : D → Bool
  | .int i => isNum (.int i) && decide (l ≤ i)
  | _ => false
def btB (l m : Int) : D → Bool
  | .int i => isNum (.int i) && (decide (l ≤ i) && decide (i ≤ m))
  | _ => false
def isLT : D → Bool
  | .lst _ => true
  | .tup _ => true
  | _ => false
def prB : D → Bool
  | .tup l => decide (l.length = 2)
  | _ => false
def ptrB : D → Bool
  | .tup [.str s, b] => decide (s = "to") && geB 0 b
  | _ => false
/-- a pair begins with a text -/
def WOk (d : D) : Prop := Tame d ∧ ∀ a b, d = .tup [a, b] → (∃ s, a = .str s) ∧ Tame b
def valB (m : Int) : D → Bool
  | .tup [.str s, .int r] => (decide (s = "to") && geB 0 (.int r)) && decide (r < m)
  | .non => true
  | d => isNum d
def RowC (w : Int) (d : D) : Prop := Tame d ∧ ∀ l, d = .tup l → l.length ≤ 1000 ∧ ((l.length : Int) = w → ∀ x ∈ l, WOk x)
def rowB (w m : Int) : D → Bool
  | .tup l => decide ((l.length : Int) = w) && l.all (valB m)
  | _ => false
def SetC (c : D) : Prop := Tame c ∧ (∀ l, c = .tup l → l.length ≤ 1000) ∧ ∀ a r f v, c = .tup [a, r, f, v] → (∃ s, a = .str s) ∧ Tame r ∧ Tame f ∧ WOk v
def setB (w m : Int) : D → Bool
  | .tup [.str s, r, f, v] => decide (s = "set") && (btB 0 (m - 1) r && (btB 0 (w - 1) f && valB m v))
  | _ => false
def MkC (w : Int) (c : D) : Prop := Tame c ∧ (∀ l, c = .tup l → l.length ≤ 1000) ∧ ∀ a b, c = .tup [a, b] → (∃ s, a = .str s) ∧ RowC w b
def mkB (w m : Int) : D → Bool
  | .tup [.str s, b] => decide (s = "make") && rowB w (m + 1) b
  | _ => false
def S_is_from (ds : List D) (Q : D → Prop) : Prop := ∃ d l, ds = [d, .int l] ∧ Tame d ∧ Q (.bl (geB l d))
def S_is_between (ds : List D) (Q : D → Prop) : Prop := ∃ d l m, ds = [d, .int l, .int m] ∧ Tame d ∧ Q (.bl (btB l m d))
def S_is_list (ds : List D) (Q : D → Prop) : Prop := ∃ d, ds = [d] ∧ Tame d ∧ Q (.bl (isLT d))
def S_is_pair (ds : List D) (Q : D → Prop) : Prop := ∃ d, ds = [d] ∧ Tame d ∧ Q (.bl (prB d))
def S_is_pointer (ds : List D) (Q : D → Prop) : Prop := ∃ d, ds = [d] ∧ WOk d ∧ Q (.bl (ptrB d))
def S_is_value (ds : List D) (Q : D → Prop) : Prop := ∃ d m, ds = [d, .int m] ∧ WOk d ∧ Q (.bl (valB m d))
def S_is_row (ds : List D) (Q : D → Prop) : Prop := ∃ d w m, ds = [d, .int w, .int m] ∧ RowC w d ∧ Q (.bl (rowB w m d))
def S_is_set (ds : List D) (Q : D → Prop) : Prop := ∃ d w m, ds = [d, .int w, .int m] ∧ SetC d ∧ Q (.bl (setB w m d))
def S_is_make (ds : List D) (Q : D → Prop) : Prop := ∃ d w m, ds = [d, .int w, .int m] ∧ MkC w d ∧ Q (.bl (mkB w m d))
theorem len_is_from {ds : List D} {Q : D → Prop} (h : S_is_from ds Q) : ds.length = 2 := by obtain ⟨_, _, e, _⟩ := h; rw [e]; rfl
theorem mono_is_from : Mono S_is_from := fun ds P Q h ⟨a0, a1, e, n, k⟩ => ⟨a0, a1, e, n, h _ k⟩
theorem len_is_between {ds : List D} {Q : D → Prop} (h : S_is_between ds Q) : ds.length = 3 := by obtain ⟨_, _, _, e, _⟩ := h; rw [e]; rfl
theorem mono_is_between : Mono S_is_between := fun ds P Q h ⟨a0, a1, a2, e, n, k⟩ => ⟨a0, a1, a2, e, n, h _ k⟩
theorem len_is_list {ds : List D} {Q : D → Prop} (h : S_is_list ds Q) : ds.length = 1 := by obtain ⟨_, e, _⟩ := h; rw [e]; rfl
theorem mono_is_list : Mono S_is_list := fun ds P Q h ⟨a0, e, n, k⟩ => ⟨a0, e, n, h _ k⟩
theorem len_is_pair {ds : List D} {Q : D → Prop} (h : S_is_pair ds Q) : ds.length = 1 := by obtain ⟨_, e, _⟩ := h; rw [e]; rfl
theorem mono_is_pair : Mono S_is_pair := fun ds P Q h ⟨a0, e, n, k⟩ => ⟨a0, e, n, h _ k⟩
theorem len_is_pointer {ds : List D} {Q : D → Prop} (h : S_is_pointer ds Q) : ds.length = 1 := by obtain ⟨_, e, _⟩ := h; rw [e]; rfl
theorem mono_is_pointer : Mono S_is_pointer := fun ds P Q h ⟨a0, e, n, k⟩ => ⟨a0, e, n, h _ k⟩
theorem len_is_value {ds : List D} {Q : D → Prop} (h : S_is_value ds Q) : ds.length = 2 := by obtain ⟨_, _, e, _⟩ := h; rw [e]; rfl
theorem mono_is_value : Mono S_is_value := fun ds P Q h ⟨a0, a1, e, n, k⟩ => ⟨a0, a1, e, n, h _ k⟩
theorem len_is_row {ds : List D} {Q : D → Prop} (h : S_is_row ds Q) : ds.length = 3 := by obtain ⟨_, _, _, e, _⟩ := h; rw [e]; rfl
theorem mono_is_row : Mono S_is_row := fun ds P Q h ⟨a0, a1, a2, e, n, k⟩ => ⟨a0, a1, a2, e, n, h _ k⟩
theorem len_is_set {ds : List D} {Q : D → Prop} (h : S_is_set ds Q) : ds.length = 3 := by obtain ⟨_, _, _, e, _⟩ := h; rw [e]; rfl
theorem mono_is_set : Mono S_is_set := fun ds P Q h ⟨a0, a1, a2, e, n, k⟩ => ⟨a0, a1, a2, e, n, h _ k⟩
theorem len_is_make {ds : List D} {Q : D → Prop} (h : S_is_make ds Q) : ds.length = 3 := by obtain ⟨_, _, _, e, _⟩ := h; rw [e]; rfl
theorem mono_is_make : Mono S_is_make := fun ds P Q h ⟨a0, a1, a2, e, n, k⟩ => ⟨a0, a1, a2, e, n, h _ k⟩
theorem tyI {d : D} (h : Tame d) : ∃ t, d.ty = some t := by
  cases e : d.ty with
  | none => exact absurd e h.1
  | some t => exact ⟨t, rfl⟩
section
variable {P : Program} {w : World} {K : PySem.W.Frag} {mg : Str → Option Value} {base : Heap} {f : Addr} {fd : FuncData}
theorem ok_is_from {k : Nat} (F : Fun K "is_from" "is_from" s_is_from f fd) (T : Bt mg) (P_is_number : Pr P w K mg base "is_number" k ["value"] (spP CA 0 S_is_number)) : FnOk P w K mg base CX0 (k + 1) f fd ["value", "least"] (spP CA 0 S_is_from) := by
  refine pl_ok F sc_is_from (fun ds Q h => ?_) fun cdv A outer s H E hr => ?_
  · exact len_is_from h
  have hu := hu_of hr
  refine ⟨_, _, _, (pss_one (ps_ret (pe_and (pe_callP P_is_number hr rfl (pa_cons (pv 0) pa_nil)) (pe_one (pe_cmpR op_ge (pv 0) (pv 1) (nomark _)))))), (ss_ret (se_andV (se_callA (sa_cons se_var sa_nil) mono_is_number) (se_op sr_var sr_var k2_bl))), by decide, fun ds Q h => ?_⟩
  obtain ⟨d, l, rfl, hd, q⟩ := h
  walk_at "pl"
  refine ⟨d, rfl, hd.1, ?_⟩
  show if isNum d = true then _ else _
  cases d with
  | int i =>
    by_cases h1 : isNum (.int i) = true
    · refine iteT' h1 ?_
      have e : geB l (.int i) = decide (l ≤ i) := by show (isNum (.int i) && decide (l ≤ i)) = _; rw [h1, Bool.true_and]
      rw [e] at q
      exact q
    · have e : geB l (.int i) = false := by show (isNum (.int i) && decide (l ≤ i)) = _; rw [Bool.eq_false_iff.mpr h1, Bool.false_and]
      rw [e] at q
      exact iteF' h1 q
  | _ => exact iteF' Bool.false_ne_true q

theorem ok_is_between {k : Nat} (F : Fun K "is_between" "is_between" s_is_between f fd) (T : Bt mg) (P_is_number : Pr P w K mg base "is_number" k ["value"] (spP CA 0 S_is_number)) : FnOk P w K mg base CX0 (k + 1) f fd ["value", "least", "most"] (spP CA 0 S_is_between) := by
  refine pl_ok F sc_is_between (fun ds Q h => ?_) fun cdv A outer s H E hr => ?_
  · exact len_is_between h
  have hu := hu_of hr
  refine ⟨_, _, _, (pss_one (ps_ret (pe_and (pe_callP P_is_number hr rfl (pa_cons (pv 0) pa_nil)) (pe_one (pe_chain op_le op_le (pv 1) (pv 0) (pv 2)))))), (ss_ret (se_andV (se_callA (sa_cons se_var sa_nil) mono_is_number) (se_chain se_var se_var se_var))), by decide, fun ds Q h => ?_⟩
  obtain ⟨d, l, m, rfl, hd, q⟩ := h
  walk_at "pl"
  refine ⟨d, rfl, hd.1, ?_⟩
  show if isNum d = true then _ else _
  cases d with
  | int i =>
    by_cases h1 : isNum (.int i) = true
    · refine iteT' h1 ?_
      have e : btB l m (.int i) = (decide (l ≤ i) && decide (i ≤ m)) := by show (isNum (.int i) && (decide (l ≤ i) && decide (i ≤ m))) = _; rw [h1, Bool.true_and]
      rw [e] at q
      show if decide (l ≤ i) = true then _ else _
      by_cases h2 : l ≤ i
      · rw [decide_eq_true h2, Bool.true_and] at q
        exact iteT' (decide_eq_true h2) q
      · rw [decide_eq_false h2, Bool.false_and] at q
        exact iteF' (by rw [decide_eq_false h2]; exact Bool.false_ne_true) q
    · have e : btB l m (.int i) = false := by show (isNum (.int i) && (decide (l ≤ i) && decide (i ≤ m))) = _; rw [Bool.eq_false_iff.mpr h1, Bool.false_and]
      rw [e] at q
      exact iteF' h1 q
  | _ => exact iteF' Bool.false_ne_true q

theorem ok_is_list {k : Nat} (F : Fun K "is_list" "is_list" s_is_list f fd) (T : Bt mg)  : FnOk P w K mg base CX0 (k + 1) f fd ["value"] (spP CA 0 S_is_list) := by
  refine pl_ok F sc_is_list (fun ds Q h => ?_) fun cdv A outer s H E hr => ?_
  · exact len_is_list h
  have hu := hu_of hr
  refine ⟨_, _, _, (pss_one (ps_ret (pe_callB call_isiTR (by rfl) T.isi (by decide +kernel) (pa_cons (pv 0) (pa_cons (pe_tup (pa_cons (pe_bltn (v := V.ty "list") (u := Value.type "list") (by rfl) T.list (by decide +kernel) rfl) (pa_cons (pe_bltn (v := V.ty "tuple") (u := Value.type "tuple") (by rfl) T.tuple (by decide +kernel) rfl) pa_nil))) pa_nil))))), (ss_ret (se_cb (sar_cons sr_var (sar_cons (SE.r (se_tup (sa_cons se_opq (sa_cons se_opq sa_nil)))) sar_nil)) (kc_isi2 (S := "list") (T := "tuple") (by decide) (by decide)))), by decide, fun ds Q h => ?_⟩
  obtain ⟨d, rfl, hd, q⟩ := h
  walk_at "pl"
  cases d with
  | opq v => exact absurd rfl hd.1
  | exc a b c => exact absurd rfl hd.1
  | lam a b => exact absurd rfl hd.1
  | ins a b c => exact absurd rfl hd.1
  | ftp l => exact absurd rfl (hd.2 l)
  | _ => exact ⟨by rw [sizeLine_eq]; decide, trivial, trivial, q⟩

end
end W
end Law

namespace Law
open PySem PySem.Spec PyProof.Rows L2 PL LamX
/-! ### the source of draws, and tables of code objects -/
theorem st_tabs {za zg zc : Addr} {n : Nat} {H H' : Hp} {T : List (Addr × Str)} (ok : StOk za zg zc n H) (t : Tabs T H) (h : ∀ b o, H b = some o → ¬ (b = za ∨ b = zg ∨ b = zc) → H' b = some o) : Tabs T H' := fun p hp => by
  obtain ⟨g, c, l, u, e1, e2, e3, _⟩ := ok
  obtain ⟨ps, h1, h2, h3⟩ := t p hp
  have ne : ∀ b o, H b = some o → (∀ xs, o ≠ .lst xs) → (∀ xs, o ≠ .dK xs) → ¬ (b = za ∨ b = zg ∨ b = zc) := fun b o e n1 n2 z => by
    rcases z with z | z | z
    · rw [z, e1] at e; exact n2 _ (Option.some.inj e).symm
    · rw [z, e2] at e; exact n1 _ (Option.some.inj e).symm
    · rw [z, e3] at e; exact n1 _ (Option.some.inj e).symm
  refine ⟨ps, h _ _ h1 (ne _ _ h1 (fun _ z => nomatch z) fun _ z => nomatch z), h2, fun pos cv hc => ?_⟩
  obtain ⟨c0, q1, q2⟩ := h3 pos cv hc
  exact ⟨c0, q1, h _ _ q2 (ne _ _ q2 (fun _ z => nomatch z) fun _ z => nomatch z)⟩
def stWT (za zg zc : Addr) (T : List (Addr × Str)) : Wd where
  Z := fun b => (b = za ∨ b = zg ∨ b = zc) ∨ ∃ p ∈ T, b = p.1
  ok := fun n H => StOk za zg zc n H ∧ Tabs T H
  up := fun n k H h ⟨a, b⟩ => ⟨(stW za zg zc).up n k H h a, b⟩
  st := fun n H H' h hx ⟨a, b⟩ => ⟨(stW za zg zc).st n H H' (fun b o z => h b o (.inl z)) hx a, fun p hp => by
    obtain ⟨ps, h1, h2, h3⟩ := b p hp
    refine ⟨ps, h _ _ (.inr ⟨p, hp, rfl⟩) h1, h2, fun pos cv hc => ?_⟩
    obtain ⟨c0, q1, q2⟩ := h3 pos cv hc
    exact ⟨c0, q1, hx _ _ q2⟩⟩
  tr := fun n H b ⟨a, t⟩ z => by
    rcases z with z | ⟨p, hp, z⟩
    · exact (stW za zg zc).tr n H b a z
    · obtain ⟨ps, h1, _⟩ := t p hp
      rw [z, h1]; exact ⟨_, rfl, fun _ q => nomatch q⟩
def StWT (T : List (Addr × Str)) (tok : V) (w : Wd) : Prop := ∃ za zg zc, tok = .ref za ∧ zg ≠ zc ∧ w = stWT za zg zc T
theorem spT_wt {T : List (Addr × Str)} {k : Nat} {S : V → List D → (D → Prop) → Prop} (hS : ∀ tok, Mono (S tok)) {vs : List V} {H : Hp} {Q : VK} {E : XK} (h : spT (StWT T) k S vs H Q E) : spT StW k S vs H Q E := by
  obtain ⟨tok, w, n, Oc, ds, ⟨za, zg, zc, e1, e2, e3⟩, hL, ok, zo, tr, r, s⟩ := h
  subst e3
  refine ⟨tok, stW za zg zc, n, Oc, ds, ⟨za, zg, zc, e1, e2, rfl⟩, hL, ok.1, fun b z => zo b (.inl z), tr, r, hS tok ds _ _ (fun d hd v H' g ok' rv => hd v H' (fun b o e z => g b o e fun q => z (.inl q)) ⟨ok', st_tabs ok.1 ok.2 g⟩ rv) s⟩
theorem _root_.PL.Pr.wt {P : Program} {w : World} {K : PySem.W.Frag} {mg : Str → Option Value} {base : Heap} {x : Str} {k c : Nat} {ps : List Str} {S : V → List D → (D → Prop) → Prop} (T : List (Addr × Str)) (hS : ∀ tok, Mono (S tok)) (h : Pr P w K mg base x k ps (spT StW c S)) : Pr P w K mg base x k ps (spT (StWT T) c S) := by
  obtain ⟨f, fd, h1, h2, h3, h4⟩ := h.ex
  exact ⟨⟨f, fd, h1.imp fun vs H Q E q => spT_wt hS q, h2, h3, h4⟩⟩
theorem tbW_of {T : List (Addr × Str)} {tok : V} {P0 : Addr} {q : Str} (hP : (P0, q) ∈ T) : ∀ w x, nx (StWT T tok) w x → TbW P0 T w ∧ CA w := fun w x ⟨za, zg, zc, e1, e2, e3⟩ => by
  subst e3
  refine ⟨⟨.inr ⟨_, hP, rfl⟩, fun n H ok => ok.2, fun n H H1 ok ex t => ⟨?_, t⟩⟩, trivial⟩
  obtain ⟨ps, h1, _⟩ := ok.2 _ hP
  obtain ⟨g, c, l, u, e1, e2, e3, h4⟩ := ok.1
  have ne : ∀ b o, H b = some o → (∀ ps, o ≠ .tbl ps) → b ≠ P0 := fun b o e n z => by
    rw [z, h1] at e
    exact n _ (Option.some.inj e).symm
  exact ⟨g, c, l, u, ex _ _ e1 (ne _ _ e1 fun _ z => nomatch z), ex _ _ e2 (ne _ _ e2 fun _ z => nomatch z), ex _ _ e3 (ne _ _ e3 fun _ z => nomatch z), h4⟩
/-- the law's promise: the script, the empty tables -/
def spLawT (K : PySem.W.Frag) (cs : List Addr) : Sp := fun vs H Q _ => ∃ (a : Addr) (ns : List Int), vs = [.ref a] ∧ SqL K H a (ns.map V.int) ∧ ns.length ≤ 63 ∧ (∀ p ∈ cs, H p = some (.tbl #[])) ∧ ∀ H', Q (.bl true) H'
theorem fr_lawT {za zg zc a : Addr} {T : List (Addr × Str)} {H : Hp} (k : Nat) (st : StOk za zg zc 0 H) (t : Tabs T H) (ctr : ∀ b, (stWT za zg zc T).Z b → Trk (H b)) : Fr (Cfg.nx (stWT za zg zc T) H (stWT za zg zc T).Z ctr) 0 (stWT za zg zc T).Z (.un :: .dat (.opq (.ref za)) :: List.replicate k .un) (some (.ref a) :: some (.ref za) :: List.replicate k none) H := by
  refine ⟨⟨⟨st, t⟩, fun b z => z, fun b z => z, ctr, Grow.refl _ _⟩, by simp, fun i c hc hn => ?_, fun i j b ⟨c, hc, ho⟩ _ _ _ => ?_⟩
  · match i with
    | 0 => cases hc; exact absurd rfl hn
    | 1 => cases hc; exact ⟨_, rfl, .dat (.opq _)⟩
    | i + 2 => exact absurd (List.eq_of_mem_replicate (List.mem_of_getElem? (l := List.replicate k Sv.un) (i := i) hc)) hn
  · match i with
    | 0 => cases hc; cases ho
    | 1 => cases hc; cases ho
    | i + 2 =>
      have := List.eq_of_mem_replicate (List.mem_of_getElem? (l := List.replicate k Sv.un) (i := i) hc)
      rw [this] at ho; cases ho
/-! ### a def whose code object is told; the def that catches -/
theorem fun_okC {P : Program} {w : World} {K : PySem.W.Frag} {mg : Str → Option Value} {base : Heap} {x qual : Str} {st : Stmt} {f : Addr} {N ps : List Str} {k : Nat} {sp : Sp} {oc kV doc pm cdv ct : Value} {od an : Option Addr} {osl : Array (Option Value)}
    (lk : K.lookup f = some ⟨oc, od, .func (PySem.W.fnOf x qual (defArgs st) (defBody st) (defScope st) .none kV doc pm an cdv ct), osl⟩) (hcd : PySem.W.codeIn K cdv qual = true) (S : FnScope N ps (defScope st)) (len : ∀ vs H Q E, sp vs H Q E → vs.length = ps.length)
    (hbody : ∀ (A : Around) (outer : List Env) (s : Shared) (H : Hp) (vs : List V) (Q : VK) (E : XK), Room k (A.deeper (envOfC qual (defScope st) s.heap.objs.size f cdv)) → sp vs H Q E →
      ∃ t, PSs (cxOf CX0 P w K mg base N qual (defScope st) f cdv A outer s H E).nox (defBody st) t ∧ t { nx := fun _ H' => Q .non H', rt := Q } (L2.start N vs) H) : FnOk P w K mg base CX0 (k + 1) f (PySem.W.fnOf x qual (defArgs st) (defBody st) (defScope st) .none kV doc pm an cdv ct) ps sp := by
  refine fn_of lk hcd S len fun A outer s H vs Q E hr hsp => ?_
  obtain ⟨t, h, q⟩ := hbody A outer s H vs Q E hr hsp
  exact ⟨t, h.nox, q⟩
structure CaughtF (K : PySem.W.Frag) (mg : Str → Option Value) : Prop where
  ex : ∃ (g : Addr) (oc kV doc pm cdv ct : Value) (od an : Option Addr) (osl : Array (Option Value)), mg "_law_caught" = some (.ref g) ∧ PySem.W.keepIn K (.ref g) = true ∧
    K.lookup g = some ⟨oc, od, .func (PySem.W.fnOf "_law_caught" "_law_caught" (defArgs s_l_caught) (defBody s_l_caught) (defScope s_l_caught) .none kV doc pm an cdv ct), osl⟩ ∧ PySem.W.codeIn K cdv "_law_caught" = true
  ce : mg "CopyError" = some (.ref (er mg "CopyError"))
theorem pe_caught {X : Cx} {c P0 : Addr} {k : Nat} {pa : Arguments} {sc : Scope} {body : Expr} {t : XK → TE} {p lp pos : Pos} (h : CaughtF X.K X.mg) (hg : Gl X "_law_caught") (TB : TabB X.base X.mg c P0) (hcode : X.env.code = .ref c) (hr : Room (k + 2) X.A) (L : LamS X.env.scope sc) (hdef : defaultsOf pa X.env = ([], []))
    (hbind : ∀ (q : Str) (cl : List (Str × Addr)) (pm cv ctv : Value), bindArgs (PySem.W.kla_fn "<lambda>" q pa body sc cl pm cv ctv) ⟨[], []⟩ = pure [])
    (hbody : ∀ (A : Around) (outer : List Env) (s : Shared) (H : Hp) (E : XK) (f c' : Addr), Room k (A.deeper (lamEnv X sc s.heap.objs.size f c')) → PE (lamCx X A outer s H E sc f c') body (t E)) :
    PE X (.Call (.Name "_law_caught" p) [.Lambda pa body sc lp] [] pos) (tLamP P0 [(P0, X.env.qual ++ "<lambda>")] (TCaught X.K (er X.mg "CopyError")) t) := by
  obtain ⟨g, oc, kV, doc, pm, cdv, ct, od, an, osl, h1, h2, h3, h4⟩ := h.ex
  have S : FnScope cNames ["work"] (defScope s_l_caught) := sc_l_caught
  exact pe_lamP hg h1 h2 h3 h4 (.all fun us hl => match us, hl with | [_], _ => rfl) S rfl (.inl (by decide +kernel)) (caught_gives S (by decide +kernel) (by decide +kernel) h.ce) TB hcode (List.mem_singleton.mpr rfl) (fun q hq _ => by rw [List.mem_singleton.mp hq]) hr L hdef hbind hbody
/-- {} -/
theorem se_dnew {C : Wd → XC → Prop} : SE C 0 tDNewK (mC (.dic [])) := fun G _ n O env σ H Qd Q hL F hm k => fun p hp => k _ _ _ hm (Grow.new _ hp) (Wd.okNew hp F.wl.ok) (.dic ⟨.inl upd_same, F.wl.free hp⟩ .nil)
theorem ss_run {C : Wd → XC → Prop} {c n : Nat} {t : TS} {m : SM} (h : SS C c t m) {G : Cfg} {O : Addr → Prop} {env : Ev} {σ : L2.St} {H : Hp} {P : Pe} {D : Ends} (cg : C G.w G.x) (F : Fr G n O env σ H) (hc : n + c ≤ G.x.lim) (hm : m env P) (e : EOk G (n + c) O H P D) : t D σ H := h G cg n O env σ H P D hc F hm e
/-! ### lambdas in several defs -/
theorem tbW_ofM {T : List (Addr × Str)} {tok : V} {P0 : Addr} {q : Str} (hP : (P0, q) ∈ T) (hu : ∀ p ∈ T, p.1 = P0 → p = (P0, q)) : ∀ w x, nx (StWT T tok) w x → TbW P0 [(P0, q)] w ∧ CA w := fun w x ⟨za, zg, zc, e1, e2, e3⟩ => by
  subst e3
  refine ⟨⟨.inr ⟨_, hP, rfl⟩, fun n H ok p hp => by rw [List.mem_singleton.mp hp]; exact ok.2 _ hP, fun n H H1 ok ex t => ⟨?_, fun p hp => ?_⟩⟩, trivial⟩
  · obtain ⟨ps, h1, _⟩ := ok.2 _ hP
    obtain ⟨g, c, l, u, e1, e2, e3, h4⟩ := ok.1
    have ne : ∀ b o, H b = some o → (∀ ps, o ≠ .tbl ps) → b ≠ P0 := fun b o e n z => by
      rw [z, h1] at e
      exact n _ (Option.some.inj e).symm
    exact ⟨g, c, l, u, ex _ _ e1 (ne _ _ e1 fun _ z => nomatch z), ex _ _ e2 (ne _ _ e2 fun _ z => nomatch z), ex _ _ e3 (ne _ _ e3 fun _ z => nomatch z), h4⟩
  · by_cases z : p.1 = P0
    · rw [hu p hp z]; exact t _ (List.mem_singleton.mpr rfl)
    · obtain ⟨ps0, h0, _⟩ := ok.2 _ hP
      obtain ⟨ps, h1, h2, h3⟩ := ok.2 p hp
      refine ⟨ps, ex _ _ h1 z, h2, fun pos cv hc => ?_⟩
      obtain ⟨c0, q1, q2⟩ := h3 pos cv hc
      exact ⟨c0, q1, ex _ _ q2 fun y => by rw [y, h0] at q2; cases q2⟩
theorem pl_okTC {P : Program} {w : World} {K : PySem.W.Frag} {mg : Str → Option Value} {base : Heap} {CT : V → Wd → Prop} {S : V → List D → (D → Prop) → Prop} {x qual : Str} {st : Stmt} {f : Addr} {N ps : List Str} {k kd : Nat} {oc kV doc pm cdv ct : Value} {od an : Option Addr} {osl : Array (Option Value)}
    (lk : K.lookup f = some ⟨oc, od, .func (PySem.W.fnOf x qual (defArgs st) (defBody st) (defScope st) .none kV doc pm an cdv ct), osl⟩) (hcd : PySem.W.codeIn K cdv qual = true) (sc : FnScope N ps (defScope st)) (len : ∀ tok ds Q, S tok ds Q → ds.length = ps.length)
    (body : ∀ (A : Around) (outer : List Env) (s : Shared) (H : Hp) (E : XK), Room k (A.deeper (envOfC qual (defScope st) s.heap.objs.size f cdv)) →
      ∃ t, PSs (cxOf CX0 P w K mg base N qual (defScope st) f cdv A outer s H E).nox (defBody st) t ∧ ∀ tok, ∃ m c, SS (nx (CT tok)) c t m ∧ c ≤ kd ∧ ∀ ds Q, S tok ds Q → m (env0 N ds) { nx := fun _ => Q .non, rt := Q }) :
    FnOk P w K mg base CX0 (k + 1) f (PySem.W.fnOf x qual (defArgs st) (defBody st) (defScope st) .none kV doc pm an cdv ct) ps (spT CT kd S) := by
  refine fun_okC lk hcd sc (fun vs H Q E ⟨_, _, _, _, ds, _, _, _, _, _, r, h⟩ => by rw [r.length]; exact len _ ds _ h) fun A outer s H vs Q E hr ⟨tok, h⟩ => ?_
  obtain ⟨t, ht, hb⟩ := body A outer s H E hr
  obtain ⟨m, c, hs, hc, hb⟩ := hb tok
  exact ⟨t, ht, pl_body hs hc hb h⟩
end Law

namespace Law
open PySem PySem.Spec PyProof.Rows L2 PL LamX
/-! ### a lambda of a def, told by its place -/
def sBody : Stmt → List Stmt
  | .For _ _ b _ _ => b
  | .While _ b _ _ => b
  | .If _ b _ _ => b
  | _ => []
def sVal : Stmt → Expr
  | .Assign _ v _ => v
  | .Return (some v) _ => v
  | _ => .Constant .none 0 ⟨0, 0, 0, 0⟩
def eArgs : Expr → List Expr
  | .Call _ a _ _ => a
  | .List l _ => l
  | _ => []
def lOf : Expr → Option (Arguments × Expr × Scope)
  | .Lambda a b s _ => some (a, b, s)
  | _ => none
def stAt (l : List Stmt) (i : Nat) : Stmt := l.getD i (.Pass ⟨0, 0, 0, 0⟩)
def exAt (l : List Expr) (i : Nat) : Expr := l.getD i (.Constant .none 0 ⟨0, 0, 0, 0⟩)
def LamFx (X : Cx) (o : Option (Arguments × Expr × Scope)) : Addr → Addr → Heap → Prop := match o with
  | some (a, b, sc) => LamP (X.env.qual ++ "<lambda>") a b sc (cloFrom X.env.cells sc.names [])
  | none => fun _ _ _ => False
theorem pe_caughtV {X : Cx} {k : Nat} {L : List ((Addr → Addr → Heap → Prop) × (XK → TE))} {e : Expr} {ta : TA} {p pos : Pos} (h : CaughtF X.K X.mg) (hg : Gl X "_law_caught") (hr : Room (k + 2) X.A) (hL : ∀ q ∈ L, LamI X k q.1 q.2) (ha : PA X [e] ta)
    (he : starEach [e] X.env = (false, eval e X.env) :: starEach [] X.env := by rfl) (hpl : (backTo pos (starEach [] X.env)).any (·.1) = false := by rfl) :
    PE X (.Call (.Name "_law_caught" p) [e] [] pos) (tLamC (X.env.qual ++ "<lambda>") L (TCaught X.K (er X.mg "CopyError")) ta) := by
  obtain ⟨g, oc, kV, doc, pm, cdv, ct, od, an, osl, h1, h2, h3, h4⟩ := h.ex
  have S : FnScope cNames ["work"] (defScope s_l_caught) := sc_l_caught
  exact pe_lamC hg h1 h2 h3 h4 (.all fun us hl => match us, hl with | [_], _ => rfl) S rfl (.inl (by decide +kernel)) (caught_gives S (by decide +kernel) (by decide +kernel) h.ce) hr hL ha he hpl
theorem pe_caughtB {X : Cx} {σ0 : L2.St} {s0 : Shared} {H0 : Hp} {bsc : Scope} {ce : Env} {fp : List Addr} {k : Nat} {L : List ((Addr → Addr → Heap → Prop) × (XK → TE))} {e : Expr} {ta : TA} {p pos : Pos} (hbk : Bk X (X.blk s0 H0 bsc ce fp) σ0) (h : CaughtF X.K X.mg) (hg : Gl (X.blk s0 H0 bsc ce fp) "_law_caught") (hr : Room (k + 2) X.A) (hL : ∀ q ∈ L, LamI X k q.1 q.2) (ha : PA (X.blk s0 H0 bsc ce fp) [e] ta)
    (he : starEach [e] ce = (false, eval e ce) :: starEach [] ce := by rfl) (hpl : (backTo pos (starEach [] ce)).any (·.1) = false := by rfl) :
    PE (X.blk s0 H0 bsc ce fp) (.Call (.Name "_law_caught" p) [e] [] pos) (tLamB σ0 (X.env.qual ++ "<lambda>") L (TCaught X.K (er X.mg "CopyError")) ta) := by
  obtain ⟨g, oc, kV, doc, pm, cdv, ct, od, an, osl, h1, h2, h3, h4⟩ := h.ex
  have S : FnScope cNames ["work"] (defScope s_l_caught) := sc_l_caught
  exact pe_lamB hbk hg h1 h2 h3 h4 (.all fun us hl => match us, hl with | [_], _ => rfl) S rfl (.inl (by decide +kernel)) (caught_gives S (by decide +kernel) (by decide +kernel) h.ce) hr hL ha he hpl (by decide) (by decide) (by decide)
theorem lamI_nil {X : Cx} {k : Nat} : ∀ q ∈ ([] : List ((Addr → Addr → Heap → Prop) × (XK → TE))), LamI X k q.1 q.2 := fun _ z => nomatch z
theorem lamI_cons {X : Cx} {k : Nat} {F : Addr → Addr → Heap → Prop} {t : XK → TE} {L : List ((Addr → Addr → Heap → Prop) × (XK → TE))} (h : LamI X k F t) (r : ∀ q ∈ L, LamI X k q.1 q.2) : ∀ q ∈ (F, t) :: L, LamI X k q.1 q.2 := fun q hq => (List.mem_cons.mp hq).elim (fun e => by rw [e]; exact h) (r q)
theorem lamT_nil {C0 : Wd → Prop} : ∀ p ∈ ([] : List LamT), ∀ E X0, SE (exC C0 E X0) 0 (p.2.1 E) (p.2.2 X0) := fun _ z => nomatch z
theorem lamT_cons {C0 : Wd → Prop} {F : Addr → Addr → Heap → Prop} {t : XK → TE} {m : (Exn → Prop) → EM} {L : List LamT} (h : ∀ E X0, SE (exC C0 E X0) 0 (t E) (m X0)) (r : ∀ p ∈ L, ∀ E X0, SE (exC C0 E X0) 0 (p.2.1 E) (p.2.2 X0)) : ∀ p ∈ (F, t, m) :: L, ∀ E X0, SE (exC C0 E X0) 0 (p.2.1 E) (p.2.2 X0) := fun p hp => (List.mem_cons.mp hp).elim (fun e => by rw [e]; exact h) (r p)
end Law

namespace Law
namespace W
open PySem PySem.Spec PyProof.Rows L2 PL
local macro_rules | `(tactic| walk_at "pl") => `(tactic| simp only [sRet, sRetN, sSeq, sNext, sNever, sSet, sPar, sPar3, sIf, sDrop, sFor, sForL, sApp, sAug, sAugIx, sPutD, sSetIx, sTo, sExt, sRem, sBreak, sCont, mAndV, mOrV, mNotV, mAnd, mOr, mNot, mB, mIf, mTru, mCB, mCL, mCall, mC, mVar, mRd, aCons, aNil, mTup, mLst, mLc, mLcK, mLcL, mLcO, mOwn, mDat, m2, ml2, mNeg, mChain, iT, iL, iR1, iR2, iE, iRv, iZ, iET, kIsi, kIsi2, kIx, kI, kIc, kIsN, kIsB, kEqS, kEqB, kLen, kTuple, kList, kInt1, kAbs, kRepL, kMin2, kCatT, kCatL, mGet, mInD, D.key, mLrg, mRevL, mGet2, sPut2, mSlT, mSlL, oNone, oSome, gT, gsC, gsN, env0, wipeE, frz, unOwn, gN, List.length_cons, List.length_nil, List.map_cons, List.map_nil, List.replicate, List.cons_append, List.nil_append, List.append_nil, List.getElem?_cons_zero, List.getElem?_cons_succ, Nat.sub_self, Nat.reduceAdd, Nat.reduceSub, D.ty, D.isN, D.tru, if_true, if_false, Bool.false_eq_true, List.set, id, kAll, iAlt, iET, iE, kRepT, mC, kIx, kEqO, mFld, mSelf])
theorem tame_int' (i : Int) : Tame (.int i) := ⟨(fun z => nomatch z), fun l z => nomatch z⟩
theorem tame_lst (l : List D) : Tame (.lst l) := ⟨(fun z => nomatch z), fun l z => nomatch z⟩
theorem tame_tup (l : List D) : Tame (.tup l) := ⟨(fun z => nomatch z), fun l z => nomatch z⟩
theorem tame_dic (l : List (Key × D)) : Tame (.dic l) := ⟨(fun z => nomatch z), fun l z => nomatch z⟩
theorem tame_non : Tame .non := ⟨(fun z => nomatch z), fun l z => nomatch z⟩
theorem tame_bl (b : Bool) : Tame (.bl b) := ⟨(fun z => nomatch z), fun l z => nomatch z⟩
theorem tame_str (b : Str) : Tame (.str b) := ⟨(fun z => nomatch z), fun l z => nomatch z⟩
theorem btB_int {a b i : Int} (h1 : -1000000000000000000 < i) (h2 : i < 1000000000000000000) : btB a b (.int i) = decide (a ≤ i ∧ i ≤ b) := by
  show (isNum (.int i) && (decide (a ≤ i) && decide (i ≤ b))) = _
  rw [isNum_int, decide_eq_true h1, decide_eq_true h2, Bool.decide_and]; rfl
def X0_ (mg : Str → Option Value) (x : Str) : Exn := (.ref (er mg x), [], [])
theorem encN_len (l : List Nat) : (encN l).length = l.length := by unfold encN; rw [List.length_map]
theorem encN_app (l r : List Nat) : encN (l ++ r) = encN l ++ encN r := by unfold encN; exact List.map_append
def Few (ps : List Nat) : Prop := ps.length < 3000
def parD (ps : List Nat) : List D := .non :: encN ps
theorem parD_at {ps : List Nat} {v : Nat} (h : 0 < v) (hv : v ≤ ps.length) : atI (parD ps) (v : Int) = some (.int (par ps v : Int)) := by
  refine atI_nat ?_
  obtain ⟨k, rfl⟩ : ∃ k, v = k + 1 := ⟨v - 1, by omega⟩
  have hk : k < ps.length := by omega
  show (encN ps)[k]? = _
  unfold encN par
  rw [List.getElem?_map, Nat.add_sub_cancel, List.getElem?_eq_getElem hk]; rfl
theorem btB_ver {a n : Nat} (h : a ≤ n) (hn : n < 3000) : btB 0 (n : Int) (.int (a : Int)) = true := by
  rw [btB_int (by omega) (by omega)]
  exact decide_eq_true (by omega)
def VeR (ps : List Nat) (v : D) (B : Prop) (G : Nat → Prop) : Prop := Tame v ∧ ((btB 0 (ps.length : Int) v = false ∧ B) ∨ ∃ a : Nat, v = .int a ∧ a ≤ ps.length ∧ G a)
theorem VeR.imp {ps : List Nat} {v : D} {B B2 : Prop} {G G2 : Nat → Prop} (hb : B → B2) (hg : ∀ a, G a → G2 a) (h : VeR ps v B G) : VeR ps v B2 G2 := ⟨h.1, Or.imp (fun ⟨x, q⟩ => ⟨x, hb q⟩) (fun ⟨a, x, y, k⟩ => ⟨a, x, y, hg a k⟩) h.2⟩
/-! ### Jumps as data -/
def jL (ps : List Nat) : List Nat := (List.range (ps.length + 1)).map (Ju.Jv ps)
def dL (ps : List Nat) : List Nat := (List.range (ps.length + 1)).map (Ju.dp ps)
theorem jL_at {ps : List Nat} {v : Nat} (h : v ≤ ps.length) : atI (encN (jL ps)) (v : Int) = some (.int (Ju.Jv ps v : Int)) := encN_at (by unfold jL; rw [List.getElem?_map, List.getElem?_range (by omega)]; rfl)
theorem dL_at {ps : List Nat} {v : Nat} (h : v ≤ ps.length) : atI (encN (dL ps)) (v : Int) = some (.int (Ju.dp ps v : Int)) := encN_at (by unfold dL; rw [List.getElem?_map, List.getElem?_range (by omega)]; rfl)
def jNames : List Str := ["_elders", "_jumps", "_depths"]
def juD (mg : Str → Option Value) (ps : List Nat) : D := .ins (er mg "Jumps") jNames [.lst (parD ps), .lst (encN (jL ps)), .lst (encN (dL ps))]
theorem jN1 {a b c : D} : (jNames.zip [a, b, c]).lookup ("_elders" : Str) = some a := rfl
theorem jN2 {a b c : D} : (jNames.zip [a, b, c]).lookup ("_jumps" : Str) = some b := rfl
theorem jN3 {a b c : D} : (jNames.zip [a, b, c]).lookup ("_depths" : Str) = some c := rfl
def JOk (ps : List Nat) : Prop := PsOk ps ∧ Few ps
def S_check_version (mg : Str → Option Value) : XS := fun ds Q X => ∃ (ps : List Nat) (d : D), ds = [.lst (parD ps), d] ∧ Few ps ∧ VeR ps d (X (X0_ mg "BadVersion")) fun _ => Q .non
theorem len_check_version {mg : Str → Option Value} {ds : List D} {Q : D → Prop} {Y : Exn → Prop} (h : S_check_version mg ds Q Y) : ds.length = 2 := by obtain ⟨_, _, e, _⟩ := h; rw [e]; rfl
theorem mono_check_version {mg : Str → Option Value} : MonoX (S_check_version mg) := fun ds P Q Y Z h hx ⟨a, b, e, f, k⟩ => ⟨a, b, e, f, k.imp (hx _) fun _ q => h _ q⟩
def S_Jumps__check (mg : Str → Option Value) : XS := fun ds Q X => ∃ (ps : List Nat) (d : D), ds = [juD mg ps, d] ∧ JOk ps ∧ VeR ps d (X (X0_ mg "BadVersion")) fun _ => Q .non
theorem len_Jumps__check {mg : Str → Option Value} {ds : List D} {Q : D → Prop} {Y : Exn → Prop} (h : S_Jumps__check mg ds Q Y) : ds.length = 2 := by obtain ⟨_, _, e, _⟩ := h; rw [e]; rfl
theorem mono_Jumps__check {mg : Str → Option Value} : MonoX (S_Jumps__check mg) := fun ds P Q Y Z h hx ⟨a, b, e, f, k⟩ => ⟨a, b, e, f, k.imp (hx _) fun _ q => h _ q⟩
def S_Jumps_many (mg : Str → Option Value) (ds : List D) (Q : D → Prop) : Prop := ∃ ps : List Nat, ds = [juD mg ps] ∧ JOk ps ∧ Q (.int ((ps.length + 1 : Nat) : Int))
theorem len_Jumps_many {mg : Str → Option Value} {ds : List D} {Q : D → Prop} (h : S_Jumps_many mg ds Q) : ds.length = 1 := by obtain ⟨_, e, _⟩ := h; rw [e]; rfl
theorem mono_Jumps_many {mg : Str → Option Value} : Mono (S_Jumps_many mg) := fun ds P Q h ⟨a, b, c, k⟩ => ⟨a, b, c, h _ k⟩
def S_Jumps_parents (mg : Str → Option Value) (ds : List D) (Q : D → Prop) : Prop := ∃ ps : List Nat, ds = [juD mg ps] ∧ JOk ps ∧ Q (.tup (parD ps))
theorem len_Jumps_parents {mg : Str → Option Value} {ds : List D} {Q : D → Prop} (h : S_Jumps_parents mg ds Q) : ds.length = 1 := by obtain ⟨_, e, _⟩ := h; rw [e]; rfl
theorem mono_Jumps_parents {mg : Str → Option Value} : Mono (S_Jumps_parents mg) := fun ds P Q h ⟨a, b, c, k⟩ => ⟨a, b, c, h _ k⟩
def S_Jumps_jump (mg : Str → Option Value) : XS := fun ds Q X => ∃ (ps : List Nat) (d : D), ds = [juD mg ps, d] ∧ JOk ps ∧ VeR ps d (X (X0_ mg "BadVersion")) fun a => Q (.int (Ju.Jv ps a : Int))
theorem len_Jumps_jump {mg : Str → Option Value} {ds : List D} {Q : D → Prop} {Y : Exn → Prop} (h : S_Jumps_jump mg ds Q Y) : ds.length = 2 := by obtain ⟨_, _, e, _⟩ := h; rw [e]; rfl
theorem mono_Jumps_jump {mg : Str → Option Value} : MonoX (S_Jumps_jump mg) := fun ds P Q Y Z h hx ⟨a, b, e, f, k⟩ => ⟨a, b, e, f, k.imp (hx _) fun _ q => h _ q⟩
def S_Jumps_up (mg : Str → Option Value) : XS := fun ds Q X => ∃ (ps : List Nat) (d t : D), ds = [juD mg ps, d, t] ∧ JOk ps ∧ VeR ps d (X (X0_ mg "BadVersion")) fun a => Tame t ∧ ((btB 0 (Ju.dp ps a : Int) t = false ∧ X (X0_ mg "BadDepth")) ∨ ∃ b : Nat, t = .int (b : Int) ∧ b ≤ Ju.dp ps a ∧ Q (.tup [.int (Ju.upA ps a b : Int), .int (Ju.steps (Ju.dp ps a) b : Int)]))
theorem len_Jumps_up {mg : Str → Option Value} {ds : List D} {Q : D → Prop} {Y : Exn → Prop} (h : S_Jumps_up mg ds Q Y) : ds.length = 3 := by obtain ⟨_, _, _, e, _⟩ := h; rw [e]; rfl
theorem mono_Jumps_up {mg : Str → Option Value} : MonoX (S_Jumps_up mg) := fun ds P Q Y Z h hx ⟨a, b, c, e, f, k⟩ => ⟨a, b, c, e, f, k.imp (hx _) fun _ q => ⟨q.1, q.2.imp (fun ⟨x, y⟩ => ⟨x, hx _ y⟩) fun ⟨x, y, z, g⟩ => ⟨x, y, z, h _ g⟩⟩⟩
/-- marks by the program's reading -/
def ltL : D → Option (List D)
  | .lst l => some l
  | .tup l => some l
  | _ => none
def intD : D → Int
  | .int i => i
  | _ => 0
def mkGo (ps : List Nat) (l : List D) : Bool := decide (l.length = ps.length + 1) && (l.all (geB 0) && (List.range ps.length).all fun k => decide (intD (l.getD (par ps (k + 1)) .non) ≤ intD (l.getD (k + 1) .non)))
def marksB (ps : List Nat) (d : D) : Bool := match ltL d with
  | some l => mkGo ps l
  | none => false
/-- what may be asked whether it is marks -/
def MkC2 (d : D) : Prop := Tame d ∧ ∀ l, ltL d = some l → l.length ≤ 3001 ∧ ∀ x ∈ l, Tame x
def S_Jumps__are_marks (mg : Str → Option Value) (ds : List D) (Q : D → Prop) : Prop := ∃ (ps : List Nat) (d : D), ds = [juD mg ps, d] ∧ JOk ps ∧ MkC2 d ∧ Q (.bl (marksB ps d))
theorem len_Jumps__are_marks {mg : Str → Option Value} {ds : List D} {Q : D → Prop} (h : S_Jumps__are_marks mg ds Q) : ds.length = 2 := by obtain ⟨_, _, e, _⟩ := h; rw [e]; rfl
theorem mono_Jumps__are_marks {mg : Str → Option Value} : Mono (S_Jumps__are_marks mg) := fun ds P Q h ⟨a, b, c, d, e, k⟩ => ⟨a, b, c, d, e, h _ k⟩
/-- marks that are right -/
def MkR (ps mk : List Nat) (d : D) : Prop := Ju.MkOk ps mk ∧ ltL d = some (encN mk) ∧ ∀ x ∈ mk, x < 1000000000000000000
def S_Jumps_first_with (mg : Str → Option Value) : XS := fun ds Q X => ∃ (ps : List Nat) (d m l : D), ds = [juD mg ps, d, m, l] ∧ JOk ps ∧ VeR ps d (X (X0_ mg "BadVersion")) fun a => MkC2 m ∧ ((marksB ps m = false ∧ X (X0_ mg "BadMarks")) ∨ ∃ mk, MkR ps mk m ∧ Tame l ∧ ((geB 0 l = false ∧ X (X0_ mg "BadLeast")) ∨ ∃ b : Nat, l = .int (b : Int) ∧ b < 1000000000000000000 ∧ (mk.getD a 0 < b → Q .non) ∧ (b ≤ mk.getD a 0 → ∀ w, Ju.IsF ps mk b a w → Q (.int (w : Int)))))
theorem len_Jumps_first_with {mg : Str → Option Value} {ds : List D} {Q : D → Prop} {Y : Exn → Prop} (h : S_Jumps_first_with mg ds Q Y) : ds.length = 4 := by obtain ⟨_, _, _, _, e, _⟩ := h; rw [e]; rfl
theorem mono_Jumps_first_with {mg : Str → Option Value} : MonoX (S_Jumps_first_with mg) := fun ds P Q Y Z h hx ⟨a, b, c, d, e, f, k⟩ => ⟨a, b, c, d, e, f, k.imp (hx _) fun _ q => ⟨q.1, q.2.imp (fun ⟨x, y⟩ => ⟨x, hx _ y⟩) fun ⟨mk, x, y, z⟩ => ⟨mk, x, y, z.imp (fun ⟨x, y⟩ => ⟨x, hx _ y⟩) fun ⟨x, y, z, g, i⟩ => ⟨x, y, z, fun n => h _ (g n), fun n w u => h _ (i n w u)⟩⟩⟩⟩
theorem rng1 (n : Nat) : rng 1 n = ((List.range n).map (· + 1)).map fun k : Nat => D.int (k : Int) := by
  unfold rng
  rw [List.map_map]
  refine List.map_congr_left fun k _ => ?_
  show D.int (1 + (k : Int)) = D.int ((k + 1 : Nat) : Int)
  rw [show (1 : Int) + (k : Int) = ((k + 1 : Nat) : Int) by omega]
theorem geB_nat {b : Nat} (h : b < 1000000000000000000) : geB 0 (.int (b : Int)) = true := by
  have e : geB 0 (.int (b : Int)) = (isNum (.int (b : Int)) && decide ((0 : Int) ≤ (b : Int))) := rfl
  have h1 : -1000000000000000000 < (b : Int) := by omega
  have h2 : (b : Int) < 1000000000000000000 := by omega
  have h3 : (0 : Int) ≤ (b : Int) := by omega
  rw [e, isNum_int, decide_eq_true h1, decide_eq_true h2, decide_eq_true h3]; rfl
theorem marks_ok {ps mk : List Nat} (ok : PsOk ps) (few : Few ps) (M : Ju.MkOk ps mk) (hs : ∀ x ∈ mk, x < 1000000000000000000) : mkGo ps (encN mk) = true := by
  unfold mkGo
  have gd : ∀ v, v ≤ ps.length → (encN mk).getD v .non = .int (mk.getD v 0 : Int) := fun v hv => by
    unfold encN
    rw [List.getD_eq_getElem?_getD, List.getElem?_map, List.getD_eq_getElem?_getD, List.getElem?_eq_getElem (by rw [M.1]; omega)]; rfl
  rw [encN_len, decide_eq_true M.1, Bool.true_and, Bool.and_eq_true]
  refine ⟨List.all_eq_true.mpr fun x hx => ?_, List.all_eq_true.mpr fun k hk => ?_⟩
  · obtain ⟨y, hy, rfl⟩ := List.mem_map.mp hx
    exact geB_nat (hs y hy)
  · rw [List.mem_range] at hk
    have hp := ok (k + 1) (by omega) (by omega)
    have := M.2 (k + 1) (by omega) (by omega)
    rw [gd _ (by omega), gd _ (by omega)]
    show decide ((mk.getD (par ps (k + 1)) 0 : Int) ≤ (mk.getD (k + 1) 0 : Int)) = true
    exact decide_eq_true (by omega)
section
variable {P : Program} {w : World} {K : PySem.W.Frag} {mg : Str → Option Value} {base : Heap} {f : Addr} {fd : FuncData}
theorem ok_check_version {k : Nat} (F : Fun K "check_version" "check_version" s_check_version f fd) (T : Bt mg) (X_BadVersion : Ex0 K mg "BadVersion") (P_is_between : Pr P w K mg base "is_between" k ["value", "least", "most"] (spP CA 0 S_is_between))  : FnOk P w K mg base (L2.CX P w) (k + 1) f fd ["parents", "version"] (spX CA 0 (S_check_version mg)) := by
  refine pl_okX F sc_check_version (fun ds Q Y h => ?_) fun cdv A outer s H E hr hp tk => ?_
  · exact len_check_version h
  have hu := hu_of hr
  refine ⟨_, _, (pss_one (ps_if (pt_not (pt_val (pe_callP P_is_between hr rfl (pa_cons (pv 1) (pa_cons pe_int (pa_cons (pe_op op_sub (pe_callB (r := fun xs H Q => ∃ x n, xs = [x] ∧ LenV K x H n ∧ Q (.int n) H) call_len (by rfl) T.len PySem.boot_len (pa_cons (pv 0) pa_nil)) pe_int) pa_nil)))))) (pss_one (ps_raise rfl tk (pmk_x0 X_BadVersion rfl))) pss_nil)), by decide, fun X0 => ⟨_, (ss_if (st_not (st_tb (se_callA (sa_cons se_var (sa_cons se_int (sa_cons (se_op (SE.r (se_cb (sar_cons sr_var sar_nil) kc_len)) (SE.r se_int) k2_int) sa_nil))) mono_is_between))) ss_raise0 ss_next), fun ds Q h => ?_⟩⟩
  obtain ⟨ps, d, rfl, few, ht, hh⟩ := h
  unfold parD
  have few : ps.length < 3000 := few
  walk_at "pl"
  rw [encN_len, show (((ps.length + 1 : Nat) : Int)) - 1 = (ps.length : Int) by omega]
  rcases hh with ⟨h1, q⟩ | ⟨a, rfl, ha, q⟩
  · exact ⟨_, _, _, rfl, ht, iteT' (by rw [h1]; decide) q⟩
  · refine ⟨_, _, _, rfl, ht, ?_⟩
    rw [btB_ver ha few]
    exact iteF' (by decide) q

theorem ok_Jumps__check {k : Nat} (F : Fun K "_check" "Jumps._check" s_Jumps__check f fd) (T : Bt mg) (T_Jumps : GCls K mg "Jumps") (NA_Jumps__elders : NoAttr K (er mg "Jumps") "_elders") (P_check_version : PrX P w K mg base "check_version" k ["parents", "version"] (spX CA 0 (S_check_version mg)))  : FnOk P w K mg base (L2.CX P w) (k + 1) f fd ["self", "version"] (spX CA 0 (S_Jumps__check mg)) := by
  refine pl_okX F sc_Jumps__check (fun ds Q Y h => ?_) fun cdv A outer s H E hr hp tk => ?_
  · exact len_Jumps__check h
  have hu := hu_of hr
  refine ⟨_, _, (pss_one (ps_expr (pe_callX P_check_version hr tk rfl (pa_cons (pe_fld (pv 0) rfl) (pa_cons (pv 1) pa_nil))))), by decide, fun X0 => ⟨_, (ss_drop (se_callXA (sa_cons (se_fld T_Jumps.cl NA_Jumps__elders se_var) (sa_cons se_var sa_nil)) mono_check_version)), fun ds Q h => ?_⟩⟩
  obtain ⟨ps, d, rfl, ⟨ok, few⟩, hh⟩ := h
  unfold juD
  walk_at "pl"
  exact ⟨_, _, _, rfl, jN1, ps, d, rfl, few, hh⟩

theorem ok_Jumps_many {k : Nat} (F : Fun K "many" "Jumps.many" s_Jumps_many f fd) (T : Bt mg) (T_Jumps : GCls K mg "Jumps") (NA_Jumps__elders : NoAttr K (er mg "Jumps") "_elders")  : FnOk P w K mg base CX0 (k + 1) f fd ["self"] (spP CA 0 (S_Jumps_many mg)) := by
  refine pl_ok F sc_Jumps_many (fun ds Q h => ?_) fun cdv A outer s H E hr => ?_
  · exact len_Jumps_many h
  have hu := hu_of hr
  refine ⟨_, _, _, (pss_one (ps_ret (pe_callB (r := fun xs H Q => ∃ x n, xs = [x] ∧ LenV K x H n ∧ Q (.int n) H) call_len (by rfl) T.len PySem.boot_len (pa_cons (pe_fld (pv 0) rfl) pa_nil)))), (ss_ret (se_cb (sar_cons (SE.r (se_fld T_Jumps.cl NA_Jumps__elders se_var)) sar_nil) kc_len)), by decide, fun ds Q h => ?_⟩
  obtain ⟨ps, rfl, ok, q⟩ := h
  unfold juD
  walk_at "pl"
  refine ⟨_, _, _, rfl, jN1, ?_⟩
  unfold parD
  dsimp only
  rw [List.length_cons, encN_len]
  exact q

theorem ok_Jumps_parents {k : Nat} (F : Fun K "parents" "Jumps.parents" s_Jumps_parents f fd) (T : Bt mg) (T_Jumps : GCls K mg "Jumps") (NA_Jumps__elders : NoAttr K (er mg "Jumps") "_elders")  : FnOk P w K mg base CX0 (k + 1) f fd ["self"] (spP CA 0 (S_Jumps_parents mg)) := by
  refine pl_ok F sc_Jumps_parents (fun ds Q h => ?_) fun cdv A outer s H E hr => ?_
  · exact len_Jumps_parents h
  have hu := hu_of hr
  refine ⟨_, _, _, (pss_one (ps_ret (pe_callTy (T := "tuple") (r := rTupleOf K) call_tuple_of (by rfl) T.tuple (by decide +kernel) (pa_cons (pe_fld (pv 0) rfl) pa_nil)))), (ss_ret (se_cb (sar_cons (SE.r (se_fld T_Jumps.cl NA_Jumps__elders se_var)) sar_nil) kc_tuple)), by decide, fun ds Q h => ?_⟩
  obtain ⟨ps, rfl, ok, q⟩ := h
  unfold juD
  walk_at "pl"
  exact ⟨_, _, _, rfl, jN1, q⟩

theorem ok_Jumps_jump {k : Nat} (F : Fun K "jump" "Jumps.jump" s_Jumps_jump f fd) (T : Bt mg) (T_Jumps : GCls K mg "Jumps") (NA_Jumps__jumps : NoAttr K (er mg "Jumps") "_jumps") (MT_Jumps__check : MtX P w K mg base (er mg "Jumps") "_check" k ["self", "version"] (spX CA 0 (S_Jumps__check mg)))   : FnOk P w K mg base (L2.CX P w) (k + 1) f fd ["self", "version"] (spX CA 0 (S_Jumps_jump mg)) := by
  refine pl_okX F sc_Jumps_jump (fun ds Q Y h => ?_) fun cdv A outer s H E hr hp tk => ?_
  · exact len_Jumps_jump h
  have hu := hu_of hr
  refine ⟨_, _, (pss_cons (ps_expr (pe_methX T_Jumps.cl MT_Jumps__check hr tk (pv 0) (pa_cons (pv 1) pa_nil)))
  (pss_one (ps_ret (pe_ix (show IxR _ (rIx K) from ix_seq) (pe_fld (pv 0) rfl) (pv 1) (fun _ _ => rfl))))), by decide, fun X0 => ⟨_, (ss_seq (ss_drop (se_methX se_var (sa_cons se_var sa_nil) mono_Jumps__check))
  (ss_ret (se_op (SE.r (se_fld T_Jumps.cl NA_Jumps__jumps se_var)) sr_var k2_ix))), fun ds Q h => ?_⟩⟩
  obtain ⟨ps, d, rfl, ⟨ok, few⟩, ht, hh⟩ := h
  walk_at "pl"
  have ej : juD mg ps = .ins (er mg "Jumps") jNames [.lst (parD ps), .lst (encN (jL ps)), .lst (encN (dL ps))] := rfl
  refine ⟨jNames, _, ej, by decide, ps, d, rfl, ⟨ok, few⟩, ht, ?_⟩
  rcases hh with ⟨h1, q⟩ | ⟨a, rfl, ha, q⟩
  · exact .inl ⟨h1, q⟩
  refine .inr ⟨a, rfl, ha, ?_⟩
  have few' : ps.length < 3000 := few
  have hsl := sizeLine_eq
  refine ⟨jNames, _, _, ej, jN2, ?_⟩
  dsimp only
  rw [jL_at ha]
  exact q

theorem ok_Jumps_up {k : Nat} (F : Fun K "up" "Jumps.up" s_Jumps_up f fd) (T : Bt mg) (X_BadDepth : Ex0 K mg "BadDepth") (T_Jumps : GCls K mg "Jumps") (NA_Jumps__depths : NoAttr K (er mg "Jumps") "_depths") (NA_Jumps__jumps : NoAttr K (er mg "Jumps") "_jumps") (NA_Jumps__elders : NoAttr K (er mg "Jumps") "_elders") (MT_Jumps__check : MtX P w K mg base (er mg "Jumps") "_check" k ["self", "version"] (spX CA 0 (S_Jumps__check mg))) (P_is_between : Pr P w K mg base "is_between" k ["value", "least", "most"] (spP CA 0 S_is_between))  : FnOk P w K mg base (L2.CX P w) (k + 1) f fd ["self", "version", "depth"] (spX CA 0 (S_Jumps_up mg)) := by
  refine pl_okX F sc_Jumps_up (fun ds Q Y h => ?_) fun cdv A outer s H E hr hp tk => ?_
  · exact len_Jumps_up h
  have hu := hu_of hr
  refine ⟨_, _, (pss_cons (ps_expr (pe_methX T_Jumps.cl MT_Jumps__check hr tk (pv 0) (pa_cons (pv 1) pa_nil)))
  (pss_cons (ps_if (pt_not (pt_val (pe_callP P_is_between hr rfl (pa_cons (pv 2) (pa_cons pe_int (pa_cons (pe_ix (show IxR _ (rIx K) from ix_seq) (pe_fld (pv 0) rfl) (pv 1) (fun _ _ => rfl)) pa_nil)))))) (pss_one (ps_raise rfl tk (pmk_x0 X_BadDepth rfl))) pss_nil)
  (pss_cons (ps_set (i := 3) sc_Jumps_up.nd rfl (Or.inl rfl) pe_int)
  (pss_cons (ps_while hp (pt_cmpR op_gt (pe_ix (show IxR _ (rIx K) from ix_seq) (pe_fld (pv 0) rfl) (pv 1) (fun _ _ => rfl)) (pv 2) (nomark _)) (pss_cons (ps_set (i := 4) sc_Jumps_up.nd rfl (Or.inl rfl) (pe_ix (show IxR _ (rIx K) from ix_seq) (pe_fld (pv 0) rfl) (pv 1) (fun _ _ => rfl)))
  (pss_cons (ps_set (i := 1) sc_Jumps_up.nd rfl (Or.inl rfl) (pe_ifExp (pt_cmpR op_ge (pe_ix (show IxR _ (rIx K) from ix_seq) (pe_fld (pv 0) rfl) (pv 4) (fun _ _ => rfl)) (pv 2) (nomark _)) (pv 4) (pe_ix (show IxR _ (rIx K) from ix_seq) (pe_fld (pv 0) rfl) (pv 1) (fun _ _ => rfl))))
  (pss_one (ps_aug (i := 3) sc_Jumps_up.nd rfl (Or.inl rfl) pe_int ip_add)))))
  (pss_one (ps_ret (pe_tup (pa_cons (pv 1) (pa_cons (pv 3) pa_nil))))))))), by decide, fun X0 => ⟨_, (ss_seq (ss_drop (se_methX se_var (sa_cons se_var sa_nil) mono_Jumps__check))
  (ss_seq (ss_if (st_not (st_tb (se_callA (sa_cons se_var (sa_cons se_int (sa_cons (se_op (SE.r (se_fld T_Jumps.cl NA_Jumps__depths se_var)) sr_var k2_ix) sa_nil))) mono_is_between))) ss_raise0 ss_next)
  (ss_seq (ss_set (SE.x se_int))
  (ss_seq (ss_while (st_b (se_op (SE.r (se_op (SE.r (se_fld T_Jumps.cl NA_Jumps__depths se_var)) sr_var k2_ix)) sr_var k2_bl)) (ss_seq (ss_set (SE.x (se_op (SE.r (se_fld T_Jumps.cl NA_Jumps__jumps se_var)) sr_var k2_ix)))
  (ss_seq (ss_set (SE.x (se_if (st_b (se_op (SE.r (se_op (SE.r (se_fld T_Jumps.cl NA_Jumps__depths se_var)) sr_var k2_ix)) sr_var k2_bl)) se_var (se_op (SE.r (se_fld T_Jumps.cl NA_Jumps__elders se_var)) sr_var k2_ix))))
  (ss_aug se_int))))
  (ss_ret (se_tup (sa_cons se_var (sa_cons se_var sa_nil)))))))), fun ds Q h => ?_⟩⟩
  obtain ⟨ps, d, t, rfl, ⟨ok, few⟩, ht, hh⟩ := h
  walk_at "pl"
  have ej : juD mg ps = .ins (er mg "Jumps") jNames [.lst (parD ps), .lst (encN (jL ps)), .lst (encN (dL ps))] := rfl
  refine ⟨jNames, _, ej, by decide, ps, d, rfl, ⟨ok, few⟩, ht, ?_⟩
  rcases hh with ⟨h1, q⟩ | ⟨a, rfl, ha, q⟩
  · exact .inl ⟨h1, q⟩
  refine .inr ⟨a, rfl, ha, ?_⟩
  have few' : ps.length < 3000 := few
  have hsl := sizeLine_eq
  have hda := Ju.dp_le ok a ha
  refine ⟨jNames, _, _, ej, jN3, ?_⟩
  dsimp only
  rw [dL_at ha]
  dsimp only
  obtain ⟨tt, q⟩ := q
  refine ⟨t, 0, _, rfl, tt, ?_⟩
  rcases q with ⟨h0, q⟩ | ⟨b, et, hb, q⟩
  · rw [h0]
    exact iteT' rfl q
  subst et
  rw [btB_ver hb (by omega)]
  refine iteF' Bool.false_ne_true ?_
  refine ⟨fun n e => ∃ (v s : Nat) (x : Sv), n = v ∧ v ≤ ps.length ∧ b ≤ Ju.dp ps v ∧ Ju.upA ps v b = Ju.upA ps a b ∧ s + Ju.steps (Ju.dp ps v) b = Ju.steps (Ju.dp ps a) b ∧ e = [.dat (juD mg ps), .dat (.int (v : Int)), .dat (.int (b : Int)), .dat (.int (s : Int)), x], ⟨_, a, 0, .un, rfl, ha, hb, rfl, Nat.zero_add _, rfl⟩, fun n e ⟨v, s', x, hn, hv, hbv, hu2, hs, ee⟩ => ?_⟩
  subst ee
  walk_at "pl"
  refine ⟨jNames, _, _, ej, jN3, ?_⟩
  dsimp only
  rw [dL_at hv]
  dsimp only
  by_cases hlt : b < Ju.dp ps v
  · refine iteT' (decide_eq_true (by omega)) ⟨jNames, _, _, ej, jN2, ?_⟩
    dsimp only
    rw [jL_at hv]
    dsimp only
    obtain ⟨u1, u2, h0⟩ := Ju.upA_step ok hv hlt
    obtain ⟨j1, j2⟩ := Ju.Jv_ok ok hv
    have jl := Ju.Jv_lt ok h0 hv
    have hp := ok v h0 hv
    have hd := Ju.dp_par ok h0 hv
    have sg := Ju.steps_go hlt
    refine ⟨jNames, _, _, ej, jN3, ?_⟩
    dsimp only
    rw [dL_at (by omega : Ju.Jv ps v ≤ ps.length)]
    dsimp only
    by_cases hj : b ≤ Ju.dp ps (Ju.Jv ps v)
    · refine iteT' (decide_eq_true (by omega)) ?_
      rw [if_pos (by omega : b ≤ Ju.jd (Ju.dp ps v)), ← j1] at sg
      exact ⟨Ju.Jv ps v, by omega, Ju.Jv ps v, s' + 1, _, rfl, by omega, hj, (u1 hj).trans hu2, by omega, rfl⟩
    · refine iteF' (by rw [decide_eq_false (by omega)]; decide) ⟨jNames, _, _, ej, jN1, ?_⟩
      dsimp only
      rw [parD_at h0 hv]
      dsimp only
      rw [if_neg (by omega : ¬ b ≤ Ju.jd (Ju.dp ps v)), show Ju.dp ps v - 1 = Ju.dp ps (par ps v) by omega] at sg
      exact ⟨par ps v, by omega, par ps v, s' + 1, _, rfl, by omega, by omega, u2.trans hu2, by omega, rfl⟩
  · refine iteF' (by rw [decide_eq_false (by omega)]; decide) ?_
    have e1 : Ju.dp ps v = b := by omega
    have e2 : Ju.upA ps v b = v := by rw [← e1]; exact Ju.upA_self
    have e3 : s' = Ju.steps (Ju.dp ps a) b := by rw [Ju.steps_le (by omega)] at hs; omega
    refine ⟨by omega, ?_⟩
    rw [← hu2, e2, ← e3] at q
    exact q

theorem ok_Jumps__are_marks {k : Nat} (F : Fun K "_are_marks" "Jumps._are_marks" s_Jumps__are_marks f fd) (T : Bt mg) (T_Jumps : GCls K mg "Jumps") (NA_Jumps__elders : NoAttr K (er mg "Jumps") "_elders") (P_is_list : Pr P w K mg base "is_list" k ["value"] (spP CA 0 S_is_list)) (P_is_from : Pr P w K mg base "is_from" k ["value", "least"] (spP CA 0 S_is_from)) : FnOk P w K mg base CX0 (k + 1) f fd ["self", "marks"] (spP CA 0 (S_Jumps__are_marks mg)) := by
  refine pl_ok F sc_Jumps__are_marks (fun ds Q h => ?_) fun cdv A outer s H E hr => ?_
  · exact len_Jumps__are_marks h
  have hu := hu_of hr
  refine ⟨_, _, _, (pss_cons (ps_if (PW.pt (pw_or (pt_not (pt_val (pe_callP P_is_list hr rfl (pa_cons (pv 1) pa_nil)))) (pw_or (pt_cmpR op_ne (pe_callB (r := fun xs H Q => ∃ x n, xs = [x] ∧ LenV K x H n ∧ Q (.int n) H) call_len (by rfl) T.len PySem.boot_len (pa_cons (pv 1) pa_nil)) (pe_callB (r := fun xs H Q => ∃ x n, xs = [x] ∧ LenV K x H n ∧ Q (.int n) H) call_len (by rfl) T.len PySem.boot_len (pa_cons (pe_fld (pv 0) rfl) pa_nil)) (nomark _)) (pw_or1 (pt_not (pt_val (pe_callB (cr_all rfl) (by rfl) T.all (by decide +kernel) (pa_cons (pe_lc (own := [("mark", 3)]) (g := (gName 3)) (tt := tYes) rfl sc_Jumps__are_marks.nd (pi_alt (pi_list (pv 1)) (pi_tup (pv 1))) (blkOk_by (own := [("mark", 3)]) (N := ["self", "marks", "at", "mark"]) (sc := defScope s_Jumps__are_marks) (by decide +kernel)) (fun _ _ _ _ _ => (pg_name (i := 3) sc_Jumps__are_marks.nd rfl (Or.inl rfl))) (fun _ _ _ _ _ => pts_nil) (fun _ _ _ _ _ => (pe_callP P_is_from hr rfl (pa_cons (pv 3) (pa_cons pe_int pa_nil))))) pa_nil)))))))) (pss_one (ps_ret pe_bl)) pss_nil)
  (pss_one (ps_ret (pe_callB (cr_all rfl) (by rfl) T.all (by decide +kernel) (pa_cons (pe_lc (own := [("at", 2)]) (g := (gName 2)) (tt := tYes) rfl sc_Jumps__are_marks.nd (pi_range2 (by rfl) T.range (pa_cons pe_int (pa_cons (pe_callB (r := fun xs H Q => ∃ x n, xs = [x] ∧ LenV K x H n ∧ Q (.int n) H) call_len (by rfl) T.len PySem.boot_len (pa_cons (pv 1) pa_nil)) pa_nil))) (blkOk_by (own := [("at", 2)]) (N := ["self", "marks", "at", "mark"]) (sc := defScope s_Jumps__are_marks) (by decide +kernel)) (fun _ _ _ _ _ => (pg_name (i := 2) sc_Jumps__are_marks.nd rfl (Or.inl rfl))) (fun _ _ _ _ _ => pts_nil) (fun _ _ _ _ _ => (pe_cmpR op_le (pe_ix (show IxR _ (rIx K) from ix_seq) (pv 1) (pe_ix (show IxR _ (rIx K) from ix_seq) (pe_fld (pv 0) rfl) (pv 2) (fun _ _ => rfl)) (fun _ _ => rfl)) (pe_ix (show IxR _ (rIx K) from ix_seq) (pv 1) (pv 2) (fun _ _ => rfl)) (nomark _)))) pa_nil))))), (ss_seq (ss_if (st_or (st_not (st_tb (se_callA (sa_cons se_var sa_nil) mono_is_list))) (st_or (st_b (se_op (SE.r (se_cb (sar_cons sr_var sar_nil) kc_len)) (SE.r (se_cb (sar_cons (SE.r (se_fld T_Jumps.cl NA_Jumps__elders se_var)) sar_nil) kc_len)) k2_neS)) (st_not (st_tb (se_cb (sar_cons (SE.r (SL.e (sl_lc (si_alt (si_list se_var) (si_tup se_var)) (sg_name (i := 3)) st_yes' (se_callA (sa_cons se_var (sa_cons se_int sa_nil)) mono_is_from)))) sar_nil) kc_all))))) (ss_ret se_bl) ss_next)
  (ss_ret (se_cb (sar_cons (SE.r (SL.e (sl_lc (si_rng2 (sa_cons se_int (sa_cons (se_cb (sar_cons sr_var sar_nil) kc_len) sa_nil))) (sg_name (i := 2)) st_yes' (se_op (SE.r (se_op sr_var (SE.r (se_op (SE.r (se_fld T_Jumps.cl NA_Jumps__elders se_var)) sr_var k2_ix)) k2_ix)) (SE.r (se_op sr_var sr_var k2_ix)) k2_bl)))) sar_nil) kc_all))), by decide, fun ds Q h => ?_⟩
  obtain ⟨ps, d, rfl, ⟨ok, few⟩, ⟨ht, hl⟩, q⟩ := h
  have ej : juD mg ps = .ins (er mg "Jumps") jNames [.lst (parD ps), .lst (encN (jL ps)), .lst (encN (dL ps))] := rfl
  have few' : ps.length < 3000 := few
  have hsl := sizeLine_eq
  walk_at "pl"
  cases d with
  | opq v => exact absurd rfl ht.1
  | exc a b c => exact absurd rfl ht.1
  | lam a b => exact absurd rfl ht.1
  | ins a b c => exact absurd rfl ht.1
  | ftp l => exact absurd rfl (ht.2 l)
  | lst l =>
    obtain ⟨h3001, hx⟩ := hl l rfl
    refine ⟨.lst l, rfl, ht, iteF' Bool.false_ne_true ?_⟩
    try dsimp only
    refine ⟨jNames, _, _, ej, jN1, ?_⟩
    unfold parD
    try dsimp only
    rw [List.length_cons, encN_len]
    have q : Q (.bl (mkGo ps l)) := q
    unfold mkGo at q
    by_cases h1 : l.length = ps.length + 1
    · rw [decide_eq_true h1, Bool.true_and] at q
      refine iteF' (by rw [decide_eq_true (by omega)]; exact Bool.false_ne_true) (.inl ?_)
      try dsimp only
      refine lcP_map (fun x => .bl (geB 0 x)) _ _ _ (fun x hxm R hR => ⟨x, 0, rfl, hx x hxm, hR⟩) (lineLe (by show 0 + _ ≤ _; omega)) ⟨l.map (geB 0), by rw [List.nil_append, List.map_map]; rfl, ?_⟩
      rw [List.all_map]
      cases ha : l.all (geB 0) with
      | false =>
        rw [ha, Bool.false_and] at q
        exact iteT' (by show (!(l.all (geB 0))) = true; rw [ha]; rfl) q
      | true =>
        rw [ha, Bool.true_and] at q
        refine iteF' (by show ¬ (!(l.all (geB 0))) = true; rw [ha]; exact Bool.false_ne_true) ?_
        have hin : ∀ k, k < l.length → ∃ i : Int, l[k]? = some (.int i) := fun k hk => by
          have hm := List.getElem?_eq_getElem hk
          have hg := List.all_eq_true.mp ha _ (List.mem_of_getElem? hm)
          generalize l[k] = y at hm hg
          cases y with
          | int i => exact ⟨i, hm⟩
          | _ => cases hg
        try dsimp only
        rw [h1, show (((ps.length + 1 : Nat) : Int) - 1).toNat = ps.length by omega, rng1]
        refine ⟨⟨by decide, by decide, by omega, by omega⟩, ?_⟩
        refine lcP_enc (fun k : Nat => D.int (k : Int)) (fun k => .bl (decide (intD (l.getD (par ps k) .non) ≤ intD (l.getD k .non)))) _ [] _ (fun k hk R hR => ?_) (lineLe (by rw [List.length_map, List.length_range]; show 0 + _ ≤ _; omega)) ⟨((List.range ps.length).map (fun k : Nat => k + 1)).map fun k => decide (intD (l.getD (par ps k) .non) ≤ intD (l.getD k .non)), by rw [List.nil_append, List.map_map (f := fun k : Nat => decide (intD (l.getD (par ps k) .non) ≤ intD (l.getD k .non)))]; rfl, ?_⟩
        · obtain ⟨k', hk', rfl⟩ := List.mem_map.mp hk
          rw [List.mem_range] at hk'
          have hp := ok (k' + 1) (by omega) (by omega)
          obtain ⟨x1, hx1⟩ := hin (par ps (k' + 1)) (by omega)
          obtain ⟨x2, hx2⟩ := hin (k' + 1) (by omega)
          rw [List.getD_eq_getElem?_getD, List.getD_eq_getElem?_getD, hx1, hx2] at hR
          walk_at "pl"
          refine ⟨jNames, _, _, ej, jN1, ?_⟩
          dsimp only
          rw [parD_at (by omega) (by omega)]
          dsimp only
          rw [atI_nat hx1, atI_nat hx2]
          exact hR
        · rw [List.map_map, List.all_map]
          exact q
    · rw [decide_eq_false h1, Bool.false_and] at q
      exact iteT' (by rw [decide_eq_false (by omega)]; rfl) q
  | tup l =>
    obtain ⟨h3001, hx⟩ := hl l rfl
    refine ⟨.tup l, rfl, ht, iteF' Bool.false_ne_true ?_⟩
    try dsimp only
    refine ⟨jNames, _, _, ej, jN1, ?_⟩
    unfold parD
    try dsimp only
    rw [List.length_cons, encN_len]
    have q : Q (.bl (mkGo ps l)) := q
    unfold mkGo at q
    by_cases h1 : l.length = ps.length + 1
    · rw [decide_eq_true h1, Bool.true_and] at q
      refine iteF' (by rw [decide_eq_true (by omega)]; exact Bool.false_ne_true) (.inr ?_)
      try dsimp only
      refine lcP_map (fun x => .bl (geB 0 x)) _ _ _ (fun x hxm R hR => ⟨x, 0, rfl, hx x hxm, hR⟩) (lineLe (by show 0 + _ ≤ _; omega)) ⟨l.map (geB 0), by rw [List.nil_append, List.map_map]; rfl, ?_⟩
      rw [List.all_map]
      cases ha : l.all (geB 0) with
      | false =>
        rw [ha, Bool.false_and] at q
        exact iteT' (by show (!(l.all (geB 0))) = true; rw [ha]; rfl) q
      | true =>
        rw [ha, Bool.true_and] at q
        refine iteF' (by show ¬ (!(l.all (geB 0))) = true; rw [ha]; exact Bool.false_ne_true) ?_
        have hin : ∀ k, k < l.length → ∃ i : Int, l[k]? = some (.int i) := fun k hk => by
          have hm := List.getElem?_eq_getElem hk
          have hg := List.all_eq_true.mp ha _ (List.mem_of_getElem? hm)
          generalize l[k] = y at hm hg
          cases y with
          | int i => exact ⟨i, hm⟩
          | _ => cases hg
        try dsimp only
        rw [h1, show (((ps.length + 1 : Nat) : Int) - 1).toNat = ps.length by omega, rng1]
        refine ⟨⟨by decide, by decide, by omega, by omega⟩, ?_⟩
        refine lcP_enc (fun k : Nat => D.int (k : Int)) (fun k => .bl (decide (intD (l.getD (par ps k) .non) ≤ intD (l.getD k .non)))) _ [] _ (fun k hk R hR => ?_) (lineLe (by rw [List.length_map, List.length_range]; show 0 + _ ≤ _; omega)) ⟨((List.range ps.length).map (fun k : Nat => k + 1)).map fun k => decide (intD (l.getD (par ps k) .non) ≤ intD (l.getD k .non)), by rw [List.nil_append, List.map_map (f := fun k : Nat => decide (intD (l.getD (par ps k) .non) ≤ intD (l.getD k .non)))]; rfl, ?_⟩
        · obtain ⟨k', hk', rfl⟩ := List.mem_map.mp hk
          rw [List.mem_range] at hk'
          have hp := ok (k' + 1) (by omega) (by omega)
          obtain ⟨x1, hx1⟩ := hin (par ps (k' + 1)) (by omega)
          obtain ⟨x2, hx2⟩ := hin (k' + 1) (by omega)
          rw [List.getD_eq_getElem?_getD, List.getD_eq_getElem?_getD, hx1, hx2] at hR
          walk_at "pl"
          refine ⟨jNames, _, _, ej, jN1, ?_⟩
          dsimp only
          rw [parD_at (by omega) (by omega)]
          dsimp only
          rw [atI_nat hx1, atI_nat hx2]
          exact hR
        · rw [List.map_map, List.all_map]
          exact q
    · rw [decide_eq_false h1, Bool.false_and] at q
      exact iteT' (by rw [decide_eq_false (by omega)]; rfl) q
  | _ => exact ⟨_, rfl, ht, iteT' rfl q⟩

theorem ok_Jumps_first_with {k : Nat} (F : Fun K "first_with" "Jumps.first_with" s_Jumps_first_with f fd) (T : Bt mg) (X_BadMarks : Ex0 K mg "BadMarks") (X_BadLeast : Ex0 K mg "BadLeast") (T_Jumps : GCls K mg "Jumps") (NA_Jumps__jumps : NoAttr K (er mg "Jumps") "_jumps") (NA_Jumps__elders : NoAttr K (er mg "Jumps") "_elders") (MT_Jumps__check : MtX P w K mg base (er mg "Jumps") "_check" k ["self", "version"] (spX CA 0 (S_Jumps__check mg))) (MT_Jumps__are_marks : MtP P w K mg base (er mg "Jumps") "_are_marks" k ["self", "marks"] (spP CA 0 (S_Jumps__are_marks mg))) (P_is_from : Pr P w K mg base "is_from" k ["value", "least"] (spP CA 0 S_is_from))  : FnOk P w K mg base (L2.CX P w) (k + 1) f fd ["self", "version", "marks", "least"] (spX CA 0 (S_Jumps_first_with mg)) := by
  refine pl_okX F sc_Jumps_first_with (fun ds Q Y h => ?_) fun cdv A outer s H E hr hp tk => ?_
  · exact len_Jumps_first_with h
  have hu := hu_of hr
  refine ⟨_, _, (pss_cons (ps_expr (pe_methX T_Jumps.cl MT_Jumps__check hr tk (pv 0) (pa_cons (pv 1) pa_nil)))
  (pss_cons (ps_if (pt_not (pt_val (pe_methP T_Jumps.cl MT_Jumps__are_marks hr (pv 0) (pa_cons (pv 2) pa_nil)))) (pss_one (ps_raise rfl tk (pmk_x0 X_BadMarks rfl))) pss_nil)
  (pss_cons (ps_if (pt_not (pt_val (pe_callP P_is_from hr rfl (pa_cons (pv 3) (pa_cons pe_int pa_nil))))) (pss_one (ps_raise rfl tk (pmk_x0 X_BadLeast rfl))) pss_nil)
  (pss_cons (ps_if (pt_cmpR op_lt (pe_ix (show IxR _ (rIx K) from ix_seq) (pv 2) (pv 1) (fun _ _ => rfl)) (pv 3) (nomark _)) (pss_one (ps_ret pe_non)) pss_nil)
  (pss_cons (ps_while hp (PW.pt (pw_and (pt_cmpR op_gt (pv 1) pe_int (nomark _)) (pw_and1 (pt_cmpR op_ge (pe_ix (show IxR _ (rIx K) from ix_seq) (pv 2) (pe_ix (show IxR _ (rIx K) from ix_seq) (pe_fld (pv 0) rfl) (pv 1) (fun _ _ => rfl)) (fun _ _ => rfl)) (pv 3) (nomark _))))) (pss_cons (ps_set (i := 4) sc_Jumps_first_with.nd rfl (Or.inl rfl) (pe_ix (show IxR _ (rIx K) from ix_seq) (pe_fld (pv 0) rfl) (pv 1) (fun _ _ => rfl)))
  (pss_one (ps_set (i := 1) sc_Jumps_first_with.nd rfl (Or.inl rfl) (pe_ifExp (pt_cmpR op_ge (pe_ix (show IxR _ (rIx K) from ix_seq) (pv 2) (pv 4) (fun _ _ => rfl)) (pv 3) (nomark _)) (pv 4) (pe_ix (show IxR _ (rIx K) from ix_seq) (pe_fld (pv 0) rfl) (pv 1) (fun _ _ => rfl)))))))
  (pss_one (ps_ret (pv 1)))))))), by decide, fun X0 => ⟨_, (ss_seq (ss_drop (se_methX se_var (sa_cons se_var sa_nil) mono_Jumps__check))
  (ss_seq (ss_if (st_not (st_tb (se_methP se_var (sa_cons se_var sa_nil) mono_Jumps__are_marks))) ss_raise0 ss_next)
  (ss_seq (ss_if (st_not (st_tb (se_callA (sa_cons se_var (sa_cons se_int sa_nil)) mono_is_from))) ss_raise0 ss_next)
  (ss_seq (ss_if (st_b (se_op (SE.r (se_op sr_var sr_var k2_ix)) sr_var k2_bl)) (ss_ret se_non) ss_next)
  (ss_seq (ss_while (st_and (st_b (se_op sr_var (SE.r se_int) k2_bl)) (st_b (se_op (SE.r (se_op sr_var (SE.r (se_op (SE.r (se_fld T_Jumps.cl NA_Jumps__elders se_var)) sr_var k2_ix)) k2_ix)) sr_var k2_bl))) (ss_seq (ss_set (SE.x (se_op (SE.r (se_fld T_Jumps.cl NA_Jumps__jumps se_var)) sr_var k2_ix)))
  (ss_set (SE.x (se_if (st_b (se_op (SE.r (se_op sr_var sr_var k2_ix)) sr_var k2_bl)) se_var (se_op (SE.r (se_fld T_Jumps.cl NA_Jumps__elders se_var)) sr_var k2_ix))))))
  (ss_ret se_var)))))), fun ds Q h => ?_⟩⟩
  obtain ⟨ps, d, m, l, rfl, ⟨ok, few⟩, ht, hh⟩ := h
  walk_at "pl"
  have ej : juD mg ps = .ins (er mg "Jumps") jNames [.lst (parD ps), .lst (encN (jL ps)), .lst (encN (dL ps))] := rfl
  refine ⟨jNames, _, ej, by decide, ps, d, rfl, ⟨ok, few⟩, ht, ?_⟩
  rcases hh with ⟨h1, q⟩ | ⟨a, rfl, ha, q⟩
  · exact .inl ⟨h1, q⟩
  refine .inr ⟨a, rfl, ha, ?_⟩
  have few' : ps.length < 3000 := few
  have hsl := sizeLine_eq
  refine ⟨jNames, _, ej, by decide, ps, m, rfl, ⟨ok, few⟩, q.1, ?_⟩
  rcases q.2 with ⟨h0, q⟩ | ⟨mk, ⟨M, hlt, hsm⟩, tl, q⟩
  · rw [h0]
    exact iteT' rfl q
  have mb : marksB ps m = true := by
    unfold marksB
    rw [hlt]
    exact marks_ok ok few M hsm
  rw [mb]
  refine iteF' Bool.false_ne_true ⟨l, 0, rfl, tl, ?_⟩
  rcases q with ⟨h0, q⟩ | ⟨b, et, hb, q1, q2⟩
  · rw [h0]
    exact iteT' rfl q
  subst et
  rw [geB_nat hb]
  refine iteF' Bool.false_ne_true ?_
  have mat : ∀ v, v ≤ ps.length → atI (encN mk) (v : Int) = some (.int (mk.getD v 0 : Int)) := fun v hv => encN_at (by rw [List.getD_eq_getElem?_getD, List.getElem?_eq_getElem (by rw [M.1]; omega)]; rfl)
  have mm : m = .lst (encN mk) ∨ m = .tup (encN mk) := by
    cases m with
    | lst l => exact .inl (by rw [Option.some.inj hlt])
    | tup l => exact .inr (by rw [Option.some.inj hlt])
    | _ => cases hlt
  rcases mm with rfl | rfl
  · try dsimp only
    rw [mat a ha]
    try dsimp only
    by_cases hlt2 : mk.getD a 0 < b
    · exact iteT' (decide_eq_true (by omega)) (q1 hlt2)
    refine iteF' (by rw [decide_eq_false (by omega)]; exact Bool.false_ne_true) ?_
    refine ⟨fun n e => ∃ (v : Nat) (x : Sv), n = v ∧ v ≤ ps.length ∧ b ≤ mk.getD v 0 ∧ (∀ w, Ju.IsF ps mk b v w → Ju.IsF ps mk b a w) ∧ e = [.dat (juD mg ps), .dat (.int (v : Int)), .dat (.lst (encN mk)), .dat (.int (b : Int)), x], ⟨_, a, .un, rfl, ha, by omega, fun w h => h, rfl⟩, fun n e ⟨v, x, hn, hv, hbv, hF, ee⟩ => ?_⟩
    subst ee
    walk_at "pl"
    have fin : (v = 0 ∨ mk.getD (par ps v) 0 < b) → Q (.int (v : Int)) := fun z => q2 (by omega) v (hF v ⟨by obtain ⟨t, et⟩ := Mt.self ok hv; rw [et]; exact List.mem_cons_self, hbv, z⟩)
    by_cases v0 : 0 < v
    · have hp := ok v v0 hv
      have jl := Ju.Jv_lt ok v0 hv
      refine iteT' (decide_eq_true (by omega)) ⟨jNames, _, _, ej, jN1, ?_⟩
      try dsimp only
      rw [parD_at v0 hv]
      try dsimp only
      rw [mat _ (by omega)]
      try dsimp only
      by_cases hb2 : b ≤ mk.getD (par ps v) 0
      · refine iteT' (decide_eq_true (by omega)) ⟨jNames, _, _, ej, jN2, ?_⟩
        try dsimp only
        rw [jL_at hv]
        try dsimp only
        rw [mat _ (by omega)]
        try dsimp only
        by_cases hb3 : b ≤ mk.getD (Ju.Jv ps v) 0
        · refine iteT' (decide_eq_true (by omega)) ⟨Ju.Jv ps v, by omega, Ju.Jv ps v, _, rfl, by omega, hb3, fun w h => hF w ⟨Mt.sub ok hv (Ju.Jv_way ok hv) h.1, h.2⟩, rfl⟩
        · refine iteF' (by rw [decide_eq_false (by omega)]; exact Bool.false_ne_true) ⟨jNames, _, _, ej, jN1, ?_⟩
          try dsimp only
          rw [parD_at v0 hv]
          try dsimp only
          exact ⟨par ps v, by omega, par ps v, _, rfl, by omega, hb2, fun w h => hF w ⟨by rw [way_eq ok v0 hv]; exact List.mem_cons_of_mem _ h.1, h.2⟩, rfl⟩
      · exact iteF' (by rw [decide_eq_false (by omega)]; exact Bool.false_ne_true) (fin (.inr (by omega)))
    · exact iteF' (by rw [decide_eq_false (by omega)]; exact Bool.false_ne_true) (fin (.inl (by omega)))
  · try dsimp only
    rw [mat a ha]
    try dsimp only
    by_cases hlt2 : mk.getD a 0 < b
    · exact iteT' (decide_eq_true (by omega)) (q1 hlt2)
    refine iteF' (by rw [decide_eq_false (by omega)]; exact Bool.false_ne_true) ?_
    refine ⟨fun n e => ∃ (v : Nat) (x : Sv), n = v ∧ v ≤ ps.length ∧ b ≤ mk.getD v 0 ∧ (∀ w, Ju.IsF ps mk b v w → Ju.IsF ps mk b a w) ∧ e = [.dat (juD mg ps), .dat (.int (v : Int)), .dat (.tup (encN mk)), .dat (.int (b : Int)), x], ⟨_, a, .un, rfl, ha, by omega, fun w h => h, rfl⟩, fun n e ⟨v, x, hn, hv, hbv, hF, ee⟩ => ?_⟩
    subst ee
    walk_at "pl"
    have fin : (v = 0 ∨ mk.getD (par ps v) 0 < b) → Q (.int (v : Int)) := fun z => q2 (by omega) v (hF v ⟨by obtain ⟨t, et⟩ := Mt.self ok hv; rw [et]; exact List.mem_cons_self, hbv, z⟩)
    by_cases v0 : 0 < v
    · have hp := ok v v0 hv
      have jl := Ju.Jv_lt ok v0 hv
      refine iteT' (decide_eq_true (by omega)) ⟨jNames, _, _, ej, jN1, ?_⟩
      try dsimp only
      rw [parD_at v0 hv]
      try dsimp only
      rw [mat _ (by omega)]
      try dsimp only
      by_cases hb2 : b ≤ mk.getD (par ps v) 0
      · refine iteT' (decide_eq_true (by omega)) ⟨jNames, _, _, ej, jN2, ?_⟩
        try dsimp only
        rw [jL_at hv]
        try dsimp only
        rw [mat _ (by omega)]
        try dsimp only
        by_cases hb3 : b ≤ mk.getD (Ju.Jv ps v) 0
        · refine iteT' (decide_eq_true (by omega)) ⟨Ju.Jv ps v, by omega, Ju.Jv ps v, _, rfl, by omega, hb3, fun w h => hF w ⟨Mt.sub ok hv (Ju.Jv_way ok hv) h.1, h.2⟩, rfl⟩
        · refine iteF' (by rw [decide_eq_false (by omega)]; exact Bool.false_ne_true) ⟨jNames, _, _, ej, jN1, ?_⟩
          try dsimp only
          rw [parD_at v0 hv]
          try dsimp only
          exact ⟨par ps v, by omega, par ps v, _, rfl, by omega, hb2, fun w h => hF w ⟨by rw [way_eq ok v0 hv]; exact List.mem_cons_of_mem _ h.1, h.2⟩, rfl⟩
      · exact iteF' (by rw [decide_eq_false (by omega)]; exact Bool.false_ne_true) (fin (.inr (by omega)))
    · exact iteF' (by rw [decide_eq_false (by omega)]; exact Bool.false_ne_true) (fin (.inl (by omega)))

end
end W
end Law

namespace Law
namespace W
open PySem PySem.Spec PyProof.Rows L2 PL
local macro_rules | `(tactic| walk_at "pl") => `(tactic| simp only [sRet, sRetN, sSeq, sNext, sNever, sSet, sPar, sPar3, sIf, sDrop, sFor, sForL, sApp, sAug, sAugIx, sPutD, sSetIx, sTo, sExt, sRem, sBreak, sCont, mAndV, mOrV, mNotV, mAnd, mOr, mNot, mB, mIf, mTru, mCB, mCL, mCall, mC, mVar, mRd, aCons, aNil, mTup, mLst, mLc, mLcK, mLcL, mLcO, mOwn, mDat, m2, ml2, mNeg, mChain, iT, iL, iR1, iR2, iE, iRv, iZ, iET, kIsi, kIsi2, kIx, kI, kIc, kIsN, kIsB, kEqS, kEqB, kLen, kTuple, kList, kInt1, kAbs, kRepL, kMin2, kCatT, kCatL, mGet, mInD, D.key, mLrg, mRevL, mGet2, sPut2, mSlT, mSlL, oNone, oSome, gT, gsC, gsN, env0, wipeE, frz, unOwn, gN, List.length_cons, List.length_nil, List.map_cons, List.map_nil, List.replicate, List.cons_append, List.nil_append, List.append_nil, List.getElem?_cons_zero, List.getElem?_cons_succ, Nat.sub_self, Nat.reduceAdd, Nat.reduceSub, D.ty, D.isN, D.tru, if_true, if_false, Bool.false_eq_true, List.set, id, kAll, iAlt, iET, iE, kRepT, mC, kIx, kEqO, mFld, mSelf])
/-! ### Jumps as they grow, by hand -/
def fl3 (l1 l2 l3 : Addr) : List (Str × V) := [("_elders", .ref l1), ("_jumps", .ref l2), ("_depths", .ref l3)]
theorem put1 (a : V) : putF "_elders" a [] = [(("_elders" : Str), a)] := rfl
theorem put2 (a b : V) : putF "_jumps" b [(("_elders" : Str), a)] = [(("_elders" : Str), a), ("_jumps", b)] := if_neg (by decide +kernel)
theorem put3 (a b c : V) : putF "_depths" c [(("_elders" : Str), a), ("_jumps", b)] = [(("_elders" : Str), a), ("_jumps", b), ("_depths", c)] := by
  show (if ("_elders" : Str) = "_depths" then _ else (("_elders" : Str), a) :: (if ("_jumps" : Str) = "_depths" then _ else (("_jumps" : Str), b) :: [(("_depths" : Str), c)])) = _
  rw [if_neg (by decide +kernel), if_neg (by decide +kernel)]
def vN (l : List Nat) : List V := l.map fun k : Nat => V.int (k : Int)
theorem vN_at {l : List Nat} {i k : Nat} (h : l[i]? = some k) : atI (vN l) (i : Int) = some (.int (k : Int)) := atI_nat (by unfold vN; rw [List.getElem?_map, h]; rfl)
theorem vN_len (l : List Nat) : (vN l).length = l.length := List.length_map ..
theorem vN_app (l r : List Nat) : vN (l ++ r) = vN l ++ vN r := List.map_append ..
theorem rp_vN {A : At} : ∀ l : List Nat, RpL A (vN l) (encN l)
  | [] => .nil
  | k :: l => .cons (.int _) (rp_vN l)
structure JuAt (C : Addr) (H : Hp) (x l1 l2 l3 : Addr) (ps : List Nat) : Prop where
  ob : ∃ dx, H x = some (.ins C dx (fl3 l1 l2 l3))
  h1 : H l1 = some (.lst (.non :: vN ps))
  h2 : H l2 = some (.lst (vN (jL ps)))
  h3 : H l3 = some (.lst (vN (dL ps)))
  n12 : l1 ≠ l2
  n13 : l1 ≠ l3
  n23 : l2 ≠ l3
theorem JuAt.keep {C : Addr} {H H' : Hp} {x l1 l2 l3 : Addr} {ps : List Nat} (A : JuAt C H x l1 l2 l3 ps) (h : ∀ b o, (b = x ∨ b = l1 ∨ b = l2 ∨ b = l3) → H b = some o → H' b = some o) : JuAt C H' x l1 l2 l3 ps :=
  ⟨A.ob.imp fun dx z => h _ _ (.inl rfl) z, h _ _ (.inr (.inl rfl)) A.h1, h _ _ (.inr (.inr (.inl rfl))) A.h2, h _ _ (.inr (.inr (.inr rfl))) A.h3, A.n12, A.n13, A.n23⟩
theorem JuAt.rp {O : Addr → Prop} {H : Hp} {x l1 l2 l3 : Addr} {ps : List Nat} (A : JuAt (er mg "Jumps") H x l1 l2 l3 ps) (n0 : ¬ O x) (n1 : ¬ O l1) (n2 : ¬ O l2) (n3 : ¬ O l3) : Rp (Sh O H) (.ref x) (juD mg ps) := by
  obtain ⟨dx, hx⟩ := A.ob
  exact .ins (dx := dx) (xs := [.ref l1, .ref l2, .ref l3]) ⟨.inl hx, n0⟩ rfl (.cons (.lst ⟨.inl A.h1, n1⟩ (.cons .non (rp_vN _))) (.cons (.lst ⟨.inl A.h2, n2⟩ (rp_vN _)) (.cons (.lst ⟨.inl A.h3, n3⟩ (rp_vN _)) .nil)))
theorem jL_app {ps : List Nat} {p : Nat} (ok : PsOk ps) (hp : p ≤ ps.length) : jL (ps ++ [p]) = jL ps ++ [Ju.Jv (ps ++ [p]) (ps.length + 1)] := by
  have ok' := Ju.ok_app ok hp
  unfold jL
  rw [List.length_append, List.length_singleton, List.range_succ (n := ps.length + 1), List.map_append]
  congr 1
  refine List.map_congr_left fun v hv => ?_
  rw [List.mem_range] at hv
  exact Ju.Jv_app ok ok' (by omega)
theorem dL_app {ps : List Nat} {p : Nat} (ok : PsOk ps) (hp : p ≤ ps.length) : dL (ps ++ [p]) = dL ps ++ [Ju.dp ps p + 1] := by
  have ok' := Ju.ok_app ok hp
  unfold dL
  rw [List.length_append, List.length_singleton, List.range_succ (n := ps.length + 1), List.map_append, List.map_singleton, Ju.dp_last ok hp]
  congr 1
  refine List.map_congr_left fun v hv => ?_
  rw [List.mem_range] at hv
  exact Ju.dp_app ok ok' (by omega)
def spJI (C : Addr) : Sp := fun vs H Q _ => ∃ x dx, vs = [.ref x] ∧ H x = some (.ins C dx []) ∧ ∀ l1 l2 l3 H', H l1 = none → H l2 = none → H l3 = none → JuAt C H' x l1 l2 l3 [] → (∀ b, b ≠ x → b ≠ l1 → b ≠ l2 → b ≠ l3 → H' b = H b) → Q .non H'
def spJG (C : Addr) : Sp := fun vs H Q _ => ∃ (x l1 l2 l3 : Addr) (ps : List Nat) (p : Nat), vs = [.ref x, .int (p : Int)] ∧ JuAt C H x l1 l2 l3 ps ∧ JOk ps ∧ p ≤ ps.length ∧
  ∀ H', JuAt C H' x l1 l2 l3 (ps ++ [p]) → (∀ b o, b ≠ l1 → b ≠ l2 → b ≠ l3 → H b = some o → H' b = some o) → Q (.int ((ps.length + 1 : Nat) : Int)) H'
/-- a world of nothing of its own -/
def wd0 : Wd := ⟨fun _ => False, fun _ _ => True, fun _ _ _ _ h => h, fun _ _ _ _ _ h => h, fun _ _ _ _ z => z.elim⟩
structure MkO (P : Program) (w : World) (K : PySem.W.Frag) (mg : Str → Option Value) (base : Heap) (x : Str) (k : Nat) (ps : List Str) (sp : Sp) : Prop where
  ex : ∃ f fd, FnOk P w K mg base CX0 k f fd ps sp ∧ Mk K (er mg x) f ∧ Binds K fd ps []
section
variable {P : Program} {w : World} {K : PySem.W.Frag} {mg : Str → Option Value} {base : Heap} {f : Addr} {fd : FuncData}
theorem ok_Jumps___init__ (F : Fun K "__init__" "Jumps.__init__" s_Jumps___init__ f fd) (T : Bt mg) (T_Jumps : GCls K mg "Jumps") (NA_Jumps__elders : NoAttr K (er mg "Jumps") "_elders") (NA_Jumps__jumps : NoAttr K (er mg "Jumps") "_jumps") (NA_Jumps__depths : NoAttr K (er mg "Jumps") "_depths") : FnOk P w K mg base CX0 1 f fd ["self"] (spJI (er mg "Jumps")) := by
  refine F.ok sc_Jumps___init__ (fun vs H Q E ⟨_, _, e, _⟩ => by rw [e]; rfl) fun cdv A outer s H vs Q E hr ⟨x, dx, ev, hx, k⟩ => ?_
  subst ev
  have sl : 1 ≤ sizeLine := by rw [sizeLine_eq]; decide
  refine ⟨_, pss_cons (ps_fld (pv 0) (pe_lst (pa_cons pe_non pa_nil)) rfl) (pss_cons (ps_fld (pv 0) (pe_lst (pa_cons pe_int pa_nil)) rfl) (pss_one (ps_fld (pv 0) (pe_lst (pa_cons pe_int pa_nil)) rfl))), ?_⟩
  refine ⟨sl, fun l1 n1 => ⟨_, rfl, x, _, dx, [], rfl, by rw [upd_ne (ne_of_none hx n1)]; exact hx, T_Jumps.cl, NA_Jumps__elders, by show 0 < 1000; decide, ?_⟩⟩
  rw [put1]
  have x1 : x ≠ l1 := ne_of_none hx n1
  refine ⟨sl, fun l2 n2 => ?_⟩
  have x2 : x ≠ l2 := fun z => by rw [← z, upd_same] at n2; cases n2
  have e12 : l1 ≠ l2 := fun z => by rw [← z, upd_ne x1.symm, upd_same] at n2; cases n2
  have h2 : H l2 = none := by rw [upd_ne x2.symm, upd_ne e12.symm] at n2; exact n2
  refine ⟨_, rfl, x, _, dx, _, rfl, by rw [upd_ne x2, upd_same], T_Jumps.cl, NA_Jumps__jumps, by show 1 < 1000; decide, ?_⟩
  rw [put2]
  refine ⟨sl, fun l3 n3 => ?_⟩
  have x3 : x ≠ l3 := fun z => by rw [← z, upd_same] at n3; cases n3
  have e23 : l2 ≠ l3 := fun z => by rw [← z, upd_ne x2.symm, upd_same] at n3; cases n3
  have e13 : l1 ≠ l3 := fun z => by rw [← z, upd_ne x1.symm, upd_ne e12, upd_ne x1.symm, upd_same] at n3; cases n3
  have h3 : H l3 = none := by rw [upd_ne x3.symm, upd_ne e23.symm, upd_ne x3.symm, upd_ne e13.symm] at n3; exact n3
  refine ⟨_, rfl, x, _, dx, _, rfl, by rw [upd_ne x3, upd_same], T_Jumps.cl, NA_Jumps__depths, by show 2 < 1000; decide, ?_⟩
  rw [put3]
  have ej : vN (jL []) = [V.int 0] := by
    show [V.int ((Ju.Jv [] 0 : Nat) : Int)] = _
    rw [Ju.Jv_zero]; rfl
  have ed : vN (dL []) = [V.int 0] := by
    show [V.int ((Ju.dp [] 0 : Nat) : Int)] = _
    rw [Ju.dp_zero]; rfl
  refine k l1 l2 l3 _ n1 h2 h3 ⟨⟨dx, upd_same⟩, ?_, ?_, ?_, e12, e13, e23⟩ fun b b0 b1 b2 b3 => ?_
  · rw [upd_ne x1.symm, upd_ne e13, upd_ne x1.symm, upd_ne e12, upd_ne x1.symm, upd_same]; rfl
  · rw [upd_ne x2.symm, upd_ne e23, upd_ne x2.symm, upd_same, ej]
  · rw [upd_ne x3.symm, upd_same, ed]
  · rw [upd_ne b0, upd_ne b3, upd_ne b0, upd_ne b2, upd_ne b0, upd_ne b1]
theorem ok_Jumps_grow {k : Nat} (F : Fun K "grow" "Jumps.grow" s_Jumps_grow f fd) (T : Bt mg) (T_Jumps : GCls K mg "Jumps") (NA_Jumps__elders : NoAttr K (er mg "Jumps") "_elders") (NA_Jumps__jumps : NoAttr K (er mg "Jumps") "_jumps") (NA_Jumps__depths : NoAttr K (er mg "Jumps") "_depths") (MT_Jumps__check : MtX P w K mg base (er mg "Jumps") "_check" k ["self", "version"] (spX CA 0 (S_Jumps__check mg))) : FnOk P w K mg base (L2.CX P w) (k + 1) f fd ["self", "parent"] (spJG (er mg "Jumps")) := by
  refine F.okX sc_Jumps_grow (fun vs H Q E ⟨_, _, _, _, _, _, e, _⟩ => by rw [e]; rfl) fun cdv A outer s H vs Q E hr ⟨x, l1, l2, l3, ps, p, ev, G, ⟨ok, few⟩, hp, kq⟩ => ?_
  subst ev
  have tk := takes_of (X := cxOf (L2.CX P w) P w K mg base ["self", "parent", "middle", "top", "is_alike"] "Jumps.grow" (defScope s_Jumps_grow) f cdv A outer s H E) rfl rfl rfl rfl
  refine ⟨_, (pss_cons (ps_expr (pe_methX T_Jumps.cl MT_Jumps__check hr tk (pv 0) (pa_cons (pv 1) pa_nil)))
    (pss_cons (ps_set (i := 2) sc_Jumps_grow.nd rfl (Or.inl rfl) (pe_ix (show IxR _ (rIx K) from ix_seq) (pe_fld (pv 0) rfl) (pv 1) (fun _ _ => rfl)))
    (pss_cons (ps_set (i := 3) sc_Jumps_grow.nd rfl (Or.inl rfl) (pe_ix (show IxR _ (rIx K) from ix_seq) (pe_fld (pv 0) rfl) (pv 2) (fun _ _ => rfl)))
    (pss_cons (ps_set (i := 4) sc_Jumps_grow.nd rfl (Or.inl rfl) (pe_cmpR op_eq (pe_op op_sub (pe_ix (show IxR _ (rIx K) from ix_seq) (pe_fld (pv 0) rfl) (pv 1) (fun _ _ => rfl)) (pe_ix (show IxR _ (rIx K) from ix_seq) (pe_fld (pv 0) rfl) (pv 2) (fun _ _ => rfl))) (pe_op op_sub (pe_ix (show IxR _ (rIx K) from ix_seq) (pe_fld (pv 0) rfl) (pv 2) (fun _ _ => rfl)) (pe_ix (show IxR _ (rIx K) from ix_seq) (pe_fld (pv 0) rfl) (pv 3) (fun _ _ => rfl))) (nomark _)))
    (pss_cons (ps_expr (pe_bm PySem.F.plainAttrs_list PySem.F.slot_list_append PySem.F.type_list_append mt_append (pe_fld (pv 0) rfl) (pa_cons (pv 1) pa_nil)))
    (pss_cons (ps_expr (pe_bm PySem.F.plainAttrs_list PySem.F.slot_list_append PySem.F.type_list_append mt_append (pe_fld (pv 0) rfl) (pa_cons (pe_ifExp (pt_val (pv 4)) (pv 3) (pv 1)) pa_nil)))
    (pss_cons (ps_expr (pe_bm PySem.F.plainAttrs_list PySem.F.slot_list_append PySem.F.type_list_append mt_append (pe_fld (pv 0) rfl) (pa_cons (pe_op op_add (pe_ix (show IxR _ (rIx K) from ix_seq) (pe_fld (pv 0) rfl) (pv 1) (fun _ _ => rfl)) pe_int) pa_nil)))
    (pss_one (ps_ret (pe_op op_sub (pe_callB (r := fun xs H Q => ∃ x n, xs = [x] ∧ LenV K x H n ∧ Q (.int n) H) call_len (by rfl) T.len PySem.boot_len (pa_cons (pe_fld (pv 0) rfl) pa_nil)) pe_int)))))))))), ?_⟩
  obtain ⟨dx, hx⟩ := G.ob
  refine ⟨_, rfl, x, dx, _, rfl, hx, rfl, _, rfl, ?_⟩
  refine ⟨wd0, 0, fun _ => False, [juD mg ps, .int (p : Int)], trivial, Nat.zero_le _, trivial, fun _ z => z, fun _ z => z.elim, .cons (G.rp id id id id) (.cons (.int _) .nil), ps, _, rfl, ⟨ok, few⟩, tame_int' _, .inr ⟨p, rfl, hp, fun v0 H1 gr _ _ => ?_⟩⟩
  have kp : ∀ b o, H b = some o → H1 b = some o := fun b o e => gr b o e id
  have G1 := G.keep fun b o _ e => kp b o e
  have hx1 := kp _ _ hx
  have jat : ∀ v, v ≤ ps.length → (jL ps)[v]? = some (Ju.Jv ps v) := fun v hv => by unfold jL; rw [List.getElem?_map, List.getElem?_range (by omega)]; rfl
  have dat : ∀ v, v ≤ ps.length → (dL ps)[v]? = some (Ju.dp ps v) := fun v hv => by unfold dL; rw [List.getElem?_map, List.getElem?_range (by omega)]; rfl
  have j1 := (Ju.Jv_ok ok hp).2
  have j2 := (Ju.Jv_ok ok (by omega : Ju.Jv ps p ≤ ps.length)).2
  refine ⟨_, rfl, x, _, dx, _, .ref l2, rfl, hx1, T_Jumps.cl, NA_Jumps__jumps, rfl, _, rfl, .inl ⟨l2, _, _, _, rfl, rfl, sqL G1.h2, vN_at (jat p hp), ?_⟩⟩
  refine ⟨_, rfl, x, _, dx, _, .ref l2, rfl, hx1, T_Jumps.cl, NA_Jumps__jumps, rfl, _, rfl, .inl ⟨l2, _, _, _, rfl, rfl, sqL G1.h2, vN_at (jat _ (by omega)), ?_⟩⟩
  refine ⟨_, rfl, x, _, dx, _, .ref l3, rfl, hx1, T_Jumps.cl, NA_Jumps__depths, rfl, _, rfl, .inl ⟨l3, _, _, _, rfl, rfl, sqL G1.h3, vN_at (dat p hp), ?_⟩⟩
  refine ⟨_, rfl, x, _, dx, _, .ref l3, rfl, hx1, T_Jumps.cl, NA_Jumps__depths, rfl, _, rfl, .inl ⟨l3, _, _, _, rfl, rfl, sqL G1.h3, vN_at (dat _ (by omega)), ?_⟩⟩
  refine ⟨_, _, rfl, rfl, ?_⟩
  refine ⟨_, rfl, x, _, dx, _, .ref l3, rfl, hx1, T_Jumps.cl, NA_Jumps__depths, rfl, _, rfl, .inl ⟨l3, _, _, _, rfl, rfl, sqL G1.h3, vN_at (dat _ (by omega)), ?_⟩⟩
  refine ⟨_, rfl, x, _, dx, _, .ref l3, rfl, hx1, T_Jumps.cl, NA_Jumps__depths, rfl, _, rfl, .inl ⟨l3, _, _, _, rfl, rfl, sqL G1.h3, vN_at (dat _ (by omega)), ?_⟩⟩
  refine ⟨_, _, rfl, rfl, ?_⟩
  have few' : ps.length < 3000 := few
  have sl : 3100 < sizeLine := by rw [sizeLine_eq]; decide
  have jlen : (jL ps).length = ps.length + 1 := by unfold jL; rw [List.length_map, List.length_range]
  have dlen : (dL ps).length = ps.length + 1 := by unfold dL; rw [List.length_map, List.length_range]
  have x1 : x ≠ l1 := ne_of hx1 G1.h1 (fun z => nomatch z)
  have x2 : x ≠ l2 := ne_of hx1 G1.h2 (fun z => nomatch z)
  have x3 : x ≠ l3 := ne_of hx1 G1.h3 (fun z => nomatch z)
  obtain ⟨_, g1, g2, g3, e12, e13, e23⟩ := G1
  refine ⟨rfl, ?_⟩
  have l1' := Ju.jd_le (Ju.dp ps p)
  have l2' := Ju.jd_le (Ju.dp ps (Ju.Jv ps p))
  have d1 := (Ju.Jv_ok ok hp).1
  have d2 := (Ju.Jv_ok ok (by omega : Ju.Jv ps p ≤ ps.length)).1
  by_cases hc : Ju.dp ps p - Ju.dp ps (Ju.Jv ps p) = Ju.dp ps (Ju.Jv ps p) - Ju.dp ps (Ju.Jv ps (Ju.Jv ps p))
  · rw [show decide ((fun i j => V.int (i - j)) (Ju.dp ps p : Int) (Ju.dp ps (Ju.Jv ps p) : Int) = (fun i j => V.int (i - j)) (Ju.dp ps (Ju.Jv ps p) : Int) (Ju.dp ps (Ju.Jv ps (Ju.Jv ps p)) : Int)) = true from decide_eq_true (congrArg V.int (by omega))]
    refine ⟨_, rfl, x, _, dx, _, .ref l1, rfl, hx1, T_Jumps.cl, NA_Jumps__elders, rfl, .inl ⟨rfl, _, sqL g1⟩, _, rfl, l1, _, _, rfl, rfl, g1, by rw [List.length_cons, vN_len]; omega, ?_⟩
    have u1 : upd H1 l1 (.lst (.non :: vN ps ++ [.int (p : Int)])) l2 = some (.lst (vN (jL ps))) := by rw [upd_ne e12.symm]; exact g2
    have v1 : upd H1 l1 (.lst (.non :: vN ps ++ [.int (p : Int)])) x = some (.ins (er mg "Jumps") dx (fl3 l1 l2 l3)) := by rw [upd_ne x1]; exact hx1
    refine ⟨_, rfl, x, _, dx, _, .ref l2, rfl, v1, T_Jumps.cl, NA_Jumps__jumps, rfl, .inl ⟨rfl, _, sqL u1⟩, _, rfl, _, rfl, iteT' rfl ⟨_, rfl, l2, _, _, rfl, rfl, u1, by rw [vN_len]; omega, ?_⟩⟩
    have u2 : upd (upd H1 l1 (.lst (.non :: vN ps ++ [.int (p : Int)]))) l2 (.lst (vN (jL ps) ++ [.int ((Ju.Jv ps (Ju.Jv ps p) : Nat) : Int)])) l3 = some (.lst (vN (dL ps))) := by rw [upd_ne e23.symm, upd_ne e13.symm]; exact g3
    have v2 : upd (upd H1 l1 (.lst (.non :: vN ps ++ [.int (p : Int)]))) l2 (.lst (vN (jL ps) ++ [.int ((Ju.Jv ps (Ju.Jv ps p) : Nat) : Int)])) x = some (.ins (er mg "Jumps") dx (fl3 l1 l2 l3)) := by rw [upd_ne x2]; exact v1
    refine ⟨_, rfl, x, _, dx, _, .ref l3, rfl, v2, T_Jumps.cl, NA_Jumps__depths, rfl, .inl ⟨rfl, _, sqL u2⟩, _, rfl, x, _, dx, _, .ref l3, rfl, v2, T_Jumps.cl, NA_Jumps__depths, rfl, _, rfl, .inl ⟨l3, _, _, _, rfl, rfl, sqL u2, vN_at (dat p hp), _, _, rfl, rfl, l3, _, _, rfl, rfl, u2, by rw [vN_len]; omega, ?_⟩⟩
    have v3 : upd (upd (upd H1 l1 (.lst (.non :: vN ps ++ [.int (p : Int)]))) l2 (.lst (vN (jL ps) ++ [.int ((Ju.Jv ps (Ju.Jv ps p) : Nat) : Int)]))) l3 (.lst (vN (dL ps) ++ [.int ((Ju.dp ps p : Int) + 1)])) x = some (.ins (er mg "Jumps") dx (fl3 l1 l2 l3)) := by rw [upd_ne x3]; exact v2
    have w1 : upd (upd (upd H1 l1 (.lst (.non :: vN ps ++ [.int (p : Int)]))) l2 (.lst (vN (jL ps) ++ [.int ((Ju.Jv ps (Ju.Jv ps p) : Nat) : Int)]))) l3 (.lst (vN (dL ps) ++ [.int ((Ju.dp ps p : Int) + 1)])) l1 = some (.lst (.non :: vN ps ++ [.int (p : Int)])) := by rw [upd_ne e13, upd_ne e12, upd_same]
    refine ⟨_, rfl, x, _, dx, _, .ref l1, rfl, v3, T_Jumps.cl, NA_Jumps__elders, rfl, .ref l1, _, rfl, .inl ⟨_, sqL w1, rfl⟩, _, _, rfl, rfl, ?_⟩
    have el : (((V.non :: vN ps ++ [V.int (p : Int)]).length : Nat) : Int) - 1 = ((ps.length + 1 : Nat) : Int) := by
      rw [List.length_append, List.length_cons, vN_len, List.length_singleton]; omega
    have kq' := kq (upd (upd (upd H1 l1 (.lst (.non :: vN ps ++ [.int (p : Int)]))) l2 (.lst (vN (jL ps) ++ [.int ((Ju.Jv ps (Ju.Jv ps p) : Nat) : Int)]))) l3 (.lst (vN (dL ps) ++ [.int ((Ju.dp ps p : Int) + 1)]))) ⟨⟨dx, v3⟩, by rw [w1, vN_app]; rfl, by rw [upd_ne e23, upd_same, jL_app ok hp, vN_app, show Ju.Jv (ps ++ [p]) (ps.length + 1) = Ju.Jv ps (Ju.Jv ps p) by rw [Ju.Jv_last ok hp, if_pos hc]]; rfl, by rw [upd_same, dL_app ok hp, vN_app]; rfl, e12, e13, e23⟩ fun b o n1 n2 n3 e => by rw [upd_ne n3, upd_ne n2, upd_ne n1]; exact kp b o e
    rw [← el] at kq'
    exact kq'
  · rw [show decide ((fun i j => V.int (i - j)) (Ju.dp ps p : Int) (Ju.dp ps (Ju.Jv ps p) : Int) = (fun i j => V.int (i - j)) (Ju.dp ps (Ju.Jv ps p) : Int) (Ju.dp ps (Ju.Jv ps (Ju.Jv ps p)) : Int)) = false from decide_eq_false (fun z => hc (by have := V.int.inj z; omega))]
    refine ⟨_, rfl, x, _, dx, _, .ref l1, rfl, hx1, T_Jumps.cl, NA_Jumps__elders, rfl, .inl ⟨rfl, _, sqL g1⟩, _, rfl, l1, _, _, rfl, rfl, g1, by rw [List.length_cons, vN_len]; omega, ?_⟩
    have u1 : upd H1 l1 (.lst (.non :: vN ps ++ [.int (p : Int)])) l2 = some (.lst (vN (jL ps))) := by rw [upd_ne e12.symm]; exact g2
    have v1 : upd H1 l1 (.lst (.non :: vN ps ++ [.int (p : Int)])) x = some (.ins (er mg "Jumps") dx (fl3 l1 l2 l3)) := by rw [upd_ne x1]; exact hx1
    refine ⟨_, rfl, x, _, dx, _, .ref l2, rfl, v1, T_Jumps.cl, NA_Jumps__jumps, rfl, .inl ⟨rfl, _, sqL u1⟩, _, rfl, _, rfl, iteF' Bool.false_ne_true ⟨_, rfl, l2, _, _, rfl, rfl, u1, by rw [vN_len]; omega, ?_⟩⟩
    have u2 : upd (upd H1 l1 (.lst (.non :: vN ps ++ [.int (p : Int)]))) l2 (.lst (vN (jL ps) ++ [.int ((p : Nat) : Int)])) l3 = some (.lst (vN (dL ps))) := by rw [upd_ne e23.symm, upd_ne e13.symm]; exact g3
    have v2 : upd (upd H1 l1 (.lst (.non :: vN ps ++ [.int (p : Int)]))) l2 (.lst (vN (jL ps) ++ [.int ((p : Nat) : Int)])) x = some (.ins (er mg "Jumps") dx (fl3 l1 l2 l3)) := by rw [upd_ne x2]; exact v1
    refine ⟨_, rfl, x, _, dx, _, .ref l3, rfl, v2, T_Jumps.cl, NA_Jumps__depths, rfl, .inl ⟨rfl, _, sqL u2⟩, _, rfl, x, _, dx, _, .ref l3, rfl, v2, T_Jumps.cl, NA_Jumps__depths, rfl, _, rfl, .inl ⟨l3, _, _, _, rfl, rfl, sqL u2, vN_at (dat p hp), _, _, rfl, rfl, l3, _, _, rfl, rfl, u2, by rw [vN_len]; omega, ?_⟩⟩
    have v3 : upd (upd (upd H1 l1 (.lst (.non :: vN ps ++ [.int (p : Int)]))) l2 (.lst (vN (jL ps) ++ [.int ((p : Nat) : Int)]))) l3 (.lst (vN (dL ps) ++ [.int ((Ju.dp ps p : Int) + 1)])) x = some (.ins (er mg "Jumps") dx (fl3 l1 l2 l3)) := by rw [upd_ne x3]; exact v2
    have w1 : upd (upd (upd H1 l1 (.lst (.non :: vN ps ++ [.int (p : Int)]))) l2 (.lst (vN (jL ps) ++ [.int ((p : Nat) : Int)]))) l3 (.lst (vN (dL ps) ++ [.int ((Ju.dp ps p : Int) + 1)])) l1 = some (.lst (.non :: vN ps ++ [.int (p : Int)])) := by rw [upd_ne e13, upd_ne e12, upd_same]
    refine ⟨_, rfl, x, _, dx, _, .ref l1, rfl, v3, T_Jumps.cl, NA_Jumps__elders, rfl, .ref l1, _, rfl, .inl ⟨_, sqL w1, rfl⟩, _, _, rfl, rfl, ?_⟩
    have el : (((V.non :: vN ps ++ [V.int (p : Int)]).length : Nat) : Int) - 1 = ((ps.length + 1 : Nat) : Int) := by
      rw [List.length_append, List.length_cons, vN_len, List.length_singleton]; omega
    have kq' := kq (upd (upd (upd H1 l1 (.lst (.non :: vN ps ++ [.int (p : Int)]))) l2 (.lst (vN (jL ps) ++ [.int ((p : Nat) : Int)]))) l3 (.lst (vN (dL ps) ++ [.int ((Ju.dp ps p : Int) + 1)]))) ⟨⟨dx, v3⟩, by rw [w1, vN_app]; rfl, by rw [upd_ne e23, upd_same, jL_app ok hp, vN_app, show Ju.Jv (ps ++ [p]) (ps.length + 1) = p by rw [Ju.Jv_last ok hp, if_neg hc]]; rfl, by rw [upd_same, dL_app ok hp, vN_app]; rfl, e12, e13, e23⟩ fun b o n1 n2 n3 e => by rw [upd_ne n3, upd_ne n2, upd_ne n1]; exact kp b o e
    rw [← el] at kq'
    exact kq'
end
end W
end Law

namespace Law
namespace W
open PySem PySem.Spec PyProof.Rows L2 PL LamX
local macro_rules | `(tactic| walk_at "pl") => `(tactic| simp only [sRet, sRetN, sSeq, sNext, sNever, sSet, sPar, sPar3, sIf, sDrop, sFor, sForL, sApp, sAug, sAugIx, sPutD, sSetIx, sTo, sExt, sRem, sBreak, sCont, mAndV, mOrV, mNotV, mAnd, mOr, mNot, mB, mIf, mTru, mCB, mCL, mCall, mC, mVar, mRd, aCons, aNil, mTup, mLst, mLc, mLcK, mLcL, mLcO, mOwn, mDat, m2, ml2, mNeg, mChain, iT, iL, iR1, iR2, iE, iRv, iZ, iET, kIsi, kIsi2, kIx, kI, kIc, kIsN, kIsB, kEqS, kEqB, kLen, kTuple, kList, kInt1, kAbs, kRepL, kMin2, kCatT, kCatL, mGet, mInD, D.key, mLrg, mRevL, mGet2, sPut2, mSlT, mSlL, oNone, oSome, gT, gsC, gsN, env0, wipeE, frz, unOwn, gN, List.length_cons, List.length_nil, List.map_cons, List.map_nil, List.replicate, List.cons_append, List.nil_append, List.append_nil, List.getElem?_cons_zero, List.getElem?_cons_succ, Nat.sub_self, Nat.reduceAdd, Nat.reduceSub, D.ty, D.isN, D.tru, if_true, if_false, Bool.false_eq_true, List.set, id, kAll, iET, iE, kRepT, mC, kIx, kEqO, mBM, kMax2, mFld, mSelf, kIsX, mCaught])
def encP (ps : List Nat) : D := .tup (.non :: encN ps)
theorem encP_at {ps : List Nat} {v : Nat} (h : 0 < v) (hv : v ≤ ps.length) : atI (D.non :: encN ps) (v : Int) = some (.int (par ps v : Int)) := parD_at h hv
theorem atI_lst {α : Type} (l : List α) (x : α) : atI (l ++ [x]) (-1) = some x := by
  have e : ixN (l ++ [x]).length (-1) = some l.length := by
    rw [List.length_append, List.length_singleton]
    unfold ixN
    simp
    omega
  unfold atI
  rw [e]
  exact List.getElem?_concat_length ..
theorem psok_app {ps : List Nat} (ok : PsOk ps) {k : Nat} (hk : k ≤ ps.length) : PsOk (ps ++ [k]) := fun v h0 hv => by
  rw [List.length_append, List.length_singleton] at hv
  unfold par
  by_cases h : v - 1 < ps.length
  · rw [List.getElem?_append_left h]
    exact ok v h0 (by omega)
  · rw [List.getElem?_append_right (by omega), show v - 1 - ps.length = 0 by omega]
    show k < v
    omega
theorem cutD_one (l : List D) : PL.cutD l (some 1) none = l.drop 1 := by
  cases l with
  | nil =>
    unfold PL.cutD
    rw [List.drop_nil, List.take_nil]; rfl
  | cons x l => exact cutD_from (l := x :: l) (b := 1) (by rw [List.length_cons]; omega)
def S_l_ti_parents (tok : V) (ds : List D) (Q : D → Prop) : Prop := ∃ m : Nat, ds = [.opq tok, .int (m : Int)] ∧ 0 < m ∧ m ≤ 40 ∧ ∀ ps, PsOk ps → ps.length < m → Q (encP ps)
theorem len_l_ti_parents {tok : V} {ds : List D} {Q : D → Prop} (h : S_l_ti_parents tok ds Q) : ds.length = 2 := by obtain ⟨_, e, _⟩ := h; rw [e]; rfl
theorem mono_l_ti_parents (tok : V) : Mono (S_l_ti_parents tok) := fun ds P Q h ⟨m, a, b, c, k⟩ => ⟨m, a, b, c, fun ps x y => h _ (k ps x y)⟩
def S_l_ti_up (ds : List D) (Q : D → Prop) : Prop := ∃ (ps : List Nat) (v : Nat), ds = [encP ps, .int (v : Int)] ∧ PsOk ps ∧ Few ps ∧ v ≤ ps.length ∧ Q (.lst (encN (way ps v)))
theorem len_l_ti_up {ds : List D} {Q : D → Prop} (h : S_l_ti_up ds Q) : ds.length = 2 := by obtain ⟨_, _, e, _⟩ := h; rw [e]; rfl
theorem mono_l_ti_up : Mono S_l_ti_up := fun ds P Q h ⟨a, b, c, d, e, f, k⟩ => ⟨a, b, c, d, e, f, h _ k⟩
def S_l_ti_odd_version (tok : V) (ds : List D) (Q : D → Prop) : Prop := ∃ m : Nat, ds = [.opq tok, .int m] ∧ m ≤ 1000 ∧ ∀ d, Tame d → btB 0 ((m : Int) - 1) d = false → Q d
theorem len_l_ti_odd_version {tok : V} {ds : List D} {Q : D → Prop} (h : S_l_ti_odd_version tok ds Q) : ds.length = 2 := by obtain ⟨_, e, _⟩ := h; rw [e]; rfl
theorem mono_l_ti_odd_version (tok : V) : Mono (S_l_ti_odd_version tok) := fun ds P Q h ⟨a, e, f, k⟩ => ⟨a, e, f, fun d x y => h _ (k d x y)⟩
def S_Jumps_grow (mg : Str → Option Value) : XS := fun ds Q X => ∃ (ps : List Nat) (d : D), ds = [juD mg ps, d] ∧ JOk ps ∧ Tame d ∧ btB 0 (ps.length : Int) d = false ∧ X (X0_ mg "BadVersion")
theorem len_Jumps_grow {mg : Str → Option Value} {ds : List D} {Q : D → Prop} {Y : Exn → Prop} (h : S_Jumps_grow mg ds Q Y) : ds.length = 2 := by obtain ⟨_, _, e, _⟩ := h; rw [e]; rfl
theorem mono_Jumps_grow {mg : Str → Option Value} : MonoX (S_Jumps_grow mg) := fun ds P Q Y Z h hx ⟨a, b, e, f, g, i, k⟩ => ⟨a, b, e, f, g, i, hx _ k⟩
def S_l_ju_tree (tok : V) (ds : List D) (Q : D → Prop) : Prop := ds = [.opq tok] ∧ ∀ ps, PsOk ps → ps.length < 1000 → Q (encP ps)
theorem len_l_ju_tree {tok : V} {ds : List D} {Q : D → Prop} (h : S_l_ju_tree tok ds Q) : ds.length = 1 := by rw [h.1]; rfl
theorem mono_l_ju_tree (tok : V) : Mono (S_l_ju_tree tok) := fun ds P Q h ⟨e, k⟩ => ⟨e, fun ps x y => h _ (k ps x y)⟩
def S_l_ju_jumps (ds : List D) (Q : D → Prop) : Prop := ∃ ps : List Nat, ds = [encP ps, .lst (encN (dL ps))] ∧ PsOk ps ∧ Few ps ∧ Q (.lst (encN (jL ps)))
theorem len_l_ju_jumps {ds : List D} {Q : D → Prop} (h : S_l_ju_jumps ds Q) : ds.length = 2 := by obtain ⟨_, e, _⟩ := h; rw [e]; rfl
theorem mono_l_ju_jumps : Mono S_l_ju_jumps := fun ds P Q h ⟨a, b, c, d, k⟩ => ⟨a, b, c, d, h _ k⟩
def S_l_ju_steps (ds : List D) (Q : D → Prop) : Prop := ∃ (ps : List Nat) (v t : Nat), ds = [encP ps, .lst (encN (jL ps)), .lst (encN (dL ps)), .int (v : Int), .int (t : Int)] ∧ PsOk ps ∧ Few ps ∧ v ≤ ps.length ∧ t ≤ Ju.dp ps v ∧ Q (.tup [.int (Ju.upA ps v t : Int), .int (Ju.steps (Ju.dp ps v) t : Int)])
theorem len_l_ju_steps {ds : List D} {Q : D → Prop} (h : S_l_ju_steps ds Q) : ds.length = 5 := by obtain ⟨_, _, _, e, _⟩ := h; rw [e]; rfl
theorem mono_l_ju_steps : Mono S_l_ju_steps := fun ds P Q h ⟨a, b, c, d, e, f, g, i, k⟩ => ⟨a, b, c, d, e, f, g, i, h _ k⟩
def S_l_ju_marks (tok : V) (ds : List D) (Q : D → Prop) : Prop := ∃ ps : List Nat, ds = [.opq tok, encP ps] ∧ PsOk ps ∧ ps.length < 1000 ∧ ∀ mk, Ju.MkOk ps mk → (∀ x ∈ mk, x < 10000) → Q (.lst (encN mk))
theorem len_l_ju_marks {tok : V} {ds : List D} {Q : D → Prop} (h : S_l_ju_marks tok ds Q) : ds.length = 2 := by obtain ⟨_, e, _⟩ := h; rw [e]; rfl
theorem mono_l_ju_marks (tok : V) : Mono (S_l_ju_marks tok) := fun ds P Q h ⟨a, b, c, d, k⟩ => ⟨a, b, c, d, fun mk x y => h _ (k mk x y)⟩
theorem row_ok (n : Nat) : PsOk (List.range n) := fun v h0 hv => by
  rw [List.length_range] at hv
  unfold par
  rw [List.getElem?_range (by omega)]
  show v - 1 < v
  omega
theorem rng_encN (n : Nat) : rng 0 n = encN (List.range n) := by
  unfold rng encN
  exact List.map_congr_left fun k _ => by rw [Int.zero_add]
section
variable {P : Program} {w : World} {K : PySem.W.Frag} {mg : Str → Option Value} {base : Heap} {f : Addr} {fd : FuncData}
theorem ok_Jumps_growX {k : Nat} (F : Fun K "grow" "Jumps.grow" s_Jumps_grow f fd) (T : Bt mg) (T_Jumps : GCls K mg "Jumps") (NA_Jumps__elders : NoAttr K (er mg "Jumps") "_elders") (NA_Jumps__jumps : NoAttr K (er mg "Jumps") "_jumps") (NA_Jumps__depths : NoAttr K (er mg "Jumps") "_depths") (MT_Jumps__check : MtX P w K mg base (er mg "Jumps") "_check" k ["self", "version"] (spX CA 0 (S_Jumps__check mg))) : FnOk P w K mg base (L2.CX P w) (k + 1) f fd ["self", "parent"] (spX CA 0 (S_Jumps_grow mg)) := by
  refine pl_okX F sc_Jumps_grow (fun ds Q Y h => len_Jumps_grow h) fun cdv A outer s H E hr hp tk => ?_
  refine ⟨_, _, (pss_cons (ps_expr (pe_methX T_Jumps.cl MT_Jumps__check hr tk (pv 0) (pa_cons (pv 1) pa_nil)))
    (pss_cons (ps_set (i := 2) sc_Jumps_grow.nd rfl (Or.inl rfl) (pe_ix (show IxR _ (rIx K) from ix_seq) (pe_fld (pv 0) rfl) (pv 1) (fun _ _ => rfl)))
    (pss_cons (ps_set (i := 3) sc_Jumps_grow.nd rfl (Or.inl rfl) (pe_ix (show IxR _ (rIx K) from ix_seq) (pe_fld (pv 0) rfl) (pv 2) (fun _ _ => rfl)))
    (pss_cons (ps_set (i := 4) sc_Jumps_grow.nd rfl (Or.inl rfl) (pe_cmpR op_eq (pe_op op_sub (pe_ix (show IxR _ (rIx K) from ix_seq) (pe_fld (pv 0) rfl) (pv 1) (fun _ _ => rfl)) (pe_ix (show IxR _ (rIx K) from ix_seq) (pe_fld (pv 0) rfl) (pv 2) (fun _ _ => rfl))) (pe_op op_sub (pe_ix (show IxR _ (rIx K) from ix_seq) (pe_fld (pv 0) rfl) (pv 2) (fun _ _ => rfl)) (pe_ix (show IxR _ (rIx K) from ix_seq) (pe_fld (pv 0) rfl) (pv 3) (fun _ _ => rfl))) (nomark _)))
    (pss_cons (ps_expr (pe_bm PySem.F.plainAttrs_list PySem.F.slot_list_append PySem.F.type_list_append mt_append (pe_fld (pv 0) rfl) (pa_cons (pv 1) pa_nil)))
    (pss_cons (ps_expr (pe_bm PySem.F.plainAttrs_list PySem.F.slot_list_append PySem.F.type_list_append mt_append (pe_fld (pv 0) rfl) (pa_cons (pe_ifExp (pt_val (pv 4)) (pv 3) (pv 1)) pa_nil)))
    (pss_cons (ps_expr (pe_bm PySem.F.plainAttrs_list PySem.F.slot_list_append PySem.F.type_list_append mt_append (pe_fld (pv 0) rfl) (pa_cons (pe_op op_add (pe_ix (show IxR _ (rIx K) from ix_seq) (pe_fld (pv 0) rfl) (pv 1) (fun _ _ => rfl)) pe_int) pa_nil)))
    (pss_one (ps_ret (pe_op op_sub (pe_callB (r := fun xs H Q => ∃ x n, xs = [x] ∧ LenV K x H n ∧ Q (.int n) H) call_len (by rfl) T.len PySem.boot_len (pa_cons (pe_fld (pv 0) rfl) pa_nil)) pe_int)))))))))), (by decide : 0 + (0 + 0) + 0 ≤ 0), fun X0 => ⟨_, ss_seq (ss_drop (se_methX se_var (sa_cons se_var sa_nil) mono_Jumps__check)) (ss_dead (c := 0)), fun ds Q h => ?_⟩⟩
  obtain ⟨ps, d, rfl, ok, ht, hb, q⟩ := h
  walk_at "pl"
  exact ⟨jNames, _, rfl, by decide, ps, d, rfl, ok, ht, .inl ⟨hb, q⟩⟩
theorem ok_l_ti_parents {k : Nat} (F : Fun K "_law_ti_parents" "_law_ti_parents" s_l_ti_parents f fd) (T : Bt mg) (TMax : mg "max" = none) (P_l_draw : Pr P w K mg base "_law_draw" k ["state", "size_here"] (spT StW 1 S_l_draw)) : FnOk P w K mg base CX0 (k + 1) f fd ["state", "most"] (spT StW 200 S_l_ti_parents) := by
  refine pl_okT F sc_l_ti_parents (fun tok ds Q h => ?_) fun cdv A outer s H E hr => ?_
  · exact len_l_ti_parents h
  have hu := hu_of hr
  refine ⟨_, (pss_cons (ps_par3 (i := 3) (j := 4) (l := 5) rfl sc_l_ti_parents.nd rfl rfl rfl (by decide) (by decide) (by decide) rfl rfl rfl (pa_cons (pe_op op_add pe_int (pe_callP P_l_draw hr rfl (pa_cons (pv 0) (pa_cons (pv 1) pa_nil)))) (pa_cons (pe_callP P_l_draw hr rfl (pa_cons (pv 0) (pa_cons pe_int pa_nil))) (pa_cons (pe_lst (pa_cons pe_non pa_nil)) pa_nil))) (by rfl))
  (pss_cons (ps_for PassesOwn.never rfl (pi_range2 (by rfl) T.range (pa_cons pe_int (pa_cons (pv 3) pa_nil))) (pg_name (i := 2) sc_l_ti_parents.nd rfl (Or.inl rfl))
  (pss_cons (ps_set (i := 6) sc_l_ti_parents.nd rfl (Or.inl rfl) (pe_op op_sub (pv 2) pe_int))
  (pss_cons (ps_if (PW.pt (pw_or (pt_cmpR op_eq (pv 4) pe_int (nomark _)) (pw_or1 (PW.pt (pw_and (pt_cmpR op_eq (pv 4) pe_int (nomark _)) (pw_and1 (pt_cmpR op_eq (pe_callP P_l_draw hr rfl (pa_cons (pv 0) (pa_cons pe_int pa_nil))) pe_int (nomark _)))))))) (pss_one (ps_set (i := 6) sc_l_ti_parents.nd rfl (Or.inl rfl) (pe_callP P_l_draw hr rfl (pa_cons (pv 0) (pa_cons (pv 2) pa_nil))))) pss_nil)
  (pss_cons (ps_if (pt_cmpR op_eq (pv 4) pe_int (nomark _)) (pss_one (ps_set (i := 6) sc_l_ti_parents.nd rfl (Or.inl rfl) (pe_callB (call_max2 rfl) (by rfl) TMax (by decide +kernel) (pa_cons pe_int (pa_cons (pe_op op_sub (pe_op op_sub (pv 2) pe_int) (pe_callP P_l_draw hr rfl (pa_cons (pv 0) (pa_cons pe_int pa_nil)))) pa_nil))))) pss_nil)
  (pss_one (ps_expr (pe_bm PySem.F.plainAttrs_list PySem.F.slot_list_append PySem.F.type_list_append mt_append (pv 5) (pa_cons (pv 6) pa_nil))))))))
  (pss_one (ps_ret (pe_callTy (T := "tuple") (r := rTupleOf K) call_tuple_of (by rfl) T.tuple (by decide +kernel) (pa_cons (pv 5) pa_nil)))))), fun tok => ⟨_, _, (ss_seq (ss_par3 (SE.x (se_op (SE.r se_int) (SE.r (se_callT tok (sa_cons se_var (sa_cons se_var sa_nil)) (mono_l_draw tok))) k2_int)) (SE.x (se_callT tok (sa_cons se_var (sa_cons se_int sa_nil)) (mono_l_draw tok))) (SL.x (sl_lst (sa_cons se_non sa_nil))))
  (ss_seq (ss_forL 60 (si_rng2 (sa_cons se_int (sa_cons se_var sa_nil))) (sg_name (vs := [2]) (i := 2))
  (ss_seq (ss_set (SE.x (se_op sr_var (SE.r se_int) k2_int)))
  (ss_seq (ss_if (st_or (st_b (se_op sr_var (SE.r se_int) k2_eqS)) (st_and (st_b (se_op sr_var (SE.r se_int) k2_eqS)) (st_b (se_op (SE.r (se_callT tok (sa_cons se_var (sa_cons se_int sa_nil)) (mono_l_draw tok))) (SE.r se_int) k2_eqS)))) (ss_set (SE.x (se_callT tok (sa_cons se_var (sa_cons se_var sa_nil)) (mono_l_draw tok)))) ss_next)
  (ss_seq (ss_if (st_b (se_op sr_var (SE.r se_int) k2_eqS)) (ss_set (SE.x (se_cb (sar_cons (SE.r se_int) (sar_cons (SE.r (se_op (SE.r (se_op sr_var (SE.r se_int) k2_int)) (SE.r (se_callT tok (sa_cons se_var (sa_cons se_int sa_nil)) (mono_l_draw tok))) k2_int)) sar_nil)) kc_max2))) ss_next)
  (ss_app se_var)))))
  (ss_ret (se_cb (sar_cons sr_var sar_nil) kc_tuple)))), by decide, fun ds Q h => ?_⟩⟩
  obtain ⟨m, rfl, hm, hm40, q⟩ := h
  have hsl := sizeLine_eq
  walk_at "pl"
  refine draw_any (n := m) rfl hm (by omega) fun y hy => ?_
  try dsimp only
  refine draw_any (n := 4) rfl (by decide) (by decide) fun wy hwy => ?_
  try dsimp only
  rw [show ((1 : Int) + (y : Int) - 1).toNat = y by omega, rng_length]
  refine ⟨by omega, by omega, by omega, ?_⟩
  refine loop_by (fun i e => ∃ (ps : List Nat) (a b : Sv), i ≤ y ∧ PsOk ps ∧ ps.length = i ∧ e = [.dat (.opq tok), .dat (.int (m : Int)), a, .dat (.int (1 + (y : Int))), .dat (.int (wy : Int)), .own (.non :: encN ps), b]) ⟨[], .un, .un, Nat.zero_le _, fun v h0 hv => absurd hv (by rw [List.length_nil]; omega), rfl, rfl⟩ (fun i dd env N hi ⟨ps, a, b, hik, ok, hl, ee⟩ hN => ?_) (fun e ⟨ps, a, b, hik, ok, hl, ee⟩ => ?_)
  · subst ee
    have hlt : i < y := by
      have := (List.getElem?_eq_some_iff.mp hi).1
      rw [rng_length] at this; exact this
    rw [rng_get hlt] at hi
    cases hi
    have app : ∀ k : Nat, k ≤ i → (encN ps).length + 1 < sizeLine ∧ N [.dat (.opq tok), .dat (.int (m : Int)), .dat (.int (1 + (i : Int))), .dat (.int (1 + (y : Int))), .dat (.int (wy : Int)), .own (.non :: (encN ps ++ [.int (k : Int)])), .dat (.int (k : Int))] := fun k hk => by
      refine ⟨by rw [encN_len]; omega, hN _ ⟨ps ++ [k], .dat (.int (1 + (i : Int))), .dat (.int (k : Int)), hlt, psok_app ok (by omega), by rw [List.length_append]; show _ + 1 = _; omega, ?_⟩⟩
      rw [encN_app]; rfl
    walk_at "pl"
    have e1 : (1 : Int) + (i : Int) - 1 = ((i : Nat) : Int) := by omega
    simp only [e1]
    by_cases w0 : wy = 0
    · refine iteT' (decide_eq_true (by omega)) (draw_any (n := i + 1) (by omega) (by omega) (by omega) fun k hk => ?_)
      try dsimp only
      by_cases w3 : wy = 3
      · refine iteT' (decide_eq_true (by omega)) (draw_any (n := 3) rfl (by decide) (by decide) fun x hx => ?_)
        try dsimp only
        by_cases hx2 : (i : Int) - (x : Int) > 0
        · rw [if_pos hx2, show (i : Int) - (x : Int) = ((i - x : Nat) : Int) by omega]
          exact app _ (by omega)
        · rw [if_neg hx2]
          exact app 0 (by omega)
      · exact iteF' (by rw [decide_eq_false (by omega)]; exact Bool.false_ne_true) (app k (by omega))
    refine iteF' (by rw [decide_eq_false (by omega)]; exact Bool.false_ne_true) ?_
    by_cases w2 : wy = 2
    · refine iteT' (decide_eq_true (by omega)) (draw_any (n := 4) rfl (by decide) (by decide) fun z hz => ?_)
      try dsimp only
      by_cases z0 : z = 0
      · refine iteT' (decide_eq_true (by omega)) (draw_any (n := i + 1) (by omega) (by omega) (by omega) fun k hk => ?_)
        try dsimp only
        by_cases w3 : wy = 3
        · refine iteT' (decide_eq_true (by omega)) (draw_any (n := 3) rfl (by decide) (by decide) fun x hx => ?_)
          try dsimp only
          by_cases hx2 : (i : Int) - (x : Int) > 0
          · rw [if_pos hx2, show (i : Int) - (x : Int) = ((i - x : Nat) : Int) by omega]
            exact app _ (by omega)
          · rw [if_neg hx2]
            exact app 0 (by omega)
        · exact iteF' (by rw [decide_eq_false (by omega)]; exact Bool.false_ne_true) (app k (by omega))
      · refine iteF' (by rw [decide_eq_false (by omega)]; exact Bool.false_ne_true) ?_
        by_cases w3 : wy = 3
        · refine iteT' (decide_eq_true (by omega)) (draw_any (n := 3) rfl (by decide) (by decide) fun x hx => ?_)
          try dsimp only
          by_cases hx2 : (i : Int) - (x : Int) > 0
          · rw [if_pos hx2, show (i : Int) - (x : Int) = ((i - x : Nat) : Int) by omega]
            exact app _ (by omega)
          · rw [if_neg hx2]
            exact app 0 (by omega)
        · exact iteF' (by rw [decide_eq_false (by omega)]; exact Bool.false_ne_true) (app i (by omega))
    refine iteF' (by rw [decide_eq_false (by omega)]; exact Bool.false_ne_true) ?_
    by_cases w3 : wy = 3
    · refine iteT' (decide_eq_true (by omega)) (draw_any (n := 3) rfl (by decide) (by decide) fun x hx => ?_)
      try dsimp only
      by_cases hx2 : (i : Int) - (x : Int) > 0
      · rw [if_pos hx2, show (i : Int) - (x : Int) = ((i - x : Nat) : Int) by omega]
        exact app _ (by omega)
      · rw [if_neg hx2]
        exact app 0 (by omega)
    · exact iteF' (by rw [decide_eq_false (by omega)]; exact Bool.false_ne_true) (app i (by omega))
  · subst ee
    rw [rng_length] at hl
    walk_at "pl"
    exact q ps ok (by omega)

theorem ok_l_ti_up {k : Nat} (F : Fun K "_law_ti_up" "_law_ti_up" s_l_ti_up f fd) (T : Bt mg)  : FnOk P w K mg base CX0 (k + 1) f fd ["parents_here", "version"] (spP CA 0 S_l_ti_up) := by
  refine pl_ok F sc_l_ti_up (fun ds Q h => ?_) fun cdv A outer s H E hr => ?_
  · exact len_l_ti_up h
  have hu := hu_of hr
  refine ⟨_, _, _, (pss_cons (ps_set (i := 2) sc_l_ti_up.nd rfl (Or.inl rfl) (pe_lst (pa_cons (pv 1) pa_nil)))
  (pss_cons (ps_for PassesOwn.never rfl (pi_range1 rfl T.range (pa_cons (pe_callB (r := fun xs H Q => ∃ x n, xs = [x] ∧ LenV K x H n ∧ Q (.int n) H) call_len (by rfl) T.len PySem.boot_len (pa_cons (pv 0) pa_nil)) pa_nil)) (pg_name (i := 3) sc_l_ti_up.nd rfl (Or.inl rfl))
  (pss_one (ps_if (pt_cmpR op_notN (pe_ix (show IxR _ (rIx K) from ix_seq) (pv 0) (pe_ix (show IxR _ (rIx K) from ix_seq) (pv 2) (pe_un un_neg pe_int) (fun _ _ => rfl)) (fun _ _ => rfl)) pe_non (nomark _)) (pss_one (ps_expr (pe_bm PySem.F.plainAttrs_list PySem.F.slot_list_append PySem.F.type_list_append mt_append (pv 2) (pa_cons (pe_ix (show IxR _ (rIx K) from ix_seq) (pv 0) (pe_ix (show IxR _ (rIx K) from ix_seq) (pv 2) (pe_un un_neg pe_int) (fun _ _ => rfl)) (fun _ _ => rfl)) pa_nil)))) pss_nil)))
  (pss_one (ps_ret (pv 2))))), (ss_seq (ss_set (SL.x (sl_lst (sa_cons se_var sa_nil))))
  (ss_seq (ss_for (si_rng1 (sa_cons (se_cb (sar_cons sr_var sar_nil) kc_len) sa_nil)) (sg_name (vs := [3]) (i := 3))
  (ss_if (st_b (se_op (SE.r (se_op sr_var (SE.r (se_op sr_var (SE.r (se_neg se_int)) k2_ix)) k2_ix)) (SE.r se_non) k2_notN)) (ss_app (se_op sr_var (SE.r (se_op sr_var (SE.r (se_neg se_int)) k2_ix)) k2_ix)) ss_next))
  (ss_frz 2 (ss_ret se_var)))), by decide, fun ds Q h => ?_⟩
  obtain ⟨ps, v, rfl, ok, few, hv, q⟩ := h
  have hsl := sizeLine_eq
  have few' : ps.length < 3000 := few
  have hwl := way_len ok v hv
  unfold encP
  walk_at "pl"
  rw [encN_len, Int.toNat_natCast]
  refine ⟨by omega, ⟨by omega, by omega⟩, ?_⟩
  obtain ⟨t0, et0⟩ := Mt.self ok hv
  refine loop_by (fun i e => ∃ (F R : List Nat) (x : Nat) (a : Sv), x ≤ v ∧ way ps x = x :: R ∧ F ++ (x :: R) = way ps v ∧ (F.length = i ∨ R = []) ∧ e = [.dat (.tup (.non :: encN ps)), .dat (.int (v : Int)), .own (encN (F ++ [x])), a]) ⟨[], t0, v, .un, Nat.le_refl _, et0, by rw [et0]; rfl, .inl rfl, rfl⟩ (fun i dd env N hi ⟨F, R, x, a, hx, hw, hF, hR, ee⟩ hN => ?_) (fun e ⟨F, R, x, a, hx, hw, hF, hR, ee⟩ => ?_)
  · subst ee
    have hlen := congrArg List.length hF
    rw [List.length_append, List.length_cons] at hlen
    have hl : atI (encN (F ++ [x])) (-1) = some (.int (x : Int)) := by rw [encN_app]; exact atI_lst _ _
    walk_at "pl"
    rw [hl]
    dsimp only
    by_cases h0 : x = 0
    · subst h0
      rw [show atI (D.non :: encN ps) ((0 : Nat) : Int) = some .non from atI_nat (i := 0) rfl]
      have hR0 : R = [] := by rw [way_zero] at hw; exact (List.cons.inj hw).2.symm
      exact iteF' (by decide) (hN _ ⟨F, R, 0, _, hx, hw, hF, .inr hR0, rfl⟩)
    · have hp := ok x (by omega) (by omega)
      rw [encP_at (by omega) (by omega)]
      obtain ⟨t1, et1⟩ := Mt.self ok (by omega : par ps x ≤ ps.length)
      rw [way_eq ok (by omega) (by omega), et1] at hw
      have hw := (List.cons.inj hw).2
      refine iteT' (by show (!false) = true; decide) ⟨by rw [encN_len, List.length_append]; show F.length + 1 < _; omega, hN _ ⟨F ++ [x], t1, par ps x, .dat dd, by omega, et1, ?_, ?_, ?_⟩⟩
      · rw [List.append_assoc, hw]; exact hF
      · rcases hR with hR | hR
        · exact .inl (by rw [List.length_append, hR]; rfl)
        · rw [hR] at hw; cases hw
      · rw [encN_app (F ++ [x])]; rfl
  · subst ee
    rw [rng_length] at hR
    have hlen := congrArg List.length hF
    rw [List.length_append, List.length_cons] at hlen
    have hR0 : R = [] := hR.elim (fun z => absurd z (by omega)) id
    subst hR0
    walk_at "pl"
    rw [hF]
    exact q

theorem ok_l_ti_odd_version {k : Nat} (F : Fun K "_law_ti_odd_version" "_law_ti_odd_version" s_l_ti_odd_version f fd) (T : Bt mg) (P_l_pick : Pr P w K mg base "_law_pick" k ["state", "several"] (spT StW 1 S_l_pick)) : FnOk P w K mg base CX0 (k + 1) f fd ["state", "many"] (spT StW 1 S_l_ti_odd_version) := by
  refine pl_okT F sc_l_ti_odd_version (fun tok ds Q h => ?_) fun cdv A outer s H E hr => ?_
  · exact len_l_ti_odd_version h
  have hu := hu_of hr
  refine ⟨_, (pss_one (ps_ret (pe_callP P_l_pick hr rfl (pa_cons (pv 0) (pa_cons (pe_lst (pa_cons (pv 1) (pa_cons (pe_un un_neg pe_int) (pa_cons pe_non (pa_cons pe_bl (pa_cons pe_str (pa_cons (pe_tup (pa_cons pe_int pa_nil)) (pa_cons (pe_op op_add (pv 1) pe_int) pa_nil)))))))) pa_nil))))), fun tok => ⟨_, _, (ss_ret (se_callT tok (sa_cons se_var (sa_cons (SL.e (sl_lst (sa_cons se_var (sa_cons (se_neg se_int) (sa_cons se_non (sa_cons se_bl (sa_cons se_str (sa_cons (se_tup (sa_cons se_int sa_nil)) (sa_cons (se_op sr_var (SE.r se_int) k2_int) sa_nil))))))))) sa_nil)) (mono_l_pick tok))), by decide, fun ds Q h => ?_⟩⟩
  obtain ⟨m, rfl, hm, q⟩ := h
  walk_at "pl"
  refine ⟨by rw [sizeLine_eq]; decide, by rw [sizeLine_eq]; decide, _, rfl, (fun z => nomatch z), by show 7 < _; decide, fun d hd => ?_⟩
  simp only [List.mem_cons, List.not_mem_nil, or_false] at hd
  rcases hd with rfl | rfl | rfl | rfl | rfl | rfl | rfl
  · exact q _ (tame_int' _) (by rw [btB_int (by omega) (by omega)]; exact decide_eq_false (by omega))
  · exact q _ (tame_int' _) (by rw [btB_int (by omega) (by omega)]; exact decide_eq_false (by omega))
  · exact q _ tame_non rfl
  · exact q _ ⟨(fun z => nomatch z), fun l z => nomatch z⟩ rfl
  · exact q _ ⟨(fun z => nomatch z), fun l z => nomatch z⟩ rfl
  · exact q _ (tame_tup _) rfl
  · exact q _ (tame_int' _) (by rw [btB_int (by omega) (by omega)]; exact decide_eq_false (by omega))

theorem ok_l_ju_tree {k : Nat} (F : Fun K "_law_ju_tree" "_law_ju_tree" s_l_ju_tree f fd) (T : Bt mg) (P_l_pick : Pr P w K mg base "_law_pick" k ["state", "several"] (spT StW 1 S_l_pick)) (P_l_draw : Pr P w K mg base "_law_draw" k ["state", "size_here"] (spT StW 1 S_l_draw)) (P_l_ti_parents : Pr P w K mg base "_law_ti_parents" k ["state", "most"] (spT StW 200 S_l_ti_parents)) : FnOk P w K mg base CX0 (k + 1) f fd ["state"] (spT StW 300 S_l_ju_tree) := by
  refine pl_okT F sc_l_ju_tree (fun tok ds Q h => ?_) fun cdv A outer s H E hr => ?_
  · exact len_l_ju_tree h
  have hu := hu_of hr
  refine ⟨_, (pss_cons (ps_if (pt_cmpR op_gt (pe_callP P_l_draw hr rfl (pa_cons (pv 0) (pa_cons pe_int pa_nil))) pe_int (nomark _)) (pss_one (ps_ret (pe_callP P_l_ti_parents hr rfl (pa_cons (pv 0) (pa_cons pe_int pa_nil))))) pss_nil)
  (pss_cons (ps_set (i := 1) sc_l_ju_tree.nd rfl (Or.inl rfl) (pe_callP P_l_pick hr rfl (pa_cons (pv 0) (pa_cons (pe_lst (pa_cons pe_int (pa_cons pe_int (pa_cons pe_int (pa_cons pe_int (pa_cons pe_int (pa_cons (pe_op op_add pe_int (pe_callP P_l_draw hr rfl (pa_cons (pv 0) (pa_cons pe_int pa_nil)))) pa_nil))))))) pa_nil))))
  (pss_one (ps_ret (pe_callTy (T := "tuple") (r := rTupleOf K) call_tuple_of (by rfl) T.tuple (by decide +kernel) (pa_cons (pe_op op_cat (pe_lst (pa_cons pe_non pa_nil)) (pe_listRg rfl rfl T.list (prg_1 rfl T.range (pe_op op_sub (pv 1) pe_int)))) pa_nil)))))), fun tok => ⟨_, _, (ss_seq (ss_if (st_b (se_op (SE.r (se_callT tok (sa_cons se_var (sa_cons se_int sa_nil)) (mono_l_draw tok))) (SE.r se_int) k2_bl)) (ss_ret (se_callT tok (sa_cons se_var (sa_cons se_int sa_nil)) (mono_l_ti_parents tok))) ss_next)
  (ss_seq (ss_set (SE.x (se_callT tok (sa_cons se_var (sa_cons (SL.e (sl_lst (sa_cons se_int (sa_cons se_int (sa_cons se_int (sa_cons se_int (sa_cons se_int (sa_cons (se_op (SE.r se_int) (SE.r (se_callT tok (sa_cons se_var (sa_cons se_int sa_nil)) (mono_l_draw tok))) k2_int) sa_nil)))))))) sa_nil)) (mono_l_pick tok))))
  (ss_ret (se_cb (sar_cons (SE.r (SL.e (sl_op (SE.r (SL.e (sl_lst (sa_cons se_non sa_nil)))) (SE.r (SL.e (sl_lrg (se_op sr_var (SE.r se_int) k2_int)))) kl_cat))) sar_nil) kc_tuple)))), by decide, fun ds Q h => ?_⟩⟩
  obtain ⟨rfl, q⟩ := h
  have hsl := sizeLine_eq
  walk_at "pl"
  refine draw_any (n := 4) rfl (by decide) (by decide) fun k hk => ?_
  try dsimp only
  by_cases h0 : (0 : Int) < (k : Int)
  · exact iteT' (decide_eq_true h0) ⟨40, rfl, by decide, by decide, fun ps ok hl => q ps ok (by omega)⟩
  refine iteF' (by rw [decide_eq_false h0]; exact Bool.false_ne_true) ?_
  refine draw_any (n := 150) rfl (by decide) (by decide) fun y hy => ?_
  try dsimp only
  refine ⟨by omega, _, rfl, (fun z => nomatch z), by show 6 < _; decide, fun d hd => ?_⟩
  obtain ⟨m, rfl, hm1, hm2⟩ : ∃ m : Nat, d = .int (m : Int) ∧ 1 ≤ m ∧ m ≤ 1000 := by
    simp only [List.mem_cons, List.not_mem_nil, or_false] at hd
    rcases hd with rfl | rfl | rfl | rfl | rfl | rfl
    · exact ⟨350, rfl, by decide, by decide⟩
    · exact ⟨260, rfl, by decide, by decide⟩
    · exact ⟨64, rfl, by decide, by decide⟩
    · exact ⟨128, rfl, by decide, by decide⟩
    · exact ⟨1000, rfl, by decide, by decide⟩
    · exact ⟨200 + y, congrArg D.int (by omega), by omega, by omega⟩
  try dsimp only
  have e : ((m : Int) - 1).toNat = m - 1 := by omega
  rw [e, rng_encN]
  have e2 : encP (List.range (m - 1)) = .tup ([D.non] ++ encN (List.range (m - 1))) := rfl
  have q := q (List.range (m - 1)) (row_ok _) (by rw [List.length_range]; omega)
  rw [e2] at q
  refine ⟨by omega, ?_, by rw [encN_len, List.length_range]; omega, q⟩
  unfold RgOk
  first | omega | (refine ⟨?_, ?_⟩ <;> omega)

theorem ok_l_ju_jumps {k : Nat} (F : Fun K "_law_ju_jumps" "_law_ju_jumps" s_l_ju_jumps f fd) (T : Bt mg)  : FnOk P w K mg base CX0 (k + 1) f fd ["parents_here", "deep"] (spP CA 0 S_l_ju_jumps) := by
  refine pl_ok F sc_l_ju_jumps (fun ds Q h => ?_) fun cdv A outer s H E hr => ?_
  · exact len_l_ju_jumps h
  have hu := hu_of hr
  refine ⟨_, _, _, (pss_cons (ps_set (i := 2) sc_l_ju_jumps.nd rfl (Or.inl rfl) (pe_lst (pa_cons pe_int pa_nil)))
  (pss_cons (ps_for PassesOwn.never rfl (pi_tup (pe_slice sl_tupA (pv 0) (po_some pe_int) po_none)) (pg_name (i := 3) sc_l_ju_jumps.nd rfl (Or.inl rfl))
  (pss_cons (ps_set (i := 4) sc_l_ju_jumps.nd rfl (Or.inl rfl) (pe_ix (show IxR _ (rIx K) from ix_seq) (pv 2) (pv 3) (fun _ _ => rfl)))
  (pss_cons (ps_set (i := 5) sc_l_ju_jumps.nd rfl (Or.inl rfl) (pe_ix (show IxR _ (rIx K) from ix_seq) (pv 2) (pv 4) (fun _ _ => rfl)))
  (pss_one (ps_expr (pe_bm PySem.F.plainAttrs_list PySem.F.slot_list_append PySem.F.type_list_append mt_append (pv 2) (pa_cons (pe_ifExp (pt_cmpR op_eq (pe_op op_sub (pe_ix (show IxR _ (rIx K) from ix_seq) (pv 1) (pv 3) (fun _ _ => rfl)) (pe_ix (show IxR _ (rIx K) from ix_seq) (pv 1) (pv 4) (fun _ _ => rfl))) (pe_op op_sub (pe_ix (show IxR _ (rIx K) from ix_seq) (pv 1) (pv 4) (fun _ _ => rfl)) (pe_ix (show IxR _ (rIx K) from ix_seq) (pv 1) (pv 5) (fun _ _ => rfl))) (nomark _)) (pv 5) (pv 3)) pa_nil)))))))
  (pss_one (ps_ret (pv 2))))), (ss_seq (ss_set (SL.x (sl_lst (sa_cons se_int sa_nil))))
  (ss_seq (ss_for (si_tup (se_slT sr_var (so_some se_int) so_none)) (sg_name (vs := [3]) (i := 3))
  (ss_seq (ss_set (SE.x (se_op sr_var sr_var k2_ix)))
  (ss_seq (ss_set (SE.x (se_op sr_var sr_var k2_ix)))
  (ss_app (se_if (st_b (se_op (SE.r (se_op (SE.r (se_op sr_var sr_var k2_ix)) (SE.r (se_op sr_var sr_var k2_ix)) k2_int)) (SE.r (se_op (SE.r (se_op sr_var sr_var k2_ix)) (SE.r (se_op sr_var sr_var k2_ix)) k2_int)) k2_eqS)) se_var se_var)))))
  (ss_frz 2 (ss_ret se_var)))), by decide, fun ds Q h => ?_⟩
  obtain ⟨ps, rfl, ok, few, q⟩ := h
  have hsl := sizeLine_eq
  have few' : ps.length < 3000 := few
  unfold encP
  walk_at "pl"
  rw [show PL.cutD (D.non :: encN ps) (some 1) none = encN ps from cutD_one _]
  refine ⟨by omega, ?_⟩
  refine loop_by (fun i e => ∃ a b c : Sv, i ≤ ps.length ∧ e = [.dat (.tup (.non :: encN ps)), .dat (.lst (encN (dL ps))), .own (encN ((List.range (i + 1)).map (Ju.Jv ps))), a, b, c]) ⟨.un, .un, .un, Nat.zero_le _, by rw [show (List.range (0 + 1)).map (Ju.Jv ps) = [0] from congrArg (fun x => [x]) Ju.Jv_zero]; rfl⟩ (fun i dd env N hi ⟨a, b, c, hil, ee⟩ hN => ?_) (fun e ⟨a, b, c, hil, ee⟩ => ?_)
  · subst ee
    have hlt : i < ps.length := by
      have := (List.getElem?_eq_some_iff.mp hi).1
      rw [encN_len] at this; exact this
    have hdd : dd = .int (par ps (i + 1) : Int) := by
      have h1 := parD_at (ps := ps) (Nat.succ_pos i) (by omega : i + 1 ≤ ps.length)
      unfold encN at hi
      rw [List.getElem?_map, List.getElem?_eq_getElem hlt] at hi
      cases hi
      unfold par
      rw [Nat.add_sub_cancel, List.getElem?_eq_getElem hlt]; rfl
    subst hdd
    have hp := ok (i + 1) (Nat.succ_pos _) (by omega)
    have fat : ∀ v, v ≤ i → ((List.range (i + 1)).map (Ju.Jv ps))[v]? = some (Ju.Jv ps v) := fun v hv => by rw [List.getElem?_map, List.getElem?_range (by omega)]; rfl
    obtain ⟨j1, j2⟩ := Ju.Jv_ok ok (by omega : par ps (i + 1) ≤ ps.length)
    obtain ⟨k1, k2⟩ := Ju.Jv_ok ok (by omega : Ju.Jv ps (par ps (i + 1)) ≤ ps.length)
    have l1 := Ju.jd_le (Ju.dp ps (par ps (i + 1)))
    have l2 := Ju.jd_le (Ju.dp ps (Ju.Jv ps (par ps (i + 1))))
    have js := Ju.Jv_step ok (Nat.succ_pos i) (by omega : i + 1 ≤ ps.length)
    walk_at "pl"
    rw [encN_at (fat _ (by omega))]
    try dsimp only
    rw [encN_at (fat _ (by omega))]
    try dsimp only
    rw [dL_at (by omega), dL_at (by omega : Ju.Jv ps (par ps (i + 1)) ≤ ps.length), dL_at (by omega : Ju.Jv ps (Ju.Jv ps (par ps (i + 1))) ≤ ps.length)]
    try dsimp only
    have go : ∀ x : Nat, Ju.Jv ps (i + 1) = x → (encN ((List.range (i + 1)).map (Ju.Jv ps))).length < sizeLine ∧ N [.dat (.tup (.non :: encN ps)), .dat (.lst (encN (dL ps))), .own (encN ((List.range (i + 1)).map (Ju.Jv ps)) ++ [.int (x : Int)]), .dat (.int (par ps (i + 1) : Int)), .dat (.int (Ju.Jv ps (par ps (i + 1)) : Int)), .dat (.int (Ju.Jv ps (Ju.Jv ps (par ps (i + 1))) : Int))] := fun x hx => by
      refine ⟨by rw [encN_len, List.length_map, List.length_range]; omega, hN _ ⟨.dat (.int (par ps (i + 1) : Int)), .dat (.int (Ju.Jv ps (par ps (i + 1)) : Int)), .dat (.int (Ju.Jv ps (Ju.Jv ps (par ps (i + 1))) : Int)), hlt, ?_⟩⟩
      rw [List.range_succ (n := i + 1), List.map_append, encN_app, ← hx]; rfl
    by_cases hc : Ju.dp ps (par ps (i + 1)) - Ju.dp ps (Ju.Jv ps (par ps (i + 1))) = Ju.dp ps (Ju.Jv ps (par ps (i + 1))) - Ju.dp ps (Ju.Jv ps (Ju.Jv ps (par ps (i + 1))))
    · exact iteT' (decide_eq_true (by omega)) (go _ (by rw [js, if_pos hc]))
    · exact iteF' (by rw [decide_eq_false (by omega)]; exact Bool.false_ne_true) (go _ (by rw [js, if_neg hc]))
  · subst ee
    walk_at "pl"
    rw [encN_len]
    exact q

theorem ok_l_ju_steps {k : Nat} (F : Fun K "_law_ju_steps" "_law_ju_steps" s_l_ju_steps f fd) (T : Bt mg)  : FnOk P w K mg base CX0 (k + 1) f fd ["parents_here", "jumps_here", "deep", "version", "depth"] (spP CA 0 S_l_ju_steps) := by
  refine pl_ok F sc_l_ju_steps (fun ds Q h => ?_) fun cdv A outer s H E hr => ?_
  · exact len_l_ju_steps h
  have hu := hu_of hr
  refine ⟨_, _, _, (pss_cons (ps_par (i := 6) (j := 7) rfl sc_l_ju_steps.nd rfl rfl (by decide) rfl rfl (pa_cons pe_int (pa_cons (pv 3) pa_nil)) (by rfl))
  (pss_cons (ps_for PassesOwn.never rfl (pi_range1 rfl T.range (pa_cons (pe_ix (show IxR _ (rIx K) from ix_seq) (pv 2) (pv 3) (fun _ _ => rfl)) pa_nil)) (pg_name (i := 5) sc_l_ju_steps.nd rfl (Or.inl rfl))
  (pss_one (ps_if (pt_cmpR op_ne (pe_ix (show IxR _ (rIx K) from ix_seq) (pv 2) (pv 7) (fun _ _ => rfl)) (pv 4) (nomark _)) (pss_cons (ps_set (i := 7) sc_l_ju_steps.nd rfl (Or.inl rfl) (pe_ifExp (pt_cmpR op_ge (pe_ix (show IxR _ (rIx K) from ix_seq) (pv 2) (pe_ix (show IxR _ (rIx K) from ix_seq) (pv 1) (pv 7) (fun _ _ => rfl)) (fun _ _ => rfl)) (pv 4) (nomark _)) (pe_ix (show IxR _ (rIx K) from ix_seq) (pv 1) (pv 7) (fun _ _ => rfl)) (pe_ix (show IxR _ (rIx K) from ix_seq) (pv 0) (pv 7) (fun _ _ => rfl))))
  (pss_one (ps_set (i := 6) sc_l_ju_steps.nd rfl (Or.inl rfl) (pe_op op_add (pv 6) pe_int)))) pss_nil)))
  (pss_one (ps_ret (pe_tup (pa_cons (pv 7) (pa_cons (pv 6) pa_nil))))))), (ss_seq (ss_par (SE.x se_int) (SE.x se_var))
  (ss_seq (ss_for (si_rng1 (sa_cons (se_op sr_var sr_var k2_ix) sa_nil)) (sg_name (vs := [5]) (i := 5))
  (ss_if (st_b (se_op (SE.r (se_op sr_var sr_var k2_ix)) sr_var k2_neS)) (ss_seq (ss_set (SE.x (se_if (st_b (se_op (SE.r (se_op sr_var (SE.r (se_op sr_var sr_var k2_ix)) k2_ix)) sr_var k2_bl)) (se_op sr_var sr_var k2_ix) (se_op sr_var sr_var k2_ix))))
  (ss_set (SE.x (se_op sr_var (SE.r se_int) k2_int)))) ss_next))
  (ss_ret (se_tup (sa_cons se_var (sa_cons se_var sa_nil)))))), by decide, fun ds Q h => ?_⟩
  obtain ⟨ps, v, t, rfl, ok, few, hv, ht, q⟩ := h
  have few' : ps.length < 3000 := few
  have hsl := sizeLine_eq
  have hdv := Ju.dp_le ok v hv
  unfold encP
  walk_at "pl"
  rw [dL_at hv]
  try dsimp only
  rw [Int.toNat_natCast]
  refine ⟨⟨by omega, by omega⟩, ?_⟩
  refine loop_by (fun i e => ∃ (h s : Nat) (a : Sv), h ≤ ps.length ∧ t ≤ Ju.dp ps h ∧ Ju.upA ps h t = Ju.upA ps v t ∧ s + Ju.steps (Ju.dp ps h) t = Ju.steps (Ju.dp ps v) t ∧ (Ju.dp ps h + i ≤ Ju.dp ps v ∨ Ju.dp ps h = t) ∧ e = [.dat (.tup (.non :: encN ps)), .dat (.lst (encN (jL ps))), .dat (.lst (encN (dL ps))), .dat (.int (v : Int)), .dat (.int (t : Int)), a, .dat (.int (s : Int)), .dat (.int (h : Int))]) ⟨v, 0, .un, hv, ht, rfl, Nat.zero_add _, .inl (Nat.le_refl _), rfl⟩ (fun i dd env N hi ⟨h, s', a, h1, h2, h3, h4, h5, ee⟩ hN => ?_) (fun e ⟨h, s', a, h1, h2, h3, h4, h5, ee⟩ => ?_)
  · subst ee
    walk_at "pl"
    rw [dL_at h1]
    try dsimp only
    by_cases he : Ju.dp ps h = t
    · exact iteF' (by rw [decide_eq_true (by omega)]; exact Bool.false_ne_true) (hN _ ⟨h, s', _, h1, h2, h3, h4, .inr he, rfl⟩)
    · refine iteT' (by rw [decide_eq_false (by omega)]; rfl) ?_
      have hlt : t < Ju.dp ps h := by omega
      obtain ⟨u1, u2, h0⟩ := Ju.upA_step ok h1 hlt
      obtain ⟨j1, j2⟩ := Ju.Jv_ok ok h1
      have jl := Ju.jd_lt (by omega : 0 < Ju.dp ps h)
      have hp := ok h h0 h1
      have hd := Ju.dp_par ok h0 h1
      have sg := Ju.steps_go hlt
      rw [jL_at h1]
      try dsimp only
      rw [dL_at (by omega : Ju.Jv ps h ≤ ps.length)]
      try dsimp only
      by_cases hj : t ≤ Ju.dp ps (Ju.Jv ps h)
      · rw [if_pos (by omega : t ≤ Ju.jd (Ju.dp ps h)), ← j1] at sg
        exact iteT' (decide_eq_true (by omega)) (hN _ ⟨Ju.Jv ps h, s' + 1, _, by omega, hj, (u1 hj).trans h3, by omega, by omega, rfl⟩)
      · rw [if_neg (by omega : ¬ t ≤ Ju.jd (Ju.dp ps h)), show Ju.dp ps h - 1 = Ju.dp ps (par ps h) by omega] at sg
        refine iteF' (by rw [decide_eq_false (by omega)]; exact Bool.false_ne_true) ?_
        rw [encP_at h0 h1]
        exact hN _ ⟨par ps h, s' + 1, _, by omega, by omega, u2.trans h3, by omega, by omega, rfl⟩
  · subst ee
    rw [rng_length] at h5
    have e1 : Ju.dp ps h = t := by omega
    have e2 : Ju.upA ps h t = h := by rw [← e1]; exact Ju.upA_self
    have e3 : s' = Ju.steps (Ju.dp ps v) t := by rw [Ju.steps_le (by omega)] at h4; omega
    walk_at "pl"
    refine ⟨by omega, ?_⟩
    rw [← h3, e2, ← e3] at q
    exact q

theorem ok_l_ju_marks {k : Nat} (F : Fun K "_law_ju_marks" "_law_ju_marks" s_l_ju_marks f fd) (T : Bt mg) (P_l_draw : Pr P w K mg base "_law_draw" k ["state", "size_here"] (spT StW 1 S_l_draw)) (P_l_pick : Pr P w K mg base "_law_pick" k ["state", "several"] (spT StW 1 S_l_pick)) : FnOk P w K mg base CX0 (k + 1) f fd ["state", "parents_here"] (spT StW 1100 S_l_ju_marks) := by
  refine pl_okT F sc_l_ju_marks (fun tok ds Q h => ?_) fun cdv A outer s H E hr => ?_
  · exact len_l_ju_marks h
  have hu := hu_of hr
  refine ⟨_, (pss_cons (ps_set (i := 2) sc_l_ju_marks.nd rfl (Or.inl rfl) (pe_lst (pa_cons (pe_callP P_l_draw hr rfl (pa_cons (pv 0) (pa_cons pe_int pa_nil))) pa_nil)))
  (pss_cons (ps_for PassesOwn.never rfl (pi_tup (pe_slice sl_tupA (pv 1) (po_some pe_int) po_none)) (pg_name (i := 3) sc_l_ju_marks.nd rfl (Or.inl rfl))
  (pss_one (ps_expr (pe_bm PySem.F.plainAttrs_list PySem.F.slot_list_append PySem.F.type_list_append mt_append (pv 2) (pa_cons (pe_op op_add (pe_ix (show IxR _ (rIx K) from ix_seq) (pv 2) (pv 3) (fun _ _ => rfl)) (pe_callP P_l_pick hr rfl (pa_cons (pv 0) (pa_cons (pe_lst (pa_cons pe_int (pa_cons pe_int (pa_cons pe_int (pa_cons pe_int (pa_cons pe_int pa_nil)))))) pa_nil)))) pa_nil)))))
  (pss_one (ps_ret (pv 2))))), fun tok => ⟨_, _, (ss_seq (ss_set (SL.x (sl_lst (sa_cons (se_callT tok (sa_cons se_var (sa_cons se_int sa_nil)) (mono_l_draw tok)) sa_nil))))
  (ss_seq (ss_forL 1000 (si_tup (se_slT sr_var (so_some se_int) so_none)) (sg_name (vs := [3]) (i := 3))
  (ss_app (se_op (SE.r (se_op sr_var sr_var k2_ix)) (SE.r (se_callT tok (sa_cons se_var (sa_cons (SL.e (sl_lst (sa_cons se_int (sa_cons se_int (sa_cons se_int (sa_cons se_int (sa_cons se_int sa_nil))))))) sa_nil)) (mono_l_pick tok))) k2_int)))
  (ss_frz 2 (ss_ret se_var)))), by decide, fun ds Q h => ?_⟩⟩
  obtain ⟨ps, rfl, ok, hl, q⟩ := h
  have hsl := sizeLine_eq
  unfold encP
  walk_at "pl"
  refine draw_any (n := 3) rfl (by decide) (by decide) fun k0 hk0 => ?_
  try dsimp only
  rw [show PL.cutD (D.non :: encN ps) (some 1) none = encN ps from cutD_one _]
  refine ⟨by omega, by rw [encN_len]; omega, ?_⟩
  refine loop_by (fun i e => ∃ (mk : List Nat) (a : Sv), i ≤ ps.length ∧ mk.length = i + 1 ∧ (∀ v, 0 < v → v ≤ i → mk.getD (par ps v) 0 ≤ mk.getD v 0) ∧ (∀ x ∈ mk, x < 3 + 5 * i) ∧ e = [.dat (.opq tok), .dat (.tup (.non :: encN ps)), .own (encN mk), a]) ⟨[k0], .un, Nat.zero_le _, rfl, fun v h0 hv => absurd hv (by omega), fun x hx => by rw [List.mem_singleton.mp hx]; omega, rfl⟩ (fun i dd env N hi ⟨mk, a, hil, h1, h2, h3, ee⟩ hN => ?_) (fun e ⟨mk, a, hil, h1, h2, h3, ee⟩ => ?_)
  · subst ee
    have hlt : i < ps.length := by
      have := (List.getElem?_eq_some_iff.mp hi).1
      rw [encN_len] at this; exact this
    have hdd : dd = .int (par ps (i + 1) : Int) := by
      unfold encN at hi
      rw [List.getElem?_map, List.getElem?_eq_getElem hlt] at hi
      cases hi
      unfold par
      rw [Nat.add_sub_cancel, List.getElem?_eq_getElem hlt]; rfl
    subst hdd
    have hp := ok (i + 1) (Nat.succ_pos _) (by omega)
    have hm := List.getElem?_eq_getElem (show par ps (i + 1) < mk.length by omega)
    have hgd : mk.getD (par ps (i + 1)) 0 = mk[par ps (i + 1)] := by rw [List.getD_eq_getElem?_getD, hm]; rfl
    have hlt3 := h3 _ (List.mem_of_getElem? hm)
    generalize mk[par ps (i + 1)] = x at hm hgd hlt3
    walk_at "pl"
    rw [encN_at hm]
    try dsimp only
    have go : ∀ y : Nat, y ≤ 5 → (encN mk).length < sizeLine ∧ N [.dat (.opq tok), .dat (.tup (.non :: encN ps)), .own (encN mk ++ [.int ((x : Int) + (y : Int))]), .dat (.int (par ps (i + 1) : Int))] := fun y hy => by
      refine ⟨by rw [encN_len]; omega, hN _ ⟨mk ++ [x + y], _, hlt, by rw [List.length_append, h1]; rfl, fun v h0 hv => ?_, fun z hz => ?_, by rw [encN_app, show (x : Int) + (y : Int) = ((x + y : Nat) : Int) by omega]; rfl⟩⟩
      · have ga : ∀ v, v ≤ i → (mk ++ [x + y]).getD v 0 = mk.getD v 0 := fun v hv => by rw [List.getD_eq_getElem?_getD, List.getD_eq_getElem?_getD, List.getElem?_append_left (by omega)]
        by_cases e : v ≤ i
        · have hpv := ok v h0 (by omega)
          rw [ga _ (by omega), ga _ e]
          exact h2 v h0 e
        · rw [show v = i + 1 by omega, ga _ (by omega), hgd]
          rw [List.getD_eq_getElem?_getD, List.getElem?_append_right (by omega), h1, Nat.sub_self]
          show x ≤ x + y
          omega
      · rcases List.mem_append.mp hz with hz | hz
        · have := h3 z hz; omega
        · rw [List.mem_singleton.mp hz]; omega
    refine ⟨by omega, _, rfl, (fun z => nomatch z), by show 5 < _; decide, fun d hd => ?_⟩
    simp only [List.mem_cons, List.not_mem_nil, or_false] at hd
    rcases hd with rfl | rfl | rfl | rfl | rfl
    · exact go 0 (by decide)
    · exact go 0 (by decide)
    · exact go 1 (by decide)
    · exact go 0 (by decide)
    · exact go 5 (by decide)
  · subst ee
    rw [encN_len] at h1 h2 h3
    walk_at "pl"
    exact q mk ⟨h1, fun v h0 hv => h2 v h0 hv⟩ fun x hx => by have := h3 x hx; omega

end
end W
end Law

namespace Law
namespace W
open PySem PySem.Spec PyProof.Rows L2 PL LamX
local macro_rules | `(tactic| walk_at "pl") => `(tactic| simp only [sRet, sRetN, sSeq, sNext, sNever, sSet, sPar, sPar3, sIf, sDrop, sFor, sForL, sApp, sAug, sAugIx, sPutD, sSetIx, sTo, sExt, sRem, sBreak, sCont, mAndV, mOrV, mNotV, mAnd, mOr, mNot, mB, mIf, mTru, mCB, mCL, mCall, mC, mVar, mRd, aCons, aNil, mTup, mLst, mLc, mLcK, mLcL, mLcO, mOwn, mDat, m2, ml2, mNeg, mChain, iT, iL, iR1, iR2, iE, iRv, iZ, iET, kIsi, kIsi2, kIx, kI, kIc, kIsN, kIsB, kEqS, kEqB, kLen, kTuple, kList, kInt1, kAbs, kRepL, kMin2, kCatT, kCatL, mGet, mInD, D.key, mLrg, mRevL, mGet2, sPut2, mSlT, mSlL, oNone, oSome, gT, gsC, gsN, env0, wipeE, frz, unOwn, gN, List.length_cons, List.length_nil, List.map_cons, List.map_nil, List.replicate, List.cons_append, List.nil_append, List.append_nil, List.getElem?_cons_zero, List.getElem?_cons_succ, Nat.sub_self, Nat.reduceAdd, Nat.reduceSub, D.ty, D.isN, D.tru, if_true, if_false, Bool.false_eq_true, List.set, id, kAll, iET, iE, kRepT, mC, kIx, kEqO, mBM, kMax2, mFld, mSelf, kIsX, mCaught, mAnd])
def S_l_ju_errors (mg : Str → Option Value) (tok : V) (ds : List D) (Q : D → Prop) : Prop := ∃ ps mk : List Nat, ds = [.opq tok, juD mg ps, .lst (encN mk)] ∧ JOk ps ∧ ps.length < 1000 ∧ Ju.MkOk ps mk ∧ (∀ x ∈ mk, x < 10000) ∧ Q (.bl true)
theorem len_l_ju_errors {mg : Str → Option Value} {tok : V} {ds : List D} {Q : D → Prop} (h : S_l_ju_errors mg tok ds Q) : ds.length = 3 := by obtain ⟨_, _, e, _⟩ := h; rw [e]; rfl
theorem mono_l_ju_errors {mg : Str → Option Value} (tok : V) : Mono (S_l_ju_errors mg tok) := fun ds P Q h ⟨a, b, c, d, e, f, g, k⟩ => ⟨a, b, c, d, e, f, g, h _ k⟩
theorem mkC_enc {l : List Nat} (h : l.length ≤ 3000) (x : D) (hx : Tame x) : MkC2 (.lst (x :: encN l)) := ⟨tame_lst _, fun l' e => by
  cases e
  refine ⟨by rw [List.length_cons, encN_len]; omega, fun y hy => ?_⟩
  rcases List.mem_cons.mp hy with rfl | hy
  · exact hx
  · obtain ⟨k, _, rfl⟩ := List.mem_map.mp hy
    exact tame_int' _⟩
theorem mkC_list {l : List D} (h : l.length ≤ 3001) (hx : ∀ x ∈ l, ∃ i : Int, x = .int i) : MkC2 (.lst l) := ⟨tame_lst _, fun l' e => by
  cases e
  exact ⟨h, fun y hy => by obtain ⟨i, rfl⟩ := hx y hy; exact tame_int' _⟩⟩
section
variable {P : Program} {w : World} {K : PySem.W.Frag} {mg : Str → Option Value} {base : Heap}
theorem ok_l_ju_errors {k : Nat} {cN PN f : Addr} {oc kV doc pm ct : Value} {od an : Option Addr} {osl : Array (Option Value)} {Tt : List (Addr × Str)} (lk : K.lookup f = some ⟨oc, od, .func (PySem.W.fnOf "_law_ju_errors" "_law_ju_errors" (defArgs s_l_ju_errors) (defBody s_l_ju_errors) (defScope s_l_ju_errors) .none kV doc pm an (.ref cN) ct), osl⟩) (hcd : PySem.W.codeIn K (.ref cN) "_law_ju_errors" = true) (T : Bt mg) (X_BadLeast : Ex0 K mg "BadLeast") (X_BadVersion : Ex0 K mg "BadVersion") (X_BadDepth : Ex0 K mg "BadDepth") (X_BadMarks : Ex0 K mg "BadMarks") (T_Jumps : GCls K mg "Jumps") (MT_Jumps_many : MtP P w K mg base (er mg "Jumps") "many" k ["self"] (spP CA 0 (S_Jumps_many mg))) (MT_Jumps_first_with : MtX P w K mg base (er mg "Jumps") "first_with" k ["self", "version", "marks", "least"] (spX CA 0 (S_Jumps_first_with mg))) (MT_Jumps_jump : MtX P w K mg base (er mg "Jumps") "jump" k ["self", "version"] (spX CA 0 (S_Jumps_jump mg))) (MT_Jumps_up : MtX P w K mg base (er mg "Jumps") "up" k ["self", "version", "depth"] (spX CA 0 (S_Jumps_up mg))) (MT_Jumps_grow : MtX P w K mg base (er mg "Jumps") "grow" k ["self", "parent"] (spX CA 0 (S_Jumps_grow mg))) (hCt : CaughtF K mg) (TB : LamX.TabB base mg cN PN) (hPT : (PN, (envOfC "_law_ju_errors" (defScope s_l_ju_errors) 0 0 (.ref cN)).qual ++ "<lambda>") ∈ Tt) (hPu : ∀ p ∈ Tt, p.1 = PN → p = (PN, (envOfC "_law_ju_errors" (defScope s_l_ju_errors) 0 0 (.ref cN)).qual ++ "<lambda>")) (P_l_pick : Pr P w K mg base "_law_pick" k ["state", "several"] (spT StW 1 S_l_pick)) (P_l_ti_odd_version : Pr P w K mg base "_law_ti_odd_version" k ["state", "many"] (spT StW 1 S_l_ti_odd_version))  : FnOk P w K mg base CX0 (k + 2 + 1) f (PySem.W.fnOf "_law_ju_errors" "_law_ju_errors" (defArgs s_l_ju_errors) (defBody s_l_ju_errors) (defScope s_l_ju_errors) .none kV doc pm an (.ref cN) ct) ["state", "jumps", "marks_here"] (spT (StWT Tt) 5 (S_l_ju_errors mg)) := by
  replace P_l_pick := P_l_pick.wt Tt mono_l_pick
  replace P_l_ti_odd_version := P_l_ti_odd_version.wt Tt mono_l_ti_odd_version
  refine pl_okTC lk hcd sc_l_ju_errors (fun tok ds Q h => ?_) fun A outer s H E hr0 => ?_
  · exact len_l_ju_errors h
  have hrL := hr0
  have hr := hr0.mono (by omega : k ≤ k + 2)
  have hu := hu_of hr
  refine ⟨_, (pss_cons (ps_asg (pe_tup (pa_cons (pe_callP P_l_ti_odd_version hr rfl (pa_cons (pv 0) (pa_cons (pe_callB (r := fun xs H Q => ∃ x n, xs = [x] ∧ LenV K x H n ∧ Q (.int n) H) call_len (by rfl) T.len PySem.boot_len (pa_cons (pv 2) pa_nil)) pa_nil))) (pa_cons (pe_callB (r := fun xs H Q => ∃ x n, xs = [x] ∧ LenV K x H n ∧ Q (.int n) H) call_len (by rfl) T.len PySem.boot_len (pa_cons (pv 2) pa_nil)) pa_nil))) (pg_tup rfl (pgs_cons (pg_name (i := 7) sc_l_ju_errors.nd rfl (Or.inr rfl)) (pgs_cons (pg_name (i := 8) sc_l_ju_errors.nd rfl (Or.inl rfl)) pgs_nil))))
  (pss_cons (ps_if (PW.pt (pw_or (pt_not (pt_val (pe_callB (r := rIsX K) call_isX (by rfl) T.isi (by decide +kernel) (pa_cons (pe_caught hCt rfl TB rfl hrL (LamX.lamS_by (show LamX.lamSB (defScope s_l_ju_errors) _ = true by decide +kernel)) rfl (fun _ _ _ _ _ => rfl) (fun A outer s H E f c' hr2 => (pe_methX T_Jumps.cl MT_Jumps_grow hr2 (takes_of rfl rfl rfl rfl) (pv 1) (pa_cons (pv 7) pa_nil)))) (pa_cons (pe_glob (v := V.ref (er mg "BadVersion")) rfl X_BadVersion.g rfl) pa_nil))))) (pw_or1 (pt_cmpR op_ne (pe_methP0 T_Jumps.cl MT_Jumps_many hr (pv 1)) (pv 8) (nomark _))))) (pss_one (ps_ret pe_bl)) pss_nil)
  (pss_cons (ps_if (pt_not (pt_val (pe_callB (r := rIsX K) call_isX (by rfl) T.isi (by decide +kernel) (pa_cons (pe_caught hCt rfl TB rfl hrL (LamX.lamS_by (show LamX.lamSB (defScope s_l_ju_errors) _ = true by decide +kernel)) rfl (fun _ _ _ _ _ => rfl) (fun A outer s H E f c' hr2 => (pe_methX T_Jumps.cl MT_Jumps_jump hr2 (takes_of rfl rfl rfl rfl) (pv 1) (pa_cons (pv 7) pa_nil)))) (pa_cons (pe_glob (v := V.ref (er mg "BadVersion")) rfl X_BadVersion.g rfl) pa_nil))))) (pss_one (ps_ret pe_bl)) pss_nil)
  (pss_cons (ps_if (pt_not (pt_val (pe_callB (r := rIsX K) call_isX (by rfl) T.isi (by decide +kernel) (pa_cons (pe_caught hCt rfl TB rfl hrL (LamX.lamS_by (show LamX.lamSB (defScope s_l_ju_errors) _ = true by decide +kernel)) rfl (fun _ _ _ _ _ => rfl) (fun A outer s H E f c' hr2 => (pe_methX T_Jumps.cl MT_Jumps_up hr2 (takes_of rfl rfl rfl rfl) (pv 1) (pa_cons (pv 7) (pa_cons (pe_un un_neg pe_int) pa_nil))))) (pa_cons (pe_glob (v := V.ref (er mg "BadVersion")) rfl X_BadVersion.g rfl) pa_nil))))) (pss_one (ps_ret pe_bl)) pss_nil)
  (pss_cons (ps_set (i := 3) sc_l_ju_errors.nd rfl (Or.inr rfl) (pe_callP P_l_pick hr rfl (pa_cons (pv 0) (pa_cons (pe_lst (pa_cons pe_int (pa_cons (pe_un un_neg pe_int) (pa_cons pe_non (pa_cons pe_bl (pa_cons pe_str pa_nil)))))) pa_nil))))
  (pss_cons (ps_if (pt_not (pt_val (pe_callB (r := rIsX K) call_isX (by rfl) T.isi (by decide +kernel) (pa_cons (pe_caught hCt rfl TB rfl hrL (LamX.lamS_by (show LamX.lamSB (defScope s_l_ju_errors) _ = true by decide +kernel)) rfl (fun _ _ _ _ _ => rfl) (fun A outer s H E f c' hr2 => (pe_methX T_Jumps.cl MT_Jumps_up hr2 (takes_of rfl rfl rfl rfl) (pv 1) (pa_cons pe_int (pa_cons (pv 3) pa_nil))))) (pa_cons (pe_glob (v := V.ref (er mg "BadDepth")) rfl X_BadDepth.g rfl) pa_nil))))) (pss_one (ps_ret pe_bl)) pss_nil)
  (pss_cons (ps_set (i := 4) sc_l_ju_errors.nd rfl (Or.inr rfl) (pe_slice sl_list (pv 2) (po_some pe_int) po_none))
  (pss_cons (ps_set (i := 5) sc_l_ju_errors.nd rfl (Or.inr rfl) (pe_callP P_l_pick hr rfl (pa_cons (pv 0) (pa_cons (pe_lst (pa_cons pe_non (pa_cons (pe_op op_cat (pv 2) (pe_lst (pa_cons (pe_op op_pow pe_int pe_int) pa_nil))) (pa_cons (pv 4) (pa_cons (pe_op op_cat (pe_lst (pa_cons (pe_un un_neg pe_int) pa_nil)) (pv 4)) (pa_cons (pe_op op_cat (pe_lst (pa_cons pe_non pa_nil)) (pv 4)) pa_nil)))))) pa_nil))))
  (pss_cons (ps_if (pt_not (pt_val (pe_callB (r := rIsX K) call_isX (by rfl) T.isi (by decide +kernel) (pa_cons (pe_caught hCt rfl TB rfl hrL (LamX.lamS_by (show LamX.lamSB (defScope s_l_ju_errors) _ = true by decide +kernel)) rfl (fun _ _ _ _ _ => rfl) (fun A outer s H E f c' hr2 => (pe_methX T_Jumps.cl MT_Jumps_first_with hr2 (takes_of rfl rfl rfl rfl) (pv 1) (pa_cons pe_int (pa_cons (pv 5) (pa_cons (pe_un un_neg pe_int) pa_nil)))))) (pa_cons (pe_glob (v := V.ref (er mg "BadMarks")) rfl X_BadMarks.g rfl) pa_nil))))) (pss_one (ps_ret pe_bl)) pss_nil)
  (pss_cons (ps_if (PW.pt (pw_and (pt_cmpR op_gt (pv 8) pe_int (nomark _)) (pw_and1 (pt_not (pt_val (pe_callB (r := rIsX K) call_isX (by rfl) T.isi (by decide +kernel) (pa_cons (pe_caught hCt rfl TB rfl hrL (LamX.lamS_by (show LamX.lamSB (defScope s_l_ju_errors) _ = true by decide +kernel)) rfl (fun _ _ _ _ _ => rfl) (fun A outer s H E f c' hr2 => (pe_methX T_Jumps.cl MT_Jumps_first_with hr2 (takes_of rfl rfl rfl rfl) (pv 1) (pa_cons pe_int (pa_cons (pe_op op_cat (pe_lst (pa_cons (pe_op op_pow pe_int pe_int) pa_nil)) (pv 4)) (pa_cons pe_int pa_nil)))))) (pa_cons (pe_glob (v := V.ref (er mg "BadMarks")) rfl X_BadMarks.g rfl) pa_nil)))))))) (pss_one (ps_ret pe_bl)) pss_nil)
  (pss_cons (ps_set (i := 6) sc_l_ju_errors.nd rfl (Or.inr rfl) (pe_callP P_l_pick hr rfl (pa_cons (pv 0) (pa_cons (pe_lst (pa_cons (pe_un un_neg pe_int) (pa_cons pe_non (pa_cons pe_bl pa_nil)))) pa_nil))))
  (pss_one (ps_ret (pe_callB (r := rIsX K) call_isX (by rfl) T.isi (by decide +kernel) (pa_cons (pe_caught hCt rfl TB rfl hrL (LamX.lamS_by (show LamX.lamSB (defScope s_l_ju_errors) _ = true by decide +kernel)) rfl (fun _ _ _ _ _ => rfl) (fun A outer s H E f c' hr2 => (pe_methX T_Jumps.cl MT_Jumps_first_with hr2 (takes_of rfl rfl rfl rfl) (pv 1) (pa_cons pe_int (pa_cons (pv 2) (pa_cons (pv 6) pa_nil)))))) (pa_cons (pe_glob (v := V.ref (er mg "BadLeast")) rfl X_BadLeast.g rfl) pa_nil)))))))))))))))), fun tok => ?_⟩
  have hTb : ∀ w x, nx (StWT Tt tok) w x → TbW PN [(PN, (envOfC "_law_ju_errors" (defScope s_l_ju_errors) 0 0 (.ref cN)).qual ++ "<lambda>")] w ∧ CA w := tbW_ofM hPT hPu
  refine ⟨_, _, (ss_seq (ss_parA2 (SE.x (se_callT tok (sa_cons se_var (sa_cons (se_cb (sar_cons sr_var sar_nil) kc_len) sa_nil)) (mono_l_ti_odd_version tok))) (SE.x (se_cb (sar_cons sr_var sar_nil) kc_len)))
  (ss_seq (ss_if (st_or (st_not (st_tb (se_cb (sar_cons (SE.r (se_caught hTb (fun E X0 => (se_methX se_var (sa_cons se_var sa_nil) mono_Jumps_grow)))) (sar_cons (SE.r se_opq) sar_nil)) (kc_isX X_BadVersion.i)))) (st_b (se_op (SE.r (se_methP se_var sa_nil mono_Jumps_many)) sr_var k2_neS))) (ss_ret se_bl) ss_next)
  (ss_seq (ss_if (st_not (st_tb (se_cb (sar_cons (SE.r (se_caught hTb (fun E X0 => (se_methX se_var (sa_cons se_var sa_nil) mono_Jumps_jump)))) (sar_cons (SE.r se_opq) sar_nil)) (kc_isX X_BadVersion.i)))) (ss_ret se_bl) ss_next)
  (ss_seq (ss_if (st_not (st_tb (se_cb (sar_cons (SE.r (se_caught hTb (fun E X0 => (se_methX se_var (sa_cons se_var (sa_cons (se_neg se_int) sa_nil)) mono_Jumps_up)))) (sar_cons (SE.r se_opq) sar_nil)) (kc_isX X_BadVersion.i)))) (ss_ret se_bl) ss_next)
  (ss_seq (ss_set (SE.x (se_callT tok (sa_cons se_var (sa_cons (SL.e (sl_lst (sa_cons se_int (sa_cons (se_neg se_int) (sa_cons se_non (sa_cons se_bl (sa_cons se_str sa_nil))))))) sa_nil)) (mono_l_pick tok))))
  (ss_seq (ss_if (st_not (st_tb (se_cb (sar_cons (SE.r (se_caught hTb (fun E X0 => (se_methX se_var (sa_cons se_int (sa_cons se_var sa_nil)) mono_Jumps_up)))) (sar_cons (SE.r se_opq) sar_nil)) (kc_isX X_BadDepth.i)))) (ss_ret se_bl) ss_next)
  (ss_seq (ss_set (SE.x (SL.e (sl_slL sr_var (so_some se_int) so_none))))
  (ss_seq (ss_set (SE.x (se_callT tok (sa_cons se_var (sa_cons (SL.e (sl_lst (sa_cons se_non (sa_cons (SL.e (sl_op sr_var (SE.r (SL.e (sl_lst (sa_cons (se_op (SE.r se_int) (SE.r se_int) k2_intC) sa_nil)))) kl_cat)) (sa_cons se_var (sa_cons (SL.e (sl_op (SE.r (SL.e (sl_lst (sa_cons (se_neg se_int) sa_nil)))) sr_var kl_cat)) (sa_cons (SL.e (sl_op (SE.r (SL.e (sl_lst (sa_cons se_non sa_nil)))) sr_var kl_cat)) sa_nil))))))) sa_nil)) (mono_l_pick tok))))
  (ss_seq (ss_if (st_not (st_tb (se_cb (sar_cons (SE.r (se_caught hTb (fun E X0 => (se_methX se_var (sa_cons se_int (sa_cons se_var (sa_cons (se_neg se_int) sa_nil))) mono_Jumps_first_with)))) (sar_cons (SE.r se_opq) sar_nil)) (kc_isX X_BadMarks.i)))) (ss_ret se_bl) ss_next)
  (ss_seq (ss_if (st_and (st_b (se_op sr_var (SE.r se_int) k2_bl)) (st_not (st_tb (se_cb (sar_cons (SE.r (se_caught hTb (fun E X0 => (se_methX se_var (sa_cons se_int (sa_cons (SL.e (sl_op (SE.r (SL.e (sl_lst (sa_cons (se_op (SE.r se_int) (SE.r se_int) k2_intC) sa_nil)))) sr_var kl_cat)) (sa_cons se_int sa_nil))) mono_Jumps_first_with)))) (sar_cons (SE.r se_opq) sar_nil)) (kc_isX X_BadMarks.i))))) (ss_ret se_bl) ss_next)
  (ss_seq (ss_set (SE.x (se_callT tok (sa_cons se_var (sa_cons (SL.e (sl_lst (sa_cons (se_neg se_int) (sa_cons se_non (sa_cons se_bl sa_nil))))) sa_nil)) (mono_l_pick tok))))
  (ss_ret (se_cb (sar_cons (SE.r (se_caught hTb (fun E X0 => (se_methX se_var (sa_cons se_int (sa_cons se_var (sa_cons se_var sa_nil))) mono_Jumps_first_with)))) (sar_cons (SE.r se_opq) sar_nil)) (kc_isX X_BadLeast.i)))))))))))))), by decide, fun ds Q h => ?_⟩
  obtain ⟨ps, mk, rfl, ⟨ok, few⟩, hl, M, hs, q⟩ := h
  have ej : juD mg ps = .ins (er mg "Jumps") jNames [.lst (parD ps), .lst (encN (jL ps)), .lst (encN (dL ps))] := rfl
  have hsl := sizeLine_eq
  have few' : ps.length < 3000 := few
  have hml : mk.length = ps.length + 1 := M.1
  walk_at "pl"
  refine ⟨ps.length + 1, by rw [encN_len, hml], by omega, fun d ht hb => ?_⟩
  have hb : btB 0 (ps.length : Int) d = false := by rw [← hb]; congr 1; omega
  refine ⟨jNames, _, rfl, by decide, ps, d, rfl, ⟨ok, few⟩, ht, hb, X_BadVersion.m, [], [], rfl, iteF' (by decide) ?_⟩
  refine ⟨jNames, _, rfl, by decide, ps, rfl, ⟨ok, few⟩, ?_⟩
  dsimp only
  refine iteF' (by rw [decide_eq_true (by rw [encN_len, hml])]; decide) ?_
  refine ⟨jNames, _, rfl, by decide, ps, d, rfl, ⟨ok, few⟩, ht, .inl ⟨hb, X_BadVersion.m, [], [], rfl, iteF' (by decide) ?_⟩⟩
  refine ⟨jNames, _, rfl, by decide, ps, d, _, rfl, ⟨ok, few⟩, ht, .inl ⟨hb, X_BadVersion.m, [], [], rfl, iteF' (by decide) ?_⟩⟩
  refine ⟨by omega, _, rfl, (fun z => nomatch z), by show 5 < _; decide, fun dh hdh => ?_⟩
  have hd : Tame dh ∧ btB 0 (Ju.dp ps 0 : Int) dh = false := by
    rw [Ju.dp_zero]
    simp only [List.mem_cons, List.not_mem_nil, or_false] at hdh
    rcases hdh with rfl | rfl | rfl | rfl | rfl
    · exact ⟨tame_int' _, by decide⟩
    · exact ⟨tame_int' _, by decide⟩
    · exact ⟨tame_non, rfl⟩
    · exact ⟨⟨(fun z => nomatch z), fun l z => nomatch z⟩, rfl⟩
    · exact ⟨⟨(fun z => nomatch z), fun l z => nomatch z⟩, rfl⟩
  refine ⟨jNames, _, rfl, by decide, ps, .int ((0 : Nat) : Int), dh, rfl, ⟨ok, few⟩, tame_int' _, .inr ⟨0, rfl, Nat.zero_le _, hd.1, .inl ⟨hd.2, X_BadDepth.m, [], [], rfl, iteF' (by decide) ?_⟩⟩⟩
  obtain ⟨m0, mt, rfl⟩ : ∃ a r, mk = a :: r := by
    cases mk with
    | nil => exact absurd hml (by show ¬ 0 = _; omega)
    | cons a r => exact ⟨a, r, rfl⟩
  have hmt : mt.length = ps.length := Nat.succ.inj hml
  have ec : PL.cutD (encN (m0 :: mt)) (some 1) none = encN mt := cutD_one _
  rw [ec, encN_len, encN_len, hml, hmt]
  have wr : ∀ x ∈ [D.non, D.lst (encN (m0 :: mt) ++ [D.int (10 ^ Int.toNat 9)]), D.lst (encN mt), D.lst (D.int (-1) :: encN mt), D.lst (D.non :: encN mt)], MkC2 x ∧ marksB ps x = false := fun x hx => by
    simp only [List.mem_cons, List.not_mem_nil, or_false] at hx
    have hin : ∀ x ∈ encN mt, ∃ i : Int, x = .int i := fun x hx => by
      obtain ⟨k, _, rfl⟩ := List.mem_map.mp hx
      exact ⟨_, rfl⟩
    rcases hx with rfl | rfl | rfl | rfl | rfl
    · exact ⟨⟨tame_non, fun l z => nomatch z⟩, rfl⟩
    · refine ⟨mkC_list (by rw [List.length_append, encN_len, hml]; show _ + 1 ≤ 3001; omega) fun x hx => ?_, ?_⟩
      · rcases List.mem_append.mp hx with hx | hx
        · obtain ⟨k, _, rfl⟩ := List.mem_map.mp hx
          exact ⟨_, rfl⟩
        · rw [List.mem_singleton.mp hx]; exact ⟨_, rfl⟩
      · show mkGo ps _ = false
        unfold mkGo
        rw [decide_eq_false (by rw [List.length_append, encN_len, hml]; show ¬ _ + 1 = _; omega)]; rfl
    · refine ⟨mkC_list (by rw [encN_len, hmt]; omega) hin, ?_⟩
      show mkGo ps _ = false
      unfold mkGo
      rw [decide_eq_false (by rw [encN_len, hmt]; omega)]; rfl
    · refine ⟨mkC_enc (by rw [hmt]; omega) _ (tame_int' _), ?_⟩
      show mkGo ps _ = false
      unfold mkGo
      rw [show (D.int (-1) :: encN mt).all (geB 0) = false from by rw [List.all_cons, show geB 0 (.int (-1)) = false by decide]; rfl, Bool.false_and, Bool.and_false]
    · refine ⟨mkC_enc (by rw [hmt]; omega) _ tame_non, ?_⟩
      show mkGo ps _ = false
      unfold mkGo
      rw [show (D.non :: encN mt).all (geB 0) = false from by rw [List.all_cons, show geB 0 .non = false from rfl]; rfl, Bool.false_and, Bool.and_false]
  refine ⟨⟨by omega, by omega, by decide⟩, by omega, by omega, by omega, by omega, by omega, by omega, by omega, _, rfl, (fun z => nomatch z), by show 5 < _; decide, fun wx hwx => ?_⟩
  obtain ⟨w1, w2⟩ := wr wx hwx
  refine ⟨jNames, _, rfl, by decide, ps, .int ((0 : Nat) : Int), wx, _, rfl, ⟨ok, few⟩, tame_int' _, .inr ⟨0, rfl, Nat.zero_le _, w1, .inl ⟨w2, X_BadMarks.m, [], [], rfl, iteF' (by decide) ?_⟩⟩⟩
  by_cases h1 : 1 < ps.length + 1
  · refine iteT' (decide_eq_true (by omega)) ?_
    obtain ⟨m1, mu, rfl⟩ : ∃ a r, mt = a :: r := by
      cases mt with
      | nil => exact absurd hmt (by show ¬ 0 = _; omega)
      | cons a r => exact ⟨a, r, rfl⟩
    have p1 : par ps 1 = 0 := by have := ok 1 (by decide) (by omega); omega
    refine ⟨jNames, _, rfl, by decide, ⟨by omega, by omega, by decide⟩, by omega, by omega, ps, .int ((0 : Nat) : Int), _, _, rfl, ⟨ok, few⟩, tame_int' _, .inr ⟨0, rfl, Nat.zero_le _, mkC_enc (by rw [hmt]; omega) _ (tame_int' _), .inl ⟨?_, X_BadMarks.m, [], [], rfl, iteF' (by decide) ?_⟩⟩⟩
    · show mkGo ps _ = false
      unfold mkGo
      have bad : ((List.range ps.length).all fun k => decide (intD ((D.int (10 ^ Int.toNat 9) :: encN (m1 :: mu)).getD (par ps (k + 1)) .non) ≤ intD ((D.int (10 ^ Int.toNat 9) :: encN (m1 :: mu)).getD (k + 1) .non))) = false := by
        rw [List.all_eq_false]
        refine ⟨0, List.mem_range.mpr (by omega), ?_⟩
        rw [show (0 : Nat) + 1 = 1 from rfl, p1]
        have := hs m1 (List.mem_cons_of_mem _ List.mem_cons_self)
        show ¬ decide ((10 : Int) ^ Int.toNat 9 ≤ (m1 : Int)) = true
        rw [show (10 : Int) ^ Int.toNat 9 = 1000000000 by decide, decide_eq_false (by omega)]
        decide
      rw [bad, Bool.and_false, Bool.and_false]
    refine ⟨by omega, _, rfl, (fun z => nomatch z), by show 3 < _; decide, fun lx hlx => ?_⟩
    have lb : Tame lx ∧ geB 0 lx = false := by
      simp only [List.mem_cons, List.not_mem_nil, or_false] at hlx
      rcases hlx with rfl | rfl | rfl
      · exact ⟨tame_int' _, by decide⟩
      · exact ⟨tame_non, rfl⟩
      · exact ⟨⟨(fun z => nomatch z), fun l z => nomatch z⟩, rfl⟩
    exact ⟨jNames, _, rfl, by decide, ps, .int ((0 : Nat) : Int), _, lx, rfl, ⟨ok, few⟩, tame_int' _, .inr ⟨0, rfl, Nat.zero_le _, mkC_list (by rw [encN_len, hml]; omega) (fun x hx => by
      obtain ⟨k, _, rfl⟩ := List.mem_map.mp hx
      exact ⟨_, rfl⟩), .inr ⟨_, ⟨M, rfl, fun x hx => by have := hs x hx; omega⟩, lb.1, .inl ⟨lb.2, X_BadLeast.m, [], [], rfl, q⟩⟩⟩⟩
  · refine iteF' (by rw [decide_eq_false (by omega)]; decide) ?_
    refine ⟨by omega, _, rfl, (fun z => nomatch z), by show 3 < _; decide, fun lx hlx => ?_⟩
    have lb : Tame lx ∧ geB 0 lx = false := by
      simp only [List.mem_cons, List.not_mem_nil, or_false] at hlx
      rcases hlx with rfl | rfl | rfl
      · exact ⟨tame_int' _, by decide⟩
      · exact ⟨tame_non, rfl⟩
      · exact ⟨⟨(fun z => nomatch z), fun l z => nomatch z⟩, rfl⟩
    exact ⟨jNames, _, rfl, by decide, ps, .int ((0 : Nat) : Int), _, lx, rfl, ⟨ok, few⟩, tame_int' _, .inr ⟨0, rfl, Nat.zero_le _, mkC_list (by rw [encN_len, hml]; omega) (fun x hx => by
      obtain ⟨k, _, rfl⟩ := List.mem_map.mp hx
      exact ⟨_, rfl⟩), .inr ⟨_, ⟨M, rfl, fun x hx => by have := hs x hx; omega⟩, lb.1, .inl ⟨lb.2, X_BadLeast.m, [], [], rfl, q⟩⟩⟩⟩

end
end W
end Law

namespace Law
namespace W
open PySem PySem.Spec PyProof.Rows L2 PL LamX
theorem gname_of {i : Nat} {v : V} {σ : L2.St} {H : Hp} {Q : L2.St → Hp → Prop} (h : Q (σ.set i (some v)) H) : gName i v σ H Q := h
theorem seq_of {t u : TS} {D : Ends} {σ : L2.St} {H : Hp} (h : t { D with nx := u D } σ H) : tSeq t u D σ H := h
theorem fr_show {G : Cfg} {n n0 : Nat} {O N : Addr → Prop} {env : Ev} {σ : L2.St} {H H0 : Hp} (F : Fr G n (fun b => O b ∨ N b) env σ H) (W : Wl G n0 O H0) (hn : ∀ c ∈ env, c.isOwn = false) : Fr G n O env σ H := by
  have le : LeA (Sh (fun b => O b ∨ N b) H) (Sh O H) := fun a o ⟨h, z⟩ => ⟨h, fun y => z (.inl y)⟩
  refine ⟨⟨F.wl.ok, W.zo, W.co, fun b z => F.wl.tr b (.inl z), F.wl.base⟩, F.len, fun i c e n => ?_, F.uq⟩
  obtain ⟨v, h1, h2⟩ := F.sl i c e n
  refine ⟨v, h1, ?_⟩
  cases h2 with
  | dat r => exact .dat (r.mono le)
  | own eh o r => exact absurd (hn _ (List.mem_of_getElem? e)) (fun z => nomatch (show true = false from z))
  | owd eh o r => exact absurd (hn _ (List.mem_of_getElem? e)) (fun z => nomatch (show true = false from z))
theorem fr_put {G : Cfg} {n : Nat} {O : Addr → Prop} {env : Ev} {σ : L2.St} {H : Hp} {i : Nat} {v : V} {d : D} (F : Fr G n O env σ H) (hs : σ[i]? = some (some v)) (r : Rp (Sh O H) v d) : Fr G n O (env.set i (.dat d)) σ H := by
  have own : ∀ j, IsOwn (env.set i (.dat d)) j → IsOwn env j := fun j ⟨c, e, o⟩ => by
    by_cases hj : i = j
    · subst hj
      have hl : i < env.length := by
        have := (List.getElem?_eq_some_iff.mp e).1
        rwa [List.length_set] at this
      rw [List.getElem?_set_self hl] at e
      cases e; cases o
    · rw [List.getElem?_set_ne hj] at e
      exact ⟨c, e, o⟩
  refine ⟨F.wl, by rw [List.length_set]; exact F.len, fun j c e n => ?_, fun j k a oj ok ej ek => F.uq j k a (own j oj) (own k ok) ej ek⟩
  by_cases hj : i = j
  · subst hj
    have hl : i < env.length := by
      have := (List.getElem?_eq_some_iff.mp e).1
      rwa [List.length_set] at this
    rw [List.getElem?_set_self hl] at e
    cases e
    exact ⟨v, hs, .dat r⟩
  · rw [List.getElem?_set_ne hj] at e
    exact F.sl j c e n
/-- the frame as it stands before, in and behind the growing -/
abbrev envA (t : D) (ps : List Nat) (a3 a4 a9 a10 : Sv) : Ev := [.un, .dat t, .dat (encP ps), a3, a4, .un, .un, .un, .un, a9, a10, .un, .un, .un, .un, .un, .un, .un, .un, .un]
theorem envA_no {t : D} {ps : List Nat} {a3 a4 a9 a10 : Sv} (h3 : a3.isOwn = false) (h4 : a4.isOwn = false) (h9 : a9.isOwn = false) (h10 : a10.isOwn = false) : ∀ c ∈ envA t ps a3 a4 a9 a10, c.isOwn = false := fun c hc => by
  simp only [envA, List.mem_cons, List.not_mem_nil, or_false] at hc
  rcases hc with e | e | e | e | e | e | e | e | e | e | e | e | e | e | e | e | e | e | e | e <;> rw [e] <;> first | rfl | assumption
def manyD (ps : List Nat) : Sv := .dat (.int ((ps.length + 1 : Nat) : Int))
def m_pre (mg : Str → Option Value) (r : SM) : SM := fun env P => ∃ (t : D) (ps : List Nat), env = envA t ps .un .un .un .un ∧ PsOk ps ∧ ps.length < 1000 ∧ ∀ a4 : Sv, a4.isOwn = false → r (envA t ps (.dat (.lst (encN (dL ps)))) a4 (.dat (juD mg ps)) (manyD ps)) P
theorem take_ok {ps : List Nat} (ok : PsOk ps) (i : Nat) : PsOk (ps.take i) := fun v h0 hv => by
  rw [List.length_take] at hv
  have e : par (ps.take i) v = par ps v := by
    unfold par
    rw [List.getElem?_take, if_pos (by omega)]
  rw [e]
  exact ok v h0 (by omega)
section
variable {K : PySem.W.Frag} {mg : Str → Option Value} {C : Wd → XC → Prop}
theorem ss_pre {c : Nat} {tl te tp : TE} {ml me mp : EM} {tt : TT} {mt : TM} {wi : TI} {am : AM} {t1 t2 tr : TS} {r : SM}
    (hl : SE C 0 tl ml) (hml : ∀ t ps (Q : D → Prop), Q (.int ((ps.length + 1 : Nat) : Int)) → ml (envA t ps .un .un .un .un) Q)
    (ht : ST C 0 tt mt) (hmt : ∀ t ps (Q : Bool → Prop), Q false → mt (envA t ps .un .un (.dat (juD mg [])) (manyD ps)) Q)
    (hw : SI C 0 wi am) (hmw : ∀ t ps a3 a9 (Q : List D → Prop), ps.length < 1000 → Q (rng 1 ps.length) → am (envA t ps a3 .un a9 (manyD ps)) Q)
    (he : SE C 0 te me) (hme : ∀ t ps i a9 (Q : D → Prop), PsOk ps → i < ps.length → Q (.int ((Ju.dp (ps.take i) (par ps (i + 1)) + 1 : Nat) : Int)) → me (envA t ps (.dat (.lst (encN (dL (ps.take i))))) (.dat (.int ((i + 1 : Nat) : Int))) a9 (manyD ps)) Q)
    (hp : SE C 0 tp mp) (hmp : ∀ t ps i a3 a9 (Q : D → Prop), PsOk ps → i < ps.length → Q (.int (par ps (i + 1) : Int)) → mp (envA t ps a3 (.dat (.int ((i + 1 : Nat) : Int))) a9 (manyD ps)) Q)
    (hr : SS C c tr r) :
    SS C c (tSeq (tAsg (tTup (tCons (tMake (er mg "Jumps") (spJI (er mg "Jumps")) [] E0 tNil) (tCons tl tNil))) (gTup K 2 (gCons (gName 9) (gCons (gName 10) gNil)))) (tSeq (tIfS tt t1 tNext) (tSeq (tAsg (tLst (tCons (tC (.int 0)) tNil)) (gName 3)) (tSeq (tFor wi (gName 4) (tSeq (tDrop (tBM K "list" rAppend (tVar 3) (tCons te tNil))) (tIfS (tTest (tOp rNe (tMethK (er mg "Jumps") "grow" (spJG (er mg "Jumps")) (gM 1 [0]) E0 (tVar 9) (tCons tp tNil)) (tVar 4))) t2 tNext))) tr)))) (m_pre mg r) := fun G cg n O env σ H P D hL F ⟨t, ps, ee, ok, h1000, q⟩ e => by
  subst ee
  have hL0 : n + 0 ≤ G.x.lim := by omega
  have sl : 2000 ≤ sizeLine := by rw [sizeLine_eq]; decide
  refine seq_of ?_
  intro x dx nx ndx ne
  refine ⟨x, dx, rfl, upd_same, fun l1 l2 l3 H1 f1 f2 f3 A0 same => ⟨rfl, ?_⟩⟩
  have g1 : l1 ≠ x ∧ l1 ≠ dx ∧ H l1 = none := by
    have a : l1 ≠ x := fun z => by rw [z, upd_same] at f1; cases f1
    rw [upd_ne a] at f1
    have b : l1 ≠ dx := fun z => by rw [z, upd_same] at f1; cases f1
    rw [upd_ne b] at f1
    exact ⟨a, b, f1⟩
  have g2 : l2 ≠ x ∧ l2 ≠ dx ∧ H l2 = none := by
    have a : l2 ≠ x := fun z => by rw [z, upd_same] at f2; cases f2
    rw [upd_ne a] at f2
    have b : l2 ≠ dx := fun z => by rw [z, upd_same] at f2; cases f2
    rw [upd_ne b] at f2
    exact ⟨a, b, f2⟩
  have g3 : l3 ≠ x ∧ l3 ≠ dx ∧ H l3 = none := by
    have a : l3 ≠ x := fun z => by rw [z, upd_same] at f3; cases f3
    rw [upd_ne a] at f3
    have b : l3 ≠ dx := fun z => by rw [z, upd_same] at f3; cases f3
    rw [upd_ne b] at f3
    exact ⟨a, b, f3⟩
  have hs : ∀ b o, H b = some o → H1 b = some o := fun b o h => by
    rw [same b (ne_of_none h nx) (ne_of_none h g1.2.2) (ne_of_none h g2.2.2) (ne_of_none h g3.2.2), upd_ne (ne_of_none h nx), upd_ne (ne_of_none h ndx)]
    exact h
  have hdx : H1 dx = some (.own x) := by rw [same dx ne g1.2.1.symm g2.2.1.symm g3.2.1.symm, upd_ne ne, upd_same]
  let N : Addr → Prop := fun b => b = x ∨ b = dx ∨ b = l1 ∨ b = l2 ∨ b = l3
  have hN : ∀ b, N b → H b = none := fun b z => by
    rcases z with rfl | rfl | rfl | rfl | rfl
    · exact nx
    · exact ndx
    · exact g1.2.2
    · exact g2.2.2
    · exact g3.2.2
  have nZ : ∀ b, N b → ¬ G.w.Z b := fun b z y => F.wl.free (hN b z) (F.wl.zo b y)
  have n0 : ∀ b, N b → G.H0 b = none := fun b z => by
    cases q : G.H0 b with
    | none => rfl
    | some u => have := F.wl.base b u q (nZ b z); rw [hN b z] at this; cases this
  have nO : ∀ b, N b → ¬ O b := fun b z => F.wl.free (hN b z)
  have F1 := F.hidNew (N := N) (H' := H1) hN hs fun b z => by
    obtain ⟨dy, hx⟩ := A0.ob
    rcases z with rfl | rfl | rfl | rfl | rfl
    · exact ⟨_, hx, fun _ z => nomatch z⟩
    · exact ⟨_, hdx, fun _ z => nomatch z⟩
    · exact ⟨_, A0.h1, fun _ z => nomatch z⟩
    · exact ⟨_, A0.h2, fun _ z => nomatch z⟩
    · exact ⟨_, A0.h3, fun _ z => nomatch z⟩
  have nN : ∀ {b o}, H b = some o → ¬ N b := fun {b o} e z => by rw [hN b z] at e; cases e
  have le1 : LeA (Sh O H) (Sh (fun b => O b ∨ N b) H1) := fun a o ⟨h, z⟩ => ⟨rd_mv (fun o e => hs a o e) h, fun y => y.elim z (h.elim (fun e => nN e) fun ⟨_, _, _, e⟩ => nN e)⟩
  have kp : ∀ {H H' : Hp}, Grow G.w H H' → ∀ b o, (b = x ∨ b = l1 ∨ b = l2 ∨ b = l3) → H b = some o → H' b = some o := fun g b o hb h => g b o h (nZ b (by
    rcases hb with z | z | z | z
    · exact .inl z
    · exact .inr (.inr (.inl z))
    · exact .inr (.inr (.inr (.inl z)))
    · exact .inr (.inr (.inr (.inr z)))))
  have nOx := nO x (.inl rfl)
  have nO1 := nO l1 (.inr (.inr (.inl rfl)))
  have nO2 := nO l2 (.inr (.inr (.inr (.inl rfl))))
  have nO3 := nO l3 (.inr (.inr (.inr (.inr rfl))))
  -- the number of versions
  refine hl G cg n _ _ σ H1 (fun d => d = .int ((ps.length + 1 : Nat) : Int)) _ hL0 F1 (hml t ps _ rfl) fun d v H2 ed gr2 ok2 rv => ?_
  subst ed
  obtain rfl : v = .int ((ps.length + 1 : Nat) : Int) := by cases rv; rfl
  refine ⟨by show 2 ≤ _; omega, fun T hT => ⟨T, _, rfl, sqT (.inl upd_same), rfl, .ref x, [.int ((ps.length + 1 : Nat) : Int)], rfl, .int ((ps.length + 1 : Nat) : Int), [], rfl, rfl, ?_⟩⟩
  have F2 := F1.grow gr2 ok2
  have F3 := (F2.set (i := 9) (v := .ref x) (c := .dat (.opq (.ref x))) (Grow.refl _ _) F2.wl (LeA.refl _) (fun _ z => z) (.dat (.opq _)) (fun _ _ z => nomatch z))
  have F4 := (F3.set (i := 10) (v := .int ((ps.length + 1 : Nat) : Int)) (c := manyD ps) (Grow.refl _ _) F3.wl (LeA.refl _) (fun _ z => z) (.dat (.int _)) (fun _ _ z => nomatch z))
  have gT : Grow G.w H2 (upd H2 T (.tup [.ref x, .int ((ps.length + 1 : Nat) : Int)])) := Grow.new _ hT
  have F5 : Fr G n (fun b => O b ∨ N b) (envA t ps .un .un (.dat (.opq (.ref x))) (manyD ps)) _ _ := F4.grow gT (Wd.okNew hT F4.wl.ok)
  have A5 := (A0.keep (kp gr2)).keep (kp gT)
  have le5 := le1.trans ((sh_grow F1.wl.zo gr2).trans (sh_grow F2.wl.zo gT))
  generalize upd H2 T (.tup [.ref x, .int ((ps.length + 1 : Nat) : Int)]) = H5 at F5 A5 le5 ⊢
  generalize ((List.set σ 9 (some (V.ref x))).set 10 (some (V.int ((ps.length + 1 : Nat) : Int)))) = σ5 at F5 ⊢
  clear F2 F3 F4 gT
  dsimp only
  -- the first looks
  refine seq_of ?_
  obtain ⟨v9, s9, z9⟩ := F5.sl 9 _ rfl (fun z => nomatch z)
  obtain rfl : v9 = .ref x := by cases z9 with | dat r => cases r; rfl
  have FR : Fr G n O (envA t ps .un .un (.dat (juD mg [])) (manyD ps)) σ5 H5 := fr_put (fr_show F5 F.wl (envA_no rfl rfl rfl rfl)) s9 (A5.rp nOx nO1 nO2 nO3)
  refine ht G cg n _ _ σ5 H5 (fun b => b = false) _ hL0 FR (hmt t ps _ rfl) fun b H6 eb gr6 ok6 => ?_
  subst eb
  refine iteF' Bool.false_ne_true ?_
  have F6 := F5.grow gr6 ok6
  have A6 := A5.keep (kp gr6)
  have le6 := le5.trans (sh_grow F5.wl.zo gr6)
  show tSeq _ _ D σ5 H6
  -- the depths
  refine seq_of ?_
  refine ⟨by show 1 ≤ _; omega, fun l4 n4 => ?_⟩
  refine gname_of ?_
  have up4 : ∀ b o, H6 b = some o → upd H6 l4 (.lst [V.int 0]) b = some o := fun b o h => by rw [upd_ne (ne_of_none h n4)]; exact h
  have F7 := F6.hidNew (N := fun b => b = l4) (H' := upd H6 l4 (.lst [V.int 0])) (fun b z => by rw [z]; exact n4) up4 (fun b z => by rw [z]; exact ⟨_, upd_same, fun _ z => nomatch z⟩)
  let M : Addr → Prop := fun b => N b ∨ b = l4
  have eO : (fun b => (O b ∨ N b) ∨ b = l4) = fun b => O b ∨ M b := funext fun b => propext or_assoc
  rw [eO] at F7
  have l4O : ¬ O l4 := fun z => F6.wl.free n4 (.inl z)
  have l4N : ¬ N l4 := fun z => F6.wl.free n4 (.inr z)
  have l4Z : ¬ G.w.Z l4 := fun z => F6.wl.free n4 (F6.wl.zo _ z)
  have l40 : G.H0 l4 = none := by
    cases q : G.H0 l4 with
    | none => rfl
    | some u => have := F6.wl.base l4 u q l4Z; rw [n4] at this; cases this
  have mZ : ∀ b, M b → ¬ G.w.Z b := fun b z => z.elim (nZ b) fun e => by rw [e]; exact l4Z
  have m0 : ∀ b, M b → G.H0 b = none := fun b z => z.elim (n0 b) fun e => by rw [e]; exact l40
  have le7 : LeA (Sh O H) (Sh (fun b => O b ∨ M b) (upd H6 l4 (.lst [V.int 0]))) := le6.trans (by
    rw [← eO]
    exact add_le (G := G) n4)
  have F8 : Fr G n (fun b => O b ∨ M b) (envA t ps (.dat (.opq (.ref l4))) .un (.dat (.opq (.ref x))) (manyD ps)) _ _ := F7.set (i := 3) (v := .ref l4) (c := .dat (.opq (.ref l4))) (Grow.refl _ _) F7.wl (LeA.refl _) (fun _ z => z) (.dat (.opq _)) (fun _ _ z => nomatch z)
  have A8 := A6.keep fun b o _ h => up4 b o h
  have D8 : upd H6 l4 (.lst [V.int 0]) l4 = some (.lst (vN (dL (ps.take 0)))) := by
    have ed : vN (dL (ps.take 0)) = [V.int 0] := by
      show [V.int ((Ju.dp [] 0 : Nat) : Int)] = _
      rw [Ju.dp_zero]; rfl
    rw [ed]; exact upd_same
  generalize upd H6 l4 (.lst [V.int 0]) = H8 at F8 A8 le7 D8 ⊢
  generalize List.set σ5 3 (some (V.ref l4)) = σ8 at F8 ⊢
  clear F7
  show tSeq _ _ D σ8 H8
  -- the growing
  refine seq_of ?_
  refine hw G cg n _ _ σ8 H8 (fun ds => ds = rng 1 ps.length) _ hL0 F8 (hmw t ps _ _ _ h1000 rfl) fun ds J H9 hds gr9 ok9 wk => ?_
  subst hds
  have k4 : ∀ {H H' : Hp}, Grow G.w H H' → ∀ o, H l4 = some o → H' l4 = some o := fun g o h => g l4 o h l4Z
  have F9 := F8.grow gr9 ok9
  refine ⟨fun i m σ' H' => m = ps.length - i ∧ i ≤ ps.length ∧ ∃ a4 : Sv, a4.isOwn = false ∧ Fr G n (fun b => O b ∨ M b) (envA t ps (.dat (.opq (.ref l4))) a4 (.dat (.opq (.ref x))) (manyD ps)) σ' H' ∧ LeA (Sh (fun b => O b ∨ M b) H9) (Sh (fun b => O b ∨ M b) H') ∧ JuAt (er mg "Jumps") H' x l1 l2 l3 (ps.take i) ∧ H' l4 = some (.lst (vN (dL (ps.take i)))), ⟨_, rfl, Nat.zero_le _, .un, rfl, F9, LeA.refl _, A8.keep (kp gr9), k4 gr9 _ D8⟩, ?_⟩
  rintro i m σ' H' ⟨rfl, hle, a4, o4, F', l, A', D'⟩
  have rl : (rng 1 ps.length).length = ps.length := rng_length _ _
  have le9 := le7.trans (sh_grow F8.wl.zo gr9)
  by_cases hlt : i < ps.length
  · obtain ⟨go, yl⟩ := (wk n _ H' l F'.wl i).1 (by rw [rl]; exact hlt)
    refine .inr ⟨go, fun σ2 H3 => i + 1 ≤ ps.length ∧ ∃ a4 : Sv, a4.isOwn = false ∧ Fr G n (fun b => O b ∨ M b) (envA t ps (.dat (.opq (.ref l4))) a4 (.dat (.opq (.ref x))) (manyD ps)) σ2 H3 ∧ LeA (Sh (fun b => O b ∨ M b) H9) (Sh (fun b => O b ∨ M b) H3) ∧ JuAt (er mg "Jumps") H3 x l1 l2 l3 (ps.take (i + 1)) ∧ H3 l4 = some (.lst (vN (dL (ps.take (i + 1))))), fun σ2 H3 ⟨h1, h2⟩ => ⟨ps.length - (i + 1), by omega, rfl, h1, h2⟩, fun v H'' hy => ?_⟩
    obtain ⟨g2', ok2', dd, hdd, rd⟩ := yl v H'' hy
    rw [rng_get hlt] at hdd
    cases hdd
    obtain rfl : v = .int ((i + 1 : Nat) : Int) := by cases rd; exact congrArg V.int (by omega)
    refine gname_of ?_
    have FA := F'.grow g2' ok2'
    have FB : Fr G n (fun b => O b ∨ M b) (envA t ps (.dat (.opq (.ref l4))) (.dat (.int ((i + 1 : Nat) : Int))) (.dat (.opq (.ref x))) (manyD ps)) _ _ := FA.set (i := 4) (v := .int ((i + 1 : Nat) : Int)) (c := .dat (.int ((i + 1 : Nat) : Int))) (Grow.refl _ _) FA.wl (LeA.refl _) (fun _ z => z) (.dat (.int _)) (fun _ _ z => nomatch z)
    have lB := l.trans (sh_grow F'.wl.zo g2')
    have AB := A'.keep (kp g2')
    have DB := k4 g2' _ D'
    generalize List.set σ' 4 (some (V.int ((i + 1 : Nat) : Int))) = σB at FB ⊢
    clear FA
    obtain ⟨v3, s3, z3⟩ := FB.sl 3 _ rfl (fun z => nomatch z)
    obtain rfl : v3 = .ref l4 := by cases z3 with | dat r => cases r; rfl
    obtain ⟨v4, s4, z4⟩ := FB.sl 4 _ rfl (fun z => nomatch z)
    obtain rfl : v4 = .int ((i + 1 : Nat) : Int) := by cases z4 with | dat r => cases r; rfl
    obtain ⟨v9, s9, z9⟩ := FB.sl 9 _ rfl (fun z => nomatch z)
    obtain rfl : v9 = .ref x := by cases z9 with | dat r => cases r; rfl
    have hpar := ok (i + 1) (Nat.succ_pos _) (by omega)
    have okt := take_ok ok i
    have tl' : (ps.take i).length = i := by rw [List.length_take]; omega
    have few : JOk (ps.take i) := ⟨okt, by show _ < 3000; omega⟩
    have hpv : ps[i]? = some (par ps (i + 1)) := by
      unfold par
      rw [Nat.add_sub_cancel, List.getElem?_eq_getElem hlt]; rfl
    have etk := take_one hpv
    have dln : (dL (ps.take i)).length = i + 1 := by unfold dL; rw [List.length_map, List.length_range, tl']
    have edl : dL (ps.take (i + 1)) = dL (ps.take i) ++ [Ju.dp (ps.take i) (par ps (i + 1)) + 1] := by rw [etk]; exact dL_app okt (by omega)
    refine seq_of ?_
    refine ⟨_, s3, .inl ⟨rfl, _, sqL DB⟩, ?_⟩
    have FR2 : Fr G n O (envA t ps (.dat (.lst (encN (dL (ps.take i))))) (.dat (.int ((i + 1 : Nat) : Int))) (.dat (.opq (.ref x))) (manyD ps)) σB H'' := fr_put (fr_show FB F.wl (envA_no rfl rfl rfl rfl)) s3 (.lst ⟨.inl DB, l4O⟩ (rp_vN _))
    refine he G cg n _ _ σB H'' (fun d => d = .int ((Ju.dp (ps.take i) (par ps (i + 1)) + 1 : Nat) : Int)) _ hL0 FR2 (hme t ps i _ _ ok hlt rfl) fun d v H3 ed g3' ok3 rv3 => ?_
    subst ed
    obtain rfl : v = .int ((Ju.dp (ps.take i) (par ps (i + 1)) + 1 : Nat) : Int) := by cases rv3; rfl
    refine ⟨l4, _, _, rfl, rfl, k4 g3' _ DB, by rw [vN_len, dln]; omega, ?_⟩
    have FC := FB.grow g3' ok3
    have AC := AB.keep (kp g3')
    have lC := lB.trans (sh_grow FB.wl.zo g3')
    have hc4 : ∀ b o, b ≠ l4 → H3 b = some o → upd H3 l4 (.lst (vN (dL (ps.take i)) ++ [V.int ((Ju.dp (ps.take i) (par ps (i + 1)) + 1 : Nat) : Int)])) b = some o := fun b o z h => by rw [upd_ne z]; exact h
    have DD : upd H3 l4 (.lst (vN (dL (ps.take i)) ++ [V.int ((Ju.dp (ps.take i) (par ps (i + 1)) + 1 : Nat) : Int)])) l4 = some (.lst (vN (dL (ps.take (i + 1))))) := by
      rw [upd_same, edl, vN_app]; rfl
    have nx4 : ∀ b o, (b = x ∨ b = l1 ∨ b = l2 ∨ b = l3) → H3 b = some o → upd H3 l4 (.lst (vN (dL (ps.take i)) ++ [V.int ((Ju.dp (ps.take i) (par ps (i + 1)) + 1 : Nat) : Int)])) b = some o := fun b o hb h => hc4 b o (fun z => by
      subst z
      rcases hb with z | z | z | z
      · exact l4N (.inl z)
      · exact l4N (.inr (.inr (.inl z)))
      · exact l4N (.inr (.inr (.inr (.inl z))))
      · exact l4N (.inr (.inr (.inr (.inr z))))) h
    have FD := FC.hid (H' := upd H3 l4 (.lst (vN (dL (ps.take i)) ++ [V.int ((Ju.dp (ps.take i) (par ps (i + 1)) + 1 : Nat) : Int)]))) (envA_no rfl rfl rfl rfl) (fun b z => upd_ne (fun y => l4Z (by rw [← y]; exact z)))
      (fun b φ h => hc4 b _ (fun y => by rw [y, k4 g3' _ DB] at h; cases h) h) (fun b o z h => hc4 b o (fun y => z (.inr (.inr y))) h) (fun b z => by
        by_cases y : b = l4
        · rw [y, upd_same]; exact ⟨_, rfl, fun _ z => nomatch z⟩
        · rw [upd_ne y]; exact FC.wl.tr b z) (fun b o h z => upd_ne (fun y => by rw [y, l40] at h; cases h))
    have AD := AC.keep nx4
    have lD : LeA (Sh (fun b => O b ∨ M b) H9) (Sh (fun b => O b ∨ M b) (upd H3 l4 (.lst (vN (dL (ps.take i)) ++ [V.int ((Ju.dp (ps.take i) (par ps (i + 1)) + 1 : Nat) : Int)])))) := lC.trans fun a o ⟨h, z⟩ => ⟨rd_mv (fun o e => hc4 a o (fun y => z (.inr (.inr y))) e) h, z⟩
    generalize upd H3 l4 (.lst (vN (dL (ps.take i)) ++ [V.int ((Ju.dp (ps.take i) (par ps (i + 1)) + 1 : Nat) : Int)])) = HD at FD AD lD DD ⊢
    clear nx4 hc4
    obtain ⟨dy, hxD⟩ := AD.ob
    refine ⟨_, s9, x, dy, _, rfl, hxD, rfl, ?_⟩
    refine hp G cg n _ _ σB HD (fun d => d = .int (par ps (i + 1) : Int)) _ hL0 FD (hmp t ps i _ _ _ ok hlt rfl) fun d v H4 ed g4 ok4 rv4 => ?_
    subst ed
    obtain rfl : v = .int (par ps (i + 1) : Int) := by cases rv4; rfl
    have FE := FD.grow g4 ok4
    have AE := AD.keep (kp g4)
    have DE := k4 g4 _ DD
    have lE := lD.trans (sh_grow FD.wl.zo g4)
    refine ⟨x, l1, l2, l3, ps.take i, par ps (i + 1), rfl, AE, few, by omega, fun HF A6 same6 => ?_⟩
    rw [tl']
    refine ⟨_, s4, rfl, _, rfl, ?_⟩
    refine iteF' (by rw [decide_eq_true rfl]; exact Bool.false_ne_true) ?_
    have inM : ∀ b, (b = l1 ∨ b = l2 ∨ b = l3) → M b := fun b z => .inl (by
      rcases z with z | z | z
      · exact .inr (.inr (.inl z))
      · exact .inr (.inr (.inr (.inl z)))
      · exact .inr (.inr (.inr (.inr z))))
    have sF : ∀ b o, ¬ (b = l1 ∨ b = l2 ∨ b = l3) → H4 b = some o → HF b = some o := fun b o z h => same6 b o (fun y => z (.inl y)) (fun y => z (.inr (.inl y))) (fun y => z (.inr (.inr y))) h
    have hcF : ∀ b o, ¬ (O b ∨ M b) → H4 b = some o → HF b = some o := fun b o z h => sF b o (fun y => z (.inr (inM b y))) h
    have FF := FE.hid (H' := HF) (envA_no rfl rfl rfl rfl) (fun b z => by
        obtain ⟨u, hu, _⟩ := FE.wl.tr b (.inl (F.wl.zo b z))
        rw [hu]
        exact sF b u (fun y => mZ b (inM b y) z) hu)
      (fun b φ h => sF b _ (fun y => by
        rcases y with y | y | y
        · rw [y, AE.h1] at h; cases h
        · rw [y, AE.h2] at h; cases h
        · rw [y, AE.h3] at h; cases h) h) hcF (fun b z => by
        by_cases y1 : b = l1
        · rw [y1, A6.h1]; exact ⟨_, rfl, fun _ z => nomatch z⟩
        by_cases y2 : b = l2
        · rw [y2, A6.h2]; exact ⟨_, rfl, fun _ z => nomatch z⟩
        by_cases y3 : b = l3
        · rw [y3, A6.h3]; exact ⟨_, rfl, fun _ z => nomatch z⟩
        obtain ⟨u, hu, hn⟩ := FE.wl.tr b z
        exact ⟨u, same6 b u y1 y2 y3 hu, hn⟩) (fun b o h z => by
        have hu := FE.wl.base b o h z
        rw [hu]
        exact sF b o (fun y => by rw [m0 b (inM b y)] at h; cases h) hu)
    have lF := lE.trans (fun a o ⟨h, z⟩ => ⟨rd_mv (fun o e => hcF a o z e) h, z⟩ : LeA (Sh (fun b => O b ∨ M b) H4) (Sh (fun b => O b ∨ M b) HF))
    rw [← etk] at A6
    refine ⟨hlt, _, rfl, FF, lF, A6, same6 l4 _ (fun y => l4N (.inr (.inr (.inl y)))) (fun y => l4N (.inr (.inr (.inr (.inl y))))) (fun y => l4N (.inr (.inr (.inr (.inr y))))) DE⟩
  · have ei : i = ps.length := by omega
    subst ei
    rw [List.take_length] at A' D'
    refine .inl ⟨(wk n _ H' l F'.wl ps.length).2 (by rw [rl]; exact Nat.le_refl _), ?_⟩
    obtain ⟨v3, s3, z3⟩ := F'.sl 3 _ rfl (fun z => nomatch z)
    obtain rfl : v3 = .ref l4 := by cases z3 with | dat r => cases r; rfl
    obtain ⟨v9, s9, z9⟩ := F'.sl 9 _ rfl (fun z => nomatch z)
    obtain rfl : v9 = .ref x := by cases z9 with | dat r => cases r; rfl
    have FZ : Fr G n O (envA t ps (.dat (.lst (encN (dL ps)))) a4 (.dat (juD mg ps)) (manyD ps)) σ' H' := fr_put (fr_put (fr_show F' F.wl (envA_no rfl o4 rfl rfl)) s3 (.lst ⟨.inl D', l4O⟩ (rp_vN _))) s9 (A'.rp nOx nO1 nO2 nO3)
    have lZ : LeA (Sh O H) (Sh O H') := (le9.trans l).trans fun a o ⟨h, z⟩ => ⟨h, fun y => z (.inl y)⟩
    exact hr G cg n O _ σ' H' P D hL FZ (q a4 o4) (e.le lZ)
end
end W
end Law

namespace Law
namespace W
open PySem PySem.Spec PyProof.Rows L2 PL LamX
local macro_rules | `(tactic| walk_at "pl") => `(tactic| simp only [sRet, sRetN, sSeq, sNext, sNever, sSet, sPar, sPar3, sIf, sDrop, sFor, sForL, sApp, sAug, sAugIx, sPutD, sSetIx, sTo, sExt, sRem, sBreak, sCont, mAndV, mOrV, mNotV, mAnd, mOr, mNot, mB, mIf, mTru, mCB, mCL, mCall, mC, mVar, mRd, aCons, aNil, mTup, mLst, mLc, mLcK, mLcL, mLcO, mOwn, mDat, m2, ml2, mNeg, mChain, iT, iL, iR1, iR2, iE, iRv, iZ, iET, kIsi, kIsi2, kIx, kI, kIc, kIsN, kIsB, kEqS, kEqB, kLen, kTuple, kList, kInt1, kAbs, kRepL, kMin2, kCatT, kCatL, mGet, mInD, D.key, mLrg, mRevL, mGet2, sPut2, mSlT, mSlL, oNone, oSome, gT, gsC, gsN, env0, wipeE, frz, unOwn, gN, List.length_cons, List.length_nil, List.map_cons, List.map_nil, List.replicate, List.cons_append, List.nil_append, List.append_nil, List.getElem?_cons_zero, List.getElem?_cons_succ, Nat.sub_self, Nat.reduceAdd, Nat.reduceSub, D.ty, D.isN, D.tru, if_true, if_false, Bool.false_eq_true, List.set, id, kAll, iET, iE, kRepT, mC, kIx, kEqO, mBM, kMax2, mFld, mSelf, kIsX, mCaught, mAnd, kIsi, kIndexI, kEqD])
theorem seq2 {a b r : SM} {env : Ev} {P : Pe} (h : ∀ Cc, Cc = r → sSeq a (sSeq b Cc) env P) : sSeq a (sSeq b r) env P := h r rfl
theorem seq3 {a b c r : SM} {env : Ev} {P : Pe} (h : ∀ Cc, Cc = r → sSeq a (sSeq b (sSeq c Cc)) env P) : sSeq a (sSeq b (sSeq c r)) env P := h r rfl
theorem seq4 {a b c d r : SM} {env : Ev} {P : Pe} (h : ∀ Cc, Cc = r → sSeq a (sSeq b (sSeq c (sSeq d Cc))) env P) : sSeq a (sSeq b (sSeq c (sSeq d r))) env P := h r rfl
theorem seq5 {a b c d e r : SM} {env : Ev} {P : Pe} (h : ∀ Cc, Cc = r → sSeq a (sSeq b (sSeq c (sSeq d (sSeq e Cc)))) env P) : sSeq a (sSeq b (sSeq c (sSeq d (sSeq e r)))) env P := h r rfl

theorem pl_encNt (n : Nat) (l : List Nat) : D.pl (n + 1) (.tup (encN l)) = true := by
  unfold D.pl
  exact plL_mem' fun d hd => by
    obtain ⟨k, _, rfl⟩ := List.mem_map.mp hd
    unfold D.pl; rfl
theorem pl_encNl (n : Nat) (l : List Nat) : D.pl (n + 1) (.lst (encN l)) = true := by
  unfold D.pl
  exact plL_mem' fun d hd => by
    obtain ⟨k, _, rfl⟩ := List.mem_map.mp hd
    unfold D.pl; rfl
theorem pl_encP (n : Nat) (ps : List Nat) : D.pl (n + 1) (encP ps) = true := by
  unfold encP D.pl
  exact plL_mem' fun d hd => by
    rcases List.mem_cons.mp hd with rfl | hd
    · unfold D.pl; rfl
    · obtain ⟨k, _, rfl⟩ := List.mem_map.mp hd
      unfold D.pl; rfl
def pw : Nat → Nat → List Nat
  | 0, _ => []
  | n + 1, x => x :: pw n (2 * x)
theorem pw_cnt (d : Nat) : ∀ (n x K : Nat), x * 2 ^ K ≤ d → K < n → K + 1 ≤ ((pw n x).filter fun s => decide (s ≤ d)).length
  | 0, _, _, _, h => absurd h (Nat.not_lt_zero _)
  | n + 1, x, K, h, hK => by
    have h1 : 1 ≤ 2 ^ K := Nat.one_le_two_pow
    have h2 : x ≤ x * 2 ^ K := Nat.le_mul_of_pos_right _ h1
    show K + 1 ≤ (List.filter _ (x :: pw n (2 * x))).length
    rw [List.filter_cons_of_pos (p := fun s => decide (s ≤ d)) (decide_eq_true (by omega)), List.length_cons]
    cases K with
    | zero => omega
    | succ K =>
      have := pw_cnt d n (2 * x) K (by rw [Nat.pow_succ, Nat.mul_comm (2 ^ K) 2, ← Nat.mul_assoc, Nat.mul_comm x 2] at h; exact h) (by omega)
      omega
theorem last_isF {ps mk : List Nat} (ok : PsOk ps) (M : Ju.MkOk ps mk) {b : Nat} : ∀ v, v ≤ ps.length → b ≤ mk.getD v 0 → ∃ w, ((way ps v).filter fun x => decide (b ≤ mk.getD x 0)).getLast? = some w ∧ Ju.IsF ps mk b v w := by
  intro v
  induction v using Nat.strongRecOn with
  | ind v ih =>
    intro hv hb
    by_cases e : v = 0
    · subst e
      rw [way_zero, List.filter_cons_of_pos (p := fun x => decide (b ≤ mk.getD x 0)) (decide_eq_true hb)]
      exact ⟨0, rfl, by rw [way_zero]; exact List.mem_singleton.mpr rfl, hb, .inl rfl⟩
    · have h0 : 0 < v := by omega
      have hp := ok v h0 hv
      have ew := way_eq ok h0 hv
      rw [ew, List.filter_cons_of_pos (p := fun x => decide (b ≤ mk.getD x 0)) (decide_eq_true hb)]
      by_cases hq : b ≤ mk.getD (par ps v) 0
      · obtain ⟨w, h1, h2, h3, h4⟩ := ih (par ps v) hp (by omega) hq
        refine ⟨w, ?_, by rw [ew]; exact List.mem_cons_of_mem _ h2, h3, h4⟩
        rw [List.getLast?_cons, h1]; rfl
      · have en : ((way ps (par ps v)).filter fun x => decide (b ≤ mk.getD x 0)) = [] := by
          rw [List.filter_eq_nil_iff]
          intro w hw
          have := Ju.mk_up ok M (par ps v) (by omega) w hw
          rw [decide_eq_false (by omega)]; decide
        rw [en]
        exact ⟨v, rfl, by rw [ew]; exact List.mem_cons_self, hb, .inr (by omega)⟩
theorem none_isF {ps mk : List Nat} (ok : PsOk ps) (M : Ju.MkOk ps mk) {b v : Nat} (hv : v ≤ ps.length) (hb : mk.getD v 0 < b) : ((way ps v).filter fun x => decide (b ≤ mk.getD x 0)) = [] := by
  rw [List.filter_eq_nil_iff]
  intro w hw
  have := Ju.mk_up ok M v hv w hw
  rw [decide_eq_false (by omega)]; decide
theorem atI_end {l : List Nat} {w : Nat} (h : l.getLast? = some w) : atI (encN l) (-1) = some (.int (w : Int)) := by
  cases l with
  | nil => cases h
  | cons a r =>
    rw [List.getLast?_eq_getElem?] at h
    have e : (-1 : Int) + (((encN (a :: r)).length : Nat) : Int) = (((a :: r).length - 1 : Nat) : Int) := by
      rw [encN_len, List.length_cons]; omega
    have hx : ixN (encN (a :: r)).length (-1) = some ((a :: r).length - 1) := by
      rw [encN_len]
      unfold ixN
      rw [List.length_cons]
      (rw [if_neg (by omega), if_pos (by omega)]; congr 1; omega)
    unfold atI
    rw [hx]
    show (encN (a :: r))[(a :: r).length - 1]? = _
    unfold encN
    rw [List.getElem?_map, h]; rfl
section
variable {P : Program} {w : World} {K : PySem.W.Frag} {mg : Str → Option Value} {base : Heap}
abbrev TtOf (PH_l_ju_errors : Addr) : List (Addr × Str) := [(PH_l_ju_errors, (envOfC "_law_ju_errors" (defScope s_l_ju_errors) 0 0 (.ref 0)).qual ++ "<lambda>")]
theorem ok_law {k : Nat} {cL f PH_l_ju_errors : Addr} {oc kV doc pm ct : Value} {od an : Option Addr} {osl : Array (Option Value)} (lk : K.lookup f = some ⟨oc, od, .func (PySem.W.fnOf "law" "law" (defArgs s_law) (defBody s_law) (defScope s_law) .none kV doc pm an (.ref cL) ct), osl⟩) (hcd : PySem.W.codeIn K (.ref cL) "law" = true) (T : Bt mg) (T_Jumps : GCls K mg "Jumps") (MT_Jumps_up : MtX P w K mg base (er mg "Jumps") "up" k ["self", "version", "depth"] (spX CA 0 (S_Jumps_up mg))) (MT_Jumps_many : MtP P w K mg base (er mg "Jumps") "many" k ["self"] (spP CA 0 (S_Jumps_many mg))) (MT_Jumps_jump : MtX P w K mg base (er mg "Jumps") "jump" k ["self", "version"] (spX CA 0 (S_Jumps_jump mg))) (MT_Jumps_grow : MtX P w K mg base (er mg "Jumps") "grow" k ["self", "parent"] (spX CA 0 (S_Jumps_grow mg))) (MT_Jumps_parents : MtP P w K mg base (er mg "Jumps") "parents" k ["self"] (spP CA 0 (S_Jumps_parents mg))) (MT_Jumps_first_with : MtX P w K mg base (er mg "Jumps") "first_with" k ["self", "version", "marks", "least"] (spX CA 0 (S_Jumps_first_with mg))) (MI_Jumps : MkO P w K mg base "Jumps" k ["self"] (spJI (er mg "Jumps"))) (MG_Jumps_grow : MtXM P w K mg base (er mg "Jumps") "grow" k ["self", "parent"] ["parent"] [0] (spJG (er mg "Jumps"))) (MK_Jumps_first_with_0 : MtXM P w K mg base (er mg "Jumps") "first_with" k ["self", "version", "marks", "least"] ["least", "marks", "version"] [2, 1, 0] (spX CA 0 (S_Jumps_first_with mg))) (MK_Jumps_up_0 : MtXM P w K mg base (er mg "Jumps") "up" k ["self", "version", "depth"] ["depth", "version"] [1, 0] (spX CA 0 (S_Jumps_up mg))) (MK_Jumps_jump_0 : MtXM P w K mg base (er mg "Jumps") "jump" k ["self", "version"] ["version"] [0] (spX CA 0 (S_Jumps_jump mg))) (hCt : CaughtF K mg) (P_l_begun : Pr P w K mg base "_law_begun" k ["script"] (spBg K)) (P_l_ju_tree : Pr P w K mg base "_law_ju_tree" k ["state"] (spT StW 300 S_l_ju_tree)) (P_l_ju_jumps : Pr P w K mg base "_law_ju_jumps" k ["parents_here", "deep"] (spP CA 0 S_l_ju_jumps)) (P_l_ju_marks : Pr P w K mg base "_law_ju_marks" k ["state", "parents_here"] (spT StW 1100 S_l_ju_marks)) (P_l_pick : Pr P w K mg base "_law_pick" k ["state", "several"] (spT StW 1 S_l_pick)) (P_l_draw : Pr P w K mg base "_law_draw" k ["state", "size_here"] (spT StW 1 S_l_draw)) (P_l_ti_up : Pr P w K mg base "_law_ti_up" k ["parents_here", "version"] (spP CA 0 S_l_ti_up)) (P_l_ju_errors : Pr P w K mg base "_law_ju_errors" k ["state", "jumps", "marks_here"] (spT (StWT (TtOf PH_l_ju_errors)) 5 (S_l_ju_errors mg))) (P_l_ju_steps : Pr P w K mg base "_law_ju_steps" k ["parents_here", "jumps_here", "deep", "version", "depth"] (spP CA 0 S_l_ju_steps))  :
    FnOk P w K mg base CX0 (k + 2 + 1) f (PySem.W.fnOf "law" "law" (defArgs s_law) (defBody s_law) (defScope s_law) .none kV doc pm an (.ref cL) ct) ["script"] (spLawT K [PH_l_ju_errors]) := by
  refine fun_okC lk hcd sc_law (fun vs H Q E ⟨_, _, e, _⟩ => by rw [e]; rfl) fun A outer s H vs Q E hr0 ⟨a, ns, e, hS, h63, hT0, kq⟩ => ?_
  subst e
  have hrL := hr0
  have hr := hr0.mono (by omega : k ≤ k + 2)
  have hu := hu_of hr
  obtain ⟨gi, gd, hI1, hI2, hI3⟩ := MI_Jumps.ex
  let Tt : List (Addr × Str) := (TtOf PH_l_ju_errors)
  replace P_l_ju_tree := P_l_ju_tree.wt Tt mono_l_ju_tree
  replace P_l_ju_marks := P_l_ju_marks.wt Tt mono_l_ju_marks
  replace P_l_pick := P_l_pick.wt Tt mono_l_pick
  replace P_l_draw := P_l_draw.wt Tt mono_l_draw
  refine ⟨_, pss_cons (ps_set (i := 1) sc_law.nd rfl (Or.inl rfl) (pe_callP P_l_begun hr rfl (pa_cons (pv 0) pa_nil)))
    (pss_cons (ps_set (i := 2) sc_law.nd rfl (Or.inl rfl) (pe_callP P_l_ju_tree hr rfl (pa_cons (pv 1) pa_nil)))
  (pss_cons (ps_asg (pe_tup (pa_cons (pe_make0 hI2 hI1 (hr0.mono (by omega : k + 1 ≤ k + 2)) rfl T_Jumps.g hI3 .nil pass0) (pa_cons (pe_callB (r := fun xs H Q => ∃ x n, xs = [x] ∧ LenV K x H n ∧ Q (.int n) H) call_len (by rfl) T.len PySem.boot_len (pa_cons (pv 2) pa_nil)) pa_nil))) (pg_tup rfl (pgs_cons (pg_name (i := 9) sc_law.nd rfl (Or.inr rfl)) (pgs_cons (pg_name (i := 10) sc_law.nd rfl (Or.inl rfl)) pgs_nil))))
  (pss_cons (ps_if (PW.pt (pw_or (pt_cmpR op_ne (pe_methP0 T_Jumps.cl MT_Jumps_many hr (pv 9)) pe_int (nomark _)) (pw_or (pt_cmpR op_ne (pe_methN T_Jumps.cl MT_Jumps_jump hr (pv 9) (pa_cons pe_int pa_nil)) pe_int (nomark _)) (pw_or1 (pt_cmpR (show OpR _ _ (rNeD K) from op_neD hr.units) (pe_methN T_Jumps.cl MT_Jumps_up hr (pv 9) (pa_cons pe_int (pa_cons pe_int pa_nil))) (pe_tup (pa_cons pe_int (pa_cons pe_int pa_nil))) (nomark _)))))) (pss_one (ps_ret pe_bl)) pss_nil)
  (pss_cons (ps_set (i := 3) sc_law.nd rfl (Or.inr rfl) (pe_lst (pa_cons pe_int pa_nil)))
  (pss_cons (ps_for PassesOwn.never rfl (pi_range2 (by rfl) T.range (pa_cons pe_int (pa_cons (pv 10) pa_nil))) (pg_name (i := 4) sc_law.nd rfl (Or.inr rfl))
  (pss_cons (ps_expr (pe_bm PySem.F.plainAttrs_list PySem.F.slot_list_append PySem.F.type_list_append mt_append (pv 3) (pa_cons (pe_op op_add (pe_ix (show IxR _ (rIx K) from ix_seq) (pv 3) (pe_ix (show IxR _ (rIx K) from ix_seq) (pv 2) (pv 4) (fun _ _ => rfl)) (fun _ _ => rfl)) pe_int) pa_nil)))
  (pss_one (ps_if (pt_cmpR op_ne (pe_methKN T_Jumps.cl MG_Jumps_grow hr (pv 9) (pk_cons (pe_ix (show IxR _ (rIx K) from ix_seq) (pv 2) (pv 4) (fun _ _ => rfl)) pk_nil)) (pv 4) (nomark _)) (pss_one (ps_ret pe_bl)) pss_nil))))
  (pss_cons (ps_set (i := 5) sc_law.nd rfl (Or.inl rfl) (pe_callP P_l_ju_jumps hr rfl (pa_cons (pv 2) (pa_cons (pv 3) pa_nil))))
  (pss_cons (ps_if (PW.pt (pw_or (pt_cmpR (show OpR _ _ (rNeD K) from op_neD hr.units) (pe_methP0 T_Jumps.cl MT_Jumps_parents hr (pv 9)) (pv 2) (nomark _)) (pw_or1 (pt_cmpR op_ne (pe_methP0 T_Jumps.cl MT_Jumps_many hr (pv 9)) (pv 10) (nomark _))))) (pss_one (ps_ret pe_bl)) pss_nil)
  (pss_cons (ps_if (pt_cmpR (show OpR _ _ (rNeD K) from op_neD hr.units) (pe_lc (own := [("version", 4)]) (g := (gName 4)) (tt := tYes) rfl sc_law.nd (pi_range1 rfl T.range (pa_cons (pv 10) pa_nil)) (blkOk_by (own := [("version", 4)]) (N := ["script", "state", "parents_here", "deep", "version", "due", "marks_here", "marks_told", "turn", "jumps", "many", "depth", "found", "above", "sizes_here", "figures", "least", "some", "due_here", "one"]) (sc := defScope s_law) (by decide +kernel)) (fun _ _ _ _ _ => (pg_name (i := 4) sc_law.nd rfl (Or.inl rfl))) (fun _ _ _ _ _ => pts_nil) (fun _ _ _ _ _ => (pe_methN T_Jumps.cl MT_Jumps_jump hr (pv 9) (pa_cons (pv 4) pa_nil)))) (pv 5) (nomark _)) (pss_one (ps_ret pe_bl)) pss_nil)
  (pss_cons (ps_set (i := 6) sc_law.nd rfl (Or.inr rfl) (pe_callP P_l_ju_marks hr rfl (pa_cons (pv 1) (pa_cons (pv 2) pa_nil))))
  (pss_cons (ps_set (i := 7) sc_law.nd rfl (Or.inl rfl) (pe_callTy (T := "list") (r := rListOf K) call_list_of (by rfl) T.list (by decide +kernel) (pa_cons (pv 6) pa_nil)))
  (pss_cons (ps_for PassesOwn.never rfl (pi_range1 rfl T.range (pa_cons pe_int pa_nil)) (pg_name (i := 8) sc_law.nd rfl (Or.inl rfl))
  (pss_cons (ps_set (i := 4) sc_law.nd rfl (Or.inr rfl) (pe_callP P_l_pick hr rfl (pa_cons (pv 1) (pa_cons (pe_lst (pa_cons (pe_op op_sub (pv 10) pe_int) (pa_cons (pe_callP P_l_draw hr rfl (pa_cons (pv 1) (pa_cons (pv 10) pa_nil))) pa_nil))) pa_nil))))
  (pss_cons (ps_set (i := 11) sc_law.nd rfl (Or.inl rfl) (pe_callP P_l_draw hr rfl (pa_cons (pv 1) (pa_cons (pe_op op_add (pe_ix (show IxR _ (rIx K) from ix_seq) (pv 3) (pv 4) (fun _ _ => rfl)) pe_int) pa_nil))))
  (pss_cons (ps_set (i := 12) sc_law.nd rfl (Or.inl rfl) (pe_methN T_Jumps.cl MT_Jumps_up hr (pv 9) (pa_cons (pv 4) (pa_cons (pv 11) pa_nil))))
  (pss_cons (ps_if (pt_cmpR (show OpR _ _ (rNeD K) from op_neD hr.units) (pv 12) (pe_callP P_l_ju_steps hr rfl (pa_cons (pv 2) (pa_cons (pv 5) (pa_cons (pv 3) (pa_cons (pv 4) (pa_cons (pv 11) pa_nil)))))) (nomark _)) (pss_one (ps_ret pe_bl)) pss_nil)
  (pss_cons (ps_set (i := 13) sc_law.nd rfl (Or.inl rfl) (pe_callP P_l_ti_up hr rfl (pa_cons (pv 2) (pa_cons (pv 4) pa_nil))))
  (pss_cons (ps_set (i := 14) sc_law.nd rfl (Or.inl rfl) (pe_lst (pa_cons pe_int (pa_cons pe_int (pa_cons pe_int (pa_cons pe_int (pa_cons pe_int (pa_cons pe_int (pa_cons pe_int (pa_cons pe_int (pa_cons pe_int (pa_cons pe_int (pa_cons pe_int pa_nil)))))))))))))
  (pss_cons (ps_set (i := 15) sc_law.nd rfl (Or.inl rfl) (pe_callB (r := fun xs H Q => ∃ x n, xs = [x] ∧ LenV K x H n ∧ Q (.int n) H) call_len (by rfl) T.len PySem.boot_len (pa_cons (pe_lc (own := [("least", 16)]) (g := (gName 16)) rfl sc_law.nd (pi_list (pv 14)) (blkOk_by (own := [("least", 16)]) (N := ["script", "state", "parents_here", "deep", "version", "due", "marks_here", "marks_told", "turn", "jumps", "many", "depth", "found", "above", "sizes_here", "figures", "least", "some", "due_here", "one"]) (sc := defScope s_law) (by decide +kernel)) (fun _ _ _ _ _ => (pg_name (i := 16) sc_law.nd rfl (Or.inl rfl))) (fun _ _ _ _ _ => (pts_one (pt_cmpR op_ge (pe_op op_add (pe_ix (show IxR _ (rIx K) from ix_seq) (pv 3) (pv 4) (fun _ _ => rfl)) pe_int) (pv 16) (nomark _)))) (fun _ _ _ _ _ => pe_int)) pa_nil)))
  (pss_cons (ps_if (PW.pt (pw_or (pt_cmpR op_ne (pe_ix (show IxR _ (rIx K) from ix_seq) (pv 13) (pe_op op_sub (pe_ix (show IxR _ (rIx K) from ix_seq) (pv 3) (pv 4) (fun _ _ => rfl)) (pv 11)) (fun _ _ => rfl)) (pe_ix (show IxR _ (rIx K) from ix_seq) (pv 12) pe_int (fun _ _ => rfl)) (nomark _)) (pw_or1 (pt_cmpR op_gt (pe_ix (show IxR _ (rIx K) from ix_seq) (pv 12) pe_int (fun _ _ => rfl)) (pe_op op_mul pe_int (pe_op op_sub (pv 15) pe_int)) (nomark _))))) (pss_one (ps_ret pe_bl)) pss_nil)
  (pss_cons (ps_set (i := 16) sc_law.nd rfl (Or.inr rfl) (pe_callP P_l_draw hr rfl (pa_cons (pv 1) (pa_cons (pe_op op_add (pe_ix (show IxR _ (rIx K) from ix_seq) (pv 6) (pv 4) (fun _ _ => rfl)) pe_int) pa_nil))))
  (pss_cons (ps_setLc (i := 17) (own := [("one", 19)]) (g := (gName 19)) rfl sc_law.nd rfl rfl (sw_true rfl rfl rfl (by decide +kernel)) (pi_list (pv 13)) (blkOk_by (own := [("one", 19)]) (N := ["script", "state", "parents_here", "deep", "version", "due", "marks_here", "marks_told", "turn", "jumps", "many", "depth", "found", "above", "sizes_here", "figures", "least", "some", "due_here", "one"]) (sc := defScope s_law) (by decide +kernel)) (fun _ _ _ _ _ => (pg_name (i := 19) sc_law.nd rfl (Or.inl rfl))) (fun _ _ _ _ _ => (pts_one (pt_cmpR op_ge (pe_ix (show IxR _ (rIx K) from ix_seq) (pv 6) (pv 19) (fun _ _ => rfl)) (pv 16) (nomark _)))) (fun _ _ _ _ _ => (pv 19)))
  (pss_cons (ps_set (i := 18) sc_law.nd rfl (Or.inl rfl) (pe_ifExp (pt_cmpR (show OpR _ _ (rNeD K) from op_neD hr.units) (pv 17) (pe_lst pa_nil) (nomark _)) (pe_ix (show IxR _ (rIx K) from ix_seq) (pv 17) (pe_un un_neg pe_int) (fun _ _ => rfl)) pe_non))
  (pss_cons (ps_if (pt_cmpR (show OpR _ _ (rNeD K) from op_neD hr.units) (pe_methN T_Jumps.cl MT_Jumps_first_with hr (pv 9) (pa_cons (pv 4) (pa_cons (pv 6) (pa_cons (pv 16) pa_nil)))) (pv 18) (nomark _)) (pss_one (ps_ret pe_bl)) pss_nil)
  (pss_cons (ps_if (pt_cmpR (show OpR _ _ (rNeD K) from op_neD hr.units) (pe_methKN T_Jumps.cl MK_Jumps_first_with_0 hr (pv 9) (pk_cons (pv 16) (pk_cons (pe_callTy (T := "tuple") (r := rTupleOf K) call_tuple_of (by rfl) T.tuple (by decide +kernel) (pa_cons (pv 6) pa_nil)) (pk_cons (pv 4) pk_nil)))) (pv 18) (nomark _)) (pss_one (ps_ret pe_bl)) pss_nil)
  (pss_one (ps_if (PW.pt (pw_or (pt_cmpR (show OpR _ _ (rNeD K) from op_neD hr.units) (pe_methKN T_Jumps.cl MK_Jumps_up_0 hr (pv 9) (pk_cons (pv 11) (pk_cons (pv 4) pk_nil))) (pv 12) (nomark _)) (pw_or1 (pt_cmpR (show OpR _ _ (rNeD K) from op_neD hr.units) (pv 6) (pv 7) (nomark _))))) (pss_one (ps_ret pe_bl)) pss_nil))))))))))))))))
  (pss_one (ps_ret (pe_and (pe_cmpR op_eq (pe_methKN T_Jumps.cl MK_Jumps_jump_0 hr (pv 9) (pk_cons (pe_op op_sub (pv 10) pe_int) pk_nil)) (pe_ix (show IxR _ (rIx K) from ix_seq) (pv 5) (pe_un un_neg pe_int) (fun _ _ => rfl)) (nomark _)) (pe_one (pe_callP P_l_ju_errors hr rfl (pa_cons (pv 1) (pa_cons (pv 9) (pa_cons (pv 6) pa_nil))))))))))))))))))), ?_⟩
  refine ⟨_, rfl, a, ns, rfl, hS, h63, fun za zg zc H1 hne sm n1 n2 n3 st => ?_⟩
  refine gname_of ?_
  dsimp only
  have tt : LamX.Tabs Tt H1 := fun p hp => by
    have hp : p ∈ (TtOf PH_l_ju_errors) := hp
    simp only [TtOf, List.mem_cons, List.not_mem_nil, or_false] at hp
    rcases hp with rfl
    all_goals exact LamX.TabS.nil (sm _ _ (hT0 _ (by simp)))
  have ctr : ∀ b, (stWT za zg zc Tt).Z b → Trk (H1 b) := fun b z => (stWT za zg zc Tt).tr 0 H1 b ⟨st, tt⟩ z
  let tok : V := .ref za
  refine ss_run (m := ?m) (c := ?c) (C := nx (StWT Tt (.ref za))) ?sim (G := Cfg.nx (stWT za zg zc Tt) H1 (stWT za zg zc Tt).Z ctr) (P := { nx := fun _ => False, rt := fun d => d = .bl true }) ⟨za, zg, zc, rfl, hne, rfl⟩ (fr_lawT 18 st tt ctr) ?hc ?hm ⟨fun _ _ _ _ _ _ q => q.elim, fun d v O' H' _ rv q => by subst q; cases rv; exact kq H', fun _ _ _ _ _ _ q => q.elim, fun _ _ _ _ _ _ q => q.elim⟩
  case sim =>
    refine (ss_seq (ss_set (SE.x (se_callT tok (sa_cons se_var sa_nil) (mono_l_ju_tree tok))))
  (ss_pre (mg := mg) (se_cb (sar_cons sr_var sar_nil) kc_len) ?h1
  (st_or (st_b (se_op (SE.r (se_methP se_var sa_nil mono_Jumps_many)) (SE.r se_int) k2_neS)) (st_or (st_b (se_op (SE.r (se_methN se_var (sa_cons se_int sa_nil) mono_Jumps_jump)) (SE.r se_int) k2_neS)) (st_b (se_op (SE.r (se_methN se_var (sa_cons se_int (sa_cons se_int sa_nil)) mono_Jumps_up)) (SE.r (se_tup (sa_cons se_int (sa_cons se_int sa_nil)))) k2_neD)))) ?h2
  (si_rng2 (sa_cons se_int (sa_cons se_var sa_nil))) ?h3
  (se_op (SE.r (se_op sr_var (SE.r (se_op sr_var sr_var k2_ix)) k2_ix)) (SE.r se_int) k2_int) ?h4
  (se_op sr_var sr_var k2_ix) ?h5
  (ss_seq (ss_set (SE.x (se_callA (sa_cons se_var (sa_cons se_var sa_nil)) mono_l_ju_jumps)))
  (ss_seq (ss_if (st_or (st_b (se_op (SE.r (se_methP se_var sa_nil mono_Jumps_parents)) sr_var k2_neD)) (st_b (se_op (SE.r (se_methP se_var sa_nil mono_Jumps_many)) sr_var k2_neS))) (ss_ret se_bl) ss_next)
  (ss_seq (ss_if (st_b (se_op (SE.r (SL.e (sl_lc (si_rng1 (sa_cons se_var sa_nil)) (sg_name (vs := [4]) (i := 4)) st_yes' (se_methN se_var (sa_cons se_var sa_nil) mono_Jumps_jump)))) sr_var k2_neD)) (ss_ret se_bl) ss_next)
  (ss_seq (ss_set (SE.x (se_callT tok (sa_cons se_var (sa_cons se_var sa_nil)) (mono_l_ju_marks tok))))
  (ss_seq (ss_set (SE.x (SL.e (sl_cb (sar_cons sr_var sar_nil) kl_list))))
  (ss_seq (ss_forL 30 (si_rng1 (sa_cons se_int sa_nil)) (sg_name (vs := [8]) (i := 8))
  (ss_seq (ss_set (SE.x (se_callT tok (sa_cons se_var (sa_cons (SL.e (sl_lst (sa_cons (se_op sr_var (SE.r se_int) k2_int) (sa_cons (se_callT tok (sa_cons se_var (sa_cons se_var sa_nil)) (mono_l_draw tok)) sa_nil)))) sa_nil)) (mono_l_pick tok))))
  (ss_seq (ss_set (SE.x (se_callT tok (sa_cons se_var (sa_cons (se_op (SE.r (se_op sr_var sr_var k2_ix)) (SE.r se_int) k2_int) sa_nil)) (mono_l_draw tok))))
  (ss_seq (ss_set (SE.x (se_methN se_var (sa_cons se_var (sa_cons se_var sa_nil)) mono_Jumps_up)))
  (ss_seq (ss_if (st_b (se_op sr_var (SE.r (se_callA (sa_cons se_var (sa_cons se_var (sa_cons se_var (sa_cons se_var (sa_cons se_var sa_nil))))) mono_l_ju_steps)) k2_neD)) (ss_ret se_bl) ss_next)
  (ss_seq (ss_set (SE.x (se_callA (sa_cons se_var (sa_cons se_var sa_nil)) mono_l_ti_up)))
  (ss_seq (ss_set (SE.x (SL.e (sl_lst (sa_cons se_int (sa_cons se_int (sa_cons se_int (sa_cons se_int (sa_cons se_int (sa_cons se_int (sa_cons se_int (sa_cons se_int (sa_cons se_int (sa_cons se_int (sa_cons se_int sa_nil)))))))))))))))
  (ss_seq (ss_set (SE.x (se_cb (sar_cons (SE.r (SL.e (sl_lc (si_list se_var) (sg_name (vs := [16]) (i := 16)) (st_b (se_op (SE.r (se_op (SE.r (se_op sr_var sr_var k2_ix)) (SE.r se_int) k2_int)) sr_var k2_bl)) se_int))) sar_nil) kc_len)))
  (ss_seq (ss_if (st_or (st_b (se_op (SE.r (se_op sr_var (SE.r (se_op (SE.r (se_op sr_var sr_var k2_ix)) sr_var k2_int)) k2_ix)) (SE.r (se_op sr_var (SE.r se_int) k2_ix)) k2_neS)) (st_b (se_op (SE.r (se_op sr_var (SE.r se_int) k2_ix)) (SE.r (se_op (SE.r se_int) (SE.r (se_op sr_var (SE.r se_int) k2_int)) k2_intC)) k2_bl))) (ss_ret se_bl) ss_next)
  (ss_seq (ss_set (SE.x (se_callT tok (sa_cons se_var (sa_cons (se_op (SE.r (se_op sr_var sr_var k2_ix)) (SE.r se_int) k2_int) sa_nil)) (mono_l_draw tok))))
  (ss_seq (ss_set (SE.x (SL.e (sl_lc (si_list se_var) (sg_name (vs := [19]) (i := 19)) (st_b (se_op (SE.r (se_op sr_var sr_var k2_ix)) sr_var k2_bl)) se_var))))
  (ss_seq (ss_set (SE.x (se_if (st_b (se_op sr_var (SE.r (SL.e (sl_lst sa_nil))) k2_neD)) (se_op sr_var (SE.r (se_neg se_int)) k2_ix) se_non)))
  (ss_seq (ss_if (st_b (se_op (SE.r (se_methN se_var (sa_cons se_var (sa_cons se_var (sa_cons se_var sa_nil))) mono_Jumps_first_with)) sr_var k2_neD)) (ss_ret se_bl) ss_next)
  (ss_seq (ss_if (st_b (se_op (SE.r (se_methKN se_var (sa_cons se_var (sa_cons (se_cb (sar_cons sr_var sar_nil) kc_tuple) (sa_cons se_var sa_nil))) mono_Jumps_first_with)) sr_var k2_neD)) (ss_ret se_bl) ss_next)
  (ss_if (st_or (st_b (se_op (SE.r (se_methKN se_var (sa_cons se_var (sa_cons se_var sa_nil)) mono_Jumps_up)) sr_var k2_neD)) (st_b (se_op sr_var sr_var k2_neD))) (ss_ret se_bl) ss_next)))))))))))))))
  (ss_ret (se_andV (se_op (SE.r (se_methKN se_var (sa_cons (se_op sr_var (SE.r se_int) k2_int) sa_nil) mono_Jumps_jump)) (SE.r (se_op sr_var (SE.r (se_neg se_int)) k2_ix)) k2_eqS) (se_callT tok (sa_cons se_var (sa_cons se_var (sa_cons se_var sa_nil))) (mono_l_ju_errors tok))))))))))))
    case h1 => 
      intro t ps Q q; unfold envA; walk_at "pl"
      show Q (D.int (((D.non :: encN ps).length : Nat) : Int))
      rw [List.length_cons, encN_len]; exact q
    case h2 =>
      intro t ps Q q; unfold envA; walk_at "pl"
      have j0 : JOk [] := ⟨fun v h0 hv => absurd hv (by show ¬ v ≤ 0; omega), by show 0 < 3000; decide⟩
      have hsl := sizeLine_eq
      have e1 : Ju.upA [] 0 0 = 0 := by
        have := Ju.upA_self (ps := []) (v := 0)
        rw [Ju.dp_zero] at this; exact this
      have e2 : Ju.steps (Ju.dp [] 0) 0 = 0 := by rw [Ju.dp_zero]; exact Ju.steps_le (Nat.le_refl 0)
      refine ⟨jNames, _, rfl, by decide, [], rfl, j0, ?_⟩
      dsimp only
      refine iteF' (by decide) ?_
      refine ⟨jNames, _, rfl, by decide, [], .int ((0 : Nat) : Int), rfl, j0, tame_int' _, .inr ⟨0, rfl, Nat.le_refl _, ?_⟩⟩
      dsimp only
      rw [Ju.Jv_zero]
      refine iteF' (by decide) ?_
      refine ⟨jNames, _, rfl, by decide, [], .int ((0 : Nat) : Int), .int ((0 : Nat) : Int), rfl, j0, tame_int' _, .inr ⟨0, rfl, Nat.le_refl _, tame_int' _, .inr ⟨0, rfl, Nat.zero_le _, ?_⟩⟩⟩
      rw [e1, e2]
      exact ⟨by omega, by decide, by decide, fun _ => q, fun h => absurd rfl h⟩
    case h3 =>
      intro t ps a3 a9 Q hl q; unfold envA; walk_at "pl"
      unfold manyD
      dsimp only
      refine ⟨⟨by omega, by omega, by omega, by omega⟩, ?_⟩
      rw [show (((ps.length + 1 : Nat) : Int) - 1).toNat = ps.length by omega]
      exact q
    case h4 =>
      intro t ps i a9 Q ok hi q; unfold envA; walk_at "pl"
      have hp := ok (i + 1) (Nat.succ_pos _) (by omega)
      unfold encP
      dsimp only
      rw [encP_at (Nat.succ_pos i) (by omega)]
      dsimp only
      rw [dL_at (ps := ps.take i) (v := par ps (i + 1)) (by rw [List.length_take]; omega)]
      dsimp only
      exact q
    case h5 =>
      intro t ps i a3 a9 Q ok hi q; unfold envA; walk_at "pl"
      unfold encP
      dsimp only
      rw [encP_at (Nat.succ_pos i) (by omega)]
      exact q
  case hc => show _ ≤ LIM; decide
  clear sm n1 n2 n3 hS h63 tt ctr
  have hsl := sizeLine_eq
  walk_at "pl"
  refine ⟨rfl, fun ps ok hl => ?_⟩
  have few : Few ps := by show _ < 3000; omega
  have J : JOk ps := ⟨ok, few⟩
  have jl : (jL ps).length = ps.length + 1 := by unfold jL; rw [List.length_map, List.length_range]
  have pP : D.pl 60 (encP ps) = true := pl_encP 59 ps
  have pJ : D.pl 60 (.lst (encN (jL ps))) = true := pl_encNl 59 _
  try dsimp only
  refine ⟨_, ps, rfl, ok, hl, fun a4 o4 => ?_⟩
  unfold envA manyD
  walk_at "pl"
  refine ⟨ps, rfl, ok, few, ?_⟩
  try dsimp only
  refine ⟨jNames, _, rfl, by decide, ps, rfl, J, ?_⟩
  try dsimp only
  refine ⟨pP, pP, fun _ => iteF' (by decide) ?_, fun z => absurd rfl z⟩
  refine ⟨jNames, _, rfl, by decide, ps, rfl, J, ?_⟩
  try dsimp only
  refine iteF' (by rw [decide_eq_true rfl]; decide) ?_
  refine ⟨⟨by omega, by omega⟩, ?_⟩
  rw [Int.toNat_natCast, rng_encN]
  refine lcP_enc (fun k : Nat => D.int (k : Int)) (fun v => D.int (Ju.Jv ps v : Int)) (List.range (ps.length + 1)) [] _ (fun v hv R hR => ?_) (by rw [List.length_range]; show 0 + _ ≤ _; omega) ?_
  · rw [List.mem_range] at hv
    walk_at "pl"
    exact ⟨jNames, _, rfl, by decide, ps, .int (v : Int), rfl, J, tame_int' _, .inr ⟨v, rfl, by omega, hR⟩⟩
  rw [List.nil_append, show (List.range (ps.length + 1)).map (fun v => D.int (Ju.Jv ps v : Int)) = encN (jL ps) from by unfold encN jL; rw [List.map_map]; rfl]
  refine ⟨pJ, pJ, fun _ => iteF' (by decide) ?_, fun z => absurd rfl z⟩
  refine ⟨ps, rfl, ok, hl, fun mk M hmk => ?_⟩
  try dsimp only
  have hml : mk.length = ps.length + 1 := M.1
  refine ⟨⟨by omega, by omega⟩, by rw [rng_length]; decide, ?_⟩
  refine loop_by (fun i e => ∃ x4 x8 x11 x12 x13 x14 x15 x16 x17 x18 x19 : Sv, e = [.un, .dat (.opq (.ref za)), .dat (encP ps), .dat (.lst (encN (dL ps))), x4, .dat (.lst (encN (jL ps))), .dat (.lst (encN mk)), .dat (.lst (encN mk)), x8, .dat (juD mg ps), .dat (.int ((ps.length + 1 : Nat) : Int)), x11, x12, x13, x14, x15, x16, x17, x18, x19]) ⟨_, _, _, _, _, _, _, _, _, _, _, rfl⟩ (fun i dd env N hi ⟨x4, x8, x11, x12, x13, x14, x15, x16, x17, x18, x19, ee⟩ hN => ?_) (fun e ⟨x4, x8, x11, x12, x13, x14, x15, x16, x17, x18, x19, ee⟩ => ?_)
  · subst ee
    walk_at "pl"
    refine draw_any (n := ps.length + 1) rfl (by omega) (by omega) fun k0 hk0 => ?_
    try dsimp only
    refine ⟨by omega, _, rfl, (fun z => nomatch z), by show 2 < _; decide, fun dv hdv => ?_⟩
    obtain ⟨v, rfl, hv⟩ : ∃ v : Nat, dv = .int (v : Int) ∧ v ≤ ps.length := by
      simp only [List.mem_cons, List.not_mem_nil, or_false] at hdv
      rcases hdv with rfl | rfl
      · exact ⟨ps.length, congrArg D.int (by omega), Nat.le_refl _⟩
      · exact ⟨k0, rfl, by omega⟩
    try dsimp only
    have hdp := Ju.dp_le ok v hv
    rw [dL_at hv]
    try dsimp only
    refine draw_any (n := Ju.dp ps v + 1) (by omega) (by omega) (by omega) fun t ht => ?_
    try dsimp only
    refine ⟨jNames, _, rfl, by decide, ps, .int (v : Int), .int (t : Int), rfl, J, tame_int' _, .inr ⟨v, rfl, hv, tame_int' _, .inr ⟨t, rfl, by omega, ?_⟩⟩⟩
    try dsimp only
    refine ⟨ps, v, t, rfl, ok, few, hv, by omega, ?_⟩
    have pF : D.pl 60 (.tup [.int (Ju.upA ps v t : Int), .int (Ju.steps (Ju.dp ps v) t : Int)]) = true := by unfold D.pl; rfl
    refine ⟨pF, pF, fun _ => iteF' (by decide) ?_, fun z => absurd rfl z⟩
    refine ⟨ps, v, rfl, ok, few, hv, ?_⟩
    refine ⟨by omega, ?_⟩
    refine lcP_flt (fun n : Nat => D.int (n : Int)) (fun s => decide (s ≤ Ju.dp ps v + 1)) (fun _ => .int 1) (pw 11 1) [] _ (fun x hx R hR => ?_) (fun x hx _ R hR => hR) (by show 0 + 11 ≤ _; omega) ?_
    · walk_at "pl"
      rw [dL_at hv]
      try dsimp only
      rw [show decide ((x : Int) ≤ (Ju.dp ps v : Int) + 1) = decide (x ≤ Ju.dp ps v + 1) from decide_eq_decide.mpr (by omega)]
      exact hR
    rw [List.nil_append]
    try dsimp only
    have hla := (Ju.anc_ok ok (Ju.dp ps v - t) v hv (Nat.sub_le _ _)).2.2
    rw [show ((Ju.dp ps v : Int) - (t : Int)) = ((Ju.dp ps v - t : Nat) : Int) by omega, encN_at hla]
    try dsimp only
    rw [atI_c0]
    try dsimp only
    refine iteF' (by rw [show decide ((Ju.anc ps (Ju.dp ps v - t) v : Int) = (Ju.upA ps v t : Int)) = true from decide_eq_true rfl]; decide) ?_
    rw [atI_c1]
    try dsimp only
    obtain ⟨KK, hK, hst⟩ := Ju.few_steps (Ju.dp ps v) t
    have hK11 : KK < 11 := by
      rcases Nat.lt_or_ge KK 11 with h | h
      · exact h
      · have := Nat.pow_le_pow_right (by decide : 0 < 2) h
        have e : (2 : Nat) ^ 11 = 2048 := rfl
        omega
    have hF := pw_cnt (Ju.dp ps v + 1) 11 1 KK (by rw [Nat.one_mul]; exact hK) hK11
    have hF2 : ((pw 11 1).filter fun s => decide (s ≤ Ju.dp ps v + 1)).length ≤ 11 := List.length_filter_le _ _
    rw [List.length_map]
    generalize ((pw 11 1).filter fun s => decide (s ≤ Ju.dp ps v + 1)).length = FG at hF hF2 ⊢
    refine ⟨by unfold CMul; omega, ?_⟩
    refine iteF' (by rw [decide_eq_false (by omega)]; decide) ?_
    have hmv : mk[v]? = some (mk.getD v 0) := by
      rw [List.getD_eq_getElem?_getD, List.getElem?_eq_getElem (by omega)]; rfl
    have gmk : ∀ w, w ≤ ps.length → atI (encN mk) (w : Int) = some (.int (mk.getD w 0 : Int)) := fun w hw => encN_at (by rw [List.getD_eq_getElem?_getD, List.getElem?_eq_getElem (by omega)]; rfl)
    have hmv9 := hmk _ (List.mem_of_getElem? hmv)
    have hs18 : ∀ x ∈ mk, x < 1000000000000000000 := fun x hx => by have := hmk x hx; omega
    rw [gmk v hv]
    try dsimp only
    refine draw_any (n := mk.getD v 0 + 2) (by omega) (by omega) (by omega) fun b hb => ?_
    try dsimp only
    have hway := way_len ok v hv
    refine lcP_flt (fun n : Nat => D.int (n : Int)) (fun w => decide (b ≤ mk.getD w 0)) (fun n : Nat => D.int (n : Int)) (way ps v) [] _ (fun x hx R hR => ?_) (fun x hx _ R hR => hR) (by show 0 + _ ≤ _; omega) ?_
    · have hxv := way_le ok v hv x hx
      walk_at "pl"
      rw [gmk x (by omega)]
      try dsimp only
      rw [show decide ((b : Int) ≤ (mk.getD x 0 : Int)) = decide (b ≤ mk.getD x 0) from decide_eq_decide.mpr (by omega)]
      exact hR
    rw [List.nil_append]
    have ef : ((way ps v).filter fun w => decide (b ≤ mk.getD w 0)).map (fun n : Nat => D.int (n : Int)) = encN ((way ps v).filter fun w => decide (b ≤ mk.getD w 0)) := rfl
    rw [ef]
    have mkC : MkC2 (.lst (encN mk)) := mkC_list (by rw [encN_len, hml]; omega) fun x hx => by
      obtain ⟨k, _, rfl⟩ := List.mem_map.mp hx
      exact ⟨_, rfl⟩
    have mkT : MkC2 (.tup (encN mk)) := ⟨tame_tup _, fun l e => by
      cases e
      refine ⟨by rw [encN_len, hml]; omega, fun y hy => ?_⟩
      obtain ⟨k, _, rfl⟩ := List.mem_map.mp hy
      exact tame_int' _⟩
    have pM : D.pl 60 (.lst (encN mk)) = true := pl_encNl 59 _
    by_cases hbv : b ≤ mk.getD v 0
    · obtain ⟨wf, hw1, hw2⟩ := last_isF ok M v hv hbv
      have hne : D.lst (encN ((way ps v).filter fun w => decide (b ≤ mk.getD w 0))) ≠ D.lst [] := fun z => by
        have z := D.lst.inj z
        rw [show ((way ps v).filter fun w => decide (b ≤ mk.getD w 0)) = [] from List.map_eq_nil_iff.mp z] at hw1
        cases hw1
      have pw1 : D.pl 60 (.int (wf : Int)) = true := by unfold D.pl; rfl
      refine ⟨by omega, pl_encNl 59 _, by unfold D.pl; rfl, fun z => absurd z hne, fun _ => iteT' (by decide) ?_⟩
      rw [atI_end hw1]
      try dsimp only
      refine ⟨jNames, _, rfl, by decide, ps, .int (v : Int), .lst (encN mk), .int (b : Int), rfl, J, tame_int' _, .inr ⟨v, rfl, hv, mkC, .inr ⟨mk, ⟨M, rfl, hs18⟩, tame_int' _, .inr ⟨b, rfl, by omega, fun z => absurd hbv (by omega), fun _ w' iw => ?_⟩⟩⟩⟩
      rw [Ju.isF_uniq ok M v hv w' wf iw hw2]
      refine ⟨pw1, pw1, fun _ => iteF' (by decide) ?_, fun z => absurd rfl z⟩
      refine ⟨jNames, _, rfl, by decide, ps, .int (v : Int), .tup (encN mk), .int (b : Int), rfl, J, tame_int' _, .inr ⟨v, rfl, hv, mkT, .inr ⟨mk, ⟨M, rfl, hs18⟩, tame_int' _, .inr ⟨b, rfl, by omega, fun z => absurd hbv (by omega), fun _ w2 iw2 => ?_⟩⟩⟩⟩
      rw [Ju.isF_uniq ok M v hv w2 wf iw2 hw2]
      refine ⟨pw1, pw1, fun _ => iteF' (by decide) ?_, fun z => absurd rfl z⟩
      refine ⟨jNames, _, rfl, by decide, ps, .int (v : Int), .int (t : Int), rfl, J, tame_int' _, .inr ⟨v, rfl, hv, tame_int' _, .inr ⟨t, rfl, by omega, ?_⟩⟩⟩
      try dsimp only
      refine ⟨pF, pF, fun _ => iteF' (by decide) ?_, fun z => absurd rfl z⟩
      exact ⟨pM, pM, fun _ => iteF' (by decide) (hN _ ⟨_, _, _, _, _, _, _, _, _, _, _, rfl⟩), fun z => absurd rfl z⟩
    · have en := none_isF ok M hv (by omega : mk.getD v 0 < b)
      rw [en]
      have pN : D.pl 60 D.non = true := by unfold D.pl; rfl
      refine ⟨by omega, pl_encNl 59 _, by unfold D.pl; rfl, fun _ => iteF' (by decide) ?_, fun z => absurd rfl z⟩
      try dsimp only
      refine ⟨jNames, _, rfl, by decide, ps, .int (v : Int), .lst (encN mk), .int (b : Int), rfl, J, tame_int' _, .inr ⟨v, rfl, hv, mkC, .inr ⟨mk, ⟨M, rfl, hs18⟩, tame_int' _, .inr ⟨b, rfl, by omega, fun _ => ?_, fun z => absurd z hbv⟩⟩⟩⟩
      refine ⟨pN, pN, fun _ => iteF' (by decide) ?_, fun z => absurd rfl z⟩
      refine ⟨jNames, _, rfl, by decide, ps, .int (v : Int), .tup (encN mk), .int (b : Int), rfl, J, tame_int' _, .inr ⟨v, rfl, hv, mkT, .inr ⟨mk, ⟨M, rfl, hs18⟩, tame_int' _, .inr ⟨b, rfl, by omega, fun _ => ?_, fun z => absurd z hbv⟩⟩⟩⟩
      refine ⟨pN, pN, fun _ => iteF' (by decide) ?_, fun z => absurd rfl z⟩
      refine ⟨jNames, _, rfl, by decide, ps, .int (v : Int), .int (t : Int), rfl, J, tame_int' _, .inr ⟨v, rfl, hv, tame_int' _, .inr ⟨t, rfl, by omega, ?_⟩⟩⟩
      try dsimp only
      refine ⟨pF, pF, fun _ => iteF' (by decide) ?_, fun z => absurd rfl z⟩
      exact ⟨pM, pM, fun _ => iteF' (by decide) (hN _ ⟨_, _, _, _, _, _, _, _, _, _, _, rfl⟩), fun z => absurd rfl z⟩
  · subst ee
    walk_at "pl"
    have hlast : (jL ps).getLast? = some (Ju.Jv ps ps.length) := by
      rw [List.getLast?_eq_getElem?, jl, Nat.add_sub_cancel]
      unfold jL
      rw [List.getElem?_map, List.getElem?_range (by omega)]; rfl
    refine ⟨jNames, _, rfl, by decide, ps, .int ((ps.length : Nat) : Int), ?_, J, tame_int' _, .inr ⟨ps.length, rfl, Nat.le_refl _, ?_⟩⟩
    · show [juD mg ps, D.int (((ps.length + 1 : Nat) : Int) - 1)] = _
      rw [show ((ps.length + 1 : Nat) : Int) - 1 = (ps.length : Int) by omega]
    rw [atI_end hlast]
    try dsimp only
    exact iteT' (decide_eq_true rfl) ⟨ps, mk, rfl, J, hl, M, hmk, rfl⟩

end
end W
end Law


namespace Law
open PySem PySem.Spec PyProof.Rows L2 PL
theorem _root_.PL.Pr.up {P : Program} {w : World} {K : PySem.W.Frag} {mg : Str → Option Value} {base : Heap} {x : Str} {j k : Nat} {ps : List Str} {sp : Sp} (h : Pr P w K mg base x j ps sp) (hk : j ≤ k) : Pr P w K mg base x k ps sp := by
  obtain ⟨f, fd, h1, h2, h3, h4⟩ := h.ex
  exact ⟨⟨f, fd, h1.mono hk, h2, h3, h4⟩⟩
theorem _root_.PL.PrK.up {P : Program} {w : World} {K : PySem.W.Frag} {mg : Str → Option Value} {base : Heap} {x : Str} {j k : Nat} {ps : List Str} {sp : Sp} (h : PrK P w K mg base x j ps sp) (hk : j ≤ k) : PrK P w K mg base x k ps sp := by
  obtain ⟨f, fd, h1, h2, h3, h4⟩ := h.ex
  exact ⟨⟨f, fd, h1.mono hk, h2, h3, h4⟩⟩
theorem _root_.PL.PrX.up {P : Program} {w : World} {K : PySem.W.Frag} {mg : Str → Option Value} {base : Heap} {x : Str} {j k : Nat} {ps : List Str} {sp : Sp} (h : PrX P w K mg base x j ps sp) (hk : j ≤ k) : PrX P w K mg base x k ps sp := by
  obtain ⟨f, fd, h1, h2, h3, h4, h5⟩ := h.ex
  exact ⟨⟨f, fd, h1.mono hk, h2, h3, h4, h5⟩⟩
theorem _root_.PL.MtP.up {P : Program} {w : World} {K : PySem.W.Frag} {mg : Str → Option Value} {base : Heap} {C : Addr} {x : Str} {j k : Nat} {ps : List Str} {sp : Sp} (h : MtP P w K mg base C x j ps sp) (hk : j ≤ k) : MtP P w K mg base C x k ps sp := by
  obtain ⟨f, fd, h1, h2, h3⟩ := h.ex
  exact ⟨⟨f, fd, h1.mono hk, h2, h3⟩⟩
theorem _root_.PL.MtX.up {P : Program} {w : World} {K : PySem.W.Frag} {mg : Str → Option Value} {base : Heap} {C : Addr} {x : Str} {j k : Nat} {ps : List Str} {sp : Sp} (h : MtX P w K mg base C x j ps sp) (hk : j ≤ k) : MtX P w K mg base C x k ps sp := by
  obtain ⟨f, fd, h1, h2, h3⟩ := h.ex
  exact ⟨⟨f, fd, h1.mono hk, h2, h3⟩⟩
theorem MkO.up {P : Program} {w : World} {K : PySem.W.Frag} {mg : Str → Option Value} {base : Heap} {x : Str} {j k : Nat} {ps : List Str} {sp : Sp} (h : W.MkO P w K mg base x j ps sp) (hk : j ≤ k) : W.MkO P w K mg base x k ps sp := by
  obtain ⟨f, fd, h1, h2, h3⟩ := h.ex
  exact ⟨⟨f, fd, h1.mono hk, h2, h3⟩⟩
theorem _root_.PL.MtXM.up {P : Program} {w : World} {K : PySem.W.Frag} {mg : Str → Option Value} {base : Heap} {C : Addr} {x : Str} {j k : Nat} {ps ks : List Str} {ix : List Nat} {sp : Sp} (h : MtXM P w K mg base C x j ps ks ix sp) (hk : j ≤ k) : MtXM P w K mg base C x k ps ks ix sp := by
  obtain ⟨f, fd, h1, h2, h3⟩ := h.ex
  exact ⟨⟨f, fd, h1.mono hk, h2, h3⟩⟩
def tabOf (K : PySem.W.Frag) (c : Addr) : Addr := match K.lookup c with
  | some ⟨_, _, .fields vs, _⟩ => (match (vs[11]? : Option Value) with | some (.ref P) => P | _ => 0)
  | _ => 0
theorem all_mk {l : PySem.W.OpenLaw} {w : World} {K : PySem.W.Frag} {h : Heap} {mg : Str → Option Value} {fa f0 f1 f2 f3 f4 f5 f6 f7 f8 f9 f10 f11 f12 f13 f14 f15 f16 f17 f18 f19 f20 f21 f22 f23 f24 f25 f26 f27 : Addr} {od0 an0 od1 an1 od2 an2 od3 an3 od4 an4 od5 an5 od6 an6 od7 an7 od8 an8 od9 an9 od10 an10 od11 an11 od12 an12 od13 an13 od14 an14 od15 an15 od16 an16 od17 an17 od18 an18 od19 an19 od20 an20 od21 an21 od22 an22 od23 an23 od24 an24 od25 an25 od26 an26 od27 an27 : Option Addr} {sl0 sl1 sl2 sl3 sl4 sl5 sl6 sl7 sl8 sl9 sl10 sl11 sl12 sl13 sl14 sl15 sl16 sl17 sl18 sl19 sl20 sl21 sl22 sl23 sl24 sl25 sl26 sl27 : Array (Option Value)} {oc0 kV0 dc0 pm0 ct0 cd0 oc1 kV1 dc1 pm1 ct1 cd1 oc2 kV2 dc2 pm2 ct2 cd2 oc3 kV3 dc3 pm3 ct3 cd3 oc4 kV4 dc4 pm4 ct4 cd4 oc5 kV5 dc5 pm5 ct5 cd5 oc6 kV6 dc6 pm6 ct6 cd6 oc7 kV7 dc7 pm7 ct7 cd7 oc8 kV8 dc8 pm8 ct8 cd8 oc9 kV9 dc9 pm9 ct9 cd9 oc10 kV10 dc10 pm10 ct10 cd10 oc11 kV11 dc11 pm11 ct11 cd11 oc12 kV12 dc12 pm12 ct12 cd12 oc13 kV13 dc13 pm13 ct13 cd13 oc14 kV14 dc14 pm14 ct14 cd14 oc15 kV15 dc15 pm15 ct15 cd15 oc16 kV16 dc16 pm16 ct16 cd16 oc17 kV17 dc17 pm17 ct17 cd17 oc18 kV18 dc18 pm18 ct18 cd18 oc19 kV19 dc19 pm19 ct19 cd19 oc20 kV20 dc20 pm20 ct20 cd20 oc21 kV21 dc21 pm21 ct21 cd21 oc22 kV22 dc22 pm22 ct22 cd22 oc23 kV23 dc23 pm23 ct23 cd23 oc24 kV24 dc24 pm24 ct24 cd24 oc25 kV25 dc25 pm25 ct25 cd25 oc26 kV26 dc26 pm26 ct26 oc27 kV27 dc27 pm27 ct27 : Value} {KC_Jumps : Addr} {tk_TOO_GREAT : Tok} {CE C_BadVersion C_BadDepth C_BadMarks C_BadLeast : Addr} {cL cN_l_ju_errors : Addr} {ts : List Addr} (X : K.In h) (G : h.Ns mainGlobals mg) (hfa : mg "law" = some (.ref fa)) (hT : ∀ P ∈ ts, h.get? P = some (PySem.W.tabObj #[]))
    (cg_Jumps : PySem.W.nsIn K mainGlobals "Jumps" = some (some (.ref KC_Jumps)))
    (cp_Jumps : PySem.W.plainGet K KC_Jumps Str.empty = true)
    (ch_Jumps : PySem.W.hasDictIn K KC_Jumps = true)
    (co_Jumps : PySem.W.plainOver K KC_Jumps = true)
    (cs_Jumps : PySem.W.findIn K (.ref KC_Jumps) "__setattr__" = some (some (.builtin "object.__setattr__")))
    (cm_Jumps : PySem.W.makesIn K KC_Jumps = true)
    (ck_Jumps : PySem.W.keepIn K (.ref KC_Jumps) = true)
    (cn_Jumps__elders : PySem.W.findIn K (.ref KC_Jumps) "_elders" = some none)
    (cn_Jumps__jumps : PySem.W.findIn K (.ref KC_Jumps) "_jumps" = some none)
    (cn_Jumps__depths : PySem.W.findIn K (.ref KC_Jumps) "_depths" = some none)
    (a0 : PySem.W.nsIn K mainGlobals "_law_caught" = some (some (.ref f0)))
    (l0 : K.lookup f0 = some ⟨oc0, od0, .func (PySem.W.fnOf "_law_caught" "_law_caught" (defArgs s_l_caught) (defBody s_l_caught) (defScope s_l_caught) .none kV0 dc0 pm0 an0 cd0 ct0), sl0⟩)
    (c0 : PySem.W.codeIn K cd0 "_law_caught" = true)
    (k0 : PySem.W.keepIn K (.ref f0) = true)
    (a1 : PySem.W.nsIn K mainGlobals "is_number" = some (some (.ref f1)))
    (l1 : K.lookup f1 = some ⟨oc1, od1, .func (PySem.W.fnOf "is_number" "is_number" (defArgs s_is_number) (defBody s_is_number) (defScope s_is_number) .none kV1 dc1 pm1 an1 cd1 ct1), sl1⟩)
    (c1 : PySem.W.codeIn K cd1 "is_number" = true)
    (k1 : PySem.W.keepIn K (.ref f1) = true)
    (a2 : PySem.W.nsIn K mainGlobals "is_from" = some (some (.ref f2)))
    (l2 : K.lookup f2 = some ⟨oc2, od2, .func (PySem.W.fnOf "is_from" "is_from" (defArgs s_is_from) (defBody s_is_from) (defScope s_is_from) .none kV2 dc2 pm2 an2 cd2 ct2), sl2⟩)
    (c2 : PySem.W.codeIn K cd2 "is_from" = true)
    (k2 : PySem.W.keepIn K (.ref f2) = true)
    (a3 : PySem.W.nsIn K mainGlobals "is_between" = some (some (.ref f3)))
    (l3 : K.lookup f3 = some ⟨oc3, od3, .func (PySem.W.fnOf "is_between" "is_between" (defArgs s_is_between) (defBody s_is_between) (defScope s_is_between) .none kV3 dc3 pm3 an3 cd3 ct3), sl3⟩)
    (c3 : PySem.W.codeIn K cd3 "is_between" = true)
    (k3 : PySem.W.keepIn K (.ref f3) = true)
    (a4 : PySem.W.nsIn K mainGlobals "is_list" = some (some (.ref f4)))
    (l4 : K.lookup f4 = some ⟨oc4, od4, .func (PySem.W.fnOf "is_list" "is_list" (defArgs s_is_list) (defBody s_is_list) (defScope s_is_list) .none kV4 dc4 pm4 an4 cd4 ct4), sl4⟩)
    (c4 : PySem.W.codeIn K cd4 "is_list" = true)
    (k4 : PySem.W.keepIn K (.ref f4) = true)
    (a5 : PySem.W.nsIn K mainGlobals "check_version" = some (some (.ref f5)))
    (l5 : K.lookup f5 = some ⟨oc5, od5, .func (PySem.W.fnOf "check_version" "check_version" (defArgs s_check_version) (defBody s_check_version) (defScope s_check_version) .none kV5 dc5 pm5 an5 cd5 ct5), sl5⟩)
    (c5 : PySem.W.codeIn K cd5 "check_version" = true)
    (k5 : PySem.W.keepIn K (.ref f5) = true)
    (a6 : PySem.W.findIn K (.ref KC_Jumps) "__init__" = some (some (.ref f6)))
    (i6 : PySem.W.isFn K (.ref f6) = true)
    (l6 : K.lookup f6 = some ⟨oc6, od6, .func (PySem.W.fnOf "__init__" "Jumps.__init__" (defArgs s_Jumps___init__) (defBody s_Jumps___init__) (defScope s_Jumps___init__) .none kV6 dc6 pm6 an6 cd6 ct6), sl6⟩)
    (c6 : PySem.W.codeIn K cd6 "Jumps.__init__" = true)
    (k6 : PySem.W.keepIn K (.ref f6) = true)
    (a7 : PySem.W.findIn K (.ref KC_Jumps) "_check" = some (some (.ref f7)))
    (i7 : PySem.W.isFn K (.ref f7) = true)
    (l7 : K.lookup f7 = some ⟨oc7, od7, .func (PySem.W.fnOf "_check" "Jumps._check" (defArgs s_Jumps__check) (defBody s_Jumps__check) (defScope s_Jumps__check) .none kV7 dc7 pm7 an7 cd7 ct7), sl7⟩)
    (c7 : PySem.W.codeIn K cd7 "Jumps._check" = true)
    (k7 : PySem.W.keepIn K (.ref f7) = true)
    (a8 : PySem.W.findIn K (.ref KC_Jumps) "grow" = some (some (.ref f8)))
    (i8 : PySem.W.isFn K (.ref f8) = true)
    (l8 : K.lookup f8 = some ⟨oc8, od8, .func (PySem.W.fnOf "grow" "Jumps.grow" (defArgs s_Jumps_grow) (defBody s_Jumps_grow) (defScope s_Jumps_grow) .none kV8 dc8 pm8 an8 cd8 ct8), sl8⟩)
    (c8 : PySem.W.codeIn K cd8 "Jumps.grow" = true)
    (k8 : PySem.W.keepIn K (.ref f8) = true)
    (a9 : PySem.W.findIn K (.ref KC_Jumps) "many" = some (some (.ref f9)))
    (i9 : PySem.W.isFn K (.ref f9) = true)
    (l9 : K.lookup f9 = some ⟨oc9, od9, .func (PySem.W.fnOf "many" "Jumps.many" (defArgs s_Jumps_many) (defBody s_Jumps_many) (defScope s_Jumps_many) .none kV9 dc9 pm9 an9 cd9 ct9), sl9⟩)
    (c9 : PySem.W.codeIn K cd9 "Jumps.many" = true)
    (k9 : PySem.W.keepIn K (.ref f9) = true)
    (a10 : PySem.W.findIn K (.ref KC_Jumps) "parents" = some (some (.ref f10)))
    (i10 : PySem.W.isFn K (.ref f10) = true)
    (l10 : K.lookup f10 = some ⟨oc10, od10, .func (PySem.W.fnOf "parents" "Jumps.parents" (defArgs s_Jumps_parents) (defBody s_Jumps_parents) (defScope s_Jumps_parents) .none kV10 dc10 pm10 an10 cd10 ct10), sl10⟩)
    (c10 : PySem.W.codeIn K cd10 "Jumps.parents" = true)
    (k10 : PySem.W.keepIn K (.ref f10) = true)
    (a11 : PySem.W.findIn K (.ref KC_Jumps) "jump" = some (some (.ref f11)))
    (i11 : PySem.W.isFn K (.ref f11) = true)
    (l11 : K.lookup f11 = some ⟨oc11, od11, .func (PySem.W.fnOf "jump" "Jumps.jump" (defArgs s_Jumps_jump) (defBody s_Jumps_jump) (defScope s_Jumps_jump) .none kV11 dc11 pm11 an11 cd11 ct11), sl11⟩)
    (c11 : PySem.W.codeIn K cd11 "Jumps.jump" = true)
    (k11 : PySem.W.keepIn K (.ref f11) = true)
    (a12 : PySem.W.findIn K (.ref KC_Jumps) "up" = some (some (.ref f12)))
    (i12 : PySem.W.isFn K (.ref f12) = true)
    (l12 : K.lookup f12 = some ⟨oc12, od12, .func (PySem.W.fnOf "up" "Jumps.up" (defArgs s_Jumps_up) (defBody s_Jumps_up) (defScope s_Jumps_up) .none kV12 dc12 pm12 an12 cd12 ct12), sl12⟩)
    (c12 : PySem.W.codeIn K cd12 "Jumps.up" = true)
    (k12 : PySem.W.keepIn K (.ref f12) = true)
    (a13 : PySem.W.findIn K (.ref KC_Jumps) "first_with" = some (some (.ref f13)))
    (i13 : PySem.W.isFn K (.ref f13) = true)
    (l13 : K.lookup f13 = some ⟨oc13, od13, .func (PySem.W.fnOf "first_with" "Jumps.first_with" (defArgs s_Jumps_first_with) (defBody s_Jumps_first_with) (defScope s_Jumps_first_with) .none kV13 dc13 pm13 an13 cd13 ct13), sl13⟩)
    (c13 : PySem.W.codeIn K cd13 "Jumps.first_with" = true)
    (k13 : PySem.W.keepIn K (.ref f13) = true)
    (a14 : PySem.W.findIn K (.ref KC_Jumps) "_are_marks" = some (some (.ref f14)))
    (i14 : PySem.W.isFn K (.ref f14) = true)
    (l14 : K.lookup f14 = some ⟨oc14, od14, .func (PySem.W.fnOf "_are_marks" "Jumps._are_marks" (defArgs s_Jumps__are_marks) (defBody s_Jumps__are_marks) (defScope s_Jumps__are_marks) .none kV14 dc14 pm14 an14 cd14 ct14), sl14⟩)
    (c14 : PySem.W.codeIn K cd14 "Jumps._are_marks" = true)
    (k14 : PySem.W.keepIn K (.ref f14) = true)
    (a15 : PySem.W.nsIn K mainGlobals "_law_begun" = some (some (.ref f15)))
    (l15 : K.lookup f15 = some ⟨oc15, od15, .func (PySem.W.fnOf "_law_begun" "_law_begun" (defArgs s_l_begun) (defBody s_l_begun) (defScope s_l_begun) .none kV15 dc15 pm15 an15 cd15 ct15), sl15⟩)
    (c15 : PySem.W.codeIn K cd15 "_law_begun" = true)
    (k15 : PySem.W.keepIn K (.ref f15) = true)
    (a16 : PySem.W.nsIn K mainGlobals "_law_blended" = some (some (.ref f16)))
    (l16 : K.lookup f16 = some ⟨oc16, od16, .func (PySem.W.fnOf "_law_blended" "_law_blended" (defArgs s_l_blended) (defBody s_l_blended) (defScope s_l_blended) .none kV16 dc16 pm16 an16 cd16 ct16), sl16⟩)
    (c16 : PySem.W.codeIn K cd16 "_law_blended" = true)
    (k16 : PySem.W.keepIn K (.ref f16) = true)
    (a17 : PySem.W.nsIn K mainGlobals "_law_draw" = some (some (.ref f17)))
    (l17 : K.lookup f17 = some ⟨oc17, od17, .func (PySem.W.fnOf "_law_draw" "_law_draw" (defArgs s_l_draw) (defBody s_l_draw) (defScope s_l_draw) .none kV17 dc17 pm17 an17 cd17 ct17), sl17⟩)
    (c17 : PySem.W.codeIn K cd17 "_law_draw" = true)
    (k17 : PySem.W.keepIn K (.ref f17) = true)
    (a18 : PySem.W.nsIn K mainGlobals "_law_pick" = some (some (.ref f18)))
    (l18 : K.lookup f18 = some ⟨oc18, od18, .func (PySem.W.fnOf "_law_pick" "_law_pick" (defArgs s_l_pick) (defBody s_l_pick) (defScope s_l_pick) .none kV18 dc18 pm18 an18 cd18 ct18), sl18⟩)
    (c18 : PySem.W.codeIn K cd18 "_law_pick" = true)
    (k18 : PySem.W.keepIn K (.ref f18) = true)
    (a19 : PySem.W.nsIn K mainGlobals "_law_ti_parents" = some (some (.ref f19)))
    (l19 : K.lookup f19 = some ⟨oc19, od19, .func (PySem.W.fnOf "_law_ti_parents" "_law_ti_parents" (defArgs s_l_ti_parents) (defBody s_l_ti_parents) (defScope s_l_ti_parents) .none kV19 dc19 pm19 an19 cd19 ct19), sl19⟩)
    (c19 : PySem.W.codeIn K cd19 "_law_ti_parents" = true)
    (k19 : PySem.W.keepIn K (.ref f19) = true)
    (a20 : PySem.W.nsIn K mainGlobals "_law_ti_up" = some (some (.ref f20)))
    (l20 : K.lookup f20 = some ⟨oc20, od20, .func (PySem.W.fnOf "_law_ti_up" "_law_ti_up" (defArgs s_l_ti_up) (defBody s_l_ti_up) (defScope s_l_ti_up) .none kV20 dc20 pm20 an20 cd20 ct20), sl20⟩)
    (c20 : PySem.W.codeIn K cd20 "_law_ti_up" = true)
    (k20 : PySem.W.keepIn K (.ref f20) = true)
    (a21 : PySem.W.nsIn K mainGlobals "_law_ti_odd_version" = some (some (.ref f21)))
    (l21 : K.lookup f21 = some ⟨oc21, od21, .func (PySem.W.fnOf "_law_ti_odd_version" "_law_ti_odd_version" (defArgs s_l_ti_odd_version) (defBody s_l_ti_odd_version) (defScope s_l_ti_odd_version) .none kV21 dc21 pm21 an21 cd21 ct21), sl21⟩)
    (c21 : PySem.W.codeIn K cd21 "_law_ti_odd_version" = true)
    (k21 : PySem.W.keepIn K (.ref f21) = true)
    (a22 : PySem.W.nsIn K mainGlobals "_law_ju_tree" = some (some (.ref f22)))
    (l22 : K.lookup f22 = some ⟨oc22, od22, .func (PySem.W.fnOf "_law_ju_tree" "_law_ju_tree" (defArgs s_l_ju_tree) (defBody s_l_ju_tree) (defScope s_l_ju_tree) .none kV22 dc22 pm22 an22 cd22 ct22), sl22⟩)
    (c22 : PySem.W.codeIn K cd22 "_law_ju_tree" = true)
    (k22 : PySem.W.keepIn K (.ref f22) = true)
    (a23 : PySem.W.nsIn K mainGlobals "_law_ju_jumps" = some (some (.ref f23)))
    (l23 : K.lookup f23 = some ⟨oc23, od23, .func (PySem.W.fnOf "_law_ju_jumps" "_law_ju_jumps" (defArgs s_l_ju_jumps) (defBody s_l_ju_jumps) (defScope s_l_ju_jumps) .none kV23 dc23 pm23 an23 cd23 ct23), sl23⟩)
    (c23 : PySem.W.codeIn K cd23 "_law_ju_jumps" = true)
    (k23 : PySem.W.keepIn K (.ref f23) = true)
    (a24 : PySem.W.nsIn K mainGlobals "_law_ju_steps" = some (some (.ref f24)))
    (l24 : K.lookup f24 = some ⟨oc24, od24, .func (PySem.W.fnOf "_law_ju_steps" "_law_ju_steps" (defArgs s_l_ju_steps) (defBody s_l_ju_steps) (defScope s_l_ju_steps) .none kV24 dc24 pm24 an24 cd24 ct24), sl24⟩)
    (c24 : PySem.W.codeIn K cd24 "_law_ju_steps" = true)
    (k24 : PySem.W.keepIn K (.ref f24) = true)
    (a25 : PySem.W.nsIn K mainGlobals "_law_ju_marks" = some (some (.ref f25)))
    (l25 : K.lookup f25 = some ⟨oc25, od25, .func (PySem.W.fnOf "_law_ju_marks" "_law_ju_marks" (defArgs s_l_ju_marks) (defBody s_l_ju_marks) (defScope s_l_ju_marks) .none kV25 dc25 pm25 an25 cd25 ct25), sl25⟩)
    (c25 : PySem.W.codeIn K cd25 "_law_ju_marks" = true)
    (k25 : PySem.W.keepIn K (.ref f25) = true)
    (a26 : PySem.W.nsIn K mainGlobals "_law_ju_errors" = some (some (.ref f26)))
    (l26 : K.lookup f26 = some ⟨oc26, od26, .func (PySem.W.fnOf "_law_ju_errors" "_law_ju_errors" (defArgs s_l_ju_errors) (defBody s_l_ju_errors) (defScope s_l_ju_errors) .none kV26 dc26 pm26 an26 (.ref cN_l_ju_errors) ct26), sl26⟩)
    (c26 : PySem.W.codeIn K (.ref cN_l_ju_errors) "_law_ju_errors" = true)
    (k26 : PySem.W.keepIn K (.ref f26) = true)
    (a27 : PySem.W.nsIn K mainGlobals "law" = some (some (.ref f27)))
    (l27 : K.lookup f27 = some ⟨oc27, od27, .func (PySem.W.fnOf "law" "law" (defArgs s_law) (defBody s_law) (defScope s_law) .none kV27 dc27 pm27 an27 (.ref cL) ct27), sl27⟩)
    (c27 : PySem.W.codeIn K (.ref cL) "law" = true)
    (k27 : PySem.W.keepIn K (.ref f27) = true)
    (z0 : PySem.W.nsIn K mainGlobals "max" = some none)
    (z1 : PySem.W.nsIn K mainGlobals "int" = some none)
    (z2 : PySem.W.nsIn K mainGlobals "len" = some none)
    (z3 : PySem.W.nsIn K mainGlobals "abs" = some none)
    (z4 : PySem.W.nsIn K mainGlobals "isinstance" = some none)
    (z5 : PySem.W.nsIn K mainGlobals "tuple" = some none)
    (z6 : PySem.W.nsIn K mainGlobals "list" = some none)
    (z7 : PySem.W.nsIn K mainGlobals "range" = some none)
    (z8 : PySem.W.nsIn K mainGlobals "min" = some none)
    (z9 : PySem.W.nsIn K mainGlobals "all" = some none)
    (z10 : PySem.W.nsIn K mainGlobals "sorted" = some none)
    (z11 : PySem.W.nsIn K mainGlobals "bool" = some none)
    (z12 : PySem.W.nsIn K mainGlobals "enumerate" = some none)
    (z13 : PySem.W.nsIn K mainGlobals "reversed" = some none)
    (z14 : PySem.W.nsIn K mainGlobals "zip" = some none)
    (z15 : PySem.W.nsIn K mainGlobals "str" = some none)
    (t_TOO_GREAT : PySem.W.nsIn K mainGlobals "TOO_GREAT" = some (some (.int 1000000000000000000 tk_TOO_GREAT)))
    (e_g : PySem.W.nsIn K mainGlobals "CopyError" = some (some (.ref CE)))
    (e_b : PySem.W.subIn K (.ref CE) (.type "BaseException") = some true)
    (e_d : PySem.W.hasDictIn K CE = true)
    (e_t : PySem.W.typeIn K (.ref CE) = some (.type "type"))
    (x_cn : PySem.W.specialIn K (.builtin "object.__class__") "__get__" = some (some (.builtin "getset_descriptor.__get__")))
    (x_ct : PySem.W.takesIn K (.builtin "object.__class__") = some true)
    (g_BadVersion : PySem.W.nsIn K mainGlobals "BadVersion" = some (some (.ref C_BadVersion)))
    (k_BadVersion : PySem.W.keepIn K (.ref C_BadVersion) = true)
    (y_BadVersion : PySem.W.typeIn K (.ref C_BadVersion) = some (.type "type"))
    (b_BadVersion : PySem.W.subIn K (.ref C_BadVersion) (.type "BaseException") = some true)
    (s_BadVersion : PySem.W.subIn K (.ref C_BadVersion) (.ref CE) = some true)
    (i_BadVersion : PySem.W.isClsIn K C_BadVersion = true)
    (ga_BadVersion : PySem.W.findIn K (.ref C_BadVersion) "__getattribute__" = some (some (.builtin "BaseException.__getattribute__")))
    (gg_BadVersion : PySem.W.findIn K (.ref C_BadVersion) "__getattr__" = some none)
    (ca_BadVersion : PySem.W.findIn K (.ref C_BadVersion) "__class__" = some (some (.builtin "object.__class__")))
    (cm_BadVersion : PySem.W.mroIn K C_BadVersion (.type "object") = some true)
    (x_BadVersion : PySem.W.excIn K C_BadVersion [.type "ValueError", .type "Exception", .type "BaseException", .type "object"] "ValueError.__new__" = true)
    (g_BadDepth : PySem.W.nsIn K mainGlobals "BadDepth" = some (some (.ref C_BadDepth)))
    (k_BadDepth : PySem.W.keepIn K (.ref C_BadDepth) = true)
    (y_BadDepth : PySem.W.typeIn K (.ref C_BadDepth) = some (.type "type"))
    (b_BadDepth : PySem.W.subIn K (.ref C_BadDepth) (.type "BaseException") = some true)
    (s_BadDepth : PySem.W.subIn K (.ref C_BadDepth) (.ref CE) = some true)
    (i_BadDepth : PySem.W.isClsIn K C_BadDepth = true)
    (ga_BadDepth : PySem.W.findIn K (.ref C_BadDepth) "__getattribute__" = some (some (.builtin "BaseException.__getattribute__")))
    (gg_BadDepth : PySem.W.findIn K (.ref C_BadDepth) "__getattr__" = some none)
    (ca_BadDepth : PySem.W.findIn K (.ref C_BadDepth) "__class__" = some (some (.builtin "object.__class__")))
    (cm_BadDepth : PySem.W.mroIn K C_BadDepth (.type "object") = some true)
    (x_BadDepth : PySem.W.excIn K C_BadDepth [.type "ValueError", .type "Exception", .type "BaseException", .type "object"] "ValueError.__new__" = true)
    (g_BadMarks : PySem.W.nsIn K mainGlobals "BadMarks" = some (some (.ref C_BadMarks)))
    (k_BadMarks : PySem.W.keepIn K (.ref C_BadMarks) = true)
    (y_BadMarks : PySem.W.typeIn K (.ref C_BadMarks) = some (.type "type"))
    (b_BadMarks : PySem.W.subIn K (.ref C_BadMarks) (.type "BaseException") = some true)
    (s_BadMarks : PySem.W.subIn K (.ref C_BadMarks) (.ref CE) = some true)
    (i_BadMarks : PySem.W.isClsIn K C_BadMarks = true)
    (ga_BadMarks : PySem.W.findIn K (.ref C_BadMarks) "__getattribute__" = some (some (.builtin "BaseException.__getattribute__")))
    (gg_BadMarks : PySem.W.findIn K (.ref C_BadMarks) "__getattr__" = some none)
    (ca_BadMarks : PySem.W.findIn K (.ref C_BadMarks) "__class__" = some (some (.builtin "object.__class__")))
    (cm_BadMarks : PySem.W.mroIn K C_BadMarks (.type "object") = some true)
    (x_BadMarks : PySem.W.excIn K C_BadMarks [.type "ValueError", .type "Exception", .type "BaseException", .type "object"] "ValueError.__new__" = true)
    (g_BadLeast : PySem.W.nsIn K mainGlobals "BadLeast" = some (some (.ref C_BadLeast)))
    (k_BadLeast : PySem.W.keepIn K (.ref C_BadLeast) = true)
    (y_BadLeast : PySem.W.typeIn K (.ref C_BadLeast) = some (.type "type"))
    (b_BadLeast : PySem.W.subIn K (.ref C_BadLeast) (.type "BaseException") = some true)
    (s_BadLeast : PySem.W.subIn K (.ref C_BadLeast) (.ref CE) = some true)
    (i_BadLeast : PySem.W.isClsIn K C_BadLeast = true)
    (ga_BadLeast : PySem.W.findIn K (.ref C_BadLeast) "__getattribute__" = some (some (.builtin "BaseException.__getattribute__")))
    (gg_BadLeast : PySem.W.findIn K (.ref C_BadLeast) "__getattr__" = some none)
    (ca_BadLeast : PySem.W.findIn K (.ref C_BadLeast) "__class__" = some (some (.builtin "object.__class__")))
    (cm_BadLeast : PySem.W.mroIn K C_BadLeast (.type "object") = some true)
    (x_BadLeast : PySem.W.excIn K C_BadLeast [.type "ValueError", .type "Exception", .type "BaseException", .type "object"] "ValueError.__new__" = true)
    (th_l_ju_errors : PySem.W.codeHdIn K cN_l_ju_errors (tabOf K cN_l_ju_errors) = true)
    (tm_l_ju_errors : ts.contains (tabOf K cN_l_ju_errors) = true)
    (tn_l_ju_errors : (K.lookup (tabOf K cN_l_ju_errors)).isNone = true) :
    LamX.LawAtS l w K CX0 11 63 "script" mg fa h := by
  have e := hfa.symm.trans (PySem.W.mg_of X G a27)
  cases e
  have T : Bt mg := ⟨PySem.W.mg_none_of X G z1, PySem.W.mg_none_of X G z2, PySem.W.mg_none_of X G z3, PySem.W.mg_none_of X G z4, PySem.W.mg_none_of X G z5, PySem.W.mg_none_of X G z6, PySem.W.mg_none_of X G z7, PySem.W.mg_none_of X G z8, PySem.W.mg_none_of X G z9, PySem.W.mg_none_of X G z10, PySem.W.mg_none_of X G z11, PySem.W.mg_none_of X G z12, PySem.W.mg_none_of X G z13, PySem.W.mg_none_of X G z14, PySem.W.mg_none_of X G z15⟩
  have TC_TOO_GREAT : Gc mg "TOO_GREAT" 1000000000000000000 := ⟨_, PySem.W.mg_of X G t_TOO_GREAT⟩
  have nT_l_ju_errors := Option.isNone_iff_eq_none.mp tn_l_ju_errors
  have mT_l_ju_errors : tabOf K cN_l_ju_errors ∈ ts := List.contains_iff_mem.mp tm_l_ju_errors
  refine ⟨PySem.W.fnOf "law" "law" (defArgs s_law) (defBody s_law) (defScope s_law) .none kV27 dc27 pm27 an27 (.ref cL) ct27, [(cN_l_ju_errors, tabOf K cN_l_ju_errors)], spLawT K [tabOf K cN_l_ju_errors], fun p hp => ?_, fun p hp => ?_, fun p hp => ?_, fun s v => .of_eq rfl, fun H a ns hl hb hH hS => ?_, fun base _ _ hTB => ?_⟩
  · simp only [List.mem_cons, List.not_mem_nil, or_false] at hp
    rcases hp with rfl
    · exact hT _ mT_l_ju_errors
  · simp only [List.mem_cons, List.not_mem_nil, or_false] at hp
    rcases hp with rfl
    · exact nT_l_ju_errors
  · simp only [List.mem_cons, List.not_mem_nil, or_false] at hp
    rcases hp with rfl
    · exact PySem.W.codeHd_of_K X th_l_ju_errors
  · refine ⟨a, ns, rfl, hS, hl, fun p hp => ?_, fun _ => rfl⟩
    simp only [List.mem_cons, List.not_mem_nil, or_false] at hp
    rcases hp with rfl
    · exact hH (cN_l_ju_errors, tabOf K cN_l_ju_errors) (by simp)
  have TB_l_ju_errors : LamX.TabB base mg cN_l_ju_errors (tabOf K cN_l_ju_errors) := hTB (cN_l_ju_errors, tabOf K cN_l_ju_errors) (by simp)
  have gE := PySem.W.mg_of X G e_g
  have gC_Jumps := PySem.W.mg_of X G cg_Jumps
  have T_Jumps : GCls K mg "Jumps" := ⟨by rw [er_of gC_Jumps]; exact ⟨cp_Jumps, ch_Jumps, co_Jumps, cs_Jumps⟩, by rw [er_of gC_Jumps]; exact gC_Jumps⟩
  have NA_Jumps__elders : NoAttr K (er mg "Jumps") "_elders" := by rw [er_of gC_Jumps]; exact cn_Jumps__elders
  have NA_Jumps__jumps : NoAttr K (er mg "Jumps") "_jumps" := by rw [er_of gC_Jumps]; exact cn_Jumps__jumps
  have NA_Jumps__depths : NoAttr K (er mg "Jumps") "_depths" := by rw [er_of gC_Jumps]; exact cn_Jumps__depths
  have IX_BadVersion : IsX K C_BadVersion := ⟨i_BadVersion, ga_BadVersion, gg_BadVersion, b_BadVersion, ca_BadVersion, x_cn, x_ct, cm_BadVersion⟩
  have EM_BadVersion : PySem.W.exmOne K (.ref C_BadVersion) (.ref CE) = some true := PySem.W.exm_ref e_b e_d e_t s_BadVersion
  have X_BadVersion : Ex0 K mg "BadVersion" := ex0_mk (PySem.W.mg_of X G g_BadVersion) gE k_BadVersion x_BadVersion y_BadVersion IX_BadVersion EM_BadVersion
  have IX_BadDepth : IsX K C_BadDepth := ⟨i_BadDepth, ga_BadDepth, gg_BadDepth, b_BadDepth, ca_BadDepth, x_cn, x_ct, cm_BadDepth⟩
  have EM_BadDepth : PySem.W.exmOne K (.ref C_BadDepth) (.ref CE) = some true := PySem.W.exm_ref e_b e_d e_t s_BadDepth
  have X_BadDepth : Ex0 K mg "BadDepth" := ex0_mk (PySem.W.mg_of X G g_BadDepth) gE k_BadDepth x_BadDepth y_BadDepth IX_BadDepth EM_BadDepth
  have IX_BadMarks : IsX K C_BadMarks := ⟨i_BadMarks, ga_BadMarks, gg_BadMarks, b_BadMarks, ca_BadMarks, x_cn, x_ct, cm_BadMarks⟩
  have EM_BadMarks : PySem.W.exmOne K (.ref C_BadMarks) (.ref CE) = some true := PySem.W.exm_ref e_b e_d e_t s_BadMarks
  have X_BadMarks : Ex0 K mg "BadMarks" := ex0_mk (PySem.W.mg_of X G g_BadMarks) gE k_BadMarks x_BadMarks y_BadMarks IX_BadMarks EM_BadMarks
  have IX_BadLeast : IsX K C_BadLeast := ⟨i_BadLeast, ga_BadLeast, gg_BadLeast, b_BadLeast, ca_BadLeast, x_cn, x_ct, cm_BadLeast⟩
  have EM_BadLeast : PySem.W.exmOne K (.ref C_BadLeast) (.ref CE) = some true := PySem.W.exm_ref e_b e_d e_t s_BadLeast
  have X_BadLeast : Ex0 K mg "BadLeast" := ex0_mk (PySem.W.mg_of X G g_BadLeast) gE k_BadLeast x_BadLeast y_BadLeast IX_BadLeast EM_BadLeast
  have hCt : CaughtF K mg := ⟨⟨_, _, _, _, _, _, _, _, _, _, PySem.W.mg_of X G a0, k0, l0, c0⟩, by rw [er_of gE]; exact gE⟩
  have F15 := fun_mk (st := s_l_begun) l15 c15 k15
  have P_l_begun : Pr l.prog w K mg base "_law_begun" 1 ["script"] (spBg K) := ⟨⟨_, _, ok_begun F15 T, PySem.W.mg_of X G a15, k15, F15.binds (ps := ["script"]) fun _ _ _ _ _ _ us hl => match us, hl with | [_], _ => rfl⟩⟩
  have F16 := fun_mk (st := s_l_blended) l16 c16 k16
  have P_l_blended : Pr l.prog w K mg base "_law_blended" 1 ["state"] (spT StW 1 SBl) := ⟨⟨_, _, ok_blended F16 T, PySem.W.mg_of X G a16, k16, F16.binds (ps := ["state"]) fun _ _ _ _ _ _ us hl => match us, hl with | [_], _ => rfl⟩⟩
  have F17 := fun_mk (st := s_l_draw) l17 c17 k17
  have P_l_draw : Pr l.prog w K mg base "_law_draw" 2 ["state", "size_here"] (spT StW 1 S_l_draw) := ⟨⟨_, _, ok_draw F17 T P_l_blended, PySem.W.mg_of X G a17, k17, F17.binds (ps := ["state", "size_here"]) fun _ _ _ _ _ _ us hl => match us, hl with | [_, _], _ => rfl⟩⟩
  have F18 := fun_mk (st := s_l_pick) l18 c18 k18
  have P_l_pick : Pr l.prog w K mg base "_law_pick" 3 ["state", "several"] (spT StW 1 S_l_pick) := ⟨⟨_, _, ok_l_pick (k := 2) F18 T (P_l_draw := P_l_draw.up (by decide)) , PySem.W.mg_of X G a18, k18, F18.binds (ps := ["state", "several"]) fun _ _ _ _ _ _ us hl => match us, hl with | [_, _], _ => rfl⟩⟩
  have F19 := fun_mk (st := s_l_ti_parents) l19 c19 k19
  have W_l_ti_parents : Pr l.prog w K mg base "_law_ti_parents" 3 ["state", "most"] (spT StW 200 W.S_l_ti_parents) := ⟨⟨_, _, W.ok_l_ti_parents (k := 2) F19 T (TMax := PySem.W.mg_none_of X G z0) (P_l_draw := P_l_draw.up (by decide)) , PySem.W.mg_of X G a19, k19, F19.binds (ps := ["state", "most"]) fun _ _ _ _ _ _ us hl => match us, hl with | [_, _], _ => rfl⟩⟩
  have F22 := fun_mk (st := s_l_ju_tree) l22 c22 k22
  have W_l_ju_tree : Pr l.prog w K mg base "_law_ju_tree" 4 ["state"] (spT StW 300 W.S_l_ju_tree) := ⟨⟨_, _, W.ok_l_ju_tree (k := 3) F22 T (P_l_pick := P_l_pick.up (by decide)) (P_l_draw := P_l_draw.up (by decide)) (P_l_ti_parents := W_l_ti_parents.up (by decide)) , PySem.W.mg_of X G a22, k22, F22.binds (ps := ["state"]) fun _ _ _ _ _ _ us hl => match us, hl with | [_], _ => rfl⟩⟩
  have F23 := fun_mk (st := s_l_ju_jumps) l23 c23 k23
  have W_l_ju_jumps : Pr l.prog w K mg base "_law_ju_jumps" 1 ["parents_here", "deep"] (spP CA 0 W.S_l_ju_jumps) := ⟨⟨_, _, W.ok_l_ju_jumps (k := 0) F23 T , PySem.W.mg_of X G a23, k23, F23.binds (ps := ["parents_here", "deep"]) fun _ _ _ _ _ _ us hl => match us, hl with | [_, _], _ => rfl⟩⟩
  have F25 := fun_mk (st := s_l_ju_marks) l25 c25 k25
  have W_l_ju_marks : Pr l.prog w K mg base "_law_ju_marks" 4 ["state", "parents_here"] (spT StW 1100 W.S_l_ju_marks) := ⟨⟨_, _, W.ok_l_ju_marks (k := 3) F25 T (P_l_draw := P_l_draw.up (by decide)) (P_l_pick := P_l_pick.up (by decide)) , PySem.W.mg_of X G a25, k25, F25.binds (ps := ["state", "parents_here"]) fun _ _ _ _ _ _ us hl => match us, hl with | [_, _], _ => rfl⟩⟩
  have F6 := fun_mk (st := s_Jumps___init__) l6 c6 k6
  have MI_Jumps : W.MkO l.prog w K mg base "Jumps" 1 ["self"] (W.spJI (er mg "Jumps")) := ⟨⟨_, _, W.ok_Jumps___init__ F6 T (T_Jumps := T_Jumps) (NA_Jumps__elders := NA_Jumps__elders) (NA_Jumps__jumps := NA_Jumps__jumps) (NA_Jumps__depths := NA_Jumps__depths) , by rw [er_of gC_Jumps]; exact ⟨cm_Jumps, a6, i6, ck_Jumps⟩, F6.binds (ps := ["self"]) fun _ _ _ _ _ _ us hl => match us, hl with | [_], _ => rfl⟩⟩
  have F1 := fun_mk (st := s_is_number) l1 c1 k1
  have P_is_number : Pr l.prog w K mg base "is_number" 1 ["value"] (spP CA 0 S_is_number) := ⟨⟨_, _, ok_is_number (k := 0) F1 T (TC_TOO_GREAT := TC_TOO_GREAT) , PySem.W.mg_of X G a1, k1, F1.binds (ps := ["value"]) fun _ _ _ _ _ _ us hl => match us, hl with | [_], _ => rfl⟩⟩
  have F3 := fun_mk (st := s_is_between) l3 c3 k3
  have W_is_between : Pr l.prog w K mg base "is_between" 2 ["value", "least", "most"] (spP CA 0 W.S_is_between) := ⟨⟨_, _, W.ok_is_between (k := 1) F3 T (P_is_number := P_is_number.up (by decide)) , PySem.W.mg_of X G a3, k3, F3.binds (ps := ["value", "least", "most"]) fun _ _ _ _ _ _ us hl => match us, hl with | [_, _, _], _ => rfl⟩⟩
  have F5 := fun_mk (st := s_check_version) l5 c5 k5
  have W_check_version : PrX l.prog w K mg base "check_version" 3 ["parents", "version"] (spX CA 0 (W.S_check_version mg)) := ⟨⟨_, _, W.ok_check_version (k := 2) F5 T (X_BadVersion := X_BadVersion) (P_is_between := W_is_between.up (by decide)) , PySem.W.mg_of X G a5, k5, F5.binds (ps := ["parents", "version"]) fun _ _ _ _ _ _ us hl => match us, hl with | [_, _], _ => rfl, kb_mk F5 (by decide) fun _ _ _ _ _ _ us hl => match us, hl with | [_, _], _ => rfl⟩⟩
  have F7 := fun_mk (st := s_Jumps__check) l7 c7 k7
  have MT_Jumps__check : MtX l.prog w K mg base (er mg "Jumps") "_check" 4 ["self", "version"] (spX CA 0 (W.S_Jumps__check mg)) := ⟨⟨_, _, W.ok_Jumps__check (k := 3) F7 T (T_Jumps := T_Jumps) (NA_Jumps__elders := NA_Jumps__elders) (P_check_version := W_check_version.up (by decide)) , by rw [er_of gC_Jumps]; exact ⟨a7, i7, k7⟩, F7.binds (ps := ["self", "version"]) fun _ _ _ _ _ _ us hl => match us, hl with | [_, _], _ => rfl⟩⟩
  have F12 := fun_mk (st := s_Jumps_up) l12 c12 k12
  have MT_Jumps_up : MtX l.prog w K mg base (er mg "Jumps") "up" 5 ["self", "version", "depth"] (spX CA 0 (W.S_Jumps_up mg)) := ⟨⟨_, _, W.ok_Jumps_up (k := 4) F12 T (X_BadDepth := X_BadDepth) (T_Jumps := T_Jumps) (NA_Jumps__depths := NA_Jumps__depths) (NA_Jumps__jumps := NA_Jumps__jumps) (NA_Jumps__elders := NA_Jumps__elders) (MT_Jumps__check := MT_Jumps__check.up (by decide)) (P_is_between := W_is_between.up (by decide)) , by rw [er_of gC_Jumps]; exact ⟨a12, i12, k12⟩, F12.binds (ps := ["self", "version", "depth"]) fun _ _ _ _ _ _ us hl => match us, hl with | [_, _, _], _ => rfl⟩⟩
  have MK_Jumps_up_0 : MtXM l.prog w K mg base (er mg "Jumps") "up" 5 ["self", "version", "depth"] ["depth", "version"] [1, 0] (spX CA 0 (W.S_Jumps_up mg)) := ⟨⟨_, _, W.ok_Jumps_up (k := 4) F12 T (X_BadDepth := X_BadDepth) (T_Jumps := T_Jumps) (NA_Jumps__depths := NA_Jumps__depths) (NA_Jumps__jumps := NA_Jumps__jumps) (NA_Jumps__elders := NA_Jumps__elders) (MT_Jumps__check := MT_Jumps__check.up (by decide)) (P_is_between := W_is_between.up (by decide)) , by rw [er_of gC_Jumps]; exact ⟨a12, i12, k12⟩, kbM_mk F12 (by decide) fun _ _ _ _ _ _ us ws hu hl => match us, ws, hu, hl with | [_], [], _, hl => absurd hl (by simp [gM]) | [_], [_], _, hl => absurd hl (by simp [gM]) | [_], _ :: _ :: _, _, _ => rfl⟩⟩
  have F20 := fun_mk (st := s_l_ti_up) l20 c20 k20
  have W_l_ti_up : Pr l.prog w K mg base "_law_ti_up" 1 ["parents_here", "version"] (spP CA 0 W.S_l_ti_up) := ⟨⟨_, _, W.ok_l_ti_up (k := 0) F20 T , PySem.W.mg_of X G a20, k20, F20.binds (ps := ["parents_here", "version"]) fun _ _ _ _ _ _ us hl => match us, hl with | [_, _], _ => rfl⟩⟩
  have F21 := fun_mk (st := s_l_ti_odd_version) l21 c21 k21
  have W_l_ti_odd_version : Pr l.prog w K mg base "_law_ti_odd_version" 4 ["state", "many"] (spT StW 1 W.S_l_ti_odd_version) := ⟨⟨_, _, W.ok_l_ti_odd_version (k := 3) F21 T (P_l_pick := P_l_pick.up (by decide)) , PySem.W.mg_of X G a21, k21, F21.binds (ps := ["state", "many"]) fun _ _ _ _ _ _ us hl => match us, hl with | [_, _], _ => rfl⟩⟩
  have F9 := fun_mk (st := s_Jumps_many) l9 c9 k9
  have MT_Jumps_many : MtP l.prog w K mg base (er mg "Jumps") "many" 1 ["self"] (spP CA 0 (W.S_Jumps_many mg)) := ⟨⟨_, _, W.ok_Jumps_many (k := 0) F9 T (T_Jumps := T_Jumps) (NA_Jumps__elders := NA_Jumps__elders) , by rw [er_of gC_Jumps]; exact ⟨a9, i9, k9⟩, F9.binds (ps := ["self"]) fun _ _ _ _ _ _ us hl => match us, hl with | [_], _ => rfl⟩⟩
  have F4 := fun_mk (st := s_is_list) l4 c4 k4
  have W_is_list : Pr l.prog w K mg base "is_list" 1 ["value"] (spP CA 0 W.S_is_list) := ⟨⟨_, _, W.ok_is_list (k := 0) F4 T , PySem.W.mg_of X G a4, k4, F4.binds (ps := ["value"]) fun _ _ _ _ _ _ us hl => match us, hl with | [_], _ => rfl⟩⟩
  have F2 := fun_mk (st := s_is_from) l2 c2 k2
  have W_is_from : Pr l.prog w K mg base "is_from" 2 ["value", "least"] (spP CA 0 W.S_is_from) := ⟨⟨_, _, W.ok_is_from (k := 1) F2 T (P_is_number := P_is_number.up (by decide)) , PySem.W.mg_of X G a2, k2, F2.binds (ps := ["value", "least"]) fun _ _ _ _ _ _ us hl => match us, hl with | [_, _], _ => rfl⟩⟩
  have F14 := fun_mk (st := s_Jumps__are_marks) l14 c14 k14
  have MT_Jumps__are_marks : MtP l.prog w K mg base (er mg "Jumps") "_are_marks" 3 ["self", "marks"] (spP CA 0 (W.S_Jumps__are_marks mg)) := ⟨⟨_, _, W.ok_Jumps__are_marks (k := 2) F14 T (T_Jumps := T_Jumps) (NA_Jumps__elders := NA_Jumps__elders) (P_is_list := W_is_list.up (by decide)) (P_is_from := W_is_from.up (by decide)) , by rw [er_of gC_Jumps]; exact ⟨a14, i14, k14⟩, F14.binds (ps := ["self", "marks"]) fun _ _ _ _ _ _ us hl => match us, hl with | [_, _], _ => rfl⟩⟩
  have F13 := fun_mk (st := s_Jumps_first_with) l13 c13 k13
  have MT_Jumps_first_with : MtX l.prog w K mg base (er mg "Jumps") "first_with" 5 ["self", "version", "marks", "least"] (spX CA 0 (W.S_Jumps_first_with mg)) := ⟨⟨_, _, W.ok_Jumps_first_with (k := 4) F13 T (X_BadMarks := X_BadMarks) (X_BadLeast := X_BadLeast) (T_Jumps := T_Jumps) (NA_Jumps__jumps := NA_Jumps__jumps) (NA_Jumps__elders := NA_Jumps__elders) (MT_Jumps__check := MT_Jumps__check.up (by decide)) (MT_Jumps__are_marks := MT_Jumps__are_marks.up (by decide)) (P_is_from := W_is_from.up (by decide)) , by rw [er_of gC_Jumps]; exact ⟨a13, i13, k13⟩, F13.binds (ps := ["self", "version", "marks", "least"]) fun _ _ _ _ _ _ us hl => match us, hl with | [_, _, _, _], _ => rfl⟩⟩
  have MK_Jumps_first_with_0 : MtXM l.prog w K mg base (er mg "Jumps") "first_with" 5 ["self", "version", "marks", "least"] ["least", "marks", "version"] [2, 1, 0] (spX CA 0 (W.S_Jumps_first_with mg)) := ⟨⟨_, _, W.ok_Jumps_first_with (k := 4) F13 T (X_BadMarks := X_BadMarks) (X_BadLeast := X_BadLeast) (T_Jumps := T_Jumps) (NA_Jumps__jumps := NA_Jumps__jumps) (NA_Jumps__elders := NA_Jumps__elders) (MT_Jumps__check := MT_Jumps__check.up (by decide)) (MT_Jumps__are_marks := MT_Jumps__are_marks.up (by decide)) (P_is_from := W_is_from.up (by decide)) , by rw [er_of gC_Jumps]; exact ⟨a13, i13, k13⟩, kbM_mk F13 (by decide) fun _ _ _ _ _ _ us ws hu hl => match us, ws, hu, hl with | [_], [], _, hl => absurd hl (by simp [gM]) | [_], [_], _, hl => absurd hl (by simp [gM]) | [_], [_, _], _, hl => absurd hl (by simp [gM]) | [_], _ :: _ :: _ :: _, _, _ => rfl⟩⟩
  have F11 := fun_mk (st := s_Jumps_jump) l11 c11 k11
  have MT_Jumps_jump : MtX l.prog w K mg base (er mg "Jumps") "jump" 5 ["self", "version"] (spX CA 0 (W.S_Jumps_jump mg)) := ⟨⟨_, _, W.ok_Jumps_jump (k := 4) F11 T (T_Jumps := T_Jumps) (NA_Jumps__jumps := NA_Jumps__jumps) (MT_Jumps__check := MT_Jumps__check.up (by decide)) , by rw [er_of gC_Jumps]; exact ⟨a11, i11, k11⟩, F11.binds (ps := ["self", "version"]) fun _ _ _ _ _ _ us hl => match us, hl with | [_, _], _ => rfl⟩⟩
  have MK_Jumps_jump_0 : MtXM l.prog w K mg base (er mg "Jumps") "jump" 5 ["self", "version"] ["version"] [0] (spX CA 0 (W.S_Jumps_jump mg)) := ⟨⟨_, _, W.ok_Jumps_jump (k := 4) F11 T (T_Jumps := T_Jumps) (NA_Jumps__jumps := NA_Jumps__jumps) (MT_Jumps__check := MT_Jumps__check.up (by decide)) , by rw [er_of gC_Jumps]; exact ⟨a11, i11, k11⟩, kbM_mk F11 (by decide) fun _ _ _ _ _ _ us ws hu hl => match us, ws, hu, hl with | [_], [], _, hl => absurd hl (by simp [gM]) | [_], _ :: _, _, _ => rfl⟩⟩
  have F8 := fun_mk (st := s_Jumps_grow) l8 c8 k8
  have MT_Jumps_grow : MtX l.prog w K mg base (er mg "Jumps") "grow" 5 ["self", "parent"] (spX CA 0 (W.S_Jumps_grow mg)) := ⟨⟨_, _, W.ok_Jumps_growX (k := 4) F8 T (T_Jumps := T_Jumps) (NA_Jumps__elders := NA_Jumps__elders) (NA_Jumps__jumps := NA_Jumps__jumps) (NA_Jumps__depths := NA_Jumps__depths) (MT_Jumps__check := MT_Jumps__check.up (by decide)) , by rw [er_of gC_Jumps]; exact ⟨a8, i8, k8⟩, F8.binds (ps := ["self", "parent"]) fun _ _ _ _ _ _ us hl => match us, hl with | [_, _], _ => rfl⟩⟩
  have MG_Jumps_grow : MtXM l.prog w K mg base (er mg "Jumps") "grow" 5 ["self", "parent"] ["parent"] [0] (W.spJG (er mg "Jumps")) := ⟨⟨_, _, W.ok_Jumps_grow (k := 4) F8 T (T_Jumps := T_Jumps) (NA_Jumps__elders := NA_Jumps__elders) (NA_Jumps__jumps := NA_Jumps__jumps) (NA_Jumps__depths := NA_Jumps__depths) (MT_Jumps__check := MT_Jumps__check.up (by decide)) , by rw [er_of gC_Jumps]; exact ⟨a8, i8, k8⟩, kbM_mk F8 (by decide) fun _ _ _ _ _ _ us ws hu hl => match us, ws, hu, hl with | [_], [], _, hl => absurd hl (by simp [gM]) | [_], _ :: _, _, _ => rfl⟩⟩
  have F26 := fun_mk (st := s_l_ju_errors) l26 c26 k26
  have W_l_ju_errors : Pr l.prog w K mg base "_law_ju_errors" 8 ["state", "jumps", "marks_here"] (spT (StWT (W.TtOf (tabOf K cN_l_ju_errors))) 5 (W.S_l_ju_errors mg)) := ⟨⟨_, _, W.ok_l_ju_errors (k := 5) (lk := l26) (hcd := c26) (T := T) (hCt := hCt) (TB := TB_l_ju_errors) (hPT := by simp [W.TtOf, envOfC]) (hPu := by intro p hp e; simp only [W.TtOf, List.mem_cons, List.not_mem_nil, or_false] at hp; rcases hp with rfl; rfl) (X_BadLeast := X_BadLeast) (X_BadVersion := X_BadVersion) (X_BadDepth := X_BadDepth) (X_BadMarks := X_BadMarks) (T_Jumps := T_Jumps) (MT_Jumps_many := MT_Jumps_many.up (by decide)) (MT_Jumps_first_with := MT_Jumps_first_with.up (by decide)) (MT_Jumps_jump := MT_Jumps_jump.up (by decide)) (MT_Jumps_up := MT_Jumps_up.up (by decide)) (MT_Jumps_grow := MT_Jumps_grow.up (by decide)) (P_l_pick := P_l_pick.up (by decide)) (P_l_ti_odd_version := W_l_ti_odd_version.up (by decide)) , PySem.W.mg_of X G a26, k26, F26.binds (ps := ["state", "jumps", "marks_here"]) fun _ _ _ _ _ _ us hl => match us, hl with | [_, _, _], _ => rfl⟩⟩
  have F10 := fun_mk (st := s_Jumps_parents) l10 c10 k10
  have MT_Jumps_parents : MtP l.prog w K mg base (er mg "Jumps") "parents" 1 ["self"] (spP CA 0 (W.S_Jumps_parents mg)) := ⟨⟨_, _, W.ok_Jumps_parents (k := 0) F10 T (T_Jumps := T_Jumps) (NA_Jumps__elders := NA_Jumps__elders) , by rw [er_of gC_Jumps]; exact ⟨a10, i10, k10⟩, F10.binds (ps := ["self"]) fun _ _ _ _ _ _ us hl => match us, hl with | [_], _ => rfl⟩⟩
  have F24 := fun_mk (st := s_l_ju_steps) l24 c24 k24
  have W_l_ju_steps : Pr l.prog w K mg base "_law_ju_steps" 1 ["parents_here", "jumps_here", "deep", "version", "depth"] (spP CA 0 W.S_l_ju_steps) := ⟨⟨_, _, W.ok_l_ju_steps (k := 0) F24 T , PySem.W.mg_of X G a24, k24, F24.binds (ps := ["parents_here", "jumps_here", "deep", "version", "depth"]) fun _ _ _ _ _ _ us hl => match us, hl with | [_, _, _, _, _], _ => rfl⟩⟩
  exact W.ok_law (k := 8) (lk := l27) (hcd := c27) (T := T) (hCt := hCt) (T_Jumps := T_Jumps) (MT_Jumps_up := MT_Jumps_up.up (by decide)) (MT_Jumps_many := MT_Jumps_many.up (by decide)) (MT_Jumps_jump := MT_Jumps_jump.up (by decide)) (MT_Jumps_grow := MT_Jumps_grow.up (by decide)) (MT_Jumps_parents := MT_Jumps_parents.up (by decide)) (MT_Jumps_first_with := MT_Jumps_first_with.up (by decide)) (MI_Jumps := MkO.up MI_Jumps (by decide)) (MG_Jumps_grow := MG_Jumps_grow.up (by decide)) (MK_Jumps_first_with_0 := MK_Jumps_first_with_0.up (by decide)) (MK_Jumps_up_0 := MK_Jumps_up_0.up (by decide)) (MK_Jumps_jump_0 := MK_Jumps_jump_0.up (by decide)) (P_l_begun := P_l_begun.up (by decide)) (P_l_ju_tree := W_l_ju_tree.up (by decide)) (P_l_ju_jumps := W_l_ju_jumps.up (by decide)) (P_l_ju_marks := W_l_ju_marks.up (by decide)) (P_l_pick := P_l_pick.up (by decide)) (P_l_draw := P_l_draw.up (by decide)) (P_l_ti_up := W_l_ti_up.up (by decide)) (P_l_ju_errors := W_l_ju_errors.up (by decide)) (P_l_ju_steps := W_l_ju_steps.up (by decide)) 
end Law
open PySem PySem.W PyProof.Rows
set_option maxRecDepth 100000 in
set_option maxHeartbeats 0 in
theorem PySem.Challenge.cw_asifcopied_k63_whole_jumps_are_short_holds : PySem.Challenge.rw_asifcopied_k63_whole_jumps_are_short.Holds := by
  w_on; o_law; k_head; (case hw => w_witness2)
  k_fill
  refine LamX.walk_ofTs (l := PySem.Challenge.rw_asifcopied_k63_whole_jumps_are_short) (n := 63) (k := 11) (x := "script") (CX := fun _ => L2.CX0) rfl (by decide) rfl ⟨rfl, by decide, by decide⟩ (fun w h Y => PySem.W.km_in_of Y) ?F (fun _ _ _ _ _ z => z)
  case F =>
    intro w mg fa h Y KX G hmg
    have hT8 := PySem.W.km_tabs_of Y
    refine' Law.all_mk KX G hmg hT8 ?cg_Jumps ?cp_Jumps ?ch_Jumps ?co_Jumps ?cs_Jumps ?cm_Jumps ?ck_Jumps ?cn_Jumps__elders ?cn_Jumps__jumps ?cn_Jumps__depths ?a0 ?l0 ?c0 ?k0 ?a1 ?l1 ?c1 ?k1 ?a2 ?l2 ?c2 ?k2 ?a3 ?l3 ?c3 ?k3 ?a4 ?l4 ?c4 ?k4 ?a5 ?l5 ?c5 ?k5 ?a6 ?i6 ?l6 ?c6 ?k6 ?a7 ?i7 ?l7 ?c7 ?k7 ?a8 ?i8 ?l8 ?c8 ?k8 ?a9 ?i9 ?l9 ?c9 ?k9 ?a10 ?i10 ?l10 ?c10 ?k10 ?a11 ?i11 ?l11 ?c11 ?k11 ?a12 ?i12 ?l12 ?c12 ?k12 ?a13 ?i13 ?l13 ?c13 ?k13 ?a14 ?i14 ?l14 ?c14 ?k14 ?a15 ?l15 ?c15 ?k15 ?a16 ?l16 ?c16 ?k16 ?a17 ?l17 ?c17 ?k17 ?a18 ?l18 ?c18 ?k18 ?a19 ?l19 ?c19 ?k19 ?a20 ?l20 ?c20 ?k20 ?a21 ?l21 ?c21 ?k21 ?a22 ?l22 ?c22 ?k22 ?a23 ?l23 ?c23 ?k23 ?a24 ?l24 ?c24 ?k24 ?a25 ?l25 ?c25 ?k25 ?a26 ?l26 ?c26 ?k26 ?a27 ?l27 ?c27 ?k27 ?z0 ?z1 ?z2 ?z3 ?z4 ?z5 ?z6 ?z7 ?z8 ?z9 ?z10 ?z11 ?z12 ?z13 ?z14 ?z15 ?t_TOO_GREAT ?e_g ?e_b ?e_d ?e_t ?x_cn ?x_ct ?g_BadVersion ?k_BadVersion ?y_BadVersion ?b_BadVersion ?s_BadVersion ?i_BadVersion ?ga_BadVersion ?gg_BadVersion ?ca_BadVersion ?cm_BadVersion ?x_BadVersion ?g_BadDepth ?k_BadDepth ?y_BadDepth ?b_BadDepth ?s_BadDepth ?i_BadDepth ?ga_BadDepth ?gg_BadDepth ?ca_BadDepth ?cm_BadDepth ?x_BadDepth ?g_BadMarks ?k_BadMarks ?y_BadMarks ?b_BadMarks ?s_BadMarks ?i_BadMarks ?ga_BadMarks ?gg_BadMarks ?ca_BadMarks ?cm_BadMarks ?x_BadMarks ?g_BadLeast ?k_BadLeast ?y_BadLeast ?b_BadLeast ?s_BadLeast ?i_BadLeast ?ga_BadLeast ?gg_BadLeast ?ca_BadLeast ?cm_BadLeast ?x_BadLeast ?th_l_ju_errors ?tm_l_ju_errors ?tn_l_ju_errors
    (case cg_Jumps => k_is)
    (case cp_Jumps => k_is)
    (case ch_Jumps => k_is)
    (case co_Jumps => k_is)
    (case cs_Jumps => k_is)
    (case cm_Jumps => k_is)
    (case ck_Jumps => k_is)
    (case cn_Jumps__elders => k_is)
    (case cn_Jumps__jumps => k_is)
    (case cn_Jumps__depths => k_is)
    (case a0 => k_is)
    (case l0 => k_is)
    (case c0 => k_is)
    (case k0 => k_is)
    (case a1 => k_is)
    (case l1 => k_is)
    (case c1 => k_is)
    (case k1 => k_is)
    (case a2 => k_is)
    (case l2 => k_is)
    (case c2 => k_is)
    (case k2 => k_is)
    (case a3 => k_is)
    (case l3 => k_is)
    (case c3 => k_is)
    (case k3 => k_is)
    (case a4 => k_is)
    (case l4 => k_is)
    (case c4 => k_is)
    (case k4 => k_is)
    (case a5 => k_is)
    (case l5 => k_is)
    (case c5 => k_is)
    (case k5 => k_is)
    (case a6 => k_is)
    (case i6 => k_is)
    (case l6 => k_is)
    (case c6 => k_is)
    (case k6 => k_is)
    (case a7 => k_is)
    (case i7 => k_is)
    (case l7 => k_is)
    (case c7 => k_is)
    (case k7 => k_is)
    (case a8 => k_is)
    (case i8 => k_is)
    (case l8 => k_is)
    (case c8 => k_is)
    (case k8 => k_is)
    (case a9 => k_is)
    (case i9 => k_is)
    (case l9 => k_is)
    (case c9 => k_is)
    (case k9 => k_is)
    (case a10 => k_is)
    (case i10 => k_is)
    (case l10 => k_is)
    (case c10 => k_is)
    (case k10 => k_is)
    (case a11 => k_is)
    (case i11 => k_is)
    (case l11 => k_is)
    (case c11 => k_is)
    (case k11 => k_is)
    (case a12 => k_is)
    (case i12 => k_is)
    (case l12 => k_is)
    (case c12 => k_is)
    (case k12 => k_is)
    (case a13 => k_is)
    (case i13 => k_is)
    (case l13 => k_is)
    (case c13 => k_is)
    (case k13 => k_is)
    (case a14 => k_is)
    (case i14 => k_is)
    (case l14 => k_is)
    (case c14 => k_is)
    (case k14 => k_is)
    (case a15 => k_is)
    (case l15 => k_is)
    (case c15 => k_is)
    (case k15 => k_is)
    (case a16 => k_is)
    (case l16 => k_is)
    (case c16 => k_is)
    (case k16 => k_is)
    (case a17 => k_is)
    (case l17 => k_is)
    (case c17 => k_is)
    (case k17 => k_is)
    (case a18 => k_is)
    (case l18 => k_is)
    (case c18 => k_is)
    (case k18 => k_is)
    (case a19 => k_is)
    (case l19 => k_is)
    (case c19 => k_is)
    (case k19 => k_is)
    (case a20 => k_is)
    (case l20 => k_is)
    (case c20 => k_is)
    (case k20 => k_is)
    (case a21 => k_is)
    (case l21 => k_is)
    (case c21 => k_is)
    (case k21 => k_is)
    (case a22 => k_is)
    (case l22 => k_is)
    (case c22 => k_is)
    (case k22 => k_is)
    (case a23 => k_is)
    (case l23 => k_is)
    (case c23 => k_is)
    (case k23 => k_is)
    (case a24 => k_is)
    (case l24 => k_is)
    (case c24 => k_is)
    (case k24 => k_is)
    (case a25 => k_is)
    (case l25 => k_is)
    (case c25 => k_is)
    (case k25 => k_is)
    (case a26 => k_is)
    (case l26 => k_is)
    (case c26 => k_is)
    (case k26 => k_is)
    (case a27 => k_is)
    (case l27 => k_is)
    (case c27 => k_is)
    (case k27 => k_is)
    (case z0 => k_is)
    (case z1 => k_is)
    (case z2 => k_is)
    (case z3 => k_is)
    (case z4 => k_is)
    (case z5 => k_is)
    (case z6 => k_is)
    (case z7 => k_is)
    (case z8 => k_is)
    (case z9 => k_is)
    (case z10 => k_is)
    (case z11 => k_is)
    (case z12 => k_is)
    (case z13 => k_is)
    (case z14 => k_is)
    (case z15 => k_is)
    (case t_TOO_GREAT => k_is)
    (case e_g => k_is)
    (case e_b => k_is)
    (case e_d => k_is)
    (case e_t => k_is)
    (case x_cn => k_is)
    (case x_ct => k_is)
    (case g_BadVersion => k_is)
    (case k_BadVersion => k_is)
    (case y_BadVersion => k_is)
    (case b_BadVersion => k_is)
    (case s_BadVersion => k_is)
    (case i_BadVersion => k_is)
    (case ga_BadVersion => k_is)
    (case gg_BadVersion => k_is)
    (case ca_BadVersion => k_is)
    (case cm_BadVersion => k_is)
    (case x_BadVersion => k_exc)
    (case g_BadDepth => k_is)
    (case k_BadDepth => k_is)
    (case y_BadDepth => k_is)
    (case b_BadDepth => k_is)
    (case s_BadDepth => k_is)
    (case i_BadDepth => k_is)
    (case ga_BadDepth => k_is)
    (case gg_BadDepth => k_is)
    (case ca_BadDepth => k_is)
    (case cm_BadDepth => k_is)
    (case x_BadDepth => k_exc)
    (case g_BadMarks => k_is)
    (case k_BadMarks => k_is)
    (case y_BadMarks => k_is)
    (case b_BadMarks => k_is)
    (case s_BadMarks => k_is)
    (case i_BadMarks => k_is)
    (case ga_BadMarks => k_is)
    (case gg_BadMarks => k_is)
    (case ca_BadMarks => k_is)
    (case cm_BadMarks => k_is)
    (case x_BadMarks => k_exc)
    (case g_BadLeast => k_is)
    (case k_BadLeast => k_is)
    (case y_BadLeast => k_is)
    (case b_BadLeast => k_is)
    (case s_BadLeast => k_is)
    (case i_BadLeast => k_is)
    (case ga_BadLeast => k_is)
    (case gg_BadLeast => k_is)
    (case ca_BadLeast => k_is)
    (case cm_BadLeast => k_is)
    (case x_BadLeast => k_exc)
    (case th_l_ju_errors => kernel_rfl)
    (case tm_l_ju_errors => kernel_rfl)
    (case tn_l_ju_errors => kernel_rfl)
#print axioms PySem.Challenge.cw_asifcopied_k63_whole_jumps_are_short_holds
